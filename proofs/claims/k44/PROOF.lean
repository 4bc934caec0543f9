import PyProof.Rows.All
import Wide.All
import OpenK.AllK
import Wide.FinOn
import Lean
import PyProof.EqAt
import PyProof.EqKinds
import PyProof.TupleCall
import PySem.Challenge.RW_redquill_k44_joined
set_option Elab.async false
set_option linter.all false
set_option maxRecDepth 100000
set_option maxHeartbeats 4000000
set_option compiler.extract_closed false
set_option compiler.reuse false
set_option bootstrap.genMatcherCode false
open PySem renaming wpAny_bind->MB,Value->MC,Shared->MD,Addr->MF,wpAny_pure->MG,wpAny->MJ,model->MK,sizeLine->MN,starEach->MP,Program->MR,Around->MS,mainGlobals->MT,Heap->MY,wpAny_callSpecial?_slot->M0,wpAny_field->M3,World->M4,Expr->M7,wpAny_call_entry->M8,wpAny_holding->Na,Stmt->Nd,wpAny_mono->Nf,wpAny_newObj_type->Nh,compareOp->Nq,wpAny_setField->Nw,wpAny_attempt->Nx,cLine->NA,tupleKind_room_in1->NB,wpAny_passesOwn->NF,sysModules->NG,sizeLine_eq->NK,FuncData->NL,backTo->NM,behindInMarks->NN,foldedSetIterable->NO,wpAny_setField_rec->NR,tupleKind->NS,pyNext->NT,wpAny_seqItems->NW,wpAny_rule->NZ,assignEach->N0,codeAny->N4,attributeBase->N6,swapsWith->N7,wpAny_Call_Name_kw->N9,binaryOp->Oa,rawInt->Ob,wpAny_truthy_bool->Od,codeAny_mono->Og,bootBuiltins->Oh,wpAny_typeNameOfWhole_valiter->Op,wpAny_typeNameOfWhole_keyiter->Oq,sliceBounds->Os,keywordEach->Ot,wpAny_execs_nil->Ox,wpAny_dictEntries->Oz,wpAny_typeNameOf_valiter->OG,wpAny_typeNameOf_keyiter->OH,wpAny_standAt->OI,wpAny_dictEpoch->OL,wpAny_letGo->OO,Scope->OU,wpAny_call->OY,backToKw->O3,atKey->O4,letOwnedTupleGo->O5,codeAny_builtin->O6,standAt->O9,getMethod->Pd,slot_listiter_next->Pe,pyIter->Pf,field->Pg,NameKind->Pi,wpAny_pyIter_list->Pk,wpAny_loadPart_at->Pl,strIterType->Pm,wpAny_onRaise->Pq,plainId_quiet->Pr,Paired->Pu,getAttr?->Pw,wpAny_pyNext_list_item->Px,typeLookup->Py,isInstance->PB,getItem->PF,Result->PK,CmpOp->PP,wpAny_notOrdered_dict->PQ,wpAny_isOneOf_valiter->PR,wpAny_updateSeq_pair->PU,wpAny_fieldsOf->PV,unbindBehindTheSuite->PX,firstArgMember->P0,codeAny_call_builtin->P5,IsRangeIter->P7,IsPair->P8,storedH->P9,callerA->Qc,PassesOwn->Qd,Keyword->Qe,sub_AttributeError->Qg,IsPart->Qm,wpAny_typeOf->Qn,wpAny_pyIter_slot->Qo,valueAt->Qp,call_meetsIn->Qs,callWith->Qt,plainObj_wpAny_Assign_Attribute->Qz,wpAny_isInstance->QC,wpAny_execs_cons->QD,subscripted->QI,relabel->QO,BindsTo->QQ,wpAny_loadPart->QR,wpAny_load->QS,setField->QT,isSubtype_stop->QW,wpAny_comprehension_free->Q5,setFlight->Q7,meetsH_dict_get_default->Q9,bindL->Ra,bindC->Rb,Draws->Rf,isTrue->Rj,getAttr->Rk,concat_meets->Rl,wpAny_pyIter_listiter->Rm,wpAny_isTrue_Compare1->Rn,wpAny_isOneOf_keyiter->Ro,wpAny_throw->Rq,seqIndex_of->Rs,excClassObj->Rv,SetTable->Ry,Model->Rz,wpAny_isSubtype_exc->RF,entry_listiter_next->RI,codeAny_forLoop_any->RJ,wpAny_setItem_heap->RN,wpAny_getItem_heap->RP,wpAny_dictSet_heap->RT,wpAny_Name->RU,typeIs_str->RV,sliceRange->RW,getattributeRaised->RY,closureFor->R0,call_meets->R4,builtinsNs->R5,args_listiter_next->R6,wpAny_pyIter_enum->R_,wpAny_assign_Name->Sa,setItem->Sb,setAttr->Sc,leaving->Sd,ItemsOf->Sf
open PySem.Heap renaming get?_push_of_some->ME,lt_size->ML,get?_push_size->MM,get?_update_other->MV,get?_update_self->Nk,size_push->NE,ExtBut->Oi,SameBut->Ov,get?_push_ne->Qv,get?_update_ne->RK
open List renaming length_map->MH,getElem?_eq_getElem->MO,mem_cons_of_mem->MQ,length_cons->MU,mem_cons_self->MW,getD_eq_getElem?_getD->MX,getElem?_map->MZ,size_toArray->M1,map_cons->M5,mem_of_getElem?->M_,mem_append_left->Nc,append_nil->Ng,find?_cons->Nj,mem_append_right->Nl,set_cons_zero->Nn,map_append->No,length_nil->Np,map_map->Nr,length_append->Nt,take_length->Nu,set_cons_succ->Ny,take_add_one->Nz,mem_cons->NC,getElem?_cons_succ->ND,length_take->NI,filterMap_cons->NJ,not_mem_nil->NP,getElem?_cons_zero->NU,filter_append->NV,getElem?_set_self->NY,length_filter_le->N8,getElem?_set_ne->Oc,lookup_cons->Of,nodup_cons->Oj,foldl_cons->Ol,map_congr_left->Om,cons_append->OC,getElem?_eq_none->OD,mem_of_mem_take->OM,nil_append->ON,getElem_mem->OQ,flatMap_append->OS,length_drop->O1,getElem_map->O2,pairwise_map->O_,flatMap_cons->Pa,map_nil->Pn,mem_singleton->Pt,filter_nil->PH,flatMap_nil->PZ,drop_length->P3,countP_cons->P4,any_cons->P6,drop_zero->Qb,of_mem_zip->Qh,mem_append->Qi,length_zip->Qj,forIn_cons->Qk,map_take->Qq,nodup_nil->QF,map_drop->QV,set_set->Ri,mem_filter->RX
open PySem.Str renaming ofString->MI,length->PJ
open Nat renaming ne_of_lt->M6,lt_of_lt_of_le->M9,zero_le->NH,lt_succ_self->Oe,ne_of_gt->OB,lt_or_ge->OJ,le_of_eq->PY,le_succ->P_
open PySem.Obj renaming mapFields->Nb,data_mapFields->Nv,isFreed_of_fields->NQ,mapSeq->N3,cls_mapFields->OV
open PySem.PassesOwn renaming never->Ni
open PySem.Builtin.Str renaming strSliceIndices->N5
open PySem.W renaming mg_none_of->N_,kas_rev->OA,kas_tail3->OP,kas_desc->OR,emptyDict->OZ,callWith_K->Ph,Frag->Pj,methodCall_KW->Ps,kas_descPart->Pz,instObj->PD,kas_place->Qa,findIn->Ql,looks_findIn->Qr,specialIn->QE,keepIn->QG,plainGet_of->QJ,Looks->QM,kas_bin->QP,plainGet->QU,methodObj->Q8,kas_count->Q_,looks_mroIn->Rt,kas_sort->Ru,codeIn->RZ,check_slot->R1,KasT->R8,findObj->Se,kitOne->ST,nsIn->Tm,mg_of->Ty,kia_one->T9,mroIn->T_,makesIn->Ua,fnOf->Ub,takerIn->Uc,lookIn->Ud,hasDictIn->Ue,takesIn->Uf,InstAt->Ug,isFn->Uh,typeIn->Ui
open PySem.F renaming slot_str_ascii_iterator_next->On,slot_dict_valueiterator_next->Oo,slot_dict_keyiterator_next->Oy,slot_str_iterator_next->OK,slot_zip_next->PN,args_str_ascii_iterator_next_1->Qw,args_dict_valueiterator_next_1->Qx,entry_str_ascii_iterator_next->QA,entry_dict_valueiterator_next->QB,args_dict_keyiterator_next_1->QH,entry_dict_keyiterator_next->QN,slot_range_iterator_next->QY,args_str_iterator_next_1->QZ,entry_str_iterator_next->Q2,slot_dict_values_iter->Re,slot_enumerate_next->Rp,args_zip_next_1->Si
open PyProof.Rows renaming seqObj->Ou,envOfC->OT,boot_isinstance->O7,AllBare->Po,get?_update_seq->PM,listUpdate_at->Qf,IntsAre->Qu,mirror_perm->QK,IsTup->Rc,subscriptTail_builtinR->Rh,bubble_size->Rx,Call_->RB,slot_tupleiter_next->RH,Subscript_->R7
open PySem.Calls renaming spliced_cons->Ow,spliced_nil->OW,callWith_builtin->PL,Name_function_global->Q0,evalArgs_plain->RA
open PySem.Builtin.SmallTypes renaming nextOf->OE,stopIteration->Qy
open PySem.Builtin.Slice renaming slicePlaces->OF,sliceApplied->Q1,sliceAdjust->Q4
open PySem.Builtin.Dict renaming showsAll->OX,updateFrom->Rg
open PySem.Paired renaming length->O0,snoc->QL
open PySem.Builtin.Dict_items renaming ownsTuple->O8
open PySem.Builtin.List renaming listExtendWith->Pc,listSameRef->Q6
open PySem.Txt renaming join->QX
open PySem.Around renaming under_plainId->RC
open PySem.Heap.SameBut renaming update->RL,refl->Sg
open PySem.EntryCells renaming newEntry->RM
open PySem.Code renaming quiet_builtin->R9
open PySem.Heap.Ns1 renaming of_empty->Sh
noncomputable section
open PySem.W (tailIn)
open List (mem_range mem_map)
open Nat (le_trans le_of_lt le_refl ble not_lt)
abbrev Aa0:List PySem.Str:=["name","time","anchor","names"]
abbrev Ab0:List PySem.Str:=["old","strokes","standing","row","working","brought","struck","taken","worn","sitting","name","seats"]
abbrev Ac0:List PySem.Str:=["_law_script","_law_cell","_law_paper","_law_pens","_law_counts","_law_pen","_law_ends","_law_number"]
abbrev Ad0:List PySem.Str:=["_law_paper","_law_pen","_law_number","_law_counts","_law_wiped","_law_view","_law_ends","_law_name"]
abbrev Ae0:List PySem.Str:=["self"]
abbrev Af0:List PySem.Str:=["strokes","standing","in_row","stands","chosen"]
abbrev Ag0:List PySem.Str:=["name","time","anchor","names","signs"]
abbrev Ah0:List PySem.Str:=["name","time","anchor","names","word"]
abbrev Ai0:List PySem.Str:=["old","strokes","standing","row","working","brought","struck","taken","worn","sitting","-name","seats"]
abbrev Aj0:List PySem.Str:=["self","name"]
abbrev Ak0:List PySem.Str:=["old","strokes","standing"]
abbrev Al0:List PySem.Str:=["_law_paper","_law_pen","_law_cell","_law_many","_law_way","_law_at","_law_to"]
abbrev Am0:List PySem.Str:=["old","strokes","following","stroke"]
abbrev An0:List PySem.Str:=["_law_paper","_law_pen","_law_number","_law_strokes","_law_view","e"]
abbrev Ao0:List PySem.Str:=["_law_cell","_law_many"]
abbrev Ap0:List PySem.Str:=["self","name","time","anchor","signs"]
abbrev Aq0:List PySem.Str:=["self","name","time","names","anchor"]
abbrev Ar0:List PySem.Str:=["paper","pen","number","told","end"]
abbrev As0:List PySem.Str:=["self","name","time","names","word"]
abbrev At0:List PySem.Str:=["old","strokes","brought","stroke","name","sign"]
abbrev Au0:List PySem.Str:=["name","how_many"]
abbrev Av0:List PySem.Str:=["stroke","in_row"]
abbrev Aw0:List PySem.Str:=["seats","at","to"]
abbrev Ax0:List PySem.Str:=["self","pen","at","to","goal","seats","names"]
abbrev Ay0:List PySem.Str:=["following","anchor","slots","behind","slot"]
abbrev Az0:List PySem.Str:=["self","name","time","names"]
abbrev AA0:List PySem.Str:=["strokes","taken","stroke","name","slot"]
abbrev AB0:List PySem.Str:=["_law_cell","_law_place","_law_number"]
abbrev AC0:List PySem.Str:=["rows","told","start","number","row"]
abbrev AD0:List PySem.Str:=["name","time","anchor"]
abbrev AE0:List PySem.Str:=["strokes","struck","stroke","name"]
abbrev AF0:List PySem.Str:=["old","drawn","states"]
abbrev AG0:List PySem.Str:=["row"]
abbrev AK0:List PySem.Str:=["self","name","time"]
abbrev AM0:List PySem.Str:=["at","to","length"]
local macro_rules | `(tactic| walk_at "j") => `(tactic| exact ⟨rfl, rfl, rfl, by decide +kernel, rfl, by decide +kernel, by decide +kernel⟩)
local macro_rules | `(tactic| walk_at "l") => `(tactic| (split at $(Lean.mkIdent `h):ident <;> first | rfl | exact False.elim $(Lean.mkIdent `h)))
local macro_rules | `(tactic| omega) => `(tactic| first | assumption | exact le_trans (by decide) $(Lean.mkIdent `hs) | exact le_of_lt (by assumption) | exact le_trans (by assumption) (by assumption) | exact M9 (by assumption) (by assumption) | exact Nat.lt_of_le_of_lt (by assumption) (by assumption) | exact le_trans (by assumption) (le_trans (by decide) $(Lean.mkIdent `hs)) | lia | omega (config := {}))
namespace L2
open PySem PySem.Spec PyProof.Rows
def ig(A:MS)(h:MY):Prop:=A.handled=none\/∃x o C vs,A.handled=some (.ref x)/\h.get? x=some o/\o.cls=.ref C/\o.data=.fields vs/\vs[2]?=some .none
theorem ig.keep{A B:MS}{h h':MY}(x:ig A h)(k:∀b o,h.get? b=some o->h'.get? b=some o)(e:B.handled=A.handled:=by rfl):ig B h':=by
 rcases x with x|⟨a,o,C,vs,L,J,I⟩
 .exact .inl (e.trans x)
 .exact .inr ⟨a,o,C,vs,e.trans L,k _ _ J,I⟩
theorem ig.but{A B:MS}{h h':MY}{it:MF}{L:Obj}{T:String}(x:ig A h)(hi:h.get? it=some L)(W:L.cls=.type T)(k:∀b o,b≠it->h.get? b=some o->h'.get? b=some o)(e:B.handled=A.handled:=by rfl):ig B h':=by
 rcases x with x|⟨a,o,C,vs,U,J,I,O⟩
 .exact .inl (e.trans x)
 .refine .inr ⟨a,o,C,vs,e.trans U,k _ _ (λz=>?_) J,I,O⟩;rw[z,hi]at J;cases J;rw[W]at I;cases I
theorem uw:entryFor table "proto.unchain"=some Builtin.«proto.unchain»:=entryFor_of_tree (by kernel_rfl)
section
variable{prog:MR}{w:M4}{A:MS}{E:MC->MD->Prop}{s:MD}
theorem Bx{a:MF}{o:Obj}{vs:Array MC}{i:Nat}{v:MC}{Q:Unit->MD->Prop}(ho:s.heap.get? a=some o)(hd:o.data=.fields vs)(hi:i < vs.size)
  (h:Q () { s with heap:=s.heap.update a (Nb (·.setIfInBounds i v)) }):MJ (MK prog w) A (updateField a i v) Q E s:=by
 unfold updateField;refine MB (QS ho ?_);rw[hd];dsimp only;rw[if_pos hi];exact wpAny_update ho h
theorem uY{α:Type}{a:MF}{I:Obj}{es:Array MC}{Q:α->MD->Prop}(hd:ig A s.heap)(J:s.heap.get? a=some I)(L:I.data=.fields es)(h2:2 < es.size)
  (h:∀h',(∀b o,b≠a->s.heap.get? b=some o->h'.get? b=some o)->(∃v,h'.get? a=some (I.mapFields (·.setIfInBounds 2 v))\/h'.get? a=some I)->E (.ref a) { s with heap:=h' }):
  MJ (MK prog w) A (raiseNew (.ref a):Sem α) Q E s:=by
 unfold raiseNew;refine MB (wpAny_handled ?_);rcases hd with hd|⟨x,o,C,vs,Z,Y,_,W,U⟩
 .rw[hd];exact MB (MG (Rq (h _ (λb o _ q=>q) ⟨.none,.inr J⟩)))
 .rw[Z];dsimp only;split
  .refine MB (Na (wpAny_runValue (O6 uw ?_)));unfold Builtin.«proto.unchain»;dsimp only;refine MB (M3 Y W U ?_);rw[if_pos (show (Value.none == Value.none)=true from rfl)]
   refine MG (MB (Bx J L h2 (Rq ?_)));exact h _ (λb o O q=>(MV _ _ O.symm).trans q) ⟨_,.inl (Nk _ J (NQ (Nv L _)))⟩
  .exact MB (MG (Rq (h _ (λb o _ q=>q) ⟨.none,.inr J⟩)))
theorem qZ{α:Type}{Q:α->MD->Prop}(hd:ig A s.heap)(h:∀h' e,(∀b o,s.heap.get? b=some o->h'.get? b=some o)->(∃o,h'.get? e=some o/\o.cls=.type "StopIteration")->E (.ref e) { s with heap:=h' }):
  MJ (MK prog w) A (newExc (.type "StopIteration") [] >>= λe=>(raiseNew e:Sem α)) Q E s:=by
 refine MB ?_;simp only[newExc,newTuple];refine MB (Nh ?_ (by size_fits))
 refine MB (m:=P0 _ _) (wpAny_of_eq (a:=Value.none) (by first|rfl|(simp only[P0];rfl)) ?_)
 refine Nh ?_ (by size_fits)
 refine uY (hd.keep λb o e=>ME _ (ME _ e)) (MM _ rfl) rfl (by simp;omega) λh' k c=>h h' _ (λb o e=>k b o (λz=>?_) (ME _ (ME _ e))) ?_
 .have:=ML e;rw[z,show ({ s with heap:=s.heap.push { cls:=Value.type "tuple",data:=Data.seq #[] } }:MD).heap.objs.size=s.heap.objs.size+1 from by simp]at this
  exact Nat.lt_irrefl _ (Nat.lt_trans (Oe _) this)
 .obtain⟨v,c|c⟩:=c
  .exact⟨_,c,OV ..⟩
  .exact⟨_,c,rfl⟩
theorem eN{α:Type}{P:α->MD->Prop}{Q:Option MC->MD->Prop}(hd:ig A s.heap)(q:∀h',(∀b o,s.heap.get? b=some o->h'.get? b=some o)->Q none { s with heap:=h' }):
  MJ (MK prog w) A.in1 (Qy:Sem α) P (λe s'=>MJ (MK prog w) A (PB e (.type "StopIteration") >>= λb=>if b=true then pure none else throw e) Q E s') s:=by
 refine qZ (hd.keep λ_ _ e=>e) λh' e k ⟨o,I,J⟩=>?_;refine MB (QC (T:="StopIteration") (b:=true) ⟨_,I,J⟩ QW ?_);rw[if_pos rfl];exact MG (q _ k)
theorem sr{it l:MF}{i:Nat}{items:Array MC}{Q:Option MC->MD->Prop}(hd:ig A s.heap)(hit:s.heap.IsListIter it l i)(Y:s.heap.IsList l items)(W:items[i]?=none)
  (hQ:∀h',Oi it s.heap h'->Q none { s with heap:=h' }):MJ (MK prog w) A (NT (.ref it)) Q E s:=by
 obtain⟨o,J,Z,I⟩:=id hit;obtain⟨ol,L,_,nl,O⟩:=Y;unfold NT;refine MB (Nx (M0 (name:=MI "__next__") hit.typeIs Pe (M8 Pe hit.typeIs RI ?_ (R6 _))));show MJ _ _ (Pg (.ref it) 0 >>= _) _ _ s
 refine MB (M3 J I (x:=.ref l) rfl ?_);rw[if_neg (show ¬ ((Value.ref l == Value.none)=true)from Bool.false_ne_true)]
 refine MB (M3 J I (x:=.int i 0) rfl (MB (NW L O ?_)));simp only[Int.toNat_natCast,W];refine MB (NZ (MB (Nw J I (by simp) ?_)))
 have U:∀b o,b≠it->s.heap.get? b=some o->(s.heap.update it (Nb (·.setIfInBounds 0 Value.none))).get? b=some o:=λb o n e=>(MV _ _ n.symm).trans e;exact eN (hd.but J Z U) λh' k=>hQ h' λb o n e=>k b o (U b o n e)
theorem l_{it l:MF}{i:Nat}{items:Array MC}{Q:MC->MD->Prop}(hd:ig A s.heap)(hit:s.heap.IsListIter it l i)(Y:s.heap.IsList l items)(W:items[i]?=none)
  (hE:∀h' e,Oi it s.heap h'->(∃o,h'.get? e=some o/\o.cls=.type "StopIteration")->E (.ref e) { s with heap:=h' }):MJ (MK prog w) A (OE (.ref it)) Q E s:=by
 obtain⟨o,J,Z,I⟩:=id hit;obtain⟨ol,L,_,nl,O⟩:=Y;unfold OE;refine MB (M0 (name:=MI "__next__") hit.typeIs Pe (M8 Pe hit.typeIs RI ?_ (R6 _)));show MJ _ _ (Pg (.ref it) 0 >>= _) _ _ s
 refine MB (M3 J I (x:=.ref l) rfl ?_);rw[if_neg (show ¬ ((Value.ref l == Value.none)=true)from Bool.false_ne_true)]
 refine MB (M3 J I (x:=.int i 0) rfl (MB (NW L O ?_)));simp only[Int.toNat_natCast,W];refine MB (NZ (MB (Nw J I (by simp) ?_)))
 have U:∀b o,b≠it->s.heap.get? b=some o->(s.heap.update it (Nb (·.setIfInBounds 0 Value.none))).get? b=some o:=λb o n e=>(MV _ _ n.symm).trans e;exact qZ (hd.but J Z U) λh' e k c=>hE h' e (λb o n q=>k b o (U b o n q)) c
theorem BK{it:MF}{x left step:Int}{Q:Option MC->MD->Prop}(hd:ig A s.heap)(hit:P7 s.heap it x left step)(L:left<=0)
  (J:∀h',Oi it s.heap h'->Q none { s with heap:=h' }):MJ (MK prog w) A (NT (.ref it)) Q E s:=by
 have I:s.TypeIs (.ref it) "range_iterator":=⟨_,hit,rfl⟩;unfold NT;refine MB (Nx (M0 (name:=MI "__next__") I QY (M8 QY I F.entry_range_iterator_next ?_ (F.args_range_iterator_next_1 _))));show MJ _ _ (Pg (.ref it) 0 >>= _) _ _ s
 refine MB (M3 hit rfl (x:=Ob x) rfl (MB (M3 hit rfl (x:=Ob left) rfl (MB (M3 hit rfl (x:=Ob step) rfl ?_)))));show MJ _ _ (if left<=0 then _ else _) _ _ s
 rw[if_pos L];exact MB (NZ (MB (eN hd λh' k=>J h' λb o _ e=>k b o e)))
theorem uK{it t:MF}{i:Nat}{items:Array MC}{Q:Option MC->MD->Prop}(hd:ig A s.heap)(hit:IsTupIter s.heap it t i)(Y:Rc s.heap t items)(W:items[i]?=none)
  (hQ:∀h',Oi it s.heap h'->Q none { s with heap:=h' }):MJ (MK prog w) A (NT (.ref it)) Q E s:=by
 obtain⟨o,J,Z,I⟩:=id hit;obtain⟨ol,L,_,nl,O⟩:=Y;unfold NT;refine MB (Nx (M0 (name:=MI "__next__") hit.typeIs RH (M8 RH hit.typeIs entry_tupleiter_next ?_ (args_tupleiter_next _))));show MJ _ _ (Pg (.ref it) 0 >>= _) _ _ s
 refine MB (M3 J I (x:=.ref t) rfl ?_);rw[if_neg (show ¬ ((Value.ref t == Value.none)=true)from Bool.false_ne_true)]
 refine MB (M3 J I (x:=.int i 0) rfl (MB (NW L O ?_)));simp only[Int.toNat_natCast,W];refine MB (NZ (MB (Nw J I (by simp) ?_)))
 have U:∀b o,b≠it->s.heap.get? b=some o->(s.heap.update it (Nb (·.setIfInBounds 0 Value.none))).get? b=some o:=λb o n e=>(MV _ _ n.symm).trans e;exact eN (hd.but J Z U) λh' k=>hQ h' λb o n e=>k b o (U b o n e)
theorem vE{t:MF}{items:Array MC}{Q:List MC->MD->Prop}(hd:ig A s.heap)(I:Rc s.heap t items)
  (W:∀h',Oi s.heap.objs.size s.heap h'->Q items.toList { s with heap:=h' }):MJ (MK prog w) A (unpackItems (.ref t) items.size none) Q E s:=by
 have J:t≠s.heap.objs.size:=by obtain⟨o,O,_⟩:=I;exact M6 (ML O)
 unfold unpackItems notIterableAtAll;refine MB (MB (wpAny_specialOf I.typeIs slot_tuple_iter.lookup (MG ?_)));simp only[Bool.false_eq_true,if_false];refine MB (Na (iter_tuple I (MB (Na (draw_tuple J items.size 0 _ _ ⟨_,MM _ rfl,rfl,rfl⟩ (I.push _) (by omega) λh1 hit hs=>?_)))))
 rw[Qb,List.take_of_length_le (by simp),if_neg (by simp)]
 refine MB (Na (uK ((hd.keep λb o e=>ME _ e).but (MM _ rfl) rfl λb o n e=>hs.extBut b o n e) hit ((I.push _).extBut hs.extBut J) (by simp) λh2 U=>?_))
 simp only[Option.isSome_none,Bool.false_eq_true,if_false];exact MG (W h2 λb o L e=>U b o L (hs.extBut b o L (ME _ e)))
theorem AA{env:Env}{elts:List M7}{J}{pos:Pos}{t:MF}{items:Array MC}{Q:Unit->MD->Prop}(hd:ig A s.heap)(L:Rc s.heap t items)(hn:(N0 elts env).length=items.size)(I:(N0 elts env).findIdx? (·.1)=none)
  (h:∀h',Oi s.heap.objs.size s.heap h'->MJ (MK prog w) A (assignInOrder ((N0 elts env).map (·.2)) items.toList) Q E { s with heap:=h' }):MJ (MK prog w) A (assign (.Tuple elts J pos) env (.ref t)) Q E s:=by
 rw[assign_Tuple];refine MB (OI ?_);unfold unpack;rw[hn,I];exact MB (Na (vE hd L h))
theorem wt{it:MF}{x:Str}{t:Tok}{i:Nat}{ty:String}{Q:MC->MD->Prop}(L:ty="str_ascii_iterator"\/ty="str_iterator")(hd:ig A s.heap)(hit:s.heap.IsStrIter it ty x t i)(U:x.cps[i]?=none)
  (Y:∀h' e,Oi it s.heap h'->(∃o,h'.get? e=some o/\o.cls=.type "StopIteration")->E (.ref e) { s with heap:=h' }):MJ (MK prog w) A (OE (.ref it)) Q E s:=by
 obtain⟨o,J,W,I⟩:=id hit;have O:∀b o,b≠it->s.heap.get? b=some o->(s.heap.update it (Nb (·.setIfInBounds 0 Value.none))).get? b=some o:=λb o n e=>(MV _ _ n.symm).trans e;have fin:∀{P:PySem.Fin->MD->Prop},MJ (MK prog w) A.in1 (Qy:Sem PySem.Fin) P E { s with heap:=s.heap.update it (Nb (·.setIfInBounds 0 Value.none)) }:=
  qZ (hd.but J W O) λh' e k c=>Y h' e (λb o n q=>k b o (O b o n q)) c
 unfold OE;rcases L with rfl|rfl
 .refine MB (M0 (name:=MI "__next__") hit.typeIs On (M8 On hit.typeIs QA ?_ (Qw _)));show MJ _ _ (Pg (.ref it) 0 >>= _) _ _ s
  refine MB (M3 J I (x:=.str x t) rfl ?_);show MJ _ _ (Pg (.ref it) 1 >>= _) _ _ s
  refine MB (M3 J I (x:=.int i 0) rfl ?_);simp only[Int.toNat_natCast,U];exact MB (NZ (MB (Nw J I (by simp) (MB (OO fin)))))
 .refine MB (M0 (name:=MI "__next__") hit.typeIs OK (M8 OK hit.typeIs Q2 ?_ (QZ _)));show MJ _ _ (Pg (.ref it) 0 >>= _) _ _ s
  refine MB (M3 J I (x:=.str x t) rfl ?_);show MJ _ _ (Pg (.ref it) 1 >>= _) _ _ s
  refine MB (M3 J I (x:=.int i 0) rfl ?_);simp only[Int.toNat_natCast,U];exact MB (NZ (MB (Nw J I (by simp) (MB (OO fin)))))
end
def yJ(A:MS):List MF:=match A.handled with
 | some (.ref x)=>[x]
 | _=>[]
theorem ig.fr{A:MS}{h h':MY}(x:ig A h)(k:∀b∈yJ A,∀o,h.get? b=some o->h'.get? b=some o):ig A h':=by
 rcases x with x|⟨a,o,C,vs,I,L,J⟩
 .exact .inl x
 .exact .inr ⟨a,o,C,vs,I,k a (by simp[yJ,I]) o L,J⟩
theorem ig.at{A:MS}{h:MY}(x:ig A h):∀b∈yJ A,∃o C,h.get? b=some o/\o.cls=.ref C:=λb I=>by
 rcases x with x|⟨a,o,C,vs,O,L,J,_⟩
 .rw[yJ,x]at I;cases I
 .rw[yJ,O]at I;rw[Pt.mp I];exact⟨o,C,L,J⟩
section
variable{prog:MR}{w:M4}{A:MS}
theorem zr(I W:MF)(Y:W≠I)(items:Array MC):
  Walks prog w A I (I::W::yJ A) [I] items.size (λi v=>items[i]?=some v) (λi h=>(h.IsListIter I W i/\h.IsList W items)/\ig A h) where
 sub:=λb J=>by simp at J;simp[J]
 frame:=λ_ _ _ st Z=>⟨⟨st.1.1.at λo e=>Z I (by simp) o e,st.1.2.at λo e=>Z W (by simp) o e⟩,st.2.fr λb J o e=>Z b (by simp[J]) o e⟩
 item:=λi s Q E hi st U=>by
  refine Px st.1.1 st.1.2 (x:=items[i]) (by simp[hi]) λh' O L=>?_
  obtain⟨o,ho,hc,_⟩:=id st.1.1;exact U _ h' s.toks (by simp[hi]) ⟨⟨O,st.1.2.extBut L.extBut Y⟩,st.2.but ho hc L.extBut⟩ λb o J e=>L.extBut b o (λh=>J (by simp[h])) e
 done:=λs Q E st U=>sr st.2 st.1.1 st.1.2 (by simp) λh' he'=>U h' s.toks λb o J e=>he' b o (λh=>J (by simp[h])) e
 self:=λ_ _ _ _ st U=>Rm st.1.1 U
theorem Ax(it l:MF)(O:l≠it)(items:Array MC):
  Rf prog w A it (it::l::yJ A) items.size (λi v=>items[i]?=some v) (λi h=>(h.IsListIter it l i/\h.IsList l items)/\ig A h) where
 live:=λ_ _ st=>let ⟨o,L,_⟩:=st.1.1;⟨o,L⟩
 frame:=λ_ _ _ st U=>⟨⟨st.1.1.at λo e=>U it (by simp) o e,st.1.2.at λo e=>U l (by simp) o e⟩,st.2.fr λb Y o e=>U b (by simp[Y]) o e⟩
 item:=λi s Q E hi st Z=>by
  refine wpAny_nextOf_list_item st.1.1 st.1.2 (x:=items[i]) (by simp[hi]) λh' J I=>?_
  obtain⟨o,L,W,_⟩:=id st.1.1;exact Z _ h' s.toks (by simp[hi]) ⟨⟨J,st.1.2.extBut I.extBut O⟩,st.2.but L W I.extBut⟩ I
 done:=λs Q E st hE=>l_ st.2 st.1.1 st.1.2 (by simp) hE
theorem Ck(it:MF)(x:Str)(t:Tok){ty:String}(O:ty="str_ascii_iterator"\/ty="str_iterator"):
  Rf prog w A it (it::yJ A) x.cps.size (λi v=>∃c u,x.cps[i]?=some c/\v=.str ⟨#[c]⟩ u) (λi h=>h.IsStrIter it ty x t i/\ig A h) where
 live:=λ_ _ st=>let ⟨o,L,_⟩:=st.1;⟨o,L⟩
 frame:=λ_ _ _ st U=>⟨let ⟨o,L,r⟩:=st.1;⟨o,U it (by simp) o L,r⟩,st.2.fr λb Z o e=>U b (by simp[Z]) o e⟩
 item:=λi s Q E hi st Y=>by
  obtain⟨o,L,W,_⟩:=id st.1;rcases O with rfl|rfl
  .exact wpAny_nextOf_ascii_item st.1 (c:=x.cps[i]) (by simp[hi]) λh' J I=>Y _ h' (s.toks+1) ⟨_,_,by simp[hi],rfl⟩ ⟨J,st.2.but L W I.extBut⟩ I
  .exact wpAny_nextOf_wide_item st.1 (c:=x.cps[i]) (by simp[hi]) λh' J I=>Y _ h' (s.toks+1) ⟨_,_,by simp[hi],rfl⟩ ⟨J,st.2.but L W I.extBut⟩ I
 done:=λs Q E st hE=>wt O st.2 st.1 (by simp) hE
end
def GT(A:MS)(pn:List (MF×Obj)):Prop:=A.handled=none\/∃x o C vs,A.handled=some (.ref x)/\(x,o)∈pn/\o.cls=.ref C/\o.data=.fields vs/\vs[2]?=some .none
def Jz(A:MS)(h:MY)(p:MF->Prop):Prop:=A.handled=none\/∃x o C vs,A.handled=some (.ref x)/\h.get? x=some o/\p x/\o.cls=.ref C/\o.data=.fields vs/\vs[2]?=some .none
def IU(A:MS)(h:MY):List (MF×Obj):=match A.handled with
 | some (.ref x)=>(h.get? x).toList.map λo=>(x,o)
 | _=>[]
theorem GT.to{A:MS}{pn:List (MF×Obj)}{h:MY}(x:GT A pn)(k:∀p∈pn,h.get? p.1=some p.2):ig A h:=by
 rcases x with x|⟨a,o,C,vs,L,J,I⟩
 .exact .inl x
 .exact .inr ⟨a,o,C,vs,L,k _ J,I⟩
theorem GT.cons{A:MS}{pn:List (MF×Obj)}{q:MF×Obj}(x:GT A pn):GT A (q::pn):=by
 rcases x with x|⟨a,o,C,vs,L,J,I⟩
 .exact .inl x
 .exact .inr ⟨a,o,C,vs,L,MQ _ J,I⟩
theorem GT.out{A:MS}{pn:List (MF×Obj)}{h:MY}{q:MF->Prop}(x:GT A pn)(k:∀p∈pn,h.get? p.1=some p.2/\q p.1):Jz A h q:=by
 rcases x with x|⟨a,o,C,vs,L,I,J⟩
 .exact .inl x
 .exact .inr ⟨a,o,C,vs,L,(k _ I).1,(k _ I).2,J⟩
theorem Jz.inn{A B:MS}{h:MY}{q:MF->Prop}(x:Jz A h q)(e:B.handled=A.handled):GT B (IU A h):=by
 rcases x with x|⟨a,o,C,vs,I,L,O,J⟩
 .exact .inl (e.trans x)
 .exact .inr ⟨a,o,C,vs,e.trans I,by simp[IU,I,L],J⟩
theorem Jz.pins{A:MS}{h:MY}{q:MF->Prop}{p:MF×Obj}(x:Jz A h q)(I:p∈IU A h ++ []):h.get? p.1=some p.2/\q p.1/\∀v,p.2.data≠.cell v:=by
 rw[Ng]at I;rcases x with x|⟨a,o,C,vs,U,J,O,_,L,_⟩
 .rw[IU,x]at I;cases I
 .simp only[IU,U,J,Option.toList_some,M5,Pn,Pt]at I;subst I;exact⟨J,O,λv z=>by rw[L]at z;cases z⟩
theorem zQ{prog:MR}{w:M4}{A:MS}{E:MC->MD->Prop}{s:MD}{I:MF}{a c:Int}{n i:Nat}{Q:Option MC->MD->Prop}(hi:i < n)(st:P7 s.heap I (a+(i:Nat)*c) ((n:Int) - (i:Nat)) c)
  (U:∀v h' tk,(∃t,v=.int (a+i*c) t)->P7 h' I (a+((i+1:Nat):Nat)*c) ((n:Int) - ((i+1:Nat):Nat)) c->(∀b o,b∉[I]->s.heap.get? b=some o->h'.get? b=some o)->Q (some v) { s with heap:=h',toks:=tk }):MJ (MK prog w) A (NT (.ref I)) Q E s:=by
 refine wpAny_pyNext_range_item st (by omega) λh' J L=>U _ h' _ ⟨_,rfl⟩ ?_ λb o O e=>L.extBut b o (λh=>O (by simp[h])) e
 have Y:a+((i+1:Nat):Int)*c=a+(i:Int)*c+c:=by rw[Int.natCast_add,Int.add_mul,Int.natCast_one,Int.one_mul,Int.add_assoc]
 have W:(n:Int) - ((i+1:Nat):Int)=(n:Int) - (i:Int) - 1:=by omega
 rw[Y,W];exact J
section
variable{prog:MR}{w:M4}{A:MS}{E:MC->MD->Prop}{s:MD}
theorem C3{it:MF}{x:Str}{t:Tok}{i:Nat}{ty:String}{Q:Option MC->MD->Prop}(L:ty="str_ascii_iterator"\/ty="str_iterator")(hi:i < x.cps.size)(st:s.heap.IsStrIter it ty x t i)
  (U:∀v h' tk,SignAt x i v->h'.IsStrIter it ty x t (i+1)->(∀b o,b∉[it]->s.heap.get? b=some o->h'.get? b=some o)->Q (some v) { s with heap:=h',toks:=tk }):MJ (MK prog w) A (NT (.ref it)) Q E s:=by
 rcases L with rfl|rfl
 .exact wpAny_pyNext_ascii_item st (c:=x.cps[i]) (by simp[hi]) λh' I J=>U _ h' (s.toks+1) ⟨_,_,by simp[hi],rfl⟩ I λb o O e=>J.extBut b o (λz=>O (by simp[z])) e
 .exact wpAny_pyNext_wide_item st (c:=x.cps[i]) (by simp[hi]) λh' I J=>U _ h' (s.toks+1) ⟨_,_,by simp[hi],rfl⟩ I λb o O e=>J.extBut b o (λz=>O (by simp[z])) e
theorem Fo{it:MF}{x:Str}{t:Tok}{i:Nat}{ty:String}{Q:Option MC->MD->Prop}(O:ty="str_ascii_iterator"\/ty="str_iterator")(hd:ig A s.heap)(hit:s.heap.IsStrIter it ty x t i)(U:x.cps[i]?=none)
  (Y:∀h',Oi it s.heap h'->Q none { s with heap:=h' }):MJ (MK prog w) A (NT (.ref it)) Q E s:=by
 obtain⟨o,J,W,I⟩:=id hit;have L:∀b o,b≠it->s.heap.get? b=some o->(s.heap.update it (Nb (·.setIfInBounds 0 Value.none))).get? b=some o:=λb o n e=>(MV _ _ n.symm).trans e;unfold NT;rcases O with rfl|rfl
 .refine MB (Nx (M0 (name:=MI "__next__") hit.typeIs On (M8 On hit.typeIs QA ?_ (Qw _))));show MJ _ _ (Pg (.ref it) 0 >>= _) _ _ s
  refine MB (M3 J I (x:=.str x t) rfl ?_);show MJ _ _ (Pg (.ref it) 1 >>= _) _ _ s
  refine MB (M3 J I (x:=.int i 0) rfl ?_);simp only[Int.toNat_natCast,U];exact MB (NZ (MB (Nw J I (by simp) (MB (OO (eN (hd.but J W L) λh' k=>Y h' λb o n e=>k b o (L b o n e)))))))
 .refine MB (Nx (M0 (name:=MI "__next__") hit.typeIs OK (M8 OK hit.typeIs Q2 ?_ (QZ _))));show MJ _ _ (Pg (.ref it) 0 >>= _) _ _ s
  refine MB (M3 J I (x:=.str x t) rfl ?_);show MJ _ _ (Pg (.ref it) 1 >>= _) _ _ s
  refine MB (M3 J I (x:=.int i 0) rfl ?_);simp only[Int.toNat_natCast,U];exact MB (NZ (MB (Nw J I (by simp) (MB (OO (eN (hd.but J W L) λh' k=>Y h' λb o n e=>k b o (L b o n e)))))))
end
abbrev aE:=Sum Int Str
noncomputable def vc:aE->MC->Bool
 | .inl k,v=>Value.isInt k v
 | .inr x,v=>Value.isStrOf x v
def LF(w:M4):aE->Int
 | .inl k=>hashInt k
 | .inr x=>hashStr w x
theorem cJ:∀{k:aE} {v:MC},vc k v=true->(∃i t,k=Sum.inl i/\v=Value.int i t)\/(∃x t,k=Sum.inr x/\v=Value.str x t)
 | .inl i,v,h=>by
  obtain⟨t,e⟩:=Value.isInt_shape h;exact .inl ⟨i,t,rfl,e⟩
 | .inr x,v,h=>by
  obtain⟨t,e⟩:=Value.isStrOf_shape h;exact .inr ⟨x,t,rfl,e⟩
theorem B7(i:Int)(t:Tok):vc (.inl i) (.int i t)=true:=by simp[vc,Value.isInt]
theorem B6(x:Str)(t:Tok):vc (.inr x) (.str x t)=true:=by simp[vc,Value.isStrOf]
theorem IK(a b:Int):decide ((Sum.inl a:aE)=Sum.inl b)=(a == b):=by grind
theorem IG(a b:Str):decide ((Sum.inr a:aE)=Sum.inr b)=decide (a=b):=by grind
theorem IJ(a:Int)(b:Str):decide ((Sum.inl a:aE)=Sum.inr b)=false:=by grind
theorem IH(a:Str)(b:Int):decide ((Sum.inr a:aE)=Sum.inl b)=false:=by grind
def aX(prog:MR)(w:M4):PySem.KeyKind prog w aE where
 is:=vc
 hash:=LF w
 inj:=λv a b U L=>by
  rcases cJ U with ⟨i,t,rfl,rfl⟩|⟨x,t,rfl,rfl⟩
  .rcases cJ L with ⟨j,u,rfl,e⟩|⟨y,u,rfl,e⟩
   .injection e with I _;rw[I]
   .exact nomatch e
  .rcases cJ L with ⟨j,u,rfl,e⟩|⟨y,u,rfl,e⟩
   .exact nomatch e
   .injection e with I _;rw[I]
 byValue:=λk v h=>by
  rcases cJ h with ⟨i,t,rfl,rfl⟩|⟨x,t,rfl,rfl⟩<;>rfl
 pyHash:=λJ h=>by
  rcases cJ J with ⟨i,t,rfl,rfl⟩|⟨x,t,rfl,rfl⟩
  .exact wpAny_pyHash_int h
  .exact wpAny_pyHash_str h
 eqBool:=λO J h=>by
  rcases cJ O with ⟨i,t,rfl,rfl⟩|⟨x,t,rfl,rfl⟩
  .rcases cJ J with ⟨j,u,rfl,rfl⟩|⟨y,u,rfl,rfl⟩
   .rw[IK]at h;exact wpAny_eqBool_int h
   .rw[IJ]at h;exact SeqAt.EqAt.int_str i t y u _ _ _ _ h
  .rcases cJ J with ⟨j,u,rfl,rfl⟩|⟨y,u,rfl,rfl⟩
   .rw[IH]at h;exact SeqAt.EqAt.str_int x t j u _ _ _ _ h
   .rw[IG]at h;exact wpAny_eqBool_str h
 «strs»:=λk x t v h=>by
  rcases cJ h with ⟨i,u,rfl,e⟩|⟨y,u,rfl,e⟩
  .exact nomatch e
  .injection e with I _
   subst I;cases v<;>rfl
theorem xX(prog:MR)(w:M4)(i:Int)(t:Tok):(aX prog w).is (.inl i) (.int i t)=true:=B7 i t
theorem xW(prog:MR)(w:M4)(x:Str)(t:Tok):(aX prog w).is (.inr x) (.str x t)=true:=B6 x t
inductive V where
 | non|bl (b:Bool)|int (i:Int)|str (x:Str)|byt (b:Array UInt8)|flt (b:UInt64)|ref (a:MF)|ty (n:String)
 deriving DecidableEq
def aF:V->MC->Prop
 | .non,u=>u=Value.none
 | .bl b,u=>u=Value.bool b
 | .int i,u=>∃t,u=Value.int i t
 | .str x,u=>∃t,u=Value.str x t
 | .byt b,u=>∃t,u=Value.bytes b t
 | .flt b,u=>∃t,u=Value.float b t
 | .ref a,u=>u=Value.ref a
 | .ty n,u=>u=Value.type n
abbrev Vals:List V->List MC->Prop:=Pu aF
theorem Vals.length{xs:List V}{us:List MC}(r:Vals xs us):xs.length=us.length:=O0 r
theorem Vals.get:∀{xs:List V} {us:List MC} {i:Nat} {x:V},Vals xs us->xs[i]?=some x->∃u,us[i]?=some u/\aF x u
 | _,_,_,_,.nil,e=>by simp at e
 | _,_,0,_,.cons r _,e=>by simp at e;subst e;exact⟨_,rfl,r⟩
 | _,_,i+1,x,.cons _ t,e=>by
  obtain⟨u,h1,h2⟩:=Vals.get (i:=i) (x:=x) t (by simpa using e)
  exact⟨u,by simpa using h1,h2⟩
theorem Vals.set{x:V}{u:MC}(r:aF x u):∀{xs:List V} {us:List MC} (i:Nat),Vals xs us->Vals (xs.set i x) (us.set i u)
 | _,_,_,.nil=>.nil
 | _,_,0,.cons _ t=>.cons r t
 | _,_,i+1,.cons q t=>.cons q (Vals.set r i t)
theorem Vals.append:∀{xs ys:List V} {us I:List MC},Vals xs us->Vals ys I->Vals (xs ++ ys) (us ++ I)
 | _,_,_,_,.nil,s=>s
 | _,_,_,_,.cons r t,s=>.cons r (Vals.append t s)
theorem Vals.take:∀{xs:List V} {us:List MC} (n:Nat),Vals xs us->Vals (xs.take n) (us.take n)
 | _,_,0,_=>.nil
 | _,_,_+1,.nil=>.nil
 | _,_,n+1,.cons r t=>.cons r (Vals.take n t)
theorem Vals.drop:∀{xs:List V} {us:List MC} (n:Nat),Vals xs us->Vals (xs.drop n) (us.drop n)
 | _,_,0,r=>r
 | _,_,_+1,.nil=>.nil
 | _,_,n+1,.cons _ t=>Vals.drop n t
def jM:Option V->Option MC->Prop
 | some v,some u=>aF v u
 | none,none=>True
 | _,_=>False
def KV{κ:Type}:List (κ×V)->List (κ×MC)->Prop:=Pu λ(p:κ×V) (q:κ×MC)=>p.1=q.1/\aF p.2 q.2
def kV:aE->V
 | .inl i=>.int i
 | .inr x=>.str x
inductive HO where
 | lst (xs:List V)
 | tup (xs:List V)
 | dK (ν:List (aE×V))|dT (ν:List (List aE×V))
 | set (S:Int->Bool) (n:Nat)
 | ins (C dx:MF) (fs:List (Str×V))
 | own (x:MF)
 | xd (fs:List (Str×V))
 | met (f x:MF)
 | rng (lo hi:Int)
 | frz (o:Obj) (u:HO)
 | tbl (ps:Array MC)
 | ext (φ:MY->Prop)
abbrev Hp:=MF->Option HO
def aV(H:Hp)(a:MF)(o:HO):Hp:=λb=>if b=a then some o else H b
theorem aG{H:Hp}{a:MF}{o:HO}:aV H a o a=some o:=by unfold aV;rw[if_pos rfl]
theorem ao{H:Hp}{a b:MF}{o:HO}(h:b≠a):aV H a o b=H b:=by unfold aV;rw[if_neg h]
theorem Kj{H:Hp}{a b:MF}{o u:HO}(h:H a=some o)(h':H b=some u)(d:o≠u):a≠b:=by grind
theorem bw{H:Hp}{a b:MF}{o:HO}(h:H a=some o)(h':H b=none):a≠b:=by grind
section
variable(P:MR)(w:M4)
def tw(h:MY)(a:MF)(items:Array MC):Prop:=∃o,h.get? a=some o/\(o.cls=.type "tuple"/\o.dict=none)/\∃n,o.data=.seq items n
def bz(H:Hp)(h:MY)(a:MF):HO->Prop
 | .lst xs=>xs.length<=MN/\∃(J:List MC) (n:Nat),Vals xs J/\h.get? a=some { cls:=.type "list",data:=.seq J.toArray n }
 | .tup xs=>xs.length<=MN/\∃J:List MC,Vals xs J/\tw h a J.toArray
 | .dK I=>I.length<=MN/\(a == NG)=false/\∃vs,KV I vs/\h.DictOf (aX P w) a vs
 | .dT I=>I.length<=MN/\(a == NG)=false/\∃xs:List (List aE×MF×MC),
   Pu (λ(p:List aE×V) (q:List aE×MF×MC)=>p.1=q.1/\H q.2.1=some (.tup (p.1.map kV))/\aF p.2 q.2.2) I xs/\
   ∃o es ep,h.get? a=some o/\o.ExactDict/\o.data=.dict es ep/\es.toList=xs.map (entryOfKey (NS (aX P w)))/\(xs.map (·.1)).Nodup
 | .set S n=>h.SetOf (intKind P w) a S n
 | .ins C dx fs=>H dx=some (.own a)/\fs.length<=1000/\dx≠a/\h.get? a=some (PD C dx)/\
   ∃mA,h.Ns1 dx mA/\(∀f,jM (fs.lookup f) (mA f))/\PySem.Within mA (fs.map (·.1))
 | .own _=>∃o,h.get? a=some o
 | .xd fs=>∃mA,h.Ns1 a mA/\∀f,jM (fs.lookup f) (mA f)
 | .rng lo hi=>∃t u v,h.get? a=some { cls:=.type "range",data:=.fields #[.int lo t,.int hi u,.int 1 v] }
 | .frz o u=>h.get? a=some o/\bz H h a u
 | .tbl ps=>h.get? a=some { cls:=.none,data:=.fields ps }
 | .met f x=>h.get? a=some (Q8 (.ref f) (.ref x))
 | .ext L=>L h/\(∃o,h.get? a=some o)/\∀h1 h2:MY,L h1->(∀o,h1.get? a=some o->h2.get? a=some o)->L h2
theorem tw.new(h:MY)(items:Array MC):tw (h.push { cls:=.type "tuple",data:=.seq items }) h.objs.size items:=⟨_,MM _ rfl,⟨rfl,rfl⟩,_,rfl⟩
theorem tw.tup{h:MY}{a:MF}{items:Array MC}(x:tw h a items):Rc h a items:=let ⟨o,e,c,d⟩:=x;⟨o,e,c.1,d⟩
def lb(H:Hp)(h:MY):Prop:=∀a o,H a=some o->bz P w H h a o
end
section
variable{P:MR}{w:M4}{H H':Hp}{h h':MY}{a:MF}{o:HO}
theorem bz.lt(x:bz P w H h a o):a < h.objs.size:=by
 cases o with
 | lst xs=>obtain⟨_,_,_,_,e⟩:=x;exact ML e
 | tup xs=>obtain⟨_,_,_,p⟩:=x;exact p.tup.lt
 | dK I=>obtain⟨_,_,_,_,o,_,_,e,_⟩:=x;exact ML e
 | dT I=>obtain⟨_,_,_,_,o,_,_,e,_⟩:=x;exact ML e
 | set S n=>obtain⟨o,_,_,_,e,_⟩:=x;exact ML e
 | ins C dx fs=>obtain⟨_,_,_,e,_⟩:=x;exact ML e
 | own y=>obtain⟨_,e⟩:=x;exact ML e
 | xd fs=>obtain⟨_,⟨_,_,_,e,_⟩,_⟩:=x;exact ML e
 | rng lo hi=>obtain⟨_,_,_,e⟩:=x;exact ML e
 | frz L u=>obtain⟨e,_⟩:=x;exact ML e
 | tbl ps=>exact ML (show h.get? a=some _ from x)
 | met f y=>exact ML (show h.get? a=some _ from x)
 | ext J=>obtain⟨_,⟨_,e⟩,_⟩:=x;exact ML e
theorem Paired.mapP{α L:Type}{F G:α->L->Prop}:∀{J:List α} {I:List L},Pu F J I->(∀a b,F a b->G a b)->Pu G J I
 | _,_,.nil,_=>.nil
 | _,_,.cons r t,f=>.cons (f _ _ r) (Paired.mapP t f)
theorem bz.stay(x:bz P w H h a o)(k:∀b u,(b=a\/H b=some (.own a))->h.get? b=some u->h'.get? b=some u)
  (ho:∀b,H b=some (.own a)->H' b=some (.own a)) (U:∀b xs,H b=some (.tup xs)->H' b=some (.tup xs)):bz P w H' h' a o:=by
 induction o with
 | lst xs=>obtain⟨z,J,n,r,e⟩:=x;exact⟨z,J,n,r,k _ _ (.inl rfl) e⟩
 | tup xs=>obtain⟨z,J,r,I,e,c⟩:=x;exact⟨z,J,r,I,k _ _ (.inl rfl) e,c⟩
 | dK L=>obtain⟨z,y,vs,r,I,es,ep,e,c⟩:=x;exact⟨z,y,vs,r,I,es,ep,k _ _ (.inl rfl) e,c⟩
 | dT L=>
  obtain⟨z,y,xs,r,I,es,ep,e,c⟩:=x;exact⟨z,y,xs,Paired.mapP r λp q z=>⟨z.1,U _ _ z.2.1,z.2.2⟩,I,es,ep,k _ _ (.inl rfl) e,c⟩
 | set S n=>obtain⟨I,es,ep,t,e,c⟩:=x;exact⟨I,es,ep,t,k _ _ (.inl rfl) e,c⟩
 | ins C dx fs=>
  obtain⟨d,z,ne,e,mA,⟨od,es,ep,W,c⟩,r⟩:=x;exact⟨ho _ d,z,ne,k _ _ (.inl rfl) e,mA,⟨od,es,ep,k _ _ (.inr d) W,c⟩,r⟩
 | own y=>obtain⟨I,e⟩:=x;exact⟨I,k _ _ (.inl rfl) e⟩
 | xd fs=>obtain⟨mA,⟨od,es,ep,e,c⟩,r⟩:=x;exact⟨mA,⟨od,es,ep,k _ _ (.inl rfl) e,c⟩,r⟩
 | rng lo hi=>obtain⟨t,u,v,e⟩:=x;exact⟨t,u,v,k _ _ (.inl rfl) e⟩
 | frz I u O=>obtain⟨e,q⟩:=x;exact⟨k _ _ (.inl rfl) e,O q⟩
 | tbl ps=>
  have e:h.get? a=some { cls:=.none,data:=.fields ps }:=x;show h'.get? a=some { cls:=.none,data:=.fields ps }
  exact k a _ (.inl rfl) e
 | met f y=>
  have e:h.get? a=some (Q8 (.ref f) (.ref y)):=x;show h'.get? a=some (Q8 (.ref f) (.ref y))
  exact k a _ (.inl rfl) e
 | ext Y=>obtain⟨p,⟨o,e⟩,st⟩:=x;exact⟨st _ _ p λo q=>k _ _ (.inl rfl) q,⟨o,k _ _ (.inl rfl) e⟩,st⟩
theorem lb.lt(x:lb P w H h)(e:H a=some o):a < h.objs.size:=(x a o e).lt
theorem lb.fresh(x:lb P w H h)(e:h.objs.size<=a):H a=none:=by
 cases q:H a with
 | none=>rfl
 | some u=>exact absurd (M9 (x.lt q) e) (Nat.lt_irrefl _)
theorem lb.kept(x:lb P w H h)(k:∀b u,h.get? b=some u->h'.get? b=some u):lb P w H h':=λa o e=>
 (x a o e).stay (λb u _ q=>k b u q) (λ_ q=>q) λ_ _ q=>q
theorem lb.laid(x:lb P w H h)(k:∀b u,h.get? b=some u->h'.get? b=some u)(J:h.objs.size<=a)(new:bz P w (aV H a o) h' a o):lb P w (aV H a o) h':=λb u e=>by
 have hn:=x.fresh J
 by_cases I:b=a
 .subst I;rw[aG]at e;cases e;exact new
 .rw[ao I]at e;exact (x b u e).stay (λc v _ q=>k c v q) (λc q=>by rw[ao (bw q hn)];exact q) λc xs q=>by rw[ao (bw q hn)];exact q
end
def Rd(H:Hp)(a:MF)(u:HO):Prop:=H a=some u\/∃o,H a=some (.frz o u)
theorem Rd.ok{P:MR}{w:M4}{H:Hp}{h:MY}{a:MF}{u:HO}(r:Rd H a u)(x:lb P w H h):bz P w H h a u:=by
 rcases r with r|⟨o,r⟩
 .exact x a u r
 .obtain⟨_,q⟩:=x a _ r;exact q
def E7:Option HO->Prop
 | some (.lst _)=>True
 | some (.dK _)=>True
 | some (.dT _)=>True
 | some (.set _ _)=>True
 | some (.ins _ _ _)=>True
 | some (.ext _)=>True
 | _=>False
section
variable{P:MR}{w:M4}{H:Hp}{h h':MY}{x e:MF}{o':HO}
theorem lb.write(ok:lb P w H h)(J:E7 (H x))(Y:e=x\/H e=some (.own x))(k:∀b u,b≠e->h.get? b=some u->h'.get? b=some u)(U:∃u,h'.get? e=some u)
  (new:bz P w (aV H x o') h' x o'):lb P w (aV H x o') h':=λb u q=>by
 have Z:∀c y,H c=some (.own y)->c≠x:=λc y r z=>by subst z;rw[r]at J;exact J
 have TV:∀c xs,H c=some (.tup xs)->c≠x:=λc xs r z=>by subst z;rw[r]at J;exact J
 by_cases O:b=x
 .subst O;rw[aG]at q;cases q;exact new
 .rw[ao O]at q
  by_cases I:b=e
  .have W:H b=some (.own x):=by
    rcases Y with z|z
    .exact absurd (I.trans z) O
    .rw[I];exact z
   rw[q]at W;cases W;obtain⟨v,hv⟩:=U;exact⟨v,by rw[I];exact hv⟩
  .refine (ok b u q).stay (λc v L r=>k c v ?_ r) (λc r=>by rw[ao (Z c b r)];exact r) λc xs r=>by rw[ao (TV c xs r)];exact r
   rcases L with rfl|L
   .exact I
   .rintro rfl
    rcases Y with z|z
    .exact Z c b L z
    .rw[L]at z;cases z;exact O rfl
end
structure Un(fs ex:List MF)(H H':Hp)(h h':MY):Prop where
 keep:∀b o,h.get? b=some o->H b=none->b∉fs->b∉ex->h'.get? b=some o
 slot:∀b o,h.get? b=some o->H b=none->b∈fs->b∉ex->∃sl,h'.get? b=some { o with slots:=sl }
 free:∀b o,h.get? b=some o->H b=none->b∉ex->H' b=none
 there:∀b o,h.get? b=some o->b∉ex->∃o',h'.get? b=some o'
 tups:∀b xs,H b=some (.tup xs)->H' b=some (.tup xs)
 frzs:∀b o u,H b=some (.frz o u)->H' b=some (.frz o u)
 tbls:∀b ps,H b=some (.tbl ps)->∃more,H' b=some (.tbl (ps ++ more))
section
variable{fs fs' ex ex':List MF}{H H1 H2:Hp}{h h1 h2 h':MY}{a x e:MF}{o:HO}
theorem Un.any(u:Un fs ex H H1 h h1){b:MF}{I:Obj}(q:h.get? b=some I)(n:H b=none)(J:b∉ex):∃sl,h1.get? b=some { I with slots:=sl }:=by
 by_cases L:b∈fs
 .exact u.slot b I q n L J
 .exact⟨I.slots,u.keep b I q n L J⟩
theorem Un.kept(k:∀b u,h.get? b=some u->h'.get? b=some u):Un fs ex H H h h':=
 ⟨λb I q _ _ _=>k b I q,λb I q _ _ _=>⟨I.slots,k b I q⟩,λ_ _ _ n _=>n,λb I q _=>⟨I,k b I q⟩,λ_ _ q=>q,λ_ _ _ q=>q,λ_ ps q=>⟨#[],by rw[q];simp⟩⟩
theorem Un.refl:Un fs ex H H h h:=Un.kept λ_ _ q=>q
theorem Un.laid(k:∀b u,h.get? b=some u->h'.get? b=some u)(I:h.objs.size<=a)(hn:H a=none):Un fs ex H (aV H a o) h h' where
 keep:=λb u q _ _ _=>k b u q
 slot:=λb u q _ _ _=>⟨u.slots,k b u q⟩
 free:=λb u q n _=>by rw[ao (M6 (M9 (ML q) I))];exact n
 there:=λb u q _=>⟨u,k b u q⟩
 tups:=λb xs q=>by rw[ao (bw q hn)];exact q
 frzs:=λb u xs q=>by rw[ao (bw q hn)];exact q
 tbls:=λb ps q=>⟨#[],by rw[ao (bw q hn),q];simp⟩
theorem Un.write(J:E7 (H x))(Y:e=x\/H e=some (.own x))(k:∀b u,b≠e->h.get? b=some u->h'.get? b=some u)(O:∃u,h'.get? e=some u):Un fs ex H (aV H x o) h h':=by
 have U:∀b,H b=none->b≠x:=λb n z=>by subst z;rw[n]at J;exact J
 have W:∀b,H b=none->b≠e:=λb n z=>by
  subst z;rcases Y with r|r
  .exact U b n r
  .rw[n]at r;cases r
 have L:∀b u,H b=some u->¬ E7 (some u)->b≠x:=λb u q nm z=>by subst z;rw[q]at J;exact nm J
 refine⟨λb u q n _ _=>k b u (W b n) q,λb u q n _ _=>⟨u.slots,k b u (W b n) q⟩,λb u q n _=>by rw[ao (U b n)];exact n,λb u q _=>?_,
  λb xs q=>by rw[ao (L b _ q λz=>z)];exact q,λb u xs q=>by rw[ao (L b _ q λz=>z)];exact q,λb ps q=>⟨#[],by rw[ao (L b _ q λz=>z),q];simp⟩⟩
 by_cases I:b=e
 .subst I;exact O
 .exact⟨u,k b u I q⟩
end
noncomputable def K9(h:MY)(H:Hp):List MF:=(List.range h.objs.size).filter λa=>(H a).isSome
def wG(h:MY)(H:Hp):MY:=PySem.W.hideAll h (K9 h H)
theorem Ce(h:MY)(H:Hp):(wG h H).objs.size=h.objs.size:=PySem.W.hideAll_size _ _
theorem Ez{h:MY}{H:Hp}{b:MF}{o:Obj}(e:h.get? b=some o)(n:H b=none):(wG h H).get? b=some o:=
 PySem.W.hideAll_get _ e λI=>by
  have q:(H b).isSome=true:=(RX.mp I).2;rw[n]at q;simp at q
theorem F9{h:MY}{H:Hp}{b:MF}{o:Obj}(e:(wG h H).get? b=some o):h.get? b=some o/\H b=none:=by
 have I:h.get? b=some o:=PySem.W.of_hideAll (K9 h H) e;refine⟨I,?_⟩;cases q:H b with
 | none=>rfl
 | some x=>
  have J:b∈K9 h H:=RX.mpr ⟨mem_range.mpr (ML I),by simp[q]⟩
  have z:(wG h H).get? b=none:=PySem.W.hideAll_none (K9 h H) J;rw[z]at e;cases e
noncomputable def GL(g h:MY)(L:MF):List (MF×Obj):=(List.range h.objs.size).filterMap λa=>if a=L\/(g.get? a).isSome=true then none else (h.get? a).map λo=>(a,o)
def rest(g h:MY)(L d:MF):List (MF×Obj):=(GL g h L).filter λp=>decide (p.1≠d)
structure Mod(K:Pj)(mg:Str->Option MC)(base:MY):Prop where
 kin:K.In base
 glob:base.Ns MT mg
 blt:∃mb,base.Ns R5 mb/\∀x:Str,x≠"__name__"->mb x=Oh x
 nolimit:base.NoLimit
set_option genInjectivity false in
set_option genSizeOf false in
structure Cx where
 prog:MR
 w:M4
 K:Pj
 mg:Str->Option MC
 base:MY
 A:MS
 N:List Str
 s₀:MD
 H₀:Hp
 env:Env
 outer:List Env
 stack:List Env
 ex:List MF
 fn:Str->Bool
 calm:Bool
 pn:List (MF×Obj)
 xe:MC->MD->Prop
def vf(l:List Env):List MF:=l.filterMap (·.frame)
abbrev Cx.fs(X:Cx):List MF:=vf X.outer
def Jr(sc:OU)(x:Str):Prop:=sc.names.lookup x=some .local\/sc.names.lookup x=some .cell\/sc.names.lookup x=some .free
def Ju(sc:OU)(x:Str):Prop:=sc.names.lookup x=some .local\/sc.names.lookup x=some .cell
def LY(env:Env)(h:MY)(m:Str->Option MC)(x:Str)(u:MC):Prop:=
 (env.kindOf x=some .local/\m x=some u)\/((env.kindOf x=some .cell\/env.kindOf x=some .free)/\∃c,env.cells.lookup x=some c/\h.IsCell c (some u))
structure Cx.Ok(X:Cx):Prop where
 mod:Mod X.K X.mg X.base
 kind:X.env.scope.kind=.function
 glob:X.env.globals=MT
 blt:X.env.builtins=R5
 above:X.s₀.heap.objs.size<=X.env.locals
 inj:∀x y c,X.env.cells.lookup x=some c->X.env.cells.lookup y=some c->x=y
 has:∀x,(X.env.kindOf x=some .cell\/X.env.kindOf x=some .free)->∃c,X.env.cells.lookup x=some c
 cab:∀x c,X.fn x=true->X.env.cells.lookup x=some c->X.s₀.heap.objs.size<=c
 hd:X.calm=true->X.A.handled=none
 hs:GT X.A X.pn
 frames:X.A.frames=some X.stack
 stk:X.stack=X.outer\/(X.stack=X.env::X.outer/\X.env.frame=some X.env.locals)
 exf:∀b∈X.ex,b≠X.env.locals/\∀x c,X.env.cells.lookup x=some c->c≠b
 bs:∀b o,X.base.get? b=some o->X.s₀.heap.get? b=some o/\X.H₀ b=none
 bsz:X.base.objs.size<=X.s₀.heap.objs.size
 noex:∀b o,X.base.get? b=some o->b∉X.ex
 exfs:∀b∈X.ex,b∉X.fs
 funs:X.s₀.heap.FunFrames X.base X.outer
 frf:∀b∈X.fs,X.H₀ b=none
structure Inv(X:Cx)(pins:List (MF×Obj))(σ:List (Option V))(H:Hp)(s:MD):Prop where
 ok:X.Ok
 os:s.os=X.s₀.os
 bare:Po s.gens
 base:Un X.fs X.ex X.H₀ H X.s₀.heap s.heap
 loc:∃m,s.heap.Ns X.env.locals m/\∀(i:Nat) (x:Str) (v:V),X.N[i]?=some x->σ[i]?=some (some v)->Jr X.env.scope x->∃u,aF v u/\LY X.env s.heap m x u
 cell:∀x c,X.env.cells.lookup x=some c->∃v,s.heap.IsCell c v
 free:H X.env.locals=none
 freeC:∀x c,X.env.cells.lookup x=some c->H c=none
 pin:∀p∈X.pn ++ pins,s.heap.get? p.1=some p.2/\H p.1=none/\p.1≠X.env.locals/\p.1∉X.fs/\∀v,p.2.data≠.cell v
 hok:lb X.prog X.w H s.heap
 len:σ.length=X.N.length
section
variable{X:Cx}{pins:List (MF×Obj)}{σ:List (Option V)}{H H':Hp}{s:MD}{h':MY}
theorem Cx.Ok.nofr(ok:X.Ok){b:MF}{o:Obj}(e:X.base.get? b=some o):b∉X.fs:=λI=>by
 have:=(ok.funs.mem I).1;rw[e]at this;cases this
theorem Inv.bs(I:Inv X pins σ H s):∀b o,X.base.get? b=some o->s.heap.get? b=some o/\H b=none:=λb o e=>
 ⟨I.base.keep b o (I.ok.bs b o e).1 (I.ok.bs b o e).2 (I.ok.nofr e) (I.ok.noex b o e),I.base.free b o (I.ok.bs b o e).1 (I.ok.bs b o e).2 (I.ok.noex b o e)⟩
theorem Inv.bk(I:Inv X pins σ H s):∀b o,X.base.get? b=some o->s.heap.get? b=some o:=λb o e=>(I.bs b o e).1
theorem Inv.mod(I:Inv X pins σ H s):Mod X.K X.mg X.base:=I.ok.mod
theorem Inv.kIn(I:Inv X pins σ H s):X.K.In s.heap:=I.ok.mod.kin.keeps I.bk
theorem Inv.hds(I:Inv X pins σ H s):ig X.A s.heap:=I.ok.hs.to λp J=>(I.pin p (Nc _ J)).1
theorem Inv.lt(I:Inv X pins σ H s):X.env.locals < s.heap.objs.size:=let ⟨_,hn,_⟩:=I.loc;hn.lt
theorem Inv.sz(I:Inv X pins σ H s):X.s₀.heap.objs.size<=s.heap.objs.size:=le_trans I.ok.above (le_of_lt I.lt)
theorem Inv.nofs(I:Inv X pins σ H s){a:MF}(h:s.heap.objs.size<=a):a∉X.fs:=λL=>by
 obtain⟨_,o,J,_⟩:=I.ok.funs.mem L;exact absurd (M9 (ML J) (le_trans I.sz h)) (Nat.lt_irrefl _)
theorem Inv.cne(I:Inv X pins σ H s):∀x c,X.env.cells.lookup x=some c->c≠X.env.locals:=λx c e z=>by
 obtain⟨v,o,O,hd⟩:=I.cell x c e;obtain⟨m,⟨o',es,ep,J,L,_⟩,_⟩:=I.loc;rw[z,J]at O;cases O;rw[L]at hd;cases hd
theorem Inv.funs(I:Inv X pins σ H s):s.heap.FunFrames X.base X.outer:=by
 have all:∀(l:List Env),(∀b∈vf l,b∈X.fs)->X.s₀.heap.FunFrames X.base l->s.heap.FunFrames X.base l:=by
  intro l
  induction l with
  | nil=>intro _ _;trivial
  | cons env r W=>
   intro hs hl;obtain⟨hk,⟨L,o,J,hn,Z,hd⟩,Y⟩:=hl;have U:L∈X.fs:=hs L (by unfold vf;rw[NJ,J];exact MW)
   obtain⟨sl,e⟩:=I.base.slot L o Z (I.ok.frf L U) U λz=>I.ok.exfs L z U;exact⟨hk,⟨L,_,J,hn,e,hd⟩,W (λb O=>hs b (by unfold vf;rw[NJ,J];exact MQ _ O)) Y⟩
 exact all X.outer (λ_ O=>O) I.ok.funs
theorem Inv.stack(I:Inv X pins σ H s):s.heap.FunFrames X.base X.stack:=by
 rcases I.ok.stk with e|⟨e,J⟩
 .rw[e];exact I.funs
 .rw[e];obtain⟨m,hn,_⟩:=I.loc;refine .cons (by rw[I.ok.kind];decide) J hn ?_ I.funs
  exact Heap.get?_none_of_le (le_trans I.ok.bsz I.ok.above)
theorem Inv.stkSub(I:Inv X pins σ H s):∀b∈vf X.stack,b∈X.env.locals::X.fs:=λb J=>by
 rcases I.ok.stk with e|⟨e,L⟩
 .rw[e]at J;exact MQ _ J
 .rw[e]at J;unfold vf at J;rw[NJ,L]at J;exact J
theorem Inv.stkFree(I:Inv X pins σ H s):∀b∈vf X.stack,H b=none:=λb J=>by
 rcases NC.mp (I.stkSub b J)with e|J
 .rw[e];exact I.free
 .obtain⟨_,o,L,_⟩:=I.ok.funs.mem J;exact I.base.free b o L (I.ok.frf b J) λz=>I.ok.exfs b z J
theorem Inv.step{g':Array GenState}{t':Nat}{d':Drawn}{ch:List MF}(I:Inv X pins σ H s)
  (O:∀b∈ch,(b∈X.ex\/X.s₀.heap.objs.size<=b)/\b≠X.env.locals/\(∀x c,X.env.cells.lookup x=some c->c≠b)/\∀p∈X.pn ++ pins,p.1≠b)
  (keep:∀b o,b≠X.env.locals->b∉X.fs->b∉ch->s.heap.get? b=some o->H b=none->h'.get? b=some o)
  (slot:∀b o,b≠X.env.locals->b∈X.fs->b∉ch->s.heap.get? b=some o->H b=none->∃sl,h'.get? b=some { o with slots:=sl }) (free:∀b o,b∉ch->s.heap.get? b=some o->H b=none->H' b=none)
  (there:∀b o,b∉ch->s.heap.get? b=some o->∃o',h'.get? b=some o')
  (tups:∀b xs,H b=some (.tup xs)->H' b=some (.tup xs)) (frzs:∀b o u,H b=some (.frz o u)->H' b=some (.frz o u)) (tbls:∀b ps,H b=some (.tbl ps)->∃more,H' b=some (.tbl (ps ++ more)))
  (ns:∀m,s.heap.Ns X.env.locals m->h'.Ns X.env.locals m) (hok:lb X.prog X.w H' h') (hg:Po g'):
  Inv X pins σ H' { s with heap:=h',gens:=g',drawn:=d',toks:=t' }:=by
 have neL:∀b o,X.s₀.heap.get? b=some o->b≠X.env.locals:=λb o e=>M6 (M9 (ML e) I.ok.above);have U:∀b o,X.s₀.heap.get? b=some o->b∉X.ex->b∉ch:=λb o e J Y=>by
  rcases (O b Y).1 with z|z
  .exact J z
  .exact absurd (M9 (ML e) z) (Nat.lt_irrefl _)
 have cellK:∀x c,X.env.cells.lookup x=some c->∀v,s.heap.IsCell c v->h'.IsCell c v:=λx c e v zz=>by
  obtain⟨o,Z,hd⟩:=zz;have L:c∉ch:=λz=>(O c z).2.2.1 x c e rfl
  by_cases hc:c∈X.fs
  .obtain⟨sl,q⟩:=slot c o (I.cne x c e) hc L Z (I.freeC x c e);exact⟨_,q,hd⟩
  .exact⟨o,keep c o (I.cne x c e) hc L Z (I.freeC x c e),hd⟩
 refine⟨I.ok,I.os,hg,⟨λb o e n Y J=>?_,λb o e n Y J=>?_,λb o e n J=>?_,λb o e J=>?_,λb xs e=>tups b xs (I.base.tups b xs e),λb o xs e=>frzs b o xs (I.base.frzs b o xs e),λb ps e=>?_⟩,?_,λx c e=>?_,?_,λx c e=>?_,λp hp=>?_,hok,I.len⟩
 .exact keep b o (neL b o e) Y (U b o e J) (I.base.keep b o e n Y J) (I.base.free b o e n J)
 .obtain⟨sl,W⟩:=I.base.slot b o e n Y J;obtain⟨sl',e2⟩:=slot b _ (neL b o e) Y (U b o e J) W (I.base.free b o e n J);exact⟨sl',e2⟩
 .obtain⟨o',W⟩:=I.base.there b o e J;exact free b o' (U b o e J) W (I.base.free b o e n J)
 .obtain⟨o',W⟩:=I.base.there b o e J;exact there b o' (U b o e J) W
 .obtain⟨m1,W⟩:=I.base.tbls b ps e;obtain⟨m2,e2⟩:=tbls b _ W;exact⟨m1 ++ m2,by rw[e2,Array.append_assoc]⟩
 .obtain⟨m,hn,hl⟩:=I.loc;refine⟨m,ns m hn,λi x v W e2 e3=>?_⟩;obtain⟨u,r,l⟩:=hl i x v W e2 e3;refine⟨u,r,?_⟩;rcases l with l|⟨k,c,e,z⟩
  .exact .inl l
  .exact .inr ⟨k,c,e,cellK x c e _ z⟩
 .obtain⟨v,z⟩:=I.cell x c e;exact⟨v,cellK x c e v z⟩
 .obtain⟨m,⟨o,_,_,Z,_⟩,_⟩:=I.loc;exact free _ o (λz=>(O _ z).2.1 rfl) Z I.free
 .obtain⟨v,o,Z,hd⟩:=I.cell x c e;exact free c o (λz=>(O c z).2.2.1 x c e rfl) Z (I.freeC x c e)
 .obtain⟨e,n,ne,nf,d⟩:=I.pin p hp;have L:p.1∉ch:=λz=>(O p.1 z).2.2.2 p hp rfl;exact⟨keep p.1 p.2 ne nf L e n,free p.1 p.2 L e n,ne,nf,d⟩
theorem Inv.un{t':Nat}(I:Inv X pins σ H s)(u:Un X.fs [] H H' s.heap h')(hok:lb X.prog X.w H' h'):Inv X pins σ H' { s with heap:=h',toks:=t' }:=by
 obtain⟨m,⟨o,es,ep,W,r⟩,_⟩:=id I.loc;obtain⟨sl,Z⟩:=u.any W I.free (by simp)
 exact I.step (ch:=[]) (λ_ z=>nomatch z) (λb o _ L _ e n=>u.keep b o e n L (by simp)) (λb o _ L _ e n=>u.slot b o e n L (by simp)) (λb o _ e n=>u.free b o e n (by simp)) (λb o _ e=>u.there b o e (by simp)) u.tups u.frzs u.tbls (λm' Y=>by
  obtain⟨o',O,U,J,r'⟩:=Y;rw[W]at J;cases J;exact⟨_,O,U,Z,r'⟩) hok I.bare
theorem Inv.call{g':Array GenState}{t':Nat}{d':Drawn}{ch:List MF}(I:Inv X pins σ H s)(u:Un (vf X.stack) ch H H' s.heap h')(hok:lb X.prog X.w H' h')(hg:Po g')
  (O:∀b∈ch,(b∈X.ex\/X.s₀.heap.objs.size<=b)/\b≠X.env.locals/\(∀x c,X.env.cells.lookup x=some c->c≠b)/\∀p∈X.pn ++ pins,p.1≠b):
  Inv X pins σ H' { s with heap:=h',gens:=g',drawn:=d',toks:=t' }:=by
 obtain⟨m,⟨o,es,ep,Z,r⟩,_⟩:=id I.loc;obtain⟨sl,U⟩:=u.any Z I.free λz=>(O _ z).2.1 rfl;exact I.step O (λb o U hb J e n=>u.keep b o e n (λz=>(NC.mp (I.stkSub b z)).elim U hb) J) (λb o _ _ J e n=>u.any e n J) (λb o J e n=>u.free b o e n J) (λb o J e=>u.there b o e J) u.tups u.frzs u.tbls (λm' hm=>by
  obtain⟨o',W,Y,L,r'⟩:=hm;rw[Z]at L;cases L;exact⟨_,W,Y,U,r'⟩) hok hg
theorem Inv.turned{t':Nat}{it:MF}(I:Inv X pins σ H s)(k:∀b o,b≠it->s.heap.get? b=some o->h'.get? b=some o)(hn:H it=none)(O:it≠X.env.locals)
  (h1:it∈X.ex\/X.s₀.heap.objs.size<=it) (h2:∀x c,X.env.cells.lookup x=some c->c≠it) (Z:∀p∈X.pn ++ pins,p.1≠it):Inv X pins σ H { s with heap:=h',toks:=t' }:=by
 have L:∀b u,H b=some u->b≠it:=λb u e z=>by rw[z,hn]at e;cases e
 refine I.step (ch:=[it]) (λb Y=>?_) (λb o _ _ J e _=>k b o (λz=>J (by simp[z])) e) (λb o _ _ J e _=>⟨o.slots,k b o (λz=>J (by simp[z])) e⟩) (λ_ _ _ _ n=>n)
  (λb o J e=>⟨o,k b o (λz=>J (by simp[z])) e⟩) (λ_ _ e=>e) (λ_ _ _ e=>e) (λb ps e=>⟨#[],by rw[e];simp⟩) (λm W=>?_) (λb u e=>?_) I.bare
 .have e:b=it:=by simpa using Y
  subst e;exact⟨h1,O,h2,Z⟩
 .obtain⟨o,es,ep,U,r⟩:=W;exact⟨o,es,ep,k _ o (Ne.symm O) U,r⟩
 .refine (I.hok b u e).stay (λc v J q=>k c v ?_ q) (λ_ q=>q) λ_ _ q=>q;rcases J with z|z
  .rw[z];exact L b u e
  .exact L c _ z
theorem Inv.tok(I:Inv X pins σ H s)(t:Nat):Inv X pins σ H { s with toks:=t }:=I.un Un.refl I.hok
theorem Inv.kept{t':Nat}(I:Inv X pins σ H s)(k:∀b u,s.heap.get? b=some u->h'.get? b=some u):Inv X pins σ H { s with heap:=h',toks:=t' }:=I.un (Un.kept k) (I.hok.kept k)
theorem Inv.laid{a:MF}{o:HO}{t':Nat}(I:Inv X pins σ H s)(k:∀b u,s.heap.get? b=some u->h'.get? b=some u)(J:s.heap.objs.size<=a)(new:bz X.prog X.w (aV H a o) h' a o):
  Inv X pins σ (aV H a o) { s with heap:=h',toks:=t' }:=I.un (Un.laid k J (I.hok.fresh J)) (I.hok.laid k J new)
theorem Inv.write{x e:MF}{o:HO}{t':Nat}(I:Inv X pins σ H s)(L:E7 (H x))(O:e=x\/H e=some (.own x))(k:∀b u,b≠e->s.heap.get? b=some u->h'.get? b=some u)(J:∃u,h'.get? e=some u)
  (new:bz X.prog X.w (aV H x o) h' x o):Inv X pins σ (aV H x o) { s with heap:=h',toks:=t' }:=I.un (Un.write L O k J) (I.hok.write L O k J new)
theorem Inv.pins_of{J:List (MF×Obj)}(I:Inv X pins σ H s)(h:∀p∈J,s.heap.get? p.1=some p.2/\H p.1=none/\p.1≠X.env.locals/\p.1∉X.fs/\∀v,p.2.data≠.cell v):Inv X J σ H s:=
 ⟨I.ok,I.os,I.bare,I.base,I.loc,I.cell,I.free,I.freeC,λp L=>(Qi.mp L).elim (λz=>I.pin p (Nc _ z)) (h p),I.hok,I.len⟩
theorem r_{N:List Str}(I:N.Nodup){i j:Nat}{x:Str}(a:N[i]?=some x)(b:N[j]?=some x):i=j:=by
 obtain⟨h1,L⟩:=List.getElem?_eq_some_iff.mp a;obtain⟨h2,J⟩:=List.getElem?_eq_some_iff.mp b;exact (List.getElem_inj I).mp (L.trans J.symm)
theorem uL{M:Rz}{A:MS}{E:MC->MD->Prop}{i:Nat}{x:Str}{v:V}{u:MC}{Q:Unit->MD->Prop}(I:Inv X pins σ H s)(hN:X.N.Nodup)(hi:X.N[i]?=some x)(O:Ju X.env.scope x)(r:aF v u)
  (h:∀s',Inv X pins (σ.set i (some v)) H s'->(∃a,Ov a s.heap s'.heap/\(a=X.env.locals\/X.env.cells.lookup x=some a))->Q () s') (hf:X.fn x=true\/X.env.scope.names.lookup x=some .local:=by first|exact .inl rfl|exact .inr rfl|assumption):MJ M A (storeName X.env x u) Q E s:=by
 obtain⟨m,hn,hl⟩:=id I.loc;have Tr:(X.env.scope.kind == .class || (X.env.scope.kind == .module && X.env.locals != X.env.globals))=false:=by rw[I.ok.kind];rfl
 have Y:i < σ.length:=by rw[I.len];exact (List.getElem?_eq_some_iff.mp hi).1
 have cne:=I.cne;have tracked:∀{a:MF} {h':MY},(∃o,s.heap.get? a=some o/\H a=none)->Ov a s.heap h'->lb X.prog X.w H h':=λ{a h'} ha hs b ob e=>by
  obtain⟨_,_,SB⟩:=ha;refine (I.hok b ob e).stay (λc w' L q=>(hs.2 c ?_).trans q) (λ_ q=>q) λ_ _ q=>q
  rintro rfl
  rcases L with rfl|L
  .rw[SB]at e;cases e
  .rw[SB]at L;cases L
 rcases O with W|W
 .refine wpAny_storeName_local W hn (λh' hn' hs=>?_) Tr;obtain⟨oL,_,_,hoL,_⟩:=id hn;refine h _ ⟨I.ok,I.os,I.bare,⟨λb o e n hb O=>?_,λb o e n hb O=>?_,I.base.free,λb o e O=>?_,I.base.tups,I.base.frzs,I.base.tbls⟩,⟨_,hn',λj y v' J U e3=>?_⟩,λy c e=>?_,I.free,I.freeC,λp hp=>?_,tracked ⟨oL,hoL,I.free⟩ hs,by simpa using I.len⟩ ⟨_,hs,.inl rfl⟩
  .exact (hs.2 b (M6 (M9 (ML e) I.ok.above))).trans (I.base.keep b o e n hb O)
  .obtain⟨sl,J⟩:=I.base.slot b o e n hb O;exact⟨sl,(hs.2 b (M6 (M9 (ML e) I.ok.above))).trans J⟩
  .obtain⟨o',J⟩:=I.base.there b o e O;exact⟨o',(hs.2 b (M6 (M9 (ML e) I.ok.above))).trans J⟩
  .by_cases Z:j=i
   .subst Z;rw[hi]at J;cases J;rw[NY Y]at U;cases U;exact⟨u,r,.inl ⟨W,by simp⟩⟩
   .rw[Oc (Ne.symm Z)]at U;obtain⟨u',r',q⟩:=hl j y v' J U e3;refine⟨u',r',?_⟩;rcases q with ⟨k,e⟩|⟨k,c,e,z⟩
    .refine .inl ⟨k,?_⟩;have:y≠x:=λe=>Z (r_ hN J (e ▸ hi));simp[this,e]
    .exact .inr ⟨k,c,e,z.sameBut hs (cne y c e)⟩
  .obtain⟨w',z⟩:=I.cell y c e;exact⟨w',z.sameBut hs (cne y c e)⟩
  .obtain⟨e,n,ne,nf,d⟩:=I.pin p hp;exact⟨(hs.2 p.1 ne).trans e,n,ne,nf,d⟩
 .have hfn:X.fn x=true:=by
   rcases hf with z|z
   .exact z
   .rw[z]at W;cases W
  obtain⟨c,L⟩:=I.ok.has x (.inl W);obtain⟨w',z⟩:=I.cell x c L;refine wpAny_storeName_cell I.ok.kind W L z (λh' hc' hs=>?_);obtain⟨oc,hoc,hocd⟩:=id z;refine h { s with heap:=h' } ⟨I.ok,I.os,I.bare,⟨λb o e n hb O=>?_,λb o e n hb O=>?_,I.base.free,λb o e O=>?_,I.base.tups,I.base.frzs,I.base.tbls⟩,⟨m,hn.sameBut hs (Ne.symm (cne x c L)),λj y v' J U e3=>?_⟩,λy c' e=>?_,I.free,I.freeC,λp hp=>?_,tracked ⟨oc,hoc,I.freeC x c L⟩ hs,by simpa using I.len⟩ ⟨c,hs,.inr L⟩
  .exact (hs.2 b (M6 (M9 (ML e) (I.ok.cab x c hfn L)))).trans (I.base.keep b o e n hb O)
  .obtain⟨sl,J⟩:=I.base.slot b o e n hb O;exact⟨sl,(hs.2 b (M6 (M9 (ML e) (I.ok.cab x c hfn L)))).trans J⟩
  .obtain⟨o',J⟩:=I.base.there b o e O;exact⟨o',(hs.2 b (M6 (M9 (ML e) (I.ok.cab x c hfn L)))).trans J⟩
  .by_cases Z:j=i
   .subst Z;rw[hi]at J;cases J;rw[NY Y]at U;cases U;exact⟨u,r,.inr ⟨.inl W,c,L,hc'⟩⟩
   .rw[Oc (Ne.symm Z)]at U;obtain⟨u',r',q⟩:=hl j y v' J U e3;refine⟨u',r',?_⟩;rcases q with q|⟨k,c',e,z'⟩
    .exact .inl q
    .refine .inr ⟨k,c',e,z'.sameBut hs ?_⟩
     rintro rfl
     exact Z (r_ hN J (I.ok.inj _ _ _ e L ▸ hi))
  .by_cases hcc:c'=c
   .subst hcc;exact⟨_,hc'⟩
   .obtain⟨w2,z2⟩:=I.cell y c' e;exact⟨w2,z2.sameBut hs hcc⟩
  .obtain⟨e,n,ne,nf,d⟩:=I.pin p hp;refine⟨(hs.2 p.1 ?_).trans e,n,ne,nf,d⟩;intro q;exact d w' (by simp_all)
theorem mQ{M:Rz}{A:MS}{E:MC->MD->Prop}{i:Nat}{x:Str}{v:V}{u:MC}{Q:Unit->MD->Prop}(I:Inv X pins σ H s)(O:X.N.Nodup)(hi:X.N[i]?=some x)(J:Ju X.env.scope x)(r:aF v u)
  (h:∀s',Inv X pins (σ.set i (some v)) H s'->Q () s') (L:X.fn x=true\/X.env.scope.names.lookup x=some .local:=by first|exact .inl rfl|exact .inr rfl|assumption):MJ M A (storeName X.env x u) Q E s:=
 uL I O hi J r (λs' U _=>h s' U) L
theorem Inv.call'{s':MD}{ch:List MF}(I:Inv X pins σ H s)(ho:s'.os=s.os)(u:Un (vf X.stack) ch H H' s.heap s'.heap)(hok:lb X.prog X.w H' s'.heap)(L:Po s'.gens)
  (J:∀b∈ch,(b∈X.ex\/X.s₀.heap.objs.size<=b)/\b≠X.env.locals/\(∀x c,X.env.cells.lookup x=some c->c≠b)/\∀p∈X.pn ++ pins,p.1≠b):Inv X pins σ H' s':=by
 obtain⟨h',U,W,O,o'⟩:=s';have e:=ho;subst e;exact I.call u hok L J
end
abbrev XK:=MC->Option MF->Hp->Prop
abbrev St:=List (Option V)
abbrev VK:=V->Hp->Prop
abbrev TE:=St->Hp->VK->Prop
abbrev TT:=St->Hp->(Bool->Hp->Prop)->Prop
abbrev TA:=St->Hp->(List V->Hp->Prop)->Prop
structure Ends where
 nx:St->Hp->Prop
 rt:VK
 bk:St->Hp->Prop:=λ_ _=>False
 ct:St->Hp->Prop:=λ_ _=>False
abbrev TS:=Ends->St->Hp->Prop
def EP(X:Cx)(pins:List (MF×Obj))(σ:St)(Q:VK)(u:MC)(s':MD):Prop:=∃v H',Inv X pins σ H' s'/\aF v u/\Q v H'
def TP(X:Cx)(pins:List (MF×Obj))(σ:St)(Q:Bool->Hp->Prop)(b:Bool)(s':MD):Prop:=∃H',Inv X pins σ H' s'/\Q b H'
def AP(X:Cx)(pins:List (MF×Obj))(σ:St)(Q:List V->Hp->Prop)(us:List MC)(s':MD):Prop:=∃vs H',Inv X pins σ H' s'/\Vals vs us/\Q vs H'
def SP(X:Cx)(pins:List (MF×Obj))(D:Ends)(f:Flow)(s':MD):Prop:=
 match f with
 | .next=>∃I H',Inv X pins I H' s'/\D.nx I H'
 | .brk=>∃I H',Inv X pins I H' s'/\D.bk I H'
 | .cont=>∃I H',Inv X pins I H' s'/\D.ct I H'
 | .ret u=>∃v I H',Inv X pins I H' s'/\aF v u/\D.rt v H'
def PE(X:Cx)(e:M7)(t:TE):Prop:=
 ∀(pins:List (MF×Obj)) (s:MD) (σ:St) (H:Hp) (Q:VK),Inv X pins σ H s->t σ H Q->MJ (MK X.prog X.w) X.A (eval e X.env) (EP X pins σ Q) X.xe s
def PT(X:Cx)(e:M7)(t:TT):Prop:=
 ∀(pins:List (MF×Obj)) (s:MD) (σ:St) (H:Hp) (Q:Bool->Hp->Prop),Inv X pins σ H s->t σ H Q->MJ (MK X.prog X.w) X.A (Rj e X.env (eval e X.env)) (TP X pins σ Q) X.xe s
def PW(X:Cx)(e:M7)(t:TT):Prop:=
 ∀(whole:Sem MC) (pins:List (MF×Obj)) (s:MD) (σ:St) (H:Hp) (Q:Bool->Hp->Prop),Inv X pins σ H s->t σ H Q->MJ (MK X.prog X.w) X.A (Rj e X.env whole) (TP X pins σ Q) X.xe s
theorem PW.pt{X:Cx}{e:M7}{t:TT}(h:PW X e t):PT X e t:=h _
def PA(X:Cx)(es:List M7)(t:TA):Prop:=
 ∀(pos:Pos) (pins:List (MF×Obj)) (s:MD) (σ:St) (H:Hp) (Q:List V->Hp->Prop),Inv X pins σ H s->t σ H Q->MJ (MK X.prog X.w) X.A (spliced (NM pos (MP es X.env))) (AP X pins σ Q) X.xe s
def PS(X:Cx)(st:Nd)(t:TS):Prop:=
 ∀(pins:List (MF×Obj)) (s:MD) (σ:St) (H:Hp) (D:Ends),Inv X pins σ H s->t D σ H->MJ (MK X.prog X.w) X.A (exec st X.env) (SP X pins D) X.xe s
def iO(X:Cx)(st:List Nd)(t:TS):Prop:=
 ∀(pins:List (MF×Obj)) (s:MD) (σ:St) (H:Hp) (D:Ends),Inv X pins σ H s->t D σ H->MJ (MK X.prog X.w) X.A (execs st X.env) (SP X pins D) X.xe s
theorem b_{α:Type}{t:Sem α}{Q I:α->MD->Prop}{M:Rz}{A:MS}{E:MC->MD->Prop}{s:MD}(h:MJ M A t Q E s)(J:∀a s,Q a s->I a s):MJ M A t I E s:=Nf h J λ_ _ x=>x
section
variable{X:Cx}
def Li(i:Nat):TE:=λσ H Q=>∃v,σ[i]?=some (some v)/\Q v H
def tC(v:V):TE:=λ_ H Q=>Q v H
theorem v_{i:Nat}{x:Str}{pos:Pos}(Z:X.N[i]?=some x)(U:Jr X.env.scope x)(hd:(x == ("__debug__":Str))=false:=by decide)(L:(x == ("__classdict__":Str))=false:=by decide):PE X (.Name x pos) (Li i):=by
 intro pins s σ H Q I h;obtain⟨v,e,h⟩:=h;obtain⟨m,hn,Y⟩:=I.loc;obtain⟨u,r,l⟩:=Y i x v Z e U;have fin:EP X pins σ Q u s:=⟨v,H,I,r,h⟩;rcases l with ⟨J,W⟩|⟨J,c,O,SC⟩
 .exact RU (wpAny_loadName_local I.ok.kind J hn W fin) hd
 .rcases J with J|J
  .exact RU (wpAny_loadName_cell I.ok.kind J O SC fin) hd
  .exact RU (wpAny_loadName_free I.ok.kind J O SC fin L) hd
theorem Im{i j pos}:PE X (.Constant (.int i) j pos) (tC (.int i)):=λ_ _ _ H _ I h=>wpAny_Constant_int ⟨.int i,H,I.tok _,⟨_,rfl⟩,h⟩
theorem J8{b j pos}:PE X (.Constant (.bool b) j pos) (tC (.bl b)):=λ_ _ _ H _ I h=>Constant_bool ⟨.bl b,H,I,rfl,h⟩
theorem Ik{j pos}:PE X (.Constant .none j pos) (tC .non):=λ_ _ _ H _ I h=>Constant_none ⟨.non,H,I,rfl,h⟩
theorem Ii{x j pos}:PE X (.Constant (.str x) j pos) (tC (.str x)):=λ_ _ _ H _ I h=>Calls.Constant_str ⟨.str x,H,I.tok _,⟨_,rfl⟩,h⟩
def Gl(X:Cx)(x:Str):Prop:=X.env.kindOf x=some .globalImplicit
theorem i8{E:MC->MD->Prop}{pins:List (MF×Obj)}{s:MD}{σ:St}{H:Hp}{x:Str}{u:MC}{pos:Pos}{Q:MC->MD->Prop}(I:Inv X pins σ H s)(L:Gl X x)(J:X.mg x=some u)(h:Q u s)
  (hd:(x == ("__debug__":Str))=false:=by decide):MJ (MK X.prog X.w) X.A (eval (.Name x pos) X.env) Q E s:=
 Q0 I.ok.kind L (Calls.loadGlobal_global (by rw[I.ok.glob];exact I.mod.glob.keeps I.bk) J h) hd
theorem h_{E:MC->MD->Prop}{pins:List (MF×Obj)}{s:MD}{σ:St}{H:Hp}{x:Str}{u:MC}{pos:Pos}{Q:MC->MD->Prop}(I:Inv X pins σ H s)(O:Gl X x)(L:X.mg x=none)(J:Oh x=some u)(h:Q u s)
  (hn:x≠"__name__":=by decide) (hd:(x == ("__debug__":Str))=false:=by decide):MJ (MK X.prog X.w) X.A (eval (.Name x pos) X.env) Q E s:=by
 obtain⟨U,h1,h2⟩:=I.mod.blt;exact Q0 I.ok.kind O (Calls.loadGlobal_builtin (by rw[I.ok.glob];exact I.mod.glob.keeps I.bk) L (by rw[I.ok.blt];exact h1.keeps I.bk) ((h2 x hn).trans J) h) hd
theorem A3{x:Str}{v:V}{u:MC}{pos:Pos}(L:Gl X x)(J:X.mg x=some u)(r:aF v u)(hd:(x == ("__debug__":Str))=false:=by decide):PE X (.Name x pos) (tC v):=
 λ_ _ _ H _ I h=>i8 I L J ⟨v,H,I,r,h⟩ hd
variable{a b:M7}{ta tb:TE}{pos:Pos}
def PC(X:Cx)(op:PP)(a b:M7)(t:TE):Prop:=
 ∀(pins:List (MF×Obj)) (s:MD) (σ:St) (H:Hp) (Q:VK),Inv X pins σ H s->t σ H Q->
  MJ (MK X.prog X.w) X.A (eval a X.env) (λv J=>MJ (MK X.prog X.w) X.A (eval b X.env) (λu I=>MJ (MK X.prog X.w) X.A (Nq op v u) (EP X pins σ Q) X.xe I) X.xe J) X.xe s
def tB(t:TE):TT:=λσ H Q=>t σ H λx H1=>∃c,x=.bl c/\Q c H1
theorem Io{op:PP}{t:TE}(h:PC X op a b t)(h1:NN op b=false:=by first|exact nobehind _ (by decide) (by decide)|rfl):PE X (.Compare a [op] [b] pos) t:=λpins s σ H Q I hw=>wpAny_Compare1 (h pins s σ H Q I hw) h1
theorem DL{op:PP}{t:TE}(h:PC X op a b t)(h1:NN op b=false:=by first|exact nobehind _ (by decide) (by decide)|rfl):PT X (.Compare a [op] [b] pos) (tB t):=by
 intro pins s σ H Q I hw;refine Rn (b_ (h pins s σ H _ I hw) λv s1 h1=>b_ h1 λu Y h2=>b_ h2 λc W J=>?_) h1;obtain⟨x,H1,U,L,O⟩:=J;obtain⟨d,rfl,q⟩:=O;cases L;exact Od ⟨H1,U,q⟩
variable{tA tB':TT}{rest:List M7}
def Mj(t u:TT):TT:=λσ H Q=>t σ H λc H1=>if c=true then Q true H1 else u σ H1 Q
def Lm(t:TT):TT:=λσ H Q=>t σ H λc H1=>Q (!c) H1
theorem HZ(J:PT X a tA):PW X (.BoolOp .Or [a] pos) tA:=by
 intro L pins s σ H Q I h;refine isTrue_or (b_ (J pins s σ H Q I h) λc s1 e=>?_);cases c with
 | false=>exact isTrue_or_nil e
 | true=>exact e
theorem pw_or(Y:PT X a tA)(W:PW X (.BoolOp .Or (b::rest) pos) tB'):PW X (.BoolOp .Or (a::b::rest) pos) (Mj tA tB'):=by
 intro U pins s σ H Q I h;refine isTrue_or (b_ (Y pins s σ H _ I h) λc s1 O=>?_);obtain⟨H1,L,J⟩:=O;cases c with
 | true=>exact⟨H1,L,J⟩
 | false=>exact W U pins s1 σ H1 Q L J
theorem Ia(J:PT X a tA):PT X (.UnaryOp .Not a pos) (Lm tA):=by
 intro pins s σ H Q I h;exact isTrue_not (J pins s σ H (λc H1=>Q (!c) H1) I h)
def JM(ta tb:TE):TE:=λσ H Q=>ta σ H λx H1=>∃c,x=.bl c/\if c=true then tb σ H1 Q else Q (.bl false) H1
theorem Ij{op}{t:TE}(h:PE X a t):PE X (.BoolOp op [a] pos) t:=λpins s σ H Q I hw=>BoolOp_one (h pins s σ H Q I hw)
theorem Ip(Y:PE X a ta)(W:PE X (.BoolOp .And (b::rest) pos) tb):PE X (.BoolOp .And (a::b::rest) pos) (JM ta tb):=by
 intro pins s σ H Q I h;refine BoolOp_and (b_ (Y pins s σ H _ I h) λv s1 O=>?_);obtain⟨x,H1,L,U,J⟩:=O;obtain⟨c,rfl,J⟩:=J;cases U;refine Od ?_;cases c with
 | true=>exact W pins s1 σ H1 Q L J
 | false=>exact⟨.bl false,H1,L,rfl,J⟩
end
def ij(K:Pj)(H:Hp)(a:MF)(xs:List V):Prop:=
 Rd H a (.lst xs)\/
  ∃(o:Obj) (I:Array MC) (n:Nat),K.lookup a=some o/\o.cls=.type "list"/\o.dict=none/\o.data=.seq I n/\I.size<=MN/\Vals xs I.toList
def jL(K:Pj)(H:Hp)(a:MF)(xs:List V):Prop:=
 Rd H a (.tup xs)\/
  ∃(o:Obj) (I:Array MC) (n:Nat),K.lookup a=some o/\(o.cls=.type "tuple"/\o.dict=none)/\o.data=.seq I n/\I.size<=MN/\Vals xs I.toList
noncomputable def LU:MC->Option V
 | .none=>some .non
 | .bool b=>some (.bl b)
 | .int i _=>some (.int i)
 | .str x _=>some (.str x)
 | .bytes b _=>some (.byt b)
 | .float b _=>some (.flt b)
 | .ref a=>some (.ref a)
 | .type n=>some (.ty n)
 | _=>none
theorem aF.abs{x:V}{u:MC}(r:aF x u):LU u=some x:=by
 cases x with
 | non=>cases r;rfl
 | bl _=>cases r;rfl
 | int _=>obtain⟨t,rfl⟩:=r;rfl
 | str _=>obtain⟨t,rfl⟩:=r;rfl
 | byt _=>obtain⟨t,rfl⟩:=r;rfl
 | flt _=>obtain⟨t,rfl⟩:=r;rfl
 | ref _=>cases r;rfl
 | ty _=>cases r;rfl
theorem aF.inj{x y:V}{u:MC}(r:aF x u)(q:aF y u):x=y:=Option.some.inj (r.abs.symm.trans q.abs)
theorem Vals.inj:∀{xs ys:List V} {us:List MC},Vals xs us->Vals ys us->xs=ys
 | _,_,_,.nil,.nil=>rfl
 | _,_,_,.cons r t,.cons r' I=>by rw[r.inj r',Vals.inj t I]
section
variable{X:Cx}{pins:List (MF×Obj)}{σ:St}{H:Hp}{s:MD}{a:MF}{xs ys:List V}
theorem ij.of{K:Pj}(h:H a=some (.lst xs)):ij K H a xs:=.inl (.inl h)
theorem jL.of{K:Pj}(h:H a=some (.tup xs)):jL K H a xs:=.inl (.inl h)
theorem Inv.list(I:Inv X pins σ H s)(h:ij X.K H a xs):∃J:List MC,Vals xs J/\PlainL s.heap a J.toArray/\xs.length<=MN:=by
 rcases h with h|⟨o,J,n,L,O,hd,hs,U,r⟩
 .obtain⟨z,J,n,r,e⟩:=h.ok I.hok;exact⟨J,r,⟨_,n,e,rfl,rfl,rfl⟩,z⟩
 .refine⟨J.toList,r,⟨o,n,I.kIn a o L,O,hd,by simpa using hs⟩,?_⟩
  have e:=r.length;simp only[Array.length_toList]at e;omega
theorem Inv.tuple(I:Inv X pins σ H s)(h:jL X.K H a xs):∃J:List MC,Vals xs J/\Rc s.heap a J.toArray/\xs.length<=MN:=by
 rcases h with h|⟨o,J,n,L,O,hs,U,r⟩
 .obtain⟨z,J,r,p⟩:=h.ok I.hok;exact⟨J,r,p.tup,z⟩
 .refine⟨J.toList,r,⟨o,I.kIn a o L,O.1,n,by simpa using hs⟩,?_⟩
  have e:=r.length;simp only[Array.length_toList]at e;omega
theorem Inv.list_inj(I:Inv X pins σ H s)(h:ij X.K H a xs)(h':ij X.K H a ys):xs=ys:=by
 obtain⟨L,r,⟨o,n,e,_,_,d⟩,_⟩:=I.list h;obtain⟨J,r',⟨o',Y,O,_,_,U⟩,_⟩:=I.list h';rw[e]at O;cases O;rw[d]at U;injection U with W _
 have:L=J:=by simpa using congrArg Array.toList W
 subst this;exact r.inj r'
theorem Inv.tuple_inj(I:Inv X pins σ H s)(h:jL X.K H a xs)(h':jL X.K H a ys):xs=ys:=by
 obtain⟨L,r,⟨o,e,_,n,d⟩,_⟩:=I.tuple h;obtain⟨J,r',⟨o',O,_,Y,U⟩,_⟩:=I.tuple h';rw[e]at O;cases O;rw[d]at U;injection U with W _
 have:L=J:=by simpa using congrArg Array.toList W
 subst this;exact r.inj r'
end
noncomputable abbrev Cx.wish(X:Cx)(E:MC->MD->Prop):Cx:={ X with xe:=E }
abbrev Cx.nox(X:Cx):Cx:=X.wish λ_ _=>False
theorem Cx.Ok.wish{X:Cx}(ok:X.Ok)(E:MC->MD->Prop):(X.wish E).Ok:=
 ⟨ok.mod,ok.kind,ok.glob,ok.blt,ok.above,ok.inj,ok.has,ok.cab,ok.hd,ok.hs,ok.frames,ok.stk,ok.exf,ok.bs,ok.bsz,ok.noex,ok.exfs,ok.funs,ok.frf⟩
theorem Cx.Ok.unwish{X:Cx}{E:MC->MD->Prop}(ok:(X.wish E).Ok):X.Ok:=
 ⟨ok.mod,ok.kind,ok.glob,ok.blt,ok.above,ok.inj,ok.has,ok.cab,ok.hd,ok.hs,ok.frames,ok.stk,ok.exf,ok.bs,ok.bsz,ok.noex,ok.exfs,ok.funs,ok.frf⟩
section
variable{X:Cx}{pins:List (MF×Obj)}{σ:St}{H:Hp}{s:MD}{E:MC->MD->Prop}
theorem Inv.wish(I:Inv X pins σ H s)(E:MC->MD->Prop):Inv (X.wish E) pins σ H s:=⟨I.ok.wish E,I.os,I.bare,I.base,I.loc,I.cell,I.free,I.freeC,I.pin,I.hok,I.len⟩
theorem Inv.unwish(I:Inv (X.wish E) pins σ H s):Inv X pins σ H s:=⟨I.ok.unwish,I.os,I.bare,I.base,I.loc,I.cell,I.free,I.freeC,I.pin,I.hok,I.len⟩
theorem SP.unwish{D:Ends}{f:Flow}{s':MD}(h:SP (X.wish E) pins D f s'):SP X pins D f s':=by
 cases f with
 | next=>obtain⟨J,H',I,q⟩:=h;exact⟨J,H',I.unwish,q⟩
 | brk=>obtain⟨J,H',I,q⟩:=h;exact⟨J,H',I.unwish,q⟩
 | cont=>obtain⟨J,H',I,q⟩:=h;exact⟨J,H',I.unwish,q⟩
 | ret u=>obtain⟨v,J,H',I,r,q⟩:=h;exact⟨v,J,H',I.unwish,r,q⟩
theorem iO.nox{st:List Nd}{t:TS}(h:iO X.nox st t):iO X st t:=λpins s σ H D I hw=>
 Nf (h pins s σ H D (I.wish _) hw) (λ_ _ q=>q.unwish) λ_ _ z=>False.elim z
end
section
variable{X:Cx}{st:Nd}{rest:List Nd}{t u:TS}{e:M7}{te:TE}{pos:Pos}
def JI:TS:=λD σ H=>D.nx σ H
def Lk(t u:TS):TS:=λD σ H=>t { D with nx:=u D } σ H
theorem FM:iO X [] JI:=λ_ _ σ H _ I h=>Ox ⟨σ,H,I,h⟩
theorem xN(h1:PS X st t)(h2:iO X rest u):iO X (st::rest) (Lk t u):=by
 intro pins s σ H D I h;refine QD (b_ (h1 pins s σ H { D with nx:=u D } I h) λf s1 q=>?_)
 cases f with
 | next=>
  obtain⟨J,H',L,q⟩:=q;exact h2 pins s1 J H' D L q
 | ret v=>exact q
 | brk=>exact q
 | cont=>exact q
theorem vX(h1:PS X st t):iO X [st] t:=by
 intro pins s σ H D I h;refine QD (b_ (h1 pins s σ H D I h) λf s1 q=>?_);cases f with
 | next=>exact Ox q
 | ret v=>exact q
 | brk=>exact q
 | cont=>exact q
theorem Inv.quiet{pins:List (MF×Obj)}{σ:St}{H:Hp}{s:MD}(I:Inv X pins σ H s):interactive X.env=false:=by simp[interactive,I.ok.kind]
def JJ(te:TE):TS:=λD σ H=>te σ H λ_ H1=>D.nx σ H1
theorem FO(L:PE X e te)(hs:N7 e none pos.line X.env=pure false:=by rfl):PS X (.Expr e pos) (JJ te):=by
 intro pins s σ H D I h;exact wpAny_Expr_any (b_ (L pins s σ H _ I h) λv s1 ⟨x,H1,O,U,J⟩=>⟨σ,H1,O,J⟩) I.quiet hs
def Ll(te:TE):TS:=λD σ H=>te σ H D.rt
theorem DP(O:PE X e te):PS X (.Return (some e) pos) (Ll te):=by
 intro pins s σ H D I h;exact wpAny_Return_some (b_ (O pins s σ H _ I h) λv s1 ⟨x,H1,U,J,L⟩=>⟨x,σ,H1,U,J,L⟩)
def Lo(c:TT)(t u:TS):TS:=λD σ H=>c σ H λb H1=>if b=true then t D σ H1 else u D σ H1
theorem Hd{c:M7}{a b:List Nd}{tc:TT}(U:PT X c tc)(Y:iO X a t)(W:iO X b u):PS X (.If c a b pos) (Lo tc t u):=by
 intro pins s σ H D I h;refine wpAny_If (b_ (U pins s σ H _ I h) λd s1 O=>?_);obtain⟨H1,L,J⟩:=O;cases d with
 | true=>exact Y pins s1 σ H1 D L J
 | false=>exact W pins s1 σ H1 D L J
def Dc:TS:=λ_ _ _=>False
theorem DR:PS X st Dc:=λ_ _ _ _ _ _ h=>h.elim
theorem BO{I:List Nd}:iO X I Dc:=λ_ _ _ _ _ _ h=>h.elim
end
abbrev TG:=V->St->Hp->(St->Hp->Prop)->Prop
abbrev GN:=List V->St->Hp->(St->Hp->Prop)->Prop
def PG(X:Cx)(target:M7)(t:TG):Prop:=
 ∀(pins:List (MF×Obj)) (s:MD) (σ:St) (H:Hp) (v:V) (u:MC) (Q:St->Hp->Prop),Inv X pins σ H s->aF v u->t v σ H Q->
  MJ (MK X.prog X.w) X.A (assign target X.env u) (λ_ s'=>∃I H',Inv X pins I H' s'/\Q I H') X.xe s
def E5(X:Cx)(L:List M7)(t:GN):Prop:=
 ∀(pins:List (MF×Obj)) (s:MD) (σ:St) (H:Hp) (vs:List V) (J:List MC) (Q:St->Hp->Prop),Inv X pins σ H s->Vals vs J->t vs σ H Q->
  MJ (MK X.prog X.w) X.A (assignInOrder ((N0 L X.env).map (·.2)) J) (λ_ s'=>∃I H',Inv X pins I H' s'/\Q I H') X.xe s
abbrev GM:=V->V->V->Hp->(Hp->Prop)->Prop
def Jt(X:Cx)(t:GM):Prop:=
 ∀(pins:List (MF×Obj)) (s:MD) (σ:St) (H:Hp) (o i v:V) (ov iv u:MC) (Q:Hp->Prop),Inv X pins σ H s->aF o ov->aF i iv->aF v u->t o i v H Q->
  MJ (MK X.prog X.w) X.A (Sb ov iv u) (λ_ s'=>∃H',Inv X pins σ H' s'/\Q H') X.xe s
section
variable{X:Cx}{pos:Pos}
def yL(i:Nat):TG:=λv σ H Q=>Q (σ.set i (some v)) H
theorem FU{i:Nat}{x:Str}(O:X.N.Nodup)(hi:X.N[i]?=some x)(J:Ju X.env.scope x)(L:X.fn x=true\/X.env.scope.names.lookup x=some .local:=by first|exact .inl rfl|exact .inr rfl|assumption):PG X (.Name x pos) (yL i):=by
 intro pins s σ H v u Q I r h;exact Sa (mQ I O hi J r (λs' U=>⟨_,H,U,h⟩) L)
def LK:GN:=λvs σ H Q=>vs=[]/\Q σ H
def Kq(t:TG)(u:GN):GN:=λvs σ H Q=>∃v r,vs=v::r/\t v σ H λI H'=>u r I H' Q
theorem FT:E5 X [] LK:=by
 intro pins s σ H vs J Q I r h;obtain⟨e,h⟩:=h;subst e;cases r;exact assignInOrder_nil ⟨σ,H,I,h⟩
theorem DV{e:M7}{es:List M7}{t:TG}{u:GN}(h1:PG X e t)(h2:E5 X es u)
  (hs:(N0 (e::es) X.env).map (·.2)=assign e X.env::(N0 es X.env).map (·.2):=by rfl):E5 X (e::es) (Kq t u):=by
 intro pins s σ H vs Z Q I r h;obtain⟨v,Y,U,h⟩:=h;subst U;cases r with
 | cons r rr=>
  rw[hs];refine assignInOrder_cons (b_ (h1 pins s σ H _ _ _ I r h) λ_ s1 L=>?_);obtain⟨J,H1,W,O⟩:=L;exact h2 pins s1 J H1 _ _ Q W rr O
def LI(K:Pj)(n:Nat)(t:GN):TG:=λv σ H Q=>∃a xs,v=.ref a/\jL K H a xs/\xs.length=n/\t xs σ H Q
theorem Ie{es:List M7}{k:Nat}{t:GN}{n:Nat}(hc:true=true)(h:E5 X es t)
  (hn:(N0 es X.env).length=n:=by rfl) (J:(N0 es X.env).findIdx? (·.1)=none:=by rfl):PG X (.Tuple es k pos) (LI X.K n t):=by
 intro pins s σ H v u Q I r hw;obtain⟨a,xs,Z,hq,Y,hw⟩:=hw;subst Z;cases r;obtain⟨O,L,W,hz⟩:=I.tuple hq;refine AA I.hds W (by simp[hn,<- Y,L.length]) J λh' U=>?_
 have I1:Inv X pins σ H { s with heap:=h' }:=I.kept (t':=s.toks) λb o e=>U b o (M6 (ML e)) e
 exact h pins _ σ H xs _ Q I1 (by simpa using L) hw
def LJ(to ti:TE)(t:GM):TG:=λv σ H Q=>to σ H λo H1=>ti σ H1 λi H2=>t o i v H2 λI=>Q σ I
theorem Ig{o i:M7}{to ti:TE}{t:GM}(ho:PE X o to)(hi:PE X i ti)(hs:Jt X t)
  (ha:∀v,assign (.Subscript o i pos) X.env v=(do
   let ov <- holding [v] (eval o X.env)
   let iv <- holding [v,ov] (eval i X.env)
   O9 pos
   holding [v,ov,iv] (Sb ov iv v)
   release [v,ov,iv] []):=by intro _;rfl):PG X (.Subscript o i pos) (LJ to ti t):=by
 intro pins s σ H v u Q I r h;refine MB (Na (b_ (ho pins s σ H _ I h) λov s1 J=>?_));obtain⟨x,H1,I1,O,Y⟩:=J;refine MB (Na (b_ (hi pins s1 σ H1 _ I1 Y) λiv L J=>?_));obtain⟨y,H2,I2,r2,W⟩:=J;refine MB (OI (MB (Na (b_ (hs pins L σ H2 x y v ov iv u _ I2 O r2 r W) λ_ s3 J=>?_))));obtain⟨H3,Z,U⟩:=J;exact wpAny_release ⟨σ,H3,Z,U⟩
def HJ(te:TE)(g:TG):TS:=λD σ H=>te σ H λx H1=>g x σ H1 D.nx
theorem Ib{tg e:M7}{te:TE}{g:TG}(W:PE X e te)(U:PG X tg g)(hs:swapsWithSole [tg] e pos.line X.env=pure false:=by rfl)(hw:swappedStores [tg] e X.env=pure none:=by rfl)
  (h1:(N0 [tg] X.env).map (·.2)=[assign tg X.env]:=by rfl):PS X (.Assign [tg] e pos) (HJ te g):=by
 intro pins s σ H D I h;refine wpAny_Assign_stores (b_ (W pins s σ H _ I h) λv s1 J=>?_) hs hw;obtain⟨x,H1,Y,L,O⟩:=J;rw[h1];exact b_ (U pins s1 σ H1 x v _ Y L O) λ_ Z q=>q
theorem DO{i:Nat}{x:Str}{e:M7}{te:TE}{pos':Pos}(Z:X.N.Nodup)(hi:X.N[i]?=some x)(U:Ju X.env.scope x)(Y:PE X e te)(hs:N7 e (some (.Name x pos')) pos.line X.env=pure false:=by rfl)(W:X.fn x=true\/X.env.scope.names.lookup x=some .local:=by first|exact .inl rfl|exact .inr rfl|assumption):
  PS X (.Assign [.Name x pos'] e pos) (HJ te (yL i)):=by
 intro pins s σ H D I h;refine wpAny_Assign_Name (b_ (Y pins s σ H _ I h) λv s1 J=>?_) hs;obtain⟨y,H1,I1,L,O⟩:=J;exact mQ I1 Z hi U L (λs2 I2=>⟨_,H1,I2,O⟩) W
def HF(c:TT)(tb:TS):TS:=λD σ H=>∃W:Nat->St->Hp->Prop,(∃m,W m σ H)/\∀m σ H,W m σ H->
 c σ H λb H1=>if b=true then ∃N:St->Hp->Prop,(∀I H',N I H'->∃J,J < m/\W J I H')/\tb { D with nx:=N,ct:=N,bk:=D.nx } σ H1 else D.nx σ H1
theorem DN{c:M7}{body:List Nd}{tc:TT}{tb:TS}(hp:Qd (MK X.prog X.w) X.A X.env X.xe)(hc:PT X c tc)(hb:iO X body tb):PS X (.While c body [] pos) (HF tc tb):=by
 intro pins s σ H D I h;obtain⟨W,⟨m0,w0⟩,turn⟩:=h;refine wpAny_While (codeAny_whileLoop (λn s'=>∃O H',Inv X pins O H' s'/\W n O H') ?_ m0 ⟨σ,H,I,w0⟩)
 rintro n s1 ⟨L,H1,I1,w1⟩
 refine NF hp (b_ (hc pins s1 L H1 _ I1 (turn n L H1 w1)) λb s2 zz=>?_);obtain⟨H2,I2,Z⟩:=zz;cases b with
 | true=>
  obtain⟨N,hN,Z⟩:=Z;rw[if_pos rfl];refine NF hp (b_ (hb pins s2 L H2 _ I2 Z) λf s3 Y=>?_);cases f with
  | next=>
   obtain⟨J,U,I3,n3⟩:=Y;obtain⟨m',hm,w3⟩:=hN J U n3;exact⟨m',hm,J,U,I3,w3⟩
  | cont=>
   obtain⟨J,U,I3,n3⟩:=Y;obtain⟨m',hm,w3⟩:=hN J U n3;exact⟨m',hm,J,U,I3,w3⟩
  | brk=>exact Y
  | ret v=>exact Y
 | false=>
  rw[if_neg Bool.false_ne_true];exact Ox ⟨L,H2,I2,Z⟩
end
structure It where
 go:Nat->Hp->Prop
 yld:Nat->Hp->V->Hp->Prop
 stop:Nat->Hp->Prop
def pM(X:Cx)(pins:List (MF×Obj))(H:Hp)(b:MF):Prop:=
 H b=none/\b≠X.env.locals/\b∉X.fs/\(b∈X.ex\/X.s₀.heap.objs.size<=b)/\(∀x c,X.env.cells.lookup x=some c->c≠b)/\∀p∈X.pn ++ pins,p.1≠b
theorem Inv.fpOk{X:Cx}{pins:List (MF×Obj)}{σ:St}{H H':Hp}{s:MD}{b:MF}(I:Inv X pins σ H s)(J:s.heap.objs.size<=b)(hn:H' b=none):pM X pins H' b:=by
 refine⟨hn,OB (M9 I.lt J),I.nofs J,.inr (le_trans I.sz J),λx c e z=>?_,λp L z=>?_⟩
 .obtain⟨v,q⟩:=I.cell x c e;exact absurd (M9 q.lt (by rw[z];exact J)) (Nat.lt_irrefl _)
 .exact absurd (M9 (ML (I.pin p L).1) (by rw[z];exact J)) (Nat.lt_irrefl _)
structure Turn(P:MR)(w:M4)(K:Pj)(tg:M7)(J:It)(fp:List MF)(it:MF)(tn:Nat->MY->Prop):Prop where
 mem:it∈fp
 obj:∀i h,tn i h->∀b∈fp,∃o,h.get? b=some o/\∀v,o.data≠.cell v
 keep:∀i h h',tn i h->(∀b∈fp,∀o,h.get? b=some o->h'.get? b=some o)->tn i h'
 item:∀(X:Cx),X.prog=P->X.w=w->X.K=K->∀(i:Nat) (pins:List (MF×Obj)) (s:MD) (σ:St) (H:Hp) (E:MC->MD->Prop),Inv X pins σ H s->(∀b∈fp,pM X pins H b)->tn i s.heap->J.go i H->
  MJ (MK P w) X.A (NT (.ref it)) (λr s1=>∃u,r=some u/\
   MJ (MK P w) X.A (O5 tg (.ref it) u) (λ_ s2=>∃x H',Inv X pins σ H' s2/\aF x u/\J.yld i H x H'/\tn (i+1) s2.heap/\∀b∈fp,H' b=none) E s1) E s
 done:∀(X:Cx),X.prog=P->X.w=w->X.K=K->∀(i:Nat) (pins:List (MF×Obj)) (s:MD) (σ:St) (H:Hp) (E:MC->MD->Prop),Inv X pins σ H s->(∀b∈fp,pM X pins H b)->tn i s.heap->J.stop i H->
  MJ (MK P w) X.A (NT (.ref it)) (λr s1=>r=none/\Inv X pins σ H s1) E s
 self:∀(A:MS) (i:Nat) (s:MD) (Q:MC->MD->Prop) (E:MC->MD->Prop),tn i s.heap->Q (.ref it) s->MJ (MK P w) A (Pf (.ref it)) Q E s
abbrev TI:=St->Hp->(It->Hp->Prop)->Prop
def Hv(X:Cx)(pins:List (MF×Obj))(σ:St)(tg:M7)(R:It->Hp->Prop)(I:MC)(O:MD):Prop:=
 ∃(it:MF) (U:List MF) (L:Nat->MY->Prop) (J:It) (H':Hp),I=.ref it/\Inv X pins σ H' O/\Turn X.prog X.w X.K tg J U it L/\L 0 O.heap/\(∀b∈U,pM X pins H' b)/\R J H'
def PI(X:Cx)(tg iter:M7)(wi:TI):Prop:=
 ∀(pins:List (MF×Obj)) (s:MD) (σ:St) (H:Hp) (R:It->Hp->Prop),Inv X pins σ H s->wi σ H R->
  MJ (MK X.prog X.w) X.A (eval iter X.env) (λv s1=>MJ (MK X.prog X.w) X.A (Pf v) (Hv X pins σ tg R) X.xe s1) X.xe s
theorem yK{M:Rz}{A:MS}{E:MC->MD->Prop}{s:MD}{tg:M7}{it:MF}{u:MC}{o:Obj}{n:String}{vs:Array MC}{Q:Unit->MD->Prop}(ho:s.heap.get? it=some o)(J:o.cls=.type n)(hd:o.data=.fields vs)
  (hn:["enumerate","zip","dict_itemiterator","dict_reverseitemiterator","odict_iterator","itertools.zip_longest","itertools.pairwise"].contains n=false) (I:Q () s):MJ M A (O5 tg (.ref it) u) Q E s:=by
 unfold O5;cases tg<;>first
  | exact MG I
  | (cases u<;>first
    | exact MG I
    | (refine MB (QS ho ?_)
       rw[J,hd];show MJ M A (if (["enumerate","zip","dict_itemiterator","dict_reverseitemiterator","odict_iterator","itertools.zip_longest","itertools.pairwise"].contains n && vs[0]? == some (Ob _))=true then _ else _) Q E s
       rw[if_neg (by intro h;rw[hn,Bool.false_and]at h;cases h)]
       exact MG I))
def K3(K:Pj)(a:MF):It:=
 ⟨λi H=>∃xs x,ij K H a xs/\xs[i]?=some x,λi H x H'=>H'=H/\∀xs,ij K H a xs->xs[i]?=some x,λi H=>∃xs,ij K H a xs/\xs.length<=i⟩
def L4(K:Pj)(a:MF):It:=
 ⟨λi H=>∃xs x,jL K H a xs/\xs[i]?=some x,λi H x H'=>H'=H/\∀xs,jL K H a xs->xs[i]?=some x,λi H=>∃xs,jL K H a xs/\xs.length<=i⟩
def K2(lo:Int)(n:Nat):It:=⟨λi _=>i < n,λi H x H'=>H'=H/\x=.int (lo+i),λi _=>n<=i⟩
theorem Bz{P:MR}{w:M4}{K:Pj}{tg:M7}(a it:MF):Turn P w K tg (K3 K a) [it] it (λi h=>h.IsListIter it a i) where
 mem:=by simp
 obj:=λi h st b J=>by
  have e:b=it:=by simpa using J
  subst e;obtain⟨o,e,c,d⟩:=st;exact⟨o,e,λv z=>by rw[d]at z;cases z⟩
 keep:=λi h h' st k=>st.at λo e=>k it (by simp) o e
 item:=by
  intro X hP hw hK i pins s σ H E I O st Z;subst hP hw hK;obtain⟨xs,x,hq,Y⟩:=Z;obtain⟨W,U,p,hz⟩:=I.list hq;obtain⟨u,hu,ru⟩:=U.get Y;obtain⟨f0,f1,f2,f3,f4,f5⟩:=O it (by simp)
  refine Px st p.isList (x:=u) (by simpa using hu) λh' L sb=>?_
  have I1:Inv X pins σ H { s with heap:=h' }:=I.turned (t':=s.toks) (λb o J e=>(sb.2 b J).trans e) f0 f1 f3 f4 f5
  obtain⟨o,e,c,d⟩:=id L;exact⟨u,rfl,yK (s:={ s with heap:=h' }) e c d (by decide) ⟨x,H,I1,ru,⟨rfl,λys hy=>by rw[I.list_inj hy hq];exact Y⟩,L,λb J=>(O b J).1⟩⟩
 done:=by
  intro X hP hw hK i pins s σ H E I O st Z;subst hP hw hK;obtain⟨xs,hq,Y⟩:=Z;obtain⟨W,U,p,hz⟩:=I.list hq;obtain⟨f0,f1,f2,f3,f4,f5⟩:=O it (by simp)
  have hl:=U.length;exact sr I.hds st p.isList (by simp;omega) λh' eb=>⟨rfl,I.turned (t':=s.toks) (λb o J e=>eb b o J e) f0 f1 f3 f4 f5⟩
 self:=λ_ _ _ _ _ st h=>Rm st h
theorem zt{P:MR}{w:M4}{K:Pj}{tg:M7}(a it:MF):Turn P w K tg (L4 K a) [it] it (λi h=>h.IsTupleIter it a i) where
 mem:=by simp
 obj:=λi h st b J=>by
  have e:b=it:=by simpa using J
  subst e;obtain⟨o,e,c,d⟩:=st;exact⟨o,e,λv z=>by rw[d]at z;cases z⟩
 keep:=λi h h' st k=>st.at λo e=>k it (by simp) o e
 item:=by
  intro X hP hw hK i pins s σ H E I U st Z;subst hP hw hK;obtain⟨xs,x,hq,Y⟩:=Z;obtain⟨O,W,p,hz⟩:=I.tuple hq;obtain⟨u,hu,ru⟩:=W.get Y;obtain⟨f0,f1,f2,f3,f4,f5⟩:=U it (by simp)
  refine wpAny_pyNext_tuple_item st (show s.heap.IsTuple a O.toArray from p) (x:=u) (by simpa using hu) λh' L sb=>?_
  have I1:Inv X pins σ H { s with heap:=h' }:=I.turned (t':=s.toks) (λb o J e=>(sb.2 b J).trans e) f0 f1 f3 f4 f5
  obtain⟨o,e,c,d⟩:=id L;exact⟨u,rfl,yK (s:={ s with heap:=h' }) e c d (by decide) ⟨x,H,I1,ru,⟨rfl,λys hy=>by rw[I.tuple_inj hy hq];exact Y⟩,L,λb J=>(U b J).1⟩⟩
 done:=by
  intro X hP hw hK i pins s σ H E I U st Z;subst hP hw hK;obtain⟨xs,hq,Y⟩:=Z;obtain⟨O,W,p,hz⟩:=I.tuple hq;obtain⟨f0,f1,f2,f3,f4,f5⟩:=U it (by simp)
  have hl:=W.length;exact uK I.hds st p (by simp;omega) λh' eb=>⟨rfl,I.turned (t':=s.toks) (λb o J e=>eb b o J e) f0 f1 f3 f4 f5⟩
 self:=λ_ _ _ _ _ st h=>wpAny_pyIter_tupleiter st h
theorem zw{P:MR}{w:M4}{K:Pj}{tg:M7}(it:MF)(lo:Int)(n:Nat):Turn P w K tg (K2 lo n) [it] it (λi h=>P7 h it (lo+(i:Nat)*1) ((n:Int) - (i:Nat)) 1) where
 mem:=by simp
 obj:=λi h st b J=>by
  have e:b=it:=by simpa using J
  subst e;exact⟨_,st,λv z=>by
   have z':Data.fields _=Data.cell v:=z;cases z'⟩
 keep:=λi h h' st k=>k it (by simp) _ st
 item:=by
  intro X W hw hK i pins s σ H E I O st U;subst W hw hK;obtain⟨f0,f1,f2,f3,Z,Y⟩:=O it (by simp)
  refine zQ U st λv h' tk hv L kk=>?_;obtain⟨t,rfl⟩:=hv;have I1:Inv X pins σ H { s with heap:=h',toks:=tk }:=I.turned (λb o J e=>kk b o (by simpa using J) e) f0 f1 f3 Z Y
  refine⟨_,rfl,yK (s:={ s with heap:=h',toks:=tk }) (n:="range_iterator") L rfl rfl (by decide) ⟨.int (lo+i),H,I1,⟨t,?_⟩,⟨rfl,rfl⟩,L,λb J=>(O b J).1⟩⟩
  rw[Int.mul_one]
 done:=by
  intro X W hw hK i pins s σ H E I O st U;subst W hw hK;obtain⟨f0,f1,f2,f3,Z,Y⟩:=O it (by simp)
  exact BK I.hds st (by have:n<=i:=U;omega) λh' eb=>⟨rfl,I.turned (t':=s.toks) (λb o J e=>eb b o J e) f0 f1 f3 Z Y⟩
 self:=λ_ _ _ _ _ st h=>wpAny_pyIter_rangeiter st h
section
variable{X:Cx}{tg:M7}
theorem xI{pins:List (MF×Obj)}{σ:St}{H:Hp}{s:MD}{R:It->Hp->Prop}{E:MC->MD->Prop}{lo hi:Int}{t u v:Tok}{tk:Nat}(I:Inv X pins σ H s)(h1:-(2 ^ 62)<=lo)(h2:lo < 2 ^ 62)(U:-(2 ^ 62)<=hi)(O:hi < 2 ^ 62)
  (q:R (K2 lo (hi - lo).toNat) H):MJ (MK X.prog X.w) X.A (Pf (.ref s.heap.objs.size)) (Hv X pins σ tg R) E { s with heap:=s.heap.push { cls:=.type "range",data:=.fields #[.int lo t,.int hi u,.int 1 v] },toks:=tk }:=by
 refine wpAny_pyIter_range (IsRange.new ..) (small_one h1 h2 U O) ?_;have J:Inv X pins σ H { s with heap:=s.heap.push { cls:=.type "range",data:=.fields #[.int lo t,.int hi u,.int 1 v] },toks:=tk }:=I.kept λb o e=>ME _ e
 refine⟨(s.heap.push { cls:=.type "range",data:=.fields #[.int lo t,.int hi u,.int 1 v] }).objs.size,[(s.heap.push { cls:=.type "range",data:=.fields #[.int lo t,.int hi u,.int 1 v] }).objs.size],_,_,H,rfl,
  J.kept (t':=tk) λb o e=>ME _ e,zw _ lo (hi - lo).toNat,?_,λb L=>?_,q⟩
 .have Y:lo+((0:Nat):Int)*1=lo:=by simp
  have W:(((hi - lo).toNat:Nat):Int) - ((0:Nat):Int)=Builtin.Range.rangeSize lo hi 1:=by rw[rangeSize_one];split<;>omega
  show P7 _ _ (lo+((0:Nat):Int)*1) ((((hi - lo).toNat:Nat):Int) - ((0:Nat):Int)) 1
  rw[Y,W];exact MM _ rfl
 .have e:b=(s.heap.push { cls:=.type "range",data:=.fields #[.int lo t,.int hi u,.int 1 v] }).objs.size:=by simpa using L
  subst e;exact J.fpOk (le_refl _) (J.hok.fresh (le_refl _))
def Ko(ta:TA):TI:=λσ H R=>ta σ H λvs H1=>∃j:Int,vs=[.int j]/\-(2 ^ 62)<=j/\j < 2 ^ 62/\R (K2 0 j.toNat) H1
def Kn(ta:TA):TI:=λσ H R=>ta σ H λvs H1=>∃i j:Int,vs=[.int i,.int j]/\(-(2 ^ 62)<=i/\i < 2 ^ 62/\-(2 ^ 62)<=j/\j < 2 ^ 62)/\R (K2 i (j - i).toNat) H1
theorem BR{a:M7}{ta:TA}{p pos:Pos}(W:Gl X "range")(U:X.mg "range"=none)(Y:PA X [a] ta)(hs:MP [a] X.env=[(false,eval a X.env)]:=by rfl):PI X tg (.Call (.Name "range" p) [a] [] pos) (Ko ta):=by
 intro pins s σ H R I h;refine RB (h_ I W U boot_range (PyProof.Rows.callWith_type1 (b_ (Y pos pins s σ H _ I h) λus s1 ⟨vs,H1,Z,L,J⟩=>?_) hs rfl));obtain⟨j,e,J,O,q⟩:=J;subst e;cases L with
 | cons r rr=>
  cases rr;obtain⟨t,rfl⟩:=r;exact call_range_1 (xI Z (by omega) (by omega) J O (by simpa using q))
theorem BQ{a b:M7}{ta:TA}{p pos:Pos}(hg:Gl X "range")(Z:X.mg "range"=none)(ha:PA X [a,b] ta)(hs:MP [a,b] X.env=[(false,eval a X.env),(false,eval b X.env)]:=by rfl)(J:MP [b] X.env=[(false,eval b X.env)]:=by rfl):
  PI X tg (.Call (.Name "range" p) [a,b] [] pos) (Kn ta):=by
 intro pins s σ H R I h;refine RB (h_ I hg Z boot_range (PyProof.Rows.callWith_type1 (b_ (ha pos pins s σ H _ I h) λus s1 ⟨vs,H1,I1,O,L⟩=>?_) (by rw[hs,J]) (by rw[J];rfl)))
 obtain⟨i,j,e,⟨L,Y,W,U⟩,q⟩:=L;subst e;cases O with
 | cons r rr=>
  cases rr with
  | cons r' rr=>
   cases rr;obtain⟨t,rfl⟩:=r;obtain⟨t',rfl⟩:=r';exact call_range_2 (xI I1 L Y W U q)
def Lp(wi:TI)(g:TG)(tb:TS):TS:=λD σ H=>wi σ H λJ H1=>∃W:Nat->Nat->St->Hp->Prop,(∃m,W 0 m σ H1)/\∀i m σ H,W i m σ H->
 (J.stop i H/\D.nx σ H)\/(J.go i H/\∃N:St->Hp->Prop,(∀I H',N I H'->∃O,O < m/\W (i+1) O I H')/\∀x H',J.yld i H x H'->g x σ H' λL H2=>tb { D with nx:=N,ct:=N,bk:=D.nx } L H2)
def o0(fp:List MF)(h:MY):List (MF×Obj):=fp.filterMap λb=>(h.get? b).map λo=>(b,o)
theorem gI{fp:List MF}{h:MY}{b:MF}{o:Obj}(I:b∈fp)(e:h.get? b=some o):(b,o)∈o0 fp h:=List.mem_filterMap.mpr ⟨b,I,by rw[e];rfl⟩
theorem BY{fp:List MF}{h:MY}{p:MF×Obj}(I:p∈o0 fp h):p.1∈fp/\h.get? p.1=some p.2:=by
 obtain⟨b,J,e⟩:=List.mem_filterMap.mp I;cases q:h.get? b with
 | none=>rw[q]at e;cases e
 | some o=>
  rw[q]at e;have L:=Option.some.inj e;subst L;exact⟨J,q⟩
theorem Inv.pinned{pins:List (MF×Obj)}{σ:St}{H:Hp}{s:MD}{fp:List MF}(I:Inv X pins σ H s)(U:∀b∈fp,pM X pins H b)(ho:∀b∈fp,∃o,s.heap.get? b=some o/\∀v,o.data≠.cell v):Inv X (pins ++ o0 fp s.heap) σ H s:=
 I.pins_of λp O=>(Qi.mp O).elim (λz=>I.pin p (Nl _ z)) λz=>by
  obtain⟨J,e⟩:=BY z;obtain⟨W,f1,f2,_⟩:=U p.1 J;obtain⟨o,L,d⟩:=ho p.1 J;rw[e]at L;cases L;exact⟨e,W,f1,f2,d⟩
theorem Inv.unpinned{pins pl:List (MF×Obj)}{σ:St}{H:Hp}{s:MD}(I:Inv X (pins ++ pl) σ H s):Inv X pins σ H s:=I.pins_of λp J=>I.pin p (Nl _ (Nc _ J))
theorem DS{iter:M7}{body:List Nd}{wi:TI}{g:TG}{tb:TS}{pos:Pos}(hp:Qd (MK X.prog X.w) X.A X.env X.xe)(hc:true=true)(hi:PI X tg iter wi)(hg:PG X tg g)(Y:iO X body tb)
  (hs:∀x,NO iter X.env x=pure x:=by intro _;rfl):PS X (.For tg iter body [] pos) (Lp wi g tb):=by
 intro pins s σ H D I h;refine wpAny_For (b_ (hi pins s σ H _ I h) λv s1 h1=>b_ h1 λitv s2 h2=>?_) hs;obtain⟨it,fp,tn,J,H2,e,I2,T,st2,f2,W,⟨m0,w0⟩,turn⟩:=h2;subst e;have Tj:∀{H':Hp},(∀b∈fp,H' b=none)->∀b∈fp,pM X pins H' b:=λhn b Y=>⟨hn b Y,(f2 b Y).2⟩;refine RJ (λn s'=>∃i U H',Inv X pins U H' s'/\tn i s'.heap/\(∀b∈fp,H' b=none)/\W i n U H') ?_ m0 ⟨0,σ,H2,I2,st2,λb Y=>(f2 b Y).1,w0⟩
 rintro n s3 ⟨i,O,H3,I3,st3,fr3,w3⟩
 rcases turn i n O H3 w3 with ⟨stop,qn⟩|⟨go,N,hN,step⟩
 .refine NF hp (b_ (T.done X rfl rfl rfl i pins s3 O H3 X.xe I3 (Tj fr3) st3 stop) λr s4 zz=>?_);obtain⟨hr,I4⟩:=zz;subst hr;exact Ox ⟨O,H3,I4,qn⟩
 .refine NF hp (b_ (T.item X rfl rfl rfl i pins s3 O H3 X.xe I3 (Tj fr3) st3 go) λr s4 zz=>?_);obtain⟨u,hr,h4⟩:=zz;subst hr;refine NF hp (b_ h4 λ_ s5 zz=>?_);obtain⟨x,H5,I5,r5,y5,st5,fr5⟩:=zz;have I5':=I5.pinned (Tj fr5) (T.obj _ _ st5);refine NF hp (b_ (hg _ s5 O H5 x u _ I5' r5 (step x H5 y5)) λ_ s6 zz=>?_);obtain⟨σ6,H6,I6,q6⟩:=zz;refine NF hp (b_ (Y _ s6 σ6 H6 _ I6 q6) λf s7 q7=>?_);have again:∀{L:St} {H7:Hp},Inv X (pins ++ o0 fp s5.heap) L H7 s7->N L H7->∃m,m < n/\∃i U H',Inv X pins U H' s7/\tn i s7.heap/\(∀b∈fp,H' b=none)/\W i m U H':=λ{L H7} Z n7=>by
   obtain⟨m',hm,w7⟩:=hN L H7 n7;refine⟨m',hm,i+1,L,H7,Z.unpinned,T.keep _ _ _ st5 λb Y o e=>(Z.pin (b,o) (Nl _ (Nl _ (gI Y e)))).1,λb Y=>?_,w7⟩;obtain⟨o,e,d⟩:=T.obj _ _ st5 b Y;exact (Z.pin (b,o) (Nl _ (Nl _ (gI Y e)))).2.1
  cases f with
  | next=>obtain⟨L,H7,Z,n7⟩:=q7;exact again Z n7
  | cont=>obtain⟨L,H7,Z,n7⟩:=q7;exact again Z n7
  | brk=>obtain⟨L,H7,Z,q7⟩:=q7;exact⟨L,H7,Z.unpinned,q7⟩
  | ret v=>obtain⟨x7,L,H7,Z,r7,q7⟩:=q7;exact⟨x7,L,H7,Z.unpinned,r7,q7⟩
end
abbrev R2:=V->V->Hp->VK->Prop
def gM(X:Cx)(f:MC->MC->Sem MC)(r:R2):Prop:=
 ∀(pins:List (MF×Obj)) (s:MD) (σ:St) (H:Hp) (x y:V) (v u:MC) (Q:VK),Inv X pins σ H s->aF x v->aF y u->r x y H Q->
  MJ (MK X.prog X.w) X.A (f v u) (EP X pins σ Q) X.xe s
def dj(X:Cx)(f:MC)(r:List V->Hp->VK->Prop):Prop:=
 ∀(pins:List (MF×Obj)) (s:MD) (σ:St) (H:Hp) (xs:List V) (I:List MC) (Q:VK),Inv X pins σ H s->Vals xs I->r xs H Q->
  MJ (MK X.prog X.w) X.A (call f I) (EP X pins σ Q) X.xe s
def LV(X:Cx)(r:V->Hp->(Bool->Hp->Prop)->Prop):Prop:=
 ∀(pins:List (MF×Obj)) (s:MD) (σ:St) (H:Hp) (x:V) (v:MC) (Q:Bool->Hp->Prop),Inv X pins σ H s->aF x v->r x H Q->
  MJ (MK X.prog X.w) X.A (truthy v) (TP X pins σ Q) X.xe s
def Jy(r:R2)(ta tb:TE):TE:=λσ H Q=>ta σ H λx H1=>tb σ H1 λy H2=>r x y H2 Q
def rI(C:Int->Int->Prop)(g:Int->Int->V):R2:=λx y H Q=>∃i j,x=.int i/\y=.int j/\C i j/\Q (g i j) H
def HV(g:Int->Int->V):R2:=λx y H Q=>∃i j,x=.int i/\y=.int j/\Q (g i j) H
section
variable{X:Cx}{a b c:M7}{ta tb tc:TE}{pos:Pos}
theorem Jm(ha:PE X a ta)(hb:PE X b tb){pins:List (MF×Obj)}{s:MD}{σ:St}{H:Hp}{R:V->V->Hp->Prop}(I:Inv X pins σ H s)
  (h:ta σ H λx H1=>tb σ H1 λy H2=>R x y H2) {Q:MC->MD->Prop} {f:MC->MC->Sem MC}
  (hf:∀v u O x y H2,Inv X pins σ H2 O->aF x v->aF y u->R x y H2->MJ (MK X.prog X.w) X.A (f v u) Q X.xe O):
  MJ (MK X.prog X.w) X.A (eval a X.env) (λv L=>MJ (MK X.prog X.w) X.A (eval b X.env) (λu J=>MJ (MK X.prog X.w) X.A (f v u) Q X.xe J) X.xe L) X.xe s:=by
 refine b_ (ha pins s σ H _ I h) λv s1 U=>?_;obtain⟨x,H1,I1,W,Z⟩:=U;refine b_ (hb pins s1 σ H1 _ I1 Z) λu O U=>?_;obtain⟨y,H2,I2,r2,Y⟩:=U;exact hf v u O x y H2 I2 W r2 Y
theorem J5{op:Operator}{r:R2}(ho:gM X (Oa op) r)(U:PE X a ta)(O:PE X b tb):PE X (.BinOp a op b pos) (Jy r ta tb):=by
 intro pins s σ H Q I h;exact wpAny_BinOp (Jm U O I h λv u J x y H2 W rx L q=>ho pins J σ H2 x y v u Q W rx L q)
theorem Ly{f:MC->MC->Sem MC}{C:Int->Int->Prop}{g:Int->Int->Int}
  (rule:∀(i j:Int) (t u:Tok) (s:MD) (Q:MC->MD->Prop) (E:MC->MD->Prop),C i j->Q (.int (g i j) s.toks) { s with toks:=s.toks+1 }->MJ (MK X.prog X.w) X.A (f (.int i t) (.int j u)) Q E s):
  gM X f (rI C λi j=>.int (g i j)):=by
 intro pins s σ H x y v u Q I rx L h;obtain⟨i,j,rfl,rfl,O,q⟩:=h;obtain⟨t,rfl⟩:=rx;obtain⟨J,rfl⟩:=L;exact rule i j t J s _ _ O ⟨.int (g i j),H,I.tok _,⟨_,rfl⟩,q⟩
theorem Kg{f:MC->MC->Sem MC}{g:Int->Int->Int}
  (rule:∀(i j:Int) (t u:Tok) (s:MD) (Q:MC->MD->Prop) (E:MC->MD->Prop),Q (.int (g i j) s.toks) { s with toks:=s.toks+1 }->MJ (MK X.prog X.w) X.A (f (.int i t) (.int j u)) Q E s):
  gM X f (HV λi j=>.int (g i j)):=by
 intro pins s σ H x y v u Q I rx L h;obtain⟨i,j,rfl,rfl,q⟩:=h;obtain⟨t,rfl⟩:=rx;obtain⟨J,rfl⟩:=L;exact rule i j t J s _ _ ⟨.int (g i j),H,I.tok _,⟨_,rfl⟩,q⟩
theorem Kh{f:MC->MC->Sem MC}{g:Int->Int->Bool}
  (rule:∀(i j:Int) (t u:Tok) (s:MD) (Q:MC->MD->Prop) (E:MC->MD->Prop),Q (.bool (g i j)) s->MJ (MK X.prog X.w) X.A (f (.int i t) (.int j u)) Q E s):
  gM X f (HV λi j=>.bl (g i j)):=by
 intro pins s σ H x y v u Q I rx L h;obtain⟨i,j,rfl,rfl,q⟩:=h;obtain⟨t,rfl⟩:=rx;obtain⟨J,rfl⟩:=L;exact rule i j t J s _ _ ⟨.bl (g i j),H,I,rfl,q⟩
def K8(i j:Int):Prop:=0 < j/\j < 1073741824
def L8(i j:Int):Prop:=0<=j/\j<=1000000/\i.natAbs < 2 ^ 64
def GW(i j:Int):Prop:=(-(2 ^ 64) < i/\i < 2 ^ 64)\/(-(2 ^ 64) < j/\j < 2 ^ 64)
theorem GW.ok{i j:Int}(h:GW i j):IntMulOk i j:=by
 rcases h with ⟨h1,h2⟩|⟨h1,h2⟩
 .exact .of_left (intBits_le_64 h1 h2)
 .exact .of_right (intBits_le_64 h1 h2)
theorem Iz:gM X (Oa .Add) (HV λi j=>.int (i+j)):=Kg λ_ _ _ _ _ _ _ q=>add_int q
theorem Iw:gM X (Oa .Sub) (HV λi j=>.int (i - j)):=Kg λ_ _ _ _ _ _ _ q=>sub_int q
theorem Ix:gM X (Oa .Mult) (rI GW λi j=>.int (i*j)):=Ly λ_ _ _ _ _ _ _ I q=>mul_int q I.ok
theorem F6:gM X (Oa .FloorDiv) (rI K8 λi j=>.int (i / j)):=Ly λi j _ _ _ _ _ I q=>by
 have h1:(0:Int) < j:=I.1;have h2:j < 1073741824:=I.2;exact floordiv_int (by omega) (by rw[Int.fdiv_eq_ediv_of_nonneg i (by omega)];exact q) (.inl (PyProof.noPylong_small (by omega)))
theorem Iy:gM X (Oa .Mod) (rI (λ_ j=>0 < j) λi j=>.int (i % j)):=Ly λi j _ _ _ _ _ I q=>by
 have h1:(0:Int) < j:=I;exact mod_int' (by omega) (by rw[Int.fmod_eq_emod_of_nonneg i (by omega)];exact q)
theorem Ke:gM X (Nq .Lt) (HV λi j=>.bl (decide (i < j))):=Kh λ_ _ _ _ _ _ _ q=>lt_int q
theorem Kf:gM X (Nq .LtE) (HV λi j=>.bl (decide (i<=j))):=Kh λ_ _ _ _ _ _ _ q=>le_int q
theorem gM.or{f:MC->MC->Sem MC}{r r':R2}(h:gM X f r)(h':gM X f r'):gM X f (λx y H Q=>r x y H Q\/r' x y H Q):=by
 intro pins s σ H x y v u Q I rx J q;rcases q with q|q
 .exact h pins s σ H x y v u Q I rx J q
 .exact h' pins s σ H x y v u Q I rx J q
theorem cf(b:M7){op:PP}(h:op≠.In:=by decide)(h2:op≠.NotIn:=by decide):NN op b=false:=by
 have J:(op == CmpOp.In)=false:=by cases op<;>first|rfl|exact absurd rfl h
 have I:(op == CmpOp.NotIn)=false:=by cases op<;>first|rfl|exact absurd rfl h2
 cases b<;>simp[NN,J,I]
theorem FX{op:PP}{r:R2}(ho:gM X (Nq op) r)(W:PE X a ta)(U:PE X b tb)(O:NN op b=false):PE X (.Compare a [op] [b] pos) (Jy r ta tb):=by
 intro pins s σ H Q I h;exact wpAny_Compare1 (Jm W U I h λv u J x y H2 Y rx L q=>ho pins J σ H2 x y v u Q Y rx L q) O
def Db(t:TE):TT:=λσ H Q=>t σ H λx H'=>∃k,x=.bl k/\Q k H'
theorem A1{op:PP}{r:R2}(ho:gM X (Nq op) r)(ha:PE X a ta)(hb:PE X b tb)(Z:NN op b=false):PT X (.Compare a [op] [b] pos) (Db (Jy r ta tb)):=by
 intro pins s σ H Q I h;refine Rn (b_ (ha pins s σ H _ I h) λv s1 J=>?_) Z;obtain⟨x,H1,I1,O,Y⟩:=J;refine b_ (hb pins s1 σ H1 _ I1 Y) λu L J=>?_;obtain⟨y,H2,I2,r2,W⟩:=J;refine b_ (ho pins L σ H2 x y v u _ I2 O r2 W) λc s3 J=>?_;obtain⟨z,H3,I3,r3,k,e,U⟩:=J;subst e;cases r3;exact Od ⟨H3,I3,U⟩
def Df(r r':R2)(ta tb tc:TE):TE:=λσ H Q=>ta σ H λx H1=>tb σ H1 λy H2=>r x y H2 λz I=>∃k,z=.bl k/\
 (if k=true then tc σ I λJ L=>r' y J L Q else Q (.bl false) I)
theorem DM{op L:PP}{r r':R2}(ho:gM X (Nq op) r)(O:gM X (Nq L) r')(ha:PE X a ta)(hb:PE X b tb)(hc:PE X c tc)
  (hm:lastMarks [op,L] [b,c]=false:=by with_unfolding_all rfl):PT X (.Compare a [op,L] [b,c] pos) (Db (Df r r' ta tb tc)):=by
 intro pins s σ H Q I h;refine isTrue_chain (b_ (ha pins s σ H _ I h) λv s1 ⟨x,H1,I1,r1,q1⟩=>test_link (b_ (hb pins s1 σ H1 _ I1 q1) λu s2 J=>?_)) hm;obtain⟨y,H2,I2,r2,q2⟩:=J;refine b_ (ho pins s2 σ H2 x y v u _ I2 r1 r2 q2) λd s3 J=>?_;obtain⟨z,Y,W,r3,k,e,U⟩:=J;subst e;cases r3;refine Od ?_;cases k with
 | false=>
  obtain⟨k',e',q'⟩:=U;cases e';exact ite_ff ⟨Y,W,q'⟩
 | true=>
  refine ite_tt (test_last (b_ (hc pins s3 σ Y _ W U) λw' s4 J=>?_));obtain⟨Z,H4,I4,r4,q4⟩:=J;refine b_ (O pins s4 σ H4 y Z u w' _ I4 r2 r4 q4) λd' s5 J=>?_;obtain⟨z2,H5,I5,r5,k2,e2,q5⟩:=J;subst e2;cases r5;exact Od ⟨H5,I5,q5⟩
def KY(K:Pj)(x:V)(H:Hp)(k:Bool):Prop:=
 match x with
 | .non=>k=false
 | .bl b=>k=b
 | .int i=>k=(i != 0)
 | .str y=>y.length<=MN/\k=((y.length:Int) != 0)
 | .byt y=>y.size<=MN/\k=((y.size:Int) != 0)
 | .ref p=>(∃xs,ij K H p xs/\k=!xs.isEmpty)\/(∃xs,jL K H p xs/\k=!xs.isEmpty)\/∃I,H p=some (.dK I)/\k=!I.isEmpty
 | _=>False
theorem Am{κ:Type}{ν:List (κ×V)}{vs:List (κ×MC)}(r:KV ν vs):(!vs.isEmpty)=!ν.isEmpty:=by
 cases r<;>rfl
theorem sM{xs:List V}{I:List MC}(r:Vals xs I):(!I.toArray.isEmpty)=!xs.isEmpty:=by
 cases r<;>simp
theorem mD:(MN:Nat) < 2 ^ 63:=by rw[NK];decide
theorem HD:LV X (λx H Q=>∃k,KY X.K x H k/\Q k H):=by
 intro pins s σ H x v Q I rx h;obtain⟨k,e,q⟩:=h;have hs:=NK;cases x with
 | non=>
  cases rx;have J:=e;subst J;exact truthy_none ⟨H,I,q⟩
 | bl b=>
  cases rx;have J:=e;subst J;exact Od ⟨H,I,q⟩
 | int i=>
  obtain⟨t,rfl⟩:=rx;have J:=e;subst J;exact PySem.P.truthy_int ⟨H,I,q⟩
 | str y=>
  obtain⟨t,rfl⟩:=rx;obtain⟨Z,J⟩:y.length<=MN/\k=((y.length:Int) != 0):=e;subst J;exact PySem.P.truthy_str (by omega) ⟨H,I.tok _,q⟩
 | byt y=>
  obtain⟨t,rfl⟩:=rx;obtain⟨Z,J⟩:y.size<=MN/\k=((y.size:Int) != 0):=e;subst J;exact PySem.W.truthy_bytes (by omega) ⟨H,I.tok _,q⟩
 | ref p=>
  cases rx;have J:=e;rcases J with ⟨xs,O,J⟩|⟨xs,O,J⟩|⟨L,O,J⟩
  .subst J;obtain⟨U,r,pl,Y⟩:=I.list O;have hlen:=r.length;exact wpAny_truthy_list pl.isList (by simp;omega) ⟨H,I.tok _,by rw[sM r];exact q⟩
  .subst J;obtain⟨U,r,pl,Y⟩:=I.tuple O;have hlen:=r.length;exact truthy_tuple pl (by simp;omega) ⟨H,I.tok _,by rw[sM r];exact q⟩
  .subst J;obtain⟨Y,hS,vs,r,m⟩:L.length<=MN/\(p == NG)=false/\∃vs,KV L vs/\s.heap.DictOf (aX X.prog X.w) p vs:=I.hok p _ O;have hlen:=O0 r;exact wpAny_truthy_dict hS m (by omega) ⟨H,I.tok _,by rw[Am r];exact q⟩
 | _=>exact (show False from e).elim
theorem DK(U:PE X a ta)(O:∀whole,Rj a X.env whole=(do let v <- whole;O9 a.pos;holding [v] (truthy v))):
  PT X a (λσ H Q=>ta σ H λx H'=>∃k,KY X.K x H' k/\Q k H'):=by
 intro pins s σ H Q I h;exact isTrue_plain (b_ (U pins s σ H _ I h) λv s1 ⟨x,H1,W,J,L⟩=>HD pins s1 σ H1 x v Q W J L) (O _)
theorem z0:gM X (Oa .Add) (λx y H Q=>∃i j,x=.str i/\y=.str j/\i.length+j.length<=MN/\Q (.str (i ++ j)) H):=by
 intro pins s σ H x y v u Q I rx L h;obtain⟨i,j,rfl,rfl,O,q⟩:=h;obtain⟨t,rfl⟩:=rx;obtain⟨J,rfl⟩:=L;exact add_str (λJ tk=>⟨.str (i ++ j),H,I.tok _,⟨_,rfl⟩,q⟩) O
theorem pP{x:V}{us:List MC}(r:Vals [x] us):∃u,us=[u]/\aF x u:=by
 cases r with
 | cons I r2=>cases r2;exact⟨_,rfl,I⟩
theorem CZ{x y:V}{us:List MC}(r:Vals [x,y] us):∃u I,us=[u,I]/\aF x u/\aF y I:=by
 cases r with
 | cons L r2=>
  cases r2 with
  | cons r3 J=>cases J;exact⟨_,_,rfl,L,r3⟩
theorem Cv(L:X.calm=true):dj X (.builtin "min") (λxs H Q=>∃i j,xs=[.int i,.int j]/\Q (.int (if j < i then j else i)) H):=by
 intro pins s σ H xs U Q I r h;obtain⟨i,j,rfl,q⟩:=h;obtain⟨u,O,rfl,⟨t,rfl⟩,⟨W,rfl⟩⟩:=CZ r;refine min_two_ints (I.ok.hd L) λh' tk k=>⟨_,H,I.kept k,?_,q⟩
 by_cases J:j < i
 .rw[if_pos J,if_pos J];exact⟨_,rfl⟩
 .rw[if_neg J,if_neg J];exact⟨_,rfl⟩
end
structure ObjM(h:MY)(x dx C:MF)(mA:Str->Option MC):Prop where
 obj:h.get? x=some (PD C dx)
 ns:h.Ns1 dx mA
 ne:dx≠x
theorem u_{h:MY}{dx:MF}{mA:Str->Option MC}(n:h.Ns1 dx mA):∃od,h.get? dx=some od/\∀name,Ud name od=some (mA name):=by
 obtain⟨o,es,ep,J,hd,O,_,L⟩:=n;refine⟨o,J,λname=>?_⟩;have e:=L name;unfold nsFind findBy at e;rw[<- Array.find?_toList]at e;unfold Ud;rw[hd];dsimp only;split
 .rename_i y q;rw[q]at e;exact congrArg some e
 .rename_i q;rw[q]at e;have a:es.toList.any (·.refKey)=false:=by
   rw[List.any_eq_false];intro y I;obtain⟨z,t,hkey⟩:=O y (Array.mem_toList_iff.mp I);simp[DictEntry.refKey,hkey]
  have U:¬ es.toList.any (·.refKey)=true:=by rw[a];exact Bool.false_ne_true
  rw[if_neg U];exact congrArg some e
theorem ObjM.look{h:MY}{x dx C:MF}{mA:Str->Option MC}(I:ObjM h x dx C mA):∃od,Ug h x (PD C dx) C (some od)/\∀name,Ud name od=some (mA name):=
 let ⟨od,J,L⟩:=u_ I.ns
 ⟨od,⟨I.obj,rfl,rfl,J⟩,L⟩
section
variable{prog:MR}{w:M4}{A:MS}{E:MC->MD->Prop}{s:MD}{K:Pj}{x dx C f:MF}{mA:Str->Option MC}{name:Str}{v:MC}
theorem Gy{expr:Bool}{Q:MC->MD->Prop}(X:K.In s.heap)(I:ObjM s.heap x dx C mA)(Z:QU K C name=true)(Y:Ue K C=true)
  (ha:Ql K (.ref C) name=some none) (O:mA name=some v) (L:PySem.W.handedIn v=true) (h:Q v { s with toks:=s.toks+1 }):
  MJ (MK prog w) A (Rk (.ref x) name expr) Q E s:=by
 obtain⟨od,J,U⟩:=I.look;exact PySem.W.get_value X J (QJ Z).1 (PySem.W.findObj_own Y ha rfl (by rw[U,O])) L h
theorem EA{pl:Sem Bool}{Q:MC×List MC->MD->Prop}(X:K.In s.heap)(I:ObjM s.heap x dx C mA)(L:QU K C name=true)
  (Z:Ql K (.ref C) name=some (some (.ref f))) (U:Uh K (.ref f)=true) (O:mA name=none) (h:Q (.ref f,[.ref x]) s):
  MJ (MK prog w) A (Pd (.ref x) name pl) Q E s:=by
 obtain⟨od,J,Y⟩:=I.look;exact PySem.W.method_fn X J (QJ L).1 (QJ L).2 Z (beq_iff_eq.mp U) (by show (Ud name od).map (·.isSome)=some false;rw[Y,O];rfl) h
theorem FB{ns:List Str}{Q:Unit->MD->Prop}(X:K.In s.heap)(I:ObjM s.heap x dx C mA)
  (hs:Ql K (.ref C) "__setattr__"=some (some (.builtin "object.__setattr__"))) (hp:PySem.W.plainOver K C=true) (ht:Uc K C name=some none) (hh:Ue K C=true)
  (hw:PySem.Within mA ns) (hsz:ns.length<=MN)
  (h:∀h',ObjM h' x dx C (λy=>if y=name then some v else mA y)->Ov dx s.heap h'->Q () { s with heap:=h',toks:=s.toks+2 }):
  MJ (MK prog w) A (Sc (.ref x) name v) Q E s:=by
 obtain⟨od,J,hl⟩:=I.look;refine PySem.W.set_plain X J hs (PySem.W.osa_open X J hp ht λb=>?_);obtain⟨cd,hc,Z⟩:=PySem.W.any_some hh;have hx:=I.obj;refine MB (MG (MB (MB (QR hx (MB (PySem.W.Looks.here (PySem.W.looks_clsIn X hc) ?_))))));rw[Z];refine MG (MB (MG (MB ?_)));refine wpAny_nsSet1 I.ns λh' O L=>?_;obtain⟨oD,esD,epD,U,Y,hcD⟩:=O.count (PySem.Within.cons name v hw);refine MB (wpAny_lookBehind U (by rw[Y];exact pastItsLine_dict (le_trans hcD (by simp_all))) ?_)
 exact MG (h _ ⟨(L.2 _ (Ne.symm I.ne)).trans I.obj,O,I.ne⟩ L)
theorem Eg{R:PK->MD->Prop}{vs:List MC}{I:List (Str×MC)}(X:K.In s.heap)(J:Ua K C=true)
  (hi:Ql K (.ref C) "__init__"=some (some (.ref f))) (L:Ui K (.ref f)=some (.type "function"))
  (h:N4 (MK prog w) (A.under (.builtin "type.__call__" ⟨.ref C::vs,I⟩)) (.call (.ref f) ⟨.ref (s.heap.objs.size+1)::vs,I⟩) (PySem.W.InitBack (s.heap.objs.size+1) R)
   { s with heap:=(s.heap.push OZ).push (PD C s.heap.objs.size) }):
  N4 (MK prog w) A (.call (.ref C) ⟨vs,I⟩) R s:=by
 exact PySem.W.make_core (PySem.W.makes_of X J) (Qr X hi) (λself=>PySem.W.bind_fn X self L) (.inl rfl) h
end
noncomputable def e8(f:Str)(v:V):List (Str×V)->List (Str×V)
 | []=>[(f,v)]
 | (g,x)::r=>if g=f then (g,v)::r else (g,x)::e8 f v r
theorem p_(f g:Str)(v:V):∀fs:List (Str×V),(e8 f v fs).lookup g=if g=f then some v else fs.lookup g
 | []=>by
  show List.lookup g [(f,v)]=_
  by_cases h:g=f
  .have I:(g == f)=true:=beq_iff_eq.mpr h;simp only[List.lookup,I,if_pos h]
  .have I:(g == f)=false:=beq_eq_false_iff_ne.mpr h;simp only[List.lookup,I,if_neg h]
 | (k,x)::r=>by
  have L:=p_ f g v r;rw[show e8 f v ((k,x)::r)=(if k=f then (k,v)::r else (k,x)::e8 f v r)from rfl]
  by_cases J:k=f
  .rw[if_pos J]
   by_cases h:g=k
   .have I:(g == k)=true:=beq_iff_eq.mpr h;simp only[List.lookup,I,if_pos (h.trans J)]
   .have I:(g == k)=false:=beq_eq_false_iff_ne.mpr h;simp only[List.lookup,I,if_neg (λe:g=f=>h (e.trans J.symm))]
  .rw[if_neg J]
   by_cases h:g=k
   .have I:(g == k)=true:=beq_iff_eq.mpr h;simp only[List.lookup,I,if_neg (λe:g=f=>J (h.symm.trans e))]
   .have I:(g == k)=false:=beq_eq_false_iff_ne.mpr h;simp only[List.lookup,I];exact L
theorem pr(f:Str)(v:V):∀fs:List (Str×V),f∈(e8 f v fs).map (·.1)/\∀g,g∈fs.map (·.1)->g∈(e8 f v fs).map (·.1)
 | []=>⟨by simp[e8],λg h=>by simp at h⟩
 | (k,x)::r=>by
  obtain⟨i1,i2⟩:=pr f v r;rw[show e8 f v ((k,x)::r)=(if k=f then (k,v)::r else (k,x)::e8 f v r)from rfl]
  by_cases I:k=f
  .rw[if_pos I];subst I;exact⟨by simp,λg h=>by simpa using h⟩
  .rw[if_neg I];refine⟨?_,λg h=>?_⟩
   .rw[M5];exact MQ _ i1
   .rw[M5]at h ⊢;rcases NC.mp h with e|e
    .exact NC.mpr (.inl e)
    .exact MQ _ (i2 g e)
theorem qd(f:Str)(v:V):∀fs:List (Str×V),(e8 f v fs).length<=fs.length+1
 | []=>by simp[e8]
 | (k,x)::r=>by
  have J:=qd f v r;rw[show e8 f v ((k,x)::r)=(if k=f then (k,v)::r else (k,x)::e8 f v r)from rfl]
  by_cases I:k=f
  .rw[if_pos I,MU,MU];omega
  .rw[if_neg I,MU,MU];omega
theorem jM.some_of{v:V}{o:Option MC}(r:jM (some v) o):∃u,o=some u/\aF v u:=by
 cases o with
 | none=>exact (show False from r).elim
 | some u=>exact⟨u,rfl,r⟩
theorem jM.none_of{o:Option MC}(r:jM none o):o=none:=by
 cases o with
 | none=>rfl
 | some u=>exact (show False from r).elim
theorem Cg{v:V}{u:MC}(r:aF v u):PySem.W.handedIn u=true:=by
 cases v with
 | non=>cases (show u=Value.none from r);rfl
 | bl b=>cases (show u=Value.bool b from r);rfl
 | int i=>obtain⟨t,e⟩:=(show ∃t,u=Value.int i t from r);cases e;rfl
 | str x=>obtain⟨t,e⟩:=(show ∃t,u=Value.str x t from r);cases e;rfl
 | byt b=>obtain⟨t,e⟩:=(show ∃t,u=Value.bytes b t from r);cases e;rfl
 | flt b=>obtain⟨t,e⟩:=(show ∃t,u=Value.float b t from r);cases e;rfl
 | ref a=>cases (show u=Value.ref a from r);rfl
 | ty n=>cases (show u=Value.type n from r);rfl
section
variable{P:MR}{w:M4}{H H':Hp}{h h':MY}{a C dx:MF}{fs fs':List (Str×V)}
theorem qO(hok:lb P w H h)(e:H a=some (.ins C dx fs)):∃mA,ObjM h a dx C mA/\(∀f,jM (fs.lookup f) (mA f))/\PySem.Within mA (fs.map (·.1))/\fs.length<=1000/\H dx=some (.own a):=by
 obtain⟨d,z,ne,I,mA,n,r,q⟩:=(show bz P w H h a (.ins C dx fs)from hok a _ e)
 exact⟨mA,⟨I,n,ne⟩,r,q,z,d⟩
end
structure Cls(K:Pj)(C:MF):Prop where
 pg:QU K C Str.empty=true
 hd:Ue K C=true
 po:PySem.W.plainOver K C=true
 sa:Ql K (.ref C) "__setattr__"=some (some (.builtin "object.__setattr__"))
theorem Cls.get{K:Pj}{C:MF}(c:Cls K C)(f:Str):QU K C f=true:=c.pg
def cB(K:Pj)(C:MF)(f:Str):Prop:=Ql K (.ref C) f=some none
theorem cB.taker{K:Pj}{C:MF}{f:Str}(n:cB K C f):Uc K C f=some none:=by
 unfold Uc;rw[show Ql K (.ref C) f=some none from n]
 rfl
structure Meth(K:Pj)(C:MF)(m:Str)(f:MF):Prop where
 at_:Ql K (.ref C) m=some (some (.ref f))
 fn:Uh K (.ref f)=true
 kp:QG K (.ref f)=true
section
variable{X:Cx}{pins:List (MF×Obj)}{σ:St}{H:Hp}{s:MD}{a C dx:MF}{fs:List (Str×V)}{f:Str}{v:V}{A:MS}{E:MC->MD->Prop}
theorem Ap{b:Bool}{Q:MC->MD->Prop}(I:Inv X pins σ H s)(e:H a=some (.ins C dx fs))(c:Cls X.K C)(n:cB X.K C f)(l:fs.lookup f=some v)
  (h:∀u s',Inv X pins σ H s'->aF v u->Q u s'):MJ (MK X.prog X.w) A (Rk (.ref a) f b) Q E s:=by
 obtain⟨mA,O,r,_,_,_⟩:=qO I.hok e;obtain⟨u,L,J⟩:=jM.some_of (by rw[<- l];exact r f)
 exact Gy I.kIn O (c.get f) c.hd n L (Cg J) (h u _ (I.tok _) J)
theorem mJ{m:Str}{g:MF}{pl:Sem Bool}{Q:MC×List MC->MD->Prop}(I:Inv X pins σ H s)(e:H a=some (.ins C dx fs))(c:Cls X.K C)(k:Meth X.K C m g)(l:fs.lookup m=none)
  (h:Q (.ref g,[.ref a]) s):MJ (MK X.prog X.w) A (Pd (.ref a) m pl) Q E s:=by
 obtain⟨mA,O,r,_,_,_⟩:=qO I.hok e;have hn:mA m=none:=jM.none_of (by rw[<- l];exact r m)
 exact EA I.kIn O (c.get m) k.at_ k.fn hn h
theorem zG{y:V}{u:MC}{Q:Unit->MD->Prop}(I:Inv X pins σ H s)(e:H a=some (.ins C dx fs))(c:Cls X.K C)(n:cB X.K C f)(hl:fs.length < 1000)(W:aF y u)
  (h:∀s',Inv X pins σ (aV H a (.ins C dx (e8 f y fs))) s'->Q () s'):MJ (MK X.prog X.w) A (Sc (.ref a) f u) Q E s:=by
 obtain⟨mA,O,r,wi,_,L⟩:=qO I.hok e;have Y:(fs.map (·.1)).length<=MN:=by rw[MH,NK];omega
 refine FB I.kIn O c.sa c.po n.taker c.hd wi Y λh' J U=>h _ ?_;have hd:∃o,h'.get? dx=some o:=let ⟨o,_,_,e',_⟩:=J.ns;⟨o,e'⟩;refine I.write (x:=a) (e:=dx) (by rw[e];exact True.intro) (.inr L) (λb q hb z=>(U.2 b hb).trans z) hd ?_
 refine⟨by rw[ao O.ne];exact L,?_,O.ne,J.obj,_,J.ns,λg=>?_,λg Z=>?_⟩
 .have:=qd f y fs;omega
 .show jM ((e8 f y fs).lookup g) (if g=f then some u else mA g)
  rw[p_]
  by_cases q:g=f
  .rw[if_pos q,if_pos q];exact W
  .rw[if_neg q,if_neg q];exact r g
 .by_cases q:g=f
  .rw[q];exact (pr f y fs).1
  .refine (pr f y fs).2 g (wi g λz=>Z ?_);show (if g=f then some u else mA g)=none
   rw[if_neg q];exact z
theorem Inv.made(I:Inv X pins σ H s):Inv X pins σ (aV (aV H s.heap.objs.size (.own (s.heap.objs.size+1))) (s.heap.objs.size+1) (.ins C s.heap.objs.size []))
  { s with heap:=(s.heap.push OZ).push (PD C s.heap.objs.size) }:=by
 have J:(s.heap.push OZ).get? s.heap.objs.size=some OZ:=MM s.heap rfl;have W:((s.heap.push OZ).push (PD C s.heap.objs.size)).get? (s.heap.objs.size+1)=some (PD C s.heap.objs.size):=by
  have:=MM (s.heap.push OZ) (o:=PD C s.heap.objs.size) rfl;rwa[NE]at this
 have U:(s.heap.push OZ).Ns s.heap.objs.size (λ_=>none):=⟨OZ,#[],_,J,rfl,(λe O=>absurd O (by simp)),λ_=>rfl⟩
 have Y:=I.laid (o:=.own (s.heap.objs.size+1)) (t':=s.toks) (λb u q=>ME _ q) (le_refl _) ⟨_,J⟩;refine Y.laid (λb u q=>ME _ q) (PY (NE _ _)) ?_;have ne:s.heap.objs.size≠s.heap.objs.size+1:=M6 (Oe _);refine⟨by rw[ao ne,aG],NH _,ne,W,λ_=>none,(Sh U).at λo q=>ME _ q,λ_=>True.intro,λy L=>absurd rfl L⟩
theorem Bp{prog:MR}{w:M4}{env:Env}{e:M7}{f:Str}{pos:Pos}{s:MD}{Q:MC->MD->Prop}(J:N6 e f env (eval e env)=eval e env)
  (h:MJ (MK prog w) A (eval e env) (λo I=>MJ (MK prog w) A (Rk o f true) Q E I) E s):MJ (MK prog w) A (eval (.Attribute e f pos) env) Q E s:=
 Attribute_any_ h (by rw[arm_eval_Attribute,J])
end
def Lq(K:Pj)(ta:TE)(f:Str):TE:=λσ H Q=>ta σ H λx H1=>∃a C dx fs v,x=.ref a/\H1 a=some (.ins C dx fs)/\Cls K C/\cB K C f/\fs.lookup f=some v/\Q v H1
def Lu(K:Pj)(ta tv:TE)(f:Str):TS:=λD σ H=>tv σ H λy H1=>ta σ H1 λx H2=>∃a C dx fs,x=.ref a/\H2 a=some (.ins C dx fs)/\Cls K C/\cB K C f/\fs.length < 1000/\
 D.nx σ (aV H2 a (.ins C dx (e8 f y fs)))
section
variable{X:Cx}{o e value:M7}{f:Str}{pos pos' SW:Pos}{ta tv:TE}
theorem DY(O:PE X e ta)(U:N6 e f X.env (eval e X.env)=eval e X.env):PE X (.Attribute e f pos) (Lq X.K ta f):=by
 intro pins s σ H Q I h;refine Bp U (b_ (O pins s σ H _ I h) λu s1 J=>?_);obtain⟨x,H1,Z,rx,a,C,dx,fs,v,ex,W,c,n,l,q⟩:=J;subst ex;obtain rfl:=rx;exact Ap Z W c n l λu' s2 Y L=>⟨v,H1,Y,L,q⟩
theorem zV(W:PE X o ta)(U:PE X value tv)(hs:N7 value (some (.Attribute o f pos')) pos.line X.env=pure false):PS X (.Assign [.Attribute o f pos'] value pos) (Lu X.K ta tv f):=by
 intro pins s σ H D I h;refine Qz (b_ (U pins s σ H _ I h) λu s1 J=>?_) hs;obtain⟨y,H1,I1,L,q⟩:=J;refine b_ (W pins s1 σ H1 _ I1 q) λov s2 J=>?_;obtain⟨x,H2,I2,rx,a,C,dx,fs,ex,Y,c,n,l,O⟩:=J;subst ex;obtain rfl:=rx;exact zG I2 Y c n l L λs3 Z=>⟨σ,_,Z,O⟩
end
section
variable{X:Cx}{pins:List (MF×Obj)}{σ:St}{H:Hp}{s:MD}{A:MS}{E:MC->MD->Prop}{Q:MC->MD->Prop}{c:MC}{b:Bool}
inductive TyOf(K:Pj)(H:Hp):V->MC->Prop where
 | non:TyOf K H .non (.type "NoneType")
 | bl (x:Bool):TyOf K H (.bl x) (.type "bool")
 | int (i:Int):TyOf K H (.int i) (.type "int")
 | str (x:Str):TyOf K H (.str x) (.type "str")
 | flt (x:UInt64):TyOf K H (.flt x) (.type "float")
 | lst {a:MF} {xs:List V} (e:H a=some (.lst xs)):TyOf K H (.ref a) (.type "list")
 | frz {a:MF} {o:Obj} {xs:List V} (e:H a=some (.frz o (.lst xs))):TyOf K H (.ref a) (.type "list")
 | tup {a:MF} {xs:List V} (e:H a=some (.tup xs)):TyOf K H (.ref a) (.type "tuple")
 | dK {a:MF} {ν:List (aE×V)} (e:H a=some (.dK ν)):TyOf K H (.ref a) (.type "dict")
 | dT {a:MF} {ν:List (List aE×V)} (e:H a=some (.dT ν)):TyOf K H (.ref a) (.type "dict")
 | ins {a C dx:MF} {fs:List (Str×V)} (e:H a=some (.ins C dx fs)) (cl:Cls K C) (ha:Ql K (.ref C) "__class__"=some (some (.builtin "object.__class__")))
   (hn:QE K (.builtin "object.__class__") "__get__"=some (some (.builtin "getset_descriptor.__get__"))) (htk:Uf K (.builtin "object.__class__")=some true)
   (hm:T_ K C (.type "object")=some true):TyOf K H (.ref a) (.ref C)
theorem Cb{x:V}{u t:MC}(I:Inv X pins σ H s)(rx:aF x u)(ty:TyOf X.K H x t)(e:ST X.K t c=some b)(h:∀tk,Q (.bool b) { s with toks:=tk }):
  MJ (MK X.prog X.w) A (call (.builtin "isinstance") [u,c]) Q E s:=by
 cases ty with
 | non=>cases (show u=Value.none from rx);exact T9 PySem.W.kitx_none I.kIn True.intro e (λz=>nomatch z) h
 | bl y=>cases (show u=Value.bool y from rx);exact T9 PySem.W.kitx_bool I.kIn True.intro e (λz=>nomatch z) h
 | int i=>obtain⟨t,q⟩:=(show ∃t,u=Value.int i t from rx);cases q;exact T9 PySem.W.kitx_int I.kIn True.intro e (λz=>nomatch z) h
 | str y=>obtain⟨t,q⟩:=(show ∃t,u=Value.str y t from rx);cases q;exact T9 PySem.W.kitx_str I.kIn True.intro e (λz=>nomatch z) h
 | flt y=>obtain⟨t,q⟩:=(show ∃t,u=Value.float y t from rx);cases q;exact T9 PySem.W.kitx_float I.kIn True.intro e (λz=>nomatch z) h
 | @lst a xs L=>
  cases (show u=Value.ref a from rx)
  obtain⟨_,_,n,_,h1⟩:=(show bz X.prog X.w H s.heap a (.lst xs)from I.hok a _ L)
  exact T9 PySem.W.kitx_list I.kIn ⟨_,h1,rfl⟩ e (λz=>nomatch z) h
 | @frz a Z xs L=>
  cases (show u=Value.ref a from rx)
  obtain⟨_,_,_,n,_,h1⟩:=(show bz X.prog X.w H s.heap a (.frz Z (.lst xs))from I.hok a _ L)
  exact T9 PySem.W.kitx_list I.kIn ⟨_,h1,rfl⟩ e (λz=>nomatch z) h
 | @tup a xs L=>
  cases (show u=Value.ref a from rx)
  obtain⟨_,_,_,p⟩:=(show bz X.prog X.w H s.heap a (.tup xs)from I.hok a _ L)
  obtain⟨o,h1,h2,_⟩:=p;exact T9 PySem.W.kitx_tuple I.kIn ⟨o,h1,h2.1⟩ e (λz=>nomatch z) h
 | @dK a U L=>
  cases (show u=Value.ref a from rx)
  obtain⟨_,_,vs,_,p⟩:=(show bz X.prog X.w H s.heap a (.dK U)from I.hok a _ L)
  obtain⟨o,es,ep,h1,h2,_⟩:=p;exact T9 PySem.W.kitx_dict I.kIn ⟨o,h1,h2.1⟩ e (λz=>nomatch z) h
 | @dT a U L=>
  cases (show u=Value.ref a from rx)
  obtain⟨_,_,xs,_,o,es,ep,h1,h2,_⟩:=(show bz X.prog X.w H s.heap a (.dT U)from I.hok a _ L)
  exact T9 PySem.W.kitx_dict I.kIn ⟨o,h1,h2.1⟩ e (λz=>nomatch z) h
 | @ins a C dx fs L cl ha hn Y hm=>
  cases (show u=Value.ref a from rx)
  obtain⟨mA,O,_⟩:=qO I.hok L;obtain⟨od,J,_⟩:=O.look;exact T9 (PySem.W.kitx_own (cl.get _) cl.hd ha hn Y hm) I.kIn J e (λz=>nomatch z) h
end
structure Room(k:Nat)(A:MS):Prop where
 hd:100<=k->A.handled=none
 dp:A.depth+3*k+5 < recursionLimit
 un:A.units+16*k+200 < NA
theorem Room.mono{j k:Nat}{A:MS}(r:Room k A)(h:j<=k):Room j A:=⟨λz=>r.hd (le_trans z h),by have:=r.dp;omega,by have:=r.un;omega⟩
theorem Room.deeper{k:Nat}{A:MS}(r:Room (k+1) A)(env:Env):Room k (A.deeper env):=
 ⟨λz=>r.hd (Nat.le_succ_of_le z),by have:=r.dp;show A.depth+1+3*k+5 < _;omega,by have:=r.un;show A.units+3+16*k+200 < _;omega⟩
theorem Room.in1{k:Nat}{A:MS}(r:Room (k+1) A):Room k A.in1:=
 ⟨λz=>r.hd (Nat.le_succ_of_le z),by have:=r.dp;show A.depth+3*k+5 < _;omega,by have:=r.un;show A.units+1+16*k+200 < _;omega⟩
theorem Ag{A:MS}{C:MF}{us:List MC}{I:List (Str×MC)}:(A.under (.builtin "type.__call__" ⟨.ref C::us,I⟩)).depth=A.depth+1:=rfl
theorem Af{A:MS}{C:MF}{us:List MC}{I:List (Str×MC)}:(A.under (.builtin "type.__call__" ⟨.ref C::us,I⟩)).units=A.units+1:=rfl
theorem Room.make{k:Nat}{A:MS}(r:Room (k+1) A)(C:MF)(us:List MC)(I:List (Str×MC)):Room k (A.under (.builtin "type.__call__" ⟨.ref C::us,I⟩)):=
 ⟨λz=>r.hd (Nat.le_succ_of_le z),by have:=r.dp;rw[Ag];omega,by have:=r.un;rw[Af];omega⟩
theorem Room.depth{k:Nat}{A:MS}(r:Room k A):A.depth < recursionLimit:=by have:=r.dp;omega
theorem Room.units{k:Nat}{A:MS}(r:Room k A):A.units+64 < NA:=by have:=r.un;omega
def JH:TA:=λ_ H Q=>Q [] H
def JK(ta:TE)(I:TA):TA:=λσ H Q=>ta σ H λx H1=>I σ H1 λxs H2=>Q (x::xs) H2
section
variable{X:Cx}{e:M7}{es:List M7}{te:TE}{t:TA}{pos:Pos}
theorem Iq:PA X [] JH:=λ_ _ _ _ H Q I h=>OW ⟨[],H,I,.nil,h⟩
theorem FZ(Y:PE X e te)(W:PA X es t)(hs:MP (e::es) X.env=(false,eval e X.env)::MP es X.env:=by rfl):PA X (e::es) (JK te t):=by
 intro pos pins s σ H Q I h;rw[hs];show MJ _ _ (spliced ((false,eval e X.env)::NM pos (MP es X.env))) _ _ s
 refine Ow (b_ (Y pins s σ H _ I h) λu s1 J=>?_);obtain⟨x,H1,I1,L,U⟩:=J;exact b_ (W pos pins s1 σ H1 _ I1 U) λus s2 ⟨xs,H2,Z,r2,O⟩=>⟨x::xs,H2,Z,.cons L r2,O⟩
def Lj(t:TA):TE:=λσ H Q=>t σ H λxs H1=>xs.length<=MN/\∀p,H1 p=none->Q (.ref p) (aV H1 p (.tup xs))
def Ln(t:TA):TE:=λσ H Q=>t σ H λxs H1=>xs.length<=MN/\∀p,H1 p=none->Q (.ref p) (aV H1 p (.lst xs))
theorem Ih{L}(h:PA X es t):PE X (.Tuple es L pos) (Lj t):=by
 intro pins s σ H Q I hq;refine wpAny_Tuple_spliced (b_ (h pos pins s σ H _ I hq) λO s1 ⟨xs,H1,J,r,z,q⟩=>⟨by rw[<- r.length];exact z,?_⟩)
 have U:H1 s1.heap.objs.size=none:=J.hok.fresh (le_refl _);refine⟨.ref s1.heap.objs.size,aV H1 s1.heap.objs.size (.tup xs),J.laid (t':=s1.toks) (λb u e=>ME _ e) (le_refl _) ?_,rfl,q _ U⟩;exact⟨z,O,r,tw.new _ _⟩
theorem Il(h:PA X es t):PE X (.List es pos) (Ln t):=by
 intro pins s σ H Q I hq;refine wpAny_List_spliced (b_ (h pos pins s σ H _ I hq) λL s1 ⟨xs,H1,J,r,z,q⟩=>⟨by rw[<- r.length];exact z,?_⟩)
 have O:H1 s1.heap.objs.size=none:=J.hok.fresh (le_refl _);refine⟨.ref s1.heap.objs.size,aV H1 s1.heap.objs.size (.lst xs),J.laid (t':=s1.toks) (λb u e=>ME _ e) (le_refl _) ?_,rfl,q _ O⟩;exact⟨z,L,0,r,MM _ rfl⟩
end
abbrev Sp:=List V->Hp->VK->XK->Prop
abbrev E9:=List Env->Hp->MD->XK->MC->MD->Prop
structure Env0(P:MR)(w:M4)(K:Pj)(mg:Str->Option MC)(base:MY)(A:MS)(outer:List Env)(s:MD)(H:Hp):Prop where
 frames:A.frames=some outer
 mod:Mod K mg base
 bs:∀b o,base.get? b=some o->s.heap.get? b=some o/\H b=none
 bsz:base.objs.size<=s.heap.objs.size
 funs:s.heap.FunFrames base outer
 frf:∀b∈vf outer,H b=none
 hok:lb P w H s.heap
 bare:Po s.gens
 hs:Jz A s.heap λx=>H x=none/\x∉vf outer
def CE(outer:List Env)(P:MR)(w:M4)(H:Hp)(s:MD)(Q:VK)(u:MC)(s':MD):Prop:=
 ∃v H',s'.os=s.os/\Po s'.gens/\Un (vf outer) [] H H' s.heap s'.heap/\lb P w H' s'.heap/\aF v u/\Q v H'
def CR(CX:E9)(outer:List Env)(P:MR)(w:M4)(H:Hp)(s:MD)(Q:VK)(E:XK)(r:PK)(s':MD):Prop:=
 match r with
 | .ok (.ret u)=>CE outer P w H s Q u s'
 | .ok _=>False
 | .error e=>CX outer H s E e s'
structure FnOk(P:MR)(w:M4)(K:Pj)(mg:Str->Option MC)(base:MY)(CX:E9)(k:Nat)(f:MF)(fd:NL)(ps:List Str)(sp:Sp):Prop where
 len:∀vs H Q E,sp vs H Q E->vs.length=ps.length
 run:∀(A:MS) (outer:List Env) (s:MD) (H:Hp) (args:Args) (us:List MC) (vs:List V) (Q:VK) (E:XK),Room k A->Env0 P w K mg base A outer s H->QQ s fd args (ps.zip us)->Vals vs us->sp vs H Q E->
  N4 (MK P w) A (.call (.ref f) args) (CR CX outer P w H s Q E) s
theorem Env0.make{P:MR}{w:M4}{K:Pj}{mg:Str->Option MC}{base:MY}{A:MS}{outer:List Env}{s:MD}{H:Hp}(e:Env0 P w K mg base A outer s H)(C:MF)(us:List MC)(I:List (Str×MC)):
  Env0 P w K mg base (A.under (.builtin "type.__call__" ⟨.ref C::us,I⟩)) outer s H:=⟨by first|exact e.frames|(simpa[Around.under,Code.envs,Code.isFrame,pushEnvs]using e.frames),e.mod,e.bs,e.bsz,e.funs,e.frf,e.hok,e.bare,e.hs⟩
theorem Env0.in1{P:MR}{w:M4}{K:Pj}{mg:Str->Option MC}{base:MY}{A:MS}{outer:List Env}{s:MD}{H:Hp}(e:Env0 P w K mg base A outer s H):
  Env0 P w K mg base A.in1 outer s H:=⟨e.frames,e.mod,e.bs,e.bsz,e.funs,e.frf,e.hok,e.bare,e.hs⟩
section
variable{X:Cx}{pins:List (MF×Obj)}{σ:St}{H:Hp}{s s':MD}
theorem Inv.env0(I:Inv X pins σ H s):Env0 X.prog X.w X.K X.mg X.base X.A X.stack s H:=
 ⟨I.ok.frames,I.ok.mod,I.bs,le_trans I.ok.bsz I.sz,I.stack,I.stkFree,I.hok,I.bare,I.ok.hs.out λp J=>⟨(I.pin p (Nc _ J)).1,(I.pin p (Nc _ J)).2.1,λz=>(NC.mp (I.stkSub _ z)).elim (I.pin p (Nc _ J)).2.2.1 (I.pin p (Nc _ J)).2.2.2.1⟩⟩
theorem Inv.after{Q:VK}{u:MC}(I:Inv X pins σ H s)(h:CE X.stack X.prog X.w H s Q u s'):EP X pins σ Q u s':=by
 obtain⟨v,H',os,bare,un,hok,r,q⟩:=h;obtain⟨L,g,d,t,J⟩:=s';obtain rfl:J=s.os:=os;exact⟨v,H',I.call (h':=L) (g':=g) (d':=d) (t':=t) (ch:=[]) un hok bare (λb z=>absurd z (by simp)),r,q⟩
end
def Ha(sp:Sp)(dvs:List V)(E:XK)(t:TA):TE:=λσ H Q=>t σ H λvs H1=>sp (vs ++ dvs) H1 Q E
def De(C:MF)(m:Str)(sp:Sp)(dvs:List V)(E:XK)(ta:TE)(t:TA):TE:=λσ H Q=>ta σ H λx H1=>∃a dx fs,x=.ref a/\H1 a=some (.ins C dx fs)/\fs.lookup m=none/\
 t σ H1 λvs H2=>sp (x::(vs ++ dvs)) H2 Q E
def G_(C:MF)(sp:Sp)(dvs:List V)(E:XK)(t:TA):TE:=λσ H Q=>t σ H λvs H1=>∀x dx,H1 x=none->H1 dx=none->dx≠x->
 sp (.ref x::(vs ++ dvs)) (aV (aV H1 dx (.own x)) x (.ins C dx [])) (λv H2=>v=.non/\Q (.ref x) H2) E
def eA(K:Pj)(fd:NL)(ps:List Str)(ds:List MC):Prop:=
 ∀(s:MD) (I:List MC),K.In s.heap->(I ++ ds).length=ps.length->QQ s fd ⟨I,[]⟩ (ps.zip (I ++ ds))
theorem eA.all{K:Pj}{fd:NL}{ps:List Str}(h:∀us:List MC,us.length=ps.length->bindArgs fd ⟨us,[]⟩=pure (ps.zip us)):eA K fd ps []:=λs us _ I=>by
 rw[Ng]at I ⊢;exact .of_eq (h us I)
def mL(CX:E9)(X:Cx)(E:XK):Prop:=∀(pins:List (MF×Obj)) (σ:St) (H:Hp) (s:MD) (e:MC) (s':MD),Inv X pins σ H s->CX X.stack H s E e s'->X.xe e s'
section
variable{X:Cx}{CX:E9}{k:Nat}{f C:MF}{fd:NL}{ps:List Str}{sp:Sp}{dvs:List V}{ds:List MC}{E:XK}{x m:Str}{p pos apos:Pos}{e o:M7}{es:List M7}{ta:TE}{t:TA}
theorem rD{pins:List (MF×Obj)}{σ:St}{H:Hp}{s:MD}{Q:VK}{us:List MC}{vs:List V}(F:FnOk X.prog X.w X.K X.mg X.base CX k f fd ps sp)(L:Room k X.A)(U:eA X.K fd ps ds)(hd:Vals dvs ds)(J:mL CX X E)
  (I:Inv X pins σ H s) (r:Vals vs us) (h:sp (vs ++ dvs) H Q E):MJ (MK X.prog X.w) X.A (call (.ref f) us) (EP X pins σ Q) X.xe s:=by
 have r2:Vals (vs ++ dvs) (us ++ ds):=r.append hd;have O:(us ++ ds).length=ps.length:=by rw[<- r2.length];exact F.len _ _ _ _ h
 refine OY (Og (F.run X.A X.stack s H ⟨us,[]⟩ (us ++ ds) (vs ++ dvs) Q E L I.env0 (U s us I.kIn O) r2 h) λr s' hq=>?_);cases r with
 | error e=>exact J pins σ H s e s' I hq
 | ok fl=>
  cases fl with
  | ret u=>exact I.after hq
  | next=>exact False.elim hq
  | brk=>exact False.elim hq
  | cont=>exact False.elim hq
theorem FY(F:FnOk X.prog X.w X.K X.mg X.base CX k f fd ps sp)(W:Room k X.A)(hg:Gl X x)(Y:X.mg x=some (.ref f))(Z:QG X.K (.ref f)=true)(hb:eA X.K fd ps ds)(hd:Vals dvs ds)(U:mL CX X E)
  (ha:PA X (e::es) t) (L:(x == ("__debug__":Str))=false:=by decide) (he:MP (e::es) X.env=(false,eval e X.env)::MP es X.env:=by rfl) (J:(NM pos (MP es X.env)).any (·.1)=false:=by rfl):
  PE X (.Call (.Name x p) (e::es) [] pos) (Ha sp dvs E t):=by
 intro pins s σ H Q I h;refine N9 (i8 I hg Y ?_ L);refine Ph (h₀:=X.base) I.ok.mod.kin Z (b_ (ha pos pins s σ H _ I h) λus s1 ⟨vs,H1,O,r,q⟩=>⟨O.kIn,?_⟩) he J;exact rD F W hb hd U O r q
theorem FV{pl:Sem Bool}(he:PE X o ta)(c:Cls X.K C)(O:Meth X.K C m f)(F:FnOk X.prog X.w X.K X.mg X.base CX k f fd ps sp)(hr:Room k X.A)(hb:eA X.K fd ps ds)(hd:Vals dvs ds)(hx:mL CX X E)(ha:PA X (e::es) t)
  (J:MP (e::es) X.env=(false,eval e X.env)::MP es X.env:=by rfl) (L:(NM pos (MP es X.env)).any (·.1)=false:=by rfl)
  (ht:eval (.Call (.Attribute o m apos) (e::es) [] pos) X.env=(do
   let ov <- eval o X.env
   O9 apos.atName
   let (f,first) <- holding [ov] (Pd ov m pl)
   Qt pos f first (NM pos (MP (e::es) X.env)) (O3 pos (Ot [] X.env))):=by rfl):
  PE X (.Call (.Attribute o m apos) (e::es) [] pos) (De C m sp dvs E ta t):=by
 intro pins s σ H Q I h;refine Ps (b_ (he pins s σ H _ I h) λu s1 Y=>?_) ht;obtain⟨x,H1,W,rx,a,dx,fs,ex,ea,l,q⟩:=Y;subst ex;obtain rfl:=rx;refine mJ W ea c O l ?_;refine Ph I.ok.mod.kin O.kp (b_ (ha pos pins s1 σ H1 _ W q) λus s2 ⟨vs,H2,U,r,Z⟩=>⟨U.kIn,?_⟩) J L;exact rD (vs:=.ref a::vs) F hr hb hd hx U (.cons rfl r) Z
theorem DX{pl:Sem Bool}(he:PE X o ta)(c:Cls X.K C)(L:Meth X.K C m f)(F:FnOk X.prog X.w X.K X.mg X.base CX k f fd ps sp)(Z:Room k X.A)(hb:eA X.K fd ps ds)(hd:Vals dvs ds)(U:mL CX X E)
  (Y:eval (.Call (.Attribute o m apos) [] [] pos) X.env=(do
   let ov <- eval o X.env
   O9 apos.atName
   let (f,first) <- holding [ov] (Pd ov m pl)
   Qt pos f first (NM pos (MP [] X.env)) (O3 pos (Ot [] X.env))):=by rfl):
  PE X (.Call (.Attribute o m apos) [] [] pos) (De C m sp dvs E ta JH):=by
 intro pins s σ H Q I h;refine Ps (b_ (he pins s σ H _ I h) λu s1 O=>?_) Y;obtain⟨x,H1,J,rx,a,dx,fs,ex,ea,l,q⟩:=O;subst ex;obtain rfl:=rx;refine mJ J ea c L l ?_;exact PySem.W.callWith_K0 J.kIn L.kp (rD (vs:=[.ref a]) F Z hb hd U J (.cons rfl .nil) q)
structure Mk(K:Pj)(C f:MF):Prop where
 makes:Ua K C=true
 init:Ql K (.ref C) "__init__"=some (some (.ref f))
 fn:Uh K (.ref f)=true
 kp:QG K (.ref C)=true
theorem Ds{pins:List (MF×Obj)}{σ:St}{H:Hp}{s:MD}{Q:VK}{us:List MC}{vs:List V}(M:Mk X.K C f)(F:FnOk X.prog X.w X.K X.mg X.base CX k f fd ps sp)(Y:Room (k+1) X.A)(hb:eA X.K fd ps ds)(hd:Vals dvs ds)
  (W:mL CX X E) (I:Inv X pins σ H s) (r:Vals vs us)
  (h:∀x dx,H x=none->H dx=none->dx≠x->sp (.ref x::(vs ++ dvs)) (aV (aV H dx (.own x)) x (.ins C dx [])) (λv H2=>v=.non/\Q (.ref x) H2) E):
  MJ (MK X.prog X.w) X.A (call (.ref C) us) (EP X pins σ Q) X.xe s:=by
 have hq:=h (s.heap.objs.size+1) s.heap.objs.size (I.hok.fresh (P_ _)) (I.hok.fresh (le_refl _)) (M6 (Oe _));have L:=Inv.made (C:=C) I;have r2:Vals (V.ref (s.heap.objs.size+1)::(vs ++ dvs)) (Value.ref (s.heap.objs.size+1)::(us ++ ds)):=.cons rfl (r.append hd);have Z:(Value.ref (s.heap.objs.size+1)::us ++ ds).length=ps.length:=by
  have e:=r2.length;rw[F.len _ _ _ _ hq]at e;exact e.symm
 refine OY (Eg I.kIn M.makes M.init (beq_iff_eq.mp M.fn) (Og (F.run _ X.stack _ _ ⟨Value.ref (s.heap.objs.size+1)::us,[]⟩ (Value.ref (s.heap.objs.size+1)::(us ++ ds)) _ _ E (Y.make C us [])
  (L.env0.make C us []) (hb _ (Value.ref (s.heap.objs.size+1)::us) L.kIn Z) r2 hq) λr s' J=>?_))
 cases r with
 | error e=>exact W pins σ _ _ e s' L J
 | ok fl=>
  cases fl with
  | ret u=>
   obtain⟨v,H',I3,O,ev,U⟩:=L.after J;subst ev;exact⟨O,⟨V.ref (s.heap.objs.size+1),H',I3,rfl,U⟩⟩
  | next=>exact False.elim J
  | brk=>exact False.elim J
  | cont=>exact False.elim J
theorem FW(M:Mk X.K C f)(F:FnOk X.prog X.w X.K X.mg X.base CX k f fd ps sp)(W:Room (k+1) X.A)(Z:Gl X x)(Y:X.mg x=some (.ref C))(hb:eA X.K fd ps ds)(hd:Vals dvs ds)(U:mL CX X E)
  (ha:PA X (e::es) t) (L:(x == ("__debug__":Str))=false:=by decide) (he:MP (e::es) X.env=(false,eval e X.env)::MP es X.env:=by rfl) (J:(NM pos (MP es X.env)).any (·.1)=false:=by rfl):
  PE X (.Call (.Name x p) (e::es) [] pos) (G_ C sp dvs E t):=by
 intro pins s σ H Q I h;refine N9 (i8 I Z Y ?_ L);refine Ph I.ok.mod.kin M.kp (b_ (ha pos pins s σ H _ I h) λus s1 ⟨vs,H1,O,r,q⟩=>⟨O.kIn,?_⟩) he J;exact Ds M F W hb hd U O r q
end
structure Ψ(N P:List Str)(sc:OU):Prop where
 kind:sc.kind=.function
 co:sc.isCoroutine=false
 gen:sc.isGenerator=false
 nd:N.Nodup
 pre:N.take P.length=P
 par:∀x∈P,sc.names.lookup x=some .local\/sc.names.lookup x=some .cell
 nofree:∀y∈sc.names,y.2≠.free
theorem vp{kindOf:Str->Option Pi}{x:Str}:∀{binds:List (Str×MC)} {m:Str->Option MC},(∀v,(x,v)∉binds)->Ra kindOf binds m x=m x
 | [],_,_=>rfl
 | (n,v)::r,m,h=>by
  unfold Ra;rw[vp λw hw=>h w (MQ _ hw)];split
  .have:x≠n:=by rintro rfl;exact h v MW
   simp[this]
  .rfl
theorem vt{kindOf:Str->Option Pi}{x:Str}:∀{binds:List (Str×MC)} {m:Str->Option MC},(∀v,(x,v)∉binds)->Rb kindOf binds m x=m x
 | [],_,_=>rfl
 | (n,v)::r,m,h=>by
  unfold Rb;rw[vt λw hw=>h w (MQ _ hw)];split
  .rfl
  .have:x≠n:=by rintro rfl;exact h v MW
   simp[this]
theorem vq{kindOf:Str->Option Pi}{x:Str}{v:MC}:∀{P:List Str} {vs:List MC} {i:Nat} {m:Str->Option MC},P.Nodup->P[i]?=some x->vs[i]?=some v->kindOf x=some .local->
  Ra kindOf (P.zip vs) m x=some v
 | [],_,_,_,_,h,_,_=>by simp at h
 | _::_,[],_,_,_,_,h,_=>by simp at h
 | p::P,w::vs,0,m,nd,h1,h2,I=>by
  simp at h1 h2;subst h1;subst h2;show Ra kindOf ((p,w)::P.zip vs) m p=_
  unfold Ra;rw[vp λv J=>(Oj.mp nd).1 (Qh J).1,if_pos I];simp
 | p::P,w::vs,i+1,m,nd,h1,h2,I=>by
  show Ra kindOf ((p,w)::P.zip vs) m x=_
  unfold Ra;exact vq (i:=i) (Oj.mp nd).2 (by simpa using h1) (by simpa using h2) I
theorem vy{kindOf:Str->Option Pi}{x:Str}{v:MC}:∀{P:List Str} {vs:List MC} {i:Nat} {m:Str->Option MC},P.Nodup->P[i]?=some x->vs[i]?=some v->kindOf x≠some .local->
  Rb kindOf (P.zip vs) m x=some v
 | [],_,_,_,_,h,_,_=>by simp at h
 | _::_,[],_,_,_,_,h,_=>by simp at h
 | p::P,w::vs,0,m,nd,h1,h2,I=>by
  simp at h1 h2;subst h1;subst h2;show Rb kindOf ((p,w)::P.zip vs) m p=_
  unfold Rb;rw[vt λv J=>(Oj.mp nd).1 (Qh J).1,if_neg I];simp
 | p::P,w::vs,i+1,m,nd,h1,h2,I=>by
  show Rb kindOf ((p,w)::P.zip vs) m x=_
  unfold Rb;exact vy (i:=i) (Oj.mp nd).2 (by simpa using h1) (by simpa using h2) I
def start(N:List Str)(vs:List V):St:=vs.map some ++ List.replicate (N.length - vs.length) none
noncomputable def ux(L:Bool)(CX:E9)(P:MR)(w:M4)(K:Pj)(mg:Str->Option MC)(base:MY)(N:List Str)(qual:Str)(scope:OU)(f:MF)(cd:MC)(A:MS)(outer:List Env)(s:MD)(H:Hp)(E:XK):Cx where
 prog:=P
 w:=w
 K:=K
 mg:=mg
 base:=base
 A:=A.deeper (OT qual scope s.heap.objs.size f cd)
 N:=N
 s₀:=s
 H₀:=H
 env:=OT qual scope s.heap.objs.size f cd
 outer:=outer
 stack:=OT qual scope s.heap.objs.size f cd::outer
 ex:=[]
 calm:=L
 fn:=λ_=>true
 pn:=IU A s.heap
 xe:=λe s'=>MJ (MK P w) (A.deeper (OT qual scope s.heap.objs.size f cd)) (Sd (OT qual scope s.heap.objs.size f cd) e) (λ_ I=>CX outer H s E e I) (λJ I=>CX outer H s E J I) s'
theorem yY{sc:OU}{n:Nat}{x:Str}(h:sc.names.lookup x=some .cell):∃c,(cellsFrom n sc.names []).lookup x=some c:=by
 have q:=PySem.W.cellsFrom_some sc.names n [] (.inl h);exact Option.isSome_iff_exists.mp q
theorem Cc{Y:Bool}{CX:E9}{P:MR}{w:M4}{K:Pj}{mg:Str->Option MC}{base:MY}{N ps:List Str}{qual:Str}{scope:OU}{f:MF}{cd:MC}{A:MS}{outer:List Env}{s s1:MD}{H:Hp}{E:XK}{us:List MC}{vs:List V}
  (S:Ψ N ps scope) (hd:Y=true->A.handled=none) (I:Env0 P w K mg base A outer s H) (hl:vs.length=ps.length) (r:Vals vs us)
  (x:InCallC s s.heap.objs.size (Ra (OT qual scope s.heap.objs.size f cd).kindOf (ps.zip us) λ_=>none) (cellsFrom (s.heap.objs.size+1) scope.names []) (Rb (OT qual scope s.heap.objs.size f cd).kindOf (ps.zip us) λ_=>none) s1):
  Inv (ux Y CX P w K mg base N qual scope f cd A outer s H E) [] (start N vs) H s1:=by
 have hpl:ps.length<=N.length:=by have:=congrArg List.length S.pre;rw[NI]at this;omega
 obtain⟨h1,tk,rfl,W⟩:=x.done;have J:∀b:MF,b∉(ux Y CX P w K mg base N qual scope f cd A outer s H E).ex:=λb z=>absurd (show b∈([]:List MF)from z) (by simp)
 refine⟨⟨I.mod,S.kind,rfl,rfl,le_refl _,λy z c h1 h2=>?_,λy L=>?_,λy c _ h=>?_,hd,I.hs.inn rfl,Around.frames_deeper I.frames,.inr ⟨rfl,rfl⟩,λb z=>absurd z (J b),I.bs,I.bsz,λb _ _=>J b,λb z=>absurd z (J b),I.funs,I.frf⟩,
  rfl,I.bare,Un.kept W,⟨_,x.toInCall.ns,λi y v h1 h2 h3=>?_⟩,λy c h=>⟨_,x.cell y c h⟩,I.hok.fresh (le_refl _),λy c h=>?_,λp U=>?_,I.hok.kept W,?_⟩
 .exact name_of_addr x.apart (PySem.mem_of_lookup h1) (PySem.mem_of_lookup h2)
 .have L:scope.names.lookup y=some .cell\/scope.names.lookup y=some .free:=L;rcases L with L|L
  .exact yY L
  .exact absurd rfl (S.nofree _ (PySem.mem_of_lookup L))
 .exact le_of_lt (x.above y c (PySem.mem_of_lookup h))
 .have hi:i < vs.length:=by
   unfold start at h2
   by_cases hi:i < vs.length
   .exact hi
   .rw[List.getElem?_append_right (by simpa using hi)]at h2
    rw[List.getElem?_replicate]at h2;split at h2<;>cases h2
  have ha:vs[i]?=some v:=by
   unfold start at h2;rw[List.getElem?_append_left (by simpa using hi),MZ]at h2
   cases e:vs[i]? with
   | none=>rw[e]at h2;cases h2
   | some a=>rw[e]at h2;cases h2;rfl
  obtain⟨u,hu,rv⟩:=r.get ha;have U:ps[i]?=some y:=by
   rw[<- S.pre,List.getElem?_take_of_lt (by omega)];exact h1
  have O:ps.Nodup:=by rw[<- S.pre];exact S.nd.sublist (List.take_sublist _ _)
  refine⟨u,rv,?_⟩;rcases S.par y (M_ U)with k|k
  .exact .inl ⟨k,vq O U hu k⟩
  .obtain⟨c,e⟩:=yY (n:=s.heap.objs.size+1) k;refine .inr ⟨.inl k,c,e,?_⟩;have q:=x.cell y c e;rw[vy O U hu (by show scope.names.lookup y≠_;rw[k];decide)]at q
   exact q
 .exact I.hok.fresh (le_of_lt (x.above y c (PySem.mem_of_lookup h)))
 .obtain⟨Z,⟨q2,q3⟩,q4⟩:=I.hs.pins (show p∈IU A s.heap ++ []from U)
  exact⟨W _ _ Z,q2,M6 (ML Z),q3,q4⟩
 .unfold start;show _=N.length
  rw[Nt,MH,List.length_replicate];omega
theorem EG{CX:E9}{P:MR}{w:M4}{K:Pj}{mg:Str->Option MC}{base:MY}{k:Nat}{f:MF}{name qual:Str}{params:Arguments}{body:List Nd}{scope:OU}{dV kV doc pm L ct oc:MC}{an od:Option MF}
  {osl:Array (Option MC)} {N ps:List Str} {sp:Sp} (lk:K.lookup f=some ⟨oc,od,.func (Ub name qual params body scope dV kV doc pm an L ct),osl⟩) (hcd:RZ K L qual=true) (S:Ψ N ps scope)
  (len:∀vs H Q E,sp vs H Q E->vs.length=ps.length)
  (Su:∀(A:MS) (outer:List Env) (s:MD) (H:Hp) (vs:List V) (Q:VK) (E:XK),Room k (A.deeper (OT qual scope s.heap.objs.size f L))->sp vs H Q E->
   ∃t,iO (ux (ble 100 k) CX P w K mg base N qual scope f L A outer s H E) body t/\t { nx:=λ_ H'=>Q .non H',rt:=Q } (start N vs) H):
  FnOk P w K mg base CX (k+1) f (Ub name qual params body scope dV kV doc pm an L ct) ps sp:=by
 refine⟨len,λA outer s H args us vs Q E hr Y hb r U=>?_⟩;have hl:=len _ _ _ _ U;have KX:K.In s.heap:=Y.mod.kin.keeps λb o e=>(Y.bs b o e).1;have lim:s.heap.NoLimit:=Y.mod.nolimit.keeps λb o e=>(Y.bs b o e).1;have TD:∀y∈ps.zip us,scope.names.lookup y.1=some .local\/(scope.names.lookup y.1=some .cell/\((cellsFrom (s.heap.objs.size+1) scope.names []).lookup y.1).isSome=true):=λ⟨n,v⟩ hy=>by
  rcases S.par n (Qh hy).1 with q|q
  .exact .inl q
  .exact .inr ⟨q,PySem.W.cellsFrom_some _ _ _ (.inl q)⟩
 refine codeAny_call_function hr.depth (KX _ _ lk) rfl S.co S.gen rfl (PySem.W.codeRec_of KX hcd) (hb _ _ _ _ ?_);refine wpAny_newFunctionEnv_cells S.kind TD λenv he s1 x=>?_;subst he;refine⟨lim.keeps x.toInCall.keep,codeAny_func ?_⟩;obtain⟨t,ht,hq⟩:=Su A outer s H vs Q E (hr.deeper _) U;have I:Inv (ux (ble 100 k) CX P w K mg base N qual scope f L A outer s H E) [] (start N vs) H s1:=Cc S (λz=>hr.hd (Nat.le_succ_of_le (Nat.le_of_ble_eq_true z))) Y hl r x;refine Nf (ht [] s1 (start N vs) H _ I hq) (λfl s' hs=>?_) λe s' hs=>hs;have fin:∀{O:St} {H':Hp} {v:V} {u:MC},Inv (ux (ble 100 k) CX P w K mg base N qual scope f L A outer s H E) [] O H' s'->aF v u->Q v H'->CE outer P w H s Q u s':=
  λ{O H' v u} J Z q=>⟨v,H',J.os,J.bare,J.base,J.hok,Z,q⟩
 cases fl with
 | ret u=>
  obtain⟨v,O,H',J,Z,q⟩:=hs;exact fin J Z q
 | next=>
  obtain⟨O,H',J,q⟩:=hs;exact fin (v:=V.non) (u:=Value.none) J rfl q
 | brk=>
  obtain⟨_,_,_,q⟩:=hs;exact False.elim q
 | cont=>
  obtain⟨_,_,_,q⟩:=hs;exact False.elim q
section
variable{X:Cx}{x:Str}{p pos:Pos}{e:M7}{es:List M7}{t:TA}{id T:String}{r:List V->Hp->VK->Prop}
def Lr(r:List V->Hp->VK->Prop)(t:TA):TE:=λσ H Q=>t σ H λvs H1=>r vs H1 Q
theorem D5(hc:dj X (.builtin id) r)(hg:Gl X x)(Z:X.mg x=none)(Y:Oh x=some (.builtin id))(ha:PA X (e::es) t)(hn:x≠"__name__":=by decide)(L:(x == ("__debug__":Str))=false:=by decide)
  (he:MP (e::es) X.env=(false,eval e X.env)::MP es X.env:=by rfl) (J:(NM pos (MP es X.env)).any (·.1)=false:=by rfl):PE X (.Call (.Name x p) (e::es) [] pos) (Lr r t):=by
 intro pins s σ H Q I h;refine N9 (h_ I hg Z Y ?_ hn L);exact PyProof.Rows.callWith_builtin1 (b_ (ha pos pins s σ H _ I h) λO s1 ⟨vs,H1,I1,U,W⟩=>hc pins s1 σ H1 vs O Q I1 U W) he J
theorem BX(hc:dj X (.type T) r)(hg:Gl X x)(Z:X.mg x=none)(Y:Oh x=some (.type T))(ha:PA X (e::es) t)(hn:x≠"__name__":=by decide)(L:(x == ("__debug__":Str))=false:=by decide)
  (he:MP (e::es) X.env=(false,eval e X.env)::MP es X.env:=by rfl) (J:(NM pos (MP es X.env)).any (·.1)=false:=by rfl):PE X (.Call (.Name x p) (e::es) [] pos) (Lr r t):=by
 intro pins s σ H Q I h;refine N9 (h_ I hg Z Y ?_ hn L);exact PyProof.Rows.callWith_type1 (b_ (ha pos pins s σ H _ I h) λO s1 ⟨vs,H1,I1,U,W⟩=>hc pins s1 σ H1 vs O Q I1 U W) he J
end
end L2
namespace HT
open PySem PyProof.Rows
section
open PySem.SeqAt
open PySem.AutoSeq1 (wpAny_loadPart')
open PySem.MeetsSeq PySem.MeetsSeq2 PySem.MeetsSeq3
end
section
variable{prog:MR}{w:M4}{A:MS}{E:MC->MD->Prop}{s:MD}
theorem cat_tup{t b:MF}{vs I:List MC}{Q:MC->MD->Prop}(ht:Rc s.heap t vs.toArray)(hb:Rc s.heap b I.toArray)(hv:vs≠[])
  (h1:I=[]->Q (.ref t) s) (h2:I≠[]->Q (.ref s.heap.objs.size) { s with heap:=s.heap.push { cls:=.type "tuple",data:=.seq (vs ++ I).toArray } })
  (hsz:vs.length+I.length<=MN):MJ (MK prog w) A (Oa .Add (.ref t) (.ref b)) Q E s:=by
 obtain⟨⟨cls,dd,data,sl⟩,U,hc,n,hd⟩:=id ht;obtain⟨⟨cls2,O,data2,L⟩,J,Y,Z,W⟩:=id hb;subst hc hd Y W;have e:vs.toArray ++ I.toArray=(vs ++ I).toArray:=by simp
 by_cases hw:I=[]
 .exact Rl ⟨_,U,rfl⟩ ⟨_,J,rfl⟩ noFill_tuple_add seq_tuple_add PySem.F.slot_tuple_add PySem.F.entry_tuple_add (PySem.F.args_tuple_add_2 _ _)
   (tuple_addW1 t b vs.toArray I.toArray n Z dd O sl L (by simp_all) (by simp[hw])) ⟨U,J,h1 hw⟩
 .refine Rl ⟨_,U,rfl⟩ ⟨_,J,rfl⟩ noFill_tuple_add seq_tuple_add PySem.F.slot_tuple_add PySem.F.entry_tuple_add (PySem.F.args_tuple_add_2 _ _)
   (tuple_addW2 t b vs.toArray I.toArray n Z dd O sl L (by simp_all) (by simp_all) (by simp_all)) ⟨U,J,?_⟩
  rw[e];exact h2 hw
noncomputable def sIx(n d:Nat):Option Int->Nat
 | none=>d
 | some v=>if v < 0 then (v+(n:Int)).toNat else min v.toNat n
theorem sIx_le(n d:Nat)(hd:d<=n)(o:Option Int):sIx n d o<=n:=by
 cases o with
 | none=>exact hd
 | some v=>
  show (if v < 0 then (v+(n:Int)).toNat else min v.toNat n)<=n
  by_cases I:v < 0
  .rw[if_pos I];omega
  .rw[if_neg I];exact Nat.min_le_right _ _
theorem Bm(v:Int)(n d:Nat):(if v < 0 then max (v+(n:Int)) 0 else min v (n:Int))=((sIx n d (some v):Nat):Int):=by
 show (if v < 0 then max (v+(n:Int)) 0 else min v (n:Int))=(((if v < 0 then (v+(n:Int)).toNat else min v.toNat n):Nat):Int)
 by_cases I:v < 0
 .simp only[if_pos I];omega
 .simp only[if_neg I];omega
theorem AD(lo hi:Option Int)(n:Nat):Q4 lo hi 1 (n:Int)=(((sIx n 0 lo:Nat):Int),((sIx n n hi:Nat):Int)):=by
 refine Prod.ext ?_ ?_
 .cases lo with
  | none=>rfl
  | some v=>exact Bm v n 0
 .cases hi with
  | none=>rfl
  | some v=>exact Bm v n n
theorem zW(i j:Nat):OF (i:Int) (j:Int) 1=j - i:=by
 unfold OF;split<;>omega
theorem rf{v:MC}{o:Option Int}{Q:Option Int->MD->Prop}(p:Qm v o)(h:Q o s):MJ (MK prog w) A (Builtin.Slice.slicePartIndex v) Q E s:=by
 cases p with
 | none=>exact slicePart_none h
 | int i t=>exact slicePart_int h
theorem oH{sl:MF}{L J:MC}{lo hi:Option Int}{n:Nat}{Q:Int×Int×Nat->MD->Prop}(hs:s.heap.IsSliceOf sl L J .none)(pl:Qm L lo)(O:Qm J hi)
  (h:Q (((sIx n 0 lo:Nat):Int),1,sIx n n hi - sIx n 0 lo) s):MJ (MK prog w) A (Q1 (.ref sl) (pure (n:Int))) Q E s:=by
 obtain⟨os,I,U,hds⟩:=id hs;unfold Q1 Builtin.Slice.sliceFields;refine MB (MB (M3 I hds (x:=L) rfl (MB (M3 I hds (x:=J) rfl (MB (M3 I hds (x:=.none) rfl (MG ?_)))))));refine MB (slicePart_none ?_);show MJ _ _ (if ((1:Int) == 0)=true then _ else _) _ _ s
 rw[if_neg (by decide)]
 refine MB (rf pl (MB (rf O (MB (MG ?_)))));show MJ _ _ (match Q4 lo hi 1 (n:Int) with|(lo,hi)=>pure (lo,(1:Int),OF lo hi 1)) _ _ s
 rw[AD lo hi n];show MJ _ _ (pure (((sIx n 0 lo:Nat):Int),(1:Int),OF ((sIx n 0 lo:Nat):Int) ((sIx n n hi:Nat):Int) 1)) _ _ s
 rw[zW];exact MG h
theorem DT(xs:Array MC)(i k:Nat):((List.range k).filterMap λ(m:Nat)=>xs[((i:Int)+(m:Int)*1).toNat]?).toArray=((xs.toList.drop i).take k).toArray:=by
 have e:(λ(m:Nat)=>xs[((i:Int)+(m:Int)*1).toNat]?)=λm=>xs[i+m]?:=by
  funext m;have:((i:Int)+(m:Int)*1).toNat=i+m:=by omega
  rw[this]
 rw[e];have:=pick_run xs i k;rw[List.filterMap_map]at this;have I:((λx=>xs[x]?) ∘ λx=>i+x)=λm=>xs[i+m]?:=rfl;rw[I]at this;rw[this]
theorem getItem_tuple_cut{t sl:MF}{items:Array MC}{Z Y:MC}{lo hi:Option Int}{Q:MC->MD->Prop}(I:Rc s.heap t items)(hs:s.heap.IsSliceOf sl Z Y .none)(pl:Qm Z lo)(pu:Qm Y hi)
  (hw:¬ (sIx items.size 0 lo=0/\sIx items.size items.size hi=items.size))
  (h:Q (.ref s.heap.objs.size) { s with heap:=s.heap.push { cls:=.type "tuple",data:=.seq ((items.toList.drop (sIx items.size 0 lo)).take (sIx items.size items.size hi - sIx items.size 0 lo)).toArray } })
  (hsz:items.size<=MN):MJ (MK prog w) A (PF (.ref t) (.ref sl)) Q E s:=by
 have J:sizeOk (.seq ((items.toList.drop (sIx items.size 0 lo)).take (sIx items.size items.size hi - sIx items.size 0 lo)).toArray):=by
  show ((items.toList.drop (sIx items.size 0 lo)).take (sIx items.size items.size hi - sIx items.size 0 lo)).toArray.size<=MN
  rw[M1,NI,O1,Array.length_toList];omega
 obtain⟨os,L,U,hds⟩:=id hs;have W:s.TypeIs (.ref sl) "slice":=⟨os,L,U⟩;unfold PF
 try with_reducible refine Na ?_
 refine MB (wpAny_sequenceKey I.typeIs rfl ?_);refine MB (M0 I.typeIs PyProof.Rows.slot_tuple_getitem
  (M8 PyProof.Rows.slot_tuple_getitem I.typeIs entry_tuple_getitem ?_ (args_tuple_getitem _ _)))
 show MJ _ _ (Builtin.Tuple.tupleItemsOf (.ref t) >>= _) _ _ s
 refine MB (tupleItemsOf_ I ?_);refine MB (Qn W ?_);refine MB (oH hs pl pu ?_);have O:¬ ((((sIx items.size 0 lo:Nat):Int) == 0 && (1:Int) == 1 && (sIx items.size items.size hi - sIx items.size 0 lo) == items.size)=true):=by
  intro q;rw[Bool.and_eq_true,Bool.and_eq_true]at q;have q1:=eq_of_beq q.1.1;have q2:=eq_of_beq q.2;exact hw ⟨by omega,by omega⟩
 show MJ _ _ (if (((sIx items.size 0 lo:Nat):Int) == 0 && (1:Int) == 1 && (sIx items.size items.size hi - sIx items.size 0 lo) == items.size)=true then _ else _) _ _ s
 rw[if_neg O,DT]
 first
  | exact MB (Nh (MG ⟨_,rfl,MG h⟩) J)
  | exact MB (Nh (MB (MG (MG ⟨_,rfl,MG h⟩))) J)
  | exact MB (MB (Nh (MG (MG ⟨_,rfl,MG h⟩)) J))
  | exact MB (MB (Nh (MG ⟨_,rfl,MG h⟩) J))
end
end HT
namespace L2
open PySem PySem.Spec PyProof.Rows
abbrev TO:=St->Hp->(Option Int->Hp->Prop)->Prop
def PO(X:Cx)(e:Option M7)(t:TO):Prop:=
 ∀(pins:List (MF×Obj)) (s:MD) (σ:St) (H:Hp) (Q:Option Int->Hp->Prop),Inv X pins σ H s->t σ H Q->
  MJ (MK X.prog X.w) X.A (evalPart e X.env) (λu s'=>∃o H',Inv X pins σ H' s'/\Qm u o/\Q o H') X.xe s
def Fq:TO:=λ_ H Q=>Q none H
def JG(t:TE):TO:=λσ H Q=>t σ H λx H1=>∃i,x=.int i/\Q (some i) H1
theorem An{ns:List Int}:∀{us:List MC},Vals (ns.map V.int) us->Qu us ns:=by
 induction ns with
 | nil=>intro us r;cases r;exact .nil
 | cons n ns J=>
  intro us r;cases r with
  | cons I r2=>
   obtain⟨t,e⟩:=I;subst e;exact .cons n t (J r2)
section
variable{X:Cx}{e:M7}{te:TE}{lo hi:Option M7}{tl th:TO}{pos p2:Pos}
theorem FR:PO X none Fq:=by
 intro pins s σ H Q I h;exact MG ⟨none,H,I,.none,h⟩
theorem FQ(h:PE X e te):PO X (some e) (JG te):=by
 intro pins s σ H Q I hw;refine b_ (h pins s σ H _ I hw) λu s1 J=>?_;obtain⟨x,H1,U,L,O⟩:=J;obtain⟨i,rfl,q⟩:=O;obtain⟨t,rfl⟩:=L;exact⟨some i,H1,U,.int i t,q⟩
def CA(X:Cx)(r:V->Option Int->Option Int->Hp->VK->Prop):Prop:=
 ∀(pins:List (MF×Obj)) (s:MD) (σ:St) (H:Hp) (x:V) (v J I:MC) (lo hi:Option Int) (sl:MF) (Q:VK),Inv X pins σ H s->aF x v->s.heap.IsSliceOf sl J I .none->Qm J lo->Qm I hi->r x lo hi H Q->
  ∃T id,Py (.type T) "__getitem__"=pure (some (.builtin id))/\s.TypeIs v T/\MJ (MK X.prog X.w) X.A (PF v (.ref sl)) (EP X pins σ Q) X.xe s
theorem CA.or{r r':V->Option Int->Option Int->Hp->VK->Prop}(h:CA X r)(h':CA X r'):CA X (λx lo hi H Q=>r x lo hi H Q\/r' x lo hi H Q):=by
 intro pins s σ H x v L J lo hi sl Q I rx hs pl O q;rcases q with q|q
 .exact h pins s σ H x v L J lo hi sl Q I rx hs pl O q
 .exact h' pins s σ H x v L J lo hi sl Q I rx hs pl O q
def Mi(r:V->Option Int->Option Int->Hp->VK->Prop)(te:TE)(tl th:TO):TE:=λσ H Q=>te σ H λx H1=>tl σ H1 λl H2=>th σ H2 λu I=>r x l u I Q
theorem DW{r:V->Option Int->Option Int->Hp->VK->Prop}(hr:CA X r)(he:PE X e te)(hl:PO X lo tl)(hu:PO X hi th):PE X (.Subscript e (.Slice lo hi none p2) pos) (Mi r te tl th):=by
 intro pins s σ H Q I h;refine R7 (b_ (he pins s σ H _ I h) λv s1 J=>?_);obtain⟨x,H1,I1,Z,q1⟩:=J;refine wpAny_Slice (b_ (hl pins s1 σ H1 _ I1 q1) λU Y J=>?_);obtain⟨l,H2,I2,pl,q2⟩:=J;refine b_ (hu pins Y σ H2 _ I2 q2) λO L J=>?_;obtain⟨u,W,I3,pu,q3⟩:=J;refine MG ?_;have I4:Inv X pins σ W { L with heap:=L.heap.push { cls:=.type "slice",data:=.fields #[U,O,.none] } }:=I3.kept λb ob q=>ME _ q
 obtain⟨T,id,hT,ht,hg⟩:=hr pins { L with heap:=L.heap.push { cls:=.type "slice",data:=.fields #[U,O,.none] } } σ W x v U O l u L.heap.objs.size Q I4 Z (Heap.IsSliceOf.new ..) pl pu q3
 exact tail_any ht hT hg rfl
def Cp(xs:List V)(lo hi:Option Int):List V:=(xs.drop (HT.sIx xs.length 0 lo)).take (HT.sIx xs.length xs.length hi - HT.sIx xs.length 0 lo)
theorem qj(xs:List V)(lo hi:Option Int):(Cp xs lo hi).length<=xs.length:=by
 unfold Cp;rw[NI,O1];omega
def Lw(K:Pj):V->Option Int->Option Int->Hp->VK->Prop:=λx lo hi H Q=>∃a xs,x=.ref a/\jL K H a xs/\
 ¬ (HT.sIx xs.length 0 lo=0/\HT.sIx xs.length xs.length hi=xs.length)/\∀p,H p=none->Q (.ref p) (aV H p (.tup (Cp xs lo hi)))
theorem HK:CA X (Lw X.K):=by
 intro pins s σ H x v Z Y lo hi sl Q I rx hs pl O h;obtain⟨a,xs,rfl,W,hw,q⟩:=h;cases rx;obtain⟨J,r,L,U⟩:=I.tuple W;have hlen:J.toArray.size=xs.length:=by rw[M1];exact r.length.symm
 refine⟨"tuple",_,PyProof.Rows.slot_tuple_getitem.lookup,L.typeIs,?_⟩;refine HT.getItem_tuple_cut L hs pl O (by simp_all) ?_ (by simp_all)
 rw[hlen];refine⟨.ref s.heap.objs.size,_,I.laid (λb ob q=>ME _ q) (le_refl _) ?_,rfl,q _ (I.hok.fresh (le_refl _))⟩;exact⟨le_trans (qj xs lo hi) U,_,(r.drop (HT.sIx xs.length 0 lo)).take (HT.sIx xs.length xs.length hi - HT.sIx xs.length 0 lo),tw.new _ _⟩
def JY(K:Pj):R2:=λx y H Q=>∃a b xs ys,x=.ref a/\y=.ref b/\jL K H a xs/\jL K H b ys/\xs≠[]/\xs.length+ys.length<=MN/\
 (ys=[]->Q (.ref a) H)/\(ys≠[]->∀p,H p=none->Q (.ref p) (aV H p (.tup (xs ++ ys))))
theorem Vals.nil_iff{xs:List V}{us:List MC}(r:Vals xs us):us=[]↔xs=[]:=by
 cases r with
 | nil=>simp
 | cons _ _=>simp
theorem F7:gM X (Oa .Add) (JY X.K):=by
 intro pins s σ H x y v u Q I rx U h;obtain⟨a,b,xs,ys,rfl,rfl,ha,hb,hx,O,Y,W⟩:=h;cases rx;cases U;obtain⟨its,J,Z,_⟩:=I.tuple ha;obtain⟨L,r2,p2,_⟩:=I.tuple hb;refine HT.cat_tup Z p2 (λz=>hx (J.nil_iff.mp z)) (λz=>⟨.ref a,H,I,rfl,Y (r2.nil_iff.mp z)⟩) (λz=>?_) (by rw[<- J.length,<- r2.length];exact O)
 refine⟨.ref s.heap.objs.size,_,I.laid (t':=s.toks) (o:=.tup (xs ++ ys)) (λb ob q=>ME _ q) (le_refl _) ?_,rfl,W (λw=>z (r2.nil_iff.mpr w)) _ (I.hok.fresh (le_refl _))⟩;exact⟨by rw[Nt];exact O,_,J.append r2,tw.new _ _⟩
end
noncomputable def Gt(n:Nat)(i:Int):Option Nat:=if 0<=i then (if i < n then some i.toNat else none)else if -(n:Int)<=i then some (i+n).toNat else none
def lD{α:Type}(xs:List α)(i:Int):Option α:=(Gt xs.length i).bind λj=>xs[j]?
theorem Bc{n:Nat}{i:Int}{j:Nat}(h:Gt n i=some j):seqIndex? i n=some j/\j < n/\-(n:Int)<=i/\i < n:=by
 unfold Gt at h
 by_cases h0:0<=i
 .rw[if_pos h0]at h
  by_cases h1:i < n
  .rw[if_pos h1]at h;have e:i.toNat=j:=Option.some.inj h;exact⟨by rw[Rs h0 h1,e],by omega,by omega,h1⟩
  .rw[if_neg h1]at h;cases h
 .rw[if_neg h0]at h
  by_cases h1:-(n:Int)<=i
  .rw[if_pos h1]at h;have e:(i+n).toNat=j:=Option.some.inj h;exact⟨by rw[seqIndex_neg (by omega) h1,e],by omega,h1,by omega⟩
  .rw[if_neg h1]at h;cases h
theorem wZ{α:Type}{xs:List α}{i:Int}{v:α}(h:lD xs i=some v):∃j,seqIndex? i xs.length=some j/\xs[j]?=some v/\j < xs.length/\-(xs.length:Int)<=i/\i < xs.length:=by
 unfold lD at h;cases e:Gt xs.length i with
 | none=>rw[e]at h;cases h
 | some j=>
  rw[e]at h;obtain⟨h1,h2,J,I⟩:=Bc e;exact⟨j,h1,h,h2,J,I⟩
def Bs(b:M7):Prop:=∀o i,QI b false o i=operate [o,i] (PF o i)
def CF(X:Cx)(r:R2):Prop:=
 ∀(value slice:M7) (pins:List (MF×Obj)) (s:MD) (σ:St) (H:Hp) (x y:V) (v u:MC) (Q:VK),Inv X pins σ H s->aF x v->aF y u->r x y H Q->
  QI slice false v u=operate [v,u] (PF v u)->MJ (MK X.prog X.w) X.A (subscriptTail value slice v u) (EP X pins σ Q) X.xe s
def Md(X:Cx)(id:String)(r:V->List V->Hp->VK->Prop):Prop:=
 ∀(pins:List (MF×Obj)) (s:MD) (σ:St) (H:Hp) (x:V) (xs:List V) (v:MC) (I:List MC) (Q:VK),Inv X pins σ H s->aF x v->Vals xs I->r x xs H Q->
  MJ (MK X.prog X.w) X.A (call (.builtin id) (v::I)) (EP X pins σ Q) X.xe s
section
variable{X:Cx}{a b:M7}{ta tb:TE}{pos:Pos}
theorem CF.or{r r':R2}(h:CF X r)(h':CF X r'):CF X (λx y H Q=>r x y H Q\/r' x y H Q):=by
 intro value slice pins s σ H x y v u Q I rx J q hs;rcases q with q|q
 .exact h value slice pins s σ H x y v u Q I rx J q hs
 .exact h' value slice pins s σ H x y v u Q I rx J q hs
theorem J6{r:R2}(O:CF X r)(W:PE X a ta)(U:PE X b tb)(hs:Bs b):PE X (.Subscript a b pos) (Jy r ta tb):=by
 intro pins s σ H Q I h;exact R7 (Jm W U I h λv u J x y H2 Y rx L q=>O a b pins J σ H2 x y v u Q Y rx L q (hs _ _))
def JX(K:Pj):R2:=λx y H Q=>∃p xs i v,x=.ref p/\y=.int i/\ij K H p xs/\lD xs i=some v/\Q v H
def JV(K:Pj):R2:=λx y H Q=>∃p xs i v,x=.ref p/\y=.int i/\jL K H p xs/\lD xs i=some v/\Q v H
def JW:R2:=λx y H Q=>∃z i c,x=.str z/\y=.int i/\z.length<=MN/\lD z.cps.toList i=some c/\Q (.str ⟨#[c]⟩) H
theorem Gs:CF X (JX X.K):=by
 intro value slice pins s σ H x y v u Q I rx U h hs;obtain⟨p,xs,i,z,rfl,rfl,hq,Y,q⟩:=h;cases rx;obtain⟨t,rfl⟩:=U;obtain⟨L,r,pl,hz⟩:=I.list hq;obtain⟨j,h1,h2,h3,h4,Z⟩:=wZ Y;obtain⟨w,ew,J⟩:=r.get h2;have W:=r.length;have hn:=mD;have fin:EP X pins σ Q w s:=⟨z,H,I,J,q⟩
 by_cases h0:0<=i
 .have O:i.toNat=j:=by
   rw[Rs h0 Z]at h1;exact Option.some.inj h1
  exact item_listR pl.isList h0 (by omega) (by simp_all) fin hs
 .have O:(i+(L.toArray.size:Int)).toNat=j:=by
   rw[seqIndex_neg (by omega) h4]at h1
   rw[M1,<- W];exact Option.some.inj h1
  exact Rh pl.isList.typeIs slot_list_getitem.lookup
   (wpAny_getItem_list_neg pl.isList (by omega) (by simp_all) (by omega) (by rw[O];simpa using ew) ⟨rfl,fin⟩) hs
theorem IN:CF X (JV X.K):=by
 intro value slice pins s σ H x y v u Q I rx L h hs;obtain⟨p,xs,i,z,rfl,rfl,hq,W,q⟩:=h;cases rx;obtain⟨t,rfl⟩:=L;obtain⟨O,r,pl,Z⟩:=I.tuple hq;obtain⟨j,h1,h2,h3,h4,h5⟩:=wZ W;obtain⟨w,Y,J⟩:=r.get h2;have U:=r.length;have hn:=mD;have fin:EP X pins σ Q w s:=⟨z,H,I,J,q⟩;exact Rh (x:=w) pl.typeIs slot_tuple_getitem.lookup
  (getItem_tuple (j:=j) (Q:=λr s'=>r=w/\EP X pins σ Q r s') pl (by omega) (by omega) (by rw[M1,<- U];exact h1) (by simpa using Y) ⟨rfl,fin⟩) hs
theorem IP:CF X JW:=by
 intro value slice pins s σ H x y v u Q I rx J h hs;obtain⟨z,i,c,rfl,rfl,hz,O,q⟩:=h;obtain⟨t,rfl⟩:=rx;obtain⟨t',rfl⟩:=J;obtain⟨j,h1,h2,h3,W,U⟩:=wZ O;have L:z.cps.toList.length=z.length:=by simp[PJ]
 rw[L]at h1 W U;have hn:=mD;exact tail_any (RV s z t) slot_str_getitem.lookup (getItem_str (c:=c) (by
  have Z:decide (i < -(2 ^ 63:Int))=false:=decide_eq_false (by omega)
  have Y:decide (i>=2 ^ 63)=false:=decide_eq_false (by omega)
  rw[Z,Y,Bool.or_false]) (by rw[h1];simpa using h2) ⟨.str ⟨#[c]⟩,H,I.tok _,⟨_,rfl⟩,q⟩) hs
def Mn(K:Pj):R2:=λx y H Q=>JX K x y H Q\/JV K x y H Q\/JW x y H Q
theorem IQ:CF X (Mn X.K):=Gs.or (IN.or IP)
theorem Ae(I:List MC)(n j:Nat)(u:MC):N3 (·.setIfInBounds j u) { cls:=.type "list",data:=.seq I.toArray n }={ cls:=.type "list",data:=.seq (I.set j u).toArray n }:=by
 simp[N3]
theorem Inv.lst{pins:List (MF×Obj)}{σ:St}{H:Hp}{s:MD}{p:MF}{xs:List V}(I:Inv X pins σ H s)(h:H p=some (.lst xs)):
  ∃(J:List MC) (n:Nat),Vals xs J/\s.heap.get? p=some { cls:=.type "list",data:=.seq J.toArray n }/\xs.length<=MN:=by
 obtain⟨z,J,n,r,e⟩:=I.hok p _ h;exact⟨J,n,r,e,z⟩
theorem Inv.lstUpd{pins:List (MF×Obj)}{σ:St}{H:Hp}{s:MD}{p:MF}{xs ys:List V}{J its':List MC}{n L:Nat}{f:Obj->Obj}(I:Inv X pins σ H s)(h:H p=some (.lst xs))
  (ho:s.heap.get? p=some { cls:=.type "list",data:=.seq J.toArray n }) (O:f { cls:=.type "list",data:=.seq J.toArray n }={ cls:=.type "list",data:=.seq its'.toArray L }) (r:Vals ys its') (hz:ys.length<=MN) (t:Nat):
  Inv X pins σ (aV H p (.lst ys)) { s with heap:=s.heap.update p f,toks:=t }:=by
 have e:(s.heap.update p f).get? p=some { cls:=.type "list",data:=.seq its'.toArray L }:=by
  rw[Nk f ho (by rw[O]<;>rfl),O]
 refine I.write (x:=p) (by rw[h];trivial) (.inl rfl) (λb u U q=>(MV _ _ (Ne.symm U)).trans q) ⟨_,e⟩ ?_
 exact⟨hz,its',L,r,e⟩
def JU:V->V->V->Hp->(Hp->Prop)->Prop:=λo i v H Q=>∃p xs k j,o=.ref p/\i=.int k/\H p=some (.lst xs)/\Gt xs.length k=some j/\Q (aV H p (.lst (xs.set j v)))
theorem Dl:Jt X JU:=by
 intro pins s σ H o i v ov iv u Q I ro ri Z h;obtain⟨p,xs,k,j,rfl,rfl,U,hj,q⟩:=h;cases ro;obtain⟨t,rfl⟩:=ri;obtain⟨J,n,r,L,hz⟩:=I.lst U;obtain⟨h1,h2,h3,h4⟩:=Bc hj;have hl:=r.length;have hn:=mD;have Y:Inv X pins σ (aV H p (.lst (xs.set j v))) { s with heap:=s.heap.update p (N3 (·.setIfInBounds j u)) }:=
  I.lstUpd U L (Ae J n j u) (r.set Z j) (by simp_all) s.toks
 by_cases h0:0<=k
 .have O:k.toNat=j:=by
   rw[Rs h0 h4]at h1;exact Option.some.inj h1
  exact PySem.W.ki_setAt L h0 (by omega) (by simp_all) (by rw[O];exact⟨_,Y,q⟩)
 .have O:(k+(J.toArray.size:Int)).toNat=j:=by
   rw[seqIndex_neg (by omega) h3]at h1
   rw[M1,<- hl];exact Option.some.inj h1
  exact PySem.W.ki_setBack L (by omega) (by simp_all) (by omega) (by rw[O];exact⟨_,Y,q⟩)
theorem vL(lo hi:Option Int)(n:Nat):(Os lo hi none n).1=((HT.sIx n 0 lo:Nat):Int)/\(Os lo hi none n).2.1=((HT.sIx n n hi:Nat):Int)/\(Os lo hi none n).2.2=1:=by
 refine⟨?_,?_,rfl⟩
 .cases lo with
  | none=>simp[Os,HT.sIx]
  | some i=>
   simp only[Os,HT.sIx,Option.getD_none,show (1:Int) > 0 by decide,if_true]
   by_cases h:i < 0
   .simp only[h,if_true]<;>omega
   .simp only[h,if_false]<;>omega
 .cases hi with
  | none=>simp[Os,HT.sIx]
  | some i=>
   simp only[Os,HT.sIx,Option.getD_none,show (1:Int) > 0 by decide,if_true]
   by_cases h:i < 0
   .simp only[h,if_true]<;>omega
   .simp only[h,if_false]<;>omega
theorem tK(I:List MC)(lo hi:Option Int):slicePick I.toArray lo hi none=((I.drop (HT.sIx I.length 0 lo)).take (HT.sIx I.length I.length hi - HT.sIx I.length 0 lo)).toArray:=by
 obtain⟨h1,h2,J⟩:=vL lo hi I.toArray.size;unfold slicePick;rw[h1,h2,J];simp only[sliceRange_one,pick_run,M1]<;>rfl
def Lx(K:Pj):V->Option Int->Option Int->Hp->VK->Prop:=λx lo hi H Q=>∃a xs,x=.ref a/\ij K H a xs/\∀p,H p=none->Q (.ref p) (aV H p (.lst (Cp xs lo hi)))
theorem Fz:CA X (Lx X.K):=by
 intro pins s σ H x v Z Y lo hi sl Q I rx hs pl L h;obtain⟨a,xs,rfl,W,q⟩:=h;cases rx;obtain⟨O,r,J,U⟩:=I.list W;have hlen:=r.length;refine⟨"list",_,slot_list_getitem.lookup,J.isList.typeIs,?_⟩;refine wpAny_getItem_list_slice J.isList hs pl L .none (by simp) ?_ (by rw[M1]<;>omega)
 rw[tK,<- hlen];refine⟨.ref s.heap.objs.size,_,I.laid (λb ob q=>ME _ q) (le_refl _) ?_,rfl,q _ (I.hok.fresh (le_refl _))⟩;exact⟨le_trans (qj xs lo hi) U,_,0,(r.drop (HT.sIx xs.length 0 lo)).take (HT.sIx xs.length xs.length hi - HT.sIx xs.length 0 lo),MM _ rfl⟩
theorem wU:dj X (.builtin "len") (λxs H Q=>∃p ys,xs=[.ref p]/\(ij X.K H p ys\/jL X.K H p ys)/\Q (.int ys.length) H):=by
 intro pins s σ H xs O Q I r h;obtain⟨p,ys,rfl,hq,q⟩:=h;obtain⟨u,rfl,rx⟩:=pP r;cases rx;have hn:=mD;rcases hq with hq|hq
 .obtain⟨J,r',pl,L⟩:=I.list hq;have hlen:=r'.length;exact Calls.call_len_list pl.isList (by simp only[M1]<;>omega) ⟨.int ys.length,H,I.tok _,⟨s.toks+1,by rw[M1,hlen]⟩,q⟩
 .obtain⟨J,r',pl,L⟩:=I.tuple hq;have hlen:=r'.length;exact len_tuple pl (by simp only[M1]<;>omega) ⟨.int ys.length,H,I.tok _,⟨s.toks+1,by rw[M1,hlen]⟩,q⟩
theorem wT:dj X (.builtin "len") (λxs H Q=>∃z,xs=[.str z]/\z.length<=MN/\Q (.int z.length) H):=by
 intro pins s σ H xs J Q I r h;obtain⟨z,rfl,L,q⟩:=h;obtain⟨u,rfl,t,rfl⟩:=pP r;have hn:=mD;exact len_str (by omega) ⟨.int z.length,H,I.tok _,⟨_,rfl⟩,q⟩
theorem dj.or{f:MC}{r r':List V->Hp->VK->Prop}(h:dj X f r)(h':dj X f r'):dj X f (λxs H Q=>r xs H Q\/r' xs H Q):=by
 intro pins s σ H xs J Q I L q;rcases q with q|q
 .exact h pins s σ H xs J Q I L q
 .exact h' pins s σ H xs J Q I L q
theorem wS:dj X (.type "list") (λxs H Q=>∃p ys,xs=[.ref p]/\(ij X.K H p ys\/jL X.K H p ys)/\∀l,H l=none->Q (.ref l) (aV H l (.lst ys))):=by
 intro pins s σ H xs Y Q I r h;obtain⟨p,ys,rfl,hq,q⟩:=h;obtain⟨u,rfl,rx⟩:=pP r;cases rx;have fin:∀(J:List MC),Vals ys J->ys.length<=MN->∀(h':MY) (L:Nat),(∀b o',s.heap.get? b=some o'->h'.get? b=some o')->
   h'.get? s.heap.objs.size=some { cls:=.type "list",dict:=none,data:=.seq J.toArray L,slots:=#[] }->EP X pins σ Q (.ref s.heap.objs.size) { s with heap:=h' }:=λJ r' O h' L kp e=>
  ⟨.ref s.heap.objs.size,_,I.laid kp (le_refl _) (show bz X.prog X.w _ h' _ (.lst ys)from ⟨O,J,L,r',e⟩),rfl,q _ (I.hok.fresh (le_refl _))⟩
 rcases hq with hq|hq
 .obtain⟨J,r',pl,O⟩:=I.list hq;have hlen:=r'.length;obtain⟨o,U,W,n,hd⟩:=pl.isList;exact call_list_seq p (.inl rfl) U W hd (λh' L kp e=>fin J r' O h' L kp e) (by simp_all)
 .obtain⟨J,r',pl,O⟩:=I.tuple hq;have hlen:=r'.length;obtain⟨o,U,W,n,hd⟩:=pl;exact call_list_seq p (.inr rfl) U W hd (λh' L kp e=>fin J r' O h' L kp e) (by simp_all)
theorem uy:dj X (.type "tuple") (λxs H Q=>∃p ys,xs=[.ref p]/\((ij X.K H p ys/\∀l,H l=none->Q (.ref l) (aV H l (.tup ys)))\/(jL X.K H p ys/\Q (.ref p) H))):=by
 intro pins s σ H xs W Q I r h;obtain⟨p,ys,rfl,h⟩:=h;obtain⟨u,rfl,rx⟩:=pP r;cases rx;rcases h with ⟨hq,q⟩|⟨hq,q⟩
 .obtain⟨J,r',pl,L⟩:=I.list hq;have hlen:=r'.length;refine call_tuple_list pl.isList (λh' kp=>?_) (by simp_all)
  have O:=I.kept (t':=s.toks) kp;have U:Inv X pins σ (aV H h'.objs.size (.tup ys)) { s with heap:=h'.push { cls:=.type "tuple",data:=.seq J.toArray } }:=
   O.laid (λb o e=>ME _ e) (le_refl _) (show bz X.prog X.w _ _ _ (.tup ys)from ⟨L,J,r',tw.new _ _⟩)
  exact⟨.ref h'.objs.size,_,U,rfl,q _ (O.hok.fresh (le_refl _))⟩
 .obtain⟨J,r',pl,L⟩:=I.tuple hq;exact call_tuple_same pl ⟨.ref p,H,I,rfl,q⟩
def L_(K:Pj)(T:String)(x:V)(H:Hp):Prop:=match x with
 | .str _=>T="str"
 | .int _=>T="int"
 | .ref p=>(T="list"/\∃xs,ij K H p xs)\/(T="tuple"/\∃o,K.lookup p=some o/\o.cls=.type "tuple"/\o.dict=none)\/
   (T="dict"/\((∃I,H p=some (.dK I))\/∃I,H p=some (.dT I)))\/(T="set"/\∃S n,H p=some (.set S n))
 | _=>False
theorem HC{pins:List (MF×Obj)}{σ:St}{H:Hp}{s:MD}{T:String}{x:V}{v:MC}(I:Inv X pins σ H s)(r:aF x v)(ty:L_ X.K T x H):
  s.TypeIs v T/\∀a,v=.ref a->∃U,s.heap.get? a=some U/\U.dict=none:=by
 cases x with
 | str z=>
  obtain⟨t,rfl⟩:=r;cases (show T="str" from ty)
  exact⟨RV s z t,λ_ e=>nomatch e⟩
 | int i=>
  obtain⟨t,rfl⟩:=r;cases (show T="int" from ty)
  exact⟨typeIs_int s i t,λ_ e=>nomatch e⟩
 | ref p=>
  cases r;rcases ty with ⟨rfl,xs,hq⟩|⟨rfl,o,J,Y,hd⟩|⟨rfl,J⟩|⟨rfl,S,n,J⟩
  .obtain⟨W,_,pl,_⟩:=I.list hq;refine⟨pl.isList.typeIs,λa e=>?_⟩;cases e;obtain⟨o,n,e,c,hd,_⟩:=pl;exact⟨o,e,hd⟩
  .refine⟨⟨o,I.kIn p o J,Y⟩,λa e=>?_⟩;cases e;exact⟨o,I.kIn _ o J,hd⟩
  .have z:∃o,s.heap.get? p=some o/\o.ExactDict:=by
    rcases J with ⟨L,J⟩|⟨L,J⟩
    .obtain⟨_,_,_,_,o,_,_,e,ex,_⟩:=I.hok p _ J;exact⟨o,e,ex⟩
    .obtain⟨_,_,_,_,o,_,_,e,ex,_⟩:=I.hok p _ J;exact⟨o,e,ex⟩
   obtain⟨o,e,ex⟩:=z;refine⟨⟨o,e,ex.1⟩,λa O=>?_⟩;cases O;exact⟨o,e,ex.2.1⟩
  .obtain⟨o,_,_,_,e,ex,_⟩:=I.hok p _ J;refine⟨⟨o,e,ex.1⟩,λa O=>?_⟩;cases O;exact⟨o,e,ex.2.1⟩
 | _=>exact False.elim ty
def Ml(K:Pj)(T:String)(r:V->List V->Hp->VK->Prop)(to:TE)(t:TA):TE:=λσ H Q=>to σ H λx H1=>L_ K T x H1/\t σ H1 λxs H2=>r x xs H2 Q
variable{o e:M7}{es:List M7}{to:TE}{t:TA}{name:Str}{apos cpos:Pos}{T id:String}{r:V->List V->Hp->VK->Prop}
theorem He(pa:PlainAttrs T)(slot:Slot T name id)(J:typeOf (.builtin id)=pure (.type "method_descriptor"))(hm:Md X id r)(ho:PE X o to)(ha:PA X (e::es) t)
  (Sq:N6 o name X.env (eval o X.env)=eval o X.env:=by rfl)
  (SU:((NM cpos (MP (e::es) X.env)).all (λx=>!x.1) && (O3 cpos (Ot [] X.env)).all (λx=>x.1.isSome)
   && decide ((e::es).length+([]:List Qe).length+(if ([]:List Qe).isEmpty then 0 else 1) < 30))=true:=by rfl)
  (Sx:(apos.endLine == cpos.line)=true:=by rfl) (hs:MP (e::es) X.env=(false,eval e X.env)::MP es X.env:=by rfl) (Sy:(NM cpos (MP es X.env)).any (·.1)=false:=by rfl):
  PE X (.Call (.Attribute o name apos) (e::es) [] cpos) (Ml X.K T r to t):=by
 intro pins s σ H Q I h;refine wpAny_Call_method_late Sq SU Sx rfl (b_ (ho pins s σ H _ I h) λv s1 W=>?_);obtain⟨x,H1,U,L,ty,q1⟩:=W;obtain⟨h1,h2⟩:=HC U L ty;refine⟨T,id,pa,slot,J,h1,h2,?_⟩;have O:=ha cpos pins s1 σ H1 _ U q1;rw[hs]at O ⊢;refine PL (by simp_all) (RA ?_)
 exact b_ O λY Z ⟨vs,H2,I2,r2,q2⟩=>hm pins Z σ H2 x vs v Y Q I2 L r2 q2
end
def My(X:Cx)(id:String)(r:V->List V->Hp->VK->Prop):Prop:=
 ∀(pins:List (MF×Obj)) (s:MD) (σ:St) (H:Hp) (x:V) (xs:List V) (v:MC) (I:List MC) (Q:VK),Inv X pins σ H s->aF x v->Vals xs I->r x xs H Q->
  MJ (MK X.prog X.w) X.A (call (.builtin id) (v::I)) (EP X pins σ Q) X.xe s
theorem Vals.one:∀{x:V} {us:List MC},Vals [x] us->∃u,us=[u]/\aF x u
 | _,_,.cons r .nil=>⟨_,rfl,r⟩
theorem Vals.two:∀{x y:V} {us:List MC},Vals [x,y] us->∃u v,us=[u,v]/\aF x u/\aF y v
 | _,_,_,.cons r (.cons q .nil)=>⟨_,_,rfl,r,q⟩
section
variable{X:Cx}{pins:List (MF×Obj)}{σ:St}{H:Hp}{s:MD}{l b:MF}{xs ys zs:List V}
theorem Inv.lset{J its':List MC}{n:Nat}{f:Array MC->Array MC}{t':Nat}(I:Inv X pins σ H s)(Y:H l=some (.lst xs))
  (e:s.heap.get? l=some { cls:=.type "list",data:=.seq J.toArray n }) (U:f J.toArray=its'.toArray) (L:Vals ys its') (hz:ys.length<=MN):
  Inv X pins σ (aV H l (.lst ys)) { s with heap:=s.heap.update l (N3 f),toks:=t' }:=by
 have q:=PySem.IsL.update e f;rw[U]at q;refine I.write (by rw[Y];exact trivial) (.inl rfl) (λZ u W O=>(MV s.heap (N3 f) (Ne.symm W)).trans O) ⟨_,q⟩ ?_
 exact⟨hz,its',_,L,q⟩
theorem Inv.lnew{J:List MC}{t':Nat}(I:Inv X pins σ H s)(L:Vals ys J)(hz:ys.length<=MN):
  Inv X pins σ (aV H s.heap.objs.size (.lst ys)) { s with heap:=s.heap.push { cls:=.type "list",data:=.seq J.toArray },toks:=t' }:=
 I.laid (λ_ _ q=>ME _ q) (le_refl _) ⟨hz,J,0,L,MM _ rfl⟩
theorem Inv.fresh(I:Inv X pins σ H s):H s.heap.objs.size=none:=I.hok.fresh (le_refl _)
theorem Inv.lstM(I:Inv X pins σ H s)(L:H l=some (.lst xs)):xs.length<=MN/\∃(J:List MC) (n:Nat),Vals xs J/\xs.length=J.length/\s.heap.get? l=some { cls:=.type "list",data:=.seq J.toArray n }:=by
 obtain⟨z,J,n,r,e⟩:=I.hok l _ L;exact⟨z,J,n,r,r.length,e⟩
end
section
variable{X:Cx}
def rAppend:V->List V->Hp->VK->Prop:=λx vs H Q=>∃l xs y,x=.ref l/\vs=[y]/\H l=some (.lst xs)/\xs.length < MN/\Q .non (aV H l (.lst (xs ++ [y])))
theorem u9:My X "list.append" rAppend:=by
 intro pins s σ H x vs v W Q I rx O h;obtain⟨l,xs,y,rfl,rfl,L,Y,q⟩:=h;cases rx;obtain⟨u,rfl,U⟩:=O.one;obtain⟨z,J,n,r,Z,e⟩:=I.lstM L;refine R4 F.slot_list_append ⟨_,e,rfl⟩ F.entry_list_append (F.args_list_append_2 _ _) (PySem.list_append l J.toArray n u (by rw[M1];omega)) ⟨e,?_⟩
 refine⟨.non,_,I.lset (its':=J ++ [u]) L e (by simp) (r.append (.cons U .nil)) ?_,rfl,q⟩
 rw[Nt,List.length_singleton];omega
end
end L2
namespace Att
open PySem PySem.W PySem.Calls PyProof.Rows
theorem qI{P:Params}{h:MY}:∀(ns:List Int) (vs:List MC),WellAll P h vs (ns.map WData.int)->Qu vs ns:=by
 intro ns
 induction ns with
 | nil=>
  intro vs w;cases w;exact .nil
 | cons n ns I=>
  intro vs w;cases w with
  | cons a b=>
   cases a;exact .cons _ _ (I _ b)
theorem BH{l:OpenLaw}{n:Nat}(hn:l.most=some n){P:Params}{h:MY}{args:List WData}{vals:List MC}
  (U:l.row.toRowW.claim.pre args=true) (J:WellAll P h vals args):
  ∃a vs ns,vals=[Value.ref a]/\args=[WData.list (ns.map WData.int)]/\h.get? a=some { cls:=.type "list",data:=.seq vs.toArray }/\Qu vs ns/\ns.length<=n:=by
 have L:=(pre_splitW U).1;have hc:=(pre_splitW U).2;obtain⟨d,r,rfl,h1,h2⟩:=hasAllW_cons L;obtain rfl:=hasAllW_nil h2;obtain⟨xs,rfl,h3⟩:=hasW_list h1;obtain⟨ns,rfl⟩:=items_int h3;have hlen:ns.length<=n:=by
  have I:(WTm.not (.lt (.lit (.int (n:Int))) (.len (.arg 0)))).holds [] { args:=[.list (ns.map .int)] }=true:=by
   have I:=(holds_andW hc).1;rw[hn]at I;exact I
  have O:=condW_of I (w_not (w_lt w_lit (w_len_list (w_arg rfl))))
  first
   | (rw[decide_eq_true q']at O)
   | (simp at O;omega)
 cases J with
 | cons Y W=>
  cases W;cases Y with
  | list Z hall=>exact⟨_,_,ns,rfl,rfl,Z,qI ns _ hall,hlen⟩
theorem BP(l:OpenLaw)(args:List WData):l.row.toRowW.claim.post args (.bool true) args=true:=
 postW_of
  (show WShape.has [] (.bool true) .bool=true by first|rfl|decide|simp)
  (show (WTm.eq .res (.lit (.bool true))).value [] { args:=args,res:=some (.bool true),after:=args }=some (.bool (true == true))from w_eq_bool (w_res rfl) w_lit) rfl
theorem attach_call{l:OpenLaw}{n:Nat}{q:MR}{loose:List Str}{XP:(Str->Option MC)->MY->Prop}{YP:M4->MY->Prop}{d:DefRec}
  (hn:l.most=some n) (U:d.params.defaults=[])
  (call:∀(w:M4) (s₀ I:MD) (mg J:Str->Option MC) (fa:MF) (o:Obj) (pm cd doc:MC) (a:MF) (vs:List MC) (ns:List Int),
   Ground q loose [] XP w s₀ mg J I.heap->YP w I.heap->
   I.heap.get? fa=some o->o.data=.func (docDef d.name d.params d.body d.scope pm cd doc)->I.heap.CodeRec cd d.name->mg d.name=some (.ref fa)->
   I.heap.get? a=some { cls:=.type "list",data:=.seq vs.toArray }->Qu vs ns->ns.length<=n->I.gens=#[]->
   N4 (MK l.prog w) Qc (.call (.ref fa) ⟨[.ref a],[]⟩) (λr s'=>r=.ok (.ret (.bool true))/\OldK I.heap s'.heap/\s'.os=I.os/\Po s'.gens) I):
  WalkO q loose XP YP l.row.toRowW d [] (λf vs=>PySem.call f vs):=by
 intro w s₀ I mg J G Y fa o pm cd doc dV kV ho hd W Z O hg args vals as SX hlay hrd L hlo;obtain rfl:=Dflts.none Z U;obtain rfl:=Dflts.noKw Z;obtain⟨a,vs,ns,rfl,rfl,Sz,hints,hlen⟩:=BH hn SX L;refine enter_call (Og (call w s₀ I mg J fa o pm cd doc a vs ns G Y ho (fd_plain hd) W O Sz hints hlen hg) λr s' hq=>?_);obtain⟨rfl,h2,h3,h4⟩:=hq;exact⟨.inl ⟨.bool true,.bool true,[],rfl,λ_=>rfl,.bool true,BP l _,λ_=>⟨List.Pairwise.nil,λ_ hm=>(nomatch hm)⟩⟩,h2,h3,h4⟩
end Att
namespace L2
open PySem PySem.Spec PyProof.Rows
theorem uI:∀{vs:List MC} {ns:List Int},Qu vs ns->Vals (ns.map V.int) vs
 | _,_,.nil=>.nil
 | _,_,.cons n t h=>.cons ⟨t,rfl⟩ (uI h)
def GQ(H:Hp):Prop:=∀b,H b=none\/∃o xs,H b=some (.frz o (.lst xs))
theorem En{P:MR}{w:M4}{K:Pj}{mg mb:Str->Option MC}{CX:E9}{k:Nat}{fa a:MF}{fd:NL}{x:Str}{sp:Sp}{I:MD}{vs:List MC}{ns:List Int}
  (KX:K.In I.heap) (W:I.heap.Ns MT mg) (J:I.heap.Ns R5 mb) (hbb:∀x:Str,x≠"__name__"->mb x=Oh x) (T3:I.heap.NoLimit) (hg:I.gens=#[])
  (Z:I.heap.get? a=some { cls:=.type "list",data:=.seq vs.toArray }) (hi:Qu vs ns) (hl:ns.length<=MN) (hr:Room k Qc)
  (F:∀base:MY,K.In base->base.Ns MT mg->FnOk P w K mg base CX k fa fd [x] sp) (TK:∀(s:MD) (u:MC),QQ s fd ⟨[u],[]⟩ [(x,u)])
  (hsp:∀H:Hp,GQ H->ij K H a (ns.map V.int)->sp [.ref a] H (λv _=>v=.bl true) λ_ _ _=>False)
  (hCX:∀H e s',CX [] H I (λ_ _ _=>False) e s'->False):
  N4 (MK P w) Qc (.call (.ref fa) ⟨[.ref a],[]⟩) (λr s'=>r=.ok (.ret (.bool true))/\OldK I.heap s'.heap/\s'.os=I.os/\Po s'.gens) I:=by
 have rv:=uI hi;have TW:=hi.length;have core:∀H:Hp,GQ H->ij K H a (ns.map V.int)->lb P w H I.heap->(∀b,H b≠none->b=a)->(H a≠none->K.lookup a=none)->
   N4 (MK P w) Qc (.call (.ref fa) ⟨[.ref a],[]⟩) (λr s'=>r=.ok (.ret (.bool true))/\OldK I.heap s'.heap/\s'.os=I.os/\Po s'.gens) I:=by
  intro H hO hS hok hA hK;have SM:∀{b:MF} {o:Obj},I.heap.get? b=some o->H b=none->(wG I.heap H).get? b=some o:=λe n=>Ez e n;have noA:∀{b:MF} {o:Obj} {es:Array DictEntry} {ep:Nat},I.heap.get? b=some o->o.data=.dict es ep->H b=none:=λ{b o es ep} e d=>by
   cases q:H b with
   | none=>rfl
   | some u=>
    have e':b=a:=hA b (by rw[q];simp)
    subst e';rw[Z]at e;cases e;have d':Data.seq vs.toArray _=Data.dict es ep:=d;cases d'
  have L:∀{b:MF} {m:Str->Option MC},I.heap.Ns b m->(wG I.heap H).Ns b m:=λ{b m} ⟨o,es,ep,e,d,r⟩=>⟨o,es,ep,SM e (noA e d),d,r⟩;have Y:K.In (wG I.heap H):=λb o e=>SM (KX b o e) (by
   cases q:H b with
   | none=>rfl
   | some u=>
    have e':b=a:=hA b (by rw[q];simp)
    subst e';rw[hK (by rw[q];simp)]at e;cases e)
  have hM:Mod K mg (wG I.heap H):=⟨Y,L W,⟨mb,L J,hbb⟩,let ⟨mc,h1,h2⟩:=T3;⟨mc,L h1,h2⟩⟩;have e0:Env0 P w K mg (wG I.heap H) Qc [] I H:=⟨rfl,hM,λb o e=>F9 e,PY (Ce _ _),trivial,λb J=>absurd (show b∈([]:List MF)from J) (by simp),hok,.of_eq hg,.inl rfl⟩
  refine Og ((F _ Y (L W)).run Qc [] I H ⟨[.ref a],[]⟩ [.ref a] [.ref a] _ _ hr e0 (TK I (.ref a)) (.cons rfl .nil) (hsp H hO hS)) λr s' h=>?_;cases r with
  | error e=>exact (hCX H e s' h).elim
  | ok fl=>
   cases fl with
   | next=>exact False.elim h
   | brk=>exact False.elim h
   | cont=>exact False.elim h
   | ret u=>
    obtain⟨v,H',os,bare,un,U,r',q⟩:=h;have q':v=.bl true:=q;subst q';obtain rfl:u=Value.bool true:=r';refine⟨rfl,OldK.of_keep λb o e=>?_,os,bare⟩;cases q:H b with
    | none=>exact un.keep b o e q (by intro z;exact absurd (show b∈([]:List MF)from z) (by simp)) (by simp)
    | some u=>
     rcases hO b with z|⟨ob,xs,z⟩
     .rw[q]at z;cases z
     .have z2:=un.frzs b ob _ z;obtain⟨e1,_⟩:=hok b _ z;obtain⟨e2,_⟩:=U b _ z2;rw[e]at e1;cases e1;exact e2
 cases hk:K.lookup a with
 | some o=>
  have e:=KX a o hk;rw[Z]at e;cases e;refine core (λ_=>none) (λ_=>.inl rfl) (.inr ⟨_,vs.toArray,_,hk,rfl,rfl,rfl,by rw[M1,TW];exact hl,by simpa using rv⟩) (λb u z=>by have O:(none:Option HO)=some u:=z;cases O) (λb z=>absurd rfl z) λz=>absurd rfl z
 | none=>
  refine core (λb=>if b=a then some (.frz { cls:=.type "list",data:=.seq vs.toArray } (.lst (ns.map V.int)))else none) (λb=>?_) (.inl (.inr ⟨{ cls:=.type "list",data:=.seq vs.toArray },if_pos rfl⟩)) (λb u z=>?_) (λb z=>?_) λ_=>hk
  .by_cases J:b=a
   .exact .inr ⟨_,_,if_pos J⟩
   .exact .inl (if_neg J)
  .by_cases J:b=a
   .have O:=(if_pos J).symm.trans z;cases O;subst J;exact⟨Z,by rw[MH];exact hl,vs,_,rv,Z⟩
   .have O:=(if_neg J).symm.trans z;cases O
  .by_cases J:b=a
   .exact J
   .exact absurd (if_neg J) z
abbrev MA{K:Pj}{h:MY}(_:K.In h):Pj:=K
theorem walk_of{l:PySem.W.OpenLaw}{n k:Nat}{q:MR}{loose:List Str}{XP:(Str->Option MC)->MY->Prop}{YP:M4->MY->Prop}{d:DefRec}{K:Params->Pj}{CX:M4->E9}{sp:M4->Sp}{x:Str}
  (hn:l.most=some n) (L:n<=MN) (U:d.params.defaults=[]) (hr:Room k Qc)
  (hY:∀(w:M4) (h:MY),YP w h->(K w.params).In h)
  (F:∀(w:M4) (mg:Str->Option MC) (fa:MF) (h:MY),(K w.params).In h->h.Ns MT mg->mg d.name=some (.ref fa)->
   ∃fd:NL,(∀(s:MD) (u:MC),QQ s fd ⟨[u],[]⟩ [(x,u)])/\
    ∀base:MY,(K w.params).In base->base.Ns MT mg->FnOk l.prog w (K w.params) mg base (CX w) k fa fd [x] (sp w))
  (J:∀(w:M4) (H:Hp) (a:MF) (ns:List Int),ns.length<=n->GQ H->ij (K w.params) H a (ns.map V.int)->sp w [.ref a] H (λv _=>v=.bl true) λ_ _ _=>False)
  (Z:∀(w:M4) (H:Hp) (s:MD) (e:MC) (s':MD),CX w [] H s (λ_ _ _=>False) e s'->False):
  PySem.W.WalkO q loose XP YP l.row.toRowW d [] (λf vs=>PySem.call f vs):=by
 refine Att.attach_call hn U λw s₀ I mg mb fa o pm cd doc a vs ns G Y ho hd hcd O Sz hints hlen hg=>?_;have KX:=hY w _ Y;obtain⟨fd,hb,hF⟩:=F w mg fa _ KX G.T.g O;exact En KX G.T.g G.T.b G.T.builtins G.T.nolimit hg Sz hints (le_trans hlen L) hr hF hb (λH hO hS=>J w H a ns hlen hO hS) λH e s'=>Z w H I e s'
def aU(s:Nd)(j:Nat):Nd:=match s with
 | .ClassDef _ _ _ body _ _ _ _ _ _ _=>body.getD j (.Pass ⟨0,0,0,0⟩)
 | _=>.Pass ⟨0,0,0,0⟩
def fc(s:Nd):Arguments:=match s with
 | .FunctionDef _ a _ _ _ _ _ _ _ _=>a
 | _=>{ posonlyargs:=[],args:=[],vararg:=none,kwonlyargs:=[],kw_defaults:=[],kwarg:=none,defaults:=[] }
def cQ(s:Nd):List Nd:=match s with
 | .FunctionDef _ _ b _ _ _ _ _ _ _=>b
 | _=>[]
def ah(s:Nd):OU:=match s with
 | .FunctionDef _ _ _ _ _ _ sc _ _ _=>sc
 | _=>{ kind:=.function,names:=[],isGenerator:=false,isCoroutine:=false }
abbrev pO:E9:=λ_ _ _ _ _ _=>False
abbrev E0:XK:=λ_ _ _=>False
theorem u0{X:Cx}:mL pO X E0:=λ_ _ _ _ _ _ _ h=>h.elim
theorem iteF{A B:Prop}(h:B):if false=true then A else B:=by
 rw[if_neg Bool.false_ne_true];exact h
theorem iteT{A B:Prop}(h:A):if true=true then A else B:=by
 rw[if_pos rfl];exact h
section
variable{κ:Type}[DecidableEq κ]
def mi(ν:List (κ×V))(k:κ):Option V:=(ν.find? λI=>decide (I.1=k)).map (·.2)
noncomputable def nK(ν:List (κ×V))(k:κ)(v:V):List (κ×V):=
 if (ν.any λI=>decide (I.1=k))=true then ν.map (λI=>if I.1=k then (I.1,v)else I)else ν ++ [(k,v)]
theorem mO{p:κ×V}{r:List (κ×V)}{k:κ}(e:p.1=k):mi (p::r) k=some p.2:=by simp[mi,Nj,e]
theorem mP{p:κ×V}{r:List (κ×V)}{k:κ}(e:¬ p.1=k):mi (p::r) k=mi r k:=by simp[mi,Nj,e]
theorem qW(k:κ):∀ν:List (κ×V),(ν.any λkv=>decide (kv.1=k))=(mi ν k).isSome
 | []=>rfl
 | p::r=>by
  rw[P6]
  by_cases e:p.1=k
  .simp only[mO e,decide_eq_true e,Bool.true_or,Option.isSome_some]
  .rw[mP e,decide_eq_false e,Bool.false_or];exact qW k r
theorem qc(ν:List (κ×V))(k:κ)(v:V):(nK ν k v).length<=ν.length+1:=by
 unfold nK;split
 .rw[MH];omega
 .rw[Nt,MU,Np];omega
theorem jM.isSome_eq{o:Option V}{u:Option MC}(r:jM o u):o.isSome=u.isSome:=by
 cases o with
 | none=>cases u with
  | none=>rfl
  | some _=>exact (show False from r).elim
 | some _=>cases u with
  | none=>exact (show False from r).elim
  | some _=>rfl
theorem jM.getD{o:Option V}{u:Option MC}{d:V}{d':MC}(r:jM o u)(rd:aF d d'):aF (o.getD d) (u.getD d'):=by
 cases o with
 | none=>cases u with
  | none=>exact rd
  | some _=>exact (show False from r).elim
 | some _=>cases u with
  | none=>exact (show False from r).elim
  | some _=>exact r
theorem KV.val{ν:List (κ×V)}{vs:List (κ×MC)}(r:KV ν vs)(k:κ):jM (mi ν k) (Qp vs k):=by
 unfold KV at r
 induction r with
 | nil=>exact True.intro
 | @cons p q ps I h t L=>
  obtain⟨h1,h2⟩:=h
  by_cases e:p.1=k
  .have J:q.1=k:=h1.symm.trans e;have b:Qp (q::I) k=some q.2:=by simp[Qp,Nj,J]
   rw[mO e,b];exact h2
  .have J:¬ q.1=k:=λz=>e (h1.trans z);have b:Qp (q::I) k=Qp I k:=by simp[Qp,Nj,J]
   rw[mP e,b];exact L
theorem KV.any{ν:List (κ×V)}{vs:List (κ×MC)}(r:KV ν vs)(k:κ):(ν.any λkv=>decide (kv.1=k))=vs.any λkv=>decide (kv.1=k):=by
 unfold KV at r
 induction r with
 | nil=>rfl
 | cons h t I=>rw[P6,P6,I,h.1]
theorem KV.repl{ν:List (κ×V)}{vs:List (κ×MC)}(r:KV ν vs)(k:κ){y:V}{u:MC}(I:aF y u):
  KV (ν.map λkv=>if kv.1=k then (kv.1,y)else kv) (vs.map λkv=>if kv.1=k then (kv.1,u)else kv):=by
 unfold KV at r ⊢
 induction r with
 | nil=>exact .nil
 | @cons p q ps L h t J=>
  rw[M5,M5];refine .cons ?_ J;obtain⟨h1,h2⟩:=h
  by_cases e:p.1=k
  .rw[if_pos e,if_pos (h1.symm.trans e)];exact⟨h1,I⟩
  .rw[if_neg e,if_neg (λz=>e (h1.trans z))];exact⟨h1,h2⟩
theorem KV.put{ν:List (κ×V)}{vs:List (κ×MC)}(r:KV ν vs)(k:κ){y:V}{u:MC}(I:aF y u):KV (nK ν k y) (stored vs k u):=by
 unfold nK stored;rw[r.any k]
 by_cases e:(vs.any λJ=>decide (J.1=k))=true
 .rw[if_pos e,if_pos e];exact r.repl k I
 .rw[if_neg e,if_neg e];exact QL r ⟨rfl,I⟩
theorem KV.length{ν:List (κ×V)}{vs:List (κ×MC)}(r:KV ν vs):ν.length=vs.length:=O0 r
end
theorem vd{P:MR}{w:M4}{k:aE}{u:MC}(r:aF (kV k) u):(aX P w).is k u=true:=by
 cases k with
 | inl i=>obtain⟨t,e⟩:=(show ∃t,u=Value.int i t from r);subst e;exact xX P w i t
 | inr x=>obtain⟨t,e⟩:=(show ∃t,u=Value.str x t from r);subst e;exact xW P w x t
theorem pB{P:MR}{w:M4}:∀{ks:List aE} {us:List MC},Vals (ks.map kV) us->ItemsAre (aX P w) ks us
 | [],_,r=>by rw[Pn]at r;cases r;exact .nil
 | k::ks,_,r=>by
  rw[M5]at r;cases r with
  | cons h t=>exact .cons (vd h) (pB t)
abbrev KT(H:Hp):List (List aE×V)->List (List aE×MF×MC)->Prop:=Pu λp q=>p.1=q.1/\H q.2.1=some (.tup (p.1.map kV))/\aF p.2 q.2.2
theorem KT.val{H:Hp}{ν:List (List aE×V)}{xs:List (List aE×MF×MC)}(r:KT H ν xs)(k:List aE):jM (mi ν k) ((O4 xs k).map (·.2)):=by
 induction r with
 | nil=>exact True.intro
 | @cons p q ps I h t L=>
  obtain⟨h1,_,h2⟩:=h
  by_cases e:p.1=k
  .have J:q.1=k:=h1.symm.trans e;have b:O4 (q::I) k=some q.2:=by simp[O4,Nj,J]
   rw[mO e,b];exact h2
  .have J:¬ q.1=k:=λz=>e (h1.trans z);have b:O4 (q::I) k=O4 I k:=by simp[O4,Nj,J]
   rw[mP e,b];exact L
theorem KT.repl{H:Hp}{ν:List (List aE×V)}{xs:List (List aE×MF×MC)}(r:KT H ν xs)(k:List aE){y:V}{u:MC}(I:aF y u):
  KT H (ν.map λkv=>if kv.1=k then (kv.1,y)else kv) (xs.map (putAt k u)):=by
 induction r with
 | nil=>exact .nil
 | @cons p q ps O h t J=>
  rw[M5,M5];refine .cons ?_ J;obtain⟨h1,h2,L⟩:=h;unfold putAt
  by_cases e:p.1=k
  .rw[if_pos e,if_pos (h1.symm.trans e)];exact⟨h1,h2,I⟩
  .rw[if_neg e,if_neg (λz=>e (h1.trans z))];exact⟨h1,h2,L⟩
theorem KT.put{H:Hp}{ν:List (List aE×V)}{xs:List (List aE×MF×MC)}(r:KT H ν xs)(k:List aE){b:MF}{y:V}{u:MC}(L:H b=some (.tup (k.map kV)))(I:aF y u):
  KT H (nK ν k y) (P9 xs k b u):=by
 have e:(ν.any λJ=>decide (J.1=k))=(O4 xs k).isSome:=by
  rw[qW,(r.val k).isSome_eq,Option.isSome_map]
 unfold nK P9;rw[e]
 by_cases q:(O4 xs k).isSome=true
 .rw[if_pos q,if_pos q];exact r.repl k I
 .rw[if_neg q,if_neg q];exact QL r ⟨rfl,L,I⟩
theorem KT.keeps{H H':Hp}{ν:List (List aE×V)}{xs:List (List aE×MF×MC)}(r:KT H ν xs)(I:∀b ys,H b=some (.tup ys)->H' b=some (.tup ys)):KT H' ν xs:=
 Paired.mapP r λ_ _ z=>⟨z.1,I _ _ z.2.1,z.2.2⟩
section
variable{P:MR}{w:M4}{H:Hp}{h:MY}{a:MF}
theorem Hb{u:HO}(ok:lb P w H h)(e:Rd H a u):bz P w H h a u:=e.ok ok
theorem vj{ν:List (aE×V)}(ok:lb P w H h)(e:Rd H a (.dK ν)):ν.length<=MN/\(a == NG)=false/\∃vs,KV ν vs/\h.DictOf (aX P w) a vs:=
 show bz P w H h a (.dK ν)from Hb ok e
theorem Kx{ν:List (aE×V)}(ok:lb P w H h)(e:H a=some (.dK ν)):ν.length<=MN/\(a == NG)=false/\∃vs,KV ν vs/\h.DictOf (aX P w) a vs:=vj ok (.inl e)
theorem pz{ks:List aE}(ok:lb P w H h)(e:H a=some (.tup (ks.map kV))):(NS (aX P w)).is h ks a:=by
 obtain⟨_,I,r,o,h1,h2,n,J⟩:=(show bz P w H h a (.tup (ks.map kV))from ok a _ e)
 exact⟨o,I.toArray,n,h1,h2.1,J,by simpa using pB r⟩
theorem vi{ν:List (List aE×V)}(ok:lb P w H h)(e:Rd H a (.dT ν)):ν.length<=MN/\(a == NG)=false/\
  ∃xs,KT H ν xs/\h.DictOfH (NS (aX P w)) a xs:=by
 obtain⟨z,y,xs,r,o,es,ep,h1,h2,U,O,L⟩:=(show bz P w H h a (.dT ν)from Hb ok e)
 refine⟨z,y,xs,r,o,es,ep,h1,h2,U,O,λx I=>?_,L⟩;have all:∀{l:List (List aE×V)} {m:List (List aE×MF×MC)},KT H l m->∀x∈m,(NS (aX P w)).is h x.1 x.2.1:=by
  intro l m q
  induction q with
  | nil=>intro x I;exact nomatch I
  | @cons p q ps W hq t J=>
   intro x I;rcases NC.mp I with e|I
   .subst e;exact pz ok (by rw[<- hq.1];exact hq.2.1)
   .exact J x I
 exact all r x I
theorem Kw{ν:List (List aE×V)}(ok:lb P w H h)(e:H a=some (.dT ν)):ν.length<=MN/\(a == NG)=false/\
  ∃xs,KT H ν xs/\h.DictOfH (NS (aX P w)) a xs:=vi ok (.inl e)
end
def xi(H:Hp)(a:MF)(y:V)(r:Option V):Prop:=
 (∃I k,Rd H a (.dK I)/\y=kV k/\r=mi I k)\/∃I k b,Rd H a (.dT I)/\y=.ref b/\H b=some (.tup (k.map kV))/\r=mi I k
def GV(H:Hp)(a:MF)(y v:V)(H':Hp):Prop:=
 (∃I k,H a=some (.dK I)/\y=kV k/\I.length < MN/\H'=aV H a (.dK (nK I k v)))\/
 ∃I k b,H a=some (.dT I)/\y=.ref b/\H b=some (.tup (k.map kV))/\I.length < MN/\H'=aV H a (.dT (nK I k v))
theorem xi.k{H:Hp}{a:MF}{ν:List (aE×V)}{k:aE}(e:H a=some (.dK ν)):xi H a (kV k) (mi ν k):=.inl ⟨ν,k,.inl e,rfl,rfl⟩
theorem GV.k{H:Hp}{a:MF}{ν:List (aE×V)}{k:aE}{v:V}(e:H a=some (.dK ν))(I:ν.length < MN):GV H a (kV k) v (aV H a (.dK (nK ν k v))):=.inl ⟨ν,k,e,rfl,I,rfl⟩
section
variable{X:Cx}{pins:List (MF×Obj)}{σ:St}{H:Hp}{s:MD}{a:MF}{y v:V}{u r:MC}{o:Option V}{A:MS}{E:MC->MD->Prop}
theorem Inv.big(I:Inv X pins σ H s):NG < s.heap.objs.size:=by
 have h:MT < s.heap.objs.size:=(I.mod.glob.keeps I.bk).lt;exact Nat.lt_trans (by decide) h
theorem Co{Q:MC->MD->Prop}(Z:A.units+1 < NA)(I:Inv X pins σ H s)(g:xi H a y (some v))(Y:aF y u)(h:∀L s',Inv X pins σ H s'->aF v L->Q L s'):
  MJ (MK X.prog X.w) A (PF (.ref a) u) Q E s:=by
 rcases g with ⟨O,k,e,W,l⟩|⟨O,k,b,e,W,eb,l⟩
 .subst W;obtain⟨z,hd,vs,rel,dd⟩:=vj I.hok e;obtain⟨L,hw,J⟩:=jM.some_of (v:=v) (o:=Qp vs k) (by rw[l];exact rel.val k)
  exact wpAny_getItem_of (vd Y) dd.mapOf hw (h L _ (I.tok _) J)
 .subst W;cases (show u=Value.ref b from Y)
  obtain⟨z,hd,xs,rel,dd⟩:=vi I.hok e;obtain⟨L,hw,J⟩:=jM.some_of (v:=v) (o:=(O4 xs k).map (·.2)) (by rw[l];exact rel.val k)
  obtain⟨p,hp,U⟩:=Option.map_eq_some_iff.mp hw;refine RP (NB Z) (pz I.hok eb) dd hp ?_;rw[U];exact h L _ (I.tok _) J
theorem LP{Q:MC->MD->Prop}(U:A.units+1 < NA)(I:Inv X pins σ H s)(g:xi H a y o)(O:aF y u)(h:∀s',Inv X pins σ H s'->Q (.bool o.isSome) s'):
  MJ (MK X.prog X.w) A (Nq .In u (.ref a)) Q E s:=by
 rcases g with ⟨J,k,e,L,l⟩|⟨J,k,b,e,L,W,l⟩
 .subst L;obtain⟨z,hd,vs,rel,dd⟩:=vj I.hok e;refine wpAny_in_of (vd O) hd dd.mapOf ?_;rw[<- (rel.val k).isSome_eq,<- l];exact h _ (I.tok _)
 .subst L;cases (show u=Value.ref b from O)
  obtain⟨z,hd,xs,rel,dd⟩:=vi I.hok e;refine wpAny_in_heap (NB U) (pz I.hok W) hd dd ?_;have q:=(rel.val k).isSome_eq;rw[Option.isSome_map]at q;rw[<- q,<- l];exact h _ (I.tok _)
theorem GF{Q:MC->MD->Prop}(U:A.units+1 < NA)(I:Inv X pins σ H s)(g:xi H a y o)(O:aF y u)(h:∀s',Inv X pins σ H s'->Q (.bool (!o.isSome)) s'):
  MJ (MK X.prog X.w) A (Nq .NotIn u (.ref a)) Q E s:=by
 rcases g with ⟨J,k,e,L,l⟩|⟨J,k,b,e,L,W,l⟩
 .subst L;obtain⟨z,hd,vs,rel,dd⟩:=vj I.hok e;refine wpAny_notIn_of (vd O) hd dd.mapOf ?_;rw[<- (rel.val k).isSome_eq,<- l];exact h _ (I.tok _)
 .subst L;cases (show u=Value.ref b from O)
  obtain⟨z,hd,xs,rel,dd⟩:=vi I.hok e;refine wpAny_notIn_heap (NB U) (pz I.hok W) hd dd ?_;have q:=(rel.val k).isSome_eq;rw[Option.isSome_map]at q;rw[<- q,<- l];exact h _ (I.tok _)
theorem qS{h':MY}{t':Nat}{J:HO}(I:Inv X pins σ H s)(L:E7 (H a))(hs:Ov a s.heap h')(O:∃q,h'.get? a=some q)(new:bz X.prog X.w (aV H a J) h' a J):
  Inv X pins σ (aV H a J) { s with heap:=h',toks:=t' }:=
 I.write (x:=a) (e:=a) L (.inl rfl) (λb q U z=>(hs.2 b U).trans z) O new
theorem I_{P:MR}{w:M4}{H':Hp}{h':MY}{ν:List (aE×V)}{vs:List (aE×MC)}(z:ν.length<=MN)(hd:(a == NG)=false)(rel:KV ν vs)(dd:h'.DictOf (aX P w) a vs):
  bz P w H' h' a (.dK ν):=⟨z,hd,vs,rel,dd⟩
theorem Cn{H':Hp}{Q:Unit->MD->Prop}(hu:A.units+1 < NA)(I:Inv X pins σ H s)(g:GV H a y v H')(Z:aF y u)(rv:aF v r)(h:∀s',Inv X pins σ H' s'->Q () s'):
  MJ (MK X.prog X.w) A (Sb (.ref a) u r) Q E s:=by
 rcases g with ⟨J,k,e,W,l,Y⟩|⟨J,k,b,e,W,eb,l,Y⟩
 .subst W Y;obtain⟨z,hd,vs,rel,dd⟩:=Kx I.hok e;have O:vs.length<=MN:=by rw[<- rel.length];exact z
  have U:(nK J k v).length<=MN:=by have:=qc J k v;omega
  refine wpAny_setItem_pairs (hsz:=O) (vd Z) dd λh' L hs=>h _ ?_;have he:∃q,h'.get? a=some q:=let ⟨q,_,_,hq,_⟩:=L;⟨q,hq⟩;exact qS I (by rw[e];exact True.intro) hs he (I_ U hd (rel.put k rv) L)
 .subst W Y;cases (show u=Value.ref b from Z)
  obtain⟨z,hd,xs,rel,dd⟩:=Kw I.hok e;have O:xs.length<=MN:=by rw[<- O0 rel];exact z
  have U:(nK J k v).length<=MN:=by have:=qc J k v;omega
  refine RN (hsz:=O) (NB hu) (pz I.hok eb) dd λh' L hs=>h _ ?_;obtain⟨q,es,ep,hq,h2,h3,h4,_,h5⟩:=L;refine qS I (by rw[e];exact True.intro) hs ⟨q,hq⟩ ⟨U,hd,_,(rel.put k eb rv).keeps λc ys ec=>?_,q,es,ep,hq,h2,h3,h4,h5⟩
  rw[ao (Kj ec e (λz=>nomatch z))];exact ec
end
def K1(i:M7):Prop:=∀ov iv,QI i false ov iv=operate [ov,iv] (PF ov iv)
theorem Fs{prog:MR}{w:M4}{A:MS}{E:MC->MD->Prop}{s:MD}{env:Env}{value slice:M7}{pos:Pos}{T id:String}{Q:MC->MD->Prop}
  (Z:Py (.type T) "__getitem__"=pure (some (.builtin id))) (hs:K1 slice)
  (h:MJ (MK prog w) A (eval value env) (λo O=>MJ (MK prog w) A (eval slice env) (λi I=>I.TypeIs o T/\MJ (MK prog w) A (PF o i) Q E I) E O) E s):
  MJ (MK prog w) A (eval (.Subscript value slice pos) env) Q E s:=by
 refine R7 (Nf h (λo O W=>Nf W (λi I J=>?_) λ_ _ x=>x) λ_ _ x=>x);obtain⟨Y,J⟩:=J;unfold subscriptTail;refine MB ?_;rw[getitemInPython_of_ne Y.not_modules];refine MB (wpAny_specialOf Y Z ?_);have fin:MJ (MK prog w) A (QI slice false o i) (λr L=>MJ (MK prog w) A (letTemporaryGo value o r >>= λ_=>pure r) Q E L) E I:=by
  rw[hs o i];exact wpAny_operating (Nf J (λr L U=>MB (wpAny_letTemporaryGo (MG U))) λ_ _ x=>x)
 first
  | exact MG (MB fin)
  | exact MB (MG (MB fin))
  | exact MB fin
theorem EL{P:MR}{w:M4}{H:Hp}(h:MY)(I:NG < h.objs.size):bz P w H (h.push { cls:=.type "dict",data:=.dict #[] }) h.objs.size (.dK []):=
 ⟨NH _,beq_eq_false_iff_ne.mpr (Ne.symm (M6 I)),[],.nil,Heap.DictOf.new h⟩
def HH:TE:=λ_ H Q=>∀p,H p=none->Q (.ref p) (aV H p (.dK []))
section
variable{X:Cx}{pos:Pos}
theorem D4:PE X (.Dict [] [] pos) HH:=λpins s σ H Q I h=>
 wpAny_Dict_empty ⟨.ref s.heap.objs.size,_,I.laid (a:=s.heap.objs.size) (o:=.dK []) (t':=s.toks) (λ_ _ q=>ME _ q) (le_refl _) (EL s.heap I.big),rfl,h _ (I.hok.fresh (le_refl _))⟩
end
structure M2(X:Cx)(o:M7)(m:Str)(apos:Pos)(e f:M7)(cpos:Pos):Prop where
 base:N6 o m X.env (eval o X.env)=eval o X.env
 few:((NM cpos (MP [e,f] X.env)).all (λx=>!x.1) && (O3 cpos (Ot [] X.env)).all (λx=>x.1.isSome)
  && decide (([e,f]:List M7).length+([]:List Qe).length+(if ([]:List Qe).isEmpty then 0 else 1) < 30))=true
 line:(apos.endLine == cpos.line)=true
 trees:NM cpos (MP [e,f] X.env)=[(false,eval e X.env),(false,eval f X.env)]
def Mz(H:Hp)(a:MF):Prop:=(∃I,Rd H a (.dK I))\/∃I,Rd H a (.dT I)
theorem IS{X:Cx}{pins:List (MF×Obj)}{σ:St}{H:Hp}{s:MD}{a:MF}(I:Inv X pins σ H s)(d:Mz H a):
  s.TypeIs (.ref a) "dict"/\(∀b,Value.ref a=.ref b->∃J,s.heap.get? b=some J/\J.dict=none)/\(a == NG)=false:=by
 rcases d with ⟨L,e⟩|⟨L,e⟩
 .obtain⟨_,hd,vs,_,dd⟩:=vj I.hok e;refine⟨dd.typeIs,λb q=>?_,hd⟩;cases q;obtain⟨J,_,_,h1,h2,_⟩:=dd;exact⟨J,h1,h2.2.1⟩
 .obtain⟨_,hd,xs,_,dd⟩:=vi I.hok e;refine⟨dd.typeIs,λb q=>?_,hd⟩;cases q;obtain⟨J,_,_,h1,h2,_⟩:=dd;exact⟨J,h1,h2.2.1⟩
section
variable{X:Cx}{pins:List (MF×Obj)}{σ:St}{H:Hp}{s:MD}{a:MF}{y d:V}{u r:MC}{o:Option V}{A:MS}{E:MC->MD->Prop}
theorem Ja{Q:MC->MD->Prop}(W:A.units+1 < NA)(I:Inv X pins σ H s)(g:xi H a y o)(U:aF y u)(rd:aF d r)(h:∀O s',Inv X pins σ H s'->aF (o.getD d) O->Q O s'):
  MJ (MK X.prog X.w) A (call (.builtin "dict.get") [.ref a,u,r]) Q E s:=by
 rcases g with ⟨J,k,e,L,l⟩|⟨J,k,b,e,L,Y,l⟩
 .subst L;obtain⟨z,hd,vs,rel,dd⟩:=vj I.hok e;refine Qs PySem.F.slot_dict_get dd.typeIs PySem.F.entry_dict_get (PySem.F.args_dict_get_3 _ _ _) (meets_dict_get_default (aX X.prog X.w) a (vd U) hd r) ⟨_,dd.mapOf,h _ _ (I.tok _) ?_⟩;rw[l];exact (rel.val k).getD rd
 .subst L;cases (show u=Value.ref b from U)
  obtain⟨z,hd,xs,rel,dd⟩:=vi I.hok e;refine Qs PySem.F.slot_dict_get dd.typeIs PySem.F.entry_dict_get (PySem.F.args_dict_get_3 _ _ _) (Q9 (NS (aX X.prog X.w)) a b hd r) ⟨NB W,k,xs,pz I.hok Y,dd,h _ _ (I.tok _) ?_⟩;rw[l];exact (rel.val k).getD rd
end
section
variable{prog:MR}{w:M4}{A:MS}{E:MC->MD->Prop}{s:MD}
theorem EK{e it l:MF}{i:Nat}{items:Array MC}{old:MC}{Q:Option MC->MD->Prop}(hd:ig A s.heap)(J:IsEnum s.heap e it i old)(hit:s.heap.IsListIter it l i)(W:s.heap.IsList l items)(O:items[i]?=none)
  (Z:∀h',Oi it s.heap h'->Q none { s with heap:=h' }):MJ (MK prog w) A (NT (.ref e)) Q E s:=by
 have L:s.TypeIs (.ref e) "enumerate":=⟨_,J,rfl⟩;unfold NT;refine MB (Nx (M0 (name:=MI "__next__") L Rp (M8 Rp L F.entry_enumerate_next ?_ (F.args_enumerate_next_1 _))));show MJ _ _ (Pg (.ref e) 2 >>= _) _ _ _
 refine MB (M3 J rfl (x:=.ref it) rfl (MB (l_ (hd.keep λ_ _ q=>q) hit W O λh' x I ⟨o,U,Y⟩=>?_)));exact MB (QC (T:="StopIteration") (b:=true) ⟨o,U,Y⟩ QW (MG (Z _ I)))
def AZ:PySem.Spec:=λA R s=>ig A s.heap/\∀h' tk e,(∀b o,s.heap.get? b=some o->h'.get? b=some o)->(∃es,h'.get? e=some { cls:=.type "AttributeError",data:=.fields es })->R (.error (.ref e)) { s with heap:=h',toks:=tk }
theorem rY{α:Type}{o:MC}{name I:Str}{Q:α->MD->Prop}(hd:ig A s.heap)
  (h:∀h' tk e,(∀b o,s.heap.get? b=some o->h'.get? b=some o)->(∃es,h'.get? e=some { cls:=.type "AttributeError",data:=.fields es })->E (.ref e) { s with heap:=h',toks:=tk }) (O:I.length<=MN:=by size_fits):
  MJ (MK prog w) A (raiseAttrError o name I:Sem α) Q E s:=by
 unfold raiseAttrError;refine MB (wpAny_mkStr (MB ?_) O);unfold newExc newTuple;refine MB (Nh ?_ (by size_fits))
 refine MB (m:=P0 _ _) (wpAny_of_eq (a:=Value.none) (by simp only[P0,attrError_no_first];rfl) ?_)
 rw[ownMembersOf_AttributeError];refine Nh ?_ (by size_fits)
 obtain⟨J,g,d,tk,os⟩:=s;have f1:=Qg
 repeat (any_goals (first|assumption|wp_step))
 dsimp only;have lt:∀b o,J.get? b=some o->b≠J.objs.size+1:=λb o e=>M6 (Nat.lt_succ_of_lt (ML e));have kp:∀{L o2:Obj} {f:Obj->Obj} (b:MF) (o:Obj),J.get? b=some o->(((J.push L).push o2).update (J.push L).objs.size f).get? b=some o:=λ{L o2 f} b o e=>by
  refine (MV _ _ ?_).trans (ME _ (ME _ e));rw[NE];exact (lt b o e).symm
 refine uY (hd.keep kp) (Nk _ (MM _ rfl) rfl) rfl (by simp) λh' k c=>h h' _ _ (λb o e=>k b o (by rw[NE];exact lt b o e) (kp b o e)) ?_
 obtain⟨v,c|c⟩:=c
 .exact⟨_,c⟩
 .exact⟨_,c⟩
end
theorem wy:Py (.type "list") "keys"=pure none:=rfl
theorem xZ:Py (.type "zip") "keys"=pure none:=rfl
theorem oE:Py (.type "zip") "__getattr__"=pure none:=by rw[typeLookup_type,builtinLookup_eq_fast];kernel_rfl
theorem wL:entryFor table "zip.__getattribute__"=some Builtin.«object.__getattribute__»:=entryFor_alias (id':="object.__getattribute__") (by kernel_rfl) rfl (by decide +kernel) rfl
theorem uM:(MI "keys").length+100<=MN:=by rw[NK];decide +kernel
theorem qD(a:MF)(xs:Array MC)(k:Nat)(sl:Array (Option MC))(u:Tok):Meets (Builtin.«object.__getattribute__» ⟨[.ref a,.str "keys" u],[]⟩) (λA R s=>s.heap.get? a=some { cls:=.type "list",dict:=none,data:=.seq xs k,slots:=sl }/\AZ A R s):=
 Meets.of_wp λprog w A R s hs=>by
  obtain⟨I,hs⟩:=hs;have J:=wy
  repeat (any_goals (first|assumption|wp_step))
  exact rY hs.1 hs.2 (attrMsg_fits (by decide) uM)
theorem sj(a:MF)(vs:Array MC)(u:Tok):Meets (Builtin.«object.__getattribute__» ⟨[.ref a,.str "keys" u],[]⟩) (λA R s=>s.heap.get? a=some { cls:=.type "zip",dict:=none,data:=.fields vs,slots:=#[] }/\AZ A R s):=
 Meets.of_wp λprog w A R s hs=>by
  obtain⟨I,hs⟩:=hs;have J:=xZ
  repeat (any_goals (first|assumption|wp_step))
  exact rY hs.1 hs.2 (attrMsg_fits (by decide) uM)
section
variable{prog:MR}{w:M4}{A:MS}{E:MC->MD->Prop}{s:MD}{a:MF}{Q:Option MC->MD->Prop}
theorem wq{xs:Array MC}{k:Nat}{sl:Array (Option MC)}(L:s.heap.get? a=some { cls:=.type "list",dict:=none,data:=.seq xs k,slots:=sl })(W:ig A s.heap)
  (h:∀h' tk,(∀c o,s.heap.get? c=some o->h'.get? c=some o)->Q none { s with heap:=h',toks:=tk }):MJ (MK prog w) A (Pw (.ref a) "keys") Q E s:=by
 obtain⟨U,g,d,tk,os⟩:=s;have O:∀I,(⟨U,g,d,I,os⟩:MD).TypeIs (.ref a) "list":=λ_=>⟨_,L,rfl⟩;have f1:=Qg;have f3:=F.slot_list_getattribute.lookup;have f4:=F.slot_list_getattribute.bind (.ref a);have f5:=am_list_getattr_none;unfold Pw
 repeat (any_goals (first|assumption|exact O _|((with_reducible show MJ _ _ (call _ _ _) _ _ _);refine R4 F.slot_list_getattribute (O _) am_entry_list_getattribute (F.args_list_getattribute_2 _ _) (qD a xs k sl _) ⟨L,W.keep (λ_ _ e=>e),λh' Y e kp J=>?_⟩)|wp_step))
 obtain⟨es,Z⟩:=J;unfold RY
 repeat (any_goals (first|assumption|wp_step))
 exact h _ _ kp
theorem xS{vs:Array MC}(L:s.heap.get? a=some { cls:=.type "zip",dict:=none,data:=.fields vs,slots:=#[] })(W:ig A s.heap)
  (h:∀h' tk,(∀c o,s.heap.get? c=some o->h'.get? c=some o)->Q none { s with heap:=h',toks:=tk }):MJ (MK prog w) A (Pw (.ref a) "keys") Q E s:=by
 obtain⟨U,g,d,tk,os⟩:=s;have O:∀I,(⟨U,g,d,I,os⟩:MD).TypeIs (.ref a) "zip":=λ_=>⟨_,L,rfl⟩;have f1:=Qg;have f3:=F.slot_zip_getattribute.lookup;have f4:=F.slot_zip_getattribute.bind (.ref a);have f5:=oE;unfold Pw
 repeat (any_goals (first|assumption|exact O _|((with_reducible show MJ _ _ (call _ _ _) _ _ _);refine R4 F.slot_zip_getattribute (O _) wL (F.args_zip_getattribute_2 _ _) (sj a vs _) ⟨L,W.keep (λ_ _ e=>e),λh' Y e kp J=>?_⟩)|wp_step))
 obtain⟨es,Z⟩:=J;unfold RY
 repeat (any_goals (first|assumption|wp_step))
 exact h _ _ kp
end
end L2
namespace L3
open PySem PySem.Spec PyProof.Rows L2
abbrev St:=L2.St
inductive D where
 | non|bl (b:Bool)|int (i:Int)|str (x:Str)|tup (ds:List D)|lst (ds:List D)|fl (ds:List D)|ref (a:MF)|ty (n:String)
inductive GO where
 | lst (ds:List D)
 | ins (C:MF) (L:List Str) (ds:List D)
 | dK (ν:List (aE×D))
 | dT (hw:List aE->Int) (ν:List (List aE×D))
 | dF (ob:Obj) (hw:List aE->Int) (xs:List (List aE×MF×MC)) (ν:List (List aE×D))
abbrev Gp:=MF->Option GO
def gset(G:Gp)(a:MF)(o:GO):Gp:=λb=>if b=a then some o else G b
def fB(G:Gp)(a:MF):Gp:=λb=>if b=a then none else G b
theorem av{G:Gp}{a:MF}{o:GO}:gset G a o a=some o:=by unfold gset;rw[if_pos rfl]
theorem ai{G:Gp}{a b:MF}{o:GO}(h:b≠a):gset G a o b=G b:=by unfold gset;rw[if_neg h]
theorem d9{G:Gp}{a:MF}{o u:GO}:gset (gset G a o) a u=gset G a u:=by
 funext b;unfold gset;split<;>rfl
theorem d_{G:Gp}{a:MF}:fB G a a=none:=by unfold fB;rw[if_pos rfl]
theorem ee{G:Gp}{a b:MF}(h:b≠a):fB G a b=G b:=by unfold fB;rw[if_neg h]
def CL(K:Pj)(H:Hp)(a:MF)(xs:List V):Prop:=
 (∃o,H a=some (.frz o (.lst xs)))\/
  ∃(o:Obj) (I:Array MC) (n:Nat),K.lookup a=some o/\o.cls=.type "list"/\o.dict=none/\o.data=.seq I n/\I.size<=MN/\Vals xs I.toList
theorem CL.sq{K:Pj}{H:Hp}{a:MF}{xs:List V}(h:CL K H a xs):ij K H a xs:=by
 rcases h with ⟨o,e⟩|h
 .exact .inl (.inr ⟨o,e⟩)
 .exact .inr h
mutual
def RD(K:Pj)(H:Hp):D->V->Prop
 | .non,v=>v=.non
 | .bl b,v=>v=.bl b
 | .int i,v=>v=.int i
 | .str x,v=>v=.str x
 | .ref a,v=>v=.ref a
 | .ty n,v=>v=.ty n
 | .fl _,_=>False
 | .tup ds,v=>∃a xs,v=.ref a/\jL K H a xs/\RDs K H ds xs
 | .lst ds,v=>∃a xs,v=.ref a/\CL K H a xs/\RDs K H ds xs
def RDs(K:Pj)(H:Hp):List D->List V->Prop
 | [],xs=>xs=[]
 | d::ds,xs=>∃x r,xs=x::r/\RD K H d x/\RDs K H ds r
end
structure Stb(K:Pj)(H H':Hp):Prop where
 t:∀a xs,jL K H a xs->jL K H' a xs
 l:∀a xs,CL K H a xs->CL K H' a xs
mutual
theorem RD.mono{K:Pj}{H H':Hp}(s:Stb K H H'):∀(d:D) (v:V),RD K H d v->RD K H' d v
 | .non,v,h=>by simp only[RD]at h ⊢;exact h
 | .bl b,v,h=>by simp only[RD]at h ⊢;exact h
 | .int i,v,h=>by simp only[RD]at h ⊢;exact h
 | .str x,v,h=>by simp only[RD]at h ⊢;exact h
 | .ref a,v,h=>by simp only[RD]at h ⊢;exact h
 | .ty n,v,h=>by simp only[RD]at h ⊢;exact h
 | .fl _,v,h=>by simp only[RD]at h
 | .tup ds,v,h=>by
  simp only[RD]at h ⊢;obtain⟨a,xs,e,q,r⟩:=h;exact⟨a,xs,e,s.t _ _ q,RDs.mono s ds xs r⟩
 | .lst ds,v,h=>by
  simp only[RD]at h ⊢;obtain⟨a,xs,e,q,r⟩:=h;exact⟨a,xs,e,s.l _ _ q,RDs.mono s ds xs r⟩
theorem RDs.mono{K:Pj}{H H':Hp}(s:Stb K H H'):∀(ds:List D) (xs:List V),RDs K H ds xs->RDs K H' ds xs
 | [],xs,h=>by simp only[RDs]at h ⊢;exact h
 | d::ds,xs,h=>by
  simp only[RDs]at h ⊢;obtain⟨x,r,e,h1,h2⟩:=h;exact⟨x,r,e,RD.mono s d x h1,RDs.mono s ds r h2⟩
end
section
variable{K:Pj}{H:Hp}
theorem RDs.nil:RDs K H [] []:=by simp only[RDs]
theorem RDs.cons{d:D}{x:V}{ds:List D}{xs:List V}(h:RD K H d x)(t:RDs K H ds xs):RDs K H (d::ds) (x::xs):=by
 simp only[RDs];exact⟨x,xs,rfl,h,t⟩
theorem RDs.inv_nil{xs:List V}(h:RDs K H [] xs):xs=[]:=by simpa only[RDs]using h
theorem RDs.inv_cons{d:D}{ds:List D}{xs:List V}(h:RDs K H (d::ds) xs):∃x r,xs=x::r/\RD K H d x/\RDs K H ds r:=by simpa only[RDs]using h
theorem RDs.length:∀{ds:List D} {xs:List V},RDs K H ds xs->ds.length=xs.length
 | [],xs,h=>by rw[h.inv_nil];rfl
 | d::ds,xs,h=>by
  obtain⟨x,r,e,_,h2⟩:=h.inv_cons;subst e;simp[RDs.length h2]
theorem RDs.get:∀{ds:List D} {xs:List V} {i:Nat} {d:D},RDs K H ds xs->ds[i]?=some d->∃x,xs[i]?=some x/\RD K H d x
 | [],xs,i,d,h,e=>by simp at e
 | c::ds,xs,0,d,h,e=>by
  obtain⟨x,r,I,h1,h2⟩:=h.inv_cons;subst I;simp at e;subst e;exact⟨x,rfl,h1⟩
 | c::ds,xs,i+1,d,h,e=>by
  obtain⟨x,r,I,h1,h2⟩:=h.inv_cons;subst I;obtain⟨y,L,J⟩:=RDs.get (i:=i) (d:=d) h2 (by simpa using e)
  exact⟨y,by simpa using L,J⟩
theorem RDs.append:∀{ds es:List D} {xs ys:List V},RDs K H ds xs->RDs K H es ys->RDs K H (ds ++ es) (xs ++ ys)
 | [],es,xs,ys,h,h'=>by rw[h.inv_nil];exact h'
 | d::ds,es,xs,ys,h,h'=>by
  obtain⟨x,r,e,h1,h2⟩:=h.inv_cons;subst e;exact RDs.cons h1 (RDs.append h2 h')
theorem RDs.take:∀{ds:List D} {xs:List V} (n:Nat),RDs K H ds xs->RDs K H (ds.take n) (xs.take n)
 | _,_,0,_=>by simp only[List.take_zero];exact RDs.nil
 | [],xs,n+1,h=>by rw[h.inv_nil];simp only[List.take_nil];exact RDs.nil
 | d::ds,xs,n+1,h=>by
  obtain⟨x,r,e,h1,h2⟩:=h.inv_cons;subst e;exact RDs.cons h1 (RDs.take n h2)
theorem RDs.drop:∀{ds:List D} {xs:List V} (n:Nat),RDs K H ds xs->RDs K H (ds.drop n) (xs.drop n)
 | _,_,0,h=>by simpa only[Qb]using h
 | [],xs,n+1,h=>by rw[h.inv_nil];simp only[List.drop_nil];exact RDs.nil
 | d::ds,xs,n+1,h=>by
  obtain⟨x,r,e,h1,h2⟩:=h.inv_cons;subst e;exact RDs.drop n h2
theorem RDs.set:∀{ds:List D} {xs:List V} {d:D} {x:V} (n:Nat),RDs K H ds xs->RD K H d x->RDs K H (ds.set n d) (xs.set n x)
 | [],xs,d,x,n,h,_=>by rw[h.inv_nil];simp only[List.set_nil];exact RDs.nil
 | c::ds,xs,d,x,0,h,h'=>by
  obtain⟨y,r,e,h1,h2⟩:=h.inv_cons;subst e;exact RDs.cons h' h2
 | c::ds,xs,d,x,n+1,h,h'=>by
  obtain⟨y,r,e,h1,h2⟩:=h.inv_cons;subst e;exact RDs.cons h1 (RDs.set n h2 h')
theorem RDs.ints:∀ns:List Int,RDs K H (ns.map D.int) (ns.map V.int)
 | []=>RDs.nil
 | n::r=>RDs.cons (by simp only[RD]) (RDs.ints r)
theorem RDs.strs:∀ns:List Str,RDs K H (ns.map D.str) (ns.map V.str)
 | []=>RDs.nil
 | n::r=>RDs.cons (by simp only[RD]) (RDs.strs r)
theorem RDs.ints_inv:∀(ns:List Int) {xs:List V},RDs K H (ns.map D.int) xs->xs=ns.map V.int
 | [],xs,h=>h.inv_nil
 | n::r,xs,h=>by
  obtain⟨x,t,e,h1,h2⟩:=RDs.inv_cons (d:=.int n) (ds:=r.map D.int) h;simp only[RD]at h1;subst e h1;rw[RDs.ints_inv r h2];rfl
theorem RDs.strs_inv:∀(ns:List Str) {xs:List V},RDs K H (ns.map D.str) xs->xs=ns.map V.str
 | [],xs,h=>h.inv_nil
 | n::r,xs,h=>by
  obtain⟨x,t,e,h1,h2⟩:=RDs.inv_cons (d:=.str n) (ds:=r.map D.str) h;simp only[RD]at h1;subst e h1;rw[RDs.strs_inv r h2];rfl
end
def xj(hw:List aE->Int)(a:MF)(xs:List (List aE×MF×MC)):MY->Prop:=λh=>(a == NG)=false/\∃o es ep,h.get? a=some o/\o.ExactDict/\o.data=.dict es ep/\es.toList=xs.map λx=>(⟨hw x.1,.ref x.2.1,x.2.2⟩:DictEntry)
def Mh(I:Obj)(hw:List aE->Int)(a:MF)(xs:List (List aE×MF×MC)):MY->Prop:=λh=>h.get? a=some I/\xj hw a xs h
def pJ(K:Pj)(H:Hp):List (List aE×D)->List (List aE×MF×MC)->Prop:=Pu λp q=>p.1=q.1/\jL K H q.2.1 (p.1.map kV)/\∃v,RD K H p.2 v/\aF v q.2.2
def zd(K:Pj)(H:Hp):List (aE×D)->List (aE×V)->Prop:=Pu λp q=>p.1=q.1/\RD K H p.2 q.2
def RO(K:Pj)(H:Hp)(a:MF):GO->HO->Prop
 | .lst ds,.lst xs=>RDs K H ds xs
 | .ins C L ds,.ins U _ gs=>U=C/\gs.map (·.1)=L/\RDs K H ds (gs.map (·.2))
 | .dK I,.dK hs=>zd K H I hs
 | .dT hw I,.ext J=>∃xs,J=xj hw a xs/\pJ K H I xs/\(I.map (·.1)).Nodup/\I.length<=MN
 | .dF O hw xs I,.ext J=>J=Mh O hw a xs/\pJ K H I xs/\(I.map (·.1)).Nodup/\I.length<=MN
 | _,_=>False
def RG(K:Pj)(H:Hp)(G:Gp):Prop:=∀a o,G a=some o->∃h,H a=some h/\RO K H a o h
def Kp(G:Gp)(H:Hp)(G':Gp)(H':Hp):Prop:=∀a h,H a=some h->G a=none->H' a=some h/\G' a=none
def Jv(G:Gp)(H:Hp)(p:MF):Prop:=∀h,H p=some h->G p≠none
section
variable{K:Pj}{H H' H1 H2:Hp}{G G' G1 G2:Gp}{p:MF}
theorem pJ.mono(s:Stb K H H'){ν:List (List aE×D)}{xs:List (List aE×MF×MC)}(r:pJ K H ν xs):pJ K H' ν xs:=Paired.mapP r λ_ _ I=>by
 obtain⟨a,b,v,c,d⟩:=I;exact (
  ⟨a,s.t _ _ b,v,RD.mono s _ _ c,d⟩)
theorem zd.mono(s:Stb K H H'){ν:List (aE×D)}{xs:List (aE×V)}(r:zd K H ν xs):zd K H' ν xs:=Paired.mapP r λ_ _ I=>by
 obtain⟨a,b⟩:=I;exact (
  ⟨a,RD.mono s _ _ b⟩)
theorem RO.mono(s:Stb K H H'){a:MF}{o:GO}{h:HO}(r:RO K H a o h):RO K H' a o h:=by
 cases o<;>cases h<;>first
  | exact r.elim
  | exact RDs.mono s _ _ r
  | exact⟨r.1,r.2.1,RDs.mono s _ _ r.2.2⟩
  | exact zd.mono s r
  | (obtain⟨xs,e,q,n⟩:=r;exact⟨xs,e,q.mono s,n⟩)
  | exact⟨r.1,r.2.1.mono s,r.2.2⟩
theorem RG.none_of(J:RG K H G){a:MF}{h:HO}(e:H a=some h)(n:∀o,¬ RO K H a o h):G a=none:=by
 cases q:G a with
 | none=>rfl
 | some o=>
  obtain⟨h',I,r⟩:=J a o q;rw[e]at I;cases I;exact absurd r (n o)
theorem RG.free(J:RG K H G)(e:H p=none):G p=none:=by
 cases q:G p with
 | none=>rfl
 | some o=>
  obtain⟨h',I,r⟩:=J p o q;rw[e]at I;cases I
theorem ID{a:MF}(o:GO)(xs:List V):¬ RO K H a o (.tup xs):=by cases o<;>exact id
theorem Ec{a:MF}(o:GO)(I:Obj)(u:HO):¬ RO K H a o (.frz I u):=by cases o<;>exact id
theorem Kp.refl:Kp G H G H:=λ_ _ e n=>⟨e,n⟩
theorem Kp.trans(a:Kp G H G1 H1)(b:Kp G1 H1 G2 H2):Kp G H G2 H2:=λx h e n=>b x h (a x h e n).1 (a x h e n).2
theorem Kp.stb(k:Kp G H G' H')(I:RG K H G):Stb K H H' where
 t:=λa xs q=>by
  rcases q with (q|⟨o,q⟩)|q
  .exact .inl (.inl (k a _ q (I.none_of q λo=>ID o xs)).1)
  .exact .inl (.inr ⟨o,(k a _ q (I.none_of q λo'=>Ec o' o _)).1⟩)
  .exact .inr q
 l:=λa xs q=>by
  rcases q with ⟨o,q⟩|q
  .exact .inl ⟨o,(k a _ q (I.none_of q λo'=>Ec o' o _)).1⟩
  .exact .inr q
theorem Kp.fr(k:Kp G H G1 H1)(f:Jv G1 H1 p):Jv G H p:=λh e n=>f h (k p h e n).1 (k p h e n).2
theorem qP(e:H p=none):Jv G H p:=λh q=>by rw[e]at q;cases q
theorem Kp.laid{o:HO}(e:H p=none):Kp G H G (aV H p o):=λa h q n=>⟨by rw[ao (bw q e)];exact q,n⟩
theorem RG.laid{o:HO}(I:RG K H G)(e:H p=none):RG K (aV H p o) G:=λa o' q=>by
 obtain⟨h,J,r⟩:=I a o' q;exact⟨h,by rw[ao (bw J e)];exact J,r.mono ((Kp.laid (G:=G) e).stb I)⟩
end
abbrev eV:=List (Option D)
def CC(K:Pj)(H:Hp):Option D->Option V->Prop
 | some d,some v=>RD K H d v
 | none,_=>True
 | some _,none=>False
def RS(K:Pj)(H:Hp)(σ:eV)(τ:St):Prop:=Pu (CC K H) σ τ
section
variable{K:Pj}{H H':Hp}
theorem CC.mono(s:Stb K H H'):∀{a:Option D} {b:Option V},CC K H a b->CC K H' a b
 | some d,some v,r=>RD.mono s d v r
 | none,_,_=>trivial
 | some _,none,r=>r.elim
theorem RS.mono(s:Stb K H H'){σ:eV}{τ:St}(r:RS K H σ τ):RS K H' σ τ:=Paired.mapP r λ_ _ q=>q.mono s
theorem RS.get:∀{σ:eV} {τ:St} {i:Nat} {d:D},RS K H σ τ->σ[i]?=some (some d)->∃v,τ[i]?=some (some v)/\RD K H d v
 | _,_,_,_,.nil,e=>by simp at e
 | _,_,0,d,.cons (b:=b) r _,e=>by
  simp at e;subst e;cases b with
  | none=>exact r.elim
  | some v=>exact⟨v,rfl,r⟩
 | _,_,i+1,d,.cons _ t,e=>by
  obtain⟨v,h1,h2⟩:=RS.get (i:=i) (d:=d) t (by simpa using e)
  exact⟨v,by simpa using h1,h2⟩
theorem RS.set{d:D}{v:V}(r:RD K H d v):∀{σ:eV} {τ:St} (i:Nat),RS K H σ τ->RS K H (σ.set i (some d)) (τ.set i (some v))
 | _,_,_,.nil=>.nil
 | _,_,0,.cons _ t=>.cons (show CC K H (some d) (some v)from r) t
 | _,_,i+1,.cons q t=>.cons q (RS.set r i t)
end
def RE(K:Pj)(G:Gp)(H:Hp)(G':Gp)(H':Hp)(d:D)(v:V):Prop:=
 (∃ds p xs,d=.fl ds/\v=.ref p/\H' p=some (.lst xs)/\G' p=none/\RDs K H' ds xs/\Jv G H p)\/RD K H' d v
section
variable{K:Pj}{H H' H1 H2:Hp}{G G' G1 G2:Gp}{d:D}{v:V}
theorem RE.of(r:RD K H' d v):RE K G H G' H' d v:=.inr r
theorem RE.wait(r:RE K G H G1 H1 d v)(k:Kp G1 H1 G2 H2)(I:RG K H1 G1):RE K G H G2 H2 d v:=by
 rcases r with ⟨ds,p,xs,Y,W,L,J,U,O⟩|r
 .exact .inl ⟨ds,p,xs,Y,W,(k p _ L J).1,(k p _ L J).2,RDs.mono (k.stb I) _ _ U,O⟩
 .exact .inr (RD.mono (k.stb I) _ _ r)
theorem RE.base(r:RE K G1 H1 G2 H2 d v)(k:Kp G H G1 H1):RE K G H G2 H2 d v:=by
 rcases r with ⟨ds,p,xs,W,U,O,L,J,I⟩|r
 .exact .inl ⟨ds,p,xs,W,U,O,L,J,k.fr I⟩
 .exact .inr r
theorem RE.rd(r:RE K G H G' H' d v)(h:∀ds,d≠.fl ds):RD K H' d v:=by
 rcases r with ⟨ds,p,xs,I,_⟩|r
 .exact absurd I (h ds)
 .exact r
theorem RE.int{i:Int}(r:RE K G H G' H' (.int i) v):v=.int i:=by
 have:=r.rd (by intro ds h;cases h);simpa only[RD]using this
theorem RE.str{i:Str}(r:RE K G H G' H' (.str i) v):v=.str i:=by
 have:=r.rd (by intro ds h;cases h);simpa only[RD]using this
theorem RE.bl{i:Bool}(r:RE K G H G' H' (.bl i) v):v=.bl i:=by
 have:=r.rd (by intro ds h;cases h);simpa only[RD]using this
theorem RE.non(r:RE K G H G' H' .non v):v=.non:=by
 have:=r.rd (by intro ds h;cases h);simpa only[RD]using this
theorem RE.ref{a:MF}(r:RE K G H G' H' (.ref a) v):v=.ref a:=by
 have:=r.rd (by intro ds h;cases h);simpa only[RD]using this
theorem RE.tup{ds:List D}(r:RE K G H G' H' (.tup ds) v):∃a xs,v=.ref a/\jL K H' a xs/\RDs K H' ds xs:=by
 have:=r.rd (by intro ds h;cases h);simpa only[RD]using this
theorem RE.lst{ds:List D}(r:RE K G H G' H' (.lst ds) v):∃a xs,v=.ref a/\CL K H' a xs/\RDs K H' ds xs:=by
 have:=r.rd (by intro ds h;cases h);simpa only[RD]using this
theorem RE.fl{ds:List D}(r:RE K G H G' H' (.fl ds) v):∃p xs,v=.ref p/\H' p=some (.lst xs)/\G' p=none/\RDs K H' ds xs/\Jv G H p:=by
 rcases r with ⟨Y,p,xs,W,U,O,L,J,I⟩|r
 .cases W;exact⟨p,xs,U,O,L,J,I⟩
 .simp only[RD]at r
theorem dC{i:Int}:RD K H (.int i) (.int i):=by simp only[RD]
theorem iX{i:Str}:RD K H (.str i) (.str i):=by simp only[RD]
theorem f_{i:Bool}:RD K H (.bl i) (.bl i):=by simp only[RD]
theorem vW:RD K H .non .non:=by simp only[RD]
theorem fV{a:MF}:RD K H (.ref a) (.ref a):=by simp only[RD]
theorem oZ{ds:List D}{xs:List V}{a:MF}(h:jL K H a xs)(r:RDs K H ds xs):RD K H (.tup ds) (.ref a):=by
 simp only[RD];exact⟨a,xs,rfl,h,r⟩
theorem rU{ds:List D}{xs:List V}{a:MF}(h:CL K H a xs)(r:RDs K H ds xs):RD K H (.lst ds) (.ref a):=by
 simp only[RD];exact⟨a,xs,rfl,h,r⟩
end
noncomputable def w_(G:Gp):D->Option (List D)
 | .lst ds=>some ds
 | .fl ds=>some ds
 | .ref a=>match G a with
  | some (.lst ds)=>some ds
  | _=>none
 | _=>none
def Fa(G:Gp):D->Option (List D)
 | .tup ds=>some ds
 | d=>w_ G d
section
variable{K:Pj}{H H':Hp}{G G':Gp}{d:D}{v:V}{ds:List D}
theorem kL(h:w_ G' d=some ds)(r:RE K G H G' H' d v)(J:RG K H' G'):∃a xs,v=.ref a/\ij K H' a xs/\RDs K H' ds xs:=by
 cases d with
 | lst es=>
  obtain⟨a,xs,e,f,q⟩:=r.lst;simp only[w_,Option.some.injEq]at h;subst h;exact⟨a,xs,e,f.sq,q⟩
 | fl es=>
  obtain⟨a,xs,e,f,_,q,_⟩:=r.fl;simp only[w_,Option.some.injEq]at h;subst h;exact⟨a,xs,e,ij.of f,q⟩
 | ref a=>
  have e:=r.ref;simp only[w_]at h;cases q:G' a with
  | none=>rw[q]at h;cases h
  | some o=>
   rw[q]at h;cases o with
   | lst es=>
    simp only[Option.some.injEq]at h;subst h;obtain⟨L,O,I⟩:=J a _ q;cases L with
    | lst xs=>exact⟨a,xs,e,ij.of O,I⟩
    | _=>exact I.elim
   | _=>cases h
 | _=>simp[w_]at h
theorem tu(h:Fa G' d=some ds)(r:RE K G H G' H' d v)(I:RG K H' G'):∃a xs,v=.ref a/\(ij K H' a xs\/jL K H' a xs)/\RDs K H' ds xs:=by
 cases d with
 | tup es=>
  obtain⟨a,xs,e,f,q⟩:=r.tup;simp only[Fa,Option.some.injEq]at h;subst h;exact⟨a,xs,e,.inr f,q⟩
 | _=>
  obtain⟨a,xs,e,f,q⟩:=kL (by simpa only[Fa]using h) r I
  exact⟨a,xs,e,.inl f,q⟩
theorem wK{xs:List V}{p:MF}(I:RG K H G)(e:H p=none)(r:RDs K H ds xs):RE K G H G (aV H p (.lst xs)) (.fl ds) (.ref p):=
 .inl ⟨ds,p,xs,rfl,rfl,aG,I.free e,RDs.mono ((Kp.laid (G:=G) e).stb I) _ _ r,qP e⟩
theorem kQ{xs:List V}{p:MF}(I:RG K H G)(e:H p=none)(r:RDs K H ds xs):RD K (aV H p (.tup xs)) (.tup ds) (.ref p):=
 oZ (jL.of aG) (RDs.mono ((Kp.laid (G:=G) e).stb I) _ _ r)
end
end L3
namespace L2
open PySem PySem.Spec PyProof.Rows
section
variable{X:Cx}
theorem PE.imp{e:M7}{t t':TE}(h:PE X e t)(i:∀σ H Q,t' σ H Q->t σ H Q):PE X e t':=λpins s σ H Q I q=>h pins s σ H Q I (i σ H Q q)
theorem PT.imp{e:M7}{t t':TT}(h:PT X e t)(i:∀σ H Q,t' σ H Q->t σ H Q):PT X e t':=λpins s σ H Q I q=>h pins s σ H Q I (i σ H Q q)
theorem PW.imp{e:M7}{t t':TT}(h:PW X e t)(i:∀σ H Q,t' σ H Q->t σ H Q):PW X e t':=λJ pins s σ H Q I q=>h J pins s σ H Q I (i σ H Q q)
theorem PA.imp{es:List M7}{t t':TA}(h:PA X es t)(i:∀σ H Q,t' σ H Q->t σ H Q):PA X es t':=λpos pins s σ H Q I q=>h pos pins s σ H Q I (i σ H Q q)
theorem PS.imp{e:Nd}{t t':TS}(h:PS X e t)(i:∀D σ H,t' D σ H->t D σ H):PS X e t':=λpins s σ H D I q=>h pins s σ H D I (i D σ H q)
theorem iO.imp{e:List Nd}{t t':TS}(h:iO X e t)(i:∀D σ H,t' D σ H->t D σ H):iO X e t':=λpins s σ H D I q=>h pins s σ H D I (i D σ H q)
theorem gM.imp{f:MC->MC->Sem MC}{r r':R2}(h:gM X f r)(i:∀x y H Q,r' x y H Q->r x y H Q):gM X f r':=λpins s σ H x y v u Q I rx J q=>h pins s σ H x y v u Q I rx J (i x y H Q q)
theorem dj.imp{f:MC}{r r':List V->Hp->VK->Prop}(h:dj X f r)(i:∀xs H Q,r' xs H Q->r xs H Q):dj X f r':=λpins s σ H xs J Q I r q=>h pins s σ H xs J Q I r (i xs H Q q)
theorem CA.imp{r r':V->Option Int->Option Int->Hp->VK->Prop}(h:CA X r)(i:∀x lo hi H Q,r' x lo hi H Q->r x lo hi H Q):CA X r':=λpins s σ H x v L J lo hi sl Q I rx hs pl O q=>h pins s σ H x v L J lo hi sl Q I rx hs pl O (i x lo hi H Q q)
theorem CF.imp{r r':R2}(h:CF X r)(i:∀x y H Q,r' x y H Q->r x y H Q):CF X r':=λvalue slice pins s σ H x y v u Q I rx J q hs=>h value slice pins s σ H x y v u Q I rx J (i x y H Q q) hs
theorem Inv.freeze{pins:List (MF×Obj)}{σ:St}{H:Hp}{s:MD}{p:MF}{xs:List V}(I:Inv X pins σ H s)(e:H p=some (.lst xs)):∃o,Inv X pins σ (aV H p (.frz o (.lst xs))) s:=by
 obtain⟨L,n,Y,W,Z⟩:=I.lst e;have stay:∀b,H b=none->(aV H p (.frz { cls:=.type "list",data:=.seq L.toArray n } (.lst xs))) b=none:=λb O=>by
  rw[ao (λz=>by subst z;rw[O]at e;cases e)];exact O
 refine⟨{ cls:=.type "list",data:=.seq L.toArray n },⟨I.ok,I.os,I.bare,⟨I.base.keep,I.base.slot,λb o h1 h2 U=>stay b (I.base.free b o h1 h2 U),I.base.there,λb ys q=>?_,λb o u q=>?_,λb ps q=>?_⟩,I.loc,I.cell,stay _ I.free,λx c hc=>stay c (I.freeC x c hc),λq hq=>?_,λb u q=>?_,I.len⟩⟩
 .have J:=I.base.tups b ys q;rw[ao (λz=>by subst z;rw[e]at J;cases J)];exact J
 .have J:=I.base.frzs b o u q;rw[ao (λz=>by subst z;rw[e]at J;cases J)];exact J
 .obtain⟨more,J⟩:=I.base.tbls b ps q;exact⟨more,by rw[ao (λz=>by subst z;rw[e]at J;cases J)];exact J⟩
 .obtain⟨h1,h2,U⟩:=I.pin q hq;exact⟨h1,stay _ h2,U⟩
 .by_cases O:b=p
  .subst O;rw[aG]at q;cases q;exact⟨W,Z,L,n,Y,W⟩
  .rw[ao O]at q;refine (I.hok b u q).stay (λ_ _ _ z=>z) (λc z=>?_) λc ys z=>?_
   .rw[ao (λy=>by subst y;rw[e]at z;cases z)];exact z
   .rw[ao (λy=>by subst y;rw[e]at z;cases z)];exact z
def gh(t:TE):TE:=λσ H Q=>t σ H λv H1=>Q v H1\/∃p xs,v=.ref p/\H1 p=some (.lst xs)/\∀o,Q v (aV H1 p (.frz o (.lst xs)))
theorem J7{e:M7}{t:TE}(h:PE X e t):PE X e (gh t):=λpins s σ H Q I q=>
 b_ (h pins s σ H _ I q) λu s' O=>by
  obtain⟨v,H',L,r,J⟩:=O;rcases J with J|⟨p,xs,rfl,e,J⟩
  .exact⟨v,H',L,r,J⟩
  .obtain⟨o,U⟩:=L.freeze e;exact⟨.ref p,_,U,r,J o⟩
end
end L2
namespace L3
open PySem PySem.Spec PyProof.Rows L2
abbrev mf:=D->Gp->Prop
abbrev bb:=eV->Gp->mf->Prop
abbrev ou:=eV->Gp->(Bool->Gp->Prop)->Prop
abbrev lF:=eV->Gp->(List D->Gp->Prop)->Prop
structure Ends3 where
 nx:eV->Gp->Prop
 rt:mf
 bk:eV->Gp->Prop:=λ_ _=>False
 ct:eV->Gp->Prop:=λ_ _=>False
abbrev bH:=Ends3->eV->Gp->Prop
def tE(K:Pj)(G:Gp)(H:Hp)(I:mf)(Q:VK):Prop:=∀d G' v H',I d G'->Kp G H G' H'->RG K H' G'->RE K G H G' H' d v->Q v H'
def aB(K:Pj)(t:bb):TE:=λτ H Q=>∃σ G I,RS K H σ τ/\RG K H G/\t σ G I/\tE K G H I Q
def cY(K:Pj)(t:ou):TT:=λτ H Q=>∃σ G I,RS K H σ τ/\RG K H G/\t σ G I/\∀b G' H',I b G'->Kp G H G' H'->RG K H' G'->Q b H'
def dI(K:Pj)(t:lF):TA:=λτ H Q=>∃σ G I,RS K H σ τ/\RG K H G/\t σ G I/\∀ds G' vs H',I ds G'->Kp G H G' H'->RG K H' G'->RDs K H' ds vs->Q vs H'
structure EndsOk(K:Pj)(G:Gp)(H:Hp)(D3:Ends3)(D:Ends):Prop where
 nx:∀σ G' τ H',D3.nx σ G'->Kp G H G' H'->RG K H' G'->RS K H' σ τ->D.nx τ H'
 rt:tE K G H D3.rt D.rt
 bk:∀σ G' τ H',D3.bk σ G'->Kp G H G' H'->RG K H' G'->RS K H' σ τ->D.bk τ H'
 ct:∀σ G' τ H',D3.ct σ G'->Kp G H G' H'->RG K H' G'->RS K H' σ τ->D.ct τ H'
def bx(K:Pj)(t:bH):TS:=λD τ H=>∃σ G I,RS K H σ τ/\RG K H G/\t I σ G/\EndsOk K G H I D
theorem tE.base{K:Pj}{G G1:Gp}{H H1:Hp}{I:mf}{Q:VK}(f:tE K G H I Q)(k:Kp G H G1 H1):tE K G1 H1 I Q:=
 λd G' v H' q L J re=>f d G' v H' q (k.trans L) J (re.base k)
theorem EndsOk.base{K:Pj}{G G1:Gp}{H H1:Hp}{J:Ends3}{D:Ends}(f:EndsOk K G H J D)(k:Kp G H G1 H1):EndsOk K G1 H1 J D:=
 ⟨λσ G' τ H' q I=>f.nx σ G' τ H' q (k.trans I),f.rt.base k,λσ G' τ H' q I=>f.bk σ G' τ H' q (k.trans I),λσ G' τ H' q I=>f.ct σ G' τ H' q (k.trans I)⟩
def val:D->D
 | .fl ds=>.lst ds
 | d=>d
def va(K:Pj)(t:bb):TE:=λτ H Q=>∃σ G I,RS K H σ τ/\RG K H G/\t σ G I/\∀d G' v H',I d G'->Kp G H G' H'->RG K H' G'->RD K H' (val d) v->Q v H'
section
variable{X:Cx}{e:M7}{t:bb}
theorem EE{K:Pj}{G G':Gp}{H H':Hp}{p:MF}{o:HO}(k:Kp G H G' H')(f:Jv G H p):Kp G H G' (aV H' p o):=λa h e n=>by
 have:a≠p:=λz=>by subst z;exact f h e n
 exact⟨by rw[ao this];exact (k a h e n).1,(k a h e n).2⟩
theorem ED{K:Pj}{G':Gp}{H':Hp}{p:MF}{xs:List V}{o:Obj}(J:RG K H' G')(e:H' p=some (.lst xs))(n:G' p=none):RG K (aV H' p (.frz o (.lst xs))) G'/\Stb K H' (aV H' p (.frz o (.lst xs))):=by
 have st:Stb K H' (aV H' p (.frz o (.lst xs))):=by
  constructor
  .intro a ys q;rcases q with (q|⟨I,q⟩)|q
   .exact .inl (.inl (by rw[ao (λz=>by subst z;rw[e]at q;cases q)];exact q))
   .exact .inl (.inr ⟨I,by rw[ao (λz=>by subst z;rw[e]at q;cases q)];exact q⟩)
   .exact .inr q
  .intro a ys q;rcases q with ⟨I,q⟩|q
   .exact .inl ⟨I,by rw[ao (λz=>by subst z;rw[e]at q;cases q)];exact q⟩
   .exact .inr q
 refine⟨λa o' q=>?_,st⟩;obtain⟨h,L,r⟩:=J a o' q;exact⟨h,by rw[ao (λz=>by subst z;rw[n]at q;cases q)];exact L,r.mono st⟩
theorem dD(h:PE X e (aB X.K t)):PE X e (va X.K t):=(J7 h).imp λτ H Q U=>by
 obtain⟨σ,G,Q3,W,Y,Z,L⟩:=U;refine⟨σ,G,Q3,W,Y,Z,λd G' v H' q k I re=>?_⟩;cases d with
 | fl ds=>
  obtain⟨p,xs,rfl,O,e2,e3,e4⟩:=re.fl;refine .inr ⟨p,xs,rfl,O,λo=>?_⟩;obtain⟨J,st⟩:=ED (o:=o) I O e2;exact L _ G' _ _ q (EE (K:=X.K) k e4) J (rU (.inl ⟨o,aG⟩) (RDs.mono st _ _ e3))
 | _=>exact .inl (L _ G' v H' q k I (re.rd (by intro ds z;cases z)))
end
def cy:bH:=λD σ G=>D.nx σ G
def sSeq(t u:bH):bH:=λD σ G=>t { D with nx:=u D } σ G
section
variable{X:Cx}{st:Nd}{rest:List Nd}{t u:bH}{e:M7}{te:bb}{pos:Pos}
theorem cP:iO X [] (bx X.K cy):=FM.imp λD τ H I=>by
 obtain⟨σ,G,O,J,L,h,k⟩:=I;exact (
  k.nx σ G τ H h Kp.refl L J)
theorem am(h1:PS X st (bx X.K t))(h2:iO X rest (bx X.K u)):iO X (st::rest) (bx X.K (sSeq t u)):=(xN h1 h2).imp λD τ H W=>by
 obtain⟨σ,G,O,Y,Z,h,k⟩:=W;exact (
   ⟨σ,G,{ O with nx:=u O },Y,Z,h,⟨λI G' U H' q k' L J=>⟨I,G',O,J,L,q,k.base k'⟩,k.rt,k.bk,k.ct⟩⟩)
theorem aw(h1:PS X st (bx X.K t)):iO X [st] (bx X.K t):=vX h1
def em(te:bb):bH:=λD σ G=>te σ G λ_ G'=>D.nx σ G'
theorem dP(W:PE X e (aB X.K te))(hs:N7 e none pos.line X.env=pure false:=by rfl):PS X (.Expr e pos) (bx X.K (em te)):=(FO W hs).imp λD τ H U=>by
 obtain⟨σ,G,Y,J,L,h,k⟩:=U;exact (
   ⟨σ,G,λ_ G'=>Y.nx σ G',J,L,h,λd G' v H' q O I _=>k.nx σ G' τ H' q O I (J.mono (O.stb L))⟩)
def bg(te:bb):bH:=λD σ G=>te σ G D.rt
theorem aL(O:PE X e (aB X.K te)):PS X (.Return (some e) pos) (bx X.K (bg te)):=(DP O).imp λD τ H I=>by
 obtain⟨σ,G,U,J,L,h,k⟩:=I;exact (
  ⟨σ,G,U.rt,J,L,h,k.rt⟩)
def JS:bH:=λD _ G=>D.rt .non G
def HR:bH:=λD σ G=>D.bk σ G
def JT:bH:=λD σ G=>D.ct σ G
def kS(c:ou)(t u:bH):bH:=λD σ G=>c σ G λb G'=>if b=true then t D σ G' else u D σ G'
theorem fh{c:M7}{a b:List Nd}{tc:ou}(Y:PT X c (cY X.K tc))(ha:iO X a (bx X.K t))(Z:iO X b (bx X.K u)):PS X (.If c a b pos) (bx X.K (kS tc t u)):=
 (Hd Y ha Z).imp λD τ H W=>by
 obtain⟨σ,G,U,L,O,h,k⟩:=W;exact (
  ⟨σ,G,_,L,O,h,λb G' H' q J I=>by
    cases b with
    | true=>exact⟨σ,G',U,L.mono (J.stb O),I,q,k.base J⟩
    | false=>exact⟨σ,G',U,L.mono (J.stb O),I,q,k.base J⟩⟩)
def hV:bH:=λ_ _ _=>False
theorem kU:PS X st (bx X.K hV):=DR.imp λD τ H I=>by
 obtain⟨σ,G,O,J,L,h,k⟩:=I;exact (
  h)
theorem DG:iO X rest (bx X.K hV):=BO.imp λD τ H I=>by
 obtain⟨σ,G,O,J,L,h,k⟩:=I;exact (
  h)
def bQ(i:Nat)(te:bb):bH:=λD σ G=>te σ G λd G'=>D.nx (σ.set i (some (val d))) G'
theorem aZ{i:Nat}{x:Str}{pos':Pos}(hN:X.N.Nodup)(hi:X.N[i]?=some x)(W:Ju X.env.scope x)(Z:PE X e (aB X.K te))(hs:N7 e (some (.Name x pos')) pos.line X.env=pure false:=by rfl)
  (Y:X.fn x=true\/X.env.scope.names.lookup x=some .local:=by first|exact .inl rfl|exact .inr rfl|assumption):PS X (.Assign [.Name x pos'] e pos) (bx X.K (bQ i te)):=
 (DO hN hi W (dD Z) hs Y).imp λD τ H U=>by
 obtain⟨σ,G,D3,J,L,h,k⟩:=U;exact (
  ⟨σ,G,_,J,L,h,λd G' v H' q O I rd=>k.nx _ G' _ H' q O I ((J.mono (O.stb L)).set rd i)⟩)
def FC(i:Nat)(te:bb):bH:=λD σ G=>te σ G λd G'=>∃ds,d=.fl ds/\∀p,G' p=none->D.nx (σ.set i (some (.ref p))) (gset G' p (.lst ds))
theorem D9{K:Pj}{G:Gp}{H:Hp}{p:MF}{xs:List V}{ds:List D}(J:RG K H G)(e:H p=some (.lst xs))(r:RDs K H ds xs):RG K H (gset G p (.lst ds)):=λa o q=>by
 by_cases I:a=p
 .subst I;rw[av]at q;cases q;exact⟨_,e,r⟩
 .rw[ai I]at q;exact J a o q
theorem D_{G G':Gp}{H H':Hp}{p:MF}{o:GO}(k:Kp G H G' H')(f:Jv G H p):Kp G H (gset G' p o) H':=λa h e n=>by
 have:a≠p:=λz=>by subst z;exact f h e n
 exact⟨(k a h e n).1,by rw[ai this];exact (k a h e n).2⟩
theorem Hc{i:Nat}{x:Str}{pos':Pos}(hN:X.N.Nodup)(hi:X.N[i]?=some x)(W:Ju X.env.scope x)(Z:PE X e (aB X.K te))(hs:N7 e (some (.Name x pos')) pos.line X.env=pure false:=by rfl)
  (Y:X.fn x=true\/X.env.scope.names.lookup x=some .local:=by first|exact .inl rfl|exact .inr rfl|assumption):PS X (.Assign [.Name x pos'] e pos) (bx X.K (FC i te)):=
 (DO hN hi W Z hs Y).imp λD τ H U=>by
 obtain⟨σ,G,D3,J,L,h,k⟩:=U;exact (
  ⟨σ,G,_,J,L,h,λd G' v H' q O I re=>by
    obtain⟨ds,rfl,q⟩:=q;obtain⟨p,xs,rfl,e1,e2,e3,e4⟩:=re.fl;exact k.nx _ _ _ H' (q p e2) (D_ O e4) (D9 I e1 e3) ((J.mono (O.stb L)).set fV i)⟩)
def iU(i:Nat):bH:=λD σ G=>match σ[i]? with
 | some (some (.ref p))=>match G p with
  | some (.lst ds)=>D.rt (.fl ds) (fB G p)
  | _=>False
 | _=>False
theorem xJ{i:Nat}{x:Str}{pos':Pos}(hN:X.N[i]?=some x)(hv:Jr X.env.scope x)(hd:(x == ("__debug__":Str))=false:=by decide)(L:(x == ("__classdict__":Str))=false:=by decide):
  PS X (.Return (some (.Name x pos')) pos) (bx X.K (iU i)):=(DP (v_ hN hv hd L)).imp λD τ H Z=>by
 obtain⟨σ,G,D3,rs,W,h,k⟩:=Z;unfold iU at h;split at h
 .rename_i p hp;split at h
  .rename_i ds Y;obtain⟨v,e1,r⟩:=rs.get hp;simp only[RD]at r;subst r;obtain⟨ho,e2,U⟩:=W p _ Y;refine⟨_,e1,?_⟩;cases ho with
   | lst xs=>
    have J:RG X.K H (fB G p):=λa o q=>by
     by_cases O:a=p
     .subst O;rw[d_]at q;cases q
     .rw[ee O]at q;exact W a o q
    refine k.rt _ _ _ H h (λa O e n=>⟨e,?_⟩) J (.inl ⟨ds,p,xs,rfl,rfl,e2,d_,U,λh' _=>by rw[Y];exact λz=>nomatch z⟩)
    by_cases I:a=p
    .subst I;exact d_
    .rw[ee I];exact n
   | _=>exact U.elim
  .exact h.elim
 .exact h.elim
end
def ae(i:Nat):bb:=λσ G Q=>match σ[i]? with
 | some (some d)=>Q d G
 | _=>False
def eC(d:D):bb:=λ_ G Q=>Q d G
section
variable{X:Cx}{pos:Pos}{j:Nat}
theorem J_{i:Nat}{x:Str}(Y:X.N[i]?=some x)(U:Jr X.env.scope x)(hd:(x == ("__debug__":Str))=false:=by decide)(I:(x == ("__classdict__":Str))=false:=by decide):PE X (.Name x pos) (aB X.K (ae i)):=
 (v_ Y U hd I).imp λτ H Q J=>by
  obtain⟨σ,G,Q3,L,O,h,k⟩:=J;unfold ae at h;split at h
  .rename_i d W;obtain⟨v,Z,r⟩:=L.get W;exact⟨v,Z,k d G v H h Kp.refl O (.of r)⟩
  .exact h.elim
theorem aq(i:Nat){x:Str}(L:X.N[i]?=some x:=by rfl)(J:Jr X.env.scope x:=by first|exact Or.inl rfl|exact Or.inr (Or.inl rfl)|exact Or.inr (Or.inr rfl))(hd:(x == ("__debug__":Str))=false:=by decide)
  (I:(x == ("__classdict__":Str))=false:=by decide):PE X (.Name x pos) (aB X.K (ae i)):=J_ L J hd I
theorem Kc{e:M7}{d:D}{v:V}(h:PE X e (tC v))(r:∀H,RD X.K H d v):PE X e (aB X.K (eC d)):=h.imp λτ H Q I=>by
 obtain⟨σ,G,O,L,J,hq,k⟩:=I;exact (
  k d G v H hq Kp.refl J (.of (r H)))
theorem az{i:Int}:PE X (.Constant (.int i) j pos) (aB X.K (eC (.int i))):=Kc Im λ_=>dC
theorem wn{b:Bool}:PE X (.Constant (.bool b) j pos) (aB X.K (eC (.bl b))):=Kc J8 λ_=>f_
theorem D7:PE X (.Constant .none j pos) (aB X.K (eC .non)):=Kc Ik λ_=>vW
theorem fk{x:Str}:PE X (.Constant (.str x) j pos) (aB X.K (eC (.str x))):=Kc Ii λ_=>iX
end
abbrev R3:=D->D->Gp->mf->Prop
def dE(K:Pj)(r3:R3):R2:=λv u H Q=>∃x y J H0 G I,RE K J H0 G H x v/\RE K J H0 G H y u/\RG K H G/\r3 x y G I/\tE K G H I Q
def cz(r:R3)(ta tb:bb):bb:=λσ G Q=>ta σ G λx G1=>tb σ G1 λy G2=>r x y G2 Q
section
variable{X:Cx}{a b c:M7}{ta tb tc:bb}{pos:Pos}{r r':R3}
theorem two{K:Pj}{r2:R2}{Q:VK}{τ:St}{H:Hp}(Z:r2=dE K r)(h:aB K (cz r ta tb) τ H Q):Jy r2 (aB K ta) (aB K tb) τ H Q:=by
 subst Z;obtain⟨σ,G,U,W,Y,h,k⟩:=h;refine⟨σ,G,λx G1=>tb σ G1 λy G2=>r x y G2 U,W,Y,h,λx G1 v H1 h1 k1 I O=>⟨σ,G1,λy G2=>r x y G2 U,W.mono (k1.stb Y),I,h1,λy G2 u H2 h2 k2 J L=>?_⟩⟩;exact⟨x,y,G,H,G2,U,O.wait k2 I,L.base k1,J,h2,k.base (k1.trans k2)⟩
theorem cr{op:Operator}(ho:gM X (Oa op) (dE X.K r))(J:PE X a (aB X.K ta))(I:PE X b (aB X.K tb)):PE X (.BinOp a op b pos) (aB X.K (cz r ta tb)):=
 (J5 ho J I).imp λ_ _ _ h=>two rfl h
def cW(t:bb):ou:=λσ G Q=>t σ G λd G'=>match d with
 | .bl b=>Q b G'
 | _=>False
theorem vG{K:Pj}{t:bb}{τ:St}{H:Hp}{Q:Bool->Hp->Prop}(h:cY K (cW t) τ H Q):Db (aB K t) τ H Q:=by
 obtain⟨σ,G,U,J,L,h,k⟩:=h;refine⟨σ,G,_,J,L,h,λd G' v H' q O I re=>?_⟩;cases d with
 | bl b=>exact⟨b,re.bl,k b G' H' q O I⟩
 | _=>exact q.elim
theorem D6{op:PP}(ho:gM X (Nq op) (dE X.K r))(L:PE X a (aB X.K ta))(J:PE X b (aB X.K tb))(I:NN op b=false):PT X (.Compare a [op] [b] pos) (cY X.K (cW (cz r ta tb))):=
 (A1 ho L J I).imp λ_ _ _ h=>two rfl (vG h)
def jd(r r':R3)(ta tb tc:bb):bb:=λσ G Q=>ta σ G λx G1=>tb σ G1 λy G2=>r x y G2 λz I=>match z with
 | .bl k=>if k=true then tc σ I λw J=>r' y w J Q else Q (.bl false) I
 | _=>False
theorem KA{K:Pj}{Q:VK}{τ:St}{H:Hp}(h:aB K (jd r r' ta tb tc) τ H Q):Df (dE K r) (dE K r') (aB K ta) (aB K tb) (aB K tc) τ H Q:=by
 obtain⟨σ,G,Q3,W,Z,h,k⟩:=h;refine⟨σ,G,_,W,Z,h,λx G1 v H1 h1 k1 O re1=>⟨σ,G1,_,W.mono (k1.stb Z),O,h1,λy G2 u H2 h2 k2 L U=>?_⟩⟩;refine⟨x,y,G,H,G2,_,re1.wait k2 O,U.base k1,L,h2,λz G3 w H3 h3 k3 J re3=>?_⟩;have I:=k1.trans (k2.trans k3);cases z with
 | bl kk=>
  refine⟨kk,re3.bl,?_⟩;cases kk with
  | true=>
   refine iteT ?_;refine⟨σ,G3,_,W.mono (I.stb Z),J,h3,λw' G4 w4 H4 h4 k4 Y re4=>?_⟩;exact⟨y,w',G,H,G4,Q3,(U.base k1).wait (k3.trans k4) L,re4.base I,Y,h4,k.base (I.trans k4)⟩
  | false=>exact iteF (k _ G3 _ H3 h3 I J (.of f_))
 | _=>exact h3.elim
theorem iE{op I:PP}(ho:gM X (Nq op) (dE X.K r))(L:gM X (Nq I) (dE X.K r'))(ha:PE X a (aB X.K ta))(hb:PE X b (aB X.K tb))(Z:PE X c (aB X.K tc))
  (Y:lastMarks [op,I] [b,c]=false:=by with_unfolding_all rfl):PT X (.Compare a [op,I] [b,c] pos) (cY X.K (cW (jd r r' ta tb tc))):=
 (DM ho L ha hb Z Y).imp λτ H Q h=>by
  obtain⟨σ,G,Q3,O,U,h,k⟩:=h;refine KA (Q:=λx H'=>∃k,x=.bl k/\Q k H') ⟨σ,G,_,O,U,h,λd G' v H' q W J re=>?_⟩;cases d with
  | bl b=>exact⟨b,re.bl,k b G' H' q W J⟩
  | _=>exact q.elim
def JN(t u:ou):ou:=λσ G Q=>t σ G λc G1=>if c=true then u σ G1 Q else Q false G1
def zA(t u:ou):ou:=λσ G Q=>t σ G λc G1=>if c=true then Q true G1 else u σ G1 Q
def lH(t:ou):ou:=λσ G Q=>t σ G λc G1=>Q (!c) G1
variable{tA tB:ou}{es:List M7}
theorem CY(I:PT X a (cY X.K tA)):PW X (.BoolOp .Or [a] pos) (cY X.K tA):=HZ I
theorem HB(ha:PT X a (cY X.K tA))(Z:PW X (.BoolOp .Or (b::es) pos) (cY X.K tB)):PW X (.BoolOp .Or (a::b::es) pos) (cY X.K (zA tA tB)):=(pw_or ha Z).imp λτ H Q U=>by
 obtain⟨σ,G,Q3,L,O,h,k⟩:=U;exact (
   ⟨σ,G,_,L,O,h,λc G1 H1 q k1 I=>by
    cases c with
    | false=>exact iteF ⟨σ,G1,Q3,L.mono (k1.stb O),I,q,λb' G' H' W Y J=>k b' G' H' W (k1.trans Y) J⟩
    | true=>exact iteT (k true G1 H1 q k1 I)⟩)
theorem j_(U:PT X a (cY X.K tA)):PT X (.UnaryOp .Not a pos) (cY X.K (lH tA)):=(Ia U).imp λτ H Q J=>by
 obtain⟨σ,G,W,L,O,h,k⟩:=J;exact (
  ⟨σ,G,_,L,O,h,λc G1 H1 q k1 I=>k (!c) G1 H1 q k1 I⟩)
def IZ(ta tb:bb):bb:=λσ G Q=>ta σ G λx G1=>match x with
 | .bl c=>if c=true then tb σ G1 Q else Q (.bl false) G1
 | _=>False
def Mv(ta tb:bb):bb:=λσ G Q=>ta σ G λx G1=>match x with
 | .bl c=>if c=true then Q (.bl true) G1 else tb σ G1 Q
 | _=>False
theorem Ka{op}(h:PE X a (aB X.K ta)):PE X (.BoolOp op [a] pos) (aB X.K ta):=Ij h
theorem Kd(W:PE X a (aB X.K ta))(U:PE X (.BoolOp .And (b::es) pos) (aB X.K tb)):PE X (.BoolOp .And (a::b::es) pos) (aB X.K (IZ ta tb)):=(Ip W U).imp λτ H Q O=>by
 obtain⟨σ,G,Y,J,L,h,k⟩:=O;exact (
   ⟨σ,G,_,J,L,h,λx G1 v H1 q k1 I re=>by
    cases x with
    | bl c=>
     refine⟨c,re.bl,?_⟩;cases c with
     | true=>exact iteT ⟨σ,G1,Y,J.mono (k1.stb L),I,q,k.base k1⟩
     | false=>exact iteF (k _ G1 _ H1 q k1 I (.of f_))
    | _=>exact q.elim⟩)
def Ku(ta:bb):bb:=λσ G Q=>ta σ G λx G1=>match x with
 | .bl c=>Q (.bl (!c)) G1
 | _=>False
def Mw(c:ou)(ta tb:bb):bb:=λσ G Q=>c σ G λb G1=>if b=true then ta σ G1 Q else tb σ G1 Q
def HE(G:Gp):D->Option Bool
 | .non=>some false
 | .bl b=>some b
 | .int i=>some (i != 0)
 | .str y=>some ((y.length:Int) != 0)
 | d=>(Fa G d).map λds=>!ds.isEmpty
def qu(t:bb):ou:=λσ G Q=>t σ G λd G'=>match HE G' d with
 | some b=>(match d with|.str y=>y.length<=MN|_=>True)/\Q b G'
 | none=>False
theorem fQ(Z:PE X a (aB X.K ta))(Y:∀whole,Rj a X.env whole=(do let v <- whole;O9 a.pos;holding [v] (truthy v)):=by intro _;rfl):PT X a (cY X.K (qu ta)):=
 (DK Z Y).imp λτ H Q O=>by
 obtain⟨σ,G,Q3,U,W,h,k⟩:=O;exact (
  ⟨σ,G,_,U,W,h,λd G' v H' q J I re=>by
    cases d with
    | non=>rw[re.non];exact⟨false,rfl,k _ G' H' q.2 J I⟩
    | bl b=>rw[re.bl];exact⟨b,rfl,k _ G' H' q.2 J I⟩
    | int i=>rw[re.int];exact⟨_,rfl,k _ G' H' q.2 J I⟩
    | str y=>rw[re.str];exact⟨_,⟨q.1,rfl⟩,k _ G' H' q.2 J I⟩
    | ty n=>exact q.elim
    | _=>
     split at q
     .rename_i b L;simp only[HE,Option.map_eq_some_iff]at L;obtain⟨ds,hq,rfl⟩:=L;obtain⟨a,xs,rfl,s,r⟩:=tu hq re I;have el:(!ds.isEmpty)=!xs.isEmpty:=by
       have:=r.length;cases ds<;>cases xs<;>simp_all
      refine⟨!xs.isEmpty,?_,k _ G' H' (by rw[<- el];exact q.2) J I⟩
      rcases s with s|s
      .exact .inl ⟨xs,s,rfl⟩
      .exact .inr (.inl ⟨xs,s,rfl⟩)
     .exact q.elim⟩)
end
end L3
namespace L2
open PySem PySem.Spec PyProof.Rows
section
variable{X:Cx}
def JZ(K:Pj):R2:=λx y H Q=>∃l b xs zs,x=.ref l/\y=.ref b/\ij K H l xs/\ij K H b zs/\xs.length+zs.length<=MN/\∀p,H p=none->Q (.ref p) (aV H p (.lst (xs ++ zs)))
theorem F8:gM X (Oa .Add) (JZ X.K):=by
 intro pins s σ H x y v u Q I rx ry h;obtain⟨l,b,xs,zs,rfl,rfl,hH,hB,hz,q⟩:=h;cases rx;cases ry;obtain⟨L,r,pl,z⟩:=I.list hH;obtain⟨J,r2,Z,z2⟩:=I.list hB;obtain⟨⟨cls,dd,data,sl⟩,ho,hc,n,hd⟩:=pl.isList;obtain⟨⟨cls2,dd2,data2,Y⟩,O,W,n2,U⟩:=Z.isList;simp only at hc hd W U;subst hc hd W U;have hl:=r.length;have hl2:=r2.length;have e:L.toArray ++ J.toArray=(L ++ J).toArray:=by simp
 refine Rl ⟨_,ho,rfl⟩ ⟨_,O,rfl⟩ noFill_list_add seq_list_add PySem.F.slot_list_add PySem.F.entry_list_add (PySem.F.args_list_add_2 _ _) (list_addW l b L.toArray J.toArray n n2 dd dd2 sl Y (by simp only[M1];omega)) ⟨ho,O,?_⟩
 rw[e];exact⟨.ref _,_,I.lnew (t':=s.toks) (r.append r2) (by rw[Nt];omega),rfl,q _ I.fresh⟩
end
end L2
namespace L3
open PySem PySem.Spec PyProof.Rows L2
section
variable{X:Cx}
def fW:R3:=λx y G Q=>match x,y with
 | .int i,.int j=>Q (.int (i+j)) G
 | .str i,.str j=>i.length+j.length<=MN/\Q (.str (i ++ j)) G
 | .tup xs,.tup ys=>xs≠[]/\xs.length+ys.length<=MN/\Q (.tup (xs ++ ys)) G
 | x,y=>match w_ G x,w_ G y with
  | some xs,some ys=>xs.length+ys.length<=MN/\Q (.fl (xs ++ ys)) G
  | _,_=>False
theorem eg:gM X (Oa .Add) (dE X.K fW):=by
 refine ((Iz (X:=X)).or ((z0 (X:=X)).or ((F7 (X:=X)).or (F8 (X:=X))))).imp λv u H Q zz=>?_;obtain⟨x,y,G0,H0,G,Q3,rx,O,I,h,k⟩:=zz;unfold fW at h;split at h
 .rename_i i j;exact .inl ⟨i,j,rx.int,O.int,k _ G _ H h Kp.refl I (.of dC)⟩
 .rename_i i j;exact .inr (.inl ⟨i,j,rx.str,O.str,h.1,k _ G _ H h.2 Kp.refl I (.of iX)⟩)
 .rename_i ds es;obtain⟨a,xs,rfl,s1,L⟩:=rx.tup;obtain⟨b,ys,rfl,U,r2⟩:=O.tup;have Y:=L.length;have W:=r2.length;refine .inr (.inr (.inl ⟨a,b,xs,ys,rfl,rfl,s1,U,λz=>h.1 ?_,by have:=h.2.1;omega,λz=>?_,λ_ p J=>?_⟩))
  .subst z;exact List.length_eq_zero_iff.mp Y
  .subst z;have:es=[]:=List.length_eq_zero_iff.mp W;subst this;have Z:=h.2.2;rw[Ng]at Z;exact k _ G _ H Z Kp.refl I (.of (oZ s1 L))
  .exact k _ G _ _ h.2.2 (Kp.laid J) (I.laid J) (.of (kQ I J (L.append r2)))
 .split at h
  .rename_i ds es hx hy;obtain⟨a,xs,rfl,s1,L⟩:=kL hx rx I;obtain⟨b,ys,rfl,U,r2⟩:=kL hy O I;have Y:=L.length;have W:=r2.length;exact .inr (.inr (.inr ⟨a,b,xs,ys,rfl,rfl,s1,U,by have:=h.1;omega,λp J=>k _ G _ _ h.2 (Kp.laid J) (I.laid J) (wK I J (L.append r2))⟩))
  .exact h.elim
def oI(C:Int->Int->Prop)(g:Int->Int->D):R3:=λx y G Q=>match x,y with
 | .int i,.int j=>C i j/\Q (g i j) G
 | _,_=>False
def Hg(g:Int->Int->D):R3:=λx y G Q=>match x,y with
 | .int i,.int j=>Q (g i j) G
 | _,_=>False
theorem L9{f:MC->MC->Sem MC}{C:Int->Int->Prop}{g:Int->Int->V}{g3:Int->Int->D}(h:gM X f (rI C g))(r:∀i j H,RD X.K H (g3 i j) (g i j)):gM X f (dE X.K (oI C g3)):=
 h.imp λv u H Q I=>by
  obtain⟨x,y,U,H0,G,O,rx,J,L,h,k⟩:=I;unfold oI at h;split at h
  .rename_i i j;exact⟨i,j,rx.int,J.int,h.1,k _ G _ H h.2 Kp.refl L (.of (r i j H))⟩
  .exact h.elim
theorem HA{f:MC->MC->Sem MC}{g:Int->Int->V}{g3:Int->Int->D}(h:gM X f (HV g))(r:∀i j H,RD X.K H (g3 i j) (g i j)):gM X f (dE X.K (Hg g3)):=
 h.imp λv u H Q I=>by
  obtain⟨x,y,U,H0,G,O,rx,J,L,h,k⟩:=I;unfold Hg at h;split at h
  .rename_i i j;exact⟨i,j,rx.int,J.int,k _ G _ H h Kp.refl L (.of (r i j H))⟩
  .exact h.elim
def Aa:R3:=Hg λi j=>.int (i - j)
theorem xn:gM X (Oa .Sub) (dE X.K Aa):=HA Iw λ_ _ _=>dC
def kh:R3:=oI (λ_ j=>0 < j) λi j=>.int (i % j)
theorem gu:gM X (Oa .Mod) (dE X.K kh):=L9 Iy λ_ _ _=>dC
def Gb:R3:=oI K8 λi j=>.int (i / j)
theorem GY:gM X (Oa .FloorDiv) (dE X.K Gb):=L9 F6 λ_ _ _=>dC
def LB:R3:=oI L8 λi j=>.int (i ^ j.toNat)
def IB:R3:=Hg λi j=>.bl (decide (i < j))
theorem CS:gM X (Nq .Lt) (dE X.K IB):=HA Ke λ_ _ _=>f_
def Ga:R3:=Hg λi j=>.bl (decide (i<=j))
theorem zp:gM X (Nq .LtE) (dE X.K Ga):=HA Kf λ_ _ _=>f_
def Mc:R3:=Hg λi j=>.bl (decide (j < i))
def Mq:R3:=Hg λi j=>.bl (decide (j<=i))
def au:lF:=λ_ G Q=>Q [] G
def af(ta:bb)(I:lF):lF:=λσ G Q=>ta σ G λx G1=>I σ G1 λxs G2=>Q (val x::xs) G2
variable{e:M7}{es:List M7}{te:bb}{t:lF}{pos:Pos}
theorem al:PA X [] (dI X.K au):=Iq.imp λτ H Q I=>by
 obtain⟨σ,G,O,L,J,h,k⟩:=I;exact (
  k [] G [] H h Kp.refl J RDs.nil)
theorem aa(ha:PE X e (aB X.K te))(Z:PA X es (dI X.K t))(hs:MP (e::es) X.env=(false,eval e X.env)::MP es X.env:=by rfl):PA X (e::es) (dI X.K (af te t)):=
 (FZ (dD ha) Z hs).imp λτ H Q W=>by
 obtain⟨σ,G,Q3,O,U,h,k⟩:=W;exact (
  ⟨σ,G,_,O,U,h,λx G1 v H1 q k1 I rd=>⟨σ,G1,_,O.mono (k1.stb U),I,q,λds G2 vs H2 Y k2 J L=>
    k _ G2 _ H2 Y (k1.trans k2) J (RDs.cons (RD.mono (k2.stb I) _ _ rd) L)⟩⟩)
def iJ(t:lF):bb:=λσ G Q=>t σ G λds G1=>ds.length<=MN/\Q (.tup ds) G1
def At(t:lF):bb:=λσ G Q=>t σ G λds G1=>ds.length<=MN/\Q (.fl ds) G1
theorem fj{U}(h:PA X es (dI X.K t)):PE X (.Tuple es U pos) (aB X.K (iJ t)):=(Ih h).imp λτ H Q O=>by
 obtain⟨σ,G,Z,W,Y,h,k⟩:=O;exact (
  ⟨σ,G,_,W,Y,h,λds G1 vs H1 q k1 I J=>
   ⟨by rw[<- J.length];exact q.1,λp L=>k _ G1 _ _ q.2 (k1.trans (Kp.laid L)) (I.laid L) (.of (kQ I L J))⟩⟩)
theorem xR(h:PA X es (dI X.K t)):PE X (.List es pos) (aB X.K (At t)):=(Il h).imp λτ H Q O=>by
 obtain⟨σ,G,Y,U,W,h,k⟩:=O;exact (
  ⟨σ,G,_,U,W,h,λds G1 vs H1 q k1 I J=>
   ⟨by rw[<- J.length];exact q.1,λp L=>k _ G1 _ _ q.2 (k1.trans (Kp.laid L)) (I.laid L) ((wK I L J).base k1)⟩⟩)
def strAt(x:Str)(i:Int):Option D:=(lD x.cps.toList i).map λc=>.str ⟨#[c]⟩
def i0:R3:=λx y G Q=>match x,y with
 | .str z,.int i=>z.length<=MN/\match strAt z i with
  | some d=>Q d G
  | none=>False
 | x,.int i=>match Fa G x with
  | some ds=>match lD ds i with
   | some d=>Q d G
   | none=>False
  | none=>False
 | _,_=>False
theorem GK{K:Pj}{H:Hp}{ds:List D}{xs:List V}{i:Int}{d:D}(r:RDs K H ds xs)(h:lD ds i=some d):∃v,lD xs i=some v/\RD K H d v:=by
 unfold lD at h ⊢;rw[<- r.length];cases e:Gt ds.length i with
 | none=>rw[e]at h;cases h
 | some j=>
  rw[e]at h;exact r.get h
theorem Lc:CF X (dE X.K i0):=(IQ (X:=X)).imp λv u H Q L=>by
 obtain⟨x,y,W,H0,G,U,rx,I,J,h,k⟩:=L;unfold i0 at h;split at h
 .rename_i z i;obtain⟨h1,h2⟩:=h;split at h2
  .rename_i d hd;unfold strAt at hd;rw[Option.map_eq_some_iff]at hd;obtain⟨c,O,rfl⟩:=hd;exact .inr (.inr ⟨z,i,c,rx.str,I.int,h1,O,k _ G _ H h2 Kp.refl J (.of iX)⟩)
  .exact h2.elim
 .rename_i i _;split at h
  .rename_i ds hds;split at h
   .rename_i d hd;obtain⟨a,xs,rfl,s,r⟩:=tu hds rx J;obtain⟨w,hw,rd⟩:=GK r hd;have fin:=k _ G _ H h Kp.refl J (.of rd);rcases s with s|s
    .exact .inl ⟨a,xs,i,w,rfl,I.int,s,hw,fin⟩
    .exact .inr (.inl ⟨a,xs,i,w,rfl,I.int,s,hw,fin⟩)
   .exact h.elim
  .exact h.elim
 .exact h.elim
variable{a b:M7}{ta tb:bb}
theorem d8(J:PE X a (aB X.K ta))(I:PE X b (aB X.K tb))(hs:Bs b:=by exact λ_ _=>rfl):PE X (.Subscript a b pos) (aB X.K (cz i0 ta tb)):=(J6 Lc J I hs).imp λ_ _ _ h=>two rfl h
abbrev Js:=eV->Gp->(Option Int->Gp->Prop)->Prop
def Ba(K:Pj)(t:Js):TO:=λτ H Q=>∃σ G I,RS K H σ τ/\RG K H G/\t σ G I/\∀o G' H',I o G'->Kp G H G' H'->RG K H' G'->Q o H'
theorem PO.imp{e:Option M7}{t t':TO}(h:PO X e t)(i:∀σ H Q,t' σ H Q->t σ H Q):PO X e t':=λpins s σ H Q I q=>h pins s σ H Q I (i σ H Q q)
def Hf:Js:=λ_ G Q=>Q none G
def jw(t:bb):Js:=λσ G Q=>t σ G λx G1=>match x with
 | .int i=>Q (some i) G1
 | _=>False
theorem o8:PO X none (Ba X.K Hf):=PO.imp FR λτ H Q I=>by
 obtain⟨σ,G,O,L,J,h,k⟩:=I;exact (
  k none G H h Kp.refl J)
theorem h8(h:PE X e (aB X.K te)):PO X (some e) (Ba X.K (jw te)):=PO.imp (FQ h) λτ H Q ⟨σ,G,O,J,L,h,k⟩=>⟨σ,G,_,J,L,h,λd G1 v H1 q k1 I re=>by
 cases d with
 | int i=>exact⟨i,re.int,k _ G1 H1 q k1 I⟩
 | _=>exact q.elim⟩
abbrev K0:=D->Option Int->Option Int->Gp->mf->Prop
def Ek(K:Pj)(r:K0):V->Option Int->Option Int->Hp->VK->Prop:=λv lo hi H Q=>∃x J H0 G I,RE K J H0 G H x v/\RG K H G/\r x lo hi G I/\tE K G H I Q
def E_(r:K0)(te:bb)(tl th:Js):bb:=λσ G Q=>te σ G λx G1=>tl σ G1 λl G2=>th σ G2 λu I=>r x l u I Q
theorem gW{r:K0}{lo hi:Option M7}{tl th:Js}{p2:Pos}(hr:CA X (Ek X.K r))(he:PE X e (aB X.K te))(hl:PO X lo (Ba X.K tl))(hu:PO X hi (Ba X.K th)):PE X (.Subscript e (.Slice lo hi none p2) pos) (aB X.K (E_ r te tl th)):=
 (DW hr he hl hu).imp λτ H Q W=>by
 obtain⟨σ,G,Q3,J,U,h,k⟩:=W;exact (
  ⟨σ,G,_,J,U,h,λx G1 v H1 q1 k1 I re=>⟨σ,G1,_,J.mono (k1.stb U),I,q1,λl G2 H2 Z k2 O=>
    ⟨σ,G2,_,J.mono ((k1.trans k2).stb U),O,Z,λu G3 H3 Y k3 L=>⟨x,G,H,G3,Q3,re.wait (k2.trans k3) I,L,Y,k.base (k1.trans (k2.trans k3))⟩⟩⟩⟩)
def cutD(ds:List D)(lo hi:Option Int):List D:=(ds.drop (HT.sIx ds.length 0 lo)).take (HT.sIx ds.length ds.length hi - HT.sIx ds.length 0 lo)
theorem Bj{K:Pj}{H:Hp}{ds:List D}{xs:List V}(r:RDs K H ds xs)(lo hi:Option Int):RDs K H (cutD ds lo hi) (Cp xs lo hi):=by
 unfold cutD Cp;rw[r.length];exact (r.drop _).take _
end
end L3
namespace L2
open PySem PySem.Spec PyProof.Rows
def L5(xs:List V):It:=⟨λi _=>i < xs.length,λi H x H'=>H'=H/\xs[i]?=some x,λi _=>i=xs.length⟩
noncomputable def db(x:Str):List V:=x.cps.toList.map λc=>V.str ⟨#[c]⟩
theorem lJ(x:Str):(db x).length=x.cps.size:=by simp[db]
theorem C5{P:MR}{w:M4}{K:Pj}{tg:M7}(it:MF)(x:Str)(t:Tok)(ty:String)(J:ty="str_ascii_iterator"\/ty="str_iterator"):
  Turn P w K tg (L5 (db x)) [it] it (λi h=>h.IsStrIter it ty x t i) where
 mem:=by simp
 obj:=λi h st b L=>by
  have e:b=it:=by simpa using L
  subst e;obtain⟨o,e,c,d⟩:=st;exact⟨o,e,λv z=>by rw[d]at z;cases z⟩
 keep:=λi h h' st k=>let ⟨o,ho,r⟩:=st;⟨o,k it (by simp) o ho,r⟩
 item:=by
  intro X Z hw hK i pins s σ H E I U st W;subst Z hw hK;obtain⟨f0,f1,f2,f3,f4,f5⟩:=U it (by simp)
  refine C3 J (by have:i < (db x).length:=W;rw[lJ]at this;exact this) st λv h' tk hv O kk=>?_
  obtain⟨c,u,Y,rfl⟩:=hv;have I1:Inv X pins σ H { s with heap:=h',toks:=tk }:=I.turned (λb o L e=>kk b o (by simpa using L) e) f0 f1 f3 f4 f5
  obtain⟨o,e,c1,d⟩:=id O;refine⟨_,rfl,yK (s:={ s with heap:=h',toks:=tk }) e c1 d (by rcases J with rfl|rfl<;>decide) ⟨.str ⟨#[c]⟩,H,I1,⟨u,rfl⟩,⟨rfl,?_⟩,O,λb L=>(U b L).1⟩⟩
  simp only[db,MZ,Array.getElem?_toList,Y,Option.map_some]
 done:=by
  intro X Z hw hK i pins s σ H E I U st W;subst Z hw hK;obtain⟨f0,f1,f2,f3,f4,f5⟩:=U it (by simp)
  have e:i=x.cps.size:=by have:i=(db x).length:=W;rw[lJ]at this;exact this
  subst e;exact Fo J I.hds st (by simp) λh' eb=>⟨rfl,I.turned (t':=s.toks) (λb o L e=>eb b o L e) f0 f1 f3 f4 f5⟩
 self:=λA i s Q E st h=>by
  rcases J with rfl|rfl
  .exact wpAny_pyIter_striter_ascii st h
  .exact wpAny_pyIter_striter_wide st h
section
variable{X:Cx}{tg:M7}
theorem Az{env:Env}:∀(names:List (Str×Pi)) (sc:OU),sc.names=names->(∀x∈names,x.2=.free->∃c,env.cells.lookup x.1=some c)->
  ∃cl,R0 sc env=pure cl/\(∀x c,cl.lookup x=some c->env.cells.lookup x=some c)/\(∀x∈names,x.2=.free->∃c,cl.lookup x.1=some c):=by
 have loop:∀(names:List (Str×Pi)) (J:List (Str×MF)),(∀x∈names,x.2=.free->∃c,env.cells.lookup x.1=some c)->(∀x c,J.lookup x=some c->env.cells.lookup x=some c)->
   ∃cl,(forIn names J λ(x:Str×Pi) (r:List (Str×MF))=>(match x with
    | (name,kind)=>if (kind == NameKind.free)=true then (do let a <- cellOf env name;pure (ForInStep.yield ((name,a)::r)))else pure (ForInStep.yield r):Sem (ForInStep (List (Str×MF)))))=(pure cl:Sem (List (Str×MF)))/\
    (∀x c,cl.lookup x=some c->env.cells.lookup x=some c)/\(∀x,(∃c,J.lookup x=some c)->∃c,cl.lookup x=some c)/\(∀x∈names,x.2=.free->∃c,cl.lookup x.1=some c):=by
  intro names
  induction names with
  | nil=>intro J _ h2;exact⟨J,rfl,h2,λ_ z=>z,λ_ z=>nomatch z⟩
  | cons y r ih=>
   obtain⟨name,kind⟩:=y;intro J h1 h2;cases O:(kind == NameKind.free) with
   | false=>
    obtain⟨cl,e,a,b,c⟩:=ih J (λx I=>h1 x (MQ _ I)) h2;refine⟨cl,?_,a,b,λx I U=>?_⟩
    .rw[Qk];simp only[O,Bool.false_eq_true,if_false];exact e
    .rcases NC.mp I with rfl|I
     .rw[show kind=NameKind.free from U]at O;cases O
     .exact c x I U
   | true=>
    have Y:kind=NameKind.free:=by simpa using O
    obtain⟨ca,Z⟩:=h1 (name,kind) MW Y;have TJ:env.cells.lookup name=some ca:=Z;have nx:∀x c,((name,ca)::J).lookup x=some c->env.cells.lookup x=some c:=λx c I=>by
     rw[Of]at I;split at I
     .rename_i hb;have:x=name:=by simpa using hb
      cases I;rw[this];exact TJ
     .exact h2 x c I
    obtain⟨cl,e,a,b,c⟩:=ih ((name,ca)::J) (λx I=>h1 x (MQ _ I)) nx;refine⟨cl,?_,a,λx ⟨c',I⟩=>?_,λx I U=>?_⟩
    .rw[Qk];simp only[O,if_true];unfold cellOf;rw[TJ];exact e
    .by_cases L:x=name
     .exact b x ⟨ca,by rw[Of,L,beq_self_eq_true]⟩
     .exact b x ⟨c',by rw[Of,show (x == name)=false by simpa using L];exact I⟩
    .rcases NC.mp I with rfl|I
     .exact b name ⟨ca,by rw[Of,beq_self_eq_true]⟩
     .exact c x I U
 intro names sc W h;subst W;obtain⟨cl,e,a,_,c⟩:=loop sc.names [] h (λx c z=>by simp at z)
 refine⟨cl,?_,a,c⟩;unfold R0;show (forIn sc.names [] _ >>= λr=>pure r)=_
 refine Eq.trans ?_ (congrArg (λm=>m >>= λr=>(pure r:Sem (List (Str×MF)))) e);rfl
def bD(X:Cx)(I:List Str)(scope:OU)(cl:List (Str×MF))(C:MF)(s₀:MD)(H₀:Hp)(fp:List MF):Cx:=
 { X with N:=I,s₀:=s₀,H₀:=H₀,env:=compEnvC scope cl C X.env,outer:=X.stack,ex:=fp,fn:=λ_=>false,xe:=λ_ _=>False }
end
section
variable{prog:MR}{w:M4}{A:MS}{R:PK->MD->Prop}{s:MD}
theorem kI{elt target iter:M7}{ifs:List M7}{scope:OU}{pos:Pos}{it acc:MC}{env:Env}(J:Nat->MD->Prop)
  (turn:∀n s,J n s->MJ (MK prog w) A (NT it) (λr O=>match r with
   | none=>R (.ok .next) O
   | some v=>MJ (MK prog w) A (O5 target it v) (λ_ L=>MJ (MK prog w) A (assign target env v) (λ_ Y=>
     MJ (MK prog w) A (forIn ifs true λc r=>if r=true then do let ok <- Rj c env (eval c env);pure (ForInStep.yield ok)else pure (ForInStep.yield r)) (λok I=>
      if ok=true then MJ (MK prog w) A (eval elt env) (λx W=>
       MJ (MK prog w) A (call (.builtin "list.append") [acc,x]) (λ_ U=>∃m,m < n/\J m U) (λ_ _=>False) W) (λ_ _=>False) I
      else ∃m,m < n/\J m I) (λ_ _=>False) Y) (λ_ _=>False) L) (λ_ _=>False) O) (λ_ _=>False) s)
  (n:Nat) (h:J n s):N4 (MK prog w) A (.compLoop (.ListComp elt [⟨target,iter,ifs,0⟩] scope pos) 0 it acc env) R s:=by
 refine codeAny_loop rfl J (λn s hI=>?_) n h;refine wpAny_noted ?_;refine MB (OI (MB (Nf (turn n s hI) (λr O h₁=>?_) λ_ _ h'=>h'.elim)));cases r with
 | none=>exact MG h₁
 | some v=>
  refine MB (Nf h₁ (λ_ L h₁'=>?_) λ_ _ h'=>h'.elim);refine MB (Nf h₁' (λ_ Y h₂=>MB (Nf h₂ (λok I Z=>?_) λ_ _ h'=>h'.elim)) λ_ _ h'=>h'.elim);cases ok with
  | false=>exact MG ⟨rfl,Z⟩
  | true=>exact MB (MB (Nf Z (λx W h₄=>MB (Nf h₄ (λ_ U h₅=>MG (MG ⟨rfl,h₅⟩)) λ_ _ h'=>h'.elim)) λ_ _ h'=>h'.elim))
end
def Fd(X:Cx)(ifs:List M7)(tt:TT):Prop:=
 ∀(pins:List (MF×Obj)) (s:MD) (σ:St) (H:Hp) (Q:Bool->Hp->Prop),Inv X pins σ H s->tt σ H Q->
  MJ (MK X.prog X.w) X.A (forIn ifs true λc r=>if r=true then do let ok <- Rj c X.env (eval c X.env);pure (ForInStep.yield ok)else pure (ForInStep.yield r)) (TP X pins σ Q) X.xe s
theorem FL{X:Cx}:Fd X [] (λ_ H Q=>Q true H):=λpins s σ H Q I h=>wpAny_tests_nil ⟨H,I,h⟩
theorem FK{X:Cx}{c:M7}{tt:TT}(h:PT X c tt):Fd X [c] tt:=λpins s σ H Q I q=>wpAny_tests_one (h pins s σ H Q I q)
def AR(ent:St->St)(wi:TI)(g:TG)(tt:TT)(te:TE):TE:=λσ H Q=>wi σ H λJ H1=>∀D,H1 D=none->∃W:Nat->Nat->List V->St->Hp->Prop,(∃m,W 0 m [] (ent σ) (aV H1 D (.lst [])))/\
 ∀i m ys L H2,W i m ys L H2->H2 D=some (.lst ys)/\((J.stop i H2/\Q (.ref D) H2)\/(J.go i H2/\∃N:List V->St->Hp->Prop,(∀U O H',N U O H'->∃Y,Y < m/\W (i+1) Y U O H')/\
  ∀x H',J.yld i H2 x H'->g x L H' λI H3=>tt I H3 λb H4=>if b=true then te I H4 λy Z=>Z D=some (.lst ys)/\ys.length < MN/\N (ys ++ [y]) I (aV Z D (.lst (ys ++ [y])))else N ys I H4))
theorem gf{scope:OU}{env:Env}(SC:∀y∈scope.names,y.2≠.cell){x:Str}(h:(QO scope env).names.lookup x=some .cell\/(QO scope env).names.lookup x=some .free):∃y∈scope.names,y.1=x/\y.2=.free:=by
 have go:∀(names:List (Str×Pi)),(∀y∈names,y.2≠.cell)->∀k,(names.map λ(n,k)=>if (k == .free && env.scope.kind == .function && env.kindOf n == some .cell)then (n,NameKind.cell)else (n,k)).lookup x=some k->(k=.cell\/k=.free)->∃y∈names,y.1=x/\y.2=.free:=by
  intro names
  induction names with
  | nil=>intro _ k e _;simp at e
  | cons y r Y=>
   obtain⟨n,O⟩:=y;intro U k e I;rw[M5,Of]at e;split at e
   .rename_i L;cases e;have W:=U (n,O) MW;refine⟨(n,O),MW,?_,?_⟩
    .split at L
     .simpa using (eq_of_beq L).symm
     .simpa using (eq_of_beq L).symm
    .split at I
     .rename_i hq;simp at hq
      simpa using hq.1.1
     .rcases I with I|I
      .exact absurd I W
      .exact I
   .obtain⟨y,J,q⟩:=Y (λy J=>U y (MQ _ J)) k e I;exact⟨y,MQ _ J,q⟩
 rcases h with h|h
 .exact go scope.names SC _ h (.inl rfl)
 .exact go scope.names SC _ h (.inr rfl)
theorem lP{scope:OU}{env:Env}{x:Str}(h:(QO scope env).names.lookup x=some .local):∃y∈scope.names,y.1=x/\y.2=.local:=by
 have go:∀(names:List (Str×Pi)),(names.map λ(n,k)=>if (k == .free && env.scope.kind == .function && env.kindOf n == some .cell)then (n,NameKind.cell)else (n,k)).lookup x=some .local->∃y∈names,y.1=x/\y.2=.local:=by
  intro names
  induction names with
  | nil=>intro e;simp at e
  | cons y r L=>
   obtain⟨n,J⟩:=y;intro e;rw[M5,Of]at e;split at e
   .rename_i I;refine⟨(n,J),MW,?_,?_⟩
    .split at I
     .simpa using (eq_of_beq I).symm
     .simpa using (eq_of_beq I).symm
    .split at e
     .cases e
     .simpa using e
   .obtain⟨y,O,q⟩:=L e;exact⟨y,MQ _ O,q⟩
 exact go scope.names h
structure CompOk(X:Cx)(scope:OU)(T M:List Str):Prop where
 calm:true=true
 kind:scope.kind=.function
 cell:∀y∈scope.names,y.2≠.cell
 names:∀y∈scope.names,y.2=.local->scope.names.lookup y.1=some .local
 loc:∀y∈scope.names,y.2=.local->y.1∈((".0":Str)::T)
 len:M.length=X.N.length
 sub:∀(i:Nat) x,M[i]?=some x->X.N[i]?=some x\/∀y∈scope.names,y.1≠x
 off:∀x∈M,x∉((".0":Str)::T)
 free:∀y∈scope.names,y.2=.free->X.env.kindOf y.1=some .cell\/X.env.kindOf y.1=some .free
def ent(T:List Str)(σ:St):St:=T.map (λ_=>none) ++ σ
section
variable{X:Cx}{pins:List (MF×Obj)}{σ:St}{H:Hp}{s:MD}
theorem Inv.block{scope:OU}{T M:List Str}{fp:List MF}{U:MY}{tk:Nat}{cl:List (Str×MF)}(I:Inv X pins σ H s)(ok:CompOk X scope T M)(hf:∀b∈fp,pM X pins H b)(ho:∀b∈fp,∃o,s.heap.get? b=some o)
  (L:∀x c,cl.lookup x=some c->X.env.cells.lookup x=some c) (hc2:∀x∈scope.names,x.2=.free->∃c,cl.lookup x.1=some c)
  (hns:U.Ns s.heap.objs.size λ_=>none) (kp:∀b o,s.heap.get? b=some o->U.get? b=some o):
  Inv (bD X (T ++ M) scope cl s.heap.objs.size s H fp) [] (ent T σ) H { s with heap:=U,toks:=tk }:=by
 have fpC:∀b∈fp,b≠s.heap.objs.size:=λb Z z=>by
  obtain⟨o,e⟩:=ho b Z;exact absurd (ML e) (by simp_all)
 refine⟨⟨I.ok.mod,ok.kind,I.ok.glob,I.ok.blt,le_refl _,λx y c h1 h2=>I.ok.inj x y c (L x c h1) (L y c h2),λx hx=>?_,(λx c h=>absurd h (by show ¬ (false=true);decide)),I.ok.hd,I.ok.hs,I.ok.frames,.inl rfl,λb Z=>⟨fpC b Z,λx c e=>(hf b Z).2.2.2.2.1 x c (L x c e)⟩,I.bs,le_trans I.ok.bsz I.sz,λb o e Z=>?_,λb Z hs=>?_,I.stack,I.stkFree⟩,
  rfl,I.bare,Un.kept kp,⟨_,hns,λi x v e1 e2 J=>?_⟩,λx c e=>?_,I.hok.fresh (le_refl _),λx c e=>I.freeC x c (L x c e),λp hp=>(let q:=I.pin p (Nc _ (by rw[Ng]at hp;exact hp));⟨kp _ _ q.1,q.2.1,M6 (ML q.1),λz=>(NC.mp (I.stkSub _ z)).elim q.2.2.1 q.2.2.2.1,q.2.2.2.2⟩),I.hok.kept kp,?_⟩
 .obtain⟨y,O,e,Y⟩:=gf ok.cell hx;rw[<- e];exact hc2 y O Y
 .rcases (hf b Z).2.2.2.1 with z|z
  .exact I.ok.noex b o e z
  .exact absurd (M9 (ML e) (le_trans I.ok.bsz z)) (Nat.lt_irrefl _)
 .rcases NC.mp (I.stkSub b hs)with z|z
  .exact (hf b Z).2.1 z
  .exact (hf b Z).2.2.1 z
 .-- a name that is known: it is drawn from around
  have hi:T.length<=i:=by
   refine Nat.le_of_not_lt λhlt=>?_;unfold ent at e2;rw[List.getElem?_append_left (by simp_all),MZ]at e2
   cases q:T[i]? with
   | none=>rw[q]at e2;cases e2
   | some z=>rw[q]at e2;cases e2
  have e0':M[i - T.length]?=some x:=by
   have:=e1;rw[<- List.getElem?_append_right hi];exact this
  have e1':X.N[i - T.length]?=some x:=by
   rcases ok.sub _ x e0' with z|z
   .exact z
   .exfalso;rcases J with J|J|J
    .obtain⟨y,O,e,hl⟩:=lP J;exact z y O e
    .obtain⟨y,O,e,_⟩:=gf ok.cell (.inl J);exact z y O e
    .obtain⟨y,O,e,_⟩:=gf ok.cell (.inr J);exact z y O e
  have e2':σ[i - T.length]?=some (some v):=by
   unfold ent at e2;rw[List.getElem?_append_right (by simp_all),MH]at e2
   exact e2
  have SB:(QO scope X.env).names.lookup x=some .cell\/(QO scope X.env).names.lookup x=some .free:=by
   rcases J with J|J|J
   .obtain⟨y,O,e,hl⟩:=lP J;exact absurd (by rw[<- e];exact ok.loc y O hl) (ok.off x (M_ e0'))
   .exact .inl J
   .exact .inr J
  obtain⟨y,O,e,Y⟩:=gf ok.cell SB;subst e;have W:=ok.free y O Y;obtain⟨m,hn,hl⟩:=I.loc;obtain⟨u,r,l⟩:=hl _ _ v e1' e2' (by rcases W with W|W;exact .inr (.inl W);exact .inr (.inr W))
  refine⟨u,r,.inr ⟨SB,?_⟩⟩;rcases l with ⟨l1,_⟩|⟨_,c,ec,z⟩
  .rcases W with W|W
   .rw[W]at l1;cases l1
   .rw[W]at l1;cases l1
  .obtain⟨c',ec'⟩:=hc2 y O Y;have:=L _ _ ec';rw[ec]at this;cases this;obtain⟨o,ho',hd⟩:=z;exact⟨c,ec',o,kp _ _ ho',hd⟩
 .obtain⟨v,o,ho',hd⟩:=I.cell x c (L x c e);exact⟨v,o,kp _ _ ho',hd⟩
 .show (ent T σ).length=(T ++ M).length;unfold ent;rw[Nt,Nt,MH,I.len,ok.len]
end
section
variable{X:Cx}{elt tg iter:M7}{ifs:List M7}{scope:OU}{T M:List Str}{pos:Pos}{wi:TI}{g:TG}{tt:TT}{te:TE}
theorem yV{pins:List (MF×Obj)}{s2:MD}{σ:St}{H1:Hp}{Q:VK}{J:It}{it:MF}{fp:List MF}{tn:Nat->MY->Prop}{cl:List (Str×MF)}{RR:MC->MF->PK->MD->Prop}{E:MC->MD->Prop}(ok:CompOk X scope T M)
  (hin:∀cl C s₀ H₀ fp,PG (bD X (T ++ M) scope cl C s₀ H₀ fp) tg g/\Fd (bD X (T ++ M) scope cl C s₀ H₀ fp) ifs tt/\PE (bD X (T ++ M) scope cl C s₀ H₀ fp) elt te)
  (hc1:∀x c,cl.lookup x=some c->X.env.cells.lookup x=some c) (hc2:∀x∈scope.names,x.2=.free->∃c,cl.lookup x.1=some c)
  (I2:Inv X pins σ H1 s2) (Tn:Turn X.prog X.w X.K tg J fp it tn) (st2:tn 0 s2.heap) (f2:∀b∈fp,pM X pins H1 b)
  (h:∀D,H1 D=none->∃W:Nat->Nat->List V->St->Hp->Prop,(∃m,W 0 m [] (ent T σ) (aV H1 D (.lst [])))/\
   ∀i m ys σ1 H2,W i m ys σ1 H2->H2 D=some (.lst ys)/\((J.stop i H2/\Q (.ref D) H2)\/(J.go i H2/\∃N:List V->St->Hp->Prop,(∀Y L H',N Y L H'->∃m',m' < m/\W (i+1) m' Y L H')/\
    ∀x H',J.yld i H2 x H'->g x σ1 H' λσ2 Z=>tt σ2 Z λb H4=>if b=true then te σ2 H4 λy H5=>H5 D=some (.lst ys)/\ys.length < MN/\N (ys ++ [y]) σ2 (aV H5 D (.lst (ys ++ [y])))else N ys σ2 H4)))
  (hRR:∀D C H' s',Inv X pins σ H' s'->(∃m,s'.heap.Ns C m)->H' C=none->C≠X.env.locals->X.s₀.heap.objs.size<=C->(∀x c,X.env.cells.lookup x=some c->c≠C)->(∀p∈X.pn ++ pins,p.1≠C)->Q (.ref D) H'->RR (.ref D) C (.ok .next) s'):
  MJ (MK X.prog X.w) X.A (newList []) (λacc s₃=>MJ (MK X.prog X.w) X.A (newFunctionEnv scope X.env.globals cl [] X.env.qual none .none (some X.env)) (λcenv s₄=>
   N4 (MK X.prog X.w) X.A (.compStart (.ListComp elt [⟨tg,iter,ifs,0⟩] scope pos) 0 (.ref it) acc { cenv with scope:=QO scope X.env }) (RR acc cenv.locals) s₄) E s₃) E s2:=by
 refine Nh ?_;have hD:=I2.hok.fresh (le_refl _);obtain⟨W,⟨m0,w0⟩,turn⟩:=h _ hD;have I3:=I2.lnew (t':=s2.toks) .nil (NH _);have f3:∀b∈fp,pM X pins (aV H1 s2.heap.objs.size (.lst [])) b:=λb O=>by
  have q:=f2 b O;obtain⟨o,e,_⟩:=Tn.obj 0 _ st2 b O;exact⟨by rw[ao (M6 (ML e))];exact q.1,q.2⟩
 have st3:tn 0 (s2.heap.push { cls:=.type "list",data:=.seq ([]:List MC).toArray }):=Tn.keep _ _ _ st2 λb _ o e=>ME _ e;generalize hs3:({ s2 with heap:=s2.heap.push { cls:=.type "list",data:=.seq ([]:List MC).toArray } }:MD)=I at I3 ⊢
 have Ts:tn 0 I.heap:=by rw[<- hs3];exact st3
 generalize hH3:aV H1 s2.heap.objs.size (.lst [])=Z at I3 f3 w0;generalize hDD:s2.heap.objs.size=D at *
 refine wpAny_newFunctionEnv ok.cell (by simp) (λh₁ T0 hsb₁=>?_) ok.kind
 have kp:=λb o e=>hsb₁.extBut b o (M6 (ML e)) (ME _ e);have hns:h₁.Ns I.heap.objs.size λ_=>none:=by simpa using T0
 have I4:Inv (bD X (T ++ M) scope cl I.heap.objs.size I Z fp) [] (ent T σ) Z { I with heap:=h₁,toks:=I.toks+([]:List (Str×MC)).length }:=
  I3.block ok f3 (λb O=>let ⟨o,e,_⟩:=Tn.obj 0 _ Ts b O;⟨o,e⟩) hc1 hc2 hns kp
 have st4:=Tn.keep _ _ _ Ts λb _ o e=>kp b o e;obtain⟨hG,hT,hE⟩:=hin cl I.heap.objs.size I Z fp;have back:∀{Ss:List (MF×Obj)} {L:St} {H':Hp} {s':MD},Inv (bD X (T ++ M) scope cl I.heap.objs.size I Z fp) Ss L H' s'->Inv X pins σ H' s':=λ{Ss L H' s'} I'=>
  I3.call' I'.os I'.base I'.hok I'.bare λb O=>let q:=f3 b O;⟨q.2.2.2.1,q.2.1,q.2.2.2.2.1,q.2.2.2.2.2⟩
 have loop:∀s4:MD,Inv (bD X (T ++ M) scope cl I.heap.objs.size I Z fp) [] (ent T σ) Z s4->tn 0 s4.heap->
   N4 (MK X.prog X.w) X.A (.compLoop (.ListComp elt [⟨tg,iter,ifs,0⟩] scope pos) 0 (.ref it) (.ref D) (compEnvC scope cl I.heap.objs.size X.env)) (RR (.ref D) I.heap.objs.size) s4:=by
  intro s4 I4 st4;have fpX:∀{Ss:List (MF×Obj)} {H':Hp},Ss=[]->(∀b∈fp,H' b=none)->∀b∈fp,pM (bD X (T ++ M) scope cl I.heap.objs.size I Z fp) Ss H' b:=λ{Ss H'} ep hn b O=>by
   subst ep;refine⟨hn b O,(I4.ok.exf b O).1,I4.ok.exfs b O,.inl O,(I4.ok.exf b O).2,λp hp=>(f3 b O).2.2.2.2.2 p (Nc _ (by rw[Ng]at hp;exact hp))⟩
  refine kI (λn s'=>∃i ys L H',Inv (bD X (T ++ M) scope cl I.heap.objs.size I Z fp) [] L H' s'/\tn i s'.heap/\(∀b∈fp,H' b=none)/\W i n ys L H') ?_ m0 ⟨0,[],ent T σ,Z,I4,st4,λb O=>(f3 b O).1,w0⟩
  rintro n s5 ⟨i,ys,σ5,H5,I5,st5,fr5,w5⟩
  obtain⟨hDl,hstep⟩:=turn i n ys σ5 H5 w5;rcases hstep with ⟨stop,qn⟩|⟨go,N,hN,step⟩
  .refine b_ (Tn.done (bD X (T ++ M) scope cl I.heap.objs.size I Z fp) rfl rfl rfl i [] s5 _ H5 _ I5 (fpX rfl fr5) st5 stop) λr s6 zz=>?_;obtain⟨hr,I6⟩:=zz;subst hr;have I7:=back I6;obtain⟨m,hm,_⟩:=I6.loc;refine hRR D I.heap.objs.size H5 s6 I7 ⟨m,hm⟩ I6.free ?_ ?_ ?_ ?_ qn
   .exact OB I3.lt
   .exact I3.sz
   .intro x c e z;obtain⟨v,q⟩:=I3.cell x c e;exact absurd q.lt (by simp_all)
   .intro p hp z;exact absurd (ML (I3.pin p hp).1) (by simp_all)
  .refine b_ (Tn.item (bD X (T ++ M) scope cl I.heap.objs.size I Z fp) rfl rfl rfl i [] s5 _ H5 _ I5 (fpX rfl fr5) st5 go) λr s6 zz=>?_;obtain⟨u,hr,h6⟩:=zz;subst hr;refine b_ h6 λ_ s7 zz=>?_;obtain⟨x,H7,I7,r7,y7,st7,fr7⟩:=zz;have I7':=I7.pinned (fpX rfl fr7) (Tn.obj _ _ st7);refine b_ (hG _ s7 _ H7 x u _ I7' r7 (step x H7 y7)) λ_ s8 zz=>?_;obtain⟨U,H8,I8,q8⟩:=zz;have again:∀{s9:MD} {H9:Hp} {Y:List V},Inv (bD X (T ++ M) scope cl I.heap.objs.size I Z fp) ([] ++ o0 fp s7.heap) U H9 s9->N Y U H9->
     ∃m,m < n/\∃i ys L H',Inv (bD X (T ++ M) scope cl I.heap.objs.size I Z fp) [] L H' s9/\tn i s9.heap/\(∀b∈fp,H' b=none)/\W i m ys L H':=λ{s9 H9 Y} I9 n9=>by
    obtain⟨m',hm,w9⟩:=hN Y U H9 n9;refine⟨m',hm,i+1,Y,U,H9,I9.unpinned,Tn.keep _ _ _ st7 λb O o e=>(I9.pin (b,o) (Nl _ (Nl _ (gI O e)))).1,λb O=>?_,w9⟩;obtain⟨o,e,d⟩:=Tn.obj _ _ st7 b O;exact (I9.pin (b,o) (Nl _ (Nl _ (gI O e)))).2.1
   refine b_ (hT _ s8 U H8 _ I8 q8) λb s9 zz=>?_;obtain⟨H9,I9,q9⟩:=zz;cases b with
   | false=>exact again I9 q9
   | true=>
    refine b_ (hE _ s9 U H9 _ I9 q9) λu10 s10 zz=>?_;obtain⟨y,H10,I10,r10,e10,l10,n10⟩:=zz;refine b_ (u9 _ s10 U H10 (.ref D) [y] (.ref D) [u10] (λv H'=>v=.non/\H'=aV H10 D (.lst (ys ++ [y]))) I10 rfl (.cons r10 .nil) ⟨D,ys,y,rfl,rfl,e10,l10,rfl,rfl⟩) λu11 s11 zz=>?_;obtain⟨z,H11,I11,r11,_,e11⟩:=zz;subst e11;exact again I11 n10
 exact codeAny_compStart_list (loop _ I4 st4) (Tn.self _ 0 _ _ _ st4 (loop _ I4 st4))
theorem Bl(ok:CompOk X scope T M){pins:List (MF×Obj)}{σ:St}{H:Hp}{s:MD}(I:Inv X pins σ H s):∃cl,R0 scope X.env=pure cl/\(∀x c,cl.lookup x=some c->X.env.cells.lookup x=some c)/\(∀x∈scope.names,x.2=.free->∃c,cl.lookup x.1=some c):=
 Az scope.names scope rfl λx J L=>I.ok.has x.1 (ok.free x J L)
theorem A4(ok:CompOk X scope T M)
  (U:∀cl C s₀ H₀ fp,PG (bD X (T ++ M) scope cl C s₀ H₀ fp) tg g/\Fd (bD X (T ++ M) scope cl C s₀ H₀ fp) ifs tt/\PE (bD X (T ++ M) scope cl C s₀ H₀ fp) elt te)
  (hi:PI X tg iter wi) (hs:∀x,NO iter X.env x=pure x:=by intro _;rfl):PE X (.ListComp elt [⟨tg,iter,ifs,0⟩] scope pos) (AR (ent T) wi g tt te):=by
 intro pins s σ H Q I h;obtain⟨cl,W,Z,Y⟩:=Bl ok I;refine Q5 rfl hs W ok.kind ok.names (b_ (hi pins s σ H _ I h) λv s1 h1=>b_ h1 λitv s2 h2=>?_);obtain⟨it,fp,tn,J,H2,e,I2,Tn,L,f2,hh⟩:=h2;subst e;refine yV ok U Z Y I2 Tn L f2 hh ?_;intro D C H' s' I' O hn n1 n2 n3 n4 q;obtain⟨m,O⟩:=O;exact⟨m,O,λh' sb=>⟨.ref D,H',I'.turned (λb o hb e=>(sb.2 b hb).trans e) hn (Ne.symm (Ne.symm n1)) (.inr n2) n3 n4,rfl,q⟩⟩
theorem FP{i:Nat}{x:Str}{W spos:Pos}(ok:CompOk X scope T M)(hN:X.N.Nodup)(hix:X.N[i]?=some x)(hx:X.env.scope.names.lookup x=some .local)
  (hin:∀cl C s₀ H₀ fp,PG (bD X (T ++ M) scope cl C s₀ H₀ fp) tg g/\Fd (bD X (T ++ M) scope cl C s₀ H₀ fp) ifs tt/\PE (bD X (T ++ M) scope cl C s₀ H₀ fp) elt te)
  (hi:PI X tg iter wi) (hsw:N7 (.ListComp elt [⟨tg,iter,ifs,0⟩] scope pos) (some (.Name x W)) spos.line X.env=pure true:=by rfl) (hs:∀x,NO iter X.env x=pure x:=by intro _;rfl):
  PS X (.Assign [.Name x W] (.ListComp elt [⟨tg,iter,ifs,0⟩] scope pos) spos) (HJ (gh (AR (ent T) wi g tt te)) (yL i)):=by
 intro pins s σ H Y I h;obtain⟨cl,hcl,hc1,hc2⟩:=Bl ok I;rw[exec_Assign_Name_used _ _ _ _ hsw];refine MB (OI (MB ?_));show MJ _ X.A (do let _ <- comprehension (.ListComp elt [⟨tg,iter,ifs,0⟩] scope pos) scope X.env _ (newList []) false (eval iter X.env) (some (assign (.Name x W) X.env))) _ _ s
 refine MB (Nf (Q5 (use:=some (assign (.Name x W) X.env)) (Q:=λ_ s'=>SP X pins Y .next s') rfl hs hcl ok.kind ok.names
  (b_ (hi pins s σ H _ I h) λv s1 h1=>b_ h1 λitv s2 h2=>?_)) (λ_ s' hq=>MG (MG hq)) λ_ _ e=>e)
 obtain⟨it,fp,tn,J,H2,e,I2,Tn,Z,f2,hh⟩:=h2;subst e;refine yV (Q:=λv H1=>yL i v σ H1 Y.nx\/∃p xs,v=.ref p/\H1 p=some (.lst xs)/\∀o,yL i v σ (aV H1 p (.frz o (.lst xs))) Y.nx) (RR:=λacc C=>compPost (MK X.prog X.w) X.A X.xe (some (assign (.Name x W) X.env)) (λ_ s'=>SP X pins Y .next s') acc C) ok hin hc1 hc2 I2 Tn Z f2 hh ?_;intro D C H' s' I' hm hn n1 n2 n3 n4 q;obtain⟨m,hm⟩:=hm;have fin:∀{O:Hp},Inv X pins σ O s'->O C=none->Y.nx (σ.set i (some (.ref D))) O->
   MJ (MK X.prog X.w) X.A (assign (.Name x W) X.env (.ref D)) (λ_ L=>∃m,L.heap.Ns C m/\∀h',Ov C L.heap h'->SP X pins Y .next { L with heap:=h' }) X.xe s':=λ{O} J' hn' q'=>by
  refine Sa (uL (v:=V.ref D) J' hN hix (.inl hx) rfl (λL U ⟨a,sb,ha⟩=>?_) (.inr hx));have aC:C≠a:=by
   rcases ha with z|z
   .rw[z];exact n1
   .exact λy=>n3 _ _ z y.symm
  refine⟨m,hm.sameBut sb aC,λh' sb'=>⟨_,O,U.turned (t':=L.toks) (λb o hb e=>(sb'.2 b hb).trans e) hn' n1 (.inr n2) n3 n4,q'⟩⟩
 rcases q with q|⟨p,xs,ep,e1,q⟩
 .exact fin I' hn q
 .obtain⟨o,U⟩:=I'.freeze e1;refine fin U ?_ (q o);rw[ao (λz=>by subst z;rw[hn]at e1;cases e1)];exact hn
end
section
variable{X:Cx}{tg:M7}
theorem PG.imp{e:M7}{t t':TG}(h:PG X e t)(i:∀v σ H Q,t' v σ H Q->t v σ H Q):PG X e t':=λpins s σ H v u Q I r q=>h pins s σ H v u Q I r (i v σ H Q q)
theorem E5.imp{es:List M7}{t t':GN}(h:E5 X es t)(i:∀vs σ H Q,t' vs σ H Q->t vs σ H Q):E5 X es t':=λpins s σ H v u Q I r q=>h pins s σ H v u Q I r (i v σ H Q q)
theorem PI.imp{e:M7}{t t':TI}(h:PI X tg e t)(i:∀σ H R,t' σ H R->t σ H R):PI X tg e t':=λpins s σ H R I q=>h pins s σ H R I (i σ H R q)
variable{pins:List (MF×Obj)}{σ:St}{H:Hp}{s:MD}{R:It->Hp->Prop}{E:MC->MD->Prop}{a:MF}{xs:List V}
theorem pA(I:Inv X pins σ H s)(hq:ij X.K H a xs)(q:R (K3 X.K a) H):MJ (MK X.prog X.w) X.A (Pf (.ref a)) (Hv X pins σ tg R) E s:=by
 obtain⟨J,O,p,U⟩:=I.list hq;refine Pk p.isList ?_;refine⟨s.heap.objs.size,[s.heap.objs.size],_,_,H,rfl,I.kept λb o e=>ME _ e,Bz a _,⟨_,MM _ rfl,rfl,rfl⟩,λb L=>?_,q⟩;have e:b=s.heap.objs.size:=by simpa using L
 subst e;exact I.fpOk (le_refl _) (I.hok.fresh (le_refl _))
theorem yF(I:Inv X pins σ H s)(hq:jL X.K H a xs)(q:R (L4 X.K a) H):MJ (MK X.prog X.w) X.A (Pf (.ref a)) (Hv X pins σ tg R) E s:=by
 obtain⟨J,O,p,U⟩:=I.tuple hq;refine wpAny_pyIter_tuple (show s.heap.IsTuple a J.toArray from p) ?_
 refine⟨s.heap.objs.size,[s.heap.objs.size],_,_,H,rfl,I.kept λb o e=>ME _ e,zt a _,⟨_,MM _ rfl,rfl,rfl⟩,λb L=>?_,q⟩;have e:b=s.heap.objs.size:=by simpa using L
 subst e;exact I.fpOk (le_refl _) (I.hok.fresh (le_refl _))
theorem yG{z:Str}{t:Tok}(I:Inv X pins σ H s)(q:R (L5 (db z)) H):MJ (MK X.prog X.w) X.A (Pf (.str z t)) (Hv X pins σ tg R) E s:=by
 have fin:∀(ty:String),(ty="str_ascii_iterator"\/ty="str_iterator")->Hv X pins σ tg R (.ref s.heap.objs.size) { s with heap:=s.heap.push { cls:=.type ty,data:=.fields #[.str z t,.int 0 0] } }:=λty J=>by
  refine⟨s.heap.objs.size,[s.heap.objs.size],_,_,H,rfl,I.kept λb o e=>ME _ e,C5 _ z t ty J,⟨_,MM _ rfl,rfl,rfl⟩,λb O=>?_,q⟩;have e:b=s.heap.objs.size:=by simpa using O
  subst e;exact I.fpOk (le_refl _) (I.hok.fresh (le_refl _))
 cases L:z.cps.all (· < 128)
 .exact wpAny_pyIter_wide L (fin _ (.inr rfl))
 .exact wpAny_pyIter_ascii L (fin _ (.inl rfl))
end
end L2
namespace L3
open PySem PySem.Spec PyProof.Rows L2
abbrev tx:=D->eV->Gp->(eV->Gp->Prop)->Prop
abbrev Cz:=List D->eV->Gp->(eV->Gp->Prop)->Prop
def iI(K:Pj)(g:tx):TG:=λv τ H Q=>∃d σ G L,RD K H d v/\RS K H σ τ/\RG K H G/\g d σ G L/\∀J G' I H',L J G'->Kp G H G' H'->RG K H' G'->RS K H' J I->Q I H'
def wz(K:Pj)(g:Cz):GN:=λvs τ H Q=>∃ds σ G L,RDs K H ds vs/\RS K H σ τ/\RG K H G/\g ds σ G L/\∀J G' I H',L J G'->Kp G H G' H'->RG K H' G'->RS K H' J I->Q I H'
def gN(i:Nat):tx:=λd σ G Q=>Q (σ.set i (some d)) G
def n_:Cz:=λds σ G Q=>match ds with
 | []=>Q σ G
 | _=>False
def fb(t:tx)(u:Cz):Cz:=λds σ G Q=>match ds with
 | d::r=>t d σ G λI G'=>u r I G' Q
 | []=>False
def n8(n:Nat)(t:Cz):tx:=λd σ G Q=>match d with
 | .tup ds=>ds.length=n/\t ds σ G Q
 | _=>False
section
variable{X:Cx}{pos:Pos}{e:M7}{es:List M7}{t:tx}{u:Cz}
theorem a_{i:Nat}{x:Str}(W:X.N.Nodup)(hi:X.N[i]?=some x)(O:Ju X.env.scope x)(U:X.fn x=true\/X.env.scope.names.lookup x=some .local:=by first|exact .inl rfl|exact .inr rfl|assumption):PG X (.Name x pos) (iI X.K (gN i)):=
 (FU W hi O U).imp λv τ H Q I=>by
 obtain⟨d,σ,G,Y,rd,J,L,h,k⟩:=I;exact (
  k _ G _ H h Kp.refl L (J.set rd i))
theorem Bg:E5 X [] (wz X.K n_):=FT.imp λvs τ H Q I=>by
 obtain⟨ds,σ,G,O,rd,J,L,h,k⟩:=I;cases ds with
 | nil=>exact⟨rd.inv_nil,k _ G _ H h Kp.refl L J⟩
 | cons _ _=>exact h.elim
theorem kC(h1:PG X e (iI X.K t))(h2:E5 X es (wz X.K u))(hs:(N0 (e::es) X.env).map (·.2)=assign e X.env::(N0 es X.env).map (·.2):=by rfl):E5 X (e::es) (wz X.K (fb t u)):=
 (DV h1 h2 hs).imp λvs τ H Q zz=>by
  obtain⟨ds,σ,G,Q3,rd,rs,W,h,k⟩:=zz;cases ds with
  | nil=>exact h.elim
  | cons d r=>
   obtain⟨x,xs,e1,r1,r2⟩:=rd.inv_cons;refine⟨x,xs,e1,d,σ,G,_,r1,rs,W,h,λL G' Z H' q Y U O=>⟨r,L,G',Q3,RDs.mono (Y.stb W) _ _ r2,O,U,q,λJ G2 I H2 q2 k2=>k J G2 I H2 q2 (Y.trans k2)⟩⟩
theorem Bf{k:Nat}{n:Nat}(U:true=true)(h:E5 X es (wz X.K u))(hn:(N0 es X.env).length=n:=by rfl)(I:(N0 es X.env).findIdx? (·.1)=none:=by rfl):PG X (.Tuple es k pos) (iI X.K (n8 n u)):=
 (Ie U h hn I).imp λv τ H Q J=>by
  obtain⟨d,σ,G,Y,rd,L,O,h,k⟩:=J;cases d with
  | tup ds=>
   obtain⟨a,xs,W,q,r⟩:=rd;exact⟨a,xs,W,q,by rw[<- r.length];exact h.1,ds,σ,G,Y,r,L,O,h.2,k⟩
  | _=>exact h.elim
end
abbrev Fb:=eV->Gp->(List D->Gp->Prop)->Prop
def uD(K:Pj)(I:Gp)(H0:Hp)(ds:List D)(J:It):Prop:=∀i G H,Kp I H0 G H->RG K H G->
 (i < ds.length->J.go i H/\∀x H',J.yld i H x H'->Kp G H G H'/\RG K H' G/\∃d,ds[i]?=some d/\RD K H' d x)/\(i=ds.length->J.stop i H)
def nO(K:Pj)(ti:Fb):TI:=λτ H R=>∃σ G I,RS K H σ τ/\RG K H G/\ti σ G I/\∀ds G' J H',I ds G'->Kp G H G' H'->RG K H' G'->uD K G' H' ds J->R J H'
noncomputable def signs(x:Str):List D:=x.cps.toList.map λc=>D.str ⟨#[c]⟩
theorem Bd{K:Pj}{L:Gp}{H0:Hp}{ds:List D}{xs:List V}(r:∀H,RDs K H ds xs):uD K L H0 ds (L5 xs):=λi G H _ I=>by
 have O:=(r H).length;refine⟨λhi=>⟨(show i < xs.length by omega),λx H' y=>?_⟩,λe=>(show i=xs.length by omega)⟩
 obtain⟨rfl,J⟩:=y;refine⟨Kp.refl,I,ds[i],by simp,?_⟩
 obtain⟨y,e,q⟩:=(r H').get (i:=i) (d:=ds[i]) (by simp)
 rw[J]at e;cases e;exact q
theorem Be{K:Pj}{L:Gp}{H0:Hp}{ds:List D}{xs:List V}{a:MF}(I:RG K H0 L)(f:CL K H0 a xs)(r:RDs K H0 ds xs):uD K L H0 ds (K3 K a):=λi G H k O=>by
 have W:=r.length;have J:=(k.stb I).l _ _ f;have r':=RDs.mono (k.stb I) _ _ r;refine⟨λhi=>⟨⟨xs,xs[i]'(by omega),J.sq,by simp⟩,λx H' y=>?_⟩,λe=>⟨xs,J.sq,by omega⟩⟩
 obtain⟨rfl,U⟩:=y;refine⟨Kp.refl,O,ds[i],by simp,?_⟩
 obtain⟨y,e,q⟩:=r'.get (i:=i) (d:=ds[i]) (by simp)
 rw[U xs J.sq]at e;cases e;exact q
theorem Es{K:Pj}{L:Gp}{H0:Hp}{ds:List D}{xs:List V}{a:MF}(I:RG K H0 L)(f:jL K H0 a xs)(r:RDs K H0 ds xs):uD K L H0 ds (L4 K a):=λi G H k O=>by
 have W:=r.length;have J:=(k.stb I).t _ _ f;have r':=RDs.mono (k.stb I) _ _ r;refine⟨λhi=>⟨⟨xs,xs[i]'(by omega),J,by simp⟩,λx H' y=>?_⟩,λe=>⟨xs,J,by omega⟩⟩
 obtain⟨rfl,U⟩:=y;refine⟨Kp.refl,O,ds[i],by simp,?_⟩
 obtain⟨y,e,q⟩:=r'.get (i:=i) (d:=ds[i]) (by simp)
 rw[U xs J]at e;cases e;exact q
def eJ:D->Option (List D)
 | .lst ds=>some ds
 | .fl ds=>some ds
 | .tup ds=>some ds
 | .str x=>some (signs x)
 | _=>none
def fA(te:bb):Fb:=λσ G Q=>te σ G λd G'=>match eJ d with
 | some ds=>Q ds G'
 | none=>False
def fy(lo:Int)(n:Nat):List D:=(List.range n).map λk=>D.int (lo+(k:Nat))
theorem yH{K:Pj}{L:Gp}{H0:Hp}{lo:Int}{n:Nat}:uD K L H0 (fy lo n) (K2 lo n):=λi G H _ I=>by
 have J:(fy lo n).length=n:=by simp[fy]
 rw[J];refine⟨λhi=>⟨hi,λx H' y=>?_⟩,λe=>(show n<=i by omega)⟩
 obtain⟨rfl,rfl⟩:=y;exact⟨Kp.refl,I,.int (lo+(i:Nat)),by simp[fy,hi],dC⟩
def K_(ta:lF):Fb:=λσ G Q=>ta σ G λds G'=>match ds with
 | [.int j]=>(-(2 ^ 62)<=j/\j < 2 ^ 62)/\Q (fy 0 j.toNat) G'
 | _=>False
def LH(ta:lF):Fb:=λσ G Q=>ta σ G λds G'=>match ds with
 | [.int i,.int j]=>(-(2 ^ 62)<=i/\i < 2 ^ 62/\-(2 ^ 62)<=j/\j < 2 ^ 62)/\Q (fy i (j - i).toNat) G'
 | _=>False
section
variable{X:Cx}{tg e:M7}{te:bb}
theorem eT(h:PE X e (aB X.K te)):PI X tg e (nO X.K (fA te)):=by
 intro pins s τ H R I hq;obtain⟨σ,G,W,Z,rg,hq,k⟩:=hq;refine b_ (dD h pins s τ H (λv H1=>∃d G1,Kp G H G1 H1/\RG X.K H1 G1/\RD X.K H1 (val d) v/\(match eJ d with|some ds=>W ds G1|none=>False)) I ⟨σ,G,_,Z,rg,hq,λd G' v H' q k' O rd=>⟨d,G',k',O,rd,q⟩⟩) λu s1 Y=>?_
 obtain⟨v,H1,U,L,d,G1,k1,J,rd,q⟩:=Y;have seq:∀{a:MF} {xs:List V} {ds:List D},CL X.K H1 a xs->RDs X.K H1 ds xs->W ds G1->MJ (MK X.prog X.w) X.A (Pf (.ref a)) (Hv X pins τ tg R) X.xe s1:=λf r q=>pA U f.sq (k _ G1 _ H1 q k1 J (Be J f r));cases d with
 | lst ds=>
  obtain⟨a,xs,rfl,f,r⟩:=rd;cases L;exact seq f r q
 | fl ds=>
  obtain⟨a,xs,rfl,f,r⟩:=rd;cases L;exact seq f r q
 | tup ds=>
  obtain⟨a,xs,rfl,f,r⟩:=rd;cases L;exact yF U f (k _ G1 _ H1 q k1 J (Es J f r))
 | str z=>
  subst rd;obtain⟨t,rfl⟩:=L;refine yG U (k _ G1 _ H1 q k1 J (Bd λH'=>?_));have:signs z=(z.cps.toList.map λc=>(⟨#[c]⟩:Str)).map D.str:=by simp[signs]
  rw[this];have e2:db z=(z.cps.toList.map λc=>(⟨#[c]⟩:Str)).map V.str:=by simp[db]
  rw[e2];exact RDs.strs _
 | _=>exact q.elim
theorem yI{a:M7}{ta:lF}{p pos:Pos}(Z:Gl X "range")(Y:X.mg "range"=none)(ha:PA X [a] (dI X.K ta))(hs:MP [a] X.env=[(false,eval a X.env)]:=by rfl):PI X tg (.Call (.Name "range" p) [a] [] pos) (nO X.K (K_ ta)):=
 (BR Z Y ha hs).imp λτ H R L=>by
 obtain⟨σ,G,Q3,O,U,h,k⟩:=L;exact (
  ⟨σ,G,_,O,U,h,λds G1 vs H1 q k1 I J=>by
    split at q
    .rename_i j;obtain⟨x,r,e1,W,r2⟩:=J.inv_cons;have:=r2.inv_nil;subst e1 this W;exact⟨j,rfl,q.1.1,q.1.2,k _ G1 _ H1 q.2 k1 I yH⟩
    .exact q.elim⟩)
theorem Ew{a b:M7}{ta:lF}{p pos:Pos}(hg:Gl X "range")(hm:X.mg "range"=none)(ha:PA X [a,b] (dI X.K ta))(hs:MP [a,b] X.env=[(false,eval a X.env),(false,eval b X.env)]:=by rfl)(U:MP [b] X.env=[(false,eval b X.env)]:=by rfl):
  PI X tg (.Call (.Name "range" p) [a,b] [] pos) (nO X.K (LH ta)):=
 (BQ hg hm ha hs U).imp λτ H R Y=>by
 obtain⟨σ,G,Q3,Z,rg,h,k⟩:=Y;exact (
  ⟨σ,G,_,Z,rg,h,λds G1 vs H1 q k1 I J=>by
    split at q
    .rename_i i j;obtain⟨x,r,e1,r1,r2⟩:=J.inv_cons;obtain⟨x',r',W,O,L⟩:=r2.inv_cons;have:=L.inv_nil;subst e1 W this r1 O;exact⟨i,j,rfl,q.1,k _ G1 _ H1 q.2 k1 I yH⟩
    .exact q.elim⟩)
end
def ForIn(g:tx)(tb:bH)(E:Ends3)(σ:eV)(ds:List D)(G1:Gp):Prop:=∃Pv:Nat->eV->Gp->Prop,Pv 0 σ G1/\
 (∀(i:Nat) d I G',ds[i]?=some d->Pv i I G'->g d I G' λJ G2=>tb { E with nx:=Pv (i+1),ct:=Pv (i+1),bk:=E.nx } J G2)/\∀I G',Pv ds.length I G'->E.nx I G'
def iV(ti:Fb)(g:tx)(tb:bH):bH:=λD σ G=>ti σ G λds G1=>ForIn g tb D σ ds G1
theorem iC{X:Cx}{tg iter:M7}{body:List Nd}{ti:Fb}{g:tx}{tb:bH}{pos:Pos}(hp:Qd (MK X.prog X.w) X.A X.env X.xe)(hc:true=true)(hi:PI X tg iter (nO X.K ti))(hg:PG X tg (iI X.K g))(hb:iO X body (bx X.K tb))
  (hs:∀x,NO iter X.env x=pure x:=by intro _;rfl):PS X (.For tg iter body [] pos) (bx X.K (iV ti g tb)):=
 (DS hp hc hi hg hb hs).imp λD τ H zz=>by
 obtain⟨σ,G,D3,rs,rg,h,k⟩:=zz;exact (
  ⟨σ,G,_,rs,rg,h,λds G1 J H1 q k1 rg1 it=>by
    obtain⟨Pv,p0,step,fin⟩:=q;refine⟨λi m W H'=>m=ds.length - i/\i<=ds.length/\∃I G',RS X.K H' I W/\RG X.K H' G'/\Pv i I G'/\Kp G1 H1 G' H',⟨ds.length,rfl,NH _,σ,G1,rs.mono (k1.stb rg),rg1,p0,Kp.refl⟩,?_⟩
    rintro i m W H' ⟨rfl,hi',I,G',rs',rg',pv,k'⟩
    obtain⟨hgo,hstop⟩:=it i G' H' k' rg'
    by_cases hlt:i < ds.length
    .obtain⟨go,yld⟩:=hgo hlt;refine .inr ⟨go,λτ2 H2=>∃O G2,RS X.K H2 O τ2/\RG X.K H2 G2/\Pv (i+1) O G2/\Kp G1 H1 G2 H2,λτ2 H2 ⟨O,G2,a,b,c,d⟩=>⟨ds.length - (i+1),by omega,rfl,hlt,O,G2,a,b,c,d⟩,λx H2 y=>?_⟩
     obtain⟨ky,rgy,d,hd,rd⟩:=yld x H2 y;refine⟨d,I,G',_,rd,rs'.mono (ky.stb rg'),rgy,step i d I G' hd pv,λσ3 G3 τ3 H3 q3 k3 rg3 rs3=>?_⟩;have kk:=k'.trans (ky.trans k3);have kG:=k1.trans kk;refine⟨σ3,G3,_,rs3,rg3,q3,⟨λL G4 U H4 q4 k4 Z Y=>⟨L,G4,Y,Z,q4,kk.trans k4⟩,k.rt.base kG,λL G4 U H4 q4 k4=>k.nx L G4 U H4 q4 (kG.trans k4),λL G4 U H4 q4 k4 Z Y=>⟨L,G4,Y,Z,q4,kk.trans k4⟩⟩⟩
    .have e:i=ds.length:=by omega
     refine .inl ⟨hstop e,k.nx I G' W H' (fin I G' (by simp_all)) (k1.trans k') rg' rs'⟩⟩)
def ji:ou:=λ_ G Q=>Q true G
def tJ(k:Nat)(g:tx)(tt:ou)(te:bb)(σ:eV)(ds:List D)(G1:Gp)(Q:mf):Prop:=ds.length<=MN/\∃Pv:Nat->List D->Gp->Prop,Pv 0 [] G1/\
 (∀(i:Nat) d I G',ds[i]?=some d->Pv i I G'->g d (List.replicate k none ++ σ) G' λJ G2=>(k<=J.length/\J.drop k=σ)/\tt J G2 λb L=>if b=true then te J L λy O=>Pv (i+1) (I ++ [val y]) O else Pv (i+1) I L)/\
 ∀I G',Pv ds.length I G'->Q (.fl I) G'
def eU(k:Nat)(ti:Fb)(g:tx)(tt:ou)(te:bb):bb:=λσ G Q=>ti σ G λds G1=>tJ k g tt te σ ds G1 Q
theorem gJ{k:Nat}{g:tx}{te:bb}{σ:eV}{ds:List D}{G1:Gp}{Q:mf}(f:D->D)(W:ds.length<=MN)
  (Y:∀d∈ds,∀P:mf,(∀y,val y=f d->P y G1)->g d (List.replicate k none ++ σ) G1 λJ G2=>(k<=J.length/\J.drop k=σ)/\te J G2 P) (hq:Q (.fl (ds.map f)) G1):tJ k g ji te σ ds G1 Q:=by
 refine⟨W,λi I G'=>I=(ds.take i).map f/\G'=G1,⟨by simp,rfl⟩,λi d I G' hd ⟨L,O⟩=>?_,λI G' ⟨L,O⟩=>?_⟩
 .subst O;exact Y d (M_ hd) (λy Z=>I ++ [val y]=(ds.take (i+1)).map f/\Z=G') λy U=>⟨by rw[L,U,Nz,hd];simp,rfl⟩
 .subst O;rw[L,Nu];exact hq
theorem qk{k:Nat}{g:tx}{tt:ou}{te:bb}{σ:eV}{ds:List D}{G1:Gp}{Q:mf}(p:D->Bool)(f:D->D)(hl:ds.length<=MN)
  (he:∀d∈ds,∀(P:mf) (R:Gp->Prop),(p d=true->∀y,val y=f d->P y G1)->(p d=false->R G1)->g d (List.replicate k none ++ σ) G1 λJ G2=>(k<=J.length/\J.drop k=σ)/\tt J G2 λb Y=>if b=true then te J Y P else R Y)
  (hq:Q (.fl ((ds.filter p).map f)) G1):tJ k g tt te σ ds G1 Q:=by
 refine⟨hl,λi I G'=>I=((ds.take i).filter p).map f/\G'=G1,⟨by simp,rfl⟩,λi d I G' hd ⟨O,U⟩=>?_,λI G' ⟨O,U⟩=>?_⟩
 .subst U;have e:(ds.take (i+1)).filter p=(ds.take i).filter p ++ (if p d=true then [d]else []):=by
   rw[Nz,hd,NV];cases L:p d<;>simp[L]
  refine he d (M_ hd) (λy W=>I ++ [val y]=((ds.take (i+1)).filter p).map f/\W=G') (λW=>I=((ds.take (i+1)).filter p).map f/\W=G') (λL y Z=>⟨?_,rfl⟩) λL=>⟨?_,rfl⟩
  .rw[e,L,O,Z];simp
  .rw[e,L,O];simp
 .subst U;rw[O,Nu];exact hq
section
variable{X:Cx}{elt tg iter:M7}{ifs:List M7}{scope:OU}{T M:List Str}{pos:Pos}{ti:Fb}{g:tx}{tt:ou}{te:bb}
theorem Du{K:Pj}{H:Hp}{σ:eV}{τ:St}(T:List Str)(r:RS K H σ τ):RS K H (List.replicate T.length none ++ σ) (ent T τ):=by
 unfold ent
 induction T with
 | nil=>exact r
 | cons a t I=>exact .cons (show CC K H none none from trivial) I
theorem oQ{K:Pj}{H:Hp}:∀(k:Nat) {σ:eV} {τ:St},k<=σ.length->RS K H σ τ->RS K H (List.replicate k none ++ σ.drop k) τ
 | 0,_,_,_,r=>r
 | k+1,[],_,h,_=>absurd h (by simp)
 | k+1,a::t,_,h,.cons _ r=>.cons (show CC K H none _ from trivial) (oQ k (by simpa using h) r)
theorem vm{K:Pj}{τ:St}{H:Hp}{Q:VK}(h:aB K (eU T.length ti g tt te) τ H Q):
  AR (ent T) (nO K ti) (iI K g) (cY K tt) (va K te) τ H Q:=by
 obtain⟨σ,G,Q3,rs,rg,h,k⟩:=h;refine⟨σ,G,_,rs,rg,h,λds G1 J H1 q k1 rg1 it Da hD=>?_⟩;obtain⟨hsz,Pv,p0,step,fin⟩:=q;have kD:Kp G1 H1 G1 (aV H1 Da (.lst [])):=Kp.laid hD;have rgD:RG K (aV H1 Da (.lst [])) G1:=rg1.laid hD;have gD:G1 Da=none:=rg1.free hD;refine⟨λi m ys τ2 H2=>m=ds.length - i/\i<=ds.length/\∃I G2,H2 Da=some (.lst ys)/\G2 Da=none/\RG K H2 G2/\RS K H2 (List.replicate T.length none ++ σ) τ2/\RDs K H2 I ys/\I.length<=i/\Pv i I G2/\(∀a h,a≠Da->H1 a=some h->G1 a=none->H2 a=some h/\G2 a=none),
  ⟨ds.length,rfl,NH _,[],G1,aG,gD,rgD,Du T (rs.mono ((k1.trans kD).stb rg)),RDs.nil,le_refl _,p0,λa h ha e n=>⟨by rw[ao ha];exact e,n⟩⟩,?_⟩
 rintro i m ys τ2 H2 ⟨rfl,hi',I,G2,eD,nD,L,rs2,ra,la,pv,k2⟩
 have Z:Kp G1 H1 G2 H2:=λa h e n=>k2 a h (bw e hD) e n;refine⟨eD,?_⟩;obtain⟨hgo,hstop⟩:=it i G2 H2 Z L
 by_cases hlt:i < ds.length
 .obtain⟨go,yld⟩:=hgo hlt;refine .inr ⟨go,λW τ' H'=>∃I G',H' Da=some (.lst W)/\G' Da=none/\RG K H' G'/\RS K H' (List.replicate T.length none ++ σ) τ'/\RDs K H' I W/\I.length<=i+1/\Pv (i+1) I G'/\(∀a h,a≠Da->H1 a=some h->G1 a=none->H' a=some h/\G' a=none),
   λW τ' H' q'=>⟨ds.length - (i+1),by omega,rfl,hlt,q'⟩,λx H3 y=>?_⟩
  obtain⟨ky,rgy,d,hd,rd⟩:=yld x H3 y;refine⟨d,List.replicate T.length none ++ σ,G2,_,rd,rs2.mono (ky.stb L),rgy,step i d I G2 hd pv,λσ4 G4 τ4 H4 q4 k4 O Y=>?_⟩;obtain⟨⟨hlen,hdrop⟩,q4⟩:=q4;have U:RS K H4 (List.replicate T.length none ++ σ) τ4:=by
   have:=oQ T.length hlen Y;rw[hdrop]at this;exact this
  refine⟨σ4,G4,_,Y,O,q4,λb G5 H5 q5 k5 rg5=>?_⟩;have e3:H3 Da=some (.lst ys):=(ky Da _ eD nD).1;have e4:=k4 Da _ e3 nD;have e5:=k5 Da _ e4.1 e4.2;have kk:∀{G6:Gp} {H6:Hp},Kp G5 H5 G6 H6->∀a h,a≠Da->H1 a=some h->G1 a=none->H6 a=some h/\G6 a=none:=λk6 a h ha e n=>((((Kp.trans Z ky).trans k4).trans k5).trans k6) a h e n;cases b with
  | false=>
   refine iteF ⟨I,G5,e5.1,e5.2,rg5,U.mono (k5.stb O),RDs.mono (((ky.trans k4).trans k5).stb L) _ _ ra,by omega,q5,kk Kp.refl⟩
  | true=>
   refine iteT ⟨σ4,G5,_,Y.mono (k5.stb O),rg5,q5,λyv G6 v H6 q6 k6 rg6 rd6=>?_⟩;have e6:=k6 Da _ e5.1 e5.2;have la':=ra.length;have st:Stb K H6 (aV H6 Da (.lst (ys ++ [v]))):=by
    constructor
    .intro a zs q;rcases q with (q|⟨o,q⟩)|q
     .exact .inl (.inl (by rw[ao (λz=>by subst z;rw[e6.1]at q;cases q)];exact q))
     .exact .inl (.inr ⟨o,by rw[ao (λz=>by subst z;rw[e6.1]at q;cases q)];exact q⟩)
     .exact .inr q
    .intro a zs q;rcases q with ⟨o,q⟩|q
     .exact .inl ⟨o,by rw[ao (λz=>by subst z;rw[e6.1]at q;cases q)];exact q⟩
     .exact .inr q
   refine⟨e6.1,by omega,I ++ [val yv],G6,aG,e6.2,λa o q=>?_,(U.mono ((k5.trans k6).stb O)).mono st,?_,by simp;omega,q6,λa h ha e n=>?_⟩
   .obtain⟨h',q1,q2⟩:=rg6 a o q;exact⟨h',by rw[ao (λz=>by subst z;rw[e6.2]at q;cases q)];exact q1,q2.mono st⟩
   .exact RDs.append (RDs.mono st _ _ (RDs.mono ((((ky.trans k4).trans k5).trans k6).stb L) _ _ ra)) (RDs.cons (RD.mono st _ _ rd6) RDs.nil)
   .rw[ao ha];exact kk k6 a h ha e n
 .have e:i=ds.length:=by omega
  refine .inl ⟨hstop e,k _ G2 _ H2 (fin I G2 (by rw[<- e];exact pv)) (k1.trans Z) L (.inl ⟨I,Da,ys,rfl,rfl,eD,nD,ra,?_⟩)⟩
  exact k1.fr (qP hD)
theorem jP:Fd X [] (cY X.K ji):=λpins s τ H Q I h=>by
 obtain⟨σ,G,O,L,J,h,k⟩:=h;exact FL pins s τ H Q I (k true G H h Kp.refl J)
theorem oF{c:M7}{tc:ou}(h:PT X c (cY X.K tc)):Fd X [c] (cY X.K tc):=FK h
theorem hZ(ok:CompOk X scope T M)
  (I:∀cl C s₀ H₀ fp,PG (bD X (T ++ M) scope cl C s₀ H₀ fp) tg (iI X.K g)/\Fd (bD X (T ++ M) scope cl C s₀ H₀ fp) ifs (cY X.K tt)/\PE (bD X (T ++ M) scope cl C s₀ H₀ fp) elt (aB X.K te))
  (hi:PI X tg iter (nO X.K ti)) (hs:∀x,NO iter X.env x=pure x:=by intro _;rfl):PE X (.ListComp elt [⟨tg,iter,ifs,0⟩] scope pos) (aB X.K (eU T.length ti g tt te)):=
 (A4 ok (λcl C s₀ H₀ fp=>let ⟨a,b,c⟩:=I cl C s₀ H₀ fp;⟨a,b,dD c⟩) hi hs).imp λ_ _ _ h=>vm h
theorem zR{i:Nat}{x:Str}{px spos:Pos}(ok:CompOk X scope T M)(hN:X.N.Nodup)(Y:X.N[i]?=some x)(hx:X.env.scope.names.lookup x=some .local)
  (Z:∀cl C s₀ H₀ fp,PG (bD X (T ++ M) scope cl C s₀ H₀ fp) tg (iI X.K g)/\Fd (bD X (T ++ M) scope cl C s₀ H₀ fp) ifs (cY X.K tt)/\PE (bD X (T ++ M) scope cl C s₀ H₀ fp) elt (aB X.K te))
  (hi:PI X tg iter (nO X.K ti)) (W:N7 (.ListComp elt [⟨tg,iter,ifs,0⟩] scope pos) (some (.Name x px)) spos.line X.env=pure true:=by rfl) (hs:∀x,NO iter X.env x=pure x:=by intro _;rfl):
  PS X (.Assign [.Name x px] (.ListComp elt [⟨tg,iter,ifs,0⟩] scope pos) spos) (bx X.K (bQ i (eU T.length ti g tt te))):=
 (FP ok hN Y hx (λcl C s₀ H₀ fp=>let ⟨a,b,c⟩:=Z cl C s₀ H₀ fp;⟨a,b,dD c⟩) hi W hs).imp λD τ H zz=>by
  obtain⟨σ,G,D3,L,U,h,k⟩:=zz;refine vm (Q:=λv H1=>D.nx (τ.set i (some v)) H1\/∃p xs,v=.ref p/\H1 p=some (.lst xs)/\∀o,D.nx (τ.set i (some v)) (aV H1 p (.frz o (.lst xs)))) ⟨σ,G,_,L,U,h,λd G' v H' q J I re=>?_⟩;cases d with
  | fl ds=>
   obtain⟨p,xs,rfl,e1,e2,e3,e4⟩:=re.fl;refine .inr ⟨p,xs,rfl,e1,λo=>?_⟩;obtain⟨O,st⟩:=ED (o:=o) I e1 e2;exact k.nx _ G' _ _ q (EE (K:=X.K) J e4) O (((L.mono (J.stb U)).mono st).set (rU (.inl ⟨o,aG⟩) (RDs.mono st _ _ e3)) i)
  | _=>exact .inl (k.nx _ G' _ H' q J I ((L.mono (J.stb U)).set (re.rd (by intro ds z;cases z)) i))
end
open PySem.SeqAt
def eK(x y:D):Bool:=@decide (x=y) (Classical.propDecidable _)
theorem oh{x y:D}:eK x y=true↔x=y:=by unfold eK;exact @decide_eq_true_iff _ (Classical.propDecidable _)
theorem bo(x:D):eK x x=true:=oh.mpr rfl
theorem EJ{x y:D}(h:x=y):eK x y=true:=oh.mpr h
theorem bC{x y:D}(h:x≠y):eK x y=false:=by
 cases e:eK x y with
 | false=>rfl
 | true=>exact absurd (oh.mp e) h
theorem oj{x y:D}{b:Bool}(h:(b=true)↔x=y):eK x y=b:=by
 cases b with
 | true=>exact EJ (h.mp rfl)
 | false=>exact bC λe=>nomatch h.mpr e
def pl:Nat->D->Prop
 | _,.non=>True
 | _,.int _=>True
 | _,.str _=>True
 | n+1,.tup ds=>∀d∈ds,pl n d
 | n+1,.lst ds=>∀d∈ds,pl n d
 | _,_=>False
section
variable{X:Cx}{pins:List (MF×Obj)}{σ:St}{H:Hp}{s:MD}
theorem A6(I:Inv X pins σ H s){a:MF}{xs ys:List V}(h1:jL X.K H a xs)(h2:ij X.K H a ys):False:=by
 obtain⟨_,_,⟨o,e,c,_⟩,_⟩:=I.tuple h1;obtain⟨_,_,p,_⟩:=I.list h2;obtain⟨o',J,L,_⟩:=p.isList;rw[e]at J;cases J;rw[c]at L;injection L with z
 exact absurd z (by decide)
theorem DB(I:Inv X pins σ H s):∀(n:Nat) {x y:D} {v:V},pl n x->pl n y->RD X.K H x v->RD X.K H y v->x=y:=by
 intro n
 induction n with
 | zero=>
  intro x y v U py rx J;cases x<;>first|exact U.elim|(cases y<;>first|exact py.elim|(simp only[RD]at rx J;subst rx;first|rfl|(cases J;rfl)|cases J))
 | succ n ih=>
  have seq:∀{ds es:List D} {xs:List V},(∀d∈ds,pl n d)->(∀d∈es,pl n d)->RDs X.K H ds xs->RDs X.K H es xs->ds=es:=by
   intro ds
   induction ds with
   | nil=>
    intro es xs _ _ O r2;have:=O.inv_nil;subst this;cases es with
    | nil=>rfl
    | cons e t=>have:=r2.length;simp at this
   | cons d t W=>
    intro es xs Z p2 O r2;obtain⟨v,vs,e1,a1,b1⟩:=O.inv_cons;subst e1;cases es with
    | nil=>have:=r2.length;simp at this
    | cons e u=>
     obtain⟨v',vs',e2,a2,b2⟩:=r2.inv_cons;cases e2;rw[ih (Z d MW) (p2 e MW) a1 a2,W (λz Y=>Z z (MQ _ Y)) (λz Y=>p2 z (MQ _ Y)) b1 b2]
  intro x y v U py rx J;cases x with
  | tup ds=>
   simp only[RD]at rx;obtain⟨a,xs,rfl,s1,O⟩:=rx;cases y with
   | tup es=>
    simp only[RD]at J;obtain⟨b,ys,e,L,r2⟩:=J;cases e;have:=I.tuple_inj s1 L;subst this;rw[seq U py O r2]
   | lst es=>
    simp only[RD]at J;obtain⟨b,ys,e,L,r2⟩:=J;cases e;exact (A6 I s1 L.sq).elim
   | _=>first|exact py.elim|(simp only[RD]at J;cases J)
  | lst ds=>
   simp only[RD]at rx;obtain⟨a,xs,rfl,s1,O⟩:=rx;cases y with
   | lst es=>
    simp only[RD]at J;obtain⟨b,ys,e,L,r2⟩:=J;cases e;have:=I.list_inj s1.sq L.sq;subst this;rw[seq U py O r2]
   | tup es=>
    simp only[RD]at J;obtain⟨b,ys,e,L,r2⟩:=J;cases e;exact (A6 I L s1.sq).elim
   | _=>first|exact py.elim|(simp only[RD]at J;cases J)
  | _=>first|exact U.elim|(cases y with
   | tup es=>simp only[RD]at rx J;obtain⟨b,ys,e,_⟩:=J;rw[rx]at e;cases e
   | lst es=>simp only[RD]at rx J;obtain⟨b,ys,e,_⟩:=J;rw[rx]at e;cases e
   | _=>first|exact py.elim|(simp only[RD]at rx J;subst rx;first|rfl|(cases J;rfl)|cases J))
structure Cmp3(A:MS)(s:MD)(v u:MC)(b:Bool):Prop where
 eq:EqAt A s v u b
 rc:RcAt A s v u b
 ne:RcNeAt A s v u (!b)
theorem xa{ds es:List D}(n:Nat)(hn:n=min ds.length es.length):((List.range n).all (λj=>eK (ds.getD j .non) (es.getD j .non)) && ds.length == es.length)=eK (.tup ds) (.tup es):=by
 symm;refine oj ?_;rw[Bool.and_eq_true,List.all_eq_true,beq_iff_eq];constructor
 .rintro⟨h1,h2⟩
  congr 1;refine List.ext_getElem h2 λi hi I=>?_;have:=oh.mp (h1 i (mem_range.mpr (by omega)))
  rw[MX,MX,MO hi,MO I]at this
  simpa using this
 .intro h;cases h;exact⟨λi _=>bo _,rfl⟩
theorem GB{ds es:List D}:eK (.lst ds) (.lst es)=eK (.tup ds) (.tup es):=oj (by rw[oh];constructor<;>(intro h;cases h;rfl))
theorem Vals.getV:∀{xs:List V} {us:List MC} {i:Nat} {u:MC},Vals xs us->us[i]?=some u->∃x,xs[i]?=some x/\aF x u
 | _,_,_,_,.nil,e=>by simp at e
 | _,_,0,_,.cons r _,e=>by simp at e;subst e;exact⟨_,rfl,r⟩
 | _,_,i+1,u,.cons _ t,e=>by
  obtain⟨x,h1,h2⟩:=Vals.getV (i:=i) (u:=u) t (by simpa using e)
  exact⟨x,by simpa using h1,h2⟩
theorem RDs.getV{K:Pj}{H:Hp}:∀{ds:List D} {xs:List V} {i:Nat} {x:V},RDs K H ds xs->xs[i]?=some x->∃d,ds[i]?=some d/\RD K H d x
 | [],xs,i,x,h,e=>by rw[h.inv_nil]at e;simp at e
 | d::ds,xs,i,x,h,e=>by
  obtain⟨y,r,L,h1,h2⟩:=h.inv_cons;subst L;cases i with
  | zero=>simp at e;subst e;exact⟨d,rfl,h1⟩
  | succ i=>
   obtain⟨z,J,I⟩:=RDs.getV (i:=i) (x:=x) h2 (by simpa using e)
   exact⟨z,by simpa using J,I⟩
def sc:D->Prop
 | .non=>True
 | .int _=>True
 | .str _=>True
 | _=>False
theorem Ji{j:Int}{t:Tok}{A:MS}:Cmp3 A s .none (.int j t) (eK .non (.int j)):=by rw[bC (by intro z;cases z)];exact⟨EqAt.none_int _ _,RcAt.none_int _ _,RcNeAt.none_int _ _⟩
theorem Jg{j:Str}{t:Tok}{A:MS}:Cmp3 A s .none (.str j t) (eK .non (.str j)):=by rw[bC (by intro z;cases z)];exact⟨EqAt.none_str _ _,RcAt.none_str _ _,RcNeAt.none_str _ _⟩
theorem Jk{j:Int}{t:Tok}{A:MS}:Cmp3 A s (.int j t) .none (eK (.int j) .non):=by rw[bC (by intro z;cases z)];exact⟨EqAt.int_none _ _,RcAt.int_none _ _,RcNeAt.int_none _ _⟩
theorem Je{j:Str}{t:Tok}{A:MS}:Cmp3 A s (.str j t) .none (eK (.str j) .non):=by rw[bC (by intro z;cases z)];exact⟨EqAt.str_none _ _,RcAt.str_none _ _,RcNeAt.str_none _ _⟩
theorem Jj{i:Int}{j:Str}{t u:Tok}{A:MS}:Cmp3 A s (.int i t) (.str j u) (eK (.int i) (.str j)):=by rw[bC (by intro z;cases z)];exact⟨EqAt.int_str _ _ _ _,RcAt.int_str _ _ _ _,RcNeAt.int_str _ _ _ _⟩
theorem Jf{i:Str}{j:Int}{t u:Tok}{A:MS}:Cmp3 A s (.str i t) (.int j u) (eK (.str i) (.int j)):=by rw[bC (by intro z;cases z)];exact⟨EqAt.str_int _ _ _ _,RcAt.str_int _ _ _ _,RcNeAt.str_int _ _ _ _⟩
theorem Jl{i j:Int}{t u:Tok}{A:MS}:Cmp3 A s (.int i t) (.int j u) (eK (.int i) (.int j)):=by
 have e:eK (.int i) (.int j)=(i == j):=oj (by rw[beq_iff_eq];exact⟨λz=>by rw[z],λz=>by cases z;rfl⟩)
 rw[e];exact⟨EqAt.int_int _ _ _ _,RcAt.int_int _ _ _ _,RcNeAt.int_int _ _ _ _⟩
theorem Jd{i j:Str}{t u:Tok}{A:MS}:Cmp3 A s (.str i t) (.str j u) (eK (.str i) (.str j)):=by
 have e:eK (.str i) (.str j)=(i == j):=oj (by rw[beq_iff_eq];exact⟨λz=>by rw[z],λz=>by cases z;rfl⟩)
 rw[e];exact⟨EqAt.str_str _ _ _ _,RcAt.str_str _ _ _ _,RcNeAt.str_str _ _ _ _⟩
theorem Jh{A:MS}:Cmp3 A s .none .none (eK .non .non):=by rw[bo];exact⟨EqAt.same _,RcAt.none_none,RcNeAt.none_none⟩
theorem oJ{K:Pj}{x:D}{v:V}{I:MC}(h:sc x)(r:RD K H x v)(l:aF v I):(x=.non/\I=.none)\/(∃i t,x=.int i/\I=.int i t)\/(∃i t,x=.str i/\I=.str i t):=by
 cases x with
 | non=>simp only[RD]at r;subst r;exact .inl ⟨rfl,l⟩
 | int i=>simp only[RD]at r;subst r;obtain⟨t,e⟩:=l;exact .inr (.inl ⟨i,t,rfl,e⟩)
 | str i=>simp only[RD]at r;subst r;obtain⟨t,e⟩:=l;exact .inr (.inr ⟨i,t,rfl,e⟩)
 | _=>exact h.elim
theorem EU{K:Pj}{A:MS}{x y:D}{v u:V}{L O:MC}(h1:sc x)(h2:sc y)(rx:RD K H x v)(I:RD K H y u)(U:aF v L)(J:aF u O):Cmp3 A s L O (eK x y):=by
 rcases oJ h1 rx U with ⟨rfl,rfl⟩|⟨i,t,rfl,rfl⟩|⟨i,t,rfl,rfl⟩
 .rcases oJ h2 I J with ⟨rfl,rfl⟩|⟨j,u,rfl,rfl⟩|⟨j,u,rfl,rfl⟩
  .exact Jh
  .exact Ji
  .exact Jg
 .rcases oJ h2 I J with ⟨rfl,rfl⟩|⟨j,u,rfl,rfl⟩|⟨j,u,rfl,rfl⟩
  .exact Jk
  .exact Jl
  .exact Jj
 .rcases oJ h2 I J with ⟨rfl,rfl⟩|⟨j,u,rfl,rfl⟩|⟨j,u,rfl,rfl⟩
  .exact Je
  .exact Jf
  .exact Jd
theorem uQ{n:Nat}{x:D}(p:pl n x):sc x\/(∃m ds,n=m+1/\x=.tup ds/\∀d∈ds,pl m d)\/(∃m ds,n=m+1/\x=.lst ds/\∀d∈ds,pl m d):=by
 cases x with
 | non=>exact .inl trivial
 | int _=>exact .inl trivial
 | str _=>exact .inl trivial
 | tup ds=>cases n with
  | zero=>exact p.elim
  | succ m=>exact .inr (.inl ⟨m,ds,rfl,rfl,p⟩)
 | lst ds=>cases n with
  | zero=>exact p.elim
  | succ m=>exact .inr (.inr ⟨m,ds,rfl,rfl,p⟩)
 | bl _=>cases n<;>exact p.elim
 | fl _=>cases n<;>exact p.elim
 | ref _=>cases n<;>exact p.elim
 | ty _=>cases n<;>exact p.elim
theorem ES{K:Pj}{A:MS}{b:MF}{O:Array MC}{es:List D}(I:A.units < NA)(J:s.heap.IsTuple b O){x:D}{v:V}{L:MC}(h:sc x)(rx:RD K H x v)(U:aF v L):Cmp3 A s L (.ref b) (eK x (.tup es))/\Cmp3 A s (.ref b) L (eK (.tup es) x):=by
 rcases oJ h rx U with ⟨rfl,rfl⟩|⟨i,t,rfl,rfl⟩|⟨i,t,rfl,rfl⟩
 .rw[bC (by intro z;cases z),bC (by intro z;cases z)]
  exact⟨⟨EqAt.none_tuple J I,RcAt.none_tuple J I,RcNeAt.none_tuple J I⟩,⟨EqAt.tuple_none J I,RcAt.tuple_none J I,RcNeAt.tuple_none J I⟩⟩
 .rw[bC (by intro z;cases z),bC (by intro z;cases z)]
  exact⟨⟨EqAt.int_tuple _ _ J I,RcAt.int_tuple _ _ J I,RcNeAt.int_tuple _ _ J I⟩,⟨EqAt.tuple_int _ _ J I,RcAt.tuple_int _ _ J I,RcNeAt.tuple_int _ _ J I⟩⟩
 .rw[bC (by intro z;cases z),bC (by intro z;cases z)]
  exact⟨⟨EqAt.str_tuple _ _ J I,RcAt.str_tuple _ _ J I,RcNeAt.str_tuple _ _ J I⟩,⟨EqAt.tuple_str _ _ J I,RcAt.tuple_str _ _ J I,RcNeAt.tuple_str _ _ J I⟩⟩
theorem ET{K:Pj}{A:MS}{b:MF}{O:Array MC}{es:List D}(I:A.units < NA)(J:s.heap.IsList b O){x:D}{v:V}{L:MC}(h:sc x)(rx:RD K H x v)(U:aF v L):Cmp3 A s L (.ref b) (eK x (.lst es))/\Cmp3 A s (.ref b) L (eK (.lst es) x):=by
 rcases oJ h rx U with ⟨rfl,rfl⟩|⟨i,t,rfl,rfl⟩|⟨i,t,rfl,rfl⟩
 .rw[bC (by intro z;cases z),bC (by intro z;cases z)]
  exact⟨⟨EqAt.none_list J I,RcAt.none_list J I,RcNeAt.none_list J I⟩,⟨EqAt.list_none J I,RcAt.list_none J I,RcNeAt.list_none J I⟩⟩
 .rw[bC (by intro z;cases z),bC (by intro z;cases z)]
  exact⟨⟨EqAt.int_list _ _ J I,RcAt.int_list _ _ J I,RcNeAt.int_list _ _ J I⟩,⟨EqAt.list_int _ _ J I,RcAt.list_int _ _ J I,RcNeAt.list_int _ _ J I⟩⟩
 .rw[bC (by intro z;cases z),bC (by intro z;cases z)]
  exact⟨⟨EqAt.str_list _ _ J I,RcAt.str_list _ _ J I,RcNeAt.str_list _ _ J I⟩,⟨EqAt.list_str _ _ J I,RcAt.list_str _ _ J I,RcNeAt.list_str _ _ J I⟩⟩
theorem yW(I:Inv X pins σ H s):∀(n:Nat) {x y:D} {v u:V} {v' u':MC} {A:MS},pl n x->pl n y->RD X.K H x v->RD X.K H y u->aF v v'->aF u u'->A.units+n < NA->Cmp3 A s v' u' (eK x y):=by
 intro n
 induction n with
 | zero=>
  intro x y v u v' u' A px py rx W lx ly hu;rcases uQ px with h1|⟨m,_,e,_⟩|⟨m,_,e,_⟩
  .rcases uQ py with h2|⟨m,_,e,_⟩|⟨m,_,e,_⟩
   .exact EU h1 h2 rx W lx ly
   .cases e
   .cases e
  .cases e
  .cases e
 | succ n ih=>
  intro x y v u v' u' A px py rx W lx ly hu;have L:A.units < NA:=by omega
  have hu1:A.in1.units+n < NA:=by show A.units+1+n < NA;omega
  have items:∀{ds es:List D} {xs ys:List V} {O J:List MC},(∀d∈ds,pl n d)->(∀d∈es,pl n d)->RDs X.K H ds xs->RDs X.K H es ys->Vals xs O->Vals ys J->
    ∀j (h1:j < O.toArray.size) (h2:j < J.toArray.size),EqAt A.in1 s O.toArray[j] J.toArray[j] (eK (ds.getD j .non) (es.getD j .non)):=by
   intro ds es xs ys O J p1 p2 r1 r2 w1 w2 j h1 h2;obtain⟨x1,e1,q1⟩:=Vals.getV (i:=j) (u:=O.toArray[j]) w1 (by simp at h1;simp[h1])
   obtain⟨x2,e2,q2⟩:=Vals.getV (i:=j) (u:=J.toArray[j]) w2 (by simp at h2;simp[h2])
   obtain⟨d1,f1,g1⟩:=RDs.getV r1 e1;obtain⟨d2,f2,g2⟩:=RDs.getV r2 e2;have:=(ih (A:=A.in1) (p1 d1 (M_ f1)) (p2 d2 (M_ f2)) g1 g2 q1 q2 hu1).eq;rw[MX,MX,f1,f2];exact this
  rcases uQ px with h1|⟨m,ds,e1,rfl,p1⟩|⟨m,ds,e1,rfl,p1⟩
  .rcases uQ py with h2|⟨m,es,e2,rfl,p2⟩|⟨m,es,e2,rfl,p2⟩
   .exact EU h1 h2 rx W lx ly
   .simp only[RD]at W;obtain⟨b,ys,rfl,Z,r2⟩:=W;cases ly;obtain⟨J,w2,U,z2⟩:=I.tuple Z;exact (ES L U h1 rx lx).1
   .simp only[RD]at W;obtain⟨b,ys,rfl,Z,r2⟩:=W;cases ly;obtain⟨J,w2,U,z2⟩:=I.list Z.sq;exact (ET L U.isList h1 rx lx).1
  .cases e1;simp only[RD]at rx;obtain⟨a,xs,rfl,s1,r1⟩:=rx;cases lx;obtain⟨O,w1,Y,z1⟩:=I.tuple s1;have l1:=w1.length;have l1':=r1.length;rcases uQ py with h2|⟨m,es,e2,rfl,p2⟩|⟨m,es,e2,rfl,p2⟩
   .exact (ES L Y h2 W ly).2
   .cases e2;simp only[RD]at W;obtain⟨b,ys,rfl,Z,r2⟩:=W;cases ly;obtain⟨J,w2,U,z2⟩:=I.tuple Z;have l2:=w2.length;have l2':=r2.length;have he:=items p1 p2 r1 r2 w1 w2;have hsz:O.toArray.size=ds.length:=by simp only[M1];omega
    have SQ:J.toArray.size=es.length:=by simp only[M1];omega
    have rc:=RcAt.tuples (A:=A) Y U L he;have rn:=RcNeAt.tuples (A:=A) Y U L he;rw[hsz,SQ,xa _ rfl]at rc;rw[hsz,SQ,xa _ rfl]at rn;refine⟨?_,rc,rn⟩
    by_cases hab:a=b
    .subst hab;have:D.tup ds=D.tup es:=DB I (n+1) (v:=.ref a) px py (oZ s1 r1) (oZ Z r2);rw[this,bo];exact EqAt.same _
    .exact EqAt.of_refs hab rc
   .simp only[RD]at W;obtain⟨b,ys,rfl,Z,r2⟩:=W;cases ly;obtain⟨J,w2,U,z2⟩:=I.list Z.sq;rw[bC (by intro z;cases z)]
    exact⟨EqAt.tuple_list Y U.isList L,RcAt.tuple_list Y U.isList L,RcNeAt.tuple_list Y U.isList L⟩
  .cases e1;simp only[RD]at rx;obtain⟨a,xs,rfl,s1,r1⟩:=rx;cases lx;obtain⟨O,w1,Y,z1⟩:=I.list s1.sq;have l1:=w1.length;have l1':=r1.length;rcases uQ py with h2|⟨m,es,e2,rfl,p2⟩|⟨m,es,e2,rfl,p2⟩
   .exact (ET L Y.isList h2 W ly).2
   .simp only[RD]at W;obtain⟨b,ys,rfl,Z,r2⟩:=W;cases ly;obtain⟨J,w2,U,z2⟩:=I.tuple Z;rw[bC (by intro z;cases z)]
    exact⟨EqAt.list_tuple Y.isList U L,RcAt.list_tuple Y.isList U L,RcNeAt.list_tuple Y.isList U L⟩
   .cases e2;simp only[RD]at W;obtain⟨b,ys,rfl,Z,r2⟩:=W;cases ly;obtain⟨J,w2,U,z2⟩:=I.list Z.sq;have l2:=w2.length;have l2':=r2.length;have he:=items p1 p2 r1 r2 w1 w2;have hsz:O.toArray.size=ds.length:=by simp only[M1];omega
    have SQ:J.toArray.size=es.length:=by simp only[M1];omega
    have rc:RcAt A s (.ref a) (.ref b) (eK (.lst ds) (.lst es))/\RcNeAt A s (.ref a) (.ref b) (!eK (.lst ds) (.lst es)):=by
     rw[GB]
     by_cases hl:ds.length=es.length
     .have rc:=RcAt.lists (A:=A) Y.isList U.isList (by omega) L he
      have rn:=RcNeAt.lists (A:=A) Y.isList U.isList (by omega) L he
      have e:=xa (ds:=ds) (es:=es) O.toArray.size (by omega)
      rw[hl,beq_self_eq_true,Bool.and_true]at e;rw[e]at rc rn;exact⟨rc,rn⟩
     .rw[bC (by intro z;cases z;exact hl rfl)]
      exact⟨RcAt.lists_lengths Y.isList U.isList (by rw[hsz,SQ];simpa using hl) L,RcNeAt.lists_lengths Y.isList U.isList (by rw[hsz,SQ];simpa using hl) L⟩
    refine⟨?_,rc.1,rc.2⟩
    by_cases hab:a=b
    .subst hab;have:D.lst ds=D.lst es:=DB I (n+1) (v:=.ref a) px py (rU s1 r1) (rU Z r2);rw[this,bo];exact EqAt.same _
    .exact EqAt.of_refs hab rc.1
end
end L3
namespace L2
open PySem PySem.Spec PyProof.Rows
def mK(I:List Nat)(lo hi:Option Int):List Nat:=(I.drop (HT.sIx I.length 0 lo)).take (HT.sIx I.length I.length hi - HT.sIx I.length 0 lo)
theorem DU(I:Array Nat)(i k:Nat):(List.range k).filterMap (λm=>I[i+m]?)=(I.toList.drop i).take k:=by
 induction k generalizing i with
 | zero=>simp
 | succ k U=>
  rw[List.range_succ_eq_map,NJ,List.filterMap_map];have e:(λm=>I[i+m]?) ∘ Nat.succ=λm=>I[(i+1)+m]?:=by funext m;simp[Nat.succ_eq_add_one];congr 1;omega
  rw[e,U (i+1)];cases h:I.toList.drop i with
  | nil=>
   have O:I.toList.length<=i:=List.drop_eq_nil_iff.mp h;have h1:I[i+0]?=none:=by simp at O;simp[O]
   have h2:I.toList.drop (i+1)=[]:=List.drop_eq_nil_iff.mpr (by omega)
   rw[h1,h2];simp
  | cons c r=>
   have J:i < I.toList.length:=by
    refine Nat.lt_of_not_le λL=>?_;rw[List.drop_eq_nil_iff.mpr L]at h;cases h
   have h0:=List.drop_eq_getElem_cons J;rw[h]at h0;cases h0;have h1:I[i+0]?=some I.toList[i]:=by simp at J;simp[J]
   rw[h1,List.take_succ_cons]
theorem yX(n:Nat)(o:Option Int)(d:Nat)(hd:d<=n):(match o with
  | none=>(d:Int)
  | some i=>max 0 (min (if i < 0 then i+(n:Int)else i) (n:Int)))=((HT.sIx n d o:Nat):Int):=by
 cases o with
 | none=>rfl
 | some i=>
  simp only[HT.sIx]
  by_cases h:i < 0
  .simp only[h,if_true];omega
  .simp only[h,if_false];omega
theorem sQ(lo hi:Option Int)(n:Nat):N5 lo hi 1 n=(List.range (HT.sIx n n hi - HT.sIx n 0 lo)).map λm=>HT.sIx n 0 lo+m:=by
 have h1:=yX n lo 0 (NH _);have h2:=yX n hi n (le_refl _);have e:N5 lo hi 1 n=RW ((HT.sIx n 0 lo:Nat):Int) ((HT.sIx n n hi:Nat):Int) 1:=by
  rw[<- h1,<- h2];unfold N5;cases lo<;>cases hi<;>simp
 rw[e];unfold RW;simp only[show (1:Int) > 0 by decide,if_true]
 have c:(if ((HT.sIx n 0 lo:Nat):Int) < ((HT.sIx n n hi:Nat):Int)then (((HT.sIx n n hi:Nat):Int) - ((HT.sIx n 0 lo:Nat):Int)+1 - 1) / 1 else 0).toNat=HT.sIx n n hi - HT.sIx n 0 lo:=by
  rw[Int.ediv_one];split<;>omega
 rw[c];refine Om λk _=>?_;omega
theorem kH(I:List Nat)(lo hi:Option Int):(mK I lo hi).length<=I.length:=by
 unfold mK;rw[NI,O1];omega
theorem BF(x:Str)(lo hi:Option Int):Txt.slice x lo hi=⟨(mK x.cps.toList lo hi).toArray⟩:=by
 have hn:x.length=x.cps.toList.length:=by simp[PJ]
 have key:(N5 lo hi 1 x.length).filterMap (x.cps[·]?)=mK x.cps.toList lo hi:=by
  rw[sQ,List.filterMap_map];unfold mK;rw[<- hn,<- DU];rfl
 unfold Txt.slice;split
 .rename_i h;rw[Bool.and_eq_true]at h;have I:(N5 lo hi 1 x.length).length=x.length:=by simpa using h.2
  rw[sQ,MH,List.length_range]at I;have L:HT.sIx x.length x.length hi<=x.length:=HT.sIx_le _ _ (le_refl _) _;have h0:HT.sIx x.length 0 lo=0\/x.length=0:=by omega
  have e:mK x.cps.toList lo hi=x.cps.toList:=by
   unfold mK;rw[<- hn];rcases h0 with h0|h0
   .have J:HT.sIx x.length x.length hi=x.length:=by omega
    rw[h0,J,Qb,Nat.sub_zero,hn,Nu]
   .have:x.cps.toList=[]:=List.length_eq_zero_iff.mp (by omega)
    rw[this];simp
  rw[e]
 .rw[key]
section
variable{X:Cx}
theorem Ft{ns:List Str}:∀{us:List MC},Vals (ns.map V.str) us->StrsAre us ns:=by
 induction ns with
 | nil=>intro us r;cases r;exact .nil
 | cons n t I=>
  intro us r;cases r with
  | cons a b=>
   obtain⟨tk,rfl⟩:=a;exact .cons n tk (I b)
theorem Gg:Md X "str.join" (λx xs H Q=>∃(z:Str) (a:MF) (ys:List Str),x=.str z/\xs=[.ref a]/\ij X.K H a (ys.map V.str)/\(ys.map (·.length)).sum+ys.length*z.length<=16777216/\Q (.str (QX z ys)) H):=by
 intro pins s σ H x xs v Z Q I rx U h;obtain⟨z,a,ys,rfl,rfl,hq,Y,q⟩:=h;obtain⟨t,rfl⟩:=rx;obtain⟨u,rfl,O⟩:=pP U;cases O;obtain⟨W,L,p,hz⟩:=I.list hq;exact join_list p.isList (by simpa using Ft L) Y λJ k=>⟨.str _,H,I.tok k,⟨J,rfl⟩,q⟩
theorem EV(Z:X.calm=true):dj X (.builtin "sum") (λxs H Q=>∃(a:MF) (ns:List Int),xs=[.ref a]/\ij X.K H a (ns.map V.int)/\Q (.int ns.sum) H):=by
 intro pins s σ H xs us Q I W h;obtain⟨a,ns,rfl,hq,q⟩:=h;obtain⟨u,rfl,U⟩:=pP W;cases U;obtain⟨J,O,p,hz⟩:=I.list hq;have hi:Qu J ns:=An O;obtain⟨xs,ex⟩:=(show ∃xs:Array (Int×Tok),J.toArray=intItems xs from hi.allInts.items)
 refine sum_intListG (I.ok.hd Z) (xs:=xs) (by rw[<- ex];exact p.isList) λh' tk L Y=>?_
 have e:preSum (numAt xs) xs.size=ns.sum:=by
  rw[preSum_eq,List.take_of_length_le (by simp),<- nums_intItems,<- ex]
  simp[hi.numsOf]
 rw[e];exact⟨.int ns.sum,H,I.kept Y,⟨L,rfl⟩,q⟩
def xG(x:Str)(k:Nat):Str:=⟨(List.replicate k x.cps.toList).flatten.toArray⟩
theorem pD(x:Array Nat):∀(k:Nat) (I:List Nat),(List.replicate k x).foldl (· ++ ·) I.toArray=(I ++ (List.replicate k x.toList).flatten).toArray
 | 0,I=>by simp
 | k+1,I=>by
  rw[List.replicate_succ,Ol,List.replicate_succ,List.flatten_cons];have:I.toArray ++ x=(I ++ x.toList).toArray:=by simp
  rw[this,pD x k];simp
theorem zZ:gM X (Oa .Mult) (λx y H Q=>∃z n,x=.str z/\y=.int n/\-(2 ^ 63)<=n/\n < 2 ^ 63/\z.length*n.toNat<=MN/\Q (.str (xG z n.toNat)) H):=by
 intro pins s σ H x y v u Q I rx U h;obtain⟨z,n,rfl,rfl,h1,h2,Y,q⟩:=h;obtain⟨t,rfl⟩:=rx;obtain⟨t',rfl⟩:=U;have hn:=mD;have len_rep:(xG z n.toNat).length=z.length*n.toNat:=by
  simp[xG,PJ,Nat.mul_comm]
 have bound:¬ n < 1->(z.length:Int)<=(2 ^ 63 - 1) / n:=λh=>by
  rw[Int.le_ediv_iff_mul_le (by omega)]
  have e:(z.length:Int)*n=((z.length*n.toNat:Nat):Int):=by
   rw[Int.natCast_mul,Int.toNat_of_nonneg (by omega)]
  rw[e];omega
 refine PySem.P.mul_str (by rw[decide_eq_false (by omega),decide_eq_false (by omega)];rfl) (λh _=>by have:=bound h;omega) (λh _=>?_) ?_
 .unfold Builtin.Str.tooLong;exact decide_eq_false (by omega)
 .have fin:∀tk s',Inv X pins σ H s'->∀w,w=xG z n.toNat->EP X pins σ Q (.str w tk) s':=λtk s' Z w e=>⟨.str (xG z n.toNat),H,Z,⟨tk,by rw[e]⟩,q⟩
  split
  .rename_i O;have:n.toNat=0:=by omega
   exact⟨by decide,fin _ _ (I.tok _) _ (by rw[this];rfl)⟩
  .split
   .rename_i O J;refine fin _ _ I _ ?_;rw[Bool.or_eq_true]at J;rcases J with J|J
    .have:n=1:=by simpa using J
     subst this;simp[xG]
    .have W:z.length=0:=by simpa using J
     have L:z.cps=#[]:=Array.eq_empty_of_size_eq_zero W;cases z;simp only at L;subst L;simp[xG]
   .refine⟨?_,fin _ _ (I.tok _) _ ?_⟩
    .show (⟨_⟩:Str).length<=MN;have e:=pD z.cps n.toNat [];simp only[ON]at e;rw[show (#[]:Array Nat)=[].toArray from rfl,e]
     exact le_trans (PY len_rep) Y
    .have e:=pD z.cps n.toNat [];simp only[ON]at e;rw[show (#[]:Array Nat)=[].toArray from rfl,e]
     rfl
theorem HL:CA X (λx lo hi H Q=>∃z,x=.str z/\z.length<=MN/\Q (.str ⟨(mK z.cps.toList lo hi).toArray⟩) H):=by
 intro pins s σ H x v vl vu lo hi sl Q I rx hs pl U h;obtain⟨z,rfl,W,q⟩:=h;obtain⟨t,rfl⟩:=rx;refine⟨"str",_,PySem.F.slot_str_getitem.lookup,RV _ _ _,?_⟩;have part:∀{v:MC} {o:Option Int},Qm v o->∃p:Option (Int×Tok),v=partValue p/\p.map (·.1)=o:=by
  intro v o h;cases h with
  | none=>exact⟨none,rfl,rfl⟩
  | int i t=>exact⟨some (i,t),rfl,rfl⟩
 obtain⟨L,Z,f1⟩:=part pl;obtain⟨J,Y,f2⟩:=part U;subst Z Y;refine wpAny_getItem_str_slice (l:=L) (u:=J) (st:=none) ?_ rfl ?_
 .obtain⟨o,a,b,c⟩:=hs;exact⟨o,a,b,c⟩
 .unfold sliceMade;subst f1 f2;have e:(if (((none:Option (Int×Tok)).map (·.1)).getD 1 == 1 && (slicePicked z L J none).length == z.length)=true then z else ⟨((slicePicked z L J none).filterMap (z.cps[·]?)).toArray⟩)=(⟨(mK z.cps.toList (L.map (·.1)) (J.map (·.1))).toArray⟩:Str):=by
   rw[<- BF];rfl
  refine post_val_or_str ⟨?_,λO k=>?_⟩
  .rw[e];show (mK z.cps.toList (L.map (·.1)) (J.map (·.1))).toArray.size<=MN
   rw[M1];refine le_trans (kH _ _ _) ?_
   simpa[PJ]using W
  .rw[e];exact⟨.str _,H,I.tok k,⟨O,rfl⟩,q⟩
end
end L2
namespace L3
open PySem PySem.Spec PyProof.Rows L2
def nN(K:Pj)(r3:R3):R2:=λv u H Q=>∃x y G I,RD K H x v/\RD K H y u/\RG K H G/\r3 x y G I/\tE K G H I Q
def fU(r:R3)(ta tb:bb):bb:=λσ G Q=>ta σ G λx G1=>tb σ G1 λy G2=>r (val x) (val y) G2 Q
section
variable{X:Cx}{a b c:M7}{ta tb tc:bb}{pos:Pos}{r:R3}
theorem JD{K:Pj}{Q:VK}{τ:St}{H:Hp}(h:aB K (fU r ta tb) τ H Q):Jy (nN K r) (va K ta) (va K tb) τ H Q:=by
 obtain⟨σ,G,Y,U,W,h,k⟩:=h;refine⟨σ,G,_,U,W,h,λx G1 v H1 h1 k1 I O=>⟨σ,G1,_,U.mono (k1.stb W),I,h1,λy G2 u H2 h2 k2 J L=>?_⟩⟩;exact⟨val x,val y,G2,Y,RD.mono (k2.stb I) _ _ O,L,J,h2,k.base (k1.trans k2)⟩
theorem wg{op:PP}(ho:gM X (Nq op) (nN X.K r))(L:PE X a (aB X.K ta))(J:PE X b (aB X.K tb))(I:NN op b=false):PE X (.Compare a [op] [b] pos) (aB X.K (fU r ta tb)):=
 (FX ho (dD L) (dD J) I).imp λ_ _ _ h=>JD h
theorem cv{op:PP}(ho:gM X (Nq op) (nN X.K r))(L:PE X a (aB X.K ta))(J:PE X b (aB X.K tb))(I:NN op b=false):PT X (.Compare a [op] [b] pos) (cY X.K (cW (fU r ta tb))):=
 (A1 ho (dD L) (dD J) I).imp λ_ _ _ h=>JD (vG h)
def wo:R3:=λx y G Q=>match x,y with
 | .bl a,.bl b=>Q (.bl (a == b)) G
 | x,y=>pl 8 x/\pl 8 y/\Q (.bl (eK x y)) G
def F_:R3:=λx y G Q=>match x,y with
 | .bl a,.bl b=>Q (.bl (!(a == b))) G
 | x,y=>pl 8 x/\pl 8 y/\Q (.bl (!eK x y)) G
theorem lf(Y:X.A.units+8 < NA):gM X (Nq .Eq) (nN X.K wo):=by
 rintro pins s σ H v u Z u' Q I L O ⟨x,y,G,Q3,rx,J,U,h,k⟩
 unfold wo at h;split at h
 .rename_i a b;subst rx J;cases L;cases O;exact SeqAt.RcAt.bool_bool a b X.prog X.w X.xe _ ⟨.bl (a == b),H,I,rfl,k _ G _ H h Kp.refl U (.of f_)⟩
 .obtain⟨W,p2,q⟩:=h;exact (yW I 8 W p2 rx J L O Y).rc X.prog X.w X.xe _ ⟨.bl _,H,I,rfl,k _ G _ H q Kp.refl U (.of f_)⟩
theorem Bu(Y:X.A.units+8 < NA):gM X (Nq .NotEq) (nN X.K F_):=by
 rintro pins s σ H v u Z u' Q I L O ⟨x,y,G,Q3,rx,J,U,h,k⟩
 unfold F_ at h;split at h
 .rename_i a b;subst rx J;cases L;cases O;exact SeqAt.RcNeAt.bool_bool a b X.prog X.w X.xe _ ⟨.bl (!(a == b)),H,I,rfl,k _ G _ H h Kp.refl U (.of f_)⟩
 .obtain⟨W,p2,q⟩:=h;exact (yW I 8 W p2 rx J L O Y).ne X.prog X.w X.xe _ ⟨.bl _,H,I,rfl,k _ G _ H q Kp.refl U (.of f_)⟩
abbrev cR:=List D->Gp->mf->Prop
def b9(K:Pj)(sp:cR):Sp:=λvs H Q _=>∃ds G I,RDs K H ds vs/\RG K H G/\sp ds G I/\tE K G H I Q
def cZ(N:List Str)(ds:List D):eV:=ds.map some ++ List.replicate (N.length - ds.length) none
theorem xB{K:Pj}{H:Hp}{N:List Str}{ds:List D}{vs:List V}(r:RDs K H ds vs):RS K H (cZ N ds) (L2.start N vs):=by
 unfold cZ;have J:=r.length;rw[J];have rep:∀n:Nat,Pu (CC K H) (List.replicate n none) (List.replicate n none):=λn=>by
  induction n with
  | zero=>exact .nil
  | succ n I=>exact .cons (show CC K H none none from trivial) I
 have go:∀{ds:List D} {vs:List V} {σ:eV} {τ:St},RDs K H ds vs->Pu (CC K H) σ τ->Pu (CC K H) (ds.map some ++ σ) (vs.map some ++ τ):=by
  intro ds
  induction ds with
  | nil=>intro vs σ τ r q;rw[r.inv_nil];exact q
  | cons d t I=>
   intro vs σ τ r q;obtain⟨x,xs,e,h1,h2⟩:=r.inv_cons;subst e;exact .cons (show CC K H (some d) (some x)from h1) (I h2 q)
 exact go r (rep _)
variable{P:MR}{w:M4}{K:Pj}{mg:Str->Option MC}{base:MY}
structure Fn3(P:MR)(w:M4)(K:Pj)(mg:Str->Option MC)(base:MY)(k:Nat)(x:Str)(dds:List D)(sp:cR):Prop where
 ex:∃f fd ps ds dvs,FnOk P w K mg base pO k f fd ps (b9 K sp)/\mg x=some (.ref f)/\QG K (.ref f)=true/\eA K fd ps ds/\Vals dvs ds/\∀H,RDs K H dds dvs
structure Mt3(P:MR)(w:M4)(K:Pj)(mg:Str->Option MC)(base:MY)(k:Nat)(C:MF)(m:Str)(dds:List D)(sp:cR):Prop where
 cl:Cls K C
 ex:∃f fd ps ds dvs,FnOk P w K mg base pO k f fd ps (b9 K sp)/\Meth K C m f/\eA K fd ps ds/\Vals dvs ds/\∀H,RDs K H dds dvs
structure Mk3(P:MR)(w:M4)(K:Pj)(mg:Str->Option MC)(base:MY)(k:Nat)(x:Str)(C:MF)(dds:List D)(sp:cR):Prop where
 ex:∃f fd ps ds dvs,Mk K C f/\mg x=some (.ref C)/\FnOk P w K mg base pO k f fd ps (b9 K sp)/\eA K fd ps ds/\Vals dvs ds/\∀H,RDs K H dds dvs
def aK(sp:cR)(dds:List D)(ta:lF):bb:=λσ G Q=>ta σ G λds G1=>sp (ds ++ dds) G1 Q
def br(C:MF)(L:List Str)(sp:cR)(dds:List D)(to:bb)(ta:lF):bb:=λσ G Q=>to σ G λx G1=>match x with
 | .ref a=>match G1 a with
  | some (.ins J I _)=>(J=C/\I=L)/\ta σ G1 λds G2=>sp (.ref a::(ds ++ dds)) G2 Q
  | _=>False
 | _=>False
def kF(C:MF)(sp:cR)(dds:List D)(ta:lF):bb:=λσ G Q=>ta σ G λds G1=>∀a,G1 a=none->sp (.ref a::(ds ++ dds)) (gset G1 a (.ins C [] [])) λd G2=>d=.non/\Q (.ref a) G2
variable{e o:M7}{es:List M7}{t:lF}{te to:bb}{k:Nat}{x m:Str}{p apos:Pos}{dds:List D}{sp:cR}{C:MF}
theorem Cu{Q:VK}{τ:St}{H:Hp}{dvs:List V}(hd:∀H,RDs K H dds dvs)(h:aB K (aK sp dds t) τ H Q)(E:XK):Ha (b9 K sp) dvs E (dI K t) τ H Q:=by
 obtain⟨σ,G,W,L,O,h,U⟩:=h;exact⟨σ,G,_,L,O,h,λds G1 vs H1 q k1 I J=>⟨ds ++ dds,G1,W,J.append (hd H1),I,q,U.base k1⟩⟩
theorem aH(F:Fn3 X.prog X.w X.K X.mg X.base k x dds sp)(O:Room k X.A)(Y:Gl X x)(ha:PA X (e::es) (dI X.K t))(J:(x == ("__debug__":Str))=false:=by decide)(Z:MP (e::es) X.env=(false,eval e X.env)::MP es X.env:=by rfl)
  (I:(NM pos (MP es X.env)).any (·.1)=false:=by rfl):PE X (.Call (.Name x p) (e::es) [] pos) (aB X.K (aK sp dds t)):=by
 obtain⟨f,fd,ps,ds,dvs,ok,U,W,hb,L,hd⟩:=F.ex;exact (FY ok O Y U W hb L u0 ha J Z I).imp λ_ _ _ h=>Cu hd h E0
theorem o_{K:Pj}{gs:List (Str×V)}{L:List Str}{m:Str}(h:gs.map (·.1)=L)(n:m∉L):gs.lookup m=none:=by grind
theorem B1{Q:VK}{τ:St}{H:Hp}{dvs:List V}{L:List Str}(hL:m∉L)(hd:∀H,RDs K H dds dvs)(h:aB K (br C L sp dds to t) τ H Q)(E:XK):De C m (b9 K sp) dvs E (aB K to) (dI K t) τ H Q:=by
 obtain⟨σ,G,Q3,W,Z,h,kk⟩:=h;refine⟨σ,G,_,W,Z,h,λd G1 v H1 q k1 I re=>?_⟩;cases d with
 | ref a=>
  dsimp only at q;split at q
  .rename_i C' L' ds hg;obtain⟨⟨rfl,rfl⟩,q⟩:=q;obtain⟨ho,e1,Y⟩:=I a _ hg;cases ho with
   | ins C2 dx gs=>
    obtain⟨rfl,r2,r3⟩:=Y;refine⟨a,dx,gs,re.ref,e1,o_ (K:=K) r2 hL,σ,G1,_,W.mono (k1.stb Z),I,q,λU G2 vs H2 q2 k2 J O=>?_⟩;rw[re.ref];exact⟨.ref a::(U ++ dds),G2,Q3,RDs.cons fV (O.append (hd H2)),J,q2,kk.base (k1.trans k2)⟩
   | _=>exact Y.elim
  .exact q.elim
 | _=>exact q.elim
theorem dR{pl:Sem Bool}{L:List Str}(F:Mt3 X.prog X.w X.K X.mg X.base k C m dds sp)(hL:m∉L)(W:Room k X.A)(ho:PE X o (aB X.K to))(ha:PA X (e::es) (dI X.K t))
  (I:MP (e::es) X.env=(false,eval e X.env)::MP es X.env:=by rfl) (J:(NM pos (MP es X.env)).any (·.1)=false:=by rfl)
  (U:eval (.Call (.Attribute o m apos) (e::es) [] pos) X.env=(do
   let ov <- eval o X.env
   O9 apos.atName
   let (f,first) <- holding [ov] (Pd ov m pl)
   Qt pos f first (NM pos (MP (e::es) X.env)) (O3 pos (Ot [] X.env))):=by rfl):
  PE X (.Call (.Attribute o m apos) (e::es) [] pos) (aB X.K (br C L sp dds to t)):=by
 obtain⟨f,fd,ps,ds,dvs,ok,Y,Z,O,hd⟩:=F.ex;exact (FV ho F.cl Y ok W Z O u0 ha I J U).imp λ_ _ _ h=>B1 hL hd h E0
theorem ce{pl:Sem Bool}{L:List Str}(F:Mt3 X.prog X.w X.K X.mg X.base k C m dds sp)(hL:m∉L)(hr:Room k X.A)(ho:PE X o (aB X.K to))
  (Z:eval (.Call (.Attribute o m apos) [] [] pos) X.env=(do
   let ov <- eval o X.env
   O9 apos.atName
   let (f,first) <- holding [ov] (Pd ov m pl)
   Qt pos f first (NM pos (MP [] X.env)) (O3 pos (Ot [] X.env))):=by rfl):
  PE X (.Call (.Attribute o m apos) [] [] pos) (aB X.K (br C L sp dds to au)):=by
 obtain⟨f,fd,ps,ds,dvs,ok,hm,hb,Y,hd⟩:=F.ex;refine (DX ho F.cl hm ok hr hb Y u0 Z).imp λτ H Q h=>?_;obtain⟨σ,G,Q3,O,U,h,W⟩:=h;refine⟨σ,G,_,O,U,h,λd G1 v H1 q k1 I re=>?_⟩;cases d with
 | ref a=>
  dsimp only at q;split at q
  .rename_i C' L' ds hg;obtain⟨⟨rfl,rfl⟩,q⟩:=q;obtain⟨ho,e1,J⟩:=I a _ hg;cases ho with
   | ins C2 dx gs=>
    obtain⟨rfl,r2,r3⟩:=J;refine⟨a,dx,gs,re.ref,e1,o_ (K:=X.K) r2 hL,?_⟩;rw[re.ref];exact⟨.ref a::([] ++ dds),G1,Q3,RDs.cons fV (hd H1),I,q,W.base k1⟩
   | _=>exact J.elim
  .exact q.elim
 | _=>exact q.elim
theorem B2{Q:VK}{τ:St}{H:Hp}{dvs:List V}(hd:∀H,RDs K H dds dvs)(h:aB K (kF C sp dds t) τ H Q)(E:XK):G_ C (b9 K sp) dvs E (dI K t) τ H Q:=by
 obtain⟨σ,G,Q3,rs,rg,h,kk⟩:=h;refine⟨σ,G,_,rs,rg,h,λds G1 vs H1 q k1 I O a dx W nd ne=>?_⟩;have kd:Kp G1 H1 G1 (aV H1 dx (.own a)):=Kp.laid nd;have rgd:RG K (aV H1 dx (.own a)) G1:=I.laid nd;have na':aV H1 dx (.own a) a=none:=by rw[ao (Ne.symm ne)];exact W
 have Z:Kp G1 H1 (gset G1 a (.ins C [] [])) (aV (aV H1 dx (.own a)) a (.ins C dx [])):=λb h' e n=>by
  have:b≠a:=bw e W;exact⟨by rw[ao this,ao (bw e nd)];exact e,by rw[ai this];exact n⟩
 have st:Stb K H1 (aV (aV H1 dx (.own a)) a (.ins C dx [])):=Z.stb I;have J:RG K (aV (aV H1 dx (.own a)) a (.ins C dx [])) (gset G1 a (.ins C [] [])):=λb o q=>by
  by_cases Y:b=a
  .subst Y;rw[av]at q;cases q;exact⟨_,aG,rfl,rfl,RDs.nil⟩
  .rw[ai Y]at q;obtain⟨h',e1,r⟩:=I b o q;exact⟨h',by rw[ao Y,ao (bw e1 nd)];exact e1,r.mono st⟩
 refine⟨.ref a::(ds ++ dds),_,_,RDs.cons fV (RDs.append (RDs.mono st _ _ O) (hd _)),J,q a (I.free W),λd G2 v H2 U k2 L re=>?_⟩;obtain⟨rfl,U⟩:=U;exact⟨re.non,kk _ G2 _ H2 U (k1.trans (Z.trans k2)) L (.of fV)⟩
theorem ke(F:Mk3 X.prog X.w X.K X.mg X.base k x C dds sp)(O:Room (k+1) X.A)(W:Gl X x)(ha:PA X (e::es) (dI X.K t))(J:(x == ("__debug__":Str))=false:=by decide)(Y:MP (e::es) X.env=(false,eval e X.env)::MP es X.env:=by rfl)
  (I:(NM pos (MP es X.env)).any (·.1)=false:=by rfl):PE X (.Call (.Name x p) (e::es) [] pos) (aB X.K (kF C sp dds t)):=by
 obtain⟨f,fd,ps,ds,dvs,M,U,ok,Z,L,hd⟩:=F.ex;exact (FW M ok O W U Z L u0 ha J Y I).imp λ_ _ _ h=>B2 hd h E0
def jc(C:MF)(L:List Str)(i:Nat)(to:bb):bb:=λσ G Q=>to σ G λx G1=>match x with
 | .ref a=>match G1 a with
  | some (.ins J I ds)=>(J=C/\I=L)/\match ds[i]? with
   | some d=>Q d G1
   | none=>False
  | _=>False
 | _=>False
def uE(L:List Str)(f:Str)(i:Nat):Prop:=L[i]?=some f/\∀j,j < i->L[j]?≠some f
theorem A_:∀{gs:List (Str×V)} {f:Str} {i:Nat} {v:V},uE (gs.map (·.1)) f i->(gs.map (·.2))[i]?=some v->gs.lookup f=some v
 | [],f,i,v,h,e=>by simp at e
 | (g,u)::r,f,0,v,h,e=>by
  have:g=f:=by simpa using h.1
  subst this;simp at e;subst e;rw[Of,beq_self_eq_true]
 | (g,u)::r,f,i+1,v,h,e=>by
  have ne:g≠f:=λz=>h.2 0 (Nat.succ_pos _) (by simp[z])
  rw[Of,show (f == g)=false by simpa using Ne.symm ne]
  exact A_ (i:=i) ⟨by simpa using h.1,λj I z=>h.2 (j+1) (Nat.succ_lt_succ I) (by simpa using z)⟩ (by simpa using e)
theorem DH:∀{gs:List (Str×V)} {f:Str} {i:Nat} (v:V),uE (gs.map (·.1)) f i->(e8 f v gs).map (·.1)=gs.map (·.1)/\(e8 f v gs).map (·.2)=(gs.map (·.2)).set i v
 | [],f,i,v,h=>by have:=h.1;simp at this
 | (g,u)::r,f,0,v,h=>by
  have:g=f:=by simpa using h.1
  subst this;simp[e8]
 | (g,u)::r,f,i+1,v,h=>by
  have ne:g≠f:=λz=>h.2 0 (Nat.succ_pos _) (by simp[z])
  have I:=DH (gs:=r) (i:=i) v ⟨by simpa using h.1,λj J z=>h.2 (j+1) (Nat.succ_lt_succ J) (by simpa using z)⟩
  simp only[e8,if_neg ne,M5,Ny,I.1,I.2,and_self]
theorem put_new:∀{gs:List (Str×V)} {f:Str} (v:V),f∉gs.map (·.1)->e8 f v gs=gs ++ [(f,v)]
 | [],f,v,h=>rfl
 | (g,u)::r,f,v,h=>by
  rw[M5,NC,not_or]at h;simp only[e8,if_neg (Ne.symm h.1),put_new v h.2,OC]
theorem gG{f:Str}{L:List Str}{i:Nat}(cl:Cls X.K C)(Y:cB X.K C f)(hi:uE L f i)(ho:PE X o (aB X.K to))(hb:N6 o f X.env (eval o X.env)=eval o X.env:=by rfl):PE X (.Attribute o f pos) (aB X.K (jc C L i to)):=
 (DY ho hb).imp λτ H Q O=>by
 obtain⟨σ,G,Q3,U,W,h,Z⟩:=O;exact (
  ⟨σ,G,_,U,W,h,λd G1 v H1 q k1 I re=>by
    cases d with
    | ref a=>
     dsimp only at q;split at q
     .rename_i C' L' ds hg;obtain⟨⟨rfl,rfl⟩,q⟩:=q;split at q
      .rename_i d hd;obtain⟨ho,e1,J⟩:=I a _ hg;cases ho with
       | ins C2 dx gs=>
        obtain⟨rfl,r2,r3⟩:=J;subst r2;obtain⟨w,hw,rd⟩:=r3.get hd;exact⟨a,_,dx,gs,w,re.ref,e1,cl,Y,A_ hi hw,Z _ G1 _ H1 q k1 I (.of rd)⟩
       | _=>exact J.elim
      .exact q.elim
     .exact q.elim
    | _=>exact q.elim⟩)
def AV(C:MF)(L:List Str)(i:Nat)(to tv:bb):bH:=λD σ G=>tv σ G λd G1=>to σ G1 λx G2=>match x with
 | .ref a=>match G2 a with
  | some (.ins J I ds)=>(J=C/\I=L)/\D.nx σ (gset G2 a (.ins C L (ds.set i (val d))))
  | _=>False
 | _=>False
def rC(C:MF)(L:List Str)(f:Str)(to tv:bb):bH:=λD σ G=>tv σ G λd G1=>to σ G1 λx G2=>match x with
 | .ref a=>match G2 a with
  | some (.ins J I ds)=>(J=C/\I=L)/\D.nx σ (gset G2 a (.ins C (L ++ [f]) (ds ++ [val d])))
  | _=>False
 | _=>False
theorem zT{H:Hp}{G:Gp}{a:MF}{I dx:MF}{gs gs':List (Str×V)}{L':List Str}{ds':List D}(L:RG K H G)(Y:H a=some (.ins I dx gs))(O:gs'.map (·.1)=L')(r2:RDs K H ds' (gs'.map (·.2)))(U:G a≠none):
  Kp G H (gset G a (.ins I L' ds')) (aV H a (.ins I dx gs'))/\RG K (aV H a (.ins I dx gs')) (gset G a (.ins I L' ds')):=by
 have kp:Kp G H (gset G a (.ins I L' ds')) (aV H a (.ins I dx gs')):=λb h e n=>by
  have:b≠a:=λz=>by subst z;exact U n
  exact⟨by rw[ao this];exact e,by rw[ai this];exact n⟩
 have st:=kp.stb L;refine⟨kp,λb o q=>?_⟩
 by_cases J:b=a
 .subst J;rw[av]at q;cases q;exact⟨_,aG,rfl,O,RDs.mono st _ _ r2⟩
 .rw[ai J]at q;obtain⟨h',W,r⟩:=L b o q;exact⟨h',by rw[ao J];exact W,r.mono st⟩
theorem J1{f:Str}{L:List Str}{i:Nat}{pos':Pos}(cl:Cls X.K C)(na:cB X.K C f)(hi:uE L f i)(hl:L.length < 1000)(ho:PE X o (aB X.K to))(hv:PE X e (aB X.K te))(hs:N7 e (some (.Attribute o f pos')) pos.line X.env=pure false:=by rfl):
  PS X (.Assign [.Attribute o f pos'] e pos) (bx X.K (AV C L i to te)):=
 (zV ho (dD hv) hs).imp λD τ H zz=>by
 obtain⟨σ,G,D3,U,Y,h,kk⟩:=zz;exact (
  ⟨σ,G,_,U,Y,h,λd G1 v H1 q1 k1 O rd=>⟨σ,G1,_,U.mono (k1.stb Y),O,q1,λx G2 u H2 I k2 J re=>by
    cases x with
    | ref a=>
     dsimp only at I;split at I
     .rename_i C' L' ds hg;obtain⟨⟨rfl,rfl⟩,I⟩:=I;obtain⟨ho,e1,ro⟩:=J a _ hg;cases ho with
      | ins C2 dx gs=>
       obtain⟨rfl,r2,r3⟩:=ro;subst r2;obtain⟨p1,p2⟩:=DH (gs:=gs) v hi;have Z:=RD.mono (k2.stb O) _ _ rd;obtain⟨kp,W⟩:=zT (gs':=e8 f v gs) (L':=gs.map (·.1)) (ds':=ds.set i (val d)) J e1 p1 (by rw[p2];exact r3.set i Z) (by rw[hg];exact λz=>nomatch z)
       exact⟨a,_,dx,gs,re.ref,e1,cl,na,by simpa using hl,kk.nx _ _ _ _ I ((k1.trans k2).trans kp) W (U.mono ((((k1.trans k2).trans kp)).stb Y))⟩
      | _=>exact ro.elim
     .exact I.elim
    | _=>exact I.elim⟩⟩)
theorem rZ{f:Str}{L:List Str}{pos':Pos}(cl:Cls X.K C)(na:cB X.K C f)(hi:f∉L)(hl:L.length < 1000)(ho:PE X o (aB X.K to))(hv:PE X e (aB X.K te))(hs:N7 e (some (.Attribute o f pos')) pos.line X.env=pure false:=by rfl):
  PS X (.Assign [.Attribute o f pos'] e pos) (bx X.K (rC C L f to te)):=
 (zV ho (dD hv) hs).imp λD τ H zz=>by
 obtain⟨σ,G,D3,U,Y,h,kk⟩:=zz;exact (
  ⟨σ,G,_,U,Y,h,λd G1 v H1 q1 k1 O rd=>⟨σ,G1,_,U.mono (k1.stb Y),O,q1,λx G2 u H2 I k2 J re=>by
    cases x with
    | ref a=>
     dsimp only at I;split at I
     .rename_i C' L' ds hg;obtain⟨⟨rfl,rfl⟩,I⟩:=I;obtain⟨ho,e1,ro⟩:=J a _ hg;cases ho with
      | ins C2 dx gs=>
       obtain⟨rfl,r2,r3⟩:=ro;subst r2;have Z:=RD.mono (k2.stb O) _ _ rd;obtain⟨kp,W⟩:=zT (gs':=e8 f v gs) (L':=gs.map (·.1) ++ [f]) (ds':=ds ++ [val d]) J e1 (by rw[put_new v hi];simp) (by rw[put_new v hi,No];exact r3.append (RDs.cons Z RDs.nil)) (by rw[hg];exact λz=>nomatch z)
       exact⟨a,_,dx,gs,re.ref,e1,cl,na,by simpa using hl,kk.nx _ _ _ _ I ((k1.trans k2).trans kp) W (U.mono ((((k1.trans k2).trans kp)).stb Y))⟩
      | _=>exact ro.elim
     .exact I.elim
    | _=>exact I.elim⟩⟩)
def Lv(te:bb)(g:tx):bH:=λD σ G=>te σ G λd G'=>g (val d) σ G' D.nx
abbrev AF:=List D->Gp->mf->Prop
def kt(K:Pj)(r3:AF):List V->Hp->VK->Prop:=λvs H Q=>∃ds G I,RDs K H ds vs/\RG K H G/\r3 ds G I/\tE K G H I Q
def eB(r:AF)(ta:lF):bb:=λσ G Q=>ta σ G λds G1=>r ds G1 Q
variable{id T:String}{r3:AF}
theorem Hs{Q:VK}{τ:St}{H:Hp}(h:aB K (eB r3 t) τ H Q):Lr (kt K r3) (dI K t) τ H Q:=by
 obtain⟨σ,G,W,L,O,h,U⟩:=h;exact⟨σ,G,_,L,O,h,λds G1 vs H1 q k1 I J=>⟨ds,G1,W,J,I,q,U.base k1⟩⟩
theorem bG(Y:dj X (.builtin id) (kt X.K r3))(U:Gl X x)(O:X.mg x=none)(L:Oh x=some (.builtin id))(Z:PA X (e::es) (dI X.K t))(hn:x≠"__name__":=by decide)(J:(x == ("__debug__":Str))=false:=by decide)
  (W:MP (e::es) X.env=(false,eval e X.env)::MP es X.env:=by rfl) (I:(NM pos (MP es X.env)).any (·.1)=false:=by rfl):PE X (.Call (.Name x p) (e::es) [] pos) (aB X.K (eB r3 t)):=
 (D5 Y U O L Z hn J W I).imp λ_ _ _ h=>Hs h
theorem iF(Y:dj X (.type T) (kt X.K r3))(U:Gl X x)(O:X.mg x=none)(L:Oh x=some (.type T))(Z:PA X (e::es) (dI X.K t))(hn:x≠"__name__":=by decide)(J:(x == ("__debug__":Str))=false:=by decide)
  (W:MP (e::es) X.env=(false,eval e X.env)::MP es X.env:=by rfl) (I:(NM pos (MP es X.env)).any (·.1)=false:=by rfl):PE X (.Call (.Name x p) (e::es) [] pos) (aB X.K (eB r3 t)):=
 (BX Y U O L Z hn J W I).imp λ_ _ _ h=>Hs h
def kJ:AF:=λds G Q=>match ds with
 | [.str z]=>z.length<=MN/\Q (.int z.length) G
 | [d]=>match Fa G d with
  | some es=>Q (.int es.length) G
  | none=>False
 | _=>False
theorem dH{H:Hp}{d:D}{vs:List V}(r:RDs K H [d] vs):∃v,vs=[v]/\RD K H d v:=by
 obtain⟨v,t,e,h1,h2⟩:=r.inv_cons;have:=h2.inv_nil;subst this;exact⟨v,e,h1⟩
theorem b_len:dj X (.builtin "len") (kt X.K kJ):=((wT (X:=X)).or (wU (X:=X))).imp λvs H Q O=>by
 obtain⟨ds,G,W,I,J,h,L⟩:=O;unfold kJ at h;split at h
 .rename_i z;obtain⟨v,rfl,rd⟩:=dH I;simp only[RD]at rd;subst rd;exact .inl ⟨z,rfl,h.1,L _ G _ H h.2 Kp.refl J (.of dC)⟩
 .rename_i d _;obtain⟨v,rfl,rd⟩:=dH I;split at h
  .rename_i es U;obtain⟨a,xs,rfl,s,r⟩:=tu (G:=G) (H:=H) U (.of rd) J;exact .inr ⟨a,xs,rfl,s,by rw[<- r.length];exact L _ G _ H h Kp.refl J (.of dC)⟩
  .exact h.elim
 .exact h.elim
def ql:AF:=λds G Q=>match ds with
 | [d]=>match Fa G d with
  | some es=>Q (.fl es) G
  | none=>False
 | _=>False
theorem b_list:dj X (.type "list") (kt X.K ql):=(wS (X:=X)).imp λvs H Q O=>by
 obtain⟨ds,G,Y,J,I,h,U⟩:=O;unfold ql at h;split at h
 .rename_i d;obtain⟨v,rfl,rd⟩:=dH J;split at h
  .rename_i es W;obtain⟨a,xs,rfl,s,r⟩:=tu (G:=G) (H:=H) W (.of rd) I;exact⟨a,xs,rfl,s,λp L=>U _ G _ _ h (Kp.laid L) (I.laid L) (wK I L r)⟩
  .exact h.elim
 .exact h.elim
def wW:AF:=λds G Q=>match ds with
 | [d]=>match Fa G d with
  | some es=>Q (.tup es) G
  | none=>False
 | _=>False
theorem b_tuple:dj X (.type "tuple") (kt X.K wW):=(uy (X:=X)).imp λvs H Q U=>by
 obtain⟨ds,G,Y,J,I,h,O⟩:=U;unfold wW at h;split at h
 .rename_i d;obtain⟨v,rfl,rd⟩:=dH J;split at h
  .rename_i es W;obtain⟨a,xs,rfl,s,r⟩:=tu (G:=G) (H:=H) W (.of rd) I;refine⟨a,xs,rfl,?_⟩;rcases s with s|s
   .exact .inl ⟨s,λp L=>O _ G _ _ h (Kp.laid L) (I.laid L) (.of (kQ I L r))⟩
   .exact .inr ⟨s,O _ G _ H h Kp.refl I (.of (oZ s r))⟩
  .exact h.elim
 .exact h.elim
def EZ:AF:=λds G Q=>match ds with
 | [d]=>∃ns:List Int,w_ G d=some (ns.map D.int)/\Q (.int ns.sum) G
 | _=>False
theorem b_sum(W:X.calm=true):dj X (.builtin "sum") (kt X.K EZ):=(EV (X:=X) W).imp λvs H Q L=>by
 obtain⟨ds,G,Y,I,J,h,O⟩:=L;unfold EZ at h;split at h
 .rename_i d;obtain⟨v,rfl,rd⟩:=dH I;obtain⟨ns,U,h⟩:=h;obtain⟨a,xs,rfl,s,r⟩:=kL (G:=G) (H:=H) U (.of rd) J;rw[r.ints_inv ns]at s;exact⟨a,ns,rfl,s,O _ G _ H h Kp.refl J (.of dC)⟩
 .exact h.elim
def E1:AF:=λds G Q=>match ds with
 | [.int i,.int j]=>Q (.int (if j < i then j else i)) G
 | _=>False
def LQ:AF:=λds G Q=>match ds with
 | [.int i,.int j]=>Q (.int (if j > i then j else i)) G
 | _=>False
theorem C4{H:Hp}{i j:Int}{vs:List V}(r:RDs K H [.int i,.int j] vs):vs=[.int i,.int j]:=by
 obtain⟨v,t,e,h1,h2⟩:=r.inv_cons;obtain⟨u,J,I⟩:=dH h2;simp only[RD]at h1 I;subst e J h1 I;rfl
theorem b_min(U:X.calm=true):dj X (.builtin "min") (kt X.K E1):=(Cv (X:=X) U).imp λvs H Q J=>by
 obtain⟨ds,G,W,I,L,h,O⟩:=J;unfold E1 at h;split at h
 .rename_i i j;exact⟨i,j,C4 I,O _ G _ H h Kp.refl L (.of dC)⟩
 .exact h.elim
end
section
variable{X:Cx}
def BZ:R3:=λx y G Q=>match x,y with
 | .int i,.int j=>GW i j/\Q (.int (i*j)) G
 | .str z,.int n=>(-(2 ^ 63)<=n/\n < 2 ^ 63/\z.length*n.toNat<=MN)/\Q (.str (xG z n.toNat)) G
 | _,_=>False
theorem CQ:gM X (Oa .Mult) (dE X.K BZ):=((Ix (X:=X)).or (zZ (X:=X))).imp λv u H Q L=>by
 obtain⟨x,y,U,H0,G,O,rx,I,J,h,k⟩:=L;unfold BZ at h;split at h
 .rename_i i j;exact .inl ⟨i,j,rx.int,I.int,h.1,k _ G _ H h.2 Kp.refl J (.of dC)⟩
 .rename_i z n;exact .inr ⟨z,n,rx.str,I.int,h.1.1,h.1.2.1,h.1.2.2,k _ G _ H h.2 Kp.refl J (.of iX)⟩
 .exact h.elim
def Dk:K0:=λx lo hi G Q=>match x with
 | .str z=>z.length<=MN/\Q (.str ⟨(mK z.cps.toList lo hi).toArray⟩) G
 | .tup ds=>¬ (HT.sIx ds.length 0 lo=0/\HT.sIx ds.length ds.length hi=ds.length)/\Q (.tup (cutD ds lo hi)) G
 | x=>match w_ G x with
  | some ds=>Q (.fl (cutD ds lo hi)) G
  | none=>False
theorem xo:CA X (Ek X.K Dk):=((HL (X:=X)).or ((HK (X:=X)).or (Fz (X:=X)))).imp λv lo hi H Q L=>by
 obtain⟨x,U,H0,G,O,rx,J,h,k⟩:=L;unfold Dk at h;split at h
 .rename_i z;exact .inl ⟨z,rx.str,h.1,k _ G _ H h.2 Kp.refl J (.of iX)⟩
 .rename_i ds;obtain⟨a,xs,rfl,s,r⟩:=rx.tup;refine .inr (.inl ⟨a,xs,rfl,s,by rw[<- r.length];exact h.1,λp I=>k _ G _ _ h.2 (Kp.laid I) (J.laid I) (.of (kQ J I (Bj r lo hi)))⟩)
 .split at h
  .rename_i ds hds;obtain⟨a,xs,rfl,s,r⟩:=kL hds rx J;exact .inr (.inr ⟨a,xs,rfl,s,λp I=>k _ G _ _ h (Kp.laid I) (J.laid I) (wK J I (Bj r lo hi))⟩)
  .exact h.elim
def Bh(to:bb)(ta:lF):bb:=λσ G Q=>to σ G λx G1=>match x with
 | .str z=>ta σ G1 λds G2=>match ds with
  | [d]=>∃ys:List Str,w_ G2 d=some (ys.map D.str)/\(ys.map (·.length)).sum+ys.length*z.length<=16777216/\Q (.str (QX z ys)) G2
  | _=>False
 | _=>False
variable{o e:M7}{es:List M7}{to te:bb}{t:lF}{apos cpos pos p:Pos}
theorem Is(ho:PE X o (aB X.K to))(ha:PA X [e] (dI X.K t))(Sq:N6 o "join" X.env (eval o X.env)=eval o X.env:=by rfl)
  (SU:((NM cpos (MP [e] X.env)).all (λx=>!x.1) && (O3 cpos (Ot [] X.env)).all (λx=>x.1.isSome)
   && decide (([e]:List M7).length+([]:List Qe).length+(if ([]:List Qe).isEmpty then 0 else 1) < 30))=true:=by rfl)
  (Sx:(apos.endLine == cpos.line)=true:=by rfl) (hs:MP [e] X.env=(false,eval e X.env)::MP [] X.env:=by rfl) (Sy:(NM cpos (MP [] X.env)).any (·.1)=false:=by rfl):
  PE X (.Call (.Attribute o "join" apos) [e] [] cpos) (aB X.K (Bh to t)):=
 (He PySem.F.plainAttrs_str PySem.F.slot_str_join PySem.F.type_str_join Gg ho ha Sq SU Sx hs Sy).imp λτ H Q Y=>by
 obtain⟨σ,G,Q3,U,W,h,k⟩:=Y;exact (
  ⟨σ,G,_,U,W,h,λd G1 v H1 q k1 L re=>by
    cases d with
    | str z=>
     rw[re.str];refine⟨rfl,σ,G1,_,U.mono (k1.stb W),L,q,λds G2 vs H2 J k2 I O=>?_⟩;split at J
     .rename_i d;obtain⟨v2,rfl,rd⟩:=dH O;obtain⟨ys,he,Z,J⟩:=J;obtain⟨a,xs,rfl,s,r⟩:=kL (G:=G2) (H:=H2) he (.of rd) I;rw[r.strs_inv ys]at s;exact⟨z,a,ys,rfl,rfl,s,Z,k _ G2 _ H2 J (k1.trans k2) I (.of iX)⟩
     .exact J.elim
    | _=>exact q.elim⟩)
def gX(to:bb)(ta:lF):bb:=λσ G Q=>to σ G λx G1=>match x with
 | .ref a=>(∃ds,G1 a=some (.lst ds))/\ta σ G1 λes G2=>match es with
  | [d]=>match G2 a with
   | some (.lst ds)=>ds.length < MN/\Q .non (gset G2 a (.lst (ds ++ [d])))
   | _=>False
  | _=>False
 | _=>False
theorem Gk{K:Pj}{H:Hp}{G:Gp}{a:MF}{xs ys:List V}{ds':List D}(J:RG K H G)(U:H a=some (.lst xs))(r2:RDs K H ds' ys)(L:G a≠none):
  Kp G H (gset G a (.lst ds')) (aV H a (.lst ys))/\RG K (aV H a (.lst ys)) (gset G a (.lst ds')):=by
 have kp:Kp G H (gset G a (.lst ds')) (aV H a (.lst ys)):=λb h e n=>by
  have:b≠a:=λz=>by subst z;exact L n
  exact⟨by rw[ao this];exact e,by rw[ai this];exact n⟩
 have st:=kp.stb J;refine⟨kp,λb o q=>?_⟩
 by_cases I:b=a
 .subst I;rw[av]at q;cases q;exact⟨_,aG,RDs.mono st _ _ r2⟩
 .rw[ai I]at q;obtain⟨h',O,r⟩:=J b o q;exact⟨h',by rw[ao I];exact O,r.mono st⟩
theorem sm{K:Pj}{H:Hp}{G:Gp}{a:MF}{ds:List D}(J:RG K H G)(e:G a=some (.lst ds)):∃xs,H a=some (.lst xs)/\RDs K H ds xs:=by
 obtain⟨L,O,I⟩:=J a _ e;cases L with
 | lst xs=>exact⟨xs,O,I⟩
 | _=>exact I.elim
theorem nL(ho:PE X o (aB X.K to))(ha:PA X [e] (dI X.K t))(Sq:N6 o "append" X.env (eval o X.env)=eval o X.env:=by rfl)
  (SU:((NM cpos (MP [e] X.env)).all (λx=>!x.1) && (O3 cpos (Ot [] X.env)).all (λx=>x.1.isSome)
   && decide (([e]:List M7).length+([]:List Qe).length+(if ([]:List Qe).isEmpty then 0 else 1) < 30))=true:=by rfl)
  (Sx:(apos.endLine == cpos.line)=true:=by rfl) (hs:MP [e] X.env=(false,eval e X.env)::MP [] X.env:=by rfl) (Sy:(NM cpos (MP [] X.env)).any (·.1)=false:=by rfl):
  PE X (.Call (.Attribute o "append" apos) [e] [] cpos) (aB X.K (gX to t)):=
 (He PySem.F.plainAttrs_list PySem.F.slot_list_append PySem.F.type_list_append u9 ho ha Sq SU Sx hs Sy).imp λτ H Q zz=>by
 obtain⟨σ,G,Q3,rs,rg,h,k⟩:=zz;exact (
  ⟨σ,G,_,rs,rg,h,λd G1 v H1 q k1 O re=>by
    cases d with
    | ref a=>
     rw[re.ref];obtain⟨⟨ds,hg⟩,q⟩:=q;obtain⟨xs,e1,r1⟩:=sm O hg;refine⟨.inl ⟨rfl,xs,ij.of e1⟩,σ,G1,_,rs.mono (k1.stb rg),O,q,λes G2 vs H2 I k2 L Y=>?_⟩;split at I
     .rename_i d;obtain⟨v2,rfl,rd⟩:=dH Y;split at I
      .rename_i Z U;obtain⟨J,e2,r2⟩:=sm L U;have rr:RDs X.K H2 (Z ++ [d]) (J ++ [v2]):=r2.append (RDs.cons rd RDs.nil);obtain⟨kp,W⟩:=Gk L e2 rr (by rw[U];exact λz=>nomatch z)
       exact⟨a,J,v2,rfl,rfl,e2,by rw[<- r2.length];exact I.1,k _ _ _ _ I.2 ((k1.trans k2).trans kp) W (.of vW)⟩
      .exact I.elim
     .exact I.elim
    | _=>exact q.elim⟩)
def wE(G:Gp):D->Option String
 | .int _=>some "int"
 | .str _=>some "str"
 | .bl _=>some "bool"
 | .tup _=>some "tuple"
 | d=>(w_ G d).map λ_=>"list"
def LR:AF:=λds G Q=>match ds with
 | [d,.ty T]=>wE G d=some T/\Q (.bl true) G
 | _=>False
theorem wf{x:Str}{d:D}{v:V}{u:MC}(J:Gl X x)(I:X.mg x=some u)(r:aF v u)(rd:∀H,RD X.K H d v)(hd:(x == ("__debug__":Str))=false:=by decide):PE X (.Name x pos) (aB X.K (eC d)):=Kc (A3 J I r hd) rd
def LO(te:bb):bb:=λσ G Q=>te σ G λx G1=>match x with
 | .int i=>Q (.int (-i)) G1
 | _=>False
end
theorem nY{L:List Str}{f:Str}{i:Nat}(h:L.findIdx? (· == f)=some i):uE L f i:=by
 rw[List.findIdx?_eq_some_iff_getElem]at h;obtain⟨hi,h1,h2⟩:=h;refine⟨?_,λj J e=>?_⟩
 .rw[MO hi]
  simpa using h1
 .have I:j < L.length:=Nat.lt_trans J hi;have:=h2 j J;rw[MO I]at e;simp only[Option.some.injEq]at e;rw[e]at this;simp at this
noncomputable def Bk(N:List Str)(I scope:OU)(T M:List Str):Bool:=
 decide (scope.kind=.function) && scope.names.all (λy=>decide (y.2≠.cell) && (decide (y.2≠.local) || (decide (scope.names.lookup y.1=some .local) && ((".0":Str)::T).contains y.1)) &&
  (decide (y.2≠.free) || (decide (I.names.lookup y.1=some .cell) || decide (I.names.lookup y.1=some .free)))) && (M.all λx=>!((".0":Str)::T).contains x) && decide (M.length=N.length) &&
  ((M.zip N).all λp=>decide (p.1=p.2) || scope.names.all λy=>decide (y.1≠p.1))
theorem bY{X:Cx}{scope:OU}{T M:List Str}(hc:true=true)(h:Bk X.N X.env.scope scope T M=true):CompOk X scope T M:=by
 unfold Bk at h;rw[Bool.and_eq_true,Bool.and_eq_true,Bool.and_eq_true]at h;obtain⟨⟨⟨L,Y⟩,h4⟩,W⟩:=h;have hlen:M.length=X.N.length:=of_decide_eq_true h4;simp only[Bool.and_eq_true,List.all_eq_true,Bool.or_eq_true,decide_eq_true_eq,Bool.not_eq_true',List.contains_eq_mem]at L Y W;obtain⟨h1,h2⟩:=L;refine⟨hc,h1,λy I=>(h2 y I).1.1,λy I U=>?_,λy I U=>?_,hlen,λi x O=>?_,λx O=>?_,λy I hf=>?_⟩
 .rcases (h2 y I).1.2 with z|z
  .exact absurd U z
  .exact z.1
 .rcases (h2 y I).1.2 with z|z
  .exact absurd U z
  .simpa using z.2
 .have hi:i < M.length:=(List.getElem?_eq_some_iff.mp O).1;have J:i < X.N.length:=by omega
  have Z:(x,X.N[i])∈M.zip X.N:=by
   refine M_ (i:=i) ?_;rw[List.getElem?_zip_eq_some];exact⟨O,MO J⟩
  rcases W _ Z with z|z
  .left;rw[MO J];exact congrArg some (show x=X.N[i]from z).symm
  .exact .inr λy I=>z y I
 .simpa using Y x O
 .rcases (h2 y I).2 with z|z
  .exact absurd hf z
  .exact z
structure Fun3(K:Pj)(x qual:Str)(st:Nd)(f:MF)(fd:NL):Prop where
 ex:∃(oc:MC) (od:Option MF) (dV kV doc pm:MC) (an:Option MF) (cdv ct:MC) (osl:Array (Option MC)),
  fd=Ub x qual (fc st) (cQ st) (ah st) dV kV doc pm an cdv ct/\K.lookup f=some ⟨oc,od,.func fd,osl⟩/\RZ K cdv qual=true
section
variable{P:MR}{w:M4}{K:Pj}{mg:Str->Option MC}{base:MY}
theorem Fun3.ok3{x qual:Str}{st:Nd}{f:MF}{fd:NL}{N ps:List Str}{k:Nat}{sp:cR}(F:Fun3 K x qual st f fd)(S:Ψ N ps (ah st))(len:∀ds G Q,sp ds G Q->ds.length=ps.length)
  (Su:∀(I:MC) (A:MS) (outer:List Env) (s:MD) (H:Hp) (E:XK),Room k (A.deeper (OT qual (ah st) s.heap.objs.size f I))->
   ∃t:bH,iO (ux (ble 100 k) pO P w K mg base N qual (ah st) f I A outer s H E).nox (cQ st) (bx K t)/\∀ds G Q,sp ds G Q->t { nx:=λ_ G'=>Q .non G',rt:=Q } (cZ N ds) G):FnOk P w K mg base pO (k+1) f fd ps (b9 K sp):=by
 obtain⟨oc,od,dV,kV,doc,pm,an,I,ct,osl,rfl,lk,Y⟩:=F.ex;refine EG lk Y S (λvs H Q E ⟨ds,G,L,J,Z,h,U⟩=>by rw[<- J.length];exact len ds G L h) λA outer s H vs Q E hr W=>?_
 obtain⟨ds,G,L,J,Z,h,U⟩:=W;obtain⟨t,ht,hq⟩:=Su I A outer s H E hr;refine⟨bx K t,ht.nox,cZ N ds,G,{ nx:=λ_ G'=>L .non G',rt:=L },xB J,Z,hq ds G L h,⟨λσ' G' τ' H' q k' O rs'=>U _ G' _ H' q k' O (.of vW),U,λ_ _ _ _ q=>q.elim,λ_ _ _ _ q=>q.elim⟩⟩
theorem i9{x qual:Str}{st:Nd}{f:MF}{oc:MC}{od an:Option MF}{J:Array (Option MC)}{dV kV doc pm I ct:MC}(l:K.lookup f=some ⟨oc,od,.func (Ub x qual (fc st) (cQ st) (ah st) dV kV doc pm an I ct),J⟩)
  (c:RZ K I qual=true):Fun3 K x qual st f (Ub x qual (fc st) (cQ st) (ah st) dV kV doc pm an I ct):=⟨⟨oc,od,dV,kV,doc,pm,an,I,ct,J,rfl,l,c⟩⟩
end
theorem ag{t u:bH}{D:Ends3}{σ:eV}{G:Gp}:sSeq t u D σ G=t { D with nx:=u D } σ G:=rfl
theorem wQ{ds:List D}{i:Int}(h:0<=i):cutD ds none (some i)=ds.take i.toNat:=by
 have:HT.sIx ds.length ds.length (some i)=min i.toNat ds.length:=by simp only[HT.sIx];rw[if_neg (by omega)]
 unfold cutD;rw[this];simp only[HT.sIx,Qb,Nat.sub_zero];rw[List.take_eq_take_iff];omega
theorem Cq{ds:List D}{i:Int}(h:0<=i):cutD ds (some i) none=ds.drop i.toNat:=by
 have:HT.sIx ds.length 0 (some i)=min i.toNat ds.length:=by simp only[HT.sIx];rw[if_neg (by omega)]
 unfold cutD;rw[this];simp only[HT.sIx];rw[List.take_of_length_le (by simp)]
 by_cases hi:i.toNat<=ds.length
 .rw[Nat.min_eq_left hi]
 .rw[Nat.min_eq_right (by omega),P3,List.drop_eq_nil_of_le (by omega)]
theorem yU{ds:List D}{i j:Int}(h:0<=i)(h2:0<=j):cutD ds (some i) (some j)=(ds.drop i.toNat).take (j.toNat - i.toNat):=by
 have O:HT.sIx ds.length 0 (some i)=min i.toNat ds.length:=by simp only[HT.sIx];rw[if_neg (by omega)]
 have L:HT.sIx ds.length ds.length (some j)=min j.toNat ds.length:=by simp only[HT.sIx];rw[if_neg (by omega)]
 unfold cutD;rw[O,L]
 by_cases hi:i.toNat<=ds.length
 .rw[Nat.min_eq_left hi,List.take_eq_take_iff,O1]
  by_cases J:j.toNat<=ds.length
  .rw[Nat.min_eq_left J]
  .have I:=Nat.le_of_not_le J;rw[Nat.min_eq_right I,Nat.min_self,Nat.min_eq_right (Nat.sub_le_sub_right I _)]
 .rw[Nat.min_eq_right (Nat.le_of_not_le hi),P3,List.drop_eq_nil_of_le (le_of_lt (Nat.lt_of_not_le hi))];simp
def S(I:List Nat):Str:=⟨I.toArray⟩
theorem E4{I:List Nat}:(S I).length=I.length:=by simp[S,PJ]
theorem KZ(x:Str):S x.cps.toList=x:=by cases x;simp[S]
theorem zb{a b:List Nat}:S a ++ S b=S (a ++ b):=by
 show Str.append (S a) (S b)=_
 simp[Str.append,S]
theorem kK{ds:List D}{i:Int}(h0:0<=i)(h:i < ds.length):lD ds i=some (ds[i.toNat]'(by omega)):=by
 unfold lD Gt;rw[if_pos h0,if_pos h];simp[show i.toNat < ds.length by omega]
theorem GD:(MI "")=S []:=by decide +kernel
theorem B9(ys:List Str):QX (S []) ys=S (ys.map (·.cps.toList)).flatten:=by
 rw[eq_of_beq (join_plain_closes (S []) ys)]
 induction ys with
 | nil=>rfl
 | cons y r I=>
  cases r with
  | nil=>simp only[Str.join,M5,Pn,List.flatten_cons,List.flatten_nil,Ng,KZ]
  | cons z r=>
   rw[Str.join,I,M5,List.flatten_cons]
   conv=>lhs;rw[<- KZ y]
   rw[zb,zb,Ng]
   all_goals first|rfl|simp
theorem Ak(I:List Nat):QX (S []) (I.map λc=>(⟨#[c]⟩:Str))=S I:=by
 rw[B9];congr 1
 induction I with
 | nil=>rfl
 | cons c r J=>simp only[M5,List.flatten_cons,J];rfl
theorem aj:1000000<=MN:=by decide
theorem dB(lo:Int)(n:Nat):(fy lo n).length=n:=by simp[fy]
theorem rX{lo:Int}{n i:Nat}{d:D}(h:(fy lo n)[i]?=some d):i < n/\d=.int (lo+(i:Nat)):=by
 have I:i < (fy lo n).length:=(List.getElem?_eq_some_iff.mp h).1;rw[dB]at I;refine⟨I,?_⟩;rw[fy,MZ,List.getElem?_range I]at h
 simpa using h.symm
def vK:cR:=λvs _ Q=>match vs with
 | [.lst ds]=>∃ns:List Int,ds=ns.map D.int/\ns.length<=63/\∀G',Q (.bl true) G'
 | _=>False
theorem B5{K:Pj}{H:Hp}{a:MF}{ns:List Int}(I:ns.length<=63)(L:GQ H)(J:ij K H a (ns.map V.int))(E:XK):b9 K vK [.ref a] H (λv _=>v=.bl true) E:=by
 have O:CL K H a (ns.map V.int):=by
  rcases J with (h|⟨o,h⟩)|h
  .rcases L a with e|⟨o,xs,e⟩
   .rw[h]at e;cases e
   .rw[h]at e;cases e
  .exact .inl ⟨o,h⟩
  .exact .inr h
 refine⟨[.lst (ns.map D.int)],λ_=>none,λd _=>d=.bl true,RDs.cons (rU O (RDs.ints ns)) RDs.nil,(λb o q=>nomatch q),⟨ns,rfl,I,λ_=>rfl⟩,λd G' v H' q _ _ re=>?_⟩;subst q;exact re.bl
theorem walk3{l:PySem.W.OpenLaw}{q:MR}{loose:List Str}{XP:(Str->Option MC)->MY->Prop}{J:M4->MY->Prop}{d:DefRec}{K:Params->Pj}{k:Nat}{x:Str}(hn:l.most=some 63)(I:d.params.defaults=[])(L:Room k Qc)
  (U:∀(w:M4) (h:MY),J w h->(K w.params).In h)
  (F:∀(w:M4) (mg:Str->Option MC) (fa:MF) (h:MY),(K w.params).In h->h.Ns MT mg->mg d.name=some (.ref fa)->
   ∃fd:NL,(∀(s:MD) (u:MC),QQ s fd ⟨[u],[]⟩ [(x,u)])/\∀base:MY,(K w.params).In base->base.Ns MT mg->FnOk l.prog w (K w.params) mg base pO k fa fd [x] (b9 (K w.params) vK)):
  PySem.W.WalkO q loose XP J l.row.toRowW d [] (λf vs=>PySem.call f vs):=
 L2.walk_of (n:=63) (k:=k) (x:=x) (CX:=λ_=>pO) (sp:=λw=>b9 (K w.params) vK) hn (by decide) I L U F (λ_ _ _ _ O Z Y=>B5 O Z Y _) λ_ _ _ _ _ z=>z
end L3
namespace L2
open PySem PySem.Spec PyProof.Rows
end L2
namespace L3
open PySem PySem.Spec PyProof.Rows L2
def Ls(i:Nat)(t:bH):bH:=λD σ G=>match σ[i]? with
 | some (some (.ref p))=>match G p with
  | some (.lst ds)=>t D (σ.set i (some (.lst ds))) (fB G p)
  | _=>False
 | some (some (.lst _))=>t D σ G
 | _=>False
theorem KU{a:D}:lD [a] 0=some a:=rfl
theorem KS{a b:D}:lD [a,b] 0=some a:=rfl
theorem KR{a b:D}:lD [a,b] 1=some b:=rfl
theorem KQ{a b c:D}:lD [a,b,c] 0=some a:=rfl
theorem KP{a b c:D}:lD [a,b,c] 1=some b:=rfl
theorem KO{a b c:D}:lD [a,b,c] 2=some c:=rfl
theorem KN{a b c d:D}:lD [a,b,c,d] 0=some a:=rfl
theorem KM{a b c d:D}:lD [a,b,c,d] 1=some b:=rfl
theorem KL{a b c d:D}:lD [a,b,c,d] 2=some c:=rfl
theorem KJ{a b c d:D}:lD [a,b,c,d] 3=some d:=rfl
theorem KI{a b c d e:D}:lD [a,b,c,d,e] 0=some a:=rfl
theorem KH{a b c d e:D}:lD [a,b,c,d,e] 1=some b:=rfl
theorem KG{a b c d e:D}:lD [a,b,c,d,e] 2=some c:=rfl
theorem KF{a b c d e:D}:lD [a,b,c,d,e] 3=some d:=rfl
theorem KE{a b c d e:D}:lD [a,b,c,d,e] 4=some e:=rfl
theorem bB{c:ou}{t u:bH}{E:Ends3}{σ:eV}{G:Gp}(b:Bool)(I:∀K:Bool->Gp->Prop,K b G->c σ G K)(h:if b=true then t E σ G else u E σ G):kS c t u E σ G:=I _ h
theorem Dm{t u:bH}{E:Ends3}{σ:eV}{G:Gp}{NX:eV->Gp->Prop}(h2:∀I G',NX I G'->u E I G')(h1:∀J:eV->Gp->Prop,(∀I G',NX I G'->J I G')->t { E with nx:=J } σ G):sSeq t u E σ G:=h1 (u E) h2
open PySem.SeqAt
def LD(x:D)(ds:List D):Bool:=ds.any λd=>eK d x
def IA:R3:=λx y G Q=>match Fa G y with
 | some ds=>(pl 7 x/\∀d∈ds,pl 7 d)/\Q (.bl (!LD x ds)) G
 | none=>False
section
variable{κ:Type}[DecidableEq κ]
noncomputable def cx(ν:List (κ×D))(k:κ):Option D:=(ν.find? λI=>decide (I.1=k)).map (·.2)
noncomputable def aT(ν:List (κ×D))(k:κ)(v:D):List (κ×D):=
 if (ν.any λI=>decide (I.1=k))=true then ν.map (λI=>if I.1=k then (I.1,v)else I)else ν ++ [(k,v)]
theorem oo(k:κ):∀ν:List (κ×D),(ν.any λkv=>decide (kv.1=k))=(cx ν k).isSome
 | []=>rfl
 | p::r=>by
  by_cases e:p.1=k
  .simp[cx,Nj,e]
  .have I:=oo k r;simp only[P6,e,decide_false,Bool.false_or,I];simp[cx,Nj,e]
theorem eQ(ν:List (κ×D))(k:κ)(v:D):(aT ν k v).length<=ν.length+1:=by
 unfold aT;split<;>simp
theorem BN(ν:List (κ×D))(k:κ)(v:D):(aT ν k v).map (·.1)=if k∈ν.map (·.1)then ν.map (·.1)else ν.map (·.1) ++ [k]:=by
 unfold aT;have e:((ν.any λJ=>decide (J.1=k))=true)↔k∈ν.map (·.1):=by
  rw[List.any_eq_true,mem_map];constructor
  .rintro⟨p,I,q⟩;exact⟨p,I,of_decide_eq_true q⟩
  .rintro⟨p,I,rfl⟩;exact⟨p,I,decide_eq_true rfl⟩
 by_cases h:k∈ν.map (·.1)
 .rw[if_pos (e.mpr h),if_pos h,Nr];refine Om λp _=>?_;simp only[Function.comp_apply];split<;>rfl
 .rw[if_neg (λz=>h (e.mp z)),if_neg h];simp
theorem mz{ν:List (κ×D)}(k:κ)(v:D)(h:(ν.map (·.1)).Nodup):((aT ν k v).map (·.1)).Nodup:=by
 rw[BN];split
 .exact h
 .rename_i I;rw[List.nodup_append];refine⟨h,by simp,λa L b J=>?_⟩
  have:b=k:=by simpa using J
  subst this;exact λz=>I (z ▸ L)
end
def Gr:D->Option aE
 | .int i=>some (.inl i)
 | .str x=>some (.inr x)
 | _=>none
noncomputable def kD:aE->D
 | .inl i=>.int i
 | .inr x=>.str x
noncomputable def yC:List D->Option (List aE)
 | []=>some []
 | d::r=>match Gr d,yC r with
  | some k,some I=>some (k::I)
  | _,_=>none
def mI:D->Option (List aE)
 | .tup ds=>yC ds
 | _=>none
theorem IM(k:aE):Gr (kD k)=some k:=by cases k<;>rfl
theorem Bb:∀ks:List aE,yC (ks.map kD)=some ks
 | []=>rfl
 | k::r=>by simp only[M5,yC,IM,Bb r]
section
variable{K:Pj}{H:Hp}
theorem Aj{d:D}{k:aE}{v:V}(h:Gr d=some k)(r:RD K H d v):v=kV k:=by
 cases d with
 | int i=>simp only[Gr,Option.some.injEq]at h;subst h;simp only[RD]at r;exact r
 | str i=>simp only[Gr,Option.some.injEq]at h;subst h;simp only[RD]at r;exact r
 | _=>simp[Gr]at h
theorem yB:∀{ds:List D} {ks:List aE} {vs:List V},yC ds=some ks->RDs K H ds vs->vs=ks.map kV
 | [],ks,vs,h,r=>by
  simp only[yC,Option.some.injEq]at h;subst h;exact r.inv_nil
 | d::t,ks,vs,h,r=>by
  obtain⟨x,u,e,h1,h2⟩:=r.inv_cons;subst e;simp only[yC]at h;split at h
  .rename_i k L J I;simp only[Option.some.injEq]at h;subst h;rw[Aj J h1,yB I h2];rfl
  .cases h
theorem nX{d:D}{ks:List aE}{v:V}(h:mI d=some ks)(r:RD K H d v):∃b,v=.ref b/\jL K H b (ks.map kV):=by
 cases d with
 | tup ds=>
  simp only[RD]at r;obtain⟨a,xs,e,q,rr⟩:=r;exact⟨a,e,by rw[<- yB h rr];exact q⟩
 | _=>simp[mI]at h
theorem pJ.keys{ν:List (List aE×D)}{xs:List (List aE×MF×MC)}(r:pJ K H ν xs):ν.map (·.1)=xs.map (·.1):=by
 unfold pJ at r
 induction r with
 | nil=>rfl
 | cons h _ I=>rw[M5,M5,h.1,I]
theorem pJ.val{ν:List (List aE×D)}{xs:List (List aE×MF×MC)}(r:pJ K H ν xs)(k:List aE):
  (cx ν k=none/\O4 xs k=none)\/∃d b u v,cx ν k=some d/\O4 xs k=some (b,u)/\RD K H d v/\aF v u:=by
 unfold pJ at r
 induction r with
 | nil=>exact .inl ⟨rfl,rfl⟩
 | @cons p q ps J h t L=>
  obtain⟨h1,_,v,h2,O⟩:=h
  by_cases e:p.1=k
  .have I:q.1=k:=h1.symm.trans e;exact .inr ⟨p.2,q.2.1,q.2.2,v,by simp[cx,Nj,e],by simp[O4,Nj,I],h2,O⟩
  .have I:¬ q.1=k:=λz=>e (h1.trans z);have a1:cx (p::ps) k=cx ps k:=by simp[cx,Nj,e]
   have a2:O4 (q::J) k=O4 J k:=by simp[O4,Nj,I]
   rw[a1,a2];exact L
theorem pJ.put{ν:List (List aE×D)}{xs:List (List aE×MF×MC)}(r:pJ K H ν xs)(k:List aE){b:MF}{d:D}{v:V}{u:MC}(U:jL K H b (k.map kV))(hd:RD K H d v)(I:aF v u):pJ K H (aT ν k d) (P9 xs k b u):=by
 have e:(ν.any λL=>decide (L.1=k))=(O4 xs k).isSome:=by
  rw[oo];rcases r.val k with ⟨a,b⟩|⟨_,_,_,_,a,b,_⟩<;>rw[a,b]<;>rfl
 unfold aT P9;rw[e]
 by_cases q:(O4 xs k).isSome=true
 .rw[if_pos q,if_pos q];unfold pJ at r ⊢;clear e q
  induction r with
  | nil=>exact .nil
  | @cons p q ps Z h t O=>
   rw[M5,M5];refine .cons ?_ O;obtain⟨h1,h2,J,Y,W⟩:=h;unfold putAt
   by_cases e:p.1=k
   .rw[if_pos e,if_pos (h1.symm.trans e)];exact⟨h1,h2,v,hd,I⟩
   .rw[if_neg e,if_neg (λz=>e (h1.trans z))];exact⟨h1,h2,J,Y,W⟩
 .rw[if_neg q,if_neg q];exact QL r ⟨rfl,U,v,hd,I⟩
theorem zd.val{ν:List (aE×D)}{xs:List (aE×V)}(r:zd K H ν xs)(k:aE):(cx ν k=none/\mi xs k=none)\/∃d v,cx ν k=some d/\mi xs k=some v/\RD K H d v:=by
 unfold zd at r
 induction r with
 | nil=>exact .inl ⟨rfl,rfl⟩
 | @cons p q ps L h t J=>
  obtain⟨h1,h2⟩:=h
  by_cases e:p.1=k
  .have I:q.1=k:=h1.symm.trans e;exact .inr ⟨p.2,q.2,by simp[cx,Nj,e],mO I,h2⟩
  .have I:¬ q.1=k:=λz=>e (h1.trans z);have a1:cx (p::ps) k=cx ps k:=by simp[cx,Nj,e]
   rw[a1,mP I];exact J
theorem zd.put{ν:List (aE×D)}{xs:List (aE×V)}(r:zd K H ν xs)(k:aE){d:D}{v:V}(hd:RD K H d v):zd K H (aT ν k d) (nK xs k v):=by
 have e:(ν.any λI=>decide (I.1=k))=(xs.any λI=>decide (I.1=k)):=by
  rw[oo,qW];rcases r.val k with ⟨a,b⟩|⟨_,_,a,b,_⟩<;>rw[a,b]<;>rfl
 unfold aT nK;rw[e]
 by_cases q:(xs.any λI=>decide (I.1=k))=true
 .rw[if_pos q,if_pos q];unfold zd at r ⊢;clear e q
  induction r with
  | nil=>exact .nil
  | @cons p q ps L h t J=>
   rw[M5,M5];refine .cons ?_ J;obtain⟨h1,h2⟩:=h
   by_cases e:p.1=k
   .rw[if_pos e,if_pos (h1.symm.trans e)];exact⟨h1,hd⟩
   .rw[if_neg e,if_neg (λz=>e (h1.trans z))];exact⟨h1,h2⟩
 .rw[if_neg q,if_neg q];exact QL r ⟨rfl,hd⟩
theorem zd.length{ν:List (aE×D)}{xs:List (aE×V)}(r:zd K H ν xs):ν.length=xs.length:=O0 r
theorem pJ.length{ν:List (List aE×D)}{xs:List (List aE×MF×MC)}(r:pJ K H ν xs):ν.length=xs.length:=O0 r
end
def aJ(P:MR)(w:M4):List aE->Int:=tupleKeyHash (aX P w)
section
variable{X:Cx}{pins:List (MF×Obj)}{σ:St}{H:Hp}{s:MD}{a:MF}
theorem key_at(I:Inv X pins σ H s){b:MF}{ks:List aE}(h:jL X.K H b (ks.map kV)):(NS (aX X.prog X.w)).is s.heap ks b:=by
 obtain⟨J,r,⟨o,h1,h2,n,L⟩,_⟩:=I.tuple h;exact⟨o,J.toArray,n,h1,h2,L,by simpa using pB r⟩
theorem qQ(I:Inv X pins σ H s){ν:List (List aE×D)}{xs:List (List aE×MF×MC)}{O:MY->Prop}(e:H a=some (.ext O))(r:pJ X.K H ν xs)(nd:(ν.map (·.1)).Nodup)(J:∀h,O h->xj (aJ X.prog X.w) a xs h:=by exact λ_ z=>z):
  (a == NG)=false/\s.heap.DictOfH (NS (aX X.prog X.w)) a xs:=by
 obtain⟨hd,o,es,ep,h1,h2,Y,U⟩:=J _ (show bz X.prog X.w H s.heap a (.ext O)from I.hok a _ e).1
 refine⟨hd,o,es,ep,h1,h2,Y,U,?_,by rw[<- r.keys];exact nd⟩
 unfold pJ at r;clear U e nd J
 induction r with
 | nil=>intro x L;exact nomatch L
 | @cons p q ps Z hq t W=>
  intro x L;rcases NC.mp L with e|L
  .subst e;exact key_at I (by rw[<- hq.1];exact hq.2.1)
  .exact W x L
theorem pG{P:MR}{w:M4}{H':Hp}{h:MY}{hw:List aE->Int}{xs:List (List aE×MF×MC)}(h1:xj hw a xs h):bz P w H' h a (.ext (xj hw a xs)):=by
 obtain⟨hd,o,es,ep,e,r⟩:=h1;exact⟨⟨hd,o,es,ep,e,r⟩,⟨o,e⟩,λh1 h2 ⟨hd,o,es,ep,e,r⟩ k=>⟨hd,o,es,ep,k o e,r⟩⟩
end
section
variable{K:Pj}{H:Hp}{G:Gp}
theorem Gx{p:MF}{o:GO}{ho:HO}(I:RG K H G)(e:H p=none)(L:∀H':Hp,Stb K H H'->RO K H' p o ho):Kp G H (gset G p o) (aV H p ho)/\RG K (aV H p ho) (gset G p o):=by
 have kp:Kp G H (gset G p o) (aV H p ho):=λb h q n=>by
  have:b≠p:=bw q e;exact⟨by rw[ao this];exact q,by rw[ai this];exact n⟩
 refine⟨kp,λb u q=>?_⟩
 by_cases J:b=p
 .subst J;rw[av]at q;cases q;exact⟨_,aG,L _ (kp.stb I)⟩
 .rw[ai J]at q;obtain⟨h,U,O⟩:=I b u q;exact⟨h,by rw[ao J];exact U,O.mono (kp.stb I)⟩
theorem wH{a:MF}{o:GO}{ho:HO}(I:RG K H G)(W:G a≠none)(L:∀H':Hp,Stb K H H'->RO K H' a o ho):Kp G H (gset G a o) (aV H a ho)/\RG K (aV H a ho) (gset G a o):=by
 have kp:Kp G H (gset G a o) (aV H a ho):=λb h e n=>by
  have:b≠a:=λz=>by subst z;exact W n
  exact⟨by rw[ao this];exact e,by rw[ai this];exact n⟩
 refine⟨kp,λb u q=>?_⟩
 by_cases J:b=a
 .subst J;rw[av]at q;cases q;exact⟨_,aG,L _ (kp.stb I)⟩
 .rw[ai J]at q;obtain⟨h,U,O⟩:=I b u q;exact⟨h,by rw[ao J];exact U,O.mono (kp.stb I)⟩
end
def qf(hw:List aE->Int):bb:=λ_ G Q=>∀p,G p=none->Q (.ref p) (gset G p (.dT hw []))
def Bi:bb:=λ_ G Q=>∀p,G p=none->Q (.ref p) (gset G p (.dK []))
section
variable{X:Cx}{pos:Pos}
theorem o6{O:List aE->Int}  (W:aJ X.prog X.w=O:=by first|walk_at "h"|rfl):PE X (.Dict [] [] pos) (aB X.K (qf O)):=by
 subst W
 rintro pins s τ H Q I ⟨σ,G,Z,Y,L,h,k⟩
 have U:H s.heap.objs.size=none:=I.hok.fresh (le_refl _);obtain⟨kp,J⟩:=Gx (o:=.dT (aJ X.prog X.w) []) (ho:=.ext (xj (aJ X.prog X.w) s.heap.objs.size [])) L U λH' _=>⟨[],rfl,.nil,QF,NH _⟩;have hd:(s.heap.objs.size == NG)=false:=beq_eq_false_iff_ne.mpr (Ne.symm (M6 I.big));exact wpAny_Dict_empty ⟨.ref s.heap.objs.size,_,I.laid (a:=s.heap.objs.size) (t':=s.toks) (λ_ _ q=>ME _ q) (le_refl _) (pG ⟨hd,_,#[],0,MM _ rfl,⟨rfl,rfl,rfl⟩,rfl,rfl⟩),rfl,
  k _ _ _ _ (h _ (L.free U)) kp J (.of fV)⟩
theorem D8:PE X (.Dict [] [] pos) (aB X.K Bi):=D4.imp λτ H Q ⟨σ,G,U,O,J,h,k⟩ p L=>by
 obtain⟨kp,I⟩:=Gx (o:=.dK []) (ho:=.dK []) J L λH' _=>(show zd X.K H' [] []from .nil)
 exact k _ _ _ _ (h _ (J.free L)) kp I (.of fV)
end
def kg(hw:List aE->Int):D->D->D->Gp->(Gp->Prop)->Prop:=λo i v G Q=>match o with
 | .ref a=>match G a with
  | some (.dT J I)=>J=hw/\∃L,mI i=some L/\I.length < MN/\Q (gset G a (.dT hw (aT I L v)))
  | some (.dK I)=>∃k,Gr i=some k/\I.length < MN/\Q (gset G a (.dK (aT I k v)))
  | some (.lst ds)=>match i with
   | .int j=>∃m,Gt ds.length j=some m/\Q (gset G a (.lst (ds.set m v)))
   | _=>False
  | _=>False
 | _=>False
def Gm(K:Pj)(r:D->D->D->Gp->(Gp->Prop)->Prop):GM:=λo i v H Q=>∃x y z G I,RD K H x o/\RD K H y i/\RD K H z v/\RG K H G/\r x y z G I/\∀G' H',I G'->Kp G H G' H'->RG K H' G'->Q H'
def dG(hw:List aE->Int)(to ti te:bb):bH:=λE σ G=>te σ G λv G1=>to σ G1 λo G2=>ti σ G2 λi J=>kg hw (val o) (val i) (val v) J λI=>E.nx σ I
section
variable{X:Cx}
theorem Hz(hu:X.A.units+8 < NA):Jt X (Gm X.K (kg (aJ X.prog X.w))):=by
 rintro pins s σ H o i v ov iv u Q I ro ri rv ⟨x,y,z,G,Q3,rx,Y,Z,U,h,k⟩
 unfold kg at h;split at h
 .rename_i a;simp only[RD]at rx;subst rx;cases ro;split at h
  .rename_i hw' L O;obtain⟨rfl,W,hk,hl,h⟩:=h;obtain⟨b,rfl,sq⟩:=nX hk Y;cases ri;obtain⟨ho,e,r⟩:=U a _ O;cases ho with
   | ext φ=>
    obtain⟨xs,rfl,rt,nd,_⟩:=r;obtain⟨hd,dd⟩:=qQ I e rt nd;have hz:xs.length<=MN:=by rw[<- rt.length];omega
    refine RN (hsz:=hz) (NB (show X.A.units+1 < NA by omega)) (key_at I sq) dd λh' dd' hs=>?_
    obtain⟨q,es,ep,hq,h2,h3,h4,_,h5⟩:=dd';obtain⟨kp,J⟩:=wH (a:=a) (o:=.dT (aJ X.prog X.w) (aT L W z)) (ho:=.ext (xj (aJ X.prog X.w) a (P9 xs W b u))) U (by rw[O];exact λz=>nomatch z)
     λH' st=>⟨_,rfl,(rt.put W sq Z rv).mono st,mz W z nd,by have:=eQ L W z;omega⟩
    exact⟨_,qS I (by rw[e];exact True.intro) hs ⟨q,hq⟩ (pG ⟨hd,q,es,ep,hq,h2,h3,h4⟩),k _ _ h kp J⟩
   | _=>exact r.elim
  .rename_i L O;obtain⟨kk,hk,hl,h⟩:=h;have ei:=Aj hk Y;subst ei;obtain⟨ho,e,r⟩:=U a _ O;cases ho with
   | dK xs=>
    have r':zd X.K H L xs:=r;obtain⟨kp,J⟩:=wH (a:=a) (o:=.dK (aT L kk z)) (ho:=.dK (nK xs kk v)) U (by rw[O];exact λz=>nomatch z) λH' st=>(r'.put kk Z).mono st
    exact Cn (by omega) I (GV.k e (by rw[<- r'.length];exact hl)) ri rv λs' I'=>⟨_,I',k _ _ h kp J⟩
   | _=>exact r.elim
  .rename_i ds O;split at h
   .rename_i j;obtain⟨m,hm,h⟩:=h;simp only[RD]at Y;subst Y;obtain⟨ho,e,r⟩:=U a _ O;cases ho with
    | lst xs=>
     have r':RDs X.K H ds xs:=r;obtain⟨kp,J⟩:=wH (a:=a) (o:=.lst (ds.set m z)) (ho:=.lst (xs.set m v)) U (by rw[O];exact λz=>nomatch z) λH' st=>RDs.mono st _ _ (r'.set m Z)
     exact Dl pins s σ H (.ref a) _ _ _ _ _ _ I rfl ri rv ⟨a,xs,j,m,rfl,rfl,e,by rw[<- r'.length];exact hm,k _ _ h kp J⟩
    | _=>exact r.elim
   .exact h.elim
  .exact h.elim
 .exact h.elim
theorem e7{hh:List aE->Int}{o i e:M7}{to ti te:bb}{pos pos':Pos}(hu:X.A.units+8 < NA)(ho:PE X o (aB X.K to))(hi:PE X i (aB X.K ti))(he:PE X e (aB X.K te))
  (hs:swapsWithSole [.Subscript o i pos'] e pos.line X.env=pure false:=by rfl) (hw:swappedStores [.Subscript o i pos'] e X.env=pure none:=by rfl) (h1:(N0 [.Subscript o i pos'] X.env).map (·.2)=[assign (.Subscript o i pos') X.env]:=by rfl)
  (ha:∀v,assign (.Subscript o i pos') X.env v=(do
   let ov <- holding [v] (eval o X.env)
   let iv <- holding [v,ov] (eval i X.env)
   O9 pos'
   holding [v,ov,iv] (Sb ov iv v)
   release [v,ov,iv] []):=by intro _;rfl) (eh:aJ X.prog X.w=hh:=by first|walk_at "h"|rfl):PS X (.Assign [.Subscript o i pos'] e pos) (bx X.K (dG hh to ti te)):=by
 subst eh;exact (Ib (dD he) (Ig (dD ho) (dD hi) (Hz hu) ha) hs hw h1).imp λE τ H ⟨σ,G,E3,L,O,h,k⟩=>⟨σ,G,_,L,O,h,λv G1 u H1 q1 k1 J rd1=>
  ⟨σ,G1,_,L.mono (k1.stb O),J,q1,λo G2 u2 H2 q2 k2 I Z=>⟨σ,G2,_,L.mono ((k1.trans k2).stb O),I,q2,λi G3 u3 H3 q3 k3 W Y=>
   ⟨val o,val i,val v,G3,_,RD.mono (k3.stb I) _ _ Z,Y,RD.mono ((k2.trans k3).stb J) _ _ rd1,W,q3,λG4 H4 q4 k4 U=>k.nx σ G4 τ H4 q4 (k1.trans (k2.trans (k3.trans k4))) U (L.mono ((k1.trans (k2.trans (k3.trans k4))).stb O))⟩⟩⟩⟩
end
def cu(hw:List aE->Int)(G:Gp)(o i:D)(r:Option D):Prop:=match o with
 | .ref a=>match G a with
  | some (.dT J I)=>J=hw/\∃L,mI i=some L/\r=cx I L
  | some (.dK I)=>∃k,Gr i=some k/\r=cx I k
  | some (.dF _ J _ I)=>J=hw/\∃L,mI i=some L/\r=cx I L
  | _=>False
 | _=>False
def jy(G:Gp)(o:D):Prop:=match o with
 | .ref a=>match G a with
  | some (.dT _ _)=>True
  | some (.dK _)=>True
  | some (.dF _ _ _ _)=>True
  | _=>False
 | _=>False
section
variable{X:Cx}{pins:List (MF×Obj)}{σ:St}{H:Hp}{s:MD}{G:Gp}{A:MS}{E:MC->MD->Prop}{x y d z:D}{o i zv:V}{ov iv zu:MC}{r:Option D}
theorem cu.split(h:cu (aJ X.prog X.w) G x y r)(I:Inv X pins σ H s)(Y:RG X.K H G)(rx:RD X.K H x o)(ro:aF o ov)(W:RD X.K H y i)(ri:aF i iv):
  ∃a,ov=.ref a/\((∃hs k,H a=some (.dK hs)/\i=kV k/\((r=none/\mi hs k=none)\/∃d v,r=some d/\mi hs k=some v/\RD X.K H d v))\/
   ∃xs ks b,(a == NG)=false/\s.heap.DictOfH (NS (aX X.prog X.w)) a xs/\iv=.ref b/\(NS (aX X.prog X.w)).is s.heap ks b/\
    ((r=none/\O4 xs ks=none)\/∃d b' u v,r=some d/\O4 xs ks=some (b',u)/\RD X.K H d v/\aF v u)):=by
 unfold cu at h;split at h
 .rename_i a;simp only[RD]at rx;subst rx;cases ro;refine⟨a,rfl,?_⟩;split at h
  .rename_i Z J U;obtain⟨rfl,ks,O,rfl⟩:=h;obtain⟨b,rfl,sq⟩:=nX O W;cases ri;obtain⟨L,e,q⟩:=Y a _ U;cases L with
   | ext φ=>
    obtain⟨xs,rfl,rt,nd,_⟩:=q;obtain⟨hd,dd⟩:=qQ I e rt nd;exact .inr ⟨xs,ks,b,hd,dd,rfl,key_at I sq,rt.val ks⟩
   | _=>exact q.elim
  .rename_i J U;obtain⟨k,O,rfl⟩:=h;obtain⟨L,e,q⟩:=Y a _ U;cases L with
   | dK hs=>
    have q':zd X.K H J hs:=q;exact .inl ⟨hs,k,e,Aj O W,q'.val k⟩
   | _=>exact q.elim
  .rename_i ob Z xs J U;obtain⟨rfl,ks,O,rfl⟩:=h;obtain⟨b,rfl,sq⟩:=nX O W;cases ri;obtain⟨L,e,q⟩:=Y a _ U;cases L with
   | ext φ=>
    obtain⟨rfl,rt,nd,_⟩:=q;obtain⟨hd,dd⟩:=qQ I e rt nd λ_ z=>z.2;exact .inr ⟨xs,ks,b,hd,dd,rfl,key_at I sq,rt.val ks⟩
   | _=>exact q.elim
  .exact h.elim
 .exact h.elim
theorem jy.at(h:jy G x)(I:Inv X pins σ H s)(Y:RG X.K H G)(rx:RD X.K H x o)(ro:aF o ov):
  s.TypeIs ov "dict"/\(∀b,ov=.ref b->∃J,s.heap.get? b=some J/\J.dict=none):=by
 unfold jy at h;split at h
 .rename_i a;simp only[RD]at rx;subst rx;cases ro;split at h
  .rename_i L O W;obtain⟨U,e,q⟩:=Y a _ W;cases U with
   | ext φ=>
    obtain⟨xs,rfl,rt,nd,_⟩:=q;obtain⟨hd,J,es,ep,h1,h2,h3,h4⟩:=(show bz X.prog X.w H s.heap a (.ext (xj L a xs))from I.hok a _ e).1
    refine⟨⟨J,h1,h2.1⟩,λb Z=>?_⟩;cases Z;exact⟨J,h1,h2.2.1⟩
   | _=>exact q.elim
  .rename_i O W;obtain⟨U,e,q⟩:=Y a _ W;cases U with
   | dK hs=>
    obtain⟨t1,t2,_⟩:=IS I (.inl ⟨hs,.inl e⟩);exact⟨t1,t2⟩
   | _=>exact q.elim
  .rename_i J L xs O W;obtain⟨U,e,q⟩:=Y a _ W;cases U with
   | ext φ=>
    obtain⟨rfl,rt,nd,_⟩:=q;obtain⟨_,hd,J,es,ep,h1,h2,h3,h4⟩:=(show bz X.prog X.w H s.heap a (.ext (Mh _ L a xs))from I.hok a _ e).1
    exact⟨⟨J,h1,h2.1⟩,λb Z=>by cases Z;exact⟨J,h1,h2.2.1⟩⟩
   | _=>exact q.elim
  .exact h.elim
 .exact h.elim
theorem cu.dct{hw:List aE->Int}(h:cu hw G x y r):jy G x:=by
 unfold cu at h;unfold jy;split at h
 .split at h
  .rename_i e;simp only[e]
  .rename_i e;simp only[e]
  .rename_i e;simp only[e]
  .exact h.elim
 .exact h.elim
theorem GG{Q:MC->MD->Prop}(W:A.units+1 < NA)(I:Inv X pins σ H s)(rg:RG X.K H G)(h:cu (aJ X.prog X.w) G x y (some d))(rx:RD X.K H x o)(Z:aF o ov)(Y:RD X.K H y i)(U:aF i iv)
  (q:∀v u s',Inv X pins σ H s'->RD X.K H d v->aF v u->Q u s'):MJ (MK X.prog X.w) A (PF ov iv) Q E s:=by
 obtain⟨a,rfl,⟨hs,k,e,rfl,r⟩|⟨xs,ks,b,hd,dd,rfl,hk,r⟩⟩:=h.split I rg rx Z Y U
 .rcases r with ⟨z,_⟩|⟨d',v,O,L,rd⟩
  .cases z
  .cases O;exact Co W I (.inl ⟨hs,k,.inl e,rfl,L.symm⟩) U λu s' I' J=>q v u s' I' rd J
 .rcases r with ⟨z,_⟩|⟨d',b',u,v,O,L,rd,J⟩
  .cases z
  .cases O;exact RP (NB W) hk dd L (q v u _ (I.tok _) rd J)
theorem Hq{Q:MC->MD->Prop}(O:A.units+1 < NA)(I:Inv X pins σ H s)(Y:RG X.K H G)(h:cu (aJ X.prog X.w) G x y r)(rx:RD X.K H x o)(W:aF o ov)(U:RD X.K H y i)(L:aF i iv)
  (q:∀s',Inv X pins σ H s'->Q (.bool r.isSome) s'):MJ (MK X.prog X.w) A (Nq .In iv ov) Q E s:=by
 obtain⟨a,rfl,⟨hs,k,e,rfl,l⟩|⟨xs,ks,b,hd,dd,rfl,Z,l⟩⟩:=h.split I Y rx W U L
 .refine LP O I (xi.k e) L λs' I'=>?_;rcases l with ⟨rfl,J⟩|⟨d,v,rfl,J,_⟩<;>rw[J]<;>exact q s' I'
 .refine wpAny_in_heap (NB O) Z hd dd ?_;rcases l with ⟨rfl,J⟩|⟨d,b',u,v,rfl,J,_⟩<;>rw[J]<;>exact q _ (I.tok _)
theorem EM{Q:MC->MD->Prop}(O:A.units+1 < NA)(I:Inv X pins σ H s)(Y:RG X.K H G)(h:cu (aJ X.prog X.w) G x y r)(rx:RD X.K H x o)(W:aF o ov)(U:RD X.K H y i)(L:aF i iv)
  (q:∀s',Inv X pins σ H s'->Q (.bool (!r.isSome)) s'):MJ (MK X.prog X.w) A (Nq .NotIn iv ov) Q E s:=by
 obtain⟨a,rfl,⟨hs,k,e,rfl,l⟩|⟨xs,ks,b,hd,dd,rfl,Z,l⟩⟩:=h.split I Y rx W U L
 .refine GF O I (xi.k e) L λs' I'=>?_;rcases l with ⟨rfl,J⟩|⟨d,v,rfl,J,_⟩<;>rw[J]<;>exact q s' I'
 .refine wpAny_notIn_heap (NB O) Z hd dd ?_;rcases l with ⟨rfl,J⟩|⟨d,b',u,v,rfl,J,_⟩<;>rw[J]<;>exact q _ (I.tok _)
theorem GH{Q:MC->MD->Prop}(Y:A.units+1 < NA)(I:Inv X pins σ H s)(rg:RG X.K H G)(h:cu (aJ X.prog X.w) G x y r)(rx:RD X.K H x o)(ro:aF o ov)(ry:RD X.K H y i)(W:aF i iv)(U:RD X.K H z zv)(J:aF zv zu)
  (q:∀v u s',Inv X pins σ H s'->RD X.K H (r.getD z) v->aF v u->Q u s'):MJ (MK X.prog X.w) A (call (.builtin "dict.get") [ov,iv,zu]) Q E s:=by
 obtain⟨a,rfl,⟨hs,k,e,rfl,l⟩|⟨xs,ks,b,hd,dd,rfl,hk,l⟩⟩:=h.split I rg rx ro ry W
 .refine Ja Y I (xi.k e) W J λu s' Z L=>?_;rcases l with ⟨rfl,O⟩|⟨d,v,rfl,O,rd⟩<;>rw[O]at L
  .exact q _ u s' Z U L
  .exact q _ u s' Z rd L
 .refine Qs PySem.F.slot_dict_get dd.typeIs PySem.F.entry_dict_get (PySem.F.args_dict_get_3 _ _ _) (Q9 (NS (aX X.prog X.w)) a b hd zu) ⟨NB Y,ks,xs,hk,dd,?_⟩;rcases l with ⟨rfl,O⟩|⟨d,b',u,v,rfl,O,rd,L⟩<;>rw[O]
  .exact q zv _ _ (I.tok _) U J
  .exact q v _ _ (I.tok _) rd L
end
def qK(hw:List aE->Int)(to ti:bb):bb:=λσ G Q=>to σ G λx G1=>ti σ G1 λy G2=>∃d,cu hw G2 (val x) (val y) (some d)/\Q d G2
def wM(hw:List aE->Int)(ti to:bb):bb:=λσ G Q=>ti σ G λy G1=>to σ G1 λx G2=>∃r,cu hw G2 (val x) (val y) r/\Q (.bl r.isSome) G2
def k_(hw:List aE->Int)(ti to:bb):bb:=λσ G Q=>ti σ G λy G1=>to σ G1 λx G2=>∃r,cu hw G2 (val x) (val y) r/\Q (.bl (!r.isSome)) G2
def pF(hw:List aE->Int)(to ti tz:bb):bb:=λσ G Q=>to σ G λx G1=>jy G1 (val x)/\ti σ G1 λy G2=>tz σ G2 λz I=>∃r,cu hw I (val x) (val y) r/\Q (r.getD (val z)) I
section
variable{X:Cx}{o i e f:M7}{to ti tz:bb}{pos apos cpos:Pos}
theorem dQ{t:bb}{e:M7}(h:PE X e (aB X.K t)){pins:List (MF×Obj)}{s:MD}{τ:St}{H:Hp}{σ:eV}{G:Gp}{L:mf}(I:Inv X pins τ H s)(rs:RS X.K H σ τ)(O:RG X.K H G)(U:t σ G L):
  MJ (MK X.prog X.w) X.A (eval e X.env) (EP X pins τ λv H1=>∃d G1,L d G1/\Kp G H G1 H1/\RG X.K H1 G1/\RD X.K H1 (val d) v) X.xe s:=
 dD h pins s τ H _ I ⟨σ,G,L,rs,O,U,λd G' v H' q k J rd=>⟨d,G',q,k,J,rd⟩⟩
theorem l9{hh:List aE->Int}(hu:X.A.units+8 < NA)(ho:PE X o (aB X.K to))(hi:PE X i (aB X.K ti))(hs:K1 i:=by exact λ_ _=>rfl)(eh:aJ X.prog X.w=hh:=by first|walk_at "h"|rfl):PE X (.Subscript o i pos) (aB X.K (qK hh to ti)):=by
 subst eh
 rintro pins s τ H Q I ⟨σ,G,Q3,rs,rg,h,k⟩
 refine Fs PySem.F.slot_dict_getitem.lookup hs (b_ (dQ ho I rs rg h) λov s1 U=>?_);obtain⟨ox,H1,I1,L,x,G1,q1,k1,O,Z⟩:=U;refine b_ (dQ hi I1 (rs.mono (k1.stb rg)) O q1) λiv s2 U=>?_;obtain⟨iy,H2,I2,W,y,G2,q2,k2,J,Y⟩:=U;obtain⟨d,l,q2⟩:=q2;have rx:=RD.mono (k2.stb O) _ _ Z;exact⟨(l.dct.at I2 J rx L).1,GG (by omega) I2 J l rx L Y W λv u s3 I3 rd rv=>⟨v,H2,I3,rv,k _ G2 _ H2 q2 (k1.trans k2) J (.of rd)⟩⟩
theorem Kb{hh:List aE->Int}(hu:X.A.units+8 < NA)(hi:PE X i (aB X.K ti))(ho:PE X o (aB X.K to))(hm:NN .In o=false:=by rfl)(eh:aJ X.prog X.w=hh:=by first|walk_at "h"|rfl):PE X (.Compare i [.In] [o] pos) (aB X.K (wM hh ti to)):=by
 subst eh;refine Io (op:=.In) (λpins s τ H Q I J=>?_) hm;obtain⟨σ,G,Q3,rs,rg,h,k⟩:=J;refine b_ (dQ hi I rs rg h) λiv s1 J=>?_;obtain⟨iy,H1,I1,W,y,G1,q1,k1,O,Z⟩:=J;refine b_ (dQ ho I1 (rs.mono (k1.stb rg)) O q1) λov s2 J=>?_;obtain⟨ox,H2,I2,U,x,G2,q2,k2,L,Y⟩:=J;obtain⟨r,l,q2⟩:=q2;exact Hq (by omega) I2 L l Y U (RD.mono (k2.stb O) _ _ Z) W λs3 I3=>⟨.bl r.isSome,H2,I3,rfl,k _ G2 _ H2 q2 (k1.trans k2) L (.of f_)⟩
theorem we{hh:List aE->Int}(hu:X.A.units+8 < NA)(ho:PE X o (aB X.K to))(he:PE X e (aB X.K ti))(hf:PE X f (aB X.K tz))(m:M2 X o "get" apos e f cpos:=by exact⟨rfl,rfl,rfl,rfl⟩)(eh:aJ X.prog X.w=hh:=by first|walk_at "h"|rfl):PE X (.Call (.Attribute o "get" apos) [e,f] [] cpos) (aB X.K (pF hh to ti tz)):=by
 subst eh
 rintro pins s τ H Q I ⟨σ,G,Q3,Z,rg,h,k⟩
 refine wpAny_Call_method m.base m.few m.line PySem.F.plainAttrs_dict PySem.F.slot_dict_get PySem.F.type_dict_get (b_ (dQ ho I Z rg h) λov s1 Y=>?_);obtain⟨ox,H1,I1,L,x,G1,q1,k1,J,W⟩:=Y;obtain⟨t1,t2⟩:=q1.1.at I1 J W L;refine⟨t1,t2,?_⟩;rw[m.trees];refine PL rfl (RA (Ow (b_ (dQ he I1 (Z.mono (k1.stb rg)) J q1.2) λiv s2 ⟨iy,H2,I2,riy,y,G2,q2,k2,U,rd2⟩=>Ow (b_ (dQ hf I2 (Z.mono ((k1.trans k2).stb rg)) U q2) λfv s3 Y=>?_))));obtain⟨fz,H3,I3,rfz,z,G3,q3,k3,O,rd3⟩:=Y;refine OW ?_;obtain⟨r,l,q3⟩:=q3;exact GH (by omega) I3 O l (RD.mono ((k2.trans k3).stb J) _ _ W) L (RD.mono (k3.stb U) _ _ rd2) riy rd3 rfz λv u s4 I4 rd rv=>⟨v,H3,I4,rv,k _ G3 _ H3 q3 (k1.trans (k2.trans k3)) O (.of rd)⟩
end
end L3
namespace PySem.W
open PySem PyProof.Rows
def KasT.run{α:Type}(lt:Nat->Nat->Bool):R8 α->α
 | .ret a=>a
 | .ask i j k=>(k (lt i j)).run lt
theorem KasT.run_bind{α I:Type}(lt:Nat->Nat->Bool)(f:α->R8 I):∀t:R8 α,(t.bind f).run lt=(f (t.run lt)).run lt
 | .ret _=>rfl
 | .ask i j k=>by
  show ((k (lt i j)).bind f).run lt=_
  rw[KasT.run_bind lt f (k (lt i j))];rfl
section
variable(r:Nat->Nat)
def lC(i j:Nat):Bool:=decide (r i < r j)
def RR(p:Array Nat)(i:Nat):Nat:=r (p.getD i 0)
def mh(p:Array Nat)(n:Nat):Prop:=∀i,i+1 < n->RR r p i<=RR r p (i+1)
def tI(p:Array Nat)(n:Nat):Prop:=∀i,i+1 < n->RR r p (i+1)<=RR r p i
end
section
variable{r:Nat->Nat}{p:Array Nat}
theorem mh.le{n:Nat}(h:mh r p n){i j:Nat}(L:i<=j)(J:j < n):RR r p i<=RR r p j:=by
 induction j with
 | zero=>
      have:i=0:=by omega
      subst this;exact le_refl _
 | succ j I=>
  rcases OJ i (j+1)with h1|h1
  .exact le_trans (I (by omega) (by omega)) (h j J)
  .have:i=j+1:=by omega
   subst this;exact le_refl _
theorem tI.le{n:Nat}(h:tI r p n){i j:Nat}(L:i<=j)(J:j < n):RR r p j<=RR r p i:=by
 induction j with
 | zero=>
      have:i=0:=by omega
      subst this;exact le_refl _
 | succ j I=>
  rcases OJ i (j+1)with h1|h1
  .exact le_trans (h j J) (I (by omega) (by omega))
  .have:i=j+1:=by omega
   subst this;exact le_refl _
theorem zc{p q:Array Nat}{i j:Nat}(h:p[i]?=q[j]?):RR r p i=RR r q j:=by
 unfold RR;rw[Array.getD_eq_getD_getElem?,Array.getD_eq_getD_getElem?,h]
theorem xc{i j:Nat}(I:j<=p.size)(k:Nat):RR r (OA p i j) k=if i<=k/\k < j then RR r p (i+j - 1 - k)else RR r p k:=by
 have e:=getElem?_mirror_all (xs:=p) (i:=i) I k;unfold OA;split
 .rename_i h;rw[if_pos h]at e;exact zc e
 .rename_i h;rw[if_neg h]at e;exact zc e
theorem gw(i j:Nat):(OA p i j).size=p.size:=mirror_size _ _ _ _
theorem pK{i j:Nat}(J:j<=p.size)(I:∀k,i<=k->k < j->RR r p k=RR r p (j - 1))(k:Nat):RR r (OA p i j) k=RR r p k:=by
 rw[xc J];split
 .rename_i h;rw[I _ (by omega) (by omega),I k h.1 h.2]
 .rfl
theorem tf{i j:Nat}:lC r i j=true↔r i < r j:=by unfold lC;exact decide_eq_true_iff
theorem iL{i j:Nat}:lC r i j=false↔r j<=r i:=by unfold lC;rw[decide_eq_false_iff_not];omega
theorem AB:∀(f n:Nat),1<=n->∃m,(kas_asc p f n).run (lC r)=m/\n<=m/\m<=n+f/\(∀i,n<=i->i < m->RR r p (i - 1)<=RR r p i)/\(m < n+f->RR r p m < RR r p (m - 1))
 | 0,n,_=>⟨n,rfl,le_refl _,le_refl _,λi h1 h2=>absurd h1 (by omega),λh=>absurd h (by omega)⟩
 | f+1,n,hn=>by
  show ∃m,((λc=>if c=true then KasT.ret n else kas_asc p f (n+1)) (lC r (p.getD n 0) (p.getD (n - 1) 0))).run (lC r)=m/\_
  cases e:lC r (p.getD n 0) (p.getD (n - 1) 0) with
  | true=>exact⟨n,rfl,le_refl _,by omega,λi h1 h2=>absurd h1 (by omega),λ_=>tf.mp e⟩
  | false=>
   obtain⟨m,U,h1,h2,O,L⟩:=AB f (n+1) (by omega)
   refine⟨m,U,by omega,by omega,λi W J=>?_,λh=>L (by omega)⟩
   rcases OJ n i with I|I
   .exact O i I J
   .have:i=n:=by omega
    subst this;exact iL.mp e
structure DSt(r:Nat->Nat)(p:Array Nat)(n q:Nat):Prop where
 hq:q+1<=n
 hn:n<=p.size
 dec:tI r p n
 eq:∀k,n - (q+1)<=k->k < n->RR r p k=RR r p (n - 1)
theorem Ea{n:Nat}:∀k,n+1 - (0+1)<=k->k < n+1->RR r p k=RR r p (n+1 - 1):=λk h1 h2=>by
 have:k=n+1 - 1:=by omega
 subst this;rfl
theorem wP:∀(f:Nat) (p:Array Nat) (n q:Nat),DSt r p n q->n+f<=p.size->∃I J L,(OR f p n q).run (lC r)=(I,J,L)/\DSt r I J L/\n<=J/\J<=n+f/\I.size=p.size/\I.Perm p
 | 0,p,n,q,h,_=>⟨p,n,q,rfl,h,le_refl _,le_refl _,rfl,Array.Perm.refl _⟩
 | f+1,p,n,q,h,hf=>by
  have hq:=h.hq;show ∃I J L,((λc=>if c=true then (if q > 0 then OR f (OA p (n - (q+1)) n) (n+1) 0 else OR f p (n+1) 0)
   else .ask (p.getD (n - 1) 0) (p.getD n 0) λd=>if d=true then .ret (p,n,q)else OR f p (n+1) (q+1)) (lC r (p.getD n 0) (p.getD (n - 1) 0))).run (lC r)=(I,J,L)/\_
  cases e:lC r (p.getD n 0) (p.getD (n - 1) 0) with
  | true=>
   have lt:RR r p n < RR r p (n - 1):=tf.mp e;have next:∀U:Array Nat,U.size=p.size->U.Perm p->(∀k,RR r U k=RR r p k)->∃I J L,(OR f U (n+1) 0).run (lC r)=(I,J,L)/\DSt r I J L/\n<=J/\J<=n+(f+1)/\I.size=p.size/\I.Perm p:=λU hz hp hR=>by
    have hn:=h.hn;have dc:tI r U (n+1):=λi hi=>by
     rw[hR,hR];rcases OJ (i+1) n with O|O
     .exact h.dec i O
     .have Y:n=i+1:=by omega
      have e3:i=n - 1:=by omega
      rw[<- Y,e3];exact le_of_lt lt
    obtain⟨I,J,L,e1,h1,h2,h3,h4,Z⟩:=wP f U (n+1) 0 ⟨by omega,by omega,dc,Ea⟩ (by omega)
    exact⟨I,J,L,e1,h1,by omega,by omega,by omega,Z.trans hp⟩
   show ∃I J L,(if q > 0 then OR f (OA p (n - (q+1)) n) (n+1) 0 else OR f p (n+1) 0).run (lC r)=(I,J,L)/\_
   by_cases W:q > 0
   .rw[if_pos W];exact next _ (gw _ _) (QK _ _ _ _) (pK (by omega) h.eq)
   .rw[if_neg W];exact next p rfl (Array.Perm.refl _) λ_=>rfl
  | false=>
   have ge:RR r p (n - 1)<=RR r p n:=iL.mp e;show ∃I J L,((λd=>if d=true then KasT.ret (p,n,q)else OR f p (n+1) (q+1)) (lC r (p.getD (n - 1) 0) (p.getD n 0))).run (lC r)=(I,J,L)/\_
   cases Y:lC r (p.getD (n - 1) 0) (p.getD n 0) with
   | true=>exact⟨p,n,q,rfl,h,le_refl _,by omega,rfl,Array.Perm.refl _⟩
   | false=>
    have le:RR r p n<=RR r p (n - 1):=iL.mp Y;have dc:tI r p (n+1):=λi hi=>by
     rcases OJ (i+1) n with O|O
     .exact h.dec i O
     .have Y:n=i+1:=by omega
      have e3:i=n - 1:=by omega
      rw[<- Y,e3];exact le
    have eqq:∀k,n+1 - (q+1+1)<=k->k < n+1->RR r p k=RR r p (n+1 - 1):=λk h1 h2=>by
     show RR r p k=RR r p n
     rcases OJ k n with O|O
     .rw[h.eq k (by omega) O];omega
     .have:k=n:=by omega
      subst this;rfl
    obtain⟨I,J,L,e1,h1,h2,h3,h4,Z⟩:=wP f p (n+1) (q+1) ⟨by omega,by omega,dc,eqq⟩ (by omega)
    exact⟨I,J,L,e1,h1,by omega,by omega,h4,Z⟩
theorem xu{n nrem:Nat}(h1:1<=n)(hn:n<=nrem)(hz:nrem<=p.size)(hd:tI r p n):∃m I,(OP n nrem p).run (lC r)=(m,I)/\1<=m/\m<=nrem/\I.size=p.size/\I.Perm p/\mh r I m:=by
 unfold OP;rw[KasT.run_bind];obtain⟨m,e,a1,a2,a3,_⟩:=AB (r:=r) (p:=OA p 0 n) (nrem - n) n h1;rw[e];refine⟨m,_,rfl,by omega,by omega,gw _ _,QK _ _ _ _,λi hi=>?_⟩
 rcases OJ (i+1) n with J|J
 .rw[xc (by omega),xc (by omega),if_pos (by omega),if_pos (by omega)]
  exact hd.le (by omega) (by omega)
 .exact a3 (i+1) J hi
theorem qh{n nrem:Nat}(h1:1<=n)(hn:n+1<=nrem)(hz:nrem<=p.size)(hd:tI r p (n+1)):∃m J,(Pz n nrem p).run (lC r)=(m,J)/\1<=m/\m<=nrem/\J.size=p.size/\J.Perm p/\mh r J m:=by
 unfold Pz;rw[KasT.run_bind];obtain⟨O,I,L,e,d,a1,a2,a3,a4⟩:=wP (r:=r) (nrem - (n+1)) p (n+1) 0 ⟨by omega,by omega,hd,Ea⟩ (by omega)
 rw[e];have hq:=d.hq
 by_cases U:L > 0
 .show ∃m J,(if L > 0 then OP I nrem (OA O (I - (L+1)) I)else OP I nrem O).run (lC r)=(m,J)/\_
  rw[if_pos U];have hR:=pK (r:=r) (p:=O) (i:=I - (L+1)) (j:=I) d.hn d.eq;obtain⟨m,J,b1,b2,b3,Z,Y,W⟩:=xu (r:=r) (p:=OA O (I - (L+1)) I) (n:=I) (nrem:=nrem) (by omega) (by omega) (by rw[gw];omega) (λi hi=>by rw[hR,hR];exact d.dec i hi)
  exact⟨m,J,b1,b2,b3,by rw[Z,gw,a3],(Y.trans (QK _ _ _ _)).trans a4,W⟩
 .show ∃m J,(if L > 0 then OP I nrem (OA O (I - (L+1)) I)else OP I nrem O).run (lC r)=(m,J)/\_
  rw[if_neg U];obtain⟨m,J,b1,b2,b3,Z,Y,W⟩:=xu (r:=r) (p:=O) (n:=I) (nrem:=nrem) (by omega) (by omega) (by omega) d.dec
  exact⟨m,J,b1,b2,b3,by rw[Z,a3],Y.trans a4,W⟩
theorem EO{nrem:Nat}(h1:1<=nrem)(hz:nrem<=p.size):∃m J,(Q_ nrem p).run (lC r)=(m,J)/\1<=m/\m<=nrem/\J.size=p.size/\J.Perm p/\mh r J m:=by
 unfold Q_;rw[KasT.run_bind];obtain⟨n,e,a1,a2,a3,a4⟩:=AB (r:=r) (p:=p) (nrem - 1) 1 (le_refl _);rw[e];have I:mh r p n:=λi hi=>a3 (i+1) (by omega) hi
 by_cases h2:n=nrem
 .rw[if_pos (by simpa using h2)]
  exact⟨n,p,rfl,by omega,by omega,rfl,Array.Perm.refl _,I⟩
 .rw[if_neg (by simpa using h2)]
  have W:RR r p n < RR r p (n - 1):=a4 (by omega)
  by_cases U:n > 1
  .rw[if_pos U];show ∃m J,((λc=>if c=true then KasT.ret (n,p)else Pz n nrem (OA p 0 n)) (lC r (p.getD 0 0) (p.getD (n - 1) 0))).run (lC r)=(m,J)/\_
   cases e2:lC r (p.getD 0 0) (p.getD (n - 1) 0) with
   | true=>exact⟨n,p,rfl,by omega,by omega,rfl,Array.Perm.refl _,I⟩
   | false=>
    have ge:RR r p (n - 1)<=RR r p 0:=iL.mp e2;have eq:∀k,0<=k->k < n->RR r p k=RR r p (n - 1):=λk _ Y=>by
     have:=I.le (NH k) Y;have:=I.le (show k<=n - 1 by omega) (by omega)
     omega
    have L:=pK (r:=r) (p:=p) (i:=0) (j:=n) (by omega) eq
    obtain⟨m,J,b1,b2,b3,b4,b5,b6⟩:=qh (r:=r) (p:=OA p 0 n) (n:=n) (nrem:=nrem) (by omega) (by omega) (by rw[gw];omega) (λi hi=>by
     rw[L,L];rcases OJ (i+1) n with O|O
     .rw[eq i (by omega) (by omega),eq (i+1) (by omega) O];exact le_refl _
     .have e3:n=i+1:=by omega
      have Z:i=n - 1:=by omega
      rw[<- e3,Z];exact le_of_lt W)
    exact⟨m,J,b1,b2,b3,by rw[b4,gw],b5.trans (QK _ _ _ _),b6⟩
  .rw[if_neg U];have e1:n=1:=by omega
   subst e1;exact qh (by omega) (by omega) hz (λi hi=>by
    have:i=0:=by omega
    subst this;exact le_of_lt W)
theorem r6{k:Nat}(hs:mh r p k):∀(f l u:Nat),l<=u->u<=k->u - l<=f->(∀i,i < l->RR r p i<=RR r p k)->(∀i,u<=i->i < k->RR r p k < RR r p i)->
  ∃m,(Qa p k f l u).run (lC r)=m/\m<=k/\(∀i,i < m->RR r p i<=RR r p k)/\(∀i,m<=i->i < k->RR r p k < RR r p i)
 | 0,l,u,h1,h2,O,L,J=>⟨l,rfl,by omega,L,λi a b=>J i (by omega) b⟩
 | f+1,l,u,h1,h2,O,L,J=>by
  unfold Qa
  by_cases I:l>=u
  .rw[if_pos I];exact⟨l,rfl,by omega,L,λi a b=>J i (by omega) b⟩
  .rw[if_neg I];show ∃m,((λc=>if c=true then Qa p k f l ((l+u) / 2)else Qa p k f ((l+u) / 2+1) u) (lC r (p.getD k 0) (p.getD ((l+u) / 2) 0))).run (lC r)=m/\_
   cases e:lC r (p.getD k 0) (p.getD ((l+u) / 2) 0) with
   | true=>
    have lt:RR r p k < RR r p ((l+u) / 2):=tf.mp e;exact r6 hs f l ((l+u) / 2) (by omega) (by omega) (by omega) L λi a b=>M9 lt (hs.le a b)
   | false=>
    have ge:RR r p ((l+u) / 2)<=RR r p k:=iL.mp e;exact r6 hs f ((l+u) / 2+1) u (by omega) h2 (by omega) (λi a=>le_trans (hs.le (show i<=(l+u) / 2 by omega) (by omega)) ge) J
theorem pL{src d:Nat}(hs:src < p.size)(hd:d<=src)(k:Nat):RR r (bubble p src d) k=if k=src - d then RR r p src else if src - d < k/\k<=src then RR r p (k - 1)else RR r p k:=by
 have e:=getElem?_bubble hs d hd k;split
 .rename_i h;rw[if_pos h]at e;exact zc e
 .rename_i h;rw[if_neg h]at e;split
  .rename_i h2;rw[if_pos h2]at e;exact zc e
  .rename_i h2;rw[if_neg h2]at e;exact zc e
theorem EW:∀(f:Nat) (p:Array Nat) (k:Nat),k+f=p.size->mh r p k->∃J,(QP f p k).run (lC r)=J/\J.size=p.size/\J.Perm p/\mh r J p.size
 | 0,p,k,h,a=>⟨p,rfl,rfl,Array.Perm.refl _,by rw[<- h];exact a⟩
 | f+1,p,k,h,a=>by
  unfold QP;rw[KasT.run_bind];obtain⟨l,e,b1,b2,b3⟩:=r6 (r:=r) a k 0 k (by omega) (le_refl _) (by omega) (λi z=>absurd z (by omega)) (λi x y=>absurd x (by omega))
  rw[e];have L:k < p.size:=by omega
  obtain⟨J,c1,Y,c3,W⟩:=EW f (bubble p k (k - l)) (k+1) (by rw[Rx];omega) (λi hi=>by
   have U:=pL (r:=r) L (show k - l<=k by omega) i
   have O:=pL (r:=r) L (show k - l<=k by omega) (i+1)
   have Z:k - (k - l)=l:=by omega
   rw[Z]at U O;rw[U,O];rcases Nat.lt_trichotomy i l with I|I|I
   .rw[if_neg (by omega),if_neg (by omega)]
    by_cases h2:i+1=l
    .rw[if_pos h2];exact b2 i I
    .rw[if_neg h2,if_neg (by omega)];exact a i (by omega)
   .rw[if_pos I,if_neg (by omega),if_pos (by omega)]
    have:i+1 - 1=i:=by omega
    rw[this];exact le_of_lt (b3 i (by omega) (by omega))
   .rw[if_neg (by omega),if_pos (by omega),if_neg (by omega),if_pos (by omega)]
    have:i+1 - 1=(i - 1)+1:=by omega
    rw[this];exact a (i - 1) (by omega))
  rw[Rx]at Y W;exact⟨J,c1,Y,c3.trans (bubble_perm _ _ _),W⟩
theorem Fw(r:Nat->Nat)(n:Nat)(hn:1<=n):∃p,(Ru n).run (lC r)=p/\p.toList.Perm (List.range n)/\mh r p n:=by
 unfold Ru;rw[KasT.run_bind];have L:(List.toArray (List.range n)).size=n:=by simp
 obtain⟨m,J,e,a1,a2,a3,a4,a5⟩:=EO (r:=r) (p:=List.toArray (List.range n)) (nrem:=n) hn (by rw[L];exact le_refl _)
 rw[e];have I:∀{p:Array Nat},p.Perm (List.toArray (List.range n))->p.toList.Perm (List.range n):=λh=>by simpa using Array.perm_iff_toList_perm.mp h
 show ∃p,(if m < n then QP (n - max m 1) J (max m 1)else KasT.ret J).run (lC r)=p/\_
 by_cases h:m < n
 .rw[if_pos h];obtain⟨U,Y,Z,W,O⟩:=EW (r:=r) (n - max m 1) J (max m 1) (by rw[a3,L];omega) (by rw[show max m 1=m by omega];exact a5)
  exact⟨U,Y,I (W.trans a4),by rw[a3,L]at O;exact O⟩
 .rw[if_neg h];have:m=n:=by omega
  subst this;exact⟨J,rfl,I a4,a5⟩
end
section
variable{κ:Type}(blt:κ->κ->Bool)
structure SWO:Prop where
 irrefl:∀a,blt a a=false
 trans:∀a b c,blt a b=true->blt b c=true->blt a c=true
 neg:∀a b c,blt a c=true->blt a b=true\/blt b c=true
def rankIn(ks:List κ)(a:κ):Nat:=ks.countP λk=>blt k a
end
section
variable{κ:Type}{blt:κ->κ->Bool}
theorem vk{p q:κ->Bool}(ks:List κ)(h:∀x,p x=true->q x=true):ks.countP p<=ks.countP q:=by
 induction ks with
 | nil=>exact le_refl _
 | cons x r J=>
  rw[P4,P4];cases I:p x with
  | false=>simp;split<;>omega
  | true=>rw[h x I];simp;omega
theorem Cr{p q:κ->Bool}{ks:List κ}(h:∀x,p x=true->q x=true){y:κ}(I:y∈ks)(h1:p y=false)(h2:q y=true):ks.countP p < ks.countP q:=by
 induction ks with
 | nil=>simp at I
 | cons x r J=>
  rw[P4,P4];rcases NC.mp I with rfl|I
  .have:=vk r h;rw[h1,h2];simp;omega
  .have:=J I;cases L:p x with
   | false=>simp;split<;>omega
   | true=>rw[h x L];simp;omega
theorem rank_lt(o:SWO blt){ks:List κ}{a b:κ}(J:a∈ks):blt a b=decide (rankIn blt ks a < rankIn blt ks b):=by
 cases e:blt a b with
 | true=>
  symm;rw[decide_eq_true_iff];exact Cr (λx I=>o.trans _ _ _ I e) J (o.irrefl a) e
 | false=>
  symm;rw[decide_eq_false_iff_not,not_lt];refine vk ks λx I=>?_;rcases o.neg x a b I with h|h
  .exact h
  .rw[e]at h;cases h
end
def KasT.allR{α:Type}(n:Nat)(P:α->Prop):R8 α->Prop
 | .ret a=>P a
 | .ask i j k=>i < n/\j < n/\∀b,(k b).allR n P
theorem KasT.allR_mono{α:Type}{n:Nat}{P P':α->Prop}(h:∀a,P a->P' a):∀{t:R8 α},t.allR n P->t.allR n P'
 | .ret a,q=>h a q
 | .ask i j k,q=>⟨q.1,q.2.1,λb=>KasT.allR_mono h (q.2.2 b)⟩
theorem KasT.allR_bind{α I:Type}{n:Nat}{P:α->Prop}{P':I->Prop}{f:α->R8 I}(h:∀a,P a->(f a).allR n P'):∀{t:R8 α},t.allR n P->(t.bind f).allR n P'
 | .ret a,q=>h a q
 | .ask i j k,q=>⟨q.1,q.2.1,λb=>KasT.allR_bind h (q.2.2 b)⟩
theorem KasT.walked{α:Type}{n:Nat}{P:α->Prop}{lt:Nat->Nat->Bool}{J:MD->Prop}{cmp:Nat->Nat->(Bool->MD->Prop)->MD->Prop}{Q:α->MD->Prop}
  (L:∀i j C s,i < n->j < n->J s->(∀s',J s'->C (lt i j) s')->cmp i j C s):∀(t:R8 α) (s:MD),t.allR n P->J s->(∀s',J s'->P (t.run lt)->Q (t.run lt) s')->t.kasWp cmp Q s
 | .ret a,s,q,j,h=>h s j q
 | .ask i j k,s,q,O,h=>L i j _ s q.1 q.2.1 O λs' I=>KasT.walked L (k (lt i j)) s' (q.2.2 _) I h
structure EntN(n:Nat)(p:Array Nat):Prop where
 size:p.size=n
 ent:∀i,p.getD i 0 < n
section
variable{N:Nat}{p:Array Nat}
theorem EntN.rev(e:EntN N p){i j:Nat}(I:j<=N):EntN N (OA p i j):=by
 refine⟨by rw[gw];exact e.size,λk=>?_⟩
 have h:=xc (r:=id) (p:=p) (i:=i) (j:=j) (by rw[e.size];exact I) k
 unfold RR at h;simp only[id]at h;rw[h];split<;>exact e.ent _
theorem EntN.bub(e:EntN N p){src d:Nat}(hs:src < N)(hd:d<=src):EntN N (bubble p src d):=by
 refine⟨by rw[Rx];exact e.size,λk=>?_⟩
 have h:=pL (r:=id) (p:=p) (src:=src) (d:=d) (by rw[e.size];exact hs) hd k
 unfold RR at h;simp only[id]at h;rw[h];split
 .exact e.ent _
 .split<;>exact e.ent _
theorem AC(e:EntN N p):∀(f n:Nat),(kas_asc p f n).allR N λm=>n<=m/\m<=n+f
 | 0,n=>⟨le_refl _,le_refl _⟩
 | f+1,n=>⟨e.ent _,e.ent _,λb=>by
   cases b with
   | true=>exact⟨le_refl _,by omega⟩
   | false=>exact KasT.allR_mono (λm h=>⟨by omega,by omega⟩) (AC e f (n+1))⟩
theorem qR:∀(f:Nat) (p:Array Nat) (n q:Nat),EntN N p->n+f<=N->(OR f p n q).allR N λr=>EntN N r.1/\n<=r.2.1/\r.2.1<=n+f
 | 0,p,n,q,e,_=>⟨e,le_refl _,le_refl _⟩
 | f+1,p,n,q,e,h=>⟨e.ent _,e.ent _,λb=>by
   have mono:∀{t:R8 (Array Nat×Nat×Nat)},(t.allR N λr=>EntN N r.1/\n+1<=r.2.1/\r.2.1<=n+1+f)->t.allR N λr=>EntN N r.1/\n<=r.2.1/\r.2.1<=n+(f+1):=λh=>KasT.allR_mono (λr z=>⟨z.1,by omega,by omega⟩) h
   cases b with
   | true=>
    show KasT.allR N _ (if q > 0 then OR f (OA p (n - (q+1)) n) (n+1) 0 else OR f p (n+1) 0)
    split
    .exact mono (qR f _ (n+1) 0 (e.rev (by omega)) (by omega))
    .exact mono (qR f _ (n+1) 0 e (by omega))
   | false=>exact⟨e.ent _,e.ent _,λd=>by
     cases d with
     | true=>exact⟨e,le_refl _,show n<=n+(f+1)by omega⟩
     | false=>exact mono (qR f p (n+1) (q+1) e (by omega))⟩⟩
theorem xv(e:EntN N p){n nrem:Nat}(hn:n<=N):(OP n nrem p).allR N λr=>EntN N r.2:=by
 unfold OP;refine KasT.allR_bind (λm _=>?_) (AC (e.rev (i:=0) hn) (nrem - n) n);exact (e.rev hn:EntN N (OA p 0 n))
theorem qi(e:EntN N p){n nrem:Nat}(hn:n+1<=nrem)(hz:nrem<=N):(Pz n nrem p).allR N λr=>EntN N r.2:=by
 unfold Pz;refine KasT.allR_bind (λr h=>?_) (qR (nrem - (n+1)) p (n+1) 0 e (by omega))
 obtain⟨O,J,L⟩:=r;obtain⟨h1,h2,U⟩:=h;show KasT.allR N _ (if L > 0 then OP J nrem (OA O (J - (L+1)) J)else OP J nrem O)
 have I:J<=N:=by simp only at U;omega
 split
 .exact xv (h1.rev I) I
 .exact xv h1 I
theorem ER(e:EntN N p){nrem:Nat}(h1:1<=nrem)(hz:nrem<=N):(Q_ nrem p).allR N λr=>EntN N r.2:=by
 unfold Q_;refine KasT.allR_bind (λn h=>?_) (AC e _ _)
 by_cases h2:n=nrem
 .rw[if_pos (by simpa using h2)];exact e
 .rw[if_neg (by simpa using h2)]
  by_cases I:n > 1
  .rw[if_pos I];refine⟨e.ent _,e.ent _,λb=>?_⟩;cases b with
   | true=>exact e
   | false=>exact qi (e.rev (by omega)) (by omega) hz
  .rw[if_neg I];exact qi e (by omega) hz
theorem r8(e:EntN N p)(k:Nat):∀(f l u:Nat),(Qa p k f l u).allR N λ_=>True
 | 0,l,u=>trivial
 | f+1,l,u=>by
  unfold Qa;split
  .exact trivial
  .exact⟨e.ent _,e.ent _,λb=>by
    cases b with
    | true=>exact r8 e k f _ _
    | false=>exact r8 e k f _ _⟩
theorem EY:∀(f:Nat) (p:Array Nat) (k:Nat),EntN N p->k+f<=N->(QP f p k).allR N (EntN N)
 | 0,p,k,e,_=>e
 | f+1,p,k,e,h=>by
  unfold QP;refine KasT.allR_bind (λl _=>?_) (r8 e k k 0 k);exact EY f _ (k+1) (e.bub (by omega) (by omega)) (by omega)
theorem Fx{n:Nat}(hn:1<=n):(Ru n).allR n (EntN n):=by
 have e:EntN n (List.toArray (List.range n)):=⟨by simp,λi=>by
  rw[Array.getD_eq_getD_getElem?,List.getElem?_toArray];cases h:(List.range n)[i]? with
  | none=>exact hn
  | some x=>exact mem_range.mp (M_ h)⟩
 unfold Ru;refine KasT.allR_bind (λr h=>?_) (ER e hn (le_refl _));obtain⟨m,p⟩:=r;show KasT.allR n _ (if m < n then QP (n - max m 1) p (max m 1)else KasT.ret p)
 split
 .exact EY _ _ _ h (by omega)
 .exact h
end
section
variable{α:Type}(blt:α->α->Bool)
structure STO:Prop where
 irrefl:∀a,blt a a=false
 trans:∀a b c,blt a b=true->blt b c=true->blt a c=true
 tot:∀a b,blt a b=false->blt b a=false->a=b
noncomputable def su[DecidableEq α]:List α->List α->Bool
 | [],[]=>false
 | [],_::_=>true
 | _::_,[]=>false
 | a::r,b::t=>if a=b then su r t else blt a b
end
section
variable{α:Type}{blt:α->α->Bool}
theorem STO.neg(o:STO blt)(a b c:α)(h:blt a c=true):blt a b=true\/blt b c=true:=by
 cases e:blt a b with
 | true=>exact .inl rfl
 | false=>
  cases I:blt b c with
  | true=>exact .inr rfl
  | false=>
   cases J:blt b a with
   | true=>have:=o.trans _ _ _ J h;rw[I]at this;cases this
   | false=>
    have:=o.tot _ _ e J;subst this;rw[h]at I;cases I
variable[DecidableEq α]
theorem kY(a b:α)(r t:List α):su blt (a::r) (b::t)=if a=b then su blt r t else blt a b:=rfl
theorem wA(o:STO blt):STO (su blt) where
 irrefl:=by
  intro a
  induction a with
  | nil=>rfl
  | cons x r J=>rw[kY,if_pos rfl,J]
 trans:=by
  intro a
  induction a with
  | nil=>
   intro b c h1 h2;cases c with
   | nil=>cases b<;>cases h2
   | cons _ _=>rfl
  | cons x r J=>
   intro b c h1 h2;cases b with
   | nil=>cases h1
   | cons y t=>
    cases c with
    | nil=>cases h2
    | cons z u=>
     rw[kY]at h1 h2 ⊢
     by_cases I:x=y
     .subst I;rw[if_pos rfl]at h1
      by_cases L:x=z
      .subst L;rw[if_pos rfl]at h2 ⊢;exact J t u h1 h2
      .rw[if_neg L]at h2 ⊢;exact h2
     .rw[if_neg I]at h1
      by_cases L:y=z
      .subst L;rw[if_neg I];exact h1
      .rw[if_neg L]at h2;have O:=o.trans _ _ _ h1 h2;rw[if_neg (λe=>by subst e;rw[o.irrefl]at O;cases O)]
       exact O
 tot:=by
  intro a
  induction a with
  | nil=>
   intro b h1 h2;cases b with
   | nil=>rfl
   | cons _ _=>cases h1
  | cons x r J=>
   intro b h1 h2;cases b with
   | nil=>cases h2
   | cons y t=>
    rw[kY]at h1 h2
    by_cases I:x=y
    .subst I;rw[if_pos rfl]at h1 h2;rw[J t h1 h2]
    .rw[if_neg I]at h1;rw[if_neg (Ne.symm I)]at h2;exact absurd (o.tot _ _ h1 h2) I
end
def wx(a b:Nat):Bool:=decide (a < b)
theorem ww:STO wx:=⟨λa=>by simp[wx],λa b c h1 h2=>by simp only[wx,decide_eq_true_eq]at *;omega,λa b h1 h2=>by simp only[wx,decide_eq_false_iff_not]at *;omega⟩
theorem nP:∀a b:List Nat,su wx a b=decide (a < b)
 | [],[]=>by simp[su]
 | [],b::t=>by simp[su]
 | a::r,[]=>by simp[su]
 | a::r,b::t=>by
  rw[kY]
  by_cases e:a=b
  .subst e;rw[if_pos rfl,nP r t];simp
  .rw[if_neg e];simp[wx,List.cons_lt_cons_iff,e]
end PySem.W
namespace L3
open PySem PySem.Spec PyProof.Rows L2 PySem.SeqAt
open PySem.AutoSeq1 (wpAny_loadPart')
open PySem.MeetsSeq PySem.MeetsSeq2 PySem.MeetsSeq3
noncomputable def dJ(blt:D->D->Bool):List D->List D->Bool
 | [],[]=>false
 | [],_::_=>true
 | _::_,[]=>false
 | a::r,b::t=>if eK a b=true then dJ blt r t else blt a b
def lu:Nat->D->D->Bool
 | _,.int a,.int b=>decide (a < b)
 | _,.str x,.str y=>decide (x.cps.toList < y.cps.toList)
 | n+1,.tup xs,.tup ys=>dJ (lu n) xs ys
 | _,_,_=>false
def Ky(n:Nat)(P:D->D->Prop):List D->List D->Prop
 | a::r,b::t=>(pl n a/\pl n b)/\(a≠b->P a b)/\Ky n P r t
 | _,_=>True
def EN:Nat->D->D->Prop
 | _,.int _,.int _=>True
 | _,.str _,.str _=>True
 | n+1,.tup xs,.tup ys=>Ky n (EN n) xs ys
 | _,_,_=>False
def GP(op:PP)(A:MS)(s:MD)(v u:MC)(b:Bool):Prop:=
 ∀(prog:MR) (w:M4) (E:MC->MD->Prop) (Q:MC->MD->Prop),Q (.bool b) s->MJ (MK prog w) A (richCompare op v u) Q E s
def vC(op:PP)(fin:Bool)(A:MS)(s:MD):List MC->List MC->Bool->Prop
 | v::vs,u::I,out=>∃e,EqAt A s v u e/\(e=true->vC op fin A s vs I out)/\(e=false->GP op A s v u out)
 | _,_,out=>out=fin
theorem B3{op:PP}{fin out:Bool}{A:MS}{s:MD}:∀{vs us:List MC},vC op fin A s vs us out->vs.zip us=[]->out=fin
 | [],_,h,_=>h
 | _::_,[],h,_=>h
 | _::_,_::_,_,e=>by rw[List.zip_cons_cons]at e;cases e
theorem zx(l b:MF)(items I:Array MC)(n n2:Nat)(dd dd2:Option MF)(sl U:Array (Option MC))(out:Bool):
  Meets (Builtin.«tuple.__lt__» ⟨[.ref l,.ref b],[]⟩)
   (λA R s=>s.heap.get? l=some { cls:=.type "tuple",dict:=dd,data:=.seq items n,slots:=sl }/\s.heap.get? b=some { cls:=.type "tuple",dict:=dd2,data:=.seq I n2,slots:=U }/\
    vC .Lt (decide (items.size < I.size)) A.in1 s items.toList I.toList out/\R (.ok (.ret (.bool out))) s):=
 .of_wp λprog w A R s h=>by
  obtain⟨hp,g,d,tk,os⟩:=s;obtain⟨hl,hb,hx,h⟩:=h;have f2:=AutoSeq1.sub_tuple_tuple
  wp_walk using wpAny_loadPart' hl,wpAny_loadPart' hb,wpAny_forIn_list _ (λrest b s'=>b.1=none/\s'=⟨hp,g,d,tk,os⟩/\∃vs L,rest=vs.zip L/\vC .Lt (decide (items.size < I.size)) A.in1 ⟨hp,g,d,tk,os⟩ vs L out) _
  case turn=>
   rintro⟨y,x⟩ rest b s' ⟨O,rfl,vs,L,J,W⟩
   cases vs with
   | nil=>rw[List.zip_nil_left]at J;cases J
   | cons v vs=>
    cases L with
    | nil=>rw[List.zip_nil_right]at J;cases J
    | cons u L=>
     injection J with Y SS
     injection Y with hy Z
     subst hy Z;obtain⟨e,he,l1,l2⟩:=W;refine MB (he prog w _ _ ?_);cases e with
     | true=>
      wp_walk
      exact⟨rfl,rfl,_,_,SS,l1 rfl⟩
     | false=>
      have hri:=l2 rfl prog w
      wp_walk using hri
      exact⟨_,rfl,by simpa using h⟩
  case fin=>
   rintro⟨b1,b2⟩ s' ⟨O,rfl,vs,L,J,W⟩
   subst O;have hv:=B3 W J.symm;rw[hv]at h
   wp_walk
   exact⟨_,rfl,by simpa[Builtin.Tuple.tupleCompareSizes]using h⟩
  case h=>
   exact⟨rfl,rfl,items.toList,I.toList,rfl,hx⟩
theorem Eh{A:MS}{s:MD}{l b:MF}{items I:Array MC}{out:Bool}(hl:s.heap.IsTuple l items)(hb:s.heap.IsTuple b I)(hu:A.units < NA)
  (hx:vC .Lt (decide (items.size < I.size)) A.in1 s items.toList I.toList out):GP .Lt A s (.ref l) (.ref b) out:=λprog w E Q h=>by
 obtain⟨⟨cls,dd,data,sl⟩,Y,hc,n,hd⟩:=id hl;obtain⟨⟨Z,W,data2,L⟩,J,U,n2,O⟩:=id hb;subst hc hd U O;exact richCompare_meets_room ⟨_,Y,rfl⟩ ⟨_,J,rfl⟩ PySem.F.slot_tuple_lt PySem.F.entry_tuple_lt (PySem.F.args_tuple_lt_2 _ _) (zx l b items I n n2 dd W sl L out)
  ⟨Y,J,hx,show Value.bool out≠Value.notImplemented/\Q (.bool out) s from ⟨(λx=>nomatch x),h⟩⟩ hu
section
variable{X:Cx}{pins:List (MF×Obj)}{σ:St}{H:Hp}{s:MD}
theorem x8(I:Inv X pins σ H s){n:Nat}{A:MS}(hu:A.units+n < NA){U O:Nat}
  (ih:∀{x y:D} {v u:V} {v' u':MC},EN n x y->RD X.K H x v->RD X.K H y u->aF v v'->aF u u'->GP .Lt A s v' u' ( lu n x y)):
  ∀{ds es:List D} {xs ys:List V} {us Y:List MC},Ky n (EN n) ds es->RDs X.K H ds xs->RDs X.K H es ys->Vals xs us->Vals ys Y->ds.length+O=es.length+U->vC .Lt (decide (U < O)) A s us Y ( dJ (lu n) ds es)
 | [],es,xs,ys,us,Y,_,Z,r2,J,L,W=>by
  rw[Z.inv_nil]at J;cases J;show ( dJ (lu n) [] es)=decide (U < O)
  cases es with
  | nil=>
   simp only[Np]at W;have e1:O=U:=by omega
   subst e1;simp[dJ]
  | cons b t=>
   simp only[Np,MU]at W;have:U < O:=by omega
   simp[dJ];omega
 | a::r,[],xs,ys,us,Y,_,Z,r2,J,L,W=>by
  rw[r2.inv_nil]at L;cases L;obtain⟨x1,t1,e1,_,_⟩:=Z.inv_cons;subst e1;cases J;show ( dJ (lu n) (a::r) [])=decide (U < O)
  simp only[Np,MU]at W;have:O < U:=by omega
  simp[dJ];omega
 | a::r,b::t,xs,ys,us,Y,⟨p,c,q⟩,Z,r2,J,L,W=>by
  obtain⟨x1,t1,e1,g1,g2⟩:=Z.inv_cons;subst e1;obtain⟨x2,t2,e2,f1,f2⟩:=r2.inv_cons;subst e2;cases J with
  | cons k1 J=>
  cases L with
  | cons k2 L=>
   refine⟨eK a b,(yW I n p.1 p.2 g1 f1 k1 k2 hu).eq,λe=>?_,λe=>?_⟩
   .rw[show dJ (lu n) (a::r) (b::t)=dJ (lu n) r t by simp[dJ,e]]
    simp only[MU]at W;exact x8 I hu ih q g2 f2 J L (by omega)
   .rw[show dJ (lu n) (a::r) (b::t)=lu n a b by simp[dJ,e]]
    exact ih (c λz=>by rw[z,bo]at e;cases e) g1 f1 k1 k2
theorem Iv(I:Inv X pins σ H s):∀(n:Nat) {x y:D} {v u:V} {W Y:MC} {A:MS},EN n x y->RD X.K H x v->RD X.K H y u->aF v W->aF u Y->A.units+n < NA->GP .Lt A s W Y ( lu n x y):=by
 intro n
 induction n with
 | zero=>
  intro x y v u W Y A c rx J O L hu;cases x<;>cases y<;>first|exact c.elim|skip
  .simp only[RD]at rx J;subst rx J;obtain⟨t,rfl⟩:=O;obtain⟨U,rfl⟩:=L;intro prog w E Q h;exact (PyProof.Rows.lt_int h:MJ (MK prog w) A (Nq .Lt (.int _ t) (.int _ U)) Q E s)
  .simp only[RD]at rx J;subst rx J;obtain⟨t,rfl⟩:=O;obtain⟨U,rfl⟩:=L;intro prog w E Q h;exact (PySem.P.lt_str h:MJ (MK prog w) A (Nq .Lt (.str _ t) (.str _ U)) Q E s)
 | succ n ih=>
  intro x y v u W Y A c rx J O L hu;cases x<;>cases y<;>first|exact c.elim|skip
  .simp only[RD]at rx J;subst rx J;obtain⟨t,rfl⟩:=O;obtain⟨U,rfl⟩:=L;intro prog w E Q h;exact (PyProof.Rows.lt_int h:MJ (MK prog w) A (Nq .Lt (.int _ t) (.int _ U)) Q E s)
  .simp only[RD]at rx J;subst rx J;obtain⟨t,rfl⟩:=O;obtain⟨U,rfl⟩:=L;intro prog w E Q h;exact (PySem.P.lt_str h:MJ (MK prog w) A (Nq .Lt (.str _ t) (.str _ U)) Q E s)
  .rename_i ds es;obtain⟨a,xs,rfl,s1,r1⟩:=rx;obtain⟨b,ys,rfl,s2,r2⟩:=J;cases O;cases L;obtain⟨its,w1,t1,z1⟩:=I.tuple s1;obtain⟨its2,Z,t2,z2⟩:=I.tuple s2;have l1:=w1.length;have l1':=r1.length;have l2:=Z.length;have l2':=r2.length;refine Eh t1 t2 (by omega) ?_
   exact x8 I (by show A.units+1+n < NA;omega) (λc rx J O L=>ih c rx J O L (by show A.units+1+n < NA;omega)) c r1 r2 w1 Z (by simp;omega)
end
def LA:R3:=λx y G Q=>EN 4 x y/\Q (.bl (! lu 4 x y)) G
open PySem.W
def lG(h:MY)(d:MF)(vs:List MC)(ep:Nat):Prop:=∃o es,h.get? d=some o/\o.ExactDict/\o.data=.dict es ep/\es.toList.map (·.val)=vs
section
variable{prog:MR}{w:M4}{A:MS}{E:MC->MD->Prop}{s:MD}{d r it:MF}{vs:List MC}{ep i:Nat}
theorem lG.ty(x:lG s.heap d vs ep):s.TypeIs (.ref d) "dict":=let ⟨o,_,e,z,_⟩:=x;⟨o,e,z.1⟩
theorem lG.there{h:MY}(x:lG h d vs ep):d < h.objs.size:=let ⟨_,_,e,_⟩:=x;ML e
theorem lG.stay{h h':MY}(x:lG h d vs ep)(k:∀o,h.get? d=some o->h'.get? d=some o):lG h' d vs ep:=let ⟨o,es,e,z⟩:=x;⟨o,es,k o e,z⟩
theorem zP(hs:(d == NG)=false):MeetsIn prog w (Builtin.«dict.values» ⟨[.ref d],[]⟩) (λ_ R s=>(∃vs ep,lG s.heap d vs ep)/\
  R (.ok (.ret (.ref s.heap.objs.size))) { s with heap:=s.heap.push { cls:=.type "dict_values",data:=.fields #[.ref d] } }):=
 .of_wp λA R s I=>by
  obtain⟨⟨vs,ep,x⟩,q⟩:=I;refine MB ?_;refine MB (PQ x.ty ?_);show MJ _ _ (pure d) _ _ s;refine MG ?_
  show MJ _ _ (OX d >>= _) _ _ s;unfold OX
  rw[if_neg (λz=>by rw[hs]at z;cases z)];refine MB (MG ?_)
  exact MB (Nh (MG ⟨_,rfl,q⟩))
theorem DD{Q:MC->MD->Prop}(I:s.heap.IsValuesView r d)(x:lG s.heap d vs ep)
  (q:Q (.ref s.heap.objs.size) { s with heap:=s.heap.push { cls:=.type "dict_valueiterator",data:=.fields #[.ref d,.int 0 0,.int vs.length 0,.int ep 0] } }):MJ (MK prog w) A (Pf (.ref r)) Q E s:=by
 obtain⟨ov,O,Y,U⟩:=id I;obtain⟨o,es,J,W,L,rfl⟩:=x;refine Qo I.typeIs Re (M8 Re I.typeIs F.entry_dict_values_iter ?_ (F.args_dict_values_iter_1 _));unfold Builtin.«dict_values.__iter__»;refine MB (MG ?_);refine MB ?_;unfold Builtin.Dict_items.dictOf;refine MB (M3 O U rfl (MG ?_));refine MB ?_;unfold Builtin.Dict_items.newIterator;refine MB (Oz J L ?_);refine MB (OL J L ?_);have own:O8 "dict_valueiterator"=false:=by decide
 simp only[own,Bool.false_eq_true,if_false];refine Nh (MG ⟨_,rfl,"dict_valueiterator",_,⟨_,MM _ rfl,rfl⟩,Oo.lookup,?_⟩)
 simpa[Ob]using q
theorem DE{v:MC}{Q:Option MC->MD->Prop}(hi:s.heap.IsValIter it d i vs.length ep)(x:lG s.heap d vs ep)(L:vs[i]?=some v)
  (q:∀h',h'.IsValIter it d (i+1) vs.length ep->Ov it s.heap h'->Q (some v) { s with heap:=h' }):MJ (MK prog w) A (NT (.ref it)) Q E s:=by
 obtain⟨o,O,Y,J⟩:=id hi;obtain⟨od,es,U,Z,W,rfl⟩:=x;unfold NT;refine MB (Nx (M0 hi.typeIs Oo (M8 Oo hi.typeIs QB ?_ (Qx _))));refine MB (MG ?_);refine MB ?_;refine MB ?_
 first|refine MB (Op hi.typeIs (MG ?_))|refine MB (OG hi.typeIs (MG ?_))
 refine MB (PV O J ?_);refine MB (MG ?_);refine MB (Oz U W ?_);have z:es.size=(es.toList.map (·.val)).length:=by simp
 rw[if_neg (by simp)];refine MB (MG ?_);refine MB (OL U W ?_)
 rw[if_neg (by simp)];refine MG ?_
 have lt:i < es.size:=by
  rw[z];rcases OJ i (es.toList.map (·.val)).length with h|h
  .exact h
  .rw[OD h]at L;cases L
 have val:es[i].val=v:=by
  simpa[lt]using L
 simp only[ Int.toNat_natCast,Array.getElem?_eq_getElem lt];refine MB ?_
 first|refine MB (Op hi.typeIs (MG ?_))|refine MB (OG hi.typeIs (MG ?_))
 refine MB (PR hi.typeIs ?_);show MJ _ _ (QT (.ref it) 1 (Ob ((i:Int)+1)) >>= _) _ _ s;refine MB (Nw O J (by simp) ?_)
 have I:(s.heap.update it (Nb (·.setIfInBounds 1 (Ob ((i:Int)+1))))).IsValIter it d (i+1) (es.toList.map (·.val)).length ep:=
  ⟨_,Nk _ O (NQ (Nv J _)),(OV ..).trans Y,by rw[Nv J];simp[Ob]⟩
 refine MB (Na ?_);refine MB (PR I.typeIs ?_);refine MB (PR I.typeIs ?_);exact MG (MG ⟨_,rfl,MG (val ▸ q _ I (RL ..))⟩)
theorem FG{Q:Option MC->MD->Prop}(hd:ig A s.heap)(hi:s.heap.IsValIter it d i vs.length ep)(x:lG s.heap d vs ep)(W:vs[i]?=none)
  (q:∀h',Oi it s.heap h'->Q none { s with heap:=h' }):MJ (MK prog w) A (NT (.ref it)) Q E s:=by
 obtain⟨o,I,Y,U⟩:=id hi;obtain⟨od,es,L,Z,O,rfl⟩:=x;unfold NT;refine MB (Nx (M0 hi.typeIs Oo (M8 Oo hi.typeIs QB ?_ (Qx _))));refine MB (MG ?_);refine MB ?_;refine MB ?_
 first|refine MB (Op hi.typeIs (MG ?_))|refine MB (OG hi.typeIs (MG ?_))
 refine MB (PV I U ?_);refine MB (MG ?_);refine MB (Oz L O ?_);have z:es.size=(es.toList.map (·.val)).length:=by simp
 rw[if_neg (by simp)];refine MB (MG ?_);refine MB (OL L O ?_)
 rw[if_neg (by simp)];refine MG ?_
 have ge:es.size<=i:=by rw[z];simpa using W
 simp only[ Int.toNat_natCast,Array.getElem?_eq_none ge];refine MB ?_
 first|refine MB (Op hi.typeIs (MG ?_))|refine MB (OG hi.typeIs (MG ?_))
 show MJ _ _ (QT (.ref it) 0 .none >>= _) _ _ s;refine MB (Nw I U (by simp) ?_)
 have J:∀b o,b≠it->s.heap.get? b=some o->(s.heap.update it (Nb (·.setIfInBounds 0 Value.none))).get? b=some o:=λb o n e=>(MV _ _ n.symm).trans e;exact eN (hd.but I Y J) λh' k=>q h' λb o n e=>k b o (J b o n e)
theorem DC(I:d≠it):Walks prog w A it (it::d::yJ A) [it] vs.length (λi v=>vs[i]?=some v) (λi h=>(h.IsValIter it d i vs.length ep/\lG h d vs ep)/\ig A h) where
 sub:=λb L=>by rw[Pt.mp L];exact MW
 frame:=λ_ _ _ t k=>⟨⟨t.1.1.at λo e=>k it MW o e,t.1.2.stay λo e=>k d (MQ _ MW) o e⟩,t.2.fr λb L o e=>k b (by simp[L]) o e⟩
 item:=λi s Q E hi t q=>by
  obtain⟨v,O⟩:∃v,vs[i]?=some v:=⟨vs[i],by simp⟩
  refine DE t.1.1 t.1.2 O λh' a b=>?_;obtain⟨W,U,ci,_⟩:=id t.1.1;exact q v h' s.toks O ⟨⟨a,t.1.2.stay λo e=>b.extBut d o I e⟩,t.2.but U ci b.extBut⟩ λc o J e=>b.extBut c o (λz=>J (by simp_all)) e
 done:=λs Q E t q=>FG t.2 t.1.1 t.1.2 (by simp) λh' b=>q h' s.toks λc o J e=>b c o (λz=>J (by simp_all)) e
 self:=λ_ _ _ _ t q=>wpAny_pyIter_valiter t.1.1 q
theorem xH{R:List MC->MD->Prop}(hd:ig A s.heap)(hv:s.heap.IsValuesView r d)(dr:lG s.heap d vs ep)(hn:vs.length<=MN)
  (h:∀(h':MY) (tk:Nat) (acc:Array MC),(∀b o,s.heap.get? b=some o->h'.get? b=some o)->Sf (λi v=>vs[i]?=some v) acc vs.length->R acc.toList { s with heap:=h',toks:=tk }):
  MJ (MK prog w) A (collect (.ref r)) R E s:=by
 have hlr:r < s.heap.objs.size:=let ⟨_,e,_⟩:=hv;ML e;have Z:d < s.heap.objs.size:=dr.there;unfold collect;refine MB (wpAny_runValue (O6 entry_proto_collect' ?_));rw[RC PySem.F.plain_proto_collect _];show MJ _ A.in1 (newList [] >>= λl=>again (.builtin "list.__iadd__" ⟨[l,.ref r],[]⟩)) _ _ s
 refine MB (Nh ?_);refine MG ⟨Pr PySem.F.plain_list_iadd _,O6 entry_list_iadd' ?_⟩;rw[RC PySem.F.plain_list_iadd _];show MJ _ A.in1 (Pc (.ref s.heap.objs.size) (.ref r) (.ref s.heap.objs.size)) _ _ _
 generalize ho:({ cls:=.type "list",data:=.seq ([]:List MC).toArray }:Obj)=ol;have hS0:(s.heap.push ol).get? s.heap.objs.size=some ol:=MM _ (by rw[<- ho];rfl)
 have O:(s.heap.push ol).IsValuesView r d:=let ⟨o,e,q⟩:=hv;⟨o,ME _ e,q⟩;have dr1:lG (s.heap.push ol) d vs ep:=dr.stay λo e=>ME _ e;generalize hI:({ cls:=.type "dict_valueiterator",data:=.fields #[.ref d,.int 0 0,.int vs.length 0,.int ep 0] }:Obj)=oI;have L:(s.heap.push ol).objs.size=s.heap.objs.size+1:=NE ..;have U:=ME oI hS0;have up:∀b o,s.heap.get? b=some o->((s.heap.push ol).push oI).get? b=some o:=λb o e=>ME _ (ME _ e);have hSf:s.heap.objs.size∉(s.heap.push ol).objs.size::d::yJ A.in1:=by
  simp only[NC,not_or];refine⟨by rw[L];exact M6 (Oe _),OB Z,λz=>?_⟩
  obtain⟨o,C,e,_⟩:=(hd.keep (B:=A.in1) λ_ _ e=>e).at _ z;exact Nat.lt_irrefl _ (ML e)
 have W:=DC (prog:=prog) (w:=w) (A:=A.in1) (it:=(s.heap.push ol).objs.size) (d:=d) (vs:=vs) (ep:=ep) (by rw[L];exact M6 (Nat.lt_succ_of_lt Z))
 have key:∀(h1:MY) (c1 tk:Nat),(∀b o,b≠s.heap.objs.size->((s.heap.push ol).push oI).get? b=some o->h1.get? b=some o)->h1.get? s.heap.objs.size=some { cls:=.type "list",data:=.seq #[] c1 }->
   N4 (MK prog w) A (.builtin "list.extend.loop" ⟨[.ref s.heap.objs.size,.ref (s.heap.push ol).objs.size,.ref s.heap.objs.size],[]⟩) (λq s'=>∃(h':MY) (tk:Nat) (I:Array MC) (J:Nat),q=.ok (.ret (.ref s.heap.objs.size))/\s'={ s with heap:=h',toks:=tk }/\
    (∀b o,s.heap.get? b=some o->h'.get? b=some o)/\h'.get? s.heap.objs.size=some { cls:=.type "list",dict:=none,data:=.seq I J,slots:=#[] }/\Sf (λi v=>vs[i]?=some v) I vs.length) { s with heap:=h1,toks:=tk }:=by
  intro h1 c1 tk kp hS;have old:∀b o,s.heap.get? b=some o->h1.get? b=some o:=λb o e=>kp b o (M6 (ML e)) (up b o e);refine codeAny_extend_loopS W.toS hn s.heap.objs.size hSf _ vs.length 0 _ #[] c1 rfl (NH _) ⟨⟨⟨oI,kp _ _ (by rw[L];exact OB (Oe _)) (MM _ (by rw[<- hI];rfl)),by rw[<- hI],by rw[<- hI];rfl⟩,dr.stay λo e=>old _ _ e⟩,hd.keep old⟩ hS (ItemsOf.nil _) λs' I J hm Y hacc=>?_
  rw[Moved.eq_with hm];refine⟨s'.heap,s'.toks,I,J,rfl,rfl,λb o e=>hm.heap b o (λz=>?_) (old b o e),Y,hacc⟩;rcases NC.mp z with z|z
  .exact M6 (ML e) z
  .exact M6 (Nat.lt_succ_of_lt (ML e)) ((Pt.mp z).trans L)
 have fin:∀{h':MY} {tk:Nat} {I:Array MC} {J:Nat},(∀b o,s.heap.get? b=some o->h'.get? b=some o)->h'.get? s.heap.objs.size=some { cls:=.type "list",dict:=none,data:=.seq I J,slots:=#[] }->Sf (λi v=>vs[i]?=some v) I vs.length->
   MJ (MK prog w) A (load s.heap.objs.size >>= λo=>match o.data with|.seq xs _=>pure xs.toList|_=>unsupported "internal:collect") R E { s with heap:=h',toks:=tk }:=λ{h' tk I J} hk hS hacc=>MB (QS hS (MG (h h' tk I hk hacc)))
 have ext:MJ (MK prog w) A.in1 (Pc (.ref s.heap.objs.size) (.ref r) (.ref s.heap.objs.size)) (λf s'=>match f with|.done f=>False|.again J=>J.quiet=true/\N4 (MK prog w) A J (λq s'=>∃(h':MY) (tk:Nat) (I:Array MC) (J:Nat),q=.ok (.ret (.ref s.heap.objs.size))/\s'={ s with heap:=h',toks:=tk }/\
    (∀b o,s.heap.get? b=some o->h'.get? b=some o)/\h'.get? s.heap.objs.size=some { cls:=.type "list",dict:=none,data:=.seq I J,slots:=#[] }/\Sf (λi v=>vs[i]?=some v) I vs.length) s') (λ_ _=>False) { s with heap:=s.heap.push ol }:=by
  unfold Pc;refine MB (Qn (T:="dict_values") O.typeIs ?_);have h1:Q6 (.ref s.heap.objs.size) (.ref r)=false:=by simp[Q6,OB hlr]
  simp only[h1,show (Value.type "dict_values" == Value.type "list")=false by decide,show (Value.type "dict_values" == Value.type "tuple")=false by decide,Bool.or_false,Bool.false_eq_true,if_false]
  refine MB (DD O dr1 ?_);rw[hI];refine MB (Na (kdl_hint_values (s:={ s with heap:=(s.heap.push ol).push oI }) (let ⟨o,e,c,_⟩:=O;⟨o,ME _ e,c⟩) ?_))
  subst ho;refine wpAny_ite_split (λ_=>?_) (λ_=>MG ⟨Pr PySem.F.plain_extend_loop _,key _ 0 _ (λb o _ e=>e) U⟩);refine MB (NZ (MB ?_));show MJ _ _ (updateSeq s.heap.objs.size (·.push .none) >>= λ_=>updateSeq s.heap.objs.size (·.pop)) _ _ _
  refine MB (wpAny_updateSeq U rfl ?_);have hS2:=Nk (N3 (·.push Value.none)) U rfl;refine wpAny_updateSeq (hz:=by seq_fits) hS2 rfl ?_
  have hS3:=Nk (N3 (·.pop)) hS2 rfl;exact MG ⟨Pr PySem.F.plain_extend_loop _,key _ _ _ (λb o hb e=>(MV _ _ (Ne.symm hb)).trans ((MV _ _ (Ne.symm hb)).trans e)) hS3⟩
 refine Nf ext (λf s' x=>?_) λ_ _ x=>x.elim;cases f with
 | done f=>exact x.elim
 | again c1=>
  refine⟨x.1,Og x.2 λq s2 y=>?_⟩;obtain⟨h',tk,I,J,rfl,rfl,hk,Y,hacc⟩:=y;exact fin hk Y hacc
end
def XO(a:MF)(o:Obj):HO:=.ext λh=>h.get? a=some o
theorem CO{P:MR}{w:M4}{H:Hp}{h:MY}{a:MF}{o:Obj}(e:h.get? a=some o):bz P w H h a (XO a o):=⟨e,⟨o,e⟩,λ_ _ p k=>k _ p⟩
section
variable{X:Cx}{pins:List (MF×Obj)}{τ:St}{H H0:Hp}{s:MD}{G:Gp}{a:MF}{o:Obj}{u:HO}
theorem kA(I:Inv X pins τ H s)(e:H a=some (XO a o)):s.heap.get? a=some o:=(show bz X.prog X.w H s.heap a (XO a o)from I.hok a _ e).1
theorem pC{t':Nat}{h':MY}(I:Inv X pins τ H s)(O:s.heap.objs.size=a)(J:h'=s.heap.push o)(L:o.isFreed=false:=by rfl):Inv X pins τ (aV H a (XO a o)) { s with heap:=h',toks:=t' }:=by
 subst O J;exact I.laid (λ_ _ e=>ME _ e) (le_refl _) (CO (MM _ L))
theorem sN{t':Nat}{o':Obj}{f:Obj->Obj}(I:Inv X pins τ H s)(e:H a=some (XO a o))(J:(s.heap.update a f).get? a=some o'):Inv X pins τ (aV H a (XO a o')) { s with heap:=s.heap.update a f,toks:=t' }:=
 I.write (x:=a) (e:=a) (by rw[e];exact trivial) (.inl rfl) (λb u O L=>(MV s.heap f (Ne.symm O)).trans L) ⟨_,J⟩ (CO J)
theorem mn{K:Pj}(I:E7 (H a)):Stb K H (aV H a u) where
 t:=λb xs q=>by
  rcases q with (q|⟨z,q⟩)|q
  .exact .inl (.inl (by rw[ao (λe=>by subst e;rw[q]at I;exact I)];exact q))
  .exact .inl (.inr ⟨z,by rw[ao (λe=>by subst e;rw[q]at I;exact I)];exact q⟩)
  .exact .inr q
 l:=λb xs q=>by
  rcases q with ⟨z,q⟩|q
  .exact .inl ⟨z,by rw[ao (λe=>by subst e;rw[q]at I;exact I)];exact q⟩
  .exact .inr q
theorem AX{K:Pj}(I:RG K H G)(g:G a=none)(J:E7 (H a)):RG K (aV H a u) G:=λb z q=>by
 obtain⟨h,O,r⟩:=I b z q;have L:b≠a:=λe=>by subst e;rw[q]at g;cases g
 exact⟨h,by rw[ao L];exact O,r.mono (mn J)⟩
theorem yD(k:Kp G H0 G H)(n:H0 a=none):Kp G H0 G (aV H a u):=λb h e g=>⟨by rw[ao (bw e n)];exact (k b h e g).1,g⟩
theorem Go{k:Nat}{f:MF}{fd:NL}{ps:List Str}{sp:cR}{d U:D}{v:V}{x:MC}{A:MS}{E:MC->MD->Prop}(F:FnOk X.prog X.w X.K X.mg X.base pO k f fd ps (b9 X.K sp))(hb:eA X.K fd ps [])(hr:Room k A)(hA:Env0 X.prog X.w X.K X.mg X.base A X.stack s H)
  (I:Inv X pins τ H s) (rg:RG X.K H G) (rd:RD X.K H d v) (Z:aF v x) (hs:sp [d] G λz G'=>z=U/\G'=G) (nf:∀l,U≠.fl l) {Q:MC->MD->Prop}
  (q:∀u J H' s',Inv X pins τ H' s'->Kp G H G H'->RG X.K H' G->RD X.K H' U J->aF J u->Q u s'):MJ (MK X.prog X.w) A (call (.ref f) [x]) Q E s:=by
 have O:b9 X.K sp [v] H (λJ H'=>Kp G H G H'/\RG X.K H' G/\RD X.K H' U J) (λ_ _ _=>False):=
  ⟨[d],G,_,RDs.cons rd RDs.nil,rg,hs,λz G' J H' e k1 L re=>by obtain⟨rfl,rfl⟩:=e;exact⟨k1,L,re.rd nf⟩⟩
 have r2:Vals [v] [x]:=.cons Z .nil;have hl:([x] ++ ([]:List MC)).length=ps.length:=by
  have:=F.len _ _ _ _ O
  simpa using this
 refine OY (Og (F.run A X.stack s H ⟨[x],[]⟩ ([x] ++ []) [v] _ _ hr hA (hb s [x] I.kIn hl) (by simpa using r2) O) λr s' hq=>?_)
 cases r with
 | error e=>exact False.elim hq
 | ok fl=>
  cases fl with
  | ret u=>
   obtain⟨J,H',I',W,k1,L,Y⟩:=I.after hq;exact q u J H' s' I' k1 L Y W
  | next=>exact False.elim hq
  | brk=>exact False.elim hq
  | cont=>exact False.elim hq
end
theorem yE{X:Cx}{pins:List (MF×Obj)}{τ:St}{H0:Hp}{G:Gp}{k:Nat}{f:MF}{fd:NL}{ps:List Str}{sp:cR}{A:MS}{E:MC->MD->Prop}(F:FnOk X.prog X.w X.K X.mg X.base pO k f fd ps (b9 X.K sp))(hb:eA X.K fd ps [])(hr:Room k A)
  (hA:∀{s H},Inv X pins τ H s->Env0 X.prog X.w X.K X.mg X.base A X.stack s H) {S D0:MF} {oD:Obj} (nS:H0 S=none) (nD:H0 D0=none) (gS:G S=none) (gD:G D0=none) (hne:S≠D0)
  {body:MC->PUnit->Sem (ForInStep PUnit)}
  (hbd:∀x s Q,MJ (MK X.prog X.w) A (call (.ref f) [x]) (λu s'=>MJ (MK X.prog X.w) A (Builtin.List.listUpdate (.ref S) (·.push u)) (λ_=>Q (.yield ⟨⟩)) E s') (λ_ _=>False) s->MJ (MK X.prog X.w) A (body x ⟨⟩) Q E s):
  ∀{ds ks:List D} {vs:List V} {us:List MC},ks.length=ds.length->(∀(i:Nat) d kd,ds[i]?=some d->ks[i]?=some kd->(sp [d] G λz G'=>z=kd/\G'=G)/\∀l,kd≠.fl l)->
   ∀{H:Hp} {s:MD} {done:List D} {kv:List V} {ku:List MC} {n:Nat},Inv X pins τ H s->Kp G H0 G H->RG X.K H G->RDs X.K H ds vs->Vals vs us->H D0=some (XO D0 oD)->H S=some (XO S (Ou "list" ku.toArray n))->RDs X.K H done kv->Vals kv ku->ku.length+us.length < 64->
   ∀{Q:PUnit->MD->Prop},(∀H' s' kv' ku' n',Inv X pins τ H' s'->Kp G H0 G H'->RG X.K H' G->H' D0=some (XO D0 oD)->H' S=some (XO S (Ou "list" ku'.toArray n'))->RDs X.K H' (done ++ ks) kv'->Vals kv' ku'->Stb X.K H H'->Q ⟨⟩ s')->
   MJ (MK X.prog X.w) A (forIn us PUnit.unit body) Q E s
 | [],ks,vs,us,hl,hk,H,s,done,kv,ku,n,I,kp,rg,U,Z,eD,eS,W,O,hz,Q,q=>by
  rw[U.inv_nil]at Z;cases Z;rw[List.forIn_nil];have:ks=[]:=List.length_eq_zero_iff.mp (by simpa using hl)
  subst this;exact MG (q H s kv ku n I kp rg eD eS (by rw[Ng];exact W) O ⟨λ_ _ z=>z,λ_ _ z=>z⟩)
 | d::ds,[],vs,us,hl,_,_,_,_,_,_,_,_,_,_,_,_,_,_,_,_,_,_,_=>by simp at hl
 | d::ds,kd::ks,vs,us,hl,hk,H,s,done,kv,ku,n,I,kp,rg,U,Z,eD,eS,W,O,hz,Q,q=>by
  obtain⟨v,t,e,h1,h2⟩:=U.inv_cons;subst e;cases Z with
  | @cons _ x _ us l Z=>
   rw[Qk];obtain⟨hs,nf⟩:=hk 0 d kd rfl rfl;refine MB (hbd x s _ (Go F hb hr (hA I) I rg h1 l hs nf λu v' H' s' I' k1 rg1 rd1 rv1=>?_));have Y:=(k1 S _ eS gS).1;have eD':=(k1 D0 _ eD gD).1;have L:=k1.stb rg;have oS:=kA I' Y;simp only[MU]at hz;refine Qf oS rfl ?_ (by rw[M1,NK];omega) (by rw[Array.size_push,M1,NK];omega)
   have ea:ku.toArray.push u=(ku ++ [u]).toArray:=by simp
   have e2:=PM oS (·.push u);rw[ea]at e2;generalize (if ((ku ++ [u]).toArray.size == ku.toArray.size)=true then n else n+1)=n2 at e2
   have mu:E7 (H' S):=by rw[Y];exact trivial
   have I2:=sN (t':=s'.toks) I' Y e2;have J:Stb X.K H' (aV H' S (XO S (Ou "list" (ku ++ [u]).toArray n2))):=mn mu;refine yE F hb hr hA nS nD gS gD hne hbd (ds:=ds) (ks:=ks) (by simpa using hl) (λi d' kd' a b=>hk (i+1) d' kd' (by simpa using a) (by simpa using b)) I2 (yD (kp.trans k1) nS) (AX rg1 gS mu)
    (RDs.mono J _ _ (RDs.mono L _ _ h2)) Z (by rw[ao hne.symm];exact eD') aG (done:=done ++ [kd]) (kv:=kv ++ [v']) (RDs.append (RDs.mono J _ _ (RDs.mono L _ _ W)) (RDs.cons (RD.mono J _ _ rd1) RDs.nil)) (O.append (.cons rv1 .nil)) (by simp;omega)
    λH3 s3 kv3 ku3 n3 I3 kp3 rg3 eD3 eS3 rd3 rv3 st3=>q H3 s3 kv3 ku3 n3 I3 kp3 rg3 eD3 eS3 (by simpa using rd3) rv3 ⟨λb xs z=>st3.t _ _ (J.t _ _ (L.t _ _ z)),λb xs z=>st3.l _ _ (J.l _ _ (L.l _ _ z))⟩
section
variable{X:Cx}{pins:List (MF×Obj)}{τ:St}{H H0:Hp}{s:MD}{G:Gp}
theorem Hl(I:L2.Inv X pins τ H s){n:Nat}{A:MS}(Y:A.units+n < NA){b:Bool}{N1 N2:Nat}{Q:Bool->MD->Prop}:
  ∀{ds es:List D} {xs ys:List V} {us U:List MC} {i:Nat},(b && i == 0)=false->Ky n (EN n) ds es->RDs X.K H ds xs->RDs X.K H es ys->Vals xs us->Vals ys U->ds.length+N2=es.length+N1->Q (dJ (lu n) ds es) s->
   KatLex X.prog X.w A b (decide (N1 < N2)) Q (us.zip U) i s
 | [],es,xs,ys,us,U,i,Z,c,W,r2,L,J,O,q=>by
  rw[W.inv_nil]at L;cases L;rw[List.zip_nil_left];refine kat_nil ?_;cases es with
  | nil=>
   simp only[Np]at O;rw[decide_eq_false (by omega)]
   exact q
  | cons b t=>
   simp only[Np,MU]at O;rw[decide_eq_true (by omega)]
   exact q
 | a::r,[],xs,ys,us,U,i,Z,c,W,r2,L,J,O,q=>by
  rw[r2.inv_nil]at J;cases J;rw[List.zip_nil_right];refine kat_nil ?_;simp only[Np,MU]at O;rw[decide_eq_false (by omega)]
  exact q
 | a::r,b'::t,xs,ys,us,U,i,Z,⟨p,c,z⟩,W,r2,L,J,O,q=>by
  obtain⟨x1,t1,e1,g1,g2⟩:=W.inv_cons;subst e1;obtain⟨x2,t2,e2,f1,f2⟩:=r2.inv_cons;subst e2;cases L with
  | cons k1 L=>
  cases J with
  | cons k2 J=>
   rw[List.zip_cons_cons];refine kat_cons ((yW I n p.1 p.2 g1 f1 k1 k2 Y).eq X.prog X.w _ _ (kat_go (λe=>kat_yes ?_) λe=>kat_no ?_))
   .rw[show dJ (lu n) (a::r) (b'::t)=dJ (lu n) r t by simp[dJ,e]]at q
    simp only[MU]at O;exact Hl I Y (by simp) z g2 f2 L J (by omega) q
   .rw[show dJ (lu n) (a::r) (b'::t)=lu n a b' by simp[dJ,e]]at q
    rw[Z];refine kat_one _ _ ?_;exact (Iv I n (c λy=>by rw[y,bo]at e;cases e) g1 f1 k1 k2 Y) X.prog X.w _ _ q
def B8(d:D):Prop:=∃t r,d=.tup (.int t::r)
theorem KW(I:L2.Inv X pins τ H s){A:MS}(hu:A.units+4 < NA){W U:D}{v u:V}{v' u':MC}(cp:EN 4 W U)(hx:B8 W)(hy:B8 U)(rx:RD X.K H W v)(ry:RD X.K H U u)(lx:aF v v')(ly:aF u u'){C:Bool->MD->Prop}{E:MC->MD->Prop}
  (q:C (lu 4 W U) s):MJ (MK X.prog X.w) A (keyLt' (tuples' true) v' u') C E s:=by
 obtain⟨i,r,rfl⟩:=hx;obtain⟨j,t,rfl⟩:=hy;simp only[RD]at rx ry;obtain⟨a,xs,rfl,s1,r1⟩:=rx;obtain⟨b,ys,rfl,s2,r2⟩:=ry;cases lx;cases ly;obtain⟨its,L,⟨o1,h1,c1,n1,d1⟩,z1⟩:=I.tuple s1;obtain⟨its2,J,⟨o2,h2,c2,n2,d2⟩,z2⟩:=I.tuple s2;refine kat_lt h1 d1 h2 d2 ?_;have l1:=L.length;have l1':=r1.length;have l2:=J.length;have Z:=r2.length;obtain⟨x1,t1,e1,g1,g2⟩:=RDs.inv_cons (d:=.int i) (ds:=r) r1;subst e1;obtain⟨x2,t2,e2,f1,f2⟩:=RDs.inv_cons (d:=.int j) (ds:=t) r2;subst e2;simp only[RD]at g1 f1;subst g1 f1;cases L with
 | @cons _ u1 _ m1 k1 L=>
 cases J with
 | @cons _ u2 _ m2 k2 J=>
  obtain⟨tk,rfl⟩:=k1;obtain⟨Y,rfl⟩:=k2;obtain⟨p,c,z⟩:=(show Ky 3 (EN 3) (.int i::r) (.int j::t)from cp)
  have O:C (dJ (lu 3) (.int i::r) (.int j::t)) s:=q;show KatLex _ _ _ _ _ _ ((_::m1).zip (_::m2)) 0 s
  rw[List.zip_cons_cons];refine kat_cons ((yW I 3 (x:=.int i) (y:=.int j) (v:=.int i) (u:=.int j) p.1 p.2 dC dC ⟨tk,rfl⟩ ⟨Y,rfl⟩ (by omega)).eq X.prog X.w _ _ (kat_go (λe=>kat_yes ?_) λe=>kat_no ?_))
  .rw[show dJ (lu 3) (.int i::r) (.int j::t)=dJ (lu 3) r t by simp[dJ,e]]at O
   simp only[MU]at l1 l1' l2 Z;exact Hl I (by omega) (by simp) z g2 f2 L J (by simp only[M1,MU];omega) O
  .rw[show dJ (lu 3) (.int i::r) (.int j::t)=lu 3 (.int i) (.int j)by simp[dJ,e]]at O
   show MJ _ _ (oneLt' true _ _) _ _ _
   exact oneLt_int O
theorem IF(I:L2.Inv X pins τ H s){A:MS}{E:MC->MD->Prop}{Q:SortKind->MD->Prop}{ks:List D}{kv:List V}{ku:List MC}(L:∀d∈ks,B8 d)(r:RDs X.K H ks kv)(w:Vals kv ku)(hn:0 < ks.length)(q:Q (tuples' true) s):
  MJ (MK X.prog X.w) A (keyKind' ku.toArray) Q E s:=by
 have go:∀{ks:List D} {kv:List V} {ku:List MC},(∀d∈ks,B8 d)->RDs X.K H ks kv->Vals kv ku->∃fs,KatTups s.heap ku fs/\fs.length=ks.length/\∀v∈fs,∃i t,v=Value.int i t:=by
  intro ks
  induction ks with
  | nil=>
   intro kv ku _ r w;rw[r.inv_nil]at w;cases w;exact⟨[],KatTups.nil,rfl,λv J=>by simp at J⟩
  | cons d t ih=>
   intro kv ku L r w;obtain⟨x1,t1,U,g1,g2⟩:=r.inv_cons;subst U;cases w with
   | cons k1 w=>
    obtain⟨fs,h1,h2,O⟩:=ih (λd hd=>L d (MQ _ hd)) g2 w;obtain⟨i,rr,rfl⟩:=L d MW;simp only[RD]at g1;obtain⟨a,xs,rfl,s1,Y⟩:=g1;cases k1;obtain⟨Z,W,⟨o1,U,c1,n1,d1⟩,z1⟩:=I.tuple s1;obtain⟨y1,u1,e2,g3,_⟩:=RDs.inv_cons (d:=.int i) (ds:=rr) Y;subst e2;simp only[RD]at g3;subst g3;cases W with
    | cons k2 W=>
     obtain⟨tk,rfl⟩:=k2;refine⟨.int i tk::fs,KatTups.cons U c1 d1 (by simp) h1,by simp[h2],λv J=>?_⟩
     rcases NC.mp J with rfl|J
     .exact⟨i,tk,rfl⟩
     .exact O v J
 obtain⟨fs,h1,h2,O⟩:=go L r w;refine kat_kind (T:=.type "int") h1 (by omega) (λv J=>?_) (by decide) ?_
 .obtain⟨i,t,rfl⟩:=O v J;exact Looks.of_pure rfl
 .rw[show (Value.type "int" != Value.type "tuple")=true by decide]
  exact q
end
section
variable{X:Cx}{pins:List (MF×Obj)}{τ:St}{H H0:Hp}{s:MD}{G:Gp}{S D0:MF}{A:MS}{E:MC->MD->Prop}{P:PySem.Fin->MD->Prop}
theorem xt(I:L2.Inv X pins τ H s)(rg:RG X.K H G)(kp:Kp G H0 G H)(nS:H0 S=none)(nD:H0 D0=none)(gS:G S=none)(gD:G D0=none)(W:S≠D0){Z n:Nat}{ku out:List MC}{ov:List V}{st:SortSt}
  (eD:H D0=some (XO D0 (Ou "list" #[] Z))) (Y:H S=some (XO S (Ou "list" ku.toArray n))) (hz:ku.length < 64) (ho:(arrOf st).map (·.2)=out.toArray) (hf:failedOf st=none) (hv:Vals ov out) (hl:out.length < 64)
  (q:∀H' s',L2.Inv X pins τ H' s'->Kp G H0 G H'->RG X.K H' G->H' D0=some (.lst ov)->Stb X.K H H'->P (.done (.ret .none)) s'):MJ (MK X.prog X.w) A (ksk_tail D0 false Z (.ref S) st) P E s:=by
 unfold ksk_tail;dsimp only;rw[ho];simp only[Bool.false_eq_true,if_false];have oS:=kA I Y;have e2:=PM oS (λ_=>(#[]:Array MC));have U:E7 (H S):=by rw[Y];exact trivial
 have I1:=sN (t':=s.toks) I Y e2;have L:(aV H S (XO S (Ou "list" #[] (if ((#[]:Array MC).size == ku.toArray.size)=true then n else n+1)))) D0=some (XO D0 (Ou "list" #[] Z)):=by rw[ao W.symm];exact eD
 have O:=kA I1 L;have J:E7 ((aV H S (XO S (Ou "list" #[] (if ((#[]:Array MC).size == ku.toArray.size)=true then n else n+1)))) D0):=by rw[L];exact trivial
 have e3:=PM O (λ_=>out.toArray);refine MB (Qf oS rfl ?_ (by rw[M1,NK];omega) (NH _))
 refine MB (OO ?_);refine MB (seqEpoch_at O rfl ?_);refine MB (Qf O rfl ?_ (NH _) (by rw[M1,NK];omega))
 rw[hf];simp only[bne_self_eq_false,Bool.false_eq_true,if_false];have I2:=I1.write (x:=D0) (e:=D0) (o:=.lst ov) (t':=s.toks) J (.inl rfl) (λb u hb hu=>(MV _ (N3 λ_=>out.toArray) (Ne.symm hb)).trans hu) ⟨_,e3⟩ ⟨by rw[hv.length,NK];omega,out,_,hv,e3⟩
 refine MG (q _ _ I2 (yD (yD kp nS) nD) (AX (AX rg gS U) gD J) aG ?_);exact⟨λb xs z=>(mn J).t _ _ ((mn U).t _ _ z),λb xs z=>(mn J).l _ _ ((mn U).l _ _ z)⟩
theorem Ch{vs:List V}{us:List MC}(w:Vals vs us)(i:Nat)(hi:i < vs.length):aF (vs.getD i .non) (us.getD i .none):=by
 have I:=w.length;obtain⟨v,e,r⟩:=Vals.getV (i:=i) (u:=us[i]'(by omega)) w (by simp)
 rw[MX,MX,e,MO (by omega)]
 exact r
theorem xY{vs:List V}{us:List MC}(w:Vals vs us):∀{p:List Nat},(∀i∈p,i < vs.length)->Vals (p.map λi=>vs.getD i .non) (p.map λi=>us.getD i .none)
 | [],_=>.nil
 | i::r,h=>.cons (Ch w i (h i MW)) (xY w λj I=>h j (MQ _ I))
theorem EB{K:Pj}{ds:List D}{vs:List V}(r:RDs K H ds vs)(i:Nat)(hi:i < vs.length):RD K H (ds.getD i .non) (vs.getD i .non):=by
 obtain⟨d,e,q⟩:=RDs.getV (i:=i) r (MO hi);rw[MX,MX,e,MO hi];exact q
theorem A8{K:Pj}{ds:List D}{vs:List V}(r:RDs K H ds vs):∀{p:List Nat},(∀i∈p,i < vs.length)->RDs K H (p.map λi=>ds.getD i .non) (p.map λi=>vs.getD i .non)
 | [],_=>RDs.nil
 | i::t,h=>RDs.cons (EB r i (h i MW)) (A8 r λj I=>h j (MQ _ I))
theorem range_getD{α:Type}(l:List α)(d:α):(List.range l.length).map (λi=>l.getD i d)=l:=by
 refine List.ext_getElem (by simp) λi h1 h2=>?_
 simp[h2]
theorem GC(I:L2.Inv X pins τ H s)(rg:RG X.K H G)(kp:Kp G H0 G H)(nS:H0 S=none)(nD:H0 D0=none)(gS:G S=none)(gD:G D0=none)(Y:S≠D0){e1 n:Nat}{ks:List D}{kv vs:List V}{ku us:List MC}
  (eD:H D0=some (XO D0 (Ou "list" #[] e1))) (eS:H S=some (XO S (Ou "list" ku.toArray n))) (rk:RDs X.K H ks kv) (Z:Vals kv ku) (wv:Vals vs us) (hl:ku.length=us.length) (hz:us.length < 64) (hu:A.units+4 < NA)
  (hk:∀d∈ks,B8 d) (hc:∀a∈ks,∀b∈ks,EN 4 a b) (r:Nat->Nat) (hr:∀i j a b,ks[i]?=some a->ks[j]?=some b->lu 4 a b=decide (r i < r j))
  (q:∀(p:List Nat) H' s',p.Perm (List.range us.length)->(p.map r).Pairwise (·<=·)->L2.Inv X pins τ H' s'->Kp G H0 G H'->RG X.K H' G->H' D0=some (.lst (p.map λi=>vs.getD i .non))->Stb X.K H H'->P (.done (.ret .none)) s'):
  MJ (MK X.prog X.w) A (ksk_end D0 false us.toArray e1 (.ref S) ku.toArray) P E s:=by
 have lk:=Z.length;have lk':=rk.length;have lv:=wv.length;unfold ksk_end;dsimp only;simp only[Bool.false_eq_true,if_false]
 by_cases h2:us.length < 2
 .have hs:us.toArray.size < 2:=by rw[M1];exact h2
  rw[if_pos hs,if_pos hs];refine MB (MG ?_);refine MB (MG ?_);refine xt I rg kp nS nD gS gD Y eD eS (by omega) (out:=us) (ov:=vs) (st:=SortSt.mk' general' (ku.toArray.zip us.toArray) #[] 7 none) ?_ rfl wv hz λH' s' I' W U e' O=>?_
  .apply Array.toList_inj.mp;show ((ku.toArray.zip us.toArray).map (·.2)).toList=_
   rw[Array.toList_map,ksk_zip];simp[List.map_snd_zip,hl]
  .refine q (List.range us.length) H' s' (List.Perm.refl _) ?_ I' W U (by rw[<- lv,range_getD];exact e') O
   have:us.length=0\/us.length=1:=by omega
   rcases this with e|e<;>rw[e]<;>simp[List.range_succ]
 .have hs:¬ us.toArray.size < 2:=by rw[M1];exact h2
  rw[if_neg hs,if_neg hs];obtain⟨p,ep,hp,adj⟩:=Fw r us.length (by omega)
  refine MB (IF I hk rk Z (by omega) ?_)
  refine MB (Nf (kat_run (Q:=λO s'=>∃L:Array Nat,arrOf O=L.map (kas_item (ku.toArray.zip us.toArray))/\failedOf O=none/\s'=s/\L=p) hl (by omega) hz (G:=λL s'=>s'=s/\L=p)
   (λL O s' a1 a2 a3 a4=>⟨L,a2,a3,a4.1,a4.2⟩) ?_) ?_ λ_ _ x=>x)
  .refine KasT.walked (lt:=lC r) (J:=λs'=>s'=s) (λi j C s' hi hj e c=>?_) _ s (Fx (by omega)) rfl λs' e _=>⟨e,ep⟩
   subst e;unfold kas_ask;obtain⟨v1,f1,g1⟩:=Vals.getV (i:=i) (u:=ku[i]'(by omega)) Z (by simp)
   obtain⟨v2,f2,g2⟩:=Vals.getV (i:=j) (u:=ku[j]'(by omega)) Z (by simp)
   obtain⟨d1,b1,c1⟩:=RDs.getV rk f1;obtain⟨d2,b2,c2⟩:=RDs.getV rk f2;have m1:=M_ b1;have m2:=M_ b2;rw[show ku.getD i Value.none=ku[i]'(by omega)by simp[show i < ku.length by omega],show ku.getD j Value.none=ku[j]'(by omega)by simp[show j < ku.length by omega]]
   refine KW I hu (hc _ m1 _ m2) (hk _ m1) (hk _ m2) c1 c2 g1 g2 ?_;rw[hr i j d1 d2 b1 b2];exact c _ rfl
  .rintro⟨⟨⟩,O⟩ s' ⟨L,har,hf,rfl,rfl⟩
   dsimp only;have lp:L.toList.length=us.length:=by rw[hp.length_eq,List.length_range]
   have inr:∀i∈L.toList,i < us.length:=λi hi=>mem_range.mp (hp.mem_iff.mp hi);refine xt I rg kp nS nD gS gD Y eD eS (by omega) (out:=L.toList.map λi=>us.getD i Value.none) (ov:=L.toList.map λi=>vs.getD i .non) (kat_snds hl har) hf (xY wv λi hi=>by rw[lv];exact inr i hi) (by rw[MH,lp];exact hz) λH' s' I' W U e' O=>?_
   refine q L.toList H' s' hp ?_ I' W U e' O;rw[O_,List.pairwise_iff_getElem];intro i j hi hj hij;have h:=adj.le (le_of_lt hij) (by omega)
   unfold RR at h;have gi:L.getD i 0=L.toList[i]:=by
    have:i < L.size:=by simpa using hi
    simp[Array.getD,this]
   have gj:L.getD j 0=L.toList[j]:=by
    have:j < L.size:=by simpa using hj
    simp[Array.getD,this]
   rw[gi,gj]at h;exact h
end
structure SortBy(sp:cR)(G:Gp)(ds:List D)(ks:List D)(r:Nat->Nat):Prop where
 few:ds.length < 64
 len:ks.length=ds.length
 key:∀(i:Nat) d kd,ds[i]?=some d->ks[i]?=some kd->sp [d] G λz G'=>z=kd/\G'=G
 ki:∀d∈ks,B8 d
 cp:∀a∈ks,∀b∈ks,EN 4 a b
 lt:∀i j a b,ks[i]?=some a->ks[j]?=some b->lu 4 a b=decide (r i < r j)
section
variable{X:Cx}{pins:List (MF×Obj)}{τ:St}{H H0:Hp}{s:MD}{G:Gp}{S D0:MF}{A:MS}{E:MC->MD->Prop}{P:PySem.Fin->MD->Prop}
 {k:Nat} {f:MF} {fd:NL} {ps:List Str} {sp:cR} {ds ks:List D} {r:Nat->Nat} {vs:List V} {us:List MC}
theorem Dy(F:FnOk X.prog X.w X.K X.mg X.base pO k f fd ps (b9 X.K sp))(hb:eA X.K fd ps [])(hr:Room k A)(hA:∀{s H},L2.Inv X pins τ H s->Env0 X.prog X.w X.K X.mg X.base A X.stack s H)(L:SortBy sp G ds ks r)(hu:A.units+4 < NA)
  (I:L2.Inv X pins τ H s) (rg:RG X.K H G) (kp:Kp G H0 G H) (nS:H0 S=none) (nD:H0 D0=none) (gS:G S=none) (gD:G D0=none) (U:S≠D0) {e1:Nat}
  (eD:H D0=some (XO D0 (Ou "list" #[] e1))) (eS:H S=some (XO S (Ou "list" #[] 0))) (rd:RDs X.K H ds vs) (Y:Vals vs us)
  (q:∀(p:List Nat) H' s',p.Perm (List.range ds.length)->(p.map r).Pairwise (·<=·)->L2.Inv X pins τ H' s'->Kp G H0 G H'->RG X.K H' G->H' D0=some (.lst (p.map λi=>vs.getD i .non))->Stb X.K H H'->P (.done (.ret .none)) s'):
  MJ (MK X.prog X.w) A (ksk_rest D0 (.ref f) false us.toArray e1 (.ref S)) P E s:=by
 have l1:=rd.length;have l2:=Y.length;have few:=L.few;unfold ksk_rest;refine MB (NZ ?_)
 first
  | rw[List.forIn_toArray]
  | (rw[<- Array.forIn_toList];simp only[List.toList_toArray])
  | rw[<- Array.forIn_toList]
 refine MB (yE F hb hr hA nS nD gS gD U (λx s' Q' h=>?_) L.len (λi d kd a b=>⟨L.key i d kd a b,λl e=>?_⟩) I kp rg rd Y eD (ku:=[]) (n:=0) (done:=[]) (kv:=[]) eS RDs.nil .nil (by simp only[Np];omega)
  λH' s' kv' ku' n' I' kp' rg' eD' W Z wk st=>?_)
 .refine MB (Nx (Nf h (λu O hu'=>?_) λ_ _ hF=>hF.elim));dsimp only;exact MB (Nf hu' (λ_ s3 hq=>MG hq) λ_ _ x=>x)
 .obtain⟨t,rr,e2⟩:=L.ki kd (M_ b);rw[e2]at e;cases e
 .have l3:=Z.length;have l4:=wk.length;have sl:=L.len;simp only[ON]at Z l3;refine MB (listItems_at (kA I' W) rfl ?_);refine GC I' rg' kp' nS nD gS gD U eD' W Z wk Y (by omega) (by omega) hu L.ki L.cp r L.lt λp H'' O hp hs I'' TY TQ e'' J=>?_
  refine q p H'' O (by rw[show ds.length=us.length by omega];exact hp) hs I'' TY TQ e'' ⟨λb xs z=>J.t _ _ (st.t _ _ z),λb xs z=>J.l _ _ (st.l _ _ z)⟩
theorem C6(F:FnOk X.prog X.w X.K X.mg X.base pO k f fd ps (b9 X.K sp))(hb:eA X.K fd ps [])(hr:Room k A)(hA:∀{s H},L2.Inv X pins τ H s->Env0 X.prog X.w X.K X.mg X.base A X.stack s H)(sb:SortBy sp G ds ks r)(hu:A.units+4 < NA)
  (I:L2.Inv X pins τ H s) (rg:RG X.K H G) (kp:Kp G H0 G H) (h0:∀a,H a=none->H0 a=none) (nD:H0 D0=none) (gD:G D0=none) {n:Nat}
  (eD:H D0=some (XO D0 (Ou "list" us.toArray n))) (rd:RDs X.K H ds vs) (wv:Vals vs us)
  (q:∀(p:List Nat) H' s',p.Perm (List.range ds.length)->(p.map r).Pairwise (·<=·)->L2.Inv X pins τ H' s'->Kp G H0 G H'->RG X.K H' G->H' D0=some (.lst (p.map λi=>vs.getD i .non))->Stb X.K H H'->P (.done (.ret .none)) s'):
  MJ (MK X.prog X.w) A (ksk_tree D0 (.ref f) false) P E s:=by
 have l1:=rd.length;have l2:=wv.length;have few:=sb.few;have oD:=kA I eD;have mu:E7 (H D0):=by rw[eD];exact trivial
 have e2:=PM oD (λ_=>(#[]:Array MC));generalize (if ((#[]:Array MC).size == us.toArray.size)=true then n else n+1)=e1 at e2
 have I1:=sN (t':=s.toks) I eD e2;unfold ksk_tree;refine MB (listItems_at oD rfl ?_);refine MB (Qf oD rfl ?_ (by rw[M1,NK];omega) (NH _))
 refine MB (seqEpoch_at e2 rfl ?_);refine MB (wpAny_newTuple ?_ (by show us.length<=_;rw[NK];omega))
 refine MB (wpAny_newList ?_ (NH _));refine Na ?_;have I2:L2.Inv X pins τ _ { s with heap:=(s.heap.update D0 (N3 λ_=>#[])).push { cls:=.type "tuple",data:=.seq us.toArray } }:=I1.kept (t':=s.toks) λb u e=>ME _ e
 have U:=I2.fresh;have I3:=pC (t':=s.toks) (o:=Ou "list" #[] 0) I2 rfl rfl;have J:H ((s.heap.update D0 (N3 λ_=>(#[]:Array MC))).push { cls:=.type "tuple",data:=.seq us.toArray }).objs.size=none:=by
  by_cases e:((s.heap.update D0 (N3 λ_=>(#[]:Array MC))).push { cls:=.type "tuple",data:=.seq us.toArray }).objs.size=D0
  .rw[e]at U;rw[aG]at U;cases U
  .rw[ao e]at U;exact U
 have Z:((s.heap.update D0 (N3 λ_=>(#[]:Array MC))).push { cls:=.type "tuple",data:=.seq us.toArray }).objs.size≠D0:=λe=>by rw[e,eD]at J;cases J
 have Y:RG X.K (aV H D0 (XO D0 (Ou "list" #[] e1))) G:=AX rg gD mu;have O:Stb X.K H (aV H D0 (XO D0 (Ou "list" #[] e1))):=mn mu;have L:Stb X.K (aV H D0 (XO D0 (Ou "list" #[] e1))) (aV (aV H D0 (XO D0 (Ou "list" #[] e1))) ((s.heap.update D0 (N3 λ_=>(#[]:Array MC))).push { cls:=.type "tuple",data:=.seq us.toArray }).objs.size (XO ((s.heap.update D0 (N3 λ_=>(#[]:Array MC))).push { cls:=.type "tuple",data:=.seq us.toArray }).objs.size (Ou "list" #[] 0))):=(Kp.laid (G:=G) U).stb Y;refine Dy F hb hr hA sb hu I3 (Y.laid U) (yD (yD kp nD) (h0 _ J)) (h0 _ J) nD (rg.free J) gD Z (by rw[ao Z.symm,aG]) aG (RDs.mono L _ _ (RDs.mono O _ _ rd)) wv λp H' s' hp hs I' kp' rg' e' W=>?_
 exact q p H' s' hp hs I' kp' rg' e' ⟨λb xs z=>W.t _ _ (L.t _ _ (O.t _ _ z)),λb xs z=>W.l _ _ (L.l _ _ (O.l _ _ z))⟩
theorem zD{d vw:MF}{Q:MC->MD->Prop}(F:FnOk X.prog X.w X.K X.mg X.base pO k f fd ps (b9 X.K sp))(hb:eA X.K fd ps [])(hr:Room (k+2) X.A)(sb:SortBy sp G ds ks r)(hu:X.A.units+8 < NA)
  (I:L2.Inv X pins τ H s) (Y:RG X.K H G) {ep:Nat} (hv:s.heap.IsValuesView vw d) (dr:lG s.heap d us ep) (rd:RDs X.K H ds vs) (wv:Vals vs us)
  (q:∀(p:List Nat) D0 H' s',p.Perm (List.range ds.length)->(p.map r).Pairwise (·<=·)->L2.Inv X pins τ H' s'->Kp G H G H'->RG X.K H' G->H D0=none->H' D0=some (.lst (p.map λi=>vs.getD i .non))->RDs X.K H' (p.map λi=>ds.getD i .non) (p.map λi=>vs.getD i .non)->Q (.ref D0) s'):
  MJ (MK X.prog X.w) X.A (call (.builtin "sorted") [.ref vw] [(MI "key",.ref f)]) Q E s:=by
 have l1:=rd.length;have l2:=wv.length;have few:=sb.few;refine call_function_entry_kw kind_sorted plain_sorted entry_sorted (ksk_s1 _ _) ?_;unfold Builtin.«sorted»;refine MB (m:=checkCount "sorted" 1 1 _) (MG ?_);refine MB (xH (A:=X.A.in1) (I.hds.keep λ_ _ e=>e) hv dr (by rw[NK];omega) λh' tk L hk hacc=>?_)
 have ea:L.toList=us:=by
  refine List.ext_getElem? λi=>?_;rcases OJ i L.size with h|h
  .have e:L[i]?=some L[i]:=by simp[h]
   have:=hacc.2 i _ e;rw[this];simp[h]
  .rw[OD (by simpa using h),OD (by rw[<- hacc.1];exact h)]
 rw[ea];have I1:L2.Inv X pins τ H { s with heap:=h',toks:=tk }:=I.kept hk
 refine MB (wpAny_newList ?_ (by rw[NK];omega))
 have O:=I1.fresh;have I2:=pC (t':=tk) (o:=Ou "list" us.toArray 0) I1 rfl rfl;have st:Stb X.K H (aV H h'.objs.size (XO h'.objs.size (Ou "list" us.toArray 0))):=(Kp.laid (G:=G) O).stb Y;refine MB (Na (wpAny_call_entry_kw slot_list_sort ⟨_,kA I2 aG,rfl⟩ entry_list_sort ?_ (ksk_l1 _ _)));rw[ksk_t1];refine C6 F hb (hr.in1.in1) (λJ=>J.env0.in1.in1) sb (by show X.A.units+1+1+4 < NA;omega) I2 (Y.laid O) (Kp.laid O) (λa e=>?_) O (Y.free O) aG (RDs.mono st _ _ rd) wv λp H' s' hp hs I' Z W e' U=>⟨_,rfl,?_⟩
 .by_cases h:a=h'.objs.size
  .subst h;exact O
  .rw[ao h]at e;exact e
 .refine MG ⟨_,rfl,q p _ H' s' hp hs I' Z W O e' (A8 (RDs.mono U _ _ (RDs.mono st _ _ rd)) λi hi=>?_)⟩;rw[<- l1];exact mem_range.mp (hp.mem_iff.mp hi)
end
def Ar(sp:cR)(to:bb):bb:=λσ G Q=>to σ G λx G1=>match val x with
 | .ref a=>match G1 a with
  | some (.dT _ I)=>∃J r,SortBy sp G1 (I.map (·.2)) J r/\∀p:List Nat,p.Perm (List.range (I.map (·.2)).length)->(p.map r).Pairwise (·<=·)->Q (.fl (p.map λi=>(I.map (·.2)).getD i .non)) G1
  | _=>False
 | _=>False
theorem Dt{K:Pj}{H:Hp}{ν:List (List aE×D)}{xs:List (List aE×MF×MC)}(r:pJ K H ν xs):∃vs,RDs K H (ν.map (·.2)) vs/\Vals vs (xs.map (·.2.2)):=by
 unfold pJ at r
 induction r with
 | nil=>exact⟨[],RDs.nil,.nil⟩
 | cons h _ I=>
  obtain⟨_,_,v,h1,h2⟩:=h;obtain⟨vs,a,b⟩:=I;exact⟨v::vs,RDs.cons h1 a,.cons h2 b⟩
theorem F0{X:Cx}{k:Nat}{f:Str}{sp:cR}{o:M7}{to:bb}{p0 apos cpos np TX pos:Pos}(F:Fn3 X.prog X.w X.K X.mg X.base k f [] sp)(hr:Room (k+2) X.A)(hc:true=true)(hgf:Gl X f)(hg:Gl X "sorted")(hm:X.mg "sorted"=none)(ho:PE X o (aB X.K to))
  (Sq:N6 o "values" X.env (eval o X.env)=eval o X.env:=by rfl) (Sx:(apos.endLine == cpos.line)=true:=by rfl) (hdf:(f == ("__debug__":Str))=false:=by decide):
  PE X (.Call (.Name "sorted" p0) [.Call (.Attribute o "values" apos) [] [] cpos] [⟨some "key",.Name f np,TX⟩] pos) (aB X.K (Ar sp to)):=by
 obtain⟨fa,fd,ps,dv,dvs,ok,hmf,_,hb,hv0,hd0⟩:=F.ex;have e0:dvs=[]:=(hd0 (λ_=>none)).inv_nil;subst e0;cases hv0;have hu:=hr.units
 rintro pins s τ H Q I ⟨σ,G,Q3,rs,rg,h,kf⟩
 refine N9 (h_ I hg hm (u:=.builtin "sorted") (by decide +kernel) ?_ (by decide) (by decide))
 refine callWith_kw (id:="sorted") ?_;show MJ _ _ (spliced [(false,eval (.Call (.Attribute o "values" apos) [] [] cpos) X.env)]) _ _ _
 refine Ow (wpAny_Call_method0_late Sq Sx (b_ (dQ ho I rs rg h) λov s1 zz=>?_));obtain⟨ox,H1,I1,W,x,G1,O,k1,J,L⟩:=zz;split at O
 .rename_i a hx;rw[hx]at L;simp only[RD]at L;subst L;cases W;split at O
  .rename_i hw ν hga;obtain⟨ks,r,sb,O⟩:=O;obtain⟨hob,eo,ro⟩:=J a _ hga;cases hob with
   | ext φ=>
    obtain⟨xs,rfl,rt,nd,hz⟩:=ro;obtain⟨hsm,o1,es,ep,g1,g2,g3,g4⟩:=(show bz X.prog X.w H1 s1.heap a (.ext (xj hw a xs))from I1.hok a _ eo).1
    obtain⟨vs,rv,wv⟩:=Dt rt;have U:lG s1.heap a (xs.map (·.2.2)) ep:=⟨o1,es,g1,g2,g3,by rw[g4,Nr];rfl⟩
    refine⟨"dict","dict.values",PySem.F.plainAttrs_dict,PySem.F.slot_dict_values,PySem.F.type_dict_values,U.ty,λb e=>?_,?_⟩
    .cases e;exact⟨o1,g1,g2.2.1⟩
    .refine PL rfl (PySem.evalArgs_none (Qs PySem.F.slot_dict_values U.ty PySem.F.entry_dict_values (PySem.F.args_dict_values_1 _) (zP hsm) ⟨⟨_,ep,U⟩,?_⟩));refine OW ?_;have I2:L2.Inv X pins τ H1 { s1 with heap:=s1.heap.push { cls:=.type "dict_values",data:=.fields #[.ref a] } }:=I1.kept (t':=s1.toks) λb u e=>ME _ e
     show MJ _ _ (evalAll [(do let v <- eval (.Name f np) X.env;O9 pos;pure v)]) _ _ _
     refine wpAny_evalAll_cons (MB (i8 I2 hgf hmf (MB (OI (MG (wpAny_evalAll_nil ?_)))) hdf));show MJ _ _ (call (.builtin "sorted") [.ref s1.heap.objs.size] [(MI "key",.ref fa)]) _ _ _
     refine zD ok hb hr sb (by omega) I2 J (ep:=ep) ⟨_,MM _ rfl,rfl,rfl⟩ (U.stay λb e=>ME _ e) rv wv λp D0 H' s' hp hs I' kp' Y n0 e' Z=>?_
     exact⟨.ref D0,H',I',rfl,kf _ G1 _ H' (O p hp hs) (k1.trans kp') Y (.inl ⟨_,D0,_,rfl,rfl,e',J.free n0,Z,k1.fr (qP n0)⟩)⟩
   | _=>exact ro.elim
  .exact O.elim
 .exact O.elim
def Kv(te:bb):bb:=λσ G Q=>te σ G λx G1=>match w_ G1 (val x) with
 | some ds=>Q (.fl ds.reverse) G1
 | none=>False
def IY(to:bb):bb:=λσ G Q=>to σ G λx G1=>match x with
 | .ref a=>match G1 a with
  | some (.lst _)=>Q .non (gset G1 a (.lst []))
  | _=>False
 | _=>False
noncomputable def J4{α:Type}(xs:List α)(lo hi st:Option Int):List α:=
 (RW (Os lo hi st xs.length).1 (Os lo hi st xs.length).2.1 (Os lo hi st xs.length).2.2).filterMap (xs[·]?)
def Kt(te:bb)(tl th J:Js):bb:=λσ G Q=>te σ G λx G1=>tl σ G1 λl G2=>th σ G2 λu L=>J σ L λst I=>st≠some 0/\match w_ I (val x) with
 | some ds=>Q (.fl (J4 ds l u st)) I
 | none=>False
def jg(K:Pj)(mg:Str->Option MC)(x:Str)(d:D):Prop:=∃u v,mg x=some u/\aF v u/\∀H,RD K H d v
theorem dS{X:Cx}{x:Str}{d:D}{pos:Pos}(J:Gl X x)(h:jg X.K X.mg x d)(hd:(x == ("__debug__":Str))=false:=by decide):PE X (.Name x pos) (aB X.K (eC d)):=by
 obtain⟨u,v,I,r,rd⟩:=h;exact wf J I r rd hd
theorem Cs{K:Pj}{mg:Str->Option MC}{x:Str}{ds:List D}{vs:List V}{I:Array MC}{a:MF}{n:Nat}{sl:Array (Option MC)}(J:mg x=some (.ref a))(L:K.lookup a=some ⟨.type "tuple",none,.seq I n,sl⟩)
  (hz:I.size<=MN) (w:Vals vs I.toList) (r:∀H,RDs K H ds vs):jg K mg x (.tup ds):=
 ⟨.ref a,.ref a,J,rfl,λH=>oZ (.inr ⟨_,I,n,L,⟨rfl,rfl⟩,rfl,hz,w⟩) (r H)⟩
end L3
namespace L2
open PySem PySem.Spec PyProof.Rows
theorem Inv.turnedL{X:Cx}{pins:List (MF×Obj)}{σ:St}{H:Hp}{s:MD}{h':MY}{t':Nat}{fp:List MF}(I:Inv X pins σ H s)(k:∀b o,b∉fp->s.heap.get? b=some o->h'.get? b=some o)(L:∀b∈fp,pM X pins H b):
  Inv X pins σ H { s with heap:=h',toks:=t' }:=by
 have O:∀b u,H b=some u->b∉fp:=λb u e z=>by rw[(L b z).1]at e;cases e
 have Z:X.env.locals∉fp:=λz=>(L _ z).2.1 rfl;refine I.step (g':=s.gens) (d':=s.drawn) (ch:=fp) (λb U=>⟨(L b U).2.2.2.1,(L b U).2.1,(L b U).2.2.2.2.1,(L b U).2.2.2.2.2⟩) (λb o _ _ J e _=>k b o J e) (λb o _ _ J e _=>⟨o.slots,k b o J e⟩) (λ_ _ _ _ n=>n)
  (λb o J e=>⟨o,k b o J e⟩) (λ_ _ e=>e) (λ_ _ _ e=>e) (λb ps e=>⟨#[],by rw[e];simp⟩) (λm Y=>?_) (λb u e=>?_) I.bare
 .obtain⟨o,es,ep,W,r⟩:=Y;exact⟨o,es,ep,k _ o Z W,r⟩
 .refine (I.hok b u e).stay (λc v J q=>k c v ?_ q) (λ_ q=>q) λ_ _ q=>q;rcases J with z|z
  .rw[z];exact O b u e
  .exact O c _ z
def Mg(K:Pj)(a:MF):It:=
 ⟨λi H=>∃xs x,ij K H a xs/\xs[i]?=some x,λi H x H'=>∃p y,H p=none/\x=.ref p/\H'=aV H p (.tup [.int i,y])/\∀xs,ij K H a xs->xs[i]?=some y,λi H=>∃xs,ij K H a xs/\xs.length<=i⟩
theorem BA{P:MR}{w:M4}{K:Pj}{elts:List M7}{x1}{tp:Pos}(a e it:MF)(W:e≠it):Turn P w K (.Tuple elts x1 tp) (Mg K a) [e,it] e (λi h=>(∃old,IsEnum h e it i old)/\h.IsListIter it a i) where
 mem:=by simp
 obj:=λi h st b J=>by
  have U:b=e\/b=it:=by simpa using J
  obtain⟨⟨old,L⟩,o,e1,c,d⟩:=st;rcases U with rfl|rfl
  .exact⟨_,L,λv z=>by cases z⟩
  .exact⟨o,e1,λv z=>by rw[d]at z;cases z⟩
 keep:=λi h h' ⟨⟨old,L⟩,st⟩ k=>⟨⟨old,k e (by simp) _ L⟩,st.at λo q=>k it (by simp) o q⟩
 item:=by
  intro X hP hw hK i pins s σ H E I hf st hg;subst hP hw hK;obtain⟨xs,x,hq,hx⟩:=hg;obtain⟨its,rv,p,hz⟩:=I.list hq;obtain⟨u,hu,ru⟩:=rv.get hx;obtain⟨⟨old,L⟩,hit⟩:=st;have Z:e < s.heap.objs.size:=ML L;have hil:it < s.heap.objs.size:=by obtain⟨_,z,_⟩:=hit;exact ML z
  refine wpAny_pyNext_enum_item L hit p.isList (x:=u) (by simpa using hu) W λh' ho Y hT hsz hk=>?_
  refine⟨_,rfl,wpAny_letOwnedTupleGo_enum ho λh2 he2 O=>?_⟩;have hT2:h2.get? s.heap.objs.size=some { cls:=.type "tuple",data:=.seq #[.int i s.toks,u] }:=(O.2 _ (OB Z)).trans hT;have hn:H s.heap.objs.size=none:=I.hok.fresh (le_refl _);have nu:∀b∈[e,it],b≠s.heap.objs.size:=λb J=>by
   have U:b=e\/b=it:=by simpa using J
   rcases U with rfl|rfl
   .exact M6 Z
   .exact M6 hil
  have I0:Inv X pins σ (aV H s.heap.objs.size (.tup [.int i,x])) { s with heap:=s.heap.push { cls:=.type "tuple",data:=.seq #[.int i s.toks,u] },toks:=s.toks }:=by
   refine I.laid (t':=s.toks) (λb v q=>ME _ q) (le_refl _) ?_;exact⟨by show 2<=MN;decide,[.int i s.toks,u],.cons ⟨_,rfl⟩ (.cons ru .nil),tw.new _ _⟩
  have I1:Inv X pins σ (aV H s.heap.objs.size (.tup [.int i,x])) { s with heap:=h2,toks:=s.toks+1 }:=by
   have:=Inv.turnedL (s:={ s with heap:=s.heap.push { cls:=.type "tuple",data:=.seq #[.int i s.toks,u] },toks:=s.toks }) (h':=h2) (t':=s.toks+1) (fp:=[e,it]) I0 (λb o J q=>?_) λb J=>?_
   .exact this
   .have hbe:b≠e:=λz=>J (by simp[z])
    have hbi:b≠it:=λz=>J (by simp[z])
    have q':(s.heap.push { cls:=.type "tuple",data:=.seq #[.int i s.toks,u] }).get? b=some o:=q
    by_cases hbs:b=s.heap.objs.size
    .subst hbs;rw[MM _ rfl]at q';cases q';exact hT2
    .have q2:s.heap.get? b=some o:=by
      rwa[Qv _ _ _ hbs]at q'
     exact (O.2 b hbe).trans (hk b o hbe hbi q2)
   .obtain⟨f0,f1,f2,f3,f4,f5⟩:=hf b J;exact⟨by rw[ao (nu b J)];exact f0,f1,f2,f3,f4,f5⟩
  refine⟨.ref s.heap.objs.size,_,I1,rfl,⟨_,x,hn,rfl,rfl,λys hy=>by rw[I.list_inj hy hq];exact hx⟩,⟨⟨_,by simpa using he2⟩,Y.at λo q=>(O.2 it W.symm).trans q⟩,λb J=>?_⟩
  rw[ao (nu b J)];exact (hf b J).1
 done:=by
  intro X hP hw hK i pins s σ H E I hf st hg;subst hP hw hK;obtain⟨xs,hq,hx⟩:=hg;obtain⟨its,rv,p,hz⟩:=I.list hq;obtain⟨⟨old,L⟩,hit⟩:=st;have hl:=rv.length;exact EK I.hds L hit p.isList (by simp;omega) λh' eb=>⟨rfl,I.turnedL (t':=s.toks) (fp:=[e,it]) (λb o J q=>eb b o (λz=>J (by simp[z])) q) hf⟩
 self:=λ_ _ _ _ _ st h=>by
  obtain⟨⟨old,L⟩,_⟩:=st;exact R_ L h
end L2
namespace L3
open PySem PySem.Spec PyProof.Rows L2
noncomputable def enumFrom3:Nat->List D->List D
 | _,[]=>[]
 | n,d::r=>.tup [.int n,d]::enumFrom3 (n+1) r
abbrev vh(ds:List D):List D:=enumFrom3 0 ds
theorem fC:∀(n:Nat) (ds:List D),(enumFrom3 n ds).length=ds.length
 | _,[]=>rfl
 | n,_::r=>by simp[enumFrom3,fC (n+1) r]
theorem md:∀(n:Nat) (ds:List D) (i:Nat) (d:D),ds[i]?=some d->(enumFrom3 n ds)[i]?=some (.tup [.int (n+i:Nat),d])
 | n,d::r,0,I,h=>by simp at h;subst h;simp[enumFrom3]
 | n,d::r,i+1,I,h=>by
  have:=md (n+1) r i I (by simpa using h)
  simp only[enumFrom3,ND];rw[this];simp only[Option.some.injEq,D.tup.injEq,List.cons.injEq,D.int.injEq,and_true];omega
theorem Gu{K:Pj}{U:Gp}{H0:Hp}{ds:List D}{xs:List V}{a:MF}(I:RG K H0 U)(f:CL K H0 a xs)(r:RDs K H0 ds xs):uD K U H0 (vh ds) (Mg K a):=λi G H k L=>by
 have Z:=r.length;have J:=(k.stb I).l _ _ f;have r':=RDs.mono (k.stb I) _ _ r;rw[vh,fC];refine⟨λhi=>⟨⟨xs,xs[i],J.sq,MO (by omega)⟩,λx H' y=>?_⟩,λe=>⟨xs,J.sq,by omega⟩⟩
 obtain⟨p,y,hn,rfl,rfl,W⟩:=y;have O:ds[i]?=some ds[i]:=MO hi;obtain⟨z,e,q⟩:=r'.get O;have Y:=W xs J.sq;rw[Y]at e;cases e;refine⟨Kp.laid hn,L.laid hn,.tup [.int i,ds[i]],?_,kQ L hn (RDs.cons dC (RDs.cons q RDs.nil))⟩;have:=md 0 ds i _ O;rw[this,Nat.zero_add]
def Ey(ta:lF):Fb:=λσ G Q=>ta σ G λds G'=>match ds with
 | [.lst es]=>Q (vh es) G'
 | _=>False
theorem tj:Oh "enumerate"=some (.type "enumerate"):=by kernel_rfl
theorem IT{X:Cx}{elts:List M7}{Y}{Z:Pos}{a:M7}{ta:lF}{p pos:Pos}(hg:Gl X "enumerate")(hm:X.mg "enumerate"=none)(ha:PA X [a] (dI X.K ta))(hs:MP [a] X.env=[(false,eval a X.env)]:=by rfl):PI X (.Tuple elts Y Z) (.Call (.Name "enumerate" p) [a] [] pos) (nO X.K (Ey ta)):=by
 intro pins s τ H R I h;obtain⟨σ,G,Q3,rs,rg,hq,k⟩:=h;refine RB (h_ I hg hm tj (PyProof.Rows.callWith_type1 (b_ (ha pos pins s τ H (λvs H1=>∃ds G1,(match ds with|[.lst es]=>Q3 (vh es) G1|_=>False)/\Kp G H G1 H1/\RG X.K H1 G1/\RDs X.K H1 ds vs) I
  ⟨σ,G,_,rs,rg,hq,λds G1 vs H1 q k1 J L=>⟨ds,G1,q,k1,J,L⟩⟩) λus s1 ⟨vs,H1,U,r1,q1⟩=>?_) hs rfl))
 obtain⟨ds,G1,q,k1,J,L⟩:=q1;split at q
 .rename_i es;obtain⟨v,rfl,rd⟩:=dH L;simp only[RD]at rd;obtain⟨b,xs,rfl,f,r⟩:=rd;obtain⟨u,rfl,ru⟩:=pP r1;cases ru;obtain⟨its,rv,pl,hz⟩:=U.list f.sq;refine call_enumerate_list pl.isList λh' W hI hsz hk=>R_ W ?_;refine⟨s1.heap.objs.size+1,[s1.heap.objs.size+1,s1.heap.objs.size],_,_,H1,rfl,U.kept (t':=s1.toks) hk,BA b _ _ (Nat.succ_ne_self _),⟨⟨_,W⟩,hI⟩,λc hc=>?_,k _ G1 _ H1 q k1 J (Gu J f r)⟩;have e:c=s1.heap.objs.size+1\/c=s1.heap.objs.size:=by simpa using hc
  have O:s1.heap.objs.size<=c:=by rcases e with e|e<;>(rw[e];first|exact le_refl _|exact P_ _)
  exact U.fpOk O (U.hok.fresh O)
 .exact q.elim
def LG(a b:String):Bool:=(a == b) || ((a == "bool") && (b == "int"))
def IE(b:String):Prop:=b="int"\/b="bool"\/b="str"\/b="tuple"\/b="list"
def LS:AF:=λds G Q=>match ds with
 | [d,.ty T]=>IE T/\∃I,wE G d=some I/\Q (.bl (LG I T)) G
 | _=>False
def KC:AF:=λds G Q=>match ds with
 | [.bl b]=>Q (.int (if b then 1 else 0)) G
 | _=>False
theorem pH{K:Pj}{mg:Str->Option MC}{x z:Str}{t:Tok}(I:mg x=some (.str z t)):jg K mg x (.str z):=⟨.str z t,.str z,I,⟨t,rfl⟩,λ_=>iX⟩
end L3
namespace L2
open PySem PySem.Spec PyProof.Rows
end L2
namespace L3
open PySem PySem.Spec PyProof.Rows L2
section
variable{X:Cx}{a b c d:M7}{ta tb tc td:bb}{pos:Pos}{r r' r2:R3}
def JL(r r' r2:R3)(ta tb tc td:bb):ou:=λσ G Q=>ta σ G λx G1=>tb σ G1 λy G2=>r x y G2 λz J=>match z with
 | .bl k=>if k=true then tc σ J λw G4=>r' y w G4 λO I=>match O with
   | .bl k5=>if k5=true then td σ I λU Z=>r2 w U Z λL Y=>match L with
     | .bl W=>Q W Y
     | _=>False
    else Q false I
   | _=>False
  else Q false J
 | _=>False
end
def K4(a:MF)(g:tx)(tb:bH)(E:Ends3)(σ:eV)(ds:List D)(G1:Gp):Prop:=∃Pv:Nat->eV->Gp->Prop,Pv 0 σ G1/\(∀i I G',Pv i I G'->G' a=some (.lst ds))/\
 (∀(i:Nat) d I G',ds[i]?=some d->Pv i I G'->g d I G' λJ G2=>tb { E with nx:=Pv (i+1),ct:=Pv (i+1),bk:=E.nx } J G2)/\∀I G',Pv ds.length I G'->E.nx I G'
def Dp(te:bb)(g:tx)(tb:bH):bH:=λE σ G=>te σ G λd G1=>match d with
 | .ref a=>∃ds,G1 a=some (.lst ds)/\K4 a g tb E σ ds G1
 | d=>match eJ d with
  | some ds=>ForIn g tb E σ ds G1
  | none=>False
section
variable{X:Cx}{tg e:M7}{te:bb}
theorem A2(h:PE X e (aB X.K te)):PI X tg e (λτ H R=>∃σ G Z,RS X.K H σ τ/\RG X.K H G/\te σ G Z/\∀d G1 H1,Z d G1->Kp G H G1 H1->RG X.K H1 G1->match d with
  | .ref a=>(∃ds,G1 a=some (.lst ds))/\R (K3 X.K a) H1
  | d=>∃ds,eJ d=some ds/\∀J,uD X.K G1 H1 ds J->R J H1):=by
 intro pins s τ H R I hq;obtain⟨σ,G,Z,rs,rg,hq,k⟩:=hq;refine b_ (dD h pins s τ H (λv H1=>∃d G1,Kp G H G1 H1/\RG X.K H1 G1/\RD X.K H1 (val d) v/\Z d G1) I ⟨σ,G,_,rs,rg,hq,λd G' v H' q k' rg' rd=>⟨d,G',k',rg',rd,q⟩⟩) λu s1 zz=>?_;obtain⟨v,H1,I1,Y,d,G1,k1,L,rd,q⟩:=zz;have W:=k d G1 H1 q k1 L;have seq:∀{a:MF} {xs:List V} {ds:List D},CL X.K H1 a xs->RDs X.K H1 ds xs->(∀J,uD X.K G1 H1 ds J->R J H1)->MJ (MK X.prog X.w) X.A (Pf (.ref a)) (Hv X pins τ tg R) X.xe s1:=λf r q=>pA I1 f.sq (q _ (Be L f r));cases d with
 | ref a=>
  simp only[val,RD]at rd;subst rd;cases Y;obtain⟨⟨ds,hg⟩,O⟩:=W;obtain⟨xs,e1,r⟩:=sm L hg;exact pA I1 (ij.of e1) O
 | lst ds=>
  simp only[val,RD]at rd;obtain⟨a,xs,rfl,f,r⟩:=rd;cases Y;obtain⟨U,e,O⟩:=W;cases e;exact seq f r O
 | fl ds=>
  simp only[val,RD]at rd;obtain⟨a,xs,rfl,f,r⟩:=rd;cases Y;obtain⟨U,e,O⟩:=W;cases e;exact seq f r O
 | tup ds=>
  simp only[val,RD]at rd;obtain⟨a,xs,rfl,f,r⟩:=rd;cases Y;obtain⟨U,e,O⟩:=W;cases e;exact yF I1 f (O _ (Es L f r))
 | str z=>
  simp only[val,RD]at rd;subst rd;obtain⟨t,rfl⟩:=Y;obtain⟨U,e,O⟩:=W;cases e;refine yG I1 (O _ (Bd λH'=>?_));have:signs z=(z.cps.toList.map λc=>(⟨#[c]⟩:Str)).map D.str:=by simp[signs]
  rw[this];have e2:db z=(z.cps.toList.map λc=>(⟨#[c]⟩:Str)).map V.str:=by simp[db]
  rw[e2];exact RDs.strs _
 | _=>
  obtain⟨U,e,_⟩:=W;cases e
end
theorem HX{X:Cx}{tg iter:M7}{body:List Nd}{te:bb}{g:tx}{tb:bH}{pos:Pos}(hp:Qd (MK X.prog X.w) X.A X.env X.xe)(hc:true=true)(hi:PE X iter (aB X.K te))(hg:PG X tg (iI X.K g))(hb:iO X body (bx X.K tb))
  (hs:∀x,NO iter X.env x=pure x:=by intro _;rfl):PS X (.For tg iter body [] pos) (bx X.K (Dp te g tb)):=
 (DS hp hc (A2 hi) hg hb hs).imp λDd τ H zz=>by
 obtain⟨σ,G,D3,rs,rg,h,k⟩:=zz;exact (
  ⟨σ,G,_,rs,rg,h,λd G1 H1 q k1 rg1=>by
    have core:∀(ds:List D) (J:It) (Pv:Nat->eV->Gp->Prop),Pv 0 σ G1->
      (∀i I G' H',Pv i I G'->Kp G1 H1 G' H'->RG X.K H' G'->(i < ds.length->J.go i H'/\∀x H2,J.yld i H' x H2->Kp G' H' G' H2/\RG X.K H2 G'/\∃d,ds[i]?=some d/\RD X.K H2 d x)/\(i=ds.length->J.stop i H'))->
      (∀(i:Nat) d I G',ds[i]?=some d->Pv i I G'->g d I G' λO G2=>tb { D3 with nx:=Pv (i+1),ct:=Pv (i+1),bk:=D3.nx } O G2)->(∀I G',Pv ds.length I G'->D3.nx I G')->
      ∃W:Nat->Nat->St->Hp->Prop,(∃m,W 0 m τ H1)/\∀i m σ H,W i m σ H->
       (J.stop i H/\Dd.nx σ H)\/(J.go i H/\∃N:St->Hp->Prop,(∀I H',N I H'->∃m',m' < m/\W (i+1) m' I H')/\∀x H',J.yld i H x H'->iI X.K g x σ H' λO H2=>bx X.K tb { Dd with nx:=N,ct:=N,bk:=Dd.nx } O H2):=by
     intro ds J Pv Z it step fin;refine⟨λi m τ' H'=>m=ds.length - i/\i<=ds.length/\∃I G',RS X.K H' I τ'/\RG X.K H' G'/\Pv i I G'/\Kp G1 H1 G' H',⟨ds.length,rfl,NH _,σ,G1,rs.mono (k1.stb rg),rg1,Z,Kp.refl⟩,?_⟩
     rintro i m τ' H' ⟨rfl,hi',I,G',rs',L,pv,U⟩
     obtain⟨hgo,hstop⟩:=it i I G' H' pv U L
     by_cases hlt:i < ds.length
     .obtain⟨go,yld⟩:=hgo hlt;refine .inr ⟨go,λτ2 H2=>∃O G2,RS X.K H2 O τ2/\RG X.K H2 G2/\Pv (i+1) O G2/\Kp G1 H1 G2 H2,λτ2 H2 ⟨O,G2,a,b,c,d⟩=>⟨ds.length - (i+1),by omega,rfl,hlt,O,G2,a,b,c,d⟩,λx H2 y=>?_⟩
      obtain⟨ky,rgy,d,hd,rd⟩:=yld x H2 y;refine⟨d,I,G',_,rd,rs'.mono (ky.stb L),rgy,step i d I G' hd pv,λσ3 G3 τ3 H3 q3 k3 rg3 rs3=>?_⟩;have kk:Kp G1 H1 G3 H3:=U.trans (ky.trans k3);have kG:Kp G H G3 H3:=k1.trans kk;refine⟨σ3,G3,_,rs3,rg3,q3,⟨λY G4 τ4 H4 q4 k4 rg4 rs4=>⟨Y,G4,rs4,rg4,q4,kk.trans k4⟩,k.rt.base kG,λY G4 τ4 H4 q4 k4=>k.nx Y G4 τ4 H4 q4 (kG.trans k4),λY G4 τ4 H4 q4 k4 rg4 rs4=>⟨Y,G4,rs4,rg4,q4,kk.trans k4⟩⟩⟩
     .have e:i=ds.length:=by omega
      refine .inl ⟨hstop e,k.nx I G' τ' H' (fin I G' (by rw[<- e];exact pv)) (k1.trans U) L rs'⟩
    cases d with
    | ref a=>
     obtain⟨ds,hg,Pv,Z,live,step,fin⟩:=q;refine⟨⟨ds,hg⟩,core ds _ Pv Z (λi I G' H' pv U L=>?_) step fin⟩;obtain⟨xs,e1,r⟩:=sm L (live i I G' pv);have hl:=r.length;refine⟨λhi=>⟨⟨xs,xs[i]'(by omega),ij.of e1,by simp[show i < xs.length by omega]⟩,λx H2 y=>?_⟩,λe=>⟨xs,ij.of e1,by omega⟩⟩
     obtain⟨rfl,hx⟩:=y;refine⟨Kp.refl,L,ds[i],by simp[hi],?_⟩
     obtain⟨y,e,q⟩:=r.get (i:=i) (d:=ds[i]) (by simp[hi])
     rw[hx xs (ij.of e1)]at e;cases e;exact q
    | lst ds=>
     obtain⟨Pv,Z,step,fin⟩:=q;exact⟨_,rfl,λJ it=>core _ J Pv Z (λi I G' H' _ U L=>it i G' H' U L) step fin⟩
    | fl ds=>
     obtain⟨Pv,Z,step,fin⟩:=q;exact⟨_,rfl,λJ it=>core _ J Pv Z (λi I G' H' _ U L=>it i G' H' U L) step fin⟩
    | tup ds=>
     obtain⟨Pv,Z,step,fin⟩:=q;exact⟨_,rfl,λJ it=>core _ J Pv Z (λi I G' H' _ U L=>it i G' H' U L) step fin⟩
    | str z=>
     obtain⟨Pv,Z,step,fin⟩:=q;exact⟨_,rfl,λJ it=>core _ J Pv Z (λi I G' H' _ U L=>it i G' H' U L) step fin⟩
    | _=>exact q.elim⟩)
def zJ(c:ou)(tb:bH):bH:=λE σ G=>∃W:Nat->eV->Gp->Prop,(∃m,W m σ G)/\∀m I G',W m I G'->
 c I G' λb G1=>if b=true then ∃N:eV->Gp->Prop,(∀J G2,N J G2->∃L,L < m/\W L J G2)/\tb { E with nx:=N,ct:=N,bk:=E.nx } I G1 else E.nx I G1
theorem FI{X:Cx}{c:M7}{body:List Nd}{tc:ou}{tb:bH}{pos:Pos}(hp:Qd (MK X.prog X.w) X.A X.env X.xe)(hc:PT X c (cY X.K tc))(hb:iO X body (bx X.K tb)):PS X (.While c body [] pos) (bx X.K (zJ tc tb)):=
 (DN hp hc hb).imp λD τ H ⟨σ,G,D3,rs,rg,⟨W,⟨m0,w0⟩,turn⟩,k⟩=>by
  refine⟨λm U H'=>∃I G',RS X.K H' I U/\RG X.K H' G'/\W m I G'/\Kp G H G' H',⟨m0,σ,G,rs,rg,w0,Kp.refl⟩,?_⟩
  rintro m U H' ⟨I,G',Z,rg',w',k'⟩
  refine⟨I,G',_,Z,rg',turn m I G' w',λb G1 H1 q k1 rg1=>?_⟩;cases b with
  | true=>
   rw[if_pos rfl]at q ⊢;obtain⟨N,hN,q⟩:=q;refine⟨λτ2 H2=>∃L G2,RS X.K H2 L τ2/\RG X.K H2 G2/\N L G2/\Kp G H G2 H2,λτ2 H2 ⟨L,G2,a,b,n,d⟩=>?_,?_⟩
   .obtain⟨m',hm,w2⟩:=hN L G2 n;exact⟨m',hm,L,G2,a,b,w2,d⟩
   .have kG:=k'.trans k1;exact⟨I,G1,_,Z.mono (k1.stb rg'),rg1,q,⟨λJ G4 O H4 q4 k4 rg4 Y=>⟨J,G4,Y,rg4,q4,kG.trans k4⟩,k.rt.base kG,λJ G4 O H4 q4 k4=>k.nx J G4 O H4 q4 (kG.trans k4),λJ G4 O H4 q4 k4 rg4 Y=>⟨J,G4,Y,rg4,q4,kG.trans k4⟩⟩⟩
  | false=>
   rw[if_neg Bool.false_ne_true]at q ⊢;exact k.nx I G1 U H1 q (k'.trans k1) rg1 (Z.mono (k1.stb rg'))
def fm:List Str->List D->Str->Option D
 | g::L,d::ds,f=>if g=f then some d else fm L ds f
 | _,_,_=>none
def iD(L:List Str)(f:Str):List Str:=match L with
 | []=>[f]
 | g::r=>if g=f then g::r else g::iD r f
def gC:List Str->List D->Str->D->List D
 | g::L,x::ds,f,d=>if g=f then d::ds else x::gC L ds f d
 | _,_,_,d=>[d]
section
variable{K:Pj}{H:Hp}
theorem sW:∀{gs:List (Str×V)} {ds:List D} {f:Str} {d:D},RDs K H ds (gs.map (·.2))->fm (gs.map (·.1)) ds f=some d->∃v,gs.lookup f=some v/\RD K H d v
 | [],ds,f,d,r,e=>by simp[fm]at e
 | (g,u)::t,ds,f,d,r,e=>by
  cases ds with
  | nil=>simp[fm]at e
  | cons x ds=>
   obtain⟨y,q,I,h1,h2⟩:=r.inv_cons;rw[M5,List.cons.injEq]at I;obtain⟨rfl,I⟩:=I;simp only[M5,fm]at e;split at e
   .rename_i J;cases e;subst J;exact⟨u,by rw[Of,beq_self_eq_true],h1⟩
   .rename_i J;obtain⟨v,O,L⟩:=sW (gs:=t) (by rw[I];exact h2) e
    exact⟨v,by rw[Of,show (f == g)=false by simpa using Ne.symm J];exact O,L⟩
theorem xK:∀{gs:List (Str×V)} {f:Str} {v:V},(e8 f v gs).map (·.1)=iD (gs.map (·.1)) f
 | [],f,v=>rfl
 | (g,u)::t,f,v=>by
  simp only[e8,M5,iD];split
  .rename_i I;simp[I]
  .simp[xK (gs:=t)]
theorem xL:∀{gs:List (Str×V)} {ds:List D} {f:Str} {v:V} {d:D},RDs K H ds (gs.map (·.2))->RD K H d v->RDs K H (gC (gs.map (·.1)) ds f d) ((e8 f v gs).map (·.2))
 | [],ds,f,v,d,r,h=>by
  have:gC ([]:List Str) ds f d=[d]:=by unfold gC;rfl
  exact RDs.cons h RDs.nil
 | (g,u)::t,ds,f,v,d,r,h=>by
  cases ds with
  | nil=>exact absurd r.length (by simp)
  | cons x ds=>
   obtain⟨y,q,I,h1,h2⟩:=r.inv_cons;rw[M5,List.cons.injEq]at I;obtain⟨rfl,I⟩:=I;simp only[e8,M5,gC];split
   .rename_i J;subst I;exact RDs.cons h h2
   .exact RDs.cons h1 (xL (gs:=t) (by rw[I];exact h2) h)
end
def bp(I:List MF)(f:Str)(to:bb):bb:=λσ G Q=>to σ G λx G1=>match x with
 | .ref a=>match G1 a with
  | some (.ins C L ds)=>C∈I/\match fm L ds f with
   | some d=>Q d G1
   | none=>False
  | _=>False
 | _=>False
def ir(I:List MF)(f:Str)(to tv:bb):bH:=λD σ G=>tv σ G λd G1=>to σ G1 λx G2=>match x with
 | .ref a=>match G2 a with
  | some (.ins C L ds)=>(C∈I/\L.length < 1000)/\D.nx σ (gset G2 a (.ins C (iD L f) (gC L ds f (val d))))
  | _=>False
 | _=>False
def eE(I:List (MF×cR))(m:Str)(dds:List D)(to:bb)(ta:lF):bb:=λσ G Q=>to σ G λx G1=>match x with
 | .ref a=>match G1 a with
  | some (.ins C L _)=>m∉L/\∃sp,(C,sp)∈I/\ta σ G1 λds G2=>sp (.ref a::(ds ++ dds)) G2 Q
  | _=>False
 | _=>False
section
variable{X:Cx}{o e:M7}{es:List M7}{to te:bb}{t:lF}{pos apos:Pos}{k:Nat}{m:Str}{dds:List D}{sp:cR}
theorem bv{f:Str}{U:List MF}(tab:∀C∈U,Cls X.K C/\cB X.K C f)(ho:PE X o (aB X.K to))(hb:N6 o f X.env (eval o X.env)=eval o X.env:=by rfl):PE X (.Attribute o f pos) (aB X.K (bp U f to)):=
 (DY ho hb).imp λτ H Q W=>by
 obtain⟨σ,G,Q3,Y,Z,h,kk⟩:=W;exact (
  ⟨σ,G,_,Y,Z,h,λd G1 v H1 q k1 I re=>by
    cases d with
    | ref a=>
     dsimp only at q;split at q
     .rename_i C L ds hg;obtain⟨O,q⟩:=q;split at q
      .rename_i d hd;obtain⟨ho,e1,J⟩:=I a _ hg;cases ho with
       | ins C2 dx gs=>
        obtain⟨rfl,r2,r3⟩:=J;subst r2;obtain⟨w,hw,rd⟩:=sW r3 hd;exact⟨a,_,dx,gs,w,re.ref,e1,(tab _ O).1,(tab _ O).2,hw,kk _ G1 _ H1 q k1 I (.of rd)⟩
       | _=>exact J.elim
      .exact q.elim
     .exact q.elim
    | _=>exact q.elim⟩)
theorem gB{f:Str}{cs:List MF}{pos':Pos}(tab:∀C∈cs,Cls X.K C/\cB X.K C f)(ho:PE X o (aB X.K to))(hv:PE X e (aB X.K te))(hs:N7 e (some (.Attribute o f pos')) pos.line X.env=pure false:=by rfl):
  PS X (.Assign [.Attribute o f pos'] e pos) (bx X.K (ir cs f to te)):=
 (zV ho (dD hv) hs).imp λDd τ H zz=>by
 obtain⟨σ,G,D3,U,Y,h,kk⟩:=zz;exact (
  ⟨σ,G,_,U,Y,h,λd G1 v H1 q1 k1 O rd=>⟨σ,G1,_,U.mono (k1.stb Y),O,q1,λx G2 u H2 I k2 J re=>by
    cases x with
    | ref a=>
     dsimp only at I;split at I
     .rename_i C L ds hg;obtain⟨⟨hc,hl⟩,I⟩:=I;obtain⟨ho,e1,ro⟩:=J a _ hg;cases ho with
      | ins C2 dx gs=>
       obtain⟨rfl,r2,r3⟩:=ro;subst r2;have Z:=RD.mono (k2.stb O) _ _ rd;obtain⟨kp,W⟩:=zT (gs':=e8 f v gs) (L':=iD (gs.map (·.1)) f) (ds':=gC (gs.map (·.1)) ds f (val d)) J e1 xK (xL r3 Z) (by rw[hg];exact λz=>nomatch z)
       exact⟨a,_,dx,gs,re.ref,e1,(tab _ hc).1,(tab _ hc).2,by simpa using hl,kk.nx _ _ _ _ I ((k1.trans k2).trans kp) W (U.mono ((((k1.trans k2).trans kp)).stb Y))⟩
      | _=>exact ro.elim
     .exact I.elim
    | _=>exact I.elim⟩⟩)
theorem fR{pl:Sem Bool}{cs:List (MF×cR)}(tab:∀c∈cs,∃O,O<=k/\Mt3 X.prog X.w X.K X.mg X.base O c.1 m dds c.2)(hr:Room k X.A)(ho:PE X o (aB X.K to))
  (ht:eval (.Call (.Attribute o m apos) [] [] pos) X.env=(do
   let ov <- eval o X.env
   O9 apos.atName
   let (f,first) <- holding [ov] (Pd ov m pl)
   Qt pos f first (NM pos (MP [] X.env)) (O3 pos (Ot [] X.env))):=by rfl):
  PE X (.Call (.Attribute o m apos) [] [] pos) (aB X.K (eE cs m dds to au)):=by
 rintro pins s τ H Q I ⟨σ,G,Q3,rs,rg,h,kk⟩
 refine Ps (pl:=pl) (b_ (dQ ho I rs rg h) λu s1 zz=>?_) ht;obtain⟨x,H1,U,rx,d,G1,q,k1,J,rd⟩:=zz;cases d with
 | ref a=>
  simp only[val,RD]at rd;subst rd;obtain rfl:u=Value.ref a:=rx;dsimp only at q;split at q
  .rename_i C L ds hg;obtain⟨hL,sp,hc,q⟩:=q;obtain⟨O,hk,F⟩:=tab _ hc;obtain⟨f,fd,ps,ds',dvs,ok,Z,hb,hv,hd⟩:=F.ex;obtain⟨ho,e1,Y⟩:=J a _ hg;cases ho with
   | ins C2 dx gs=>
    obtain⟨rfl,r2,r3⟩:=Y;refine mJ U e1 F.cl Z (o_ (K:=X.K) r2 hL) ?_;exact PySem.W.callWith_K0 (first:=[.ref a]) U.kIn Z.kp (rD (us:=[.ref a]) (vs:=[.ref a]) ok (hr.mono hk) hb hv u0 U (.cons rfl .nil) ⟨.ref a::([] ++ dds),G1,Q3,RDs.cons fV (hd H1),J,q,kk.base k1⟩)
   | _=>exact Y.elim
  .exact q.elim
 | _=>exact q.elim
structure Cf3(P:MR)(w:M4)(K:Pj)(mg:Str->Option MC)(base:MY)(k:Nat)(x m:Str)(dds:List D)(sp:cR):Prop where
 ex:∃C f fd ps ds dvs,FnOk P w K mg base pO k f fd ps (b9 K sp)/\mg x=some (.ref C)/\QE K (.ref C) "__getattribute__"=some (some (.builtin "type.__getattribute__"))/\PySem.W.readsIn K C (.type "type")=true/\
  PySem.W.findCls K (.ref C) (.type "type") m=some (.val (.ref f))/\QG K (.ref f)=true/\eA K fd ps ds/\Vals dvs ds/\∀H,RDs K H dds dvs
theorem kW{pl:Sem Bool}{x:Str}{p:Pos}(F:Cf3 X.prog X.w X.K X.mg X.base k x m dds sp)(hr:Room k X.A)(hg:Gl X x)(ha:PA X (e::es) (dI X.K t))(hdb:(x == ("__debug__":Str))=false:=by decide)
  (O:MP (e::es) X.env=(false,eval e X.env)::MP es X.env:=by rfl) (Y:(NM pos (MP es X.env)).any (·.1)=false:=by rfl)
  (ht:eval (.Call (.Attribute (.Name x p) m apos) (e::es) [] pos) X.env=(do
   let ov <- eval (.Name x p) X.env
   O9 apos.atName
   let (f,first) <- holding [ov] (Pd ov m pl)
   Qt pos f first (NM pos (MP (e::es) X.env)) (O3 pos (Ot [] X.env))):=by rfl):
  PE X (.Call (.Attribute (.Name x p) m apos) (e::es) [] pos) (aB X.K (aK sp dds t)):=by
 obtain⟨C,f,fd,ps,ds,dvs,ok,hm,Z,U,hfc,hk,hb,hv,hd⟩:=F.ex;intro pins s τ H Q I h;refine Ps (pl:=pl) (b_ (A3 (v:=.ref C) hg hm rfl hdb pins s τ H (λv H1=>v=.ref C/\H1=H) I ⟨rfl,rfl⟩) λu s1 zz=>?_) ht;obtain⟨v,H1,I1,rx,e1,e2⟩:=zz;subst e1 e2;obtain rfl:u=Value.ref C:=rx;refine PySem.W.method_cls I1.kIn Z (PySem.W.cls_value I1.kIn U hfc rfl ?_);have I2:=I1.tok (s1.toks+1);obtain⟨σ,G,Q3,rs,rg,h,kk⟩:=h;refine Ph (first:=[]) (h₀:=X.base) I.ok.mod.kin hk (b_ (ha pos pins _ τ H1 (λvs H2=>∃ds G1,sp (ds ++ dds) G1 Q3/\Kp G H1 G1 H2/\RG X.K H2 G1/\RDs X.K H2 ds vs) I2 ⟨σ,G,_,rs,rg,h,λds G1 vs H2 q k1 J L=>⟨ds,G1,q,k1,J,L⟩⟩) λus s2 ⟨vs,H2,I3,r,ds1,G1,q2,k1,J,L⟩=>⟨I3.kIn,?_⟩) O Y
 exact rD (us:=us) (vs:=vs) ok hr hb hv u0 I3 r ⟨ds1 ++ dds,G1,Q3,L.append (hd _),J,q2,kk.base k1⟩
end
end L3
theorem L3.all_cons{α:Type}{p:α->Prop}{a:α}{l:List α}(h:p a)(t:∀x∈l,p x):∀x∈a::l,p x:=λx I=>by
 rcases NC.mp I with rfl|I
 .exact h
 .exact t x I
namespace L3
open PySem PySem.Spec PyProof.Rows L2 PySem.SeqAt PySem.W
def sL:D->Bool
 | .non=>true
 | _=>false
def LC:R3:=λx y G Q=>match y with
 | .non=>Q (.bl (sL x)) G
 | _=>False
def u6:R3:=λx y G Q=>match y with
 | .non=>Q (.bl (!sL x)) G
 | _=>False
section
variable{X:Cx}
theorem Dz{K:Pj}{I G:Gp}{H0 H:Hp}{x:D}{v:V}{u:MC}(r:RE K I H0 G H x v)(l:aF v u):(u == Value.none)=sL x:=by
 cases x with
 | non=>rw[r.non]at l;cases l;rfl
 | fl ds=>
  obtain⟨p,xs,rfl,_⟩:=r.fl;cases l;rfl
 | lst ds=>
  obtain⟨a,xs,rfl,_⟩:=r.lst;cases l;rfl
 | tup ds=>
  obtain⟨a,xs,rfl,_⟩:=r.tup;cases l;rfl
 | int i=>rw[r.int]at l;obtain⟨t,rfl⟩:=l;rfl
 | str i=>rw[r.str]at l;obtain⟨t,rfl⟩:=l;rfl
 | bl i=>rw[r.bl]at l;cases l;rfl
 | ref a=>rw[r.ref]at l;cases l;rfl
 | ty T=>
  have:=r.rd (by intro ds z;cases z)
  simp only[RD]at this;subst this;cases l;rfl
theorem CP:gM X (Nq .IsNot) (dE X.K u6):=by
 rintro pins s σ H v u W Y Q I O J ⟨x,y,G0,H0,G,Z,rx,L,U,h,k⟩
 unfold u6 at h;split at h
 .rw[L.non]at J;cases J;refine isnot_none_gen ?_;rw[Dz rx O];exact⟨.bl _,H,I,rfl,k _ G _ H h Kp.refl U (.of f_)⟩
 .exact h.elim
end
section
variable{X:Cx}{o i:M7}{to ti:bb}{pos:Pos}
theorem zY{hh:List aE->Int}(hu:X.A.units+8 < NA)(hi:PE X i (aB X.K ti))(ho:PE X o (aB X.K to))(hm:NN .In o=false:=by rfl)(eh:aJ X.prog X.w=hh:=by first|walk_at "h"|rfl):PT X (.Compare i [.In] [o] pos) (cY X.K (cW (wM hh ti to))):=by
 subst eh;refine (DL (op:=.In) (t:=aB X.K (wM (aJ X.prog X.w) ti to)) (λpins s τ H Q I ⟨σ,G,Q3,rs,rg,h,k⟩=>?_) hm).imp λτ H Q h=>vG h;refine b_ (dQ hi I rs rg h) λiv s1 O=>?_;obtain⟨iy,H1,I1,W,y,G1,q1,k1,L,Z⟩:=O;refine b_ (dQ ho I1 (rs.mono (k1.stb rg)) L q1) λov s2 O=>?_;obtain⟨ox,H2,I2,U,x,G2,q2,k2,J,Y⟩:=O;obtain⟨r,l,q2⟩:=q2;exact Hq (by omega) I2 J l Y U (RD.mono (k2.stb L) _ _ Z) W λs3 I3=>⟨.bl r.isSome,H2,I3,rfl,k _ G2 _ H2 q2 (k1.trans k2) J (.of f_)⟩
theorem u4{hh:List aE->Int}(hu:X.A.units+8 < NA)(hi:PE X i (aB X.K ti))(ho:PE X o (aB X.K to))(hm:NN .NotIn o=false:=by rfl)(eh:aJ X.prog X.w=hh:=by first|walk_at "h"|rfl):PT X (.Compare i [.NotIn] [o] pos) (cY X.K (cW (k_ hh ti to))):=by
 subst eh;refine (DL (op:=.NotIn) (t:=aB X.K (k_ (aJ X.prog X.w) ti to)) (λpins s τ H Q I ⟨σ,G,Q3,rs,rg,h,k⟩=>?_) hm).imp λτ H Q h=>vG h;refine b_ (dQ hi I rs rg h) λiv s1 O=>?_;obtain⟨iy,H1,I1,W,y,G1,q1,k1,L,Z⟩:=O;refine b_ (dQ ho I1 (rs.mono (k1.stb rg)) L q1) λov s2 O=>?_;obtain⟨ox,H2,I2,U,x,G2,q2,k2,J,Y⟩:=O;obtain⟨r,l,q2⟩:=q2;exact EM (by omega) I2 J l Y U (RD.mono (k2.stb L) _ _ Z) W λs3 I3=>⟨.bl (!r.isSome),H2,I3,rfl,k _ G2 _ H2 q2 (k1.trans k2) J (.of f_)⟩
end
def Aw(hw:List aE->Int)(tk tv:bb):bb:=λσ G Q=>∀p,G p=none->tk σ (gset G p (.dT hw [])) λx G1=>tv σ G1 λy G2=>match G2 p with
 | some (.dT I [])=>I=hw/\∃J,mI (val x)=some J/\Q (.ref p) (gset G2 p (.dT hw [(J,val y)]))
 | _=>False
section
variable{X:Cx}{pos:Pos}
theorem F3{hh:List aE->Int}{k v:M7}{tk tv:bb}(hu:X.A.units+8 < NA)(hk:PE X k (aB X.K tk))(hv:PE X v (aB X.K tv))(eh:aJ X.prog X.w=hh:=by first|walk_at "h"|rfl):PE X (.Dict [some k] [v] pos) (aB X.K (Aw hh tk tv)):=by
 subst eh
 rintro pins s τ H Q I ⟨σ,G,Q3,rs,W,h,kk⟩
 have hf:H s.heap.objs.size=none:=I.hok.fresh (le_refl _);obtain⟨kp,rg2⟩:=Gx (o:=.dT (aJ X.prog X.w) []) (ho:=.ext (xj (aJ X.prog X.w) s.heap.objs.size [])) W hf λH' _=>⟨[],rfl,.nil,QF,NH _⟩;have hd:(s.heap.objs.size == NG)=false:=beq_eq_false_iff_ne.mpr (Ne.symm (M6 I.big));have I1:=I.laid (a:=s.heap.objs.size) (t':=s.toks) (λ_ _ q=>ME _ q) (le_refl _) (pG (P:=X.prog) (w:=X.w) (hw:=aJ X.prog X.w) (xs:=[]) ⟨hd,_,#[],0,MM (h:=s.heap) (o:={ cls:=.type "dict",data:=.dict #[] }) rfl,⟨rfl,rfl,rfl⟩,rfl,rfl⟩);refine wpAny_Dict_any (by rfl) (by rfl) (by simp) (by simp) ?_
 refine pairTrees_cons_walk (b_ (dQ hk I1 (rs.mono (kp.stb W)) rg2 (h _ (W.free hf))) λkv s1 Y=>?_);obtain⟨ox,H1,I2,rox,x,G1,q1,k1,L,rd1⟩:=Y;refine b_ (dQ hv I2 (rs.mono ((kp.trans k1).stb W)) L q1) λvv s2 Y=>?_;obtain⟨oy,H2,I3,Z,y,G2,O,k2,J,rd2⟩:=Y;refine pairTrees_nil_walk ?_;unfold storeAll;rw[Qk];split at O
 .rename_i hw' hg;obtain⟨rfl,U,hks,O⟩:=O;have TR:=RD.mono (k2.stb L) _ _ rd1;obtain⟨b,rfl,sq⟩:=nX hks TR;cases rox;obtain⟨ho,e,r⟩:=J _ _ hg;cases ho with
  | ext φ=>
   obtain⟨xs,rfl,rt,nd,_⟩:=r;have e0:xs=[]:=by
    have:=rt.length;exact List.length_eq_zero_iff.mp this.symm
   subst e0;obtain⟨hd2,dd⟩:=qQ I3 e rt nd;refine MB (MB (RT (hsz:=NH _) (show X.A.units < NA by omega) (key_at I3 sq) dd λh' dd' hs=>MG ?_))
   dsimp only;rw[List.forIn_nil];refine MG ?_;obtain⟨q,es,ep,hq,h2,h3,h4,_,h5⟩:=dd';obtain⟨kp3,rg3⟩:=wH (a:=s.heap.objs.size) (o:=.dT (aJ X.prog X.w) (aT [] U (val y))) (ho:=.ext (xj (aJ X.prog X.w) s.heap.objs.size (P9 [] U b vv))) J (by rw[hg];exact λz=>nomatch z)
    λH' st=>⟨_,rfl,(rt.put U sq rd2 Z).mono st,mz U (val y) nd,by have:=eQ ([]:List (List aE×D)) U (val y);have hs:=aj;simp only[Np]at this;omega⟩
   exact⟨.ref _,_,qS I3 (by rw[e];exact True.intro) hs ⟨q,hq⟩ (pG ⟨hd2,q,es,ep,hq,h2,h3,h4⟩),rfl,kk _ _ _ _ O (kp.trans (k1.trans (k2.trans kp3))) rg3 (.of fV)⟩
  | _=>exact r.elim
 .exact O.elim
end
def Eu(x:D):List D->Nat
 | []=>0
 | d::r=>if eK d x then 0 else Eu x r+1
def IX(to:bb)(ta:lF):bb:=λσ G Q=>to σ G λx G1=>match x with
 | .lst ds=>ta σ G1 λes G2=>match es with
  | [y]=>(pl 7 y/\(∀d∈ds,pl 7 d)/\y∈ds)/\Q (.int (Eu y ds)) G2
  | _=>False
 | _=>False
def IW(sp:cR)(to:bb):bb:=λσ G Q=>to σ G λx G1=>match w_ G1 (val x) with
 | some ds=>∃I r,SortBy sp G1 ds I r/\∀p:List Nat,p.Perm (List.range ds.length)->(p.map r).Pairwise (·<=·)->Q (.fl (p.map λi=>ds.getD i .non)) G1
 | none=>False
section
variable{X:Cx}{pins:List (MF×Obj)}{τ:St}{H H0:Hp}{s:MD}{G:Gp}{E:MC->MD->Prop}
 {k:Nat} {f:MF} {fd:NL} {ps:List Str} {sp:cR} {ds ks:List D} {r:Nat->Nat} {vs:List V} {us:List MC}
end
def tm(c:Bool):Nat:=if c then 31 else 7
def Tb(c:Bool)(pl:Array Nat)(led plain:Bool):Ry:={ mask:=tm c,place:=pl,dummies:=#[],finger:=0,led:=led,moves:=if c then 1 else 0,plain:=plain }
abbrev Pb:=SetTable.Probe
noncomputable def look(c:Bool)(pl:Array Nat)(hs:Nat->Int)(same:Nat->Bool)(h:Int):Nat->Pb->Option (Option Nat)
 | 0,_=>none
 | f+1,p=>match (Tb c pl false false).probe hs h p with
  | none=>none
  | some (.empty j _)=>some (some j)
  | some (.candidate _ i next)=>if same i then some none else look c pl hs same h f next
def JR(es:Array (Int×MC))(ep:Nat)(t:Ry):Obj:={ cls:=.type "set",dict:=none,data:=.set es ep t }
def tD(h:MY)(b:MF):Prop:=∃o items n x t r,h.get? b=some o/\o.cls=.type "tuple"/\o.data=.seq items n/\items.toList=.str x t::r
section
variable{prog:MR}{w:M4}{κ:Type}[DecidableEq κ]{kn:KeyKind prog w κ}{A:MS}{E:MC->MD->Prop}{s:MD}{a b:MF}
noncomputable abbrev hK(kn:KeyKind prog w κ):List κ->Int:=tupleKeyHash kn
def LN(kn:KeyKind prog w κ)(xs:List (List κ×MF)):Array (Int×MC):=(xs.map λx=>(hK kn x.1,Value.ref x.2)).toArray
end
section
variable{prog:MR}{w:M4}{κ:Type}[DecidableEq κ]{kn:KeyKind prog w κ}{A:MS}{E:MC->MD->Prop}{s:MD}{a b:MF}
structure SetIs(kn:KeyKind prog w κ)(h:MY)(a:MF)(xs:List (List κ×MF))(c:Bool)(pl:Array Nat)(l q:Bool):Prop where
 here:∃ep,h.get? a=some (JR (LN kn xs) ep (Tb c pl l q))
 len:pl.size=xs.length
 pq:q=true->xs=[]
end
section
variable{prog:MR}{w:M4}{κ:Type}[DecidableEq κ]{kn:KeyKind prog w κ}{A:MS}{E:MC->MD->Prop}{s:MD}{a b:MF}
theorem tD.stay{h h':MY}(x:tD h a)(e:∀o,h.get? a=some o->h'.get? a=some o):tD h' a:=by
 obtain⟨o,I,n,y,t,r,J,z⟩:=x;exact⟨o,I,n,y,t,r,e o J,z⟩
theorem SetIs.stay{h h':MY}{xs:List (List κ×MF)}{c:Bool}{pl:Array Nat}{l q:Bool}(x:SetIs kn h a xs c pl l q)(e:∀o,h.get? a=some o->h'.get? a=some o):SetIs kn h' a xs c pl l q:=
 ⟨let ⟨ep,z⟩:=x.here;⟨ep,e _ z⟩,x.len,x.pq⟩
end
set_option maxRecDepth 100000
noncomputable def Mt(first:MC)(i n ep:Nat)(S:MF):Obj:={ cls:=.type "set_iterator",data:=.fields #[first,.int i 0,.ref S,.int n 0,.int ep 0] }
inductive Mode(w:M4)(h:MY)(S:MF)(es:Array (Int×MC))(ep:Nat)(t:Ry)(vs:List MC)(tp:MF)(i:Nat):MC->Prop
 | text (m:Int):w.params.followText "set-order"=true->vs=(pickOrder (w.params.setOrder S ep) es).toList.map (·.2)->Mode w h S es ep t vs tp i (.int m 0)
 | few (m:Nat):w.params.followText "set-order"=false->t.led=true->es.size<=1->vs=es.toList.map (·.2)->(i=0/\m=0\/i=1/\t.place=#[m - 1]/\0 < m)->Mode w h S es ep t vs tp i (.int m 0)
 | drawn (ys:List Nat):w.params.followText "set-order"=false->h.get? tp=some { cls:=.type "tuple",data:=.seq (ys.map λ(y:Nat)=>Ob y).toArray }->ys.Perm (List.range es.size)->vs=ys.map (λy=>(es[y]?.map (·.2)).getD .none)->tp≠S->Mode w h S es ep t vs tp i (.ref tp)
structure SIt(w:M4)(h:MY)(it S:MF)(es:Array (Int×MC))(ep:Nat)(t:Ry)(vs:List MC)(tp:MF)(i:Nat):Prop where
 set:h.get? S=some (JR es ep t)
 fit:t.fits es.size=true
 here:∃first,h.get? it=some (Mt first i es.size ep S)/\Mode w h S es ep t vs tp i first
set_option maxRecDepth 100000
set_option maxRecDepth 100000
set_option maxRecDepth 100000
def prD(x:Str×Int):D:=.tup [.str x.1,.int x.2]
noncomputable def J3(a b:Str×Int):Bool:=if a.1=b.1 then decide (a.2 < b.2)else decide (a.1.cps.toList < b.1.cps.toList)
theorem vI:STO (λa b:List Nat=>decide (a < b)):=by
 have e:(λa b:List Nat=>decide (a < b))=su wx:=by funext a b;exact (nP a b).symm
 rw[e];exact wA ww
theorem Ic:STO J3 where
 irrefl:=λa=>by simp[J3]
 trans:=λa b c h1 h2=>by
  unfold J3 at *
  by_cases I:a.1=b.1
  .rw[if_pos I]at h1
   by_cases p2:b.1=c.1
   .rw[if_pos p2]at h2;rw[if_pos (I.trans p2)];simp only[decide_eq_true_eq]at *
    omega
   .rw[if_neg p2]at h2;rw[I,if_neg p2];exact h2
  .rw[if_neg I]at h1
   by_cases p2:b.1=c.1
   .rw[<- p2,if_neg I];exact h1
   .rw[if_neg p2]at h2;have J:=vI.trans _ _ _ h1 h2;rw[if_neg (λe=>by rw[e,vI.irrefl]at J;cases J)]
    exact J
 tot:=λa b h1 h2=>by
  unfold J3 at *
  by_cases I:a.1=b.1
  .rw[if_pos I]at h1;rw[if_pos I.symm]at h2;simp only[decide_eq_false_iff_not]at *
   exact Prod.ext I (by omega)
  .rw[if_neg I]at h1;rw[if_neg (Ne.symm I)]at h2;have e:a.1.cps=b.1.cps:=Array.toList_inj.mp (vI.tot _ _ h1 h2);refine absurd ?_ I;cases h:a.1;cases h':b.1;rw[h,h']at e;simp only at e;rw[e]
def Srt(l:List (Str×Int)):Prop:=l.Pairwise λa b=>J3 b a=false
theorem srt_uniq:∀{L M:List (Str×Int)},L.Perm M->Srt L->Srt M->L=M
 | [],M,p,_,_=>(List.nil_perm.mp p).symm
 | a::L,[],p,_,_=>absurd p.length_eq (by simp)
 | a::L,b::M,p,h1,h2=>by
  unfold Srt at h1 h2;rw[List.pairwise_cons]at h1 h2;have e:a=b:=by
   rcases NC.mp (p.mem_iff.mp MW)with e|J
   .exact e
   .rcases NC.mp (p.mem_iff.mpr MW)with e|I
    .exact e.symm
    .exact Ic.tot _ _ (h2.1 a J) (h1.1 b I)
  subst e;rw[srt_uniq ((List.perm_cons a).mp p) h1.2 h2.2]
structure InsAsk(K:Pj)(C:MF):Prop where
 cl:Cls K C
 ca:Ql K (.ref C) "__class__"=some (some (.builtin "object.__class__"))
 gs:QE K (.builtin "object.__class__") "__get__"=some (some (.builtin "getset_descriptor.__get__"))
 tk:Uf K (.builtin "object.__class__")=some true
 mo:T_ K C (.type "object")=some true
def wX(I:List (MF×Bool))(c:MF):AF:=λds G Q=>match ds with
 | [.ref a,.ref J]=>J=c/\match G a with
  | some (.ins C _ _)=>∃b,(C,b)∈I/\Q (.bl b) G
  | _=>False
 | _=>False
theorem wj{X:Cx}{nm:Str}{C:MF}{pos:Pos}(J:Gl X nm)(I:X.mg nm=some (.ref C))(hd:(nm == ("__debug__":Str))=false:=by decide):PE X (.Name nm pos) (aB X.K (eC (.ref C))):=wf (v:=.ref C) J I rfl (λ_=>by simp only[RD]) hd
theorem Bn{X:Cx}{cs:List (MF×Bool)}{c:MF}(tab:∀p∈cs,InsAsk X.K p.1/\ST X.K (.ref p.1) (.ref c)=some p.2):dj X (.builtin "isinstance") (kt X.K (wX cs c)):=by
 rintro pins s σ H vs us Q I rv ⟨ds,G,Q3,U,Y,h,kk⟩
 unfold wX at h;split at h
 .rename_i a c';obtain⟨rfl,h⟩:=h;split at h
  .rename_i C L es hg;obtain⟨b,hb,hq⟩:=h;obtain⟨v,t,e,h1,h2⟩:=U.inv_cons;obtain⟨u2,e2,Z⟩:=dH h2;simp only[RD]at h1 Z;subst e e2 h1 Z;obtain⟨u,w',rfl,ru,O⟩:=CZ rv;cases ru;cases O;obtain⟨ho,e1,W⟩:=Y a _ hg;cases ho with
   | ins C2 dx gs=>
    obtain⟨rfl,r2,r3⟩:=W;obtain⟨J,t2⟩:=tab _ hb;exact Cb (x:=V.ref a) I rfl (TyOf.ins e1 J.cl J.ca J.gs J.tk J.mo) t2 λtk=>⟨.bl _,H,I.tok tk,rfl,kk _ G _ H hq Kp.refl Y (.of f_)⟩
   | _=>exact W.elim
  .exact h.elim
 .exact h.elim
end L3
namespace RQ
open PySem PySem.Spec PyProof.Rows L2 L3
structure Rw where
 pen:Str
 num:Int
 time:Int
 act:D
instance:Inhabited Rw:=⟨⟨"",0,0,.non⟩⟩
def Rw.d(r:Rw):D:=.tup [.tup [.str r.pen,.int r.num],.int r.time,r.act]
def Rw.key(r:Rw):D:=.tup [.int r.time,.tup [.str r.pen,.int r.num]]
def Rw.ok(r:Rw):Prop:=pl 4 r.act
noncomputable def Rw.lt(a b:Rw):Bool:=if a.time=b.time then (if a.pen=b.pen then decide (a.num < b.num)else decide (a.pen.cps.toList < b.pen.cps.toList))else decide (a.time < b.time)
def fE(rs:List Rw):Prop:=rs.Pairwise λa b=>a.lt b=true
def g6(a b:Rw):Prop:=¬ (a.pen=b.pen/\a.num=b.num)
def je(rs:List Rw):Prop:=∀a∈rs,∀b∈rs,a.pen=b.pen->a.num=b.num->a=b
abbrev HW:=List aE->Int
open PySem.W (SWO STO su wx ww wA nP rankIn rank_lt)
theorem wR:STO (λa b:List Nat=>decide (a < b)):=by
 have e:(λa b:List Nat=>decide (a < b))=su wx:=by funext a b;exact (nP a b).symm
 rw[e];exact wA ww
theorem GI{x y:Str}(h:x.cps.toList=y.cps.toList):x=y:=by
 cases x;cases y;simp only at h;rw[Array.toList_inj.mp h]
theorem lt_irrefl(a:Rw):a.lt a=false:=by simp[Rw.lt]
theorem lt_trans(a b c:Rw)(h1:a.lt b=true)(h2:b.lt c=true):a.lt c=true:=by
 unfold Rw.lt at *
 by_cases L:a.time=b.time
 .rw[if_pos L]at h1
  by_cases I:b.time=c.time
  .rw[if_pos I]at h2;rw[if_pos (L.trans I)]
   by_cases J:a.pen=b.pen
   .rw[if_pos J]at h1
    by_cases p2:b.pen=c.pen
    .rw[if_pos p2]at h2;rw[if_pos (J.trans p2)];simp only[decide_eq_true_eq]at *
     omega
    .rw[if_neg p2]at h2;rw[J,if_neg p2];exact h2
   .rw[if_neg J]at h1
    by_cases p2:b.pen=c.pen
    .rw[<- p2,if_neg J];exact h1
    .rw[if_neg p2]at h2;have O:=wR.trans _ _ _ h1 h2;rw[if_neg (λe=>by rw[e,wR.irrefl]at O;cases O)]
     exact O
  .rw[if_neg I]at h2;rw[L,if_neg I];exact h2
 .rw[if_neg L]at h1
  by_cases I:b.time=c.time
  .rw[<- I,if_neg L];exact h1
  .rw[if_neg I]at h2;simp only[decide_eq_true_eq]at *
   rw[if_neg (by omega)]
   simp only[decide_eq_true_eq];omega
theorem Ei(a b:Rw)(h1:a.lt b=false)(h2:b.lt a=false):a.pen=b.pen/\a.num=b.num/\a.time=b.time:=by
 unfold Rw.lt at *
 by_cases J:a.time=b.time
 .rw[if_pos J]at h1;rw[if_pos J.symm]at h2
  by_cases I:a.pen=b.pen
  .rw[if_pos I]at h1;rw[if_pos I.symm]at h2;simp only[decide_eq_false_iff_not]at *
   exact⟨I,by omega,J⟩
  .rw[if_neg I]at h1;rw[if_neg (Ne.symm I)]at h2;exact absurd (GI (wR.tot _ _ h1 h2)) I
 .rw[if_neg J]at h1;rw[if_neg (Ne.symm J)]at h2;simp only[decide_eq_false_iff_not]at *
  omega
theorem Ej{a b:Rw}(h:a.lt b=true):b.lt a=false:=by
 cases e:b.lt a with
 | false=>rfl
 | true=>have:=lt_trans _ _ _ h e;rw[lt_irrefl]at this;cases this
theorem Gj{a b c:Rw}(p:a.pen=b.pen)(n:a.num=b.num)(t:a.time=b.time):a.lt c=b.lt c/\c.lt a=c.lt b:=by
 unfold Rw.lt;rw[p,n,t];exact⟨rfl,rfl⟩
theorem Dr:SWO Rw.lt where
 irrefl:=lt_irrefl
 trans:=lt_trans
 neg:=λa b c h=>by
  cases e:a.lt b with
  | true=>exact .inl rfl
  | false=>
   cases J:b.lt c with
   | true=>exact .inr rfl
   | false=>
    cases I:b.lt a with
    | true=>have:=lt_trans _ _ _ I h;rw[J]at this;cases this
    | false=>
     obtain⟨p,n,t⟩:=Ei a b e I;rw[(Gj (c:=c) p n t).1,J]at h;cases h
theorem g_:∀{xs ys:List Rw},fE xs->fE ys->(∀r,r∈xs↔r∈ys)->xs=ys
 | [],ys,_,_,h=>by
  cases ys with
  | nil=>rfl
  | cons y t=>have:=(h y).mpr MW;simp at this
 | x::xs,[],_,_,h=>by have:=(h x).mp MW;simp at this
 | x::xs,y::ys,h1,h2,h=>by
  unfold fE at h1 h2;rw[List.pairwise_cons]at h1 h2;have J:x=y:=by
   rcases NC.mp ((h x).mp MW)with e|U
   .exact e
   .rcases NC.mp ((h y).mpr MW)with e|O
    .exact e.symm
    .have a1:=h2.1 x U;have a2:=h1.1 y O;rw[Ej a1]at a2;cases a2
  subst J;have nx:x∉xs:=λm=>by have:=h1.1 x m;rw[lt_irrefl]at this;cases this
  have L:x∉ys:=λm=>by have:=h2.1 x m;rw[lt_irrefl]at this;cases this
  rw[g_ h1.2 h2.2 λr=>⟨λm=>?_,λm=>?_⟩]
  .rcases NC.mp ((h r).mp (MQ _ m))with e|I
   .subst e;exact absurd m nx
   .exact I
  .rcases NC.mp ((h r).mpr (MQ _ m))with e|I
   .subst e;exact absurd m L
   .exact I
theorem eX{xs:List Rw}(h:fE xs):xs.Nodup:=List.Pairwise.imp (λ{a b} q e=>by subst e;rw[lt_irrefl]at q;cases q) h
theorem qm{xs:List Rw}(h:xs.Pairwise g6):xs.Nodup:=List.Pairwise.imp (λ{a b} q e=>by subst e;exact q ⟨rfl,rfl⟩) h
open Classical in
theorem fT:∀{xs ys:List Rw},xs.Nodup->(∀r∈xs,r∈ys)->xs.length<=ys.length
 | [],_,_,_=>NH _
 | x::xs,ys,h,s=>by
  rw[Oj]at h;have I:=s x MW;have:=fT (ys:=ys.erase x) h.2 λr J=>(List.mem_erase_of_ne (λe=>by subst e;exact h.1 J)).mpr (s r (MQ _ J))
  rw[List.length_erase_of_mem I]at this;have L:0 < ys.length:=List.length_pos_of_mem I;rw[MU];omega
theorem vz{rs:List Rw}(h:rs.Pairwise g6):je rs:=by
 induction h with
 | nil=>intro a J;simp at J
 | @cons x xs h1 h2 L=>
  intro a J b I p n;rcases NC.mp J with e|J
  .rcases NC.mp I with O|I
   .rw[e,O]
   .rw[e]at p n;exact absurd ⟨p,n⟩ (h1 b I)
  .rcases NC.mp I with e|I
   .rw[e]at p n;exact absurd ⟨p.symm,n.symm⟩ (h1 a J)
   .exact L a J b I p n
theorem II(a b:Rw):lu 4 a.key b.key=a.lt b:=by
 show dJ (lu 3) [.int a.time,.tup [.str a.pen,.int a.num]] [.int b.time,.tup [.str b.pen,.int b.num]]=_
 unfold Rw.lt
 by_cases e:a.time=b.time
 .rw[if_pos e];have h1:eK (.int a.time) (.int b.time)=true:=by rw[e];exact bo _
  rw[show dJ (lu 3) [.int a.time,.tup [.str a.pen,.int a.num]] [.int b.time,.tup [.str b.pen,.int b.num]]=dJ (lu 3) [.tup [.str a.pen,.int a.num]] [.tup [.str b.pen,.int b.num]]by simp[dJ,h1]]
  have inner:lu 3 (.tup [.str a.pen,.int a.num]) (.tup [.str b.pen,.int b.num])=if a.pen=b.pen then decide (a.num < b.num)else decide (a.pen.cps.toList < b.pen.cps.toList):=by
   show dJ (lu 2) [.str a.pen,.int a.num] [.str b.pen,.int b.num]=_
   by_cases p:a.pen=b.pen
   .have h2:eK (.str a.pen) (.str b.pen)=true:=by rw[p];exact bo _
    rw[if_pos p]
    by_cases n:a.num=b.num
    .have I:eK (.int a.num) (.int b.num)=true:=by rw[n];exact bo _
     simp[dJ,h2,n,bo]
    .have I:eK (.int a.num) (.int b.num)=false:=bC (by simpa using n)
     simp[dJ,h2,I,lu]
   .have h2:eK (.str a.pen) (.str b.pen)=false:=bC (by simpa using p)
    rw[if_neg p];simp[dJ,h2,lu]
  by_cases t:(D.tup [.str a.pen,.int a.num])=.tup [.str b.pen,.int b.num]
  .have h2:=EJ t;simp only[D.tup.injEq,List.cons.injEq,D.str.injEq,D.int.injEq,and_true]at t;simp[dJ,t.1,t.2,bo]
  .rw[<- inner];simp[dJ,bC t]
 .rw[if_neg e];have h1:eK (.int a.time) (.int b.time)=false:=bC (by simpa using e)
  simp[dJ,h1,lu]
theorem IL(a b:Rw):EN 4 a.key b.key:=by
 refine⟨⟨trivial,trivial⟩,λ_=>trivial,⟨λd hd=>?_,λd hd=>?_⟩,λ_=>?_,trivial⟩
 .simp only[NC,NP,or_false]at hd;rcases hd with rfl|rfl<;>trivial
 .simp only[NC,NP,or_false]at hd;rcases hd with rfl|rfl<;>trivial
 .exact⟨⟨trivial,trivial⟩,λ_=>trivial,⟨trivial,trivial⟩,λ_=>trivial,trivial⟩
def p9(r:Rw):List aE:=[.inr r.pen,.inl r.num]
def pj(r:Rw):List aE×D:=(p9 r,r.d)
theorem u8{a b:Rw}:p9 a=p9 b↔a.pen=b.pen/\a.num=b.num:=by
 simp[p9]
theorem H_{vs:List Rw}{r:Rw}(h:r∈vs)(o:∀a∈vs,a.pen=r.pen->a.num=r.num->a=r):aT (vs.map pj) (p9 r) r.d=vs.map pj:=by
 unfold aT;rw[if_pos (by rw[List.any_eq_true];exact⟨pj r,List.mem_map_of_mem h,decide_eq_true rfl⟩),Nr]
 refine Om λa I=>?_;simp only[Function.comp_apply];split
 .rename_i e;obtain⟨p,n⟩:=u8.mp e;have:=o a I p n;subst this;rfl
 .rfl
theorem put_new{vs:List Rw}{r:Rw}(h:∀a∈vs,g6 a r):aT (vs.map pj) (p9 r) r.d=(vs ++ [r]).map pj:=by
 unfold aT;rw[if_neg]
 .rw[No];rfl
 .rw[Bool.not_eq_true,List.any_eq_false];intro L I;obtain⟨a,J,rfl⟩:=mem_map.mp I;simp only[decide_eq_true_eq];intro e;exact h a J (u8.mp e)
theorem Dh{vs:List Rw}(U:vs.Pairwise g6){p:List Nat}(O:p.Perm (List.range vs.length))(hs:(p.map λi=>rankIn Rw.lt vs (vs.getD i default)).Pairwise (·<=·)):
  fE (p.map λi=>vs.getD i default)/\∀r,r∈(p.map λi=>vs.getD i default)↔r∈vs:=by
 have inr:∀i∈p,i < vs.length:=λi hi=>mem_range.mp (O.mem_iff.mp hi);have gm:∀i,i < vs.length->vs.getD i default∈vs:=λi hi=>by rw[MX,MO hi];exact OQ hi
 constructor
 .unfold fE;rw[O_]at hs ⊢;have nd:p.Nodup:=O.nodup_iff.mpr List.nodup_range;refine (hs.and nd).imp_of_mem λ{i j} hi Y h=>?_;have L:=inr i hi;have I:=inr j Y;have J:(vs.getD j default).lt (vs.getD i default)=false:=by
   rw[rank_lt Dr (gm j I),decide_eq_false_iff_not,not_lt];exact h.1
  cases e:(vs.getD i default).lt (vs.getD j default) with
  | true=>rfl
  | false=>
   obtain⟨pp,W,_⟩:=Ei _ _ e J;have ap:g6 (vs.getD i default) (vs.getD j default):=by
    rw[MX,MX,MO L,MO I];rcases Nat.lt_or_gt_of_ne h.2 with l|l
    .exact List.pairwise_iff_getElem.mp U i j L I l
    .exact λz=>List.pairwise_iff_getElem.mp U j i I L l ⟨z.1.symm,z.2.symm⟩
   exact absurd ⟨pp,W⟩ ap
 .intro r;have e:((List.range vs.length).map λi=>vs.getD i default)=vs:=L3.range_getD vs default;have q:=O.map λi=>vs.getD i default;rw[e]at q;exact q.mem_iff
theorem cw{κ:Type}[DecidableEq κ](k I:κ)(v:D):∀ν:List (κ×D),cx (aT ν k v) I=if I=k then some v else cx ν I:=by
 have go:∀ν:List (κ×D),(ν.any λJ=>decide (J.1=k))=true->cx (ν.map λJ=>if J.1=k then (J.1,v)else J) I=if I=k then some v else cx ν I:=by
  intro ν
  induction ν with
  | nil=>intro h;simp at h
  | cons p r Y=>
   intro h
   by_cases e:p.1=k
   .by_cases L:I=k
    .rw[if_pos L];simp[cx,Nj,e,L]
    .rw[if_neg L];have U:¬ k=I:=λz=>L z.symm;have skip:∀q:List (κ×D),cx (((p.1,v):κ×D)::q) I=cx q I:=λq=>by simp[cx,Nj,e,U]
     have Tt:cx (p::r) I=cx r I:=by simp[cx,Nj,e,U]
     rw[M5,if_pos e,skip,Tt]
     by_cases O:(r.any λJ=>decide (J.1=k))=true
     .have:=Y O;rw[if_neg L]at this;exact this
     .have:r.map (λJ=>if J.1=k then (J.1,v)else J)=r:=by
       rw[Bool.not_eq_true,List.any_eq_false]at O
       conv=>rhs;rw[<- List.map_id r]
       refine Om λa Z=>?_;have:=O a Z;simp only[decide_eq_true_eq]at this;rw[if_neg this];rfl
      rw[this]
   .have O:(r.any λJ=>decide (J.1=k))=true:=by simpa[e]using h
    rw[M5,if_neg e]
    by_cases W:p.1=I
    .have U:¬ I=k:=λz=>e (W.trans z);rw[if_neg U];simp[cx,Nj,W]
    .have s1:∀q:List (κ×D),cx (p::q) I=cx q I:=λq=>by simp[cx,Nj,W]
     rw[s1,s1];exact Y O
 intro ν;unfold aT
 by_cases h:(ν.any λJ=>decide (J.1=k))=true
 .rw[if_pos h];exact go ν h
 .rw[if_neg h]
  by_cases L:I=k
  .rw[if_pos L];subst L;have hn:cx ν I=none:=by
    have:=oo I ν;rw[Bool.not_eq_true]at h;rw[h]at this;cases q:cx ν I with
    | none=>rfl
    | some _=>rw[q]at this;cases this
   unfold cx at hn ⊢;rw[List.find?_append];cases q:ν.find? λJ=>decide (J.1=I) with
   | none=>simp
   | some z=>rw[q]at hn;cases hn
  .rw[if_neg L];unfold cx;rw[List.find?_append];cases q:ν.find? λJ=>decide (J.1=I) with
   | none=>simp;exact λz=>L z.symm
   | some z=>rfl
structure Sl where
 pen:Str
 n:Int
 k:Int
deriving DecidableEq
instance:Inhabited Sl:=⟨⟨"",0,0⟩⟩
noncomputable def Sl.d(s:Sl):D:=.tup [.str s.pen,.int s.n,.int s.k]
noncomputable def Sl.key(s:Sl):List aE:=[.inr s.pen,.inl s.n,.inl s.k]
theorem Sl.key_inj{a b:Sl}(h:a.key=b.key):a=b:=by
 obtain⟨a1,a2,a3⟩:=a;obtain⟨L,J,I⟩:=b;simp only[Sl.key,List.cons.injEq,Sum.inr.injEq,Sum.inl.injEq,and_true]at h;obtain⟨rfl,rfl,rfl⟩:=h;rfl
theorem Sl.d_inj{a b:Sl}(h:a.d=b.d):a=b:=by
 obtain⟨a1,a2,a3⟩:=a;obtain⟨L,J,I⟩:=b;simp only[Sl.d,D.tup.injEq,List.cons.injEq,D.str.injEq,D.int.injEq,and_true]at h;obtain⟨rfl,rfl,rfl⟩:=h;rfl
theorem wF(s:Sl):mI s.d=some s.key:=rfl
noncomputable def aD:Sl:=⟨MI "",0,0⟩
inductive Act where
 | put (a:Sl) (x:Str)
 | strike (ns:List Sl)
 | dress (ns:List Sl) (w:Str)
 | move (ns:List Sl) (a:Sl)
def Act.d:Act->D
 | .put a x=>.tup [.str "put",a.d,.str x]
 | .strike ns=>.tup [.str "strike",.tup (ns.map Sl.d)]
 | .dress ns w=>.tup [.str "dress",.tup (ns.map Sl.d),.str w]
 | .move ns a=>.tup [.str "move",.tup (ns.map Sl.d),a.d]
def Act.many:Act->Nat
 | .put _ x=>x.length
 | .move ns _=>ns.length
 | _=>0
def Act.anch:Act->Sl
 | .put a _=>a
 | .move _ a=>a
 | _=>aD
structure Sk where
 pen:Str
 num:Int
 time:Int
 act:Act
instance:Inhabited Sk:=⟨⟨"",0,0,.strike []⟩⟩
def Sk.rw(s:Sk):Rw:=⟨s.pen,s.num,s.time,s.act.d⟩
def Sk.d(s:Sk):D:=.tup [.tup [.str s.pen,.int s.num],.int s.time,s.act.d]
def Sk.ok(s:Sk):Prop:=1<=s.num/\s.act.many<=1000
noncomputable def bJ(pen:Str)(n:Int)(m:Nat):List Sl:=(List.range m).map λ(k:Nat)=>⟨pen,n,(k:Int)+1⟩
def made(s:Sk):List Sl:=bJ s.pen s.num s.act.many
def fi(m:Nat):List Sl:=bJ (MI "") 0 m
theorem b8(p:Str)(n:Int)(m:Nat):(bJ p n m).length=m:=by simp[bJ]
theorem dU(p:Str)(n:Int)(m:Nat):(bJ p n m).Nodup:=by
 unfold bJ List.Nodup;rw[O_];refine List.Pairwise.imp ?_ (List.nodup_range (n:=m));intro a b h e;injection e with L J I
 exact h (by omega)
theorem cI{p:Str}{n:Int}{m:Nat}{x:Sl}(h:x∈bJ p n m):x.pen=p/\x.n=n/\1<=x.k:=by
 unfold bJ at h;obtain⟨k,_,rfl⟩:=mem_map.mp h;exact⟨rfl,rfl,by show 1<=(k:Int)+1;omega⟩
def CK:List Sl->D
 | []=>.non
 | s::_=>s.d
def nx:List Sl->Sl->D
 | [],_=>.non
 | a::t,c=>if a=c then CK t else nx t c
noncomputable def jK:List Sl->Sl->Sl->List Sl
 | [],_,_=>[]
 | a::t,b,x=>if a=b then a::x::t else a::jK t b x
def bq:List Sl->Sl->List Sl->List Sl
 | W,_,[]=>W
 | W,b,x::t=>bq (jK W b x) x t
theorem dY{W:List Sl}{b x:Sl}(J:b∈W):∀c,c∈jK W b x↔c∈W\/c=x:=by
 induction W with
 | nil=>simp at J
 | cons a t L=>
  intro c;unfold jK
  by_cases e:a=b
  .rw[if_pos e];simp only[NC];constructor
   .rintro (h|h|h)
    .exact .inl (.inl h)
    .exact .inr h
    .exact .inl (.inr h)
   .rintro ((h|h)|h)
    .exact .inl h
    .exact .inr (.inr h)
    .exact .inr (.inl h)
  .rw[if_neg e];have I:b∈t:=by
    rcases NC.mp J with z|z
    .exact absurd z.symm e
    .exact z
   simp only[NC,L I c];constructor
   .rintro (h|h|h)
    .exact .inl (.inl h)
    .exact .inl (.inr h)
    .exact .inr h
   .rintro ((h|h)|h)
    .exact .inl h
    .exact .inr (.inl h)
    .exact .inr (.inr h)
theorem kB{W:List Sl}{b x:Sl}(J:b∈W):(jK W b x).length=W.length+1:=by
 induction W with
 | nil=>simp at J
 | cons a t L=>
  unfold jK
  by_cases e:a=b
  .rw[if_pos e];simp
  .rw[if_neg e];have I:b∈t:=by
    rcases NC.mp J with z|z
    .exact absurd z.symm e
    .exact z
   simp[L I]
theorem sP{W:List Sl}{b x:Sl}(L:W.Nodup)(I:x∉W)(O:b∈W):(jK W b x).Nodup:=by
 induction W with
 | nil=>simp at O
 | cons a t U=>
  unfold jK;rw[Oj]at L
  by_cases e:a=b
  .rw[if_pos e,Oj,Oj];simp only[NC,not_or]at I;refine⟨?_,I.2,L.2⟩;rw[NC,not_or];exact⟨Ne.symm I.1,L.1⟩
  .rw[if_neg e];have J:b∈t:=by
    rcases NC.mp O with z|z
    .exact absurd z.symm e
    .exact z
   simp only[NC,not_or]at I;rw[Oj];refine⟨λz=>?_,U L.2 I.2 J⟩;rcases (dY J a).mp z with z|z
   .exact L.1 z
   .exact I.1 z.symm
theorem Et{W:List Sl}{b x:Sl}:CK (jK W b x)=CK W:=by
 cases W with
 | nil=>rfl
 | cons a t=>
  unfold jK;split<;>rfl
theorem Gv{W:List Sl}{b x:Sl}(Z:W.Nodup)(I:x∉W)(Y:b∈W):∀c,nx (jK W b x) c=if c=x then nx W b else if c=b then x.d else nx W c:=by
 induction W with
 | nil=>simp at Y
 | cons a t ih=>
  intro c;rw[Oj]at Z;simp only[NC,not_or]at I;unfold jK
  by_cases e:a=b
  .subst e;rw[if_pos rfl];simp only[nx]
   by_cases O:c=x
   .subst O;rw[if_neg (Ne.symm I.1),if_pos rfl,if_pos rfl];simp
   .rw[if_neg O]
    by_cases J:c=a
    .subst J;simp[CK]
    .rw[if_neg (Ne.symm J),if_neg (λz=>O z.symm),if_neg J,if_neg (Ne.symm J)]
  .rw[if_neg e];have L:b∈t:=by
    rcases NC.mp Y with z|z
    .exact absurd z.symm e
    .exact z
   simp only[nx];rw[Et,ih Z.2 I.2 L c]
   by_cases U:a=c
   .subst U;rw[if_pos rfl,if_neg (λz=>I.1 z.symm),if_neg e,if_pos rfl]
   .rw[if_neg U,if_neg U,if_neg e]
def CG(ν:List (List aE×D))(W:List Sl):Prop:=W.Nodup/\ν.length=W.length/\(∀s,s∉W->cx ν s.key=none)/\∀s∈W,cx ν s.key=some (nx W s)
theorem j8{κ:Type}[DecidableEq κ]{ν:List (κ×D)}{k:κ}{v:D}:(aT ν k v).length=if (cx ν k).isSome=true then ν.length else ν.length+1:=by
 unfold aT;rw[oo];split<;>simp
theorem EF{ν:List (List aE×D)}{W:List Sl}{b x:Sl}(h:CG ν W)(I:b∈W)(Z:x∉W):CG (aT (aT ν x.key (nx W b)) b.key x.d) (jK W b x):=by
 obtain⟨h1,h2,h3,h4⟩:=h;have U:b≠x:=λz=>Z (z ▸ I);have Y:∀c:Sl,cx (aT (aT ν x.key (nx W b)) b.key x.d) c.key=if c=b then some x.d else if c=x then some (nx W b)else cx ν c.key:=λc=>by
  rw[cw,cw]
  by_cases O:c=b
  .subst O;rw[if_pos rfl,if_pos rfl]
  .rw[if_neg (λz=>O (Sl.key_inj z)),if_neg O]
   by_cases J:c=x
   .subst J;rw[if_pos rfl,if_pos rfl]
   .rw[if_neg (λz=>J (Sl.key_inj z)),if_neg J]
 refine⟨sP h1 Z I,?_,λc hc=>?_,λc hc=>?_⟩
 .rw[j8,j8,h3 x Z,cw,if_neg (λz=>U (Sl.key_inj z)),h4 b I,kB I,h2];simp
 .have L:c∉W/\c≠x:=⟨λz=>hc ((dY I c).mpr (.inl z)),λz=>hc ((dY I c).mpr (.inr z))⟩;rw[Y,if_neg (λ(z:c=b)=>L.1 (by rw[z];exact I)),if_neg L.2]
  exact h3 c L.1
 .rw[Y,Gv h1 Z I]
  by_cases O:c=b
  .subst O;rw[if_pos rfl,if_neg U,if_pos rfl]
  .rw[if_neg O]
   by_cases J:c=x
   .rw[if_pos J,if_pos J]
   .rw[if_neg J,if_neg J,if_neg O];rcases (dY I c).mp hc with z|z
    .exact h4 c z
    .exact absurd z J
theorem Ci(v:List Sl->Prop):CG [(aD.key,.non)] [aD]:=by
 refine⟨by simp,rfl,λs hs=>?_,λs hs=>?_⟩
 .have:s≠aD:=by simpa using hs
  simp only[cx,Nj,List.find?_nil];rw[decide_eq_false (λz=>this (Sl.key_inj z).symm)];rfl
 .have:s=aD:=by simpa using hs
  subst this;simp[cx,nx,CK]
def dg(W:List Sl)(s:Sk):List Sl:=if s.act.anch∈W then bq W s.act.anch (made s)else W
def lh(n:Nat)(out:List Sk):List Sl:=out.foldl dg (bq [aD] aD (fi n))
theorem sO:∀{ss W:List Sl} {b:Sl},b∈W->∀c,c∈bq W b ss↔c∈W\/c∈ss
 | [],W,b,I,c=>by simp[bq]
 | x::t,W,b,I,c=>by
  unfold bq;rw[sO (ss:=t) ((dY I x).mpr (.inr rfl)) c,dY I c,NC];constructor
  .rintro ((h|h)|h)
   .exact .inl h
   .exact .inr (.inl h)
   .exact .inr (.inr h)
  .rintro (h|h|h)
   .exact .inl (.inl h)
   .exact .inl (.inr h)
   .exact .inr h
theorem ma:∀{ss W:List Sl} {b:Sl},b∈W->(bq W b ss).length=W.length+ss.length
 | [],W,b,I=>by simp[bq]
 | x::t,W,b,I=>by
  unfold bq;rw[ma (ss:=t) ((dY I x).mpr (.inr rfl)),kB I,MU];omega
theorem Ao{pre post:List Sl}{b x:Sl}(h:b∉pre):jK (pre ++ b::post) b x=pre ++ b::x::post:=by
 induction pre with
 | nil=>simp[jK]
 | cons a t I=>
  simp only[NC,not_or]at h;simp only[OC,jK];rw[if_neg (Ne.symm h.1),I h.2]
theorem nZ:∀{ss pre post:List Sl} {b:Sl},b∉pre->ss.Nodup->(∀x∈ss,x∉pre/\x≠b)->bq (pre ++ b::post) b ss=pre ++ b::(ss ++ post)
 | [],pre,post,b,_,_,_=>by simp[bq]
 | x::t,pre,post,b,h,nd,hs=>by
  unfold bq;rw[Ao h];rw[Oj]at nd;have L:=hs x MW;have e:pre ++ b::x::post=(pre ++ [b]) ++ x::post:=by simp
  rw[e,nZ (ss:=t) (pre:=pre ++ [b]) (post:=post) (b:=x) (by simp[L.1,L.2]) nd.2 (λy J=>?_)]
  .simp
  .have I:=hs y (MQ _ J);refine⟨by simp[I.1,I.2],λz=>nd.1 (z ▸ J)⟩
def zg(done:List Sk)(W:List Sl):Prop:=∀x∈W,x.n=0\/∃s∈done,x.pen=s.pen/\x.n=s.num
theorem yN{done:List Sk}{W:List Sl}{s:Sk}(h:zg done W)(hs:1<=s.num)(ap:∀r∈done,¬ (r.pen=s.pen/\r.num=s.num)):∀x∈made s,x∉W:=λx O Y=>by
 obtain⟨L,p2,_⟩:=cI O;rcases h x Y with z|⟨r,U,J,I⟩
 .omega
 .exact ap r U ⟨J.symm.trans L,I.symm.trans p2⟩
theorem vg{done:List Sk}{W:List Sl}{s:Sk}(h:zg done W):zg (done ++ [s]) (dg W s):=λx I=>by
 unfold dg at I;have up:x∈W->x.n=0\/∃r∈done ++ [s],x.pen=r.pen/\x.n=r.num:=λz=>by
  rcases h x z with q|⟨r,L,q⟩
  .exact .inl q
  .exact .inr ⟨r,Nc _ L,q⟩
 split at I
 .rename_i O;rcases (sO O x).mp I with z|z
  .exact up z
  .obtain⟨J,p2,_⟩:=cI z;exact .inr ⟨s,by simp,J,p2⟩
 .exact up I
theorem cF(n:Nat):bq [aD] aD (fi n)=aD::fi n:=by
 have:=nZ (ss:=fi n) (pre:=[]) (post:=[]) (b:=aD) (by simp) (dU _ _ _) (λx I=>⟨by simp,λz=>by
  obtain⟨_,_,h⟩:=cI I;rw[z]at h;exact absurd h (by decide)⟩)
 simpa using this
theorem sR(n:Nat):zg [] (bq [aD] aD (fi n)):=λx I=>by
 rw[cF]at I;rcases NC.mp I with z|z
 .subst z;exact .inl rfl
 .exact .inl (cI z).2.1
theorem yM(n:Nat):∀(out done:List Sk) (W:List Sl),zg done W->zg (done ++ out) (out.foldl dg W)
 | [],done,W,h=>by simpa using h
 | s::t,done,W,h=>by
  have:=yM n t (done ++ [s]) (dg W s) (vg h)
  simpa using this
theorem BE{W:List Sl}{s:Sk}{R:List Sl}(h:W=aD::R):∃O,dg W s=aD::O:=by
 unfold dg;split
 .rename_i L;clear L;generalize made s=J;generalize s.act.anch=b
  induction J generalizing W b R with
  | nil=>exact⟨R,h⟩
  | cons x t I=>
   unfold bq;subst h;unfold jK;split
   .exact I rfl _
   .exact I rfl _
 .exact⟨R,h⟩
theorem xC(n:Nat):∀(out:List Sk) (W R:List Sl),W=aD::R->∃I,out.foldl dg W=aD::I
 | [],W,R,h=>⟨R,h⟩
 | s::t,W,R,h=>by
  obtain⟨I,h'⟩:=BE (s:=s) h;exact xC n t _ I h'
def cO(n:Nat)(out:List Sk):List Sl:=(lh n out).tail
theorem iW(n:Nat)(out:List Sk):lh n out=aD::cO n out:=by
 obtain⟨R,h⟩:=xC n out _ (fi n) (cF n);unfold cO;have:lh n out=aD::R:=h;rw[this];rfl
theorem oR(n:Nat)(out:List Sk)(s:Sk):lh n (out ++ [s])=dg (lh n out) s:=by simp[lh]
theorem wp(W:List Sl):val (CK W)=CK W:=by cases W<;>rfl
theorem IC(W:List Sl)(c:Sl):val (nx W c)=nx W c:=by
 induction W with
 | nil=>rfl
 | cons a t I=>
  unfold nx;split
  .exact wp t
  .exact I
theorem BD{rest:List Sl}{s:Sk}(h:made s=[]):(dg (aD::rest) s).tail=rest:=by
 unfold dg;rw[h];split<;>rfl
end RQ
open RQ
namespace L3
open PySem PySem.Spec PyProof.Rows L2 PySem.SeqAt PySem.W
end L3
namespace L3
open PySem PySem.Spec PyProof.Rows L2 PySem.SeqAt PySem.W
def CD(h:MY)(d:MF)(vs:List MC)(ep:Nat):Prop:=∃o es,h.get? d=some o/\o.ExactDict/\o.data=.dict es ep/\es.toList.map (·.key)=vs
section
variable{prog:MR}{w:M4}{A:MS}{E:MC->MD->Prop}{s:MD}{d r it:MF}{vs:List MC}{ep i:Nat}
theorem CD.ty(x:CD s.heap d vs ep):s.TypeIs (.ref d) "dict":=let ⟨o,_,e,z,_⟩:=x;⟨o,e,z.1⟩
theorem DF{v:MC}{Q:Option MC->MD->Prop}(hi:s.heap.IsKeyIter it d i vs.length ep)(x:CD s.heap d vs ep)(J:vs[i]?=some v)
  (q:∀h',h'.IsKeyIter it d (i+1) vs.length ep->Ov it s.heap h'->Q (some v) { s with heap:=h' }):MJ (MK prog w) A (NT (.ref it)) Q E s:=by
 obtain⟨o,O,Y,L⟩:=id hi;obtain⟨od,es,U,Z,W,rfl⟩:=x;unfold NT;refine MB (Nx (M0 (name:=MI "__next__") hi.typeIs Oy (M8 Oy hi.typeIs QN ?_ (QH _))));refine MB (MG ?_);refine MB ?_;refine MB ?_
 first|refine MB (Oq hi.typeIs (MG ?_))|refine MB (OH hi.typeIs (MG ?_))
 refine MB (PV O L ?_);have own:O8 "dict_keyiterator"=false:=by decide
 simp only[own,Bool.false_eq_true,if_false];show MJ _ _ (if (Value.ref d == Value.none)=true then _ else _) _ _ s;rw[if_neg (show ¬ ((Value.ref d == Value.none)=true)from Bool.false_ne_true)]
 refine MB (MG ?_);refine MB (Oz U W ?_);have z:es.size=(es.toList.map (·.key)).length:=by simp
 rw[if_neg (by rw[z];simp)];refine MB (MG ?_);refine MB (OL U W ?_)
 rw[if_neg (by simp)];refine MG ?_
 have lt:i < es.size:=by
  rw[z];rcases OJ i (es.toList.map (·.key)).length with h|h
  .exact h
  .rw[OD h]at J;cases J
 have val:es[i].key=v:=by
  rw[MZ]at J
  simpa[lt]using J
 simp only[show ¬ ((i:Int) < 0)from by omega,if_false,Int.toNat_natCast,Array.getElem?_eq_getElem lt];refine MB ?_
 first|refine MB (Oq hi.typeIs (MG ?_))|refine MB (OH hi.typeIs (MG ?_))
 refine MB (Ro hi.typeIs ?_);show MJ _ _ (QT (.ref it) 1 (Ob ((i:Int)+1)) >>= _) _ _ s;refine MB (Nw O L (by simp) ?_)
 have I:(s.heap.update it (Nb (·.setIfInBounds 1 (Ob ((i:Int)+1))))).IsKeyIter it d (i+1) (es.toList.map (·.key)).length ep:=
  ⟨_,Nk _ O (NQ (Nv L _)),(OV ..).trans Y,by rw[Nv L];simp[Ob]⟩
 refine MB (Na ?_);refine MB (Ro (s:={ s with heap:=s.heap.update it (Nb (·.setIfInBounds 1 (Ob ((i:Int)+1)))) }) I.typeIs ?_)
 show MJ _ _ (pure es[i].key) _ _ _
 exact MG (MG ⟨_,rfl,MG (val ▸ q _ I (RL ..))⟩)
theorem FH{Q:Option MC->MD->Prop}(hd:ig A s.heap)(hi:s.heap.IsKeyIter it d i vs.length ep)(x:CD s.heap d vs ep)(W:vs[i]?=none)
  (q:∀h',Oi it s.heap h'->Q none { s with heap:=h' }):MJ (MK prog w) A (NT (.ref it)) Q E s:=by
 obtain⟨o,I,Y,U⟩:=id hi;obtain⟨od,es,L,Z,O,rfl⟩:=x;unfold NT;refine MB (Nx (M0 (name:=MI "__next__") hi.typeIs Oy (M8 Oy hi.typeIs QN ?_ (QH _))));refine MB (MG ?_);refine MB ?_;refine MB ?_
 first|refine MB (Oq hi.typeIs (MG ?_))|refine MB (OH hi.typeIs (MG ?_))
 refine MB (PV I U ?_);have own:O8 "dict_keyiterator"=false:=by decide
 simp only[own,Bool.false_eq_true,if_false];show MJ _ _ (if (Value.ref d == Value.none)=true then _ else _) _ _ s;rw[if_neg (show ¬ ((Value.ref d == Value.none)=true)from Bool.false_ne_true)]
 refine MB (MG ?_);refine MB (Oz L O ?_);have z:es.size=(es.toList.map (·.key)).length:=by simp
 rw[if_neg (by rw[z];simp)];refine MB (MG ?_);refine MB (OL L O ?_)
 rw[if_neg (by simp)];refine MG ?_
 have ge:es.size<=i:=by rw[z];simpa using W
 simp only[show ¬ ((i:Int) < 0)from by omega,if_false,Int.toNat_natCast,Array.getElem?_eq_none ge];refine MB ?_
 first|refine MB (Oq hi.typeIs (MG ?_))|refine MB (OH hi.typeIs (MG ?_))
 show MJ _ _ (QT (.ref it) 0 .none >>= _) _ _ s;refine MB (Nw I U (by simp) ?_)
 have J:∀b o,b≠it->s.heap.get? b=some o->(s.heap.update it (Nb (·.setIfInBounds 0 Value.none))).get? b=some o:=λb o n e=>(MV _ _ n.symm).trans e;exact eN (hd.but I Y J) λh' k=>q h' λb o n e=>k b o (J b o n e)
end
open HT
section
variable{X:Cx}{prog:MR}{w:M4}{A:MS}{E:MC->MD->Prop}{s:MD}
def Mm:K0:=λx lo hi G Q=>match x with
 | .tup ds=>Q (.tup (cutD ds lo hi)) G
 | _=>False
end
end L3
namespace L2
open PySem PySem.Spec PyProof.Rows
end L2
namespace L3
open PySem PySem.Spec PyProof.Rows L2
theorem RDs.bls_inv{K:Pj}{H:Hp}:∀(ns:List Bool) {xs:List V},RDs K H (ns.map D.bl) xs->xs=ns.map V.bl
 | [],xs,h=>h.inv_nil
 | n::r,xs,h=>by
  obtain⟨x,t,e,h1,h2⟩:=RDs.inv_cons (d:=.bl n) (ds:=r.map D.bl) h;simp only[RD]at h1;subst e h1;rw[RDs.bls_inv r h2];rfl
theorem y_:∀{ns:List Bool} {us:List MC},Vals (ns.map V.bl) us->us=ns.map Value.bool
 | [],us,w=>by cases w;rfl
 | n::r,us,w=>by
  rw[M5]at w;cases w with
  | cons h w=>
   cases h;rw[y_ w];rfl
def Bo:AF:=λds G Q=>match ds with
 | [d]=>∃bs:List Bool,w_ G d=some (bs.map D.bl)/\Q (.bl (bs.all id)) G
 | _=>False
theorem vA:∀(bs:List Bool),(List.range bs.length).all (λi=>bs.getD i false)=bs.all id
 | []=>rfl
 | b::r=>by
  rw[MU,List.range_succ_eq_map,List.all_cons,List.all_cons,List.all_map];have:=vA r;rw[<- this];rfl
theorem Jn{X:Cx}(hc:true=true):dj X (.builtin "all") (kt X.K Bo):=by
 rintro pins s σ H vs us Q I Z ⟨ds,G,Q3,O,W,h,kk⟩
 unfold Bo at h;split at h
 .rename_i d;obtain⟨v,rfl,rd⟩:=dH O;obtain⟨bs,he,h⟩:=h;obtain⟨a,xs,rfl,sq,r⟩:=kL (G:=G) (H:=H) he (.of rd) W;obtain⟨u,rfl,ru⟩:=pP Z;cases ru;rw[RDs.bls_inv bs r]at sq;obtain⟨L,w,pl,hz⟩:=I.list sq;have Y:L=bs.map Value.bool:=y_ w;have ll:a < s.heap.objs.size:=let ⟨o,e,_⟩:=pl.isList;ML e;refine call_all_walk (Pk pl.isList ?_);refine⟨s.heap.objs.size,_,_,_,_,_,λi=>bs.getD i false,rfl,zr (A:=X.A.in1) _ a (M6 ll) L.toArray,⟨⟨⟨_,MM _ rfl,rfl,rfl⟩,pl.isList.push _⟩,I.hds.keep λb o e=>ME _ e⟩,λi v s Q E hP hQ=>?_,λh' tk hk=>?_⟩
  .have e:v=.bool (bs.getD i false):=by
    have J:L[i]?=some v:=by simpa using hP
    rw[Y,MZ]at J;cases U:bs[i]? with
    | none=>rw[U]at J;cases J
    | some b=>
     rw[U]at J;cases J;rw[MX,U];rfl
   rw[e];exact Od hQ
  .have el:L.toArray.size=bs.length:=by rw[M1,Y,MH]
   rw[el,vA];refine⟨.bl _,H,I.kept λb o e=>hk b o (λz=>?_) (ME _ e),rfl,kk _ G _ H h Kp.refl W (.of f_)⟩;rw[Pt.mp z]at e;exact absurd (ML e) (Nat.lt_irrefl _)
 .exact h.elim
end L3
namespace L2
open PySem PySem.Spec PyProof.Rows
abbrev oq(h:MY)(z TI TO:MF)(f0 f1:MC):Prop:=
 h.get? z=some { cls:=.type "zip",dict:=none,data:=.fields #[f0,f1,.bool false,.ref TI,.ref TO],slots:=#[] }
def AI(I:MC):Prop:=I=.none\/∃T:MF,I=Ob T
structure ZApart(z TI TO i1 i2:MF)(fp1 fp2:List MF):Prop where
 a1:TI≠z
 a2:TO≠z
 a3:i1≠z
 a4:i2≠z
 a5:TI≠TO
 a6:TI≠i1
 a7:TI≠i2
 a8:TO≠i1
 a9:TO≠i2
 a10:i1≠i2
 f1:∀b∈fp1,b≠z/\b≠TO/\b≠i2
 f2:∀b∈fp2,b≠z/\b≠TO/\b≠i1
section
variable{prog:MR}{w:M4}{A:MS}{E:MC->MD->Prop}{s:MD}
theorem CU{α:Type}{M:Rz}{a:MF}{k:Option Obj->Sem α}{Q:α->MD->Prop}(h:MJ M A (k (s.heap.get? a)) Q E s):MJ M A (loadIfAlive a >>= k) Q E s:=λJ p I=>by
 exact h J p I
theorem xk{z TI TO:MF}{O f1:MC}{Q:Bool->MD->Prop}(hz:oq s.heap z TI TO O f1)(Y:AI O)(W:Q true s)
  (U:∀h' L,oq h' z TI TO O L->Ov z s.heap h'->Q false { s with heap:=h' }):MJ (MK prog w) A (Builtin.SmallTypes.ownedTupleIsFree (.ref z)) Q E s:=by
 refine MB (M3 hz rfl rfl ?_);rcases Y with rfl|⟨T,rfl⟩
 .exact MG W
 .show MJ _ _ (loadIfAlive _ >>= _) _ _ _;refine CU ?_;cases Z:s.heap.get? (Int.toNat (T:Int)) with
  | none=>exact MG W
  | some o=>
   refine MB (M3 hz rfl (x:=f1) rfl ?_)
   by_cases e:(f1 != Value.bool true)=true
   .rw[if_pos e];exact MB (NR hz (by simp) λh1 I J=>MG (U h1 _ I J))
   .rw[if_neg e];exact MB (MG (MG (U s.heap f1 hz (Sg ..))))
theorem xl{z TI TO i1 i2:MF}{f0 f1 a b:MC}{i:Nat}{fp1 fp2:List MF}{n1 n2:Nat}{P1 P2:Nat->MC->Prop}{St1 St2:Nat->MY->Prop}{Q:Option MC->MD->Prop}
  (D1:Rf prog w A.in1 i1 fp1 n1 P1 St1) (D2:Rf prog w A.in1 i2 fp2 n2 P2 St2) (D:ZApart z TI TO i1 i2 fp1 fp2) (hz:oq s.heap z TI TO f0 f1) (hf:AI f0) (hTI:P8 s.heap TI (.ref i1) (.ref i2)) (hTO:P8 s.heap TO a b)
  (h1:St1 i s.heap) (h2:St2 i s.heap) (l1:i < n1) (l2:i < n2)
  (hQ:∀h' tk x y f0' f1' a' b',P1 i x->P2 i y->AI f0'->oq h' z TI TO f0' f1'->P8 h' TO a' b'->St1 (i+1) h'->St2 (i+1) h'->P8 h' s.heap.objs.size x y->h'.objs.size=s.heap.objs.size+1->
   (∀c o,c≠z->c≠TO->c≠i1->c≠i2->s.heap.get? c=some o->h'.get? c=some o)->Q (some (.ref s.heap.objs.size)) { s with heap:=h',toks:=tk }):
  MJ (MK prog w) A (NT (.ref z)) Q E s:=by
 have hT:s.TypeIs (.ref z) "zip":=⟨_,hz,rfl⟩;refine MB (Nx (M0 hT PN (M8 PN hT F.entry_zip_next ?_ (Si _))));show MJ _ _ (Pg (.ref z) 2 >>= _) _ _ _;refine MB (M3 hz rfl rfl ?_)
 show MJ _ _ (Pg (.ref z) 3 >>= _) _ _ _;refine MB (M3 hz rfl rfl ?_)
 refine MB (NW hTI rfl ?_);refine MB (xk hz hf ?_ λh0 f1' hz0 U=>?_)
 .simp only[if_true];refine MB (NZ ?_);refine MB (M3 hz rfl rfl ?_);refine MB (NR hz (by simp) λg1 z1 s1=>?_)
  refine MB ?_;refine MB (MB (Pq ?_));refine MB (D1.item i { s with heap:=g1 } _ _ l1 (D1.frame i _ _ h1 λb I o e=>s1.extBut _ _ (D.f1 b I).1 e) λx g2 t2 p1 st1 O=>MG ?_)
  have o2:=O.extBut _ _ D.a8 (s1.extBut _ _ D.a2 hTO);refine MB (NW o2 rfl ?_);refine MB (PU o2 λg3 o3 s3=>?_);refine MB (OO (MG ?_));refine MB (MB (Pq ?_));refine MB (D2.item i { s with heap:=g3,toks:=t2 } _ _ l2 (D2.frame i _ _ h2 λb I o e=>s3.extBut _ _ (D.f2 b I).2.1 (O.extBut _ _ (D.f2 b I).2.2 (s1.extBut _ _ (D.f2 b I).1 e))) λy Y t4 p2 Z L=>MG ?_)
  have o4:=L.extBut _ _ D.a9 o3;refine MB (NW o4 rfl ?_);refine MB (PU o4 λg5 o5 s5=>?_);refine MB (OO (MG (MG ?_)));refine MB (NW o5 rfl ?_);have sz:g5.objs.size=s.heap.objs.size:=by rw[s5.1,L.1,s3.1,O.1,s1.1]
  have z5:=s5.extBut _ _ D.a2.symm (L.extBut _ _ D.a4.symm (s3.extBut _ _ D.a2.symm (O.extBut _ _ D.a3.symm z1)));have k5:∀c o,c≠z->c≠TO->c≠i1->c≠i2->s.heap.get? c=some o->g5.get? c=some o:=λc o W c2 c3 c4 e=>s5.extBut _ _ c2 (L.extBut _ _ c4 (s3.extBut _ _ c2 (O.extBut _ _ c3 (s1.extBut _ _ W e))));have lz:=ML z5;show MJ _ _ (Builtin.SmallTypes.ownedTupleHandOut (.ref z) (.ref g5.objs.size) >>= _) _ _ _;refine MB ?_
  have z6:oq (g5.push { cls:=.type "tuple",data:=.seq #[x,y] }) z TI TO .ellipsis f1:=ME _ z5;refine MB (NR z6 (by simp) λg7 z7 s7=>?_)
  refine NR z7 (by simp) λg8 z8 s8=>?_
  have up:∀c o,c≠z->g5.get? c=some o->g8.get? c=some o:=λc o W e=>s8.extBut _ _ W (s7.extBut _ _ W (ME _ e));have t8:=s8.extBut _ _ (OB lz) (s7.extBut _ _ (OB lz) (MM _ rfl));have J:g8.objs.size=g5.objs.size+1:=by rw[s8.1,s7.1,NE]
  have r1:=D1.frame _ _ _ st1 λb I o e=>up b o (D.f1 b I).1 (s5.extBut _ _ (D.f1 b I).2.1 (L.extBut _ _ (D.f1 b I).2.2 (s3.extBut _ _ (D.f1 b I).2.1 e)));have r2:=D2.frame _ _ _ Z λb I o e=>up b o (D.f2 b I).1 (s5.extBut _ _ (D.f2 b I).2.1 e);rw[sz]at z8 t8 J;refine MG ⟨.ref g5.objs.size,rfl,MG ?_⟩;rw[sz];exact hQ g8 t4 x y _ _ x y p1 p2 (.inr ⟨_,rfl⟩) z8 (up _ _ D.a2 o5) r1 r2 t8 J λc o W c2 c3 c4 e=>up c o W (k5 c o W c2 c3 c4 e)
 .simp only[ if_false];refine MB (MB (MB (Na ?_)));refine MB (D1.item i { s with heap:=h0 } _ _ l1 (D1.frame i _ _ h1 λb I o e=>U.extBut _ _ (D.f1 b I).1 e) λx g2 t2 p1 st1 O=>MG (MG ?_))
  refine MB (MB (Na ?_));refine MB (D2.item i { s with heap:=g2,toks:=t2 } _ _ l2 (D2.frame i _ _ h2 λb I o e=>O.extBut _ _ (D.f2 b I).2.2 (U.extBut _ _ (D.f2 b I).1 e)) λy Y t4 p2 Z L=>MG (MG (MG ?_)))
  refine MB (wpAny_newTuple ?_ (by show 2<=MN;decide))
  have sz:Y.objs.size=s.heap.objs.size:=by rw[L.1,O.1,U.1]
  have k4:∀c o,c≠z->c≠TO->c≠i1->c≠i2->s.heap.get? c=some o->Y.get? c=some o:=λc o W _ c3 c4 e=>L.extBut _ _ c4 (O.extBut _ _ c3 (U.extBut _ _ W e));have z4:=L.extBut _ _ D.a4.symm (O.extBut _ _ D.a3.symm hz0);have o4:=L.extBut _ _ D.a9 (O.extBut _ _ D.a8 (U.extBut _ _ D.a2 hTO));refine MG ⟨.ref Y.objs.size,rfl,MG ?_⟩;have up:∀c o,Y.get? c=some o->(Y.push { cls:=.type "tuple",data:=.seq #[x,y] }).get? c=some o:=λc o e=>ME _ e;have t8:P8 (Y.push { cls:=.type "tuple",data:=.seq #[x,y] }) Y.objs.size x y:=MM _ rfl;have J:(Y.push { cls:=.type "tuple",data:=.seq #[x,y] }).objs.size=Y.objs.size+1:=NE ..;rw[sz]at t8 J ⊢;exact hQ _ t4 x y _ _ a b p1 p2 hf (up _ _ z4) (up _ _ o4) (D1.frame _ _ _ st1 λb I o e=>up _ _ (L.extBut _ _ (D.f1 b I).2.2 e)) (D2.frame _ _ _ Z λb _ o e=>up b o e) t8 J λc o W c2 c3 c4 e=>up _ _ (k4 c o W c2 c3 c4 e)
theorem zn{z TI TO i1 i2:MF}{f0 f1 a b:MC}{i:Nat}{fp1 fp2:List MF}{n1 n2:Nat}{P1 P2:Nat->MC->Prop}{St1 St2:Nat->MY->Prop}{Q:Option MC->MD->Prop}
  (D1:Rf prog w A.in1 i1 fp1 n1 P1 St1) (D2:Rf prog w A.in1 i2 fp2 n2 P2 St2) (D:ZApart z TI TO i1 i2 fp1 fp2) (hz:oq s.heap z TI TO f0 f1) (hf:AI f0) (hTI:P8 s.heap TI (.ref i1) (.ref i2)) (hTO:P8 s.heap TO a b)
  (h1:St1 i s.heap) (h2:St2 i s.heap) (le:i=n1\/(i < n1/\i=n2))
  (hQ:∀h' tk,(∀c o,c≠z->c≠TO->c≠i1->c≠i2->s.heap.get? c=some o->h'.get? c=some o)->Q none { s with heap:=h',toks:=tk }):
  MJ (MK prog w) A (NT (.ref z)) Q E s:=by
 have hT:s.TypeIs (.ref z) "zip":=⟨_,hz,rfl⟩;have fin:∀{h':MY} {tk:Nat} {e:MF},(∀c o,c≠z->c≠TO->c≠i1->c≠i2->s.heap.get? c=some o->h'.get? c=some o)->(∃o,h'.get? e=some o/\o.cls=.type "StopIteration")->
   MJ (MK prog w) A (do if <- PB (.ref e) (.type "StopIteration")then pure none else throw (.ref e)) Q E { s with heap:=h',toks:=tk }:=λhk ⟨o,ho,hc⟩=>
  MB (QC ⟨o,ho,hc⟩ QW (MG (hQ _ _ hk)))
 refine MB (Nx (M0 hT PN (M8 PN hT F.entry_zip_next ?_ (Si _))));show MJ _ _ (Pg (.ref z) 2 >>= _) _ _ _;refine MB (M3 hz rfl rfl ?_)
 show MJ _ _ (Pg (.ref z) 3 >>= _) _ _ _;refine MB (M3 hz rfl rfl ?_)
 refine MB (NW hTI rfl ?_);refine MB (xk hz hf ?_ λh0 f1' hz0 W=>?_)
 .simp only[if_true];refine MB (NZ ?_);refine MB (M3 hz rfl rfl ?_);refine MB (NR hz (by simp) λg1 z1 s1=>?_)
  refine MB ?_;refine MB (MB (Pq ?_));have L:=D1.frame i _ _ h1 λb U o e=>s1.extBut _ _ (D.f1 b U).1 e;rcases le with rfl|⟨l1,rfl⟩
  .refine MB (D1.done { s with heap:=g1 } _ _ L λg2 e J he=>?_)
   obtain⟨oe,I,O⟩:=he;have z2:=J _ _ D.a3.symm z1;have Z:e≠z:=λx=>by subst x;rw[z2]at I;cases I;simp at O
   exact NR z2 (by simp) λg3 _ s3=>fin (λc o Y _ c3 _ x=>s3.extBut _ _ Y (J _ _ c3 (s1.extBut _ _ Y x))) ⟨oe,s3.extBut _ _ Z I,O⟩
  .refine MB (D1.item i { s with heap:=g1 } _ _ l1 L λx g2 t2 p1 st1 J=>MG ?_)
   have o2:=J.extBut _ _ D.a8 (s1.extBut _ _ D.a2 hTO);refine MB (NW o2 rfl ?_);refine MB (PU o2 λg3 o3 s3=>?_);refine MB (OO (MG ?_));refine MB (MB (Pq ?_));refine MB (D2.done { s with heap:=g3,toks:=t2 } _ _ (D2.frame i _ _ h2 λb U o e=>s3.extBut _ _ (D.f2 b U).2.1 (J.extBut _ _ (D.f2 b U).2.2 (s1.extBut _ _ (D.f2 b U).1 e))) λg4 e s4 he=>?_)
   obtain⟨oe,I,O⟩:=he;have z4:=s4 _ _ D.a4.symm (s3.extBut _ _ D.a2.symm (J.extBut _ _ D.a3.symm z1));have Z:e≠z:=λx=>by subst x;rw[z4]at I;cases I;simp at O
   exact NR z4 (by simp) λg5 _ s5=>fin (λc o Y c2 c3 c4 x=>s5.extBut _ _ Y (s4 _ _ c4 (s3.extBut _ _ c2 (J.extBut _ _ c3 (s1.extBut _ _ Y x))))) ⟨oe,s5.extBut _ _ Z I,O⟩
 .simp only[ if_false];refine MB (MB (MB (Na ?_)));have L:=D1.frame i _ _ h1 λb U o e=>W.extBut _ _ (D.f1 b U).1 e;rcases le with rfl|⟨l1,rfl⟩
  .exact MB (D1.done { s with heap:=h0 } _ _ L λg2 e J he=>fin (λc o Y _ c3 _ x=>J _ _ c3 (W.extBut _ _ Y x)) he)
  .refine MB (D1.item i { s with heap:=h0 } _ _ l1 L λx g2 t2 p1 st1 J=>MG (MG ?_))
   refine MB (MB (Na ?_));exact MB (D2.done { s with heap:=g2,toks:=t2 } _ _ (D2.frame i _ _ h2 λb U o e=>J.extBut _ _ (D.f2 b U).2.2 (W.extBut _ _ (D.f2 b U).1 e)) λg4 e s4 he=>fin (λc o Y _ c3 c4 x=>s4 _ _ c4 (J.extBut _ _ c3 (W.extBut _ _ Y x))) he)
theorem Hx{tg:M7}{z TI TO:MF}{J f1 u:MC}{Q:Unit->MD->Prop}(hz:oq s.heap z TI TO J f1)(U:AI J)
  (L:∀h' I,AI I->oq h' z TI TO I f1->Ov z s.heap h'->Q () { s with heap:=h' }):MJ (MK prog w) A (O5 tg (.ref z) u) Q E s:=by
 have same:=L s.heap J U hz (Sg ..);cases tg<;>first
  | exact MG same
  | (cases u<;>first
    | exact MG same
    | (refine MB (QS hz ?_)
       dsimp only;split
       .refine MB (NZ ?_);exact NR hz (by simp) λh1 O s1=>L h1 _ (.inl rfl) O s1
       .exact MG same))
end
inductive Zk where
 | lst (l:MF) (xs:List V)
 | txt (z:Str) (t:Tok)
def Zk.vs:Zk->List V
 | .lst _ xs=>xs
 | .txt z _=>db z
def Zk.val:Zk->MC
 | .lst l _=>.ref l
 | .txt z t=>.str z t
def Zk.here(K:Pj)(H:Hp):Zk->Prop
 | .lst l xs=>ij K H l xs
 | .txt _ _=>True
def Zk.ready(h:MY):Zk->Prop
 | .lst l xs=>∃I,Vals xs I/\h.IsList l I.toArray
 | .txt _ _=>True
def Zk.it(it:MF)(i:Nat)(h:MY):Zk->Prop
 | .lst l _=>h.IsListIter it l i
 | .txt z t=>h.IsStrIter it (Pm z) z t i
theorem mm(z:Str):Pm z="str_ascii_iterator"\/Pm z="str_iterator":=by unfold Pm;split;exact .inl rfl;exact .inr rfl
theorem Zk.obj{k:Zk}{it:MF}{i:Nat}{h:MY}(x:k.it it i h):∃o,h.get? it=some o/\(∀v,o.data≠.cell v)/\o.cls≠.type "list"/\o.cls≠.type "tuple"/\o.cls≠.type "zip":=by
 cases k with
 | lst l xs=>
  obtain⟨o,e,c,d⟩:=x;exact⟨o,e,(λv z=>by rw[d]at z;cases z),by rw[c];decide⟩
 | txt z t=>
  obtain⟨o,e,c,d⟩:=x;refine⟨o,e,(λv z=>by rw[d]at z;cases z),?_⟩
  rw[c];rcases mm z with q|q<;>rw[q]<;>decide
theorem Zk.keep{k:Zk}{it:MF}{i:Nat}{h h':MY}(x:k.it it i h)(q:∀o,h.get? it=some o->h'.get? it=some o):k.it it i h':=by
 cases k with
 | lst l xs=>exact x.at λo e=>q o e
 | txt z t=>
  obtain⟨o,e,c⟩:=x;exact⟨o,q o e,c⟩
theorem Zk.of{X:Cx}{pins:List (MF×Obj)}{σ:St}{H:Hp}{s:MD}{k:Zk}(I:Inv X pins σ H s)(x:k.here X.K H):k.ready s.heap:=by
 cases k with
 | lst l xs=>
  obtain⟨J,L,p,_⟩:=I.list x;exact⟨J,L,p.isList⟩
 | txt z t=>exact True.intro
theorem Zk.ty{k:Zk}{it:MF}{i:Nat}{h:MY}(x:k.it it i h):∃o T,h.get? it=some o/\o.cls=.type T:=by
 cases k with
 | lst l xs=>obtain⟨o,e,c,d⟩:=x;exact⟨o,_,e,c⟩
 | txt z t=>obtain⟨o,e,c,d⟩:=x;exact⟨o,_,e,c⟩
theorem Zk.draws{P:MR}{w:M4}{k:Zk}{it:MF}{h:MY}{j:Nat}{A:MS}(hd:ig A h)(x:k.ready h)(y:k.it it j h):∃(fp:List MF) (Pv:Nat->MC->Prop) (St:Nat->MY->Prop),Rf P w A it fp k.vs.length Pv St/\(∀i v,Pv i v->∃u,k.vs[i]?=some u/\aF u v)/\
  (∀i,k.it it i h->St i h)/\(∀i h',St i h'->k.it it i h')/\∀b∈fp,b=it\/∃o,h.get? b=some o/\(o.cls=.type "list"\/∃C,o.cls=.ref C):=by
 cases k with
 | lst l xs=>
  obtain⟨J,rv,p⟩:=x;obtain⟨o,e,c,d⟩:=id y;obtain⟨o',Y,c',d'⟩:=id p;have O:l≠it:=λz=>by subst z;rw[e]at Y;cases Y;rw[c]at c';exact absurd c' (by decide)
  have hl:J.toArray.size=xs.length:=by rw[M1];exact rv.length.symm
  refine⟨it::l::yJ A,λi v=>J.toArray[i]?=some v,λi h=>(h.IsListIter it l i/\h.IsList l J.toArray)/\ig A h,?_,λi v q=>?_,λi q=>⟨⟨q,p⟩,hd⟩,λi h' q=>q.1.1,λb U=>?_⟩
  .have:=Ax (prog:=P) (w:=w) (A:=A) it l O J.toArray;rw[hl]at this;exact this
  .have q':J[i]?=some v:=by simpa using q
   obtain⟨u,W,r⟩:=L3.Vals.getV rv q';exact⟨u,W,r⟩
  .have I:b=it\/b=l\/b∈yJ A:=by simpa using U
   rcases I with rfl|rfl|I
   .exact .inl rfl
   .exact .inr ⟨o',Y,.inl c'⟩
   .obtain⟨o2,C,L,Z⟩:=hd.at b I;exact .inr ⟨o2,L,.inr ⟨C,Z⟩⟩
 | txt z t=>
  have hz:(db z).length=z.cps.size:=by simp[db]
  refine⟨it::yJ A,λi v=>∃c u,z.cps[i]?=some c/\v=.str ⟨#[c]⟩ u,λi h=>h.IsStrIter it (Pm z) z t i/\ig A h,?_,λi v q=>?_,λi q=>⟨q,hd⟩,λi h' q=>q.1,λb U=>(NC.mp U).imp id λI=>?_⟩
  .show Rf P w A it (it::yJ A) (db z).length _ _;rw[hz];exact Ck it z t (mm z)
  .obtain⟨c,u,W,rfl⟩:=q;have L:z.cps.toList[i]?=some c:=by simpa using W
   exact⟨.str ⟨#[c]⟩,by simp[Zk.vs,db,L],⟨u,rfl⟩⟩
  .obtain⟨o2,C,L,Z⟩:=hd.at b I;exact⟨o2,L,.inr ⟨C,Z⟩⟩
def AE(k1 k2:Zk)(z TI TO i1 i2:MF)(i:Nat)(h:MY):Prop:=
 (∃I f1,AI I/\oq h z TI TO I f1)/\P8 h TI (.ref i1) (.ref i2)/\(∃a b,P8 h TO a b)/\k1.it i1 i h/\k2.it i2 i h
structure ZAp(z TI TO i1 i2:MF):Prop where
 t:TI≠TO
 i:i1≠i2
theorem AE.apart{k1 k2:Zk}{z TI TO i1 i2:MF}{i:Nat}{h:MY}{fp1 fp2:List MF}(D:ZAp z TI TO i1 i2)(x:AE k1 k2 z TI TO i1 i2 i h)(q1:∀b∈fp1,b=i1\/∃o,h.get? b=some o/\(o.cls=.type "list"\/∃C,o.cls=.ref C))(q2:∀b∈fp2,b=i2\/∃o,h.get? b=some o/\(o.cls=.type "list"\/∃C,o.cls=.ref C)):ZApart z TI TO i1 i2 fp1 fp2:=by
 obtain⟨⟨f0,f1,_,J⟩,L,⟨a,b,I⟩,h1,h2⟩:=x;obtain⟨p1,T1,a1,a2⟩:=Zk.ty h1;obtain⟨p2,T2,a3,a4⟩:=Zk.ty h2;obtain⟨o1,W,_,c1,Z,c3⟩:=Zk.obj h1;obtain⟨o2,U,_,d1,Y,d3⟩:=Zk.obj h2;have ne:∀{a b:MF} {o o':Obj},h.get? a=some o->h.get? b=some o'->o.cls≠o'.cls->a≠b:=λha O hc z=>by subst z;rw[ha]at O;cases O;exact hc rfl
 have y1:=ne W J c3;have y2:=ne U J d3;have y3:=(ne W I Z).symm;have y4:=(ne U I Y).symm;have tz:Value.type "tuple"≠Value.type "zip":=by decide
 refine⟨ne L J tz,ne I J tz,y1,y2,D.t,(ne W L Z).symm,(ne U L Y).symm,y3,y4,D.i,λb O=>?_,λb O=>?_⟩
 .rcases q1 b O with rfl|⟨o,e,c⟩
  .exact⟨y1,y3.symm,D.i⟩
  .rcases c with c|⟨C,c⟩
   .exact⟨ne e J (by simp_all),ne e I (by simp_all),ne e U (by rw[c];exact d1.symm)⟩
   .exact⟨ne e J (by rw[c];exact λz=>nomatch z),ne e I (by rw[c];exact λz=>nomatch z),ne e a3 (by rw[c,a4];exact λz=>nomatch z)⟩
 .rcases q2 b O with rfl|⟨o,e,c⟩
  .exact⟨y2,y4.symm,D.i.symm⟩
  .rcases c with c|⟨C,c⟩
   .exact⟨ne e J (by simp_all),ne e I (by simp_all),ne e W (by rw[c];exact c1.symm)⟩
   .exact⟨ne e J (by rw[c];exact λz=>nomatch z),ne e I (by rw[c];exact λz=>nomatch z),ne e a1 (by rw[c,a2];exact λz=>nomatch z)⟩
section
variable{prog:MR}{w:M4}{A:MS}{E:MC->MD->Prop}{s:MD}{k1 k2:Zk}{z TI TO i1 i2:MF}{i:Nat}
theorem AL{Q:Option MC->MD->Prop}(hd:ig A s.heap)(D:ZAp z TI TO i1 i2)(x:AE k1 k2 z TI TO i1 i2 i s.heap)(r1:k1.ready s.heap)(r2:k2.ready s.heap)(l1:i < k1.vs.length)(l2:i < k2.vs.length)
  (hQ:∀h' tk x y u v,k1.vs[i]?=some u->k2.vs[i]?=some v->aF u x->aF v y->AE k1 k2 z TI TO i1 i2 (i+1) h'->P8 h' s.heap.objs.size x y->h'.objs.size=s.heap.objs.size+1->
   (∀c o,c∉[z,TI,TO,i1,i2]->s.heap.get? c=some o->h'.get? c=some o)->Q (some (.ref s.heap.objs.size)) { s with heap:=h',toks:=tk }):MJ (MK prog w) A (NT (.ref z)) Q E s:=by
 obtain⟨fp1,P1,St1,D1,v1,t1,b1,q1⟩:=Zk.draws (A:=A.in1) (hd.keep λ_ _ e=>e) r1 x.2.2.2.1;obtain⟨fp2,P2,St2,D2,Z,t2,b2,q2⟩:=Zk.draws (A:=A.in1) (hd.keep λ_ _ e=>e) r2 x.2.2.2.2;have ap:=x.apart D q1 q2;obtain⟨⟨f0,f1,hf,hz⟩,I,⟨a,b,O⟩,h1,h2⟩:=x;refine xl D1 D2 ap hz hf I O (t1 i h1) (t2 i h2) l1 l2 λh' tk x y W U a' b' p1 p2 L Y o' s1 s2 tp sz kp=>?_;obtain⟨u,e1,ru⟩:=v1 i x p1;obtain⟨v,e2,rv⟩:=Z i y p2;exact hQ h' tk x y u v e1 e2 ru rv ⟨⟨W,U,L,Y⟩,kp _ _ ap.a1 ap.a5 ap.a6 ap.a7 I,⟨a',b',o'⟩,b1 _ _ s1,b2 _ _ s2⟩ tp sz λc o J e=>kp c o (λq=>J (by simp[q])) (λq=>J (by simp[q])) (λq=>J (by simp[q])) (λq=>J (by simp[q])) e
theorem CN{Q:Option MC->MD->Prop}(hd:ig A s.heap)(D:ZAp z TI TO i1 i2)(x:AE k1 k2 z TI TO i1 i2 i s.heap)(W:k1.ready s.heap)(r2:k2.ready s.heap)(l:i=min k1.vs.length k2.vs.length)
  (hQ:∀h' tk,(∀c o,c∉[z,TI,TO,i1,i2]->s.heap.get? c=some o->h'.get? c=some o)->Q none { s with heap:=h',toks:=tk }):MJ (MK prog w) A (NT (.ref z)) Q E s:=by
 obtain⟨fp1,P1,St1,D1,v1,U,b1,Z⟩:=Zk.draws (A:=A.in1) (hd.keep λ_ _ e=>e) W x.2.2.2.1;obtain⟨fp2,P2,St2,D2,v2,O,b2,Y⟩:=Zk.draws (A:=A.in1) (hd.keep λ_ _ e=>e) r2 x.2.2.2.2;have ap:=x.apart D Z Y;obtain⟨⟨f0,f1,hf,hz⟩,L,⟨a,b,J⟩,h1,h2⟩:=x;exact zn D1 D2 ap hz hf L J (U i h1) (O i h2) (by omega) λh' tk kp=>hQ h' tk λc o I e=>kp c o (λq=>I (by simp[q])) (λq=>I (by simp[q])) (λq=>I (by simp[q])) (λq=>I (by simp[q])) e
theorem AE.keep{h h':MY}(x:AE k1 k2 z TI TO i1 i2 i h)(q:∀b∈[z,TI,TO,i1,i2],∀o,h.get? b=some o->h'.get? b=some o):AE k1 k2 z TI TO i1 i2 i h':=by
 obtain⟨⟨U,f1,O,L⟩,J,⟨a,b,I⟩,h1,h2⟩:=x;exact⟨⟨U,f1,O,q z (by simp) _ L⟩,q TI (by simp) _ J,⟨a,b,q TO (by simp) _ I⟩,Zk.keep h1 λo e=>q i1 (by simp) o e,Zk.keep h2 λo e=>q i2 (by simp) o e⟩
end
def Mf(K:Pj)(k1 k2:Zk):It:=
 ⟨λi H=>(i < k1.vs.length/\i < k2.vs.length)/\k1.here K H/\k2.here K H,λi H x H'=>∃p u v,H p=none/\x=.ref p/\H'=aV H p (.tup [u,v])/\k1.vs[i]?=some u/\k2.vs[i]?=some v,λi H=>i=min k1.vs.length k2.vs.length/\k1.here K H/\k2.here K H⟩
theorem qX{P:MR}{w:M4}{K:Pj}{tg:M7}(k1 k2:Zk)(z TI TO i1 i2:MF)(D:ZAp z TI TO i1 i2):Turn P w K tg (Mf K k1 k2) [z,TI,TO,i1,i2] z (AE k1 k2 z TI TO i1 i2) where
 mem:=by simp
 obj:=λi h st b J=>by
  obtain⟨⟨f0,f1,Z,Y⟩,O,⟨a,b',L⟩,h1,h2⟩:=st;obtain⟨o1,e1,c1,_⟩:=Zk.obj h1;obtain⟨o2,e2,c2,_⟩:=Zk.obj h2;simp at J;rcases J with rfl|rfl|rfl|rfl|rfl
  .exact⟨_,Y,λv q=>by cases q⟩
  .exact⟨_,O,λv q=>by cases q⟩
  .exact⟨_,L,λv q=>by cases q⟩
  .exact⟨o1,e1,c1⟩
  .exact⟨o2,e2,c2⟩
 keep:=λi h h' st q=>st.keep q
 item:=by
  intro X hP hw hK i pins s σ H E I Z st hg;subst hP hw hK;obtain⟨⟨l1,l2⟩,e1,e2⟩:=hg;refine AL I.hds D st (Zk.of I e1) (Zk.of I e2) l1 l2 λh' tk x y u v q1 q2 ru rv W tp sz kp=>?_;refine⟨_,rfl,?_⟩;obtain⟨⟨f0,f1,hl,Y⟩,O,⟨a,b,L⟩,h1,h2⟩:=id W;refine Hx Y hl λU f0' hl' hz' sb=>?_;have hn:=I.hok.fresh (le_refl _);have lt:∀b∈[z,TI,TO,i1,i2],b≠s.heap.objs.size:=λb J=>by
   obtain⟨o,e,_⟩:=(show ∃o,s.heap.get? b=some o/\True from by
    obtain⟨⟨g0,g1,_,gz⟩,gTI,⟨ga,gb,gTO⟩,k1',k2'⟩:=st;obtain⟨o1,x1,_⟩:=Zk.obj k1';obtain⟨o2,x2,_⟩:=Zk.obj k2';simp at J;rcases J with rfl|rfl|rfl|rfl|rfl
    .exact⟨_,gz,True.intro⟩
    .exact⟨_,gTI,True.intro⟩
    .exact⟨_,gTO,True.intro⟩
    .exact⟨_,x1,True.intro⟩
    .exact⟨_,x2,True.intro⟩)
   exact M6 (ML e)
  have up:∀c o,c≠z->h'.get? c=some o->U.get? c=some o:=λc o hc e=>sb.extBut _ _ hc e;have I0:Inv X pins σ (aV H s.heap.objs.size (.tup [u,v])) { s with heap:=s.heap.push { cls:=.type "tuple",data:=.seq #[x,y] },toks:=s.toks }:=by
   refine I.laid (λb v q=>ME _ q) (le_refl _) ?_;exact⟨by show 2<=MN;decide,[x,y],.cons ru (.cons rv .nil),tw.new _ _⟩
  have I1:Inv X pins σ (aV H s.heap.objs.size (.tup [u,v])) { s with heap:=U,toks:=tk }:=by
   have:=Inv.turnedL (h':=U) (t':=tk) (fp:=[z,TI,TO,i1,i2]) I0 (λb o J q=>?_) λb J=>?_
   .exact this
   .have hbz:b≠z:=λq=>J (by simp[q])
    have q':=q
    by_cases hbs:b=s.heap.objs.size
    .subst hbs;rw[MM _ rfl]at q';cases q';exact up _ _ hbz tp
    .rw[Qv _ _ _ hbs]at q';exact up _ _ hbz (kp b o J q')
   .obtain⟨g0,g1,g2,g3,g4,g5⟩:=Z b J;exact⟨by rw[ao (lt b J)];exact g0,g1,g2,g3,g4,g5⟩
  have ap:=W.apart (fp1:=[]) (fp2:=[]) D (λb J=>by simp at J) λb J=>by simp at J
  refine⟨.ref s.heap.objs.size,_,I1,rfl,⟨_,u,v,hn,rfl,rfl,q1,q2⟩,⟨⟨f0',f1,hl',hz'⟩,up _ _ ap.a1 O,⟨a,b,up _ _ ap.a2 L⟩,Zk.keep h1 λo e=>up _ _ ap.a3 e,Zk.keep h2 λo e=>up _ _ ap.a4 e⟩,λb J=>?_⟩;rw[ao (lt b J)];exact (Z b J).1
 done:=by
  intro X hP hw hK i pins s σ H E I Z st hg;subst hP hw hK;obtain⟨l,e1,e2⟩:=hg;exact CN I.hds D st (Zk.of I e1) (Zk.of I e2) l λh' tk kp=>⟨rfl,I.turnedL kp Z⟩
 self:=λ_ _ _ _ _ st h=>by
  obtain⟨⟨f0,f1,_,Y⟩,_⟩:=st;have hT:=(⟨_,Y,rfl⟩:Shared.TypeIs _ (.ref z) "zip");refine Qo hT F.slot_zip_iter (M8 F.slot_zip_iter hT F.entry_zip_iter ?_ (F.args_zip_iter_1 _));exact MG ⟨_,rfl,"zip",_,hT,PN.lookup,h⟩
noncomputable def Zk.itObj:Zk->Obj
 | .lst l _=>{ cls:=.type "list_iterator",data:=.fields #[.ref l,.int 0 0] }
 | .txt z t=>{ cls:=.type (Pm z),data:=.fields #[.str z t,.int 0 0] }
theorem Zk.iter{prog:MR}{w:M4}{A:MS}{E:MC->MD->Prop}{s:MD}{k:Zk}{Q:MC->MD->Prop}(r:k.ready s.heap)(I:Q (.ref s.heap.objs.size) { s with heap:=s.heap.push k.itObj }):MJ (MK prog w) A (Pf k.val) Q E s:=by
 cases k with
 | lst l xs=>
  obtain⟨J,_,p⟩:=r;exact Pk p I
 | txt z t=>exact wpAny_pyIter_strU I
theorem Zk.grow{k:Zk}{h h':MY}(r:k.ready h)(q:∀c o,h.get? c=some o->h'.get? c=some o):k.ready h':=by
 cases k with
 | lst l xs=>
  obtain⟨I,J,p⟩:=r;exact⟨I,J,p.at λo e=>q l o e⟩
 | txt z t=>exact True.intro
theorem Zk.it0{k:Zk}{h:MY}{it:MF}(e:h.get? it=some k.itObj):k.it it 0 h:=by
 cases k with
 | lst l xs=>exact⟨_,e,rfl,rfl⟩
 | txt z t=>exact⟨_,e,rfl,rfl⟩
theorem Zk.alive{k:Zk}{h:MY}:(h.push k.itObj).get? h.objs.size=some k.itObj:=by
 cases k with
 | lst l xs=>exact MM _ rfl
 | txt z t=>exact MM _ rfl
abbrev Fh(h:MY)(k1:Zk):MY:=h.push k1.itObj
abbrev Fg(h:MY)(k1 k2:Zk):MY:=(Fh h k1).push k2.itObj
abbrev Ff(h:MY)(k1 k2:Zk):MY:=(Fg h k1 k2).push { cls:=.type "tuple",data:=.seq #[.ref h.objs.size,.ref (Fh h k1).objs.size] }
abbrev Fe(h:MY)(k1 k2:Zk):MY:=(Ff h k1 k2).push { cls:=.type "tuple",data:=.seq #[.none,.none] }
abbrev zm(h:MY)(k1 k2:Zk):MY:=(Fe h k1 k2).push { cls:=.type "zip",data:=.fields #[.none,.bool false,.bool false,.ref (Fg h k1 k2).objs.size,.ref (Ff h k1 k2).objs.size] }
theorem Ad(k1 k2:Zk):Meets (Builtin.«zip.__new__» ⟨[.type "zip",k1.val,k2.val],[]⟩) (λ_ R s=>k1.ready s.heap/\k2.ready s.heap/\R (.ok (.ret (.ref (Fe s.heap k1 k2).objs.size))) { s with heap:=zm s.heap k1 k2 }):=
 .of_wp λprog w A R s h=>by
  obtain⟨L,g,d,tk,os⟩:=s;obtain⟨I,r2,h⟩:=h;have hsub:=sub_zip;have J:k2.ready (Shared.heap ⟨L.push k1.itObj,g,d,tk,os⟩):=Zk.grow r2 λc o e=>ME _ e
  wp_walk using Zk.iter I,Zk.iter J
  exact⟨_,rfl,h⟩
theorem vn{prog:MR}{w:M4}{A:MS}{E:MC->MD->Prop}{s:MD}{k1 k2:Zk}{Q:MC->MD->Prop}(Z:k1.ready s.heap)(r2:k2.ready s.heap)
  (h:∀h',AE k1 k2 (s.heap.objs.size+4) (s.heap.objs.size+2) (s.heap.objs.size+3) s.heap.objs.size (s.heap.objs.size+1) 0 h'->h'.objs.size=s.heap.objs.size+5->
   (∀c o,s.heap.get? c=some o->h'.get? c=some o)->Q (.ref (s.heap.objs.size+4)) { s with heap:=h' }):MJ (MK prog w) A (call (.type "zip") [k1.val,k2.val]) Q E s:=by
 refine callType_new F.called_zip rfl (F.typeCall_zip_2 _ _) (F.newCall_zip_2 _ _) (λobj=>F.args_object_init_3 obj _ _) F.entry_zip_new (Ad k1 k2) ⟨Z,r2,?_⟩;have O:(Fh s.heap k1).objs.size=s.heap.objs.size+1:=NE ..;have L:(Fg s.heap k1 k2).objs.size=s.heap.objs.size+2:=by rw[NE,O]
 have J:(Ff s.heap k1 k2).objs.size=s.heap.objs.size+3:=by rw[NE,L]
 have I:(Fe s.heap k1 k2).objs.size=s.heap.objs.size+4:=by rw[NE,J]
 have Y:(zm s.heap k1 k2).objs.size=s.heap.objs.size+5:=by rw[NE,I]
 have u:∀{h:MY} {c:MF} {o o':Obj},h.get? c=some o->(h.push o').get? c=some o:=λe=>ME _ e;have U:(zm s.heap k1 k2).get? (Fe s.heap k1 k2).objs.size=some _:=MM _ rfl;have W:(zm s.heap k1 k2).get? (Ff s.heap k1 k2).objs.size=some _:=u (MM _ rfl);have g3:(zm s.heap k1 k2).get? (Fg s.heap k1 k2).objs.size=some _:=u (u (MM _ rfl));have g2:(zm s.heap k1 k2).get? (Fh s.heap k1).objs.size=some k2.itObj:=u (u (u Zk.alive));have g1:(zm s.heap k1 k2).get? s.heap.objs.size=some k1.itObj:=u (u (u (u Zk.alive)));rw[L,J,I]at U;rw[O,L]at g3;rw[J]at W;rw[O]at g2;rw[I];exact⟨⟨_,U,rfl⟩,h _ ⟨⟨_,_,.inl rfl,U⟩,g3,⟨_,_,W⟩,Zk.it0 g1,Zk.it0 g2⟩ Y λc o x=>u (u (u (u (u x))))⟩
end L2
namespace L3
open PySem PySem.Spec PyProof.Rows L2
def fo:D->Option (List D)
 | .lst ds=>some ds
 | .str x=>some (signs x)
 | _=>none
def mN:List D->List D->List D
 | a::r,b::t=>.tup [a,b]::mN r t
 | _,_=>[]
theorem jN:∀(a b:List D),(mN a b).length=min a.length b.length
 | [],_=>by simp[mN]
 | _::_,[]=>by simp[mN]
 | _::r,_::t=>by simp only[mN,MU,jN r t];omega
theorem qU:∀{a b:List D} {i:Nat} {x y:D},a[i]?=some x->b[i]?=some y->(mN a b)[i]?=some (.tup [x,y])
 | _::_,_::_,0,_,_,h,h'=>by simp at h h';subst h h';rfl
 | _::r,_::t,i+1,_,_,h,h'=>by simp only[ND]at h h';simpa[mN]using qU h h'
 | [],_,_,_,_,h,_=>by simp at h
 | _::_,[],_,_,_,_,h=>by simp at h
theorem uP{K:Pj}{H:Hp}(z:Str):RDs K H (signs z) (db z):=by
 have J:signs z=(z.cps.toList.map λc=>(⟨#[c]⟩:Str)).map D.str:=by simp[signs]
 have I:db z=(z.cps.toList.map λc=>(⟨#[c]⟩:Str)).map V.str:=by simp[db]
 rw[J,I];exact RDs.strs _
theorem AM{K:Pj}{H:Hp}{d:D}{v:V}{u:MC}{ds:List D}(e:fo d=some ds)(r:RD K H d v)(I:aF v u):
  ∃k:Zk,u=k.val/\RDs K H ds k.vs/\∀(G:Gp) (G':Gp) (H':Hp),RG K H G->Kp G H G' H'->k.here K H'/\RDs K H' ds k.vs:=by
 cases d with
 | lst es=>
  simp only[fo,Option.some.injEq]at e;subst e;obtain⟨a,xs,rfl,f,rr⟩:=r;cases I;exact⟨.lst a xs,rfl,rr,λG G' H' J k=>⟨((k.stb J).l _ _ f).sq,RDs.mono (k.stb J) _ _ rr⟩⟩
 | str z=>
  simp only[fo,Option.some.injEq]at e;subst e;subst r;obtain⟨t,rfl⟩:=I;exact⟨.txt z t,rfl,uP z,λ_ _ _ _ _=>⟨True.intro,uP z⟩⟩
 | _=>simp[fo]at e
theorem IR{K:Pj}{J:Gp}{H0:Hp}{ds es:List D}{k1 k2:Zk}(I:RG K H0 J)(W:∀(G:Gp) (G':Gp) (H':Hp),RG K H0 G->Kp G H0 G' H'->k1.here K H'/\RDs K H' ds k1.vs)(r2:∀(G:Gp) (G':Gp) (H':Hp),RG K H0 G->Kp G H0 G' H'->k2.here K H'/\RDs K H' es k2.vs):
  uD K J H0 (mN ds es) (Mf K k1 k2):=λi G H k L=>by
 obtain⟨a1,U⟩:=W J G H I k;obtain⟨a2,O⟩:=r2 J G H I k;have n1:=U.length;have n2:=O.length;rw[jN];refine⟨λhi=>⟨⟨⟨by omega,by omega⟩,a1,a2⟩,λx H' y=>?_⟩,λe=>⟨by omega,a1,a2⟩⟩
 obtain⟨p,u,v,hn,rfl,rfl,Z,Y⟩:=y;have i1:i < ds.length:=by omega
 have i2:i < es.length:=by omega
 obtain⟨u',f1,g1⟩:=U.get (MO i1);obtain⟨v',f2,g2⟩:=O.get (MO i2);rw[Z]at f1;cases f1;rw[Y]at f2;cases f2;exact⟨Kp.laid hn,L.laid hn,_,qU (MO i1) (MO i2),kQ L hn (RDs.cons g1 (RDs.cons g2 RDs.nil))⟩
def Cd(ta:lF):Fb:=λσ G Q=>ta σ G λds G'=>match ds with
 | [x,y]=>∃a b,(fo x=some a/\fo y=some b)/\Q (mN a b) G'
 | _=>False
theorem yZ:Oh "zip"=some (.type "zip"):=by kernel_rfl
theorem vF{K:Pj}{H:Hp}{x y:D}{vs:List V}(h:RDs K H [x,y] vs):∃v u,vs=[v,u]/\RD K H x v/\RD K H y u:=by
 obtain⟨v,t,rfl,h1,h2⟩:=h.inv_cons;obtain⟨u,rfl,I⟩:=dH h2;exact⟨v,u,rfl,h1,I⟩
end L3
namespace L2
open PySem PySem.Spec PyProof.Rows
structure PWalk(prog:MR)(w:M4)(A:MS)(it:MF)(wr:List MF)(n:Nat)(Pv:Nat->MC->MC->Prop)(St:Nat->MY->Prop):Prop where
 frame:∀i h h',St i h->(∀c o,o.cls≠.type "dict"->h.get? c=some o->h'.get? c=some o)->St i h'
 item:∀i (s:MD) (Q:Option MC->MD->Prop) (E:MC->MD->Prop),i < n->St i s.heap->
  (∀h' tk p k v,Pv i k v->(∃o m,h'.get? p=some o/\o.cls=.type "tuple"/\o.data=.seq #[k,v] m)->St (i+1) h'->(∀c o,c∉wr->s.heap.get? c=some o->h'.get? c=some o)->Q (some (.ref p)) { s with heap:=h',toks:=tk })->
  MJ (MK prog w) A (NT (.ref it)) Q E s
 done:∀(s:MD) (Q:Option MC->MD->Prop) (E:MC->MD->Prop),St n s.heap->(∀h' tk,(∀c o,c∉wr->s.heap.get? c=some o->h'.get? c=some o)->Q none { s with heap:=h',toks:=tk })->
  MJ (MK prog w) A (NT (.ref it)) Q E s
theorem j9:plainId "dict.update.loop"=true:=by decide +kernel
theorem kE:entryFor table "dict.update.loop"=some Builtin.«dict.update.loop»:=entryFor_of_tree (by kernel_rfl)
section
variable{prog:MR}{w:M4}{A:MS}{it d:MF}{wr:List MF}{n:Nat}{Pv:Nat->MC->MC->Prop}{St:Nat->MY->Prop}{R:PK->MD->Prop}{h0:MY}
def K7(prog:MR)(w:M4)(h:MY)(d:MF)(xs:List (List aE×MF×MC)):Prop:=
 ∃o es ep,h.get? d=some o/\o.ExactDict/\o.data=.dict es ep/\es.toList=xs.map (entryOfKey (NS (aX prog w)))/\(xs.map (·.1)).Nodup
theorem zX{p:MF}{k v:MC}{s:MD}{E:MC->MD->Prop}{Q:List MC->MD->Prop}(h:∃o m,s.heap.get? p=some o/\o.cls=.type "tuple"/\o.data=.seq #[k,v] m)(q:Q [k,v] s):MJ (MK prog w) A (Builtin.Dict.pairItems (.ref p)) Q E s:=by
 obtain⟨o,m,e,c,I⟩:=h;refine MB (Qn ⟨o,e,c⟩ ?_);exact MB (NW e I (MG q))
theorem C0(W:PWalk prog w A.in1 it wr n Pv St)(hu:A.units+1 < NA)(hd:d∉wr)(hn:n<=MN)(Acc:Nat->List (List aE×MF×MC)->Prop)
  (hk:∀i k v xs,Pv i k v->Acc i xs->∃ks b,k=.ref b/\Acc (i+1) (P9 xs ks b v)/\∀h,(∀c o,c∉wr->c≠d->h0.get? c=some o->h.get? c=some o)->(NS (aX prog w)).is h ks b)
  (hx:∀i xs,Acc i xs->xs.length<=i/\∀x∈xs,∀h,(∀c o,c∉wr->c≠d->h0.get? c=some o->h.get? c=some o)->(NS (aX prog w)).is h x.1 x.2.1):
  ∀(k i:Nat) (s:MD) (xs:List (List aE×MF×MC)),n - i=k->i<=n->St i s.heap->(∀c o,c∉wr->c≠d->h0.get? c=some o->s.heap.get? c=some o)->K7 prog w s.heap d xs->Acc i xs->
   (∀h' tk ys,(∀c o,c∉wr->c≠d->h0.get? c=some o->h'.get? c=some o)->(∀c o,c∉wr->c≠d->s.heap.get? c=some o->h'.get? c=some o)->K7 prog w h' d ys->Acc n ys->R (.ok (.ret .none)) { s with heap:=h',toks:=tk })->
   N4 (MK prog w) A (.builtin "dict.update.loop" ⟨[.ref d,.ref it,Ob i,.none],[]⟩) R s:=by
 intro k
 induction k with
 | zero=>
  intro i s xs hk' hi st keep dr O hR;have hin:i=n:=by omega
  subst hin;refine O6 kE ?_;refine MB (W.done s _ _ st λh' tk kp=>?_);refine MB (MG (MG ?_));obtain⟨o,es,ep,e,r⟩:=dr;exact hR h' tk xs (λc o J I q=>kp c o J (keep c o J I q)) (λc o J _ q=>kp c o J q) ⟨o,es,ep,kp d o hd e,r⟩ O
 | succ k ih=>
  intro i s xs hk' hi st keep dr O hR;have L:i < n:=by omega
  refine O6 kE ?_;refine MB (W.item i s _ _ L st λh1 t1 p kv vv pv tp U kp=>?_);obtain⟨ks,b,rfl,ac',key⟩:=hk i kv vv xs pv O;refine MB (Na (MB (wpAny_tryCatch (zX tp ?_))));refine Na ?_;obtain⟨o,es,ep,e,r1,r2,r3,r4⟩:=dr;have SO:=λc o J I q=>kp c o J (keep c o J I q);obtain⟨len,keys⟩:=hx i xs O;have dd:Heap.DictOfH (NS (aX prog w)) h1 d xs:=⟨o,es,ep,kp d o hd e,r1,r2,r3,λx Z=>keys x Z h1 SO,r4⟩;refine RT (show A.in1.units < NA from hu) (key h1 SO) dd λh2 dd2 sb=>?_
  obtain⟨o2,es2,ep2,e2,q1,q2,q3,_,q4⟩:=dd2;have up:∀c o,c≠d->h1.get? c=some o->h2.get? c=some o:=λc o J q=>sb.extBut _ _ J q;have Y:=kp d o hd e;refine MG ⟨Pr j9 _,?_⟩;have:=ih (i+1) { s with heap:=h2,toks:=t1+(NS (aX prog w)).draws ks } (P9 xs ks b vv) (by omega) L (W.frame _ _ _ U λc o' J q=>up c o' (λz=>by subst z;rw[Y]at q;cases q;exact J r1.1) q) (λc o J I q=>up c o I (SO c o J I q)) ⟨o2,es2,ep2,e2,q1,q2,q3,q4⟩ ac'
   λh' tk ys k1 k2 k3 k4=>hR h' tk ys k1 (λc o J I q=>k2 c o J I (up c o I (kp c o J q))) k3 k4
  exact this
end
end L2
namespace L3
open PySem PySem.Spec PyProof.Rows L2
def A5(kv:List aE×D):D:=.tup [.tup (kv.1.map kD),kv.2]
def dictOf(ν:List (List aE×D)):List (List aE×D):=ν.foldl (λa I=>aT a I.1 I.2) []
theorem oa(ν:List (List aE×D)):∀a:List (List aE×D),(ν.foldl (λa kv=>aT a kv.1 kv.2) a).length<=a.length+ν.length:=by
 induction ν with
 | nil=>intro a;exact le_refl _
 | cons kv r I=>
  intro a;have h1:=I (aT a kv.1 kv.2);have h2:=eQ a kv.1 kv.2;simp;omega
theorem yT{ν:List (List aE×D)}{i:Nat}{kv:List aE×D}(h:ν[i]?=some kv):dictOf (ν.take (i+1))=aT (dictOf (ν.take i)) kv.1 kv.2:=by
 unfold dictOf;rw[Nz,h,List.foldl_append];rfl
theorem wO(ν:List (List aE×D)):((dictOf ν).map (·.1)).Nodup:=by
 suffices h:∀a:List (List aE×D),(a.map (·.1)).Nodup->((ν.foldl (λa I=>aT a I.1 I.2) a).map (·.1)).Nodup from h [] QF
 induction ν with
 | nil=>intro a h;exact h
 | cons I r J=>intro a h;exact J _ (mz I.1 I.2 h)
theorem Cm{prog:MR}{w:M4}{A:MS}{E:MC->MD->Prop}{s:MD}{src:MF}{T:String}{Q:MC->MD->Prop}(Z:∃o,s.heap.get? src=some o/\o.cls=.type T)(U:(Value.type T != Value.type "dict")=true)
  (O:∀(s':MD) (Y:Option MC->MD->Prop) (E':MC->MD->Prop),(∀c o,s.heap.get? c=some o->s'.heap.get? c=some o)->(∀h' tk,(∀c o,s'.heap.get? c=some o->h'.get? c=some o)->Y none { s' with heap:=h',toks:=tk })->MJ (MK prog w) A.in1.in1 (Pw (.ref src) "keys") Y E' s')
  (h:∀h' tk,(∀c o,s.heap.get? c=some o->h'.get? c=some o)->h'.get? s.heap.objs.size=some { cls:=.type "dict",data:=.dict #[] }->
   MJ (MK prog w) A.in1.in1 (Pf (.ref src)) (λit W=>N4 (MK prog w) A.in1 (.builtin "dict.update.loop" ⟨[.ref s.heap.objs.size,it,Ob 0,.none],[]⟩) (wants (λr I=>r=.none/\Q (.ref s.heap.objs.size) I) E) W) (λe s'=>wants (λr I=>r=.none/\Q (.ref s.heap.objs.size) I) E (.error e) s') { s with heap:=h',toks:=tk }):
  MJ (MK prog w) A (call (.type "dict") [.ref src]) Q E s:=by
 refine callType_codes (Q₁:=λobj J=>obj=.ref s.heap.objs.size/\J={ s with heap:=s.heap.push { cls:=.type "dict",data:=.dict #[] } }) F.kt_called_dict (F.kt_typeCall_dict_1 _) F.entry_dict_init (kt_code_dict_new _ ⟨rfl,rfl⟩) ?_
 rintro obj J ⟨rfl,rfl⟩
 have hd:(s.heap.push { cls:=.type "dict",data:=.dict #[] }).get? s.heap.objs.size=some { cls:=.type "dict",data:=.dict #[] }:=MM _ rfl;have L:Shared.TypeIs { s with heap:=s.heap.push { cls:=.type "dict",data:=.dict #[] } } (.ref s.heap.objs.size) "dict":=⟨_,hd,rfl⟩
 obtain⟨o,e,c⟩:=Z;have up:∀c o,s.heap.get? c=some o->(s.heap.push { cls:=.type "dict",data:=.dict #[] }).get? c=some o:=λc o e=>ME _ e;refine⟨L,F.args_dict_init_2 _ _,?_⟩;unfold Builtin.«dict.__init__»;refine MB ?_;unfold Builtin.Dict.selfAndRest;refine MB (PQ L ?_);show MJ _ _ (pure (s.heap.objs.size,[Value.ref src])) _ _ _;refine MG ?_
 show MJ _ _ (Rg "dict.__init__" s.heap.objs.size (.ref src) [] .none) _ _ _
 unfold Rg;refine MB (Qn ⟨o,up _ _ e,c⟩ ?_);rw[if_pos U];refine MB (O _ _ _ up λh' tk kp=>?_);simp;refine MB (NZ ?_);refine MB (Nf (h h' tk (λc o e=>kp c o (up c o e)) (kp _ _ hd)) (λit W q=>MG ⟨Pr j9 _,q⟩) λ_ _ q=>q)
section
variable{X:Cx}{pins:List (MF×Obj)}{τ:St}{H1:Hp}{s1:MD}{G1:Gp}
theorem yS{src:MF}{T:String}{ν:List (List aE×D)}{Q:MC->MD->Prop}(hu:X.A.units+8 < NA)(Y:L2.Inv X pins τ H1 s1)(rg1:RG X.K H1 G1)(hz:ν.length<=900000)
  (hT:∃o,s1.heap.get? src=some o/\o.cls=.type T) (hne:(Value.type T != Value.type "dict")=true)
  (hno:∀(s':MD) (Q':Option MC->MD->Prop) (E':MC->MD->Prop),(∀c o,s1.heap.get? c=some o->s'.heap.get? c=some o)->(∀h' tk,(∀c o,s'.heap.get? c=some o->h'.get? c=some o)->Q' none { s' with heap:=h',toks:=tk })->MJ (MK X.prog X.w) X.A.in1.in1 (Pw (.ref src) "keys") Q' E' s')
  (hit:∀(h2:MY) (I:Nat) (Q':MC->MD->Prop) (E':MC->MD->Prop),(∀c o,s1.heap.get? c=some o->h2.get? c=some o)->s1.heap.objs.size < h2.objs.size->
   (∀it wr Pv St h3,PWalk X.prog X.w X.A.in1.in1 it wr ν.length Pv St->St 0 h3->(∀c o,h2.get? c=some o->h3.get? c=some o)->(∀b∈wr,pM X pins H1 b/\b≠s1.heap.objs.size)->
    (∀i k v,Pv i k v->∃kv b x,ν[i]?=some kv/\k=.ref b/\jL X.K H1 b (kv.1.map kV)/\RD X.K H1 kv.2 x/\aF x v)->Q' (.ref it) { s1 with heap:=h3,toks:=I })->
   MJ (MK X.prog X.w) X.A.in1.in1 (Pf (.ref src)) Q' E' { s1 with heap:=h2,toks:=I })
  (q:∀s' H',L2.Inv X pins τ H' s'->H1 s1.heap.objs.size=none->Kp G1 H1 (gset G1 s1.heap.objs.size (.dT (aJ X.prog X.w) (dictOf ν))) H'->RG X.K H' (gset G1 s1.heap.objs.size (.dT (aJ X.prog X.w) (dictOf ν)))->Q (.ref s1.heap.objs.size) s'):
  MJ (MK X.prog X.w) X.A (call (.type "dict") [.ref src]) Q X.xe s1:=by
 have sle:=NK;refine Cm hT hne hno λh2 I kp2 hd2=>?_;refine hit h2 I _ _ kp2 (ML hd2) λit wr Pv St h3 W st0 kp3 O hpv=>?_;have hf:=Y.hok.fresh (le_refl _);have hdw:=λz=>(O _ z).2 rfl;have ltk:∀{b:MF} {Z:List aE},jL X.K H1 b (Z.map kV)->b∉wr/\b≠s1.heap.objs.size/\∀h:MY,(∀c o,c∉wr->c≠s1.heap.objs.size->s1.heap.get? c=some o->h.get? c=some o)->(NS (aX X.prog X.w)).is h Z b:=λ{b Z} sq=>by
  have key:=key_at Y sq;obtain⟨o,its,n,e,c,dd,ii⟩:=id key;have hb1:=M6 (ML e);have hb2:b∉wr:=λz=>by
   obtain⟨⟨g0,g1,g2,g3,g4,g5⟩,_⟩:=O b z;rcases sq with (e1|⟨o',e1⟩)|⟨o',its',n',kl,_⟩
   .rw[g0]at e1;cases e1
   .rw[g0]at e1;cases e1
   .have e2:=Y.mod.kin b o' kl;rcases g3 with g3|g3
    .exact Y.ok.noex b o' e2 g3
    .exact absurd (ML (Y.ok.bs b o' e2).1) (not_lt.mpr g3)
  exact⟨hb2,hb1,λh kp=>⟨o,its,n,kp b o hb2 hb1 e,c,dd,ii⟩⟩
 have T8:∀{i:Nat} {xs:List (List aE×MF×MC)},pJ X.K H1 (dictOf (ν.take i)) xs->xs.length<=i/\∀x∈xs,jL X.K H1 x.2.1 (x.1.map kV):=λ{i xs} r=>by
  refine⟨?_,?_⟩
  .rw[<- r.length];have:=oa (ν.take i) [];unfold dictOf;simp at this;omega
  .unfold pJ at r;generalize dictOf (ν.take i)=Z at r
   induction r with
   | nil=>intro x L;exact nomatch L
   | @cons p q ps qs hq t ih=>
    intro x L;rcases NC.mp L with e|L
    .subst e;rw[<- hq.1];exact hq.2.1
    .exact ih x L
 refine C0 W (show X.A.units+1+1 < NA by omega) hdw (by omega) (λi xs=>pJ X.K H1 (dictOf (ν.take i)) xs) (λi k v xs pv ac=>?_) (λi xs ac=>?_) ν.length 0 { s1 with heap:=h3,toks:=I } [] (Nat.sub_zero _) (NH _) st0 (λc o _ _ e=>kp3 c o (kp2 c o e)) ⟨_,#[],0,kp3 _ _ hd2,⟨rfl,rfl,rfl⟩,rfl,rfl,QF⟩ .nil λh' tk ys k1 k2 dr ac=>?_
 .obtain⟨kv,b,x,e,rfl,sq,rd,rv⟩:=hpv i k v pv;refine⟨kv.1,b,rfl,?_,(ltk sq).2.2⟩;rw[yT e];exact pJ.put ac kv.1 sq rd rv
 .obtain⟨len,Z⟩:=T8 ac;exact⟨len,λx L h kp=>(ltk (Z x L)).2.2 h kp⟩
 .rw[Nu]at ac;obtain⟨o,es,ep,e,r1,r2,r3,r4⟩:=dr;have hsm:=beq_eq_false_iff_ne.mpr (Ne.symm (M6 Y.big));have fd:o.isFreed=false:=by
   obtain⟨c,dd,dt,sl⟩:=o;have r2':=r2;subst r2';rfl
  obtain⟨kpp,rg2⟩:=Gx (o:=.dT (aJ X.prog X.w) (dictOf ν)) (ho:=.ext (xj (aJ X.prog X.w) s1.heap.objs.size ys)) rg1 hf λH' st=>⟨ys,rfl,ac.mono st,wO ν,by
   have:=oa ν [];unfold dictOf;simp at this;omega⟩
  have I2:L2.Inv X pins τ (aV H1 s1.heap.objs.size (.ext (xj (aJ X.prog X.w) s1.heap.objs.size ys))) { s1 with heap:=s1.heap.push o,toks:=s1.toks }:=
   Y.laid (λ_ _ q=>ME _ q) (le_refl _) (pG ⟨hsm,o,es,ep,MM _ fd,r1,r2,r3⟩)
  have I3:=Inv.turnedL (t':=tk) I2 (λb o' hb qb=>by
   have J:=qb
   by_cases U:b=s1.heap.objs.size
   .subst U;rw[MM _ fd]at J;cases J;exact e
   .rw[Qv _ _ _ U]at J;exact k1 b o' hb U J) λb hb=>by
   obtain⟨⟨g0,g1,g2,g3,g4,g5⟩,nb⟩:=O b hb;exact⟨by rw[ao nb];exact g0,g1,g2,g3,g4,g5⟩
  exact⟨rfl,q _ _ I3 hf kpp rg2⟩
end
end L3
namespace L2
open PySem PySem.Spec PyProof.Rows
theorem zS{prog:MR}{w:M4}{A:MS}{it l:MF}{us:List MC}{Pv:Nat->MC->MC->Prop}:
  PWalk prog w A it [it] us.length Pv (λi h=>ig A h/\h.IsListIter it l i/\h.IsList l us.toArray/\∀j u,us[j]?=some u->∃p J I,u=.ref p/\(∃o m,h.get? p=some o/\o.cls=.type "tuple"/\o.data=.seq #[J,I] m)/\Pv j J I) where
 frame:=λi h h' ⟨hd,⟨o1,e1,c1,d1⟩,⟨o2,e2,c2,d2⟩,ps⟩ kp=>⟨hd.fr λb Z o e=>kp b o (by obtain⟨o3,C,e3,c3⟩:=hd.at b Z;rw[e]at e3;cases e3;rw[c3];exact λz=>nomatch z) e,⟨o1,kp _ _ (by simp_all) e1,c1,d1⟩,⟨o2,kp _ _ (by simp_all) e2,c2,d2⟩,λj u U=>by
  obtain⟨p,J,I,e,⟨o,m,g,c,dt⟩,pv⟩:=ps j u U;exact⟨p,J,I,e,⟨o,m,kp _ _ (by simp_all) g,c,dt⟩,pv⟩⟩
 item:=λi s Q E hi ⟨hd,W,O,ps⟩ q=>by
  have U:=MO hi;obtain⟨p,J,I,e,tp,pv⟩:=ps i _ U;refine Px W O (x:=us[i]) (by simp) λh' st' Y=>?_
  obtain⟨o1,e1,c1,_⟩:=W;obtain⟨o2,e2,c2,_⟩:=id O;have ne:∀{b:MF} {o:Obj} {T:String},s.heap.get? b=some o->o.cls=.type T->Value.type T≠.type "list_iterator"->b≠it:=λZ L hT z=>by subst z;rw[e1]at Z;cases Z;rw[c1]at L;exact hT L.symm
  have lk:∀{p:MF} {J I:MC},(∃o m,s.heap.get? p=some o/\o.cls=.type "tuple"/\o.data=.seq #[J,I] m)->∃o m,h'.get? p=some o/\o.cls=.type "tuple"/\o.data=.seq #[J,I] m:=λ⟨o,m,g,c,dt⟩=>⟨o,m,(Y.2 _ (ne g c (by decide))).trans g,c,dt⟩
  rw[e];refine q h' s.toks p J I pv (lk tp) ⟨hd.but e1 c1 λb o n e=>(Y.2 b n).trans e,st',O.at λo g=>(Y.2 l (ne e2 c2 (by decide))).trans g,λj u U=>?_⟩ λc o L g=>(Y.2 c (λz=>L (by simp[z]))).trans g
  obtain⟨p',k',v',e',tp',pv'⟩:=ps j u U;exact⟨p',k',v',e',lk tp',pv'⟩
 done:=λs Q E ⟨hd,W,O,ps⟩ q=>sr hd W O (by simp) λh' eb=>q h' s.toks λc o L g=>eb c o (λz=>L (by simp[z])) g
theorem AE.wr{k1 k2:Zk}{z TI TO i1 i2:MF}{i:Nat}{h:MY}(x:AE k1 k2 z TI TO i1 i2 i h):∀b∈[z,TI,TO,i1,i2],∃o,h.get? b=some o/\o.cls≠.type "list"/\o.cls≠.type "dict":=by
 obtain⟨⟨U,f1,_,O⟩,J,⟨a,W,I⟩,h1,h2⟩:=x;have nd:∀{k:Zk} {it:MF},k.it it i h->∃o,h.get? it=some o/\o.cls≠.type "list"/\o.cls≠.type "dict":=λ{k it} y=>by
  cases k with
  | lst l xs=>
   obtain⟨o,e,c,_⟩:=y;exact⟨o,e,by rw[c];decide⟩
  | txt z t=>
   obtain⟨o,e,c,_⟩:=y;refine⟨o,e,?_⟩;rw[c];rcases mm z with q|q<;>rw[q]<;>decide
 intro b L;simp at L;rcases L with rfl|rfl|rfl|rfl|rfl
 .exact⟨_,O,by show Value.type "zip"≠_;decide,by show Value.type "zip"≠_;decide⟩
 .exact⟨_,J,by show Value.type "tuple"≠_;decide,by show Value.type "tuple"≠_;decide⟩
 .exact⟨_,I,by show Value.type "tuple"≠_;decide,by show Value.type "tuple"≠_;decide⟩
 .exact nd h1
 .exact nd h2
theorem AE.tys{k1 k2:Zk}{z TI TO i1 i2:MF}{i:Nat}{h:MY}(x:AE k1 k2 z TI TO i1 i2 i h):∀b∈[z,TI,TO,i1,i2],∃o T,h.get? b=some o/\o.cls=.type T:=by
 obtain⟨⟨U,f1,_,O⟩,J,⟨a,W,I⟩,h1,h2⟩:=x;intro b L;simp at L;rcases L with rfl|rfl|rfl|rfl|rfl
 .exact⟨_,_,O,rfl⟩
 .exact⟨_,_,J,rfl⟩
 .exact⟨_,_,I,rfl⟩
 .exact Zk.ty h1
 .exact Zk.ty h2
theorem Zk.stay{k:Zk}{h h':MY}(r:k.ready h)(q:∀c o,o.cls=.type "list"->h.get? c=some o->h'.get? c=some o):k.ready h':=by
 cases k with
 | lst l xs=>
  obtain⟨I,J,o,e,c,d⟩:=r;exact⟨I,J,o,q l o c e,c,d⟩
 | txt z t=>exact True.intro
theorem BM{prog:MR}{w:M4}{A:MS}{k1 k2:Zk}{z TI TO i1 i2:MF}(D:ZAp z TI TO i1 i2):
  PWalk prog w A z [z,TI,TO,i1,i2] (min k1.vs.length k2.vs.length) (λi k v=>∃u x,k1.vs[i]?=some u/\k2.vs[i]?=some x/\aF u k/\aF x v) (λi h=>ig A h/\AE k1 k2 z TI TO i1 i2 i h/\k1.ready h/\k2.ready h) where
 frame:=λi h h' ⟨hd,st,J,r2⟩ kp=>⟨hd.fr λb I o e=>kp b o (by obtain⟨o3,C,L,Z⟩:=hd.at b I;rw[e]at L;cases L;rw[Z];exact λz=>nomatch z) e,st.keep λb I o e=>by
  obtain⟨o',O,_,c⟩:=st.wr b I;rw[e]at O;cases O;exact kp b o c e,Zk.stay J λc o W e=>kp c o (by simp_all) e,Zk.stay r2 λc o W e=>kp c o (by simp_all) e⟩
 item:=λi s Q E hi ⟨hd,st,J,r2⟩ q=>by
  refine AL hd D st J r2 (by omega) (by omega) λh' tk x y u v e1 e2 ru rv U tp sz kp=>?_
  have ls:=λc o W e=>kp c o (λI=>by
   obtain⟨o',O,c',_⟩:=st.wr c I;rw[e]at O;cases O;exact c' W) e
  exact q h' tk _ x y ⟨u,v,e1,e2,ru,rv⟩ ⟨_,_,tp,rfl,rfl⟩ ⟨hd.fr λb I o e=>kp b o (λY=>by obtain⟨o3,C,L,Z⟩:=hd.at b I;obtain⟨o4,T,e4,c4⟩:=st.tys b Y;rw[e4]at L;cases L;rw[Z]at c4;cases c4) e,U,Zk.stay J ls,Zk.stay r2 ls⟩ kp
 done:=λs Q E ⟨hd,st,J,r2⟩ q=>CN hd D st J r2 rfl λh' tk kp=>q h' tk kp
end L2
namespace L3
open PySem PySem.Spec PyProof.Rows L2
theorem vo:Oh "dict"=some (.type "dict"):=by kernel_rfl
theorem Hn{X:Cx}{tg:M7}{a b:M7}{ta:lF}{p pos:Pos}(hg:Gl X "zip")(hm:X.mg "zip"=none)(ha:PA X [a,b] (dI X.K ta))(hs:MP [a,b] X.env=[(false,eval a X.env),(false,eval b X.env)]:=by rfl)(O:MP [b] X.env=[(false,eval b X.env)]:=by rfl):
  PI X tg (.Call (.Name "zip" p) [a,b] [] pos) (nO X.K (Cd ta)):=by
 intro pins s τ H R I h;obtain⟨σ,G,Q3,rs,rg,hq,k⟩:=h;refine RB (h_ I hg hm yZ (PyProof.Rows.callWith_type1 (b_ (ha pos pins s τ H (λvs H1=>∃ds G1,(match ds with|[x,y]=>∃a b,(fo x=some a/\fo y=some b)/\Q3 (mN a b) G1|_=>False)/\Kp G H G1 H1/\RG X.K H1 G1/\RDs X.K H1 ds vs) I
  ⟨σ,G,_,rs,rg,hq,λds G1 vs H1 q k1 J L=>⟨ds,G1,q,k1,J,L⟩⟩) λus s1 ⟨vs,H1,W,r1,q1⟩=>?_) (by rw[hs,O]) (by rw[O];rfl)))
 obtain⟨ds,G1,q,k1,J,L⟩:=q1;split at q
 .rename_i x y;obtain⟨as,bs,⟨ea,eb⟩,q⟩:=q;obtain⟨v,v',rfl,rd1,rd2⟩:=vF L;obtain⟨u,u',rfl,Z,Y⟩:=r1.two;obtain⟨z1,rfl,_,w1⟩:=AM ea rd1 Z;obtain⟨z2,rfl,_,w2⟩:=AM eb rd2 Y;have hr1:=(w1 G1 G1 H1 J Kp.refl).1;have hr2:=(w2 G1 G1 H1 J Kp.refl).1;refine vn (Zk.of W hr1) (Zk.of W hr2) λh' zs hsz kp=>?_;have D:ZAp (s1.heap.objs.size+4) (s1.heap.objs.size+2) (s1.heap.objs.size+3) s1.heap.objs.size (s1.heap.objs.size+1):=⟨M6 (Oe (s1.heap.objs.size+2)),M6 (Oe s1.heap.objs.size)⟩;refine (qX (K:=X.K) (tg:=tg) z1 z2 _ _ _ _ _ D).self _ 0 _ _ _ zs ?_;refine⟨s1.heap.objs.size+4,[s1.heap.objs.size+4,s1.heap.objs.size+2,s1.heap.objs.size+3,s1.heap.objs.size,s1.heap.objs.size+1],_,_,H1,rfl,W.kept kp,qX z1 z2 _ _ _ _ _ D,zs,λc hc=>?_,k _ G1 _ H1 q k1 J (IR J w1 w2)⟩;have U:s1.heap.objs.size<=c:=by
   simp at hc;rcases hc with rfl|rfl|rfl|rfl|rfl<;>first|exact le_refl _|exact Nat.le_add_right _ _
  exact W.fpOk U (W.hok.fresh U)
 .exact q.elim
def Av(hw:List aE->Int)(te:bb):bb:=λσ G Q=>te σ G λx G1=>match w_ G1 (val x) with
 | some ds=>∃I:List (List aE×D),(ds=I.map A5/\I.length<=900000)/\∀p,G1 p=none->Q (.ref p) (gset G1 p (.dT hw (dictOf I)))
 | none=>False
def Au(hw:List aE->Int)(ta:lF):bb:=λσ G Q=>ta σ G λds G1=>match ds with
 | [x,y]=>∃a b,∃I:List (List aE×D),(fo x=some a/\fo y=some b/\mN a b=I.map A5/\I.length<=900000)/\∀p,G1 p=none->Q (.ref p) (gset G1 p (.dT hw (dictOf I)))
 | _=>False
theorem Hm{K:Pj}{H:Hp}{ks:List aE}{v:V}(r:RD K H (.tup (ks.map kD)) v):∃b,v=.ref b/\jL K H b (ks.map kV):=nX (d:=.tup (ks.map kD)) (Bb ks) r
theorem F2{hh:List aE->Int}{X:Cx}{e:M7}{te:bb}{p1 pos:Pos}(hu:X.A.units+8 < NA)(hc:true=true)(hg:Gl X "dict")(hm:X.mg "dict"=none)(he:PE X e (aB X.K te))(hs:MP [e] X.env=[(false,eval e X.env)]:=by rfl)(eh:aJ X.prog X.w=hh:=by first|walk_at "h"|rfl):
  PE X (.Call (.Name "dict" p1) [e] [] pos) (aB X.K (Av hh te)):=by
 subst eh
 rintro pins s τ H Q I ⟨σ,G,Q3,rs,rg,h,k⟩
 refine RB (h_ I hg hm vo (PyProof.Rows.callWith_type1 ?_ hs rfl) (by decide) (by decide))
 rw[show NM pos (MP [e] X.env)=[(false,eval e X.env)]by rw[hs];rfl]
 refine Ow (b_ (dQ he I rs rg h) λov s1 ⟨ox,H1,Y,rox,x,G1,q1,k1,L,rd1⟩=>OW ?_);split at q1
 .rename_i ds hq;obtain⟨ν,⟨rfl,hz⟩,q1⟩:=q1;obtain⟨l,xs,rfl,sq,r⟩:=kL (G:=G1) (H:=H1) hq (.of rd1) L;cases rox;obtain⟨O,rv,pl,_⟩:=Y.list sq;have n1:=r.length;have n2:=rv.length;rw[MH]at n1;obtain⟨lo,ln,le,lc,ld,ldat⟩:=id pl;have tps:∀(j:Nat) u,O[j]?=some u->∃p kk Z,u=.ref p/\(∃o m,s1.heap.get? p=some o/\o.cls=.type "tuple"/\o.data=.seq #[kk,Z] m)/\∃J b x,ν[j]?=some J/\kk=.ref b/\jL X.K H1 b (J.1.map kV)/\RD X.K H1 J.2 x/\aF x Z:=λj u hu=>by
   obtain⟨v,e1,ru⟩:=Vals.getV rv hu;obtain⟨d,e2,rd⟩:=RDs.getV r e1;rw[MZ]at e2;cases hkv:ν[j]? with
   | none=>rw[hkv]at e2;cases e2
   | some J=>
    rw[hkv]at e2;cases e2;unfold A5 at rd;simp only[RD]at rd;obtain⟨p,ys,rfl,sqp,ry⟩:=rd;obtain⟨y1,y2,rfl,ra,rb⟩:=vF ry;obtain⟨b,rfl,sb⟩:=Hm (ks:=J.1) (by simpa only[RD]using ra)
    cases ru;obtain⟨its2,rv2,tp,_⟩:=Y.tuple sqp;obtain⟨o,g1,g2,m,g3⟩:=tp;obtain⟨w1,w2,rfl,rw1,rw2⟩:=rv2.two;cases rw1;exact⟨p,_,w2,rfl,⟨o,m,g1,g2,by simpa using g3⟩,J,b,y2,rfl,rfl,sb,rb,rw2⟩
  refine yS (T:="list") (ν:=ν) hu Y L hz ⟨lo,le,lc⟩ (by decide) (λs' Q' E' kp q'=>?_) (λh2 tk2 Q' E' kp U q'=>?_) λs' H' I' hf kp rg'=>⟨.ref s1.heap.objs.size,H',I',rfl,k _ _ _ H' (q1 _ (L.free hf)) (k1.trans kp) rg' (.of fV)⟩
  .obtain⟨c0,d0,t0,s0⟩:=lo;simp only at lc ld ldat;subst lc ld ldat;exact wq (kp _ _ le) (Y.hds.keep kp) q'
  .refine Pk (pl.isList.at λo e=>kp _ _ e) ?_;have hln:ν.length=O.length:=n1.trans n2;have W:=zS (prog:=X.prog) (w:=X.w) (A:=X.A.in1.in1) (it:=h2.objs.size) (l:=l) (us:=O) (Pv:=λ(j:Nat) (kk Z:MC)=>∃(J:List aE×D) (b:MF) (x:V),ν[j]?=some J/\kk=Value.ref b/\jL X.K H1 b (J.1.map kV)/\RD X.K H1 J.2 x/\aF x Z);rw[<- hln]at W;refine q' h2.objs.size [h2.objs.size] _ _ _ W ⟨Y.hds.keep λb o e=>ME _ (kp _ _ e),⟨_,MM _ rfl,rfl,rfl⟩,(pl.isList.at λo e=>kp _ _ e).push _,λj u hu=>?_⟩ (λc o e=>ME _ e) (λb hb=>?_) λi k v pv=>pv
   .obtain⟨p,kk,Z,e,⟨o,m,g1,g2,g3⟩,pv⟩:=tps j u hu;exact⟨p,kk,Z,e,⟨o,m,ME _ (kp _ _ g1),g2,g3⟩,pv⟩
   .have e:=Pt.mp hb;subst e;exact⟨Y.fpOk (le_of_lt U) (Y.hok.fresh (le_of_lt U)),OB U⟩
 .exact q1.elim
theorem F1{hh:List aE->Int}{X:Cx}{a b:M7}{ta:lF}{p1 p2 pos SN:Pos}(hu:X.A.units+8 < NA)(hc:true=true)(hg1:Gl X "dict")(hm1:X.mg "dict"=none)(hg2:Gl X "zip")(hm2:X.mg "zip"=none)(ha:PA X [a,b] (dI X.K ta))
  (hs:MP [a,b] X.env=[(false,eval a X.env),(false,eval b X.env)]:=by rfl) (hs2:MP [b] X.env=[(false,eval b X.env)]:=by rfl) (eh:aJ X.prog X.w=hh:=by first|walk_at "h"|rfl):
  PE X (.Call (.Name "dict" p1) [.Call (.Name "zip" p2) [a,b] [] SN] [] pos) (aB X.K (Au hh ta)):=by
 subst eh
 rintro pins s τ H Q I ⟨σ,G,Q3,rs,rg,h,k⟩
 refine RB (h_ I hg1 hm1 vo (PyProof.Rows.callWith_type1 ?_ rfl rfl) (by decide) rfl)
 refine Ow (RB (h_ I hg2 hm2 yZ (PyProof.Rows.callWith_type1 (b_ (ha SN pins s τ H (λvs H1=>∃ds G1,(match ds with|[x,y]=>∃a b,∃L:List (List aE×D),(fo x=some a/\fo y=some b/\mN a b=L.map A5/\L.length<=900000)/\∀p,G1 p=none->Q3 (.ref p) (gset G1 p (.dT (aJ X.prog X.w) (dictOf L)))|_=>False)/\Kp G H G1 H1/\RG X.K H1 G1/\RDs X.K H1 ds vs) I
  ⟨σ,G,_,rs,rg,h,λds G1 vs H1 q k1 J Y=>⟨ds,G1,q,k1,J,Y⟩⟩) λus s1 ⟨vs,H1,I1,r1,q1⟩=>?_) (by rw[hs,hs2]) (by rw[hs2];rfl)) (by decide) rfl))
 obtain⟨ds,G1,q,k1,J,Y⟩:=q1;split at q
 .rename_i x y;obtain⟨as,bs,L,⟨ea,eb,ez,hz⟩,q⟩:=q;obtain⟨v,v',rfl,rd1,rd2⟩:=vF Y;obtain⟨u,u',rfl,ru1,ru2⟩:=r1.two;obtain⟨z1,rfl,t1,w1⟩:=AM ea rd1 ru1;obtain⟨z2,rfl,t2,w2⟩:=AM eb rd2 ru2;have n1:=t1.length;have n2:=t2.length;have hr1:=(w1 G1 G1 H1 J Kp.refl).1;have hr2:=(w2 G1 G1 H1 J Kp.refl).1;refine vn (Zk.of I1 hr1) (Zk.of I1 hr2) λh' zs hsz kp=>OW ?_;have I2:L2.Inv X pins τ H1 { s1 with heap:=h' }:=I1.kept (t':=s1.toks) kp
  have DZ:ZAp (s1.heap.objs.size+4) (s1.heap.objs.size+2) (s1.heap.objs.size+3) s1.heap.objs.size (s1.heap.objs.size+1):=⟨M6 (Oe (s1.heap.objs.size+2)),M6 (Oe s1.heap.objs.size)⟩;obtain⟨f0,f1,_,hzo⟩:=zs.1;have hlen:L.length=min z1.vs.length z2.vs.length:=by
   have:=jN as bs;rw[ez,MH]at this;omega
  refine yS hu I2 J hz ⟨_,hzo,rfl⟩ rfl (λs' Q' E' U q'=>xS (U _ _ hzo) (I2.hds.keep U) q') (λh2 tk2 Q' E' O hlt q'=>?_) λs' H' I' hf U rg'=>⟨.ref h'.objs.size,H',I',rfl,k _ _ _ H' (q _ (J.free hf)) (k1.trans U) rg' (.of fV)⟩;have zs2:=zs.keep λb _ o e=>O b o e;refine (qX (K:=X.K) (tg:=.Name "" pos) z1 z2 _ _ _ _ _ DZ).self _ 0 { s1 with heap:=h2,toks:=tk2 } _ _ zs2 ?_
  have W:=BM (prog:=X.prog) (w:=X.w) (A:=X.A.in1.in1) (k1:=z1) (k2:=z2) DZ;rw[<- hlen]at W;refine q' _ _ _ _ _ W ⟨I2.hds.keep O,zs2,Zk.grow (Zk.of I1 hr1) λc o e=>O c o (kp c o e),Zk.grow (Zk.of I1 hr2) λc o e=>O c o (kp c o e)⟩ (λ_ _ e=>e) (λc hc=>?_) λi kk vv pv=>?_
  .have Z:s1.heap.objs.size<=c/\c≠s1.heap.objs.size+5:=by
    simp at hc;rcases hc with rfl|rfl|rfl|rfl|rfl
    .exact⟨Nat.le_add_right _ _,M6 (Nat.add_lt_add_left (by decide) _)⟩
    .exact⟨Nat.le_add_right _ _,M6 (Nat.add_lt_add_left (by decide) _)⟩
    .exact⟨Nat.le_add_right _ _,M6 (Nat.add_lt_add_left (by decide) _)⟩
    .exact⟨le_refl _,M6 (Nat.lt_add_of_pos_right (by decide))⟩
    .exact⟨Nat.le_add_right _ _,M6 (Nat.add_lt_add_left (by decide) _)⟩
   refine⟨I1.fpOk Z.1 (I1.hok.fresh Z.1),?_⟩;rw[hsz];exact Z.2
  .obtain⟨u,x,e1,e2,ru,rx⟩:=pv;obtain⟨d1,g1,r1⟩:=RDs.getV t1 e1;obtain⟨d2,g2,r2⟩:=RDs.getV t2 e2;have e3:=qU g1 g2;rw[ez,MZ]at e3;cases hkv:L[i]? with
   | none=>rw[hkv]at e3;cases e3
   | some kv=>
    rw[hkv]at e3;obtain⟨rfl,rfl⟩:=e3;obtain⟨b,rfl,sb⟩:=Hm r1;cases ru;exact⟨kv,b,x,rfl,rfl,sb,r2,rx⟩
 .exact q.elim
def Gq(kv:List aE×D):D:=.tup (kv.1.map kD)
def Dq(te:bb)(g:tx)(tb:bH):bH:=λE σ G=>te σ G λd G1=>match d with
 | .ref a=>∃hw I,G1 a=some (.dT hw I)/\ForIn g tb { nx:=λJ G'=>E.nx J (gset G' a (.dT hw I)),rt:=λ_ _=>False } σ (I.map Gq) (fB G1 a)
 | _=>False
theorem B_{prog:MR}{w:M4}{A:MS}{E:MC->MD->Prop}{s:MD}{d:MF}{vs:List MC}{ep:Nat}{Q:MC->MD->Prop}(hd:(d == NG)=false)(x:CD s.heap d vs ep)
  (q:Q (.ref s.heap.objs.size) { s with heap:=s.heap.push { cls:=.type "dict_keyiterator",data:=.fields #[.ref d,.int 0 0,.int vs.length 0,.int ep 0] } }):MJ (MK prog w) A (Pf (.ref d)) Q E s:=by
 obtain⟨o,es,I,J,hdat,rfl⟩:=id x;refine Qo x.ty PySem.F.slot_dict_iter (M8 PySem.F.slot_dict_iter x.ty PySem.F.entry_dict_iter ?_ (PySem.F.args_dict_iter_1 _));unfold Builtin.«dict.__iter__»;refine MB ?_;refine MB (PQ x.ty ?_);show MJ _ _ (pure (Value.ref d)) _ _ s;refine MG ?_
 show MJ _ _ (OX d >>= _) _ _ s;unfold OX;rw[if_neg (by simp_all)]
 refine MB (MG ?_);refine MB (Oz I hdat ?_);refine MB (OL I hdat ?_);refine MB (Nh (MG ⟨_,rfl,"dict_keyiterator",_,⟨_,MM _ rfl,rfl⟩,PySem.F.slot_dict_keyiterator_next.lookup,?_⟩))
 simpa[Ob]using q
theorem zO{K:Pj}{H:Hp}:∀ks:List aE,RDs K H (ks.map kD) (ks.map kV)
 | []=>RDs.nil
 | .inl i::r=>RDs.cons dC (zO r)
 | .inr x::r=>RDs.cons iX (zO r)
theorem pJ.at{K:Pj}{H:Hp}{ν:List (List aE×D)}{xs:List (List aE×MF×MC)}(r:pJ K H ν xs):∀{i:Nat} {kv:List aE×D},ν[i]?=some kv->∃x,xs[i]?=some x/\RD K H (Gq kv) (.ref x.2.1):=by
 induction r with
 | nil=>intro i kv h;simp at h
 | @cons p q ps J hq t I=>
  intro i kv h;cases i with
  | zero=>
   simp at h;subst h;refine⟨q,rfl,?_⟩;exact⟨q.2.1,_,rfl,hq.2.1,zO _⟩
  | succ i=>
   exact I h
abbrev EX(a:MF)(o:Obj):HO:=.ext λh=>h.get? a=some o
theorem Kr{P:MR}{w:M4}{H:Hp}{h:MY}{a:MF}{o:Obj}(e:h.get? a=some o):bz P w H h a (EX a o):=⟨e,⟨o,e⟩,λ_ _ q k=>k o q⟩
theorem HY{X:Cx}{tg iter:M7}{body:List Nd}{te:bb}{g:tx}{tb:bH}{pos:Pos}(hp:Qd (MK X.prog X.w) X.A X.env X.xe)(hc:true=true)(hi:PE X iter (aB X.K te))(hg:PG X tg (iI X.K g))(U:iO X body (bx X.K tb))
  (hs:∀x,NO iter X.env x=pure x:=by intro _;rfl):PS X (.For tg iter body [] pos) (bx X.K (Dq te g tb)):=by
 rintro pins s τ H Dd I ⟨σ,G,D3,rs,rg,h,k⟩
 refine wpAny_For (b_ (dQ hi I rs rg h) λv s1 ⟨ox,H1,I1,rox,d,G1,q1,k1,rg1,rd1⟩=>?_) hs;cases d with
 | ref a=>
  obtain⟨hw,O,hga,Pv,p0,step,fin⟩:=q1;simp only[val,RD]at rd1;subst rd1;cases rox;obtain⟨hob,eo,ro⟩:=rg1 a _ hga;cases hob with
  | ext φ=>
   obtain⟨xs,rfl,rt,nd,len⟩:=ro;obtain⟨hsm,W,es,ep,g1,g2,g3,g4⟩:=(show bz X.prog X.w H1 s1.heap a (.ext (xj hw a xs))from I1.hok a _ eo).1
   have raw:∀{h:MY},h.get? a=some W->CD h a (xs.map λx=>Value.ref x.2.1) ep:=λe=>⟨W,es,e,g2,g3,by rw[g4,Nr];rfl⟩
   have lx:=rt.length;refine B_ hsm (raw g1) ?_;have hita:a≠s1.heap.objs.size:=M6 (ML g1);have kpA:Kp G1 H1 (fB G1 a) (aV H1 a (EX a W)):=λb u e n=>by
    have U:b≠a:=λz=>by subst z;rw[hga]at n;cases n
    exact⟨by rw[ao U];exact e,by rw[ee U];exact n⟩
   have rg2:RG X.K (aV H1 a (EX a W)) (fB G1 a):=λb u e=>by
    have U:b≠a:=λz=>by subst z;rw[d_]at e;cases e
    rw[ee U]at e;obtain⟨ho,e1,r1⟩:=rg1 b u e;exact⟨ho,by rw[ao U];exact e1,r1.mono (kpA.stb rg1)⟩
   have I1':L2.Inv X pins τ (aV H1 a (EX a W)) { s1 with heap:=s1.heap,toks:=s1.toks }:=I1.write (x:=a) (e:=a) (by rw[eo];exact True.intro) (.inl rfl) (λ_ _ _ q=>q) ⟨W,g1⟩ (Kr g1)
   have I2:L2.Inv X pins τ (aV H1 a (EX a W)) { s1 with heap:=s1.heap.push { cls:=.type "dict_keyiterator",data:=.fields #[.ref a,.int 0 0,.int (xs.map λx=>Value.ref x.2.1).length 0,.int ep 0] } }:=I1'.kept (t':=s1.toks) λ_ _ q=>ME _ q
   have fit:pM X pins (aV H1 a (EX a W)) s1.heap.objs.size:=I1.fpOk (le_refl _) (by rw[ao hita.symm];exact I1.hok.fresh (le_refl _))
   have back:∀{L:St} {H':Hp} {G':Gp} {J:eV} {s':MD},L2.Inv X pins L H' s'->Kp (fB G1 a) (aV H1 a (EX a W)) G' H'->RS X.K H' J L->RG X.K H' G'->D3.nx J (gset G' a (.dT hw O))->∃τ'' H'',L2.Inv X pins τ'' H'' s'/\Dd.nx τ'' H'':=λ{L H' G' J s'} I' kk rs' rg' q=>by
    obtain⟨e1,e2⟩:=kk a _ aG d_;have e3:s'.heap.get? a=some W:=(show bz X.prog X.w H' s'.heap a (EX a W)from I'.hok a _ e1).1
    have I'':L2.Inv X pins L (aV H' a (.ext (xj hw a xs))) { s' with heap:=s'.heap,toks:=s'.toks }:=I'.write (x:=a) (e:=a) (by rw[e1];exact True.intro) (.inl rfl) (λ_ _ _ q=>q) ⟨W,e3⟩ (pG ⟨hsm,W,es,ep,e3,g2,g3,g4⟩)
    have st1:=(kpA.stb rg1);have st2:=(kk.stb rg2);have st3:Stb X.K H' (aV H' a (.ext (xj hw a xs))):=⟨λb ys y=>by
     rcases y with (y|⟨o',y⟩)|y
     .exact .inl (.inl (by rw[ao (λz=>by rw[z,e1]at y;cases y)];exact y))
     .exact .inl (.inr ⟨o',by rw[ao (λz=>by rw[z,e1]at y;cases y)];exact y⟩)
     .exact .inr y,λb ys y=>by
     rcases y with ⟨o',y⟩|y
     .exact .inl ⟨o',by rw[ao (λz=>by rw[z,e1]at y;cases y)];exact y⟩
     .exact .inr y⟩
    have rg3:RG X.K (aV H' a (.ext (xj hw a xs))) (gset G' a (.dT hw O)):=λb u e=>by
     by_cases U:b=a
     .subst U;rw[av]at e;cases e;exact⟨_,aG,xs,rfl,((rt.mono st1).mono st2).mono st3,nd,len⟩
     .rw[ai U]at e;obtain⟨ho,e4,r4⟩:=rg' b u e;exact⟨ho,by rw[ao U];exact e4,r4.mono st3⟩
    have kpC:Kp G H (gset G' a (.dT hw O)) (aV H' a (.ext (xj hw a xs))):=λb u e n=>by
     obtain⟨e4,n4⟩:=k1 b u e n;have U:b≠a:=λz=>by subst z;rw[hga]at n4;cases n4
     obtain⟨e5,n5⟩:=kk b u (by rw[ao U];exact e4) (by rw[ee U];exact n4)
     exact⟨by rw[ao U];exact e5,by rw[ai U];exact n5⟩
    exact⟨L,_,I'',k.nx J _ L _ q kpC rg3 (rs'.mono st3)⟩
   refine RJ (λn s'=>∃i J L G' H',L2.Inv X pins L H' s'/\s'.heap.IsKeyIter s1.heap.objs.size a i (xs.map λx=>Value.ref x.2.1).length ep/\H' s1.heap.objs.size=none/\RS X.K H' J L/\RG X.K H' G'/\Pv i J G'/\Kp (fB G1 a) (aV H1 a (EX a W)) G' H'/\i<=O.length/\n=O.length - i) ?_ O.length
    ⟨0,σ,τ,fB G1 a,_,I2,⟨_,MM _ rfl,rfl,rfl⟩,fit.1,rs.mono ((k1.trans kpA).stb rg),rg2,p0,Kp.refl,NH _,rfl⟩
   rintro n s3 ⟨i,σ3,τ3,G3,H3,I3,ki,fr3,rs3,rg3,pv,kk,hil,rfl⟩
   obtain⟨e1,e2⟩:=kk a _ aG d_;have e3:s3.heap.get? a=some W:=(show bz X.prog X.w H3 s3.heap a (EX a W)from I3.hok a _ e1).1
   by_cases hlt:i < O.length
   .obtain⟨x,hx,rd⟩:=((rt.mono (kpA.stb rg1)).mono (kk.stb rg2)).at (MO hlt);refine NF hp (DF ki (raw e3) (v:=.ref x.2.1) (by rw[MZ,hx];rfl) λh4 ki4 sb=>?_)
    have I4:L2.Inv X pins τ3 H3 { s3 with heap:=h4,toks:=s3.toks }:=I3.turned (λb o U e=>(sb.2 b U).trans e) fr3 fit.2.1 fit.2.2.2.1 fit.2.2.2.2.1 fit.2.2.2.2.2
    obtain⟨oi,ei,ci,di⟩:=id ki4;refine NF hp (yK (s:={ s3 with heap:=h4 }) ei ci di (by decide) ?_)
    have I4':=I4.pinned (fp:=[s1.heap.objs.size]) (λb U=>by rw[Pt.mp U];exact⟨fr3,fit.2⟩) λb U=>by rw[Pt.mp U];exact⟨oi,ei,λv z=>by rw[di]at z;cases z⟩
    refine NF hp (b_ (hg _ _ τ3 H3 (.ref x.2.1) (.ref x.2.1) (λτ2 H2=>bx X.K tb { nx:=λL H'=>∃J G',RS X.K H' J L/\RG X.K H' G'/\Pv (i+1) J G'/\Kp (fB G1 a) (aV H1 a (EX a W)) G' H',ct:=λL H'=>∃J G',RS X.K H' J L/\RG X.K H' G'/\Pv (i+1) J G'/\Kp (fB G1 a) (aV H1 a (EX a W)) G' H',bk:=λL H'=>∃J G',RS X.K H' J L/\RG X.K H' G'/\D3.nx J (gset G' a (.dT hw O))/\Kp (fB G1 a) (aV H1 a (EX a W)) G' H',rt:=λ_ _=>False } τ2 H2) I4' rfl
     ⟨Gq O[i],σ3,G3,_,rd,rs3,rg3,step i _ σ3 G3 (by rw[MZ,MO hlt];rfl) pv,λσ5 G5 τ5 H5 q5 k5 rg5 rs5=>⟨σ5,G5,_,rs5,rg5,q5,⟨λY G6 τ6 H6 q6 k6 rg6 rs6=>⟨Y,G6,rs6,rg6,q6,kk.trans (k5.trans k6)⟩,λ_ _ _ _ q _ _ _=>q.elim,λY G6 τ6 H6 q6 k6 rg6 rs6=>⟨Y,G6,rs6,rg6,q6,kk.trans (k5.trans k6)⟩,λY G6 τ6 H6 q6 k6 rg6 rs6=>⟨Y,G6,rs6,rg6,q6,kk.trans (k5.trans k6)⟩⟩⟩⟩) λ_ s6 ⟨Y,H6,I6,q6⟩=>?_)
    refine NF hp (b_ (U _ s6 Y H6 _ I6 q6) λf s7 q7=>?_);have again:∀{τ7:St} {H7:Hp},L2.Inv X (pins ++ o0 [s1.heap.objs.size] h4) τ7 H7 s7->(∃J G',RS X.K H7 J τ7/\RG X.K H7 G'/\Pv (i+1) J G'/\Kp (fB G1 a) (aV H1 a (EX a W)) G' H7)->∃m,m < O.length - i/\∃i J L G' H',L2.Inv X pins L H' s7/\s7.heap.IsKeyIter s1.heap.objs.size a i (xs.map λx=>Value.ref x.2.1).length ep/\H' s1.heap.objs.size=none/\RS X.K H' J L/\RG X.K H' G'/\Pv i J G'/\Kp (fB G1 a) (aV H1 a (EX a W)) G' H'/\i<=O.length/\m=O.length - i:=λ{τ7 H7} I7 ⟨Z,G7,rs7,rg7,pv7,k7⟩=>by
     have pin:=I7.pin (s1.heap.objs.size,oi) (Nl _ (Nl _ (gI (by simp) ei)))
     exact⟨O.length - (i+1),by omega,i+1,Z,τ7,G7,H7,I7.unpinned,⟨oi,pin.1,ci,di⟩,pin.2.1,rs7,rg7,pv7,k7,hlt,rfl⟩
    cases f with
    | next=>obtain⟨Z,H7,I7,n7⟩:=q7;exact again I7 n7
    | cont=>obtain⟨Z,H7,I7,n7⟩:=q7;exact again I7 n7
    | brk=>
     obtain⟨Z,H7,I7,σ8,G8,rs8,rg8,q8,k8⟩:=q7;exact back I7.unpinned k8 rs8 rg8 q8
    | ret v=>obtain⟨x7,Z,H7,I7,r7,q7⟩:=q7;exact q7.elim
   .have ei:i=O.length:=by omega
    subst ei;refine NF hp (FH I3.hds ki (raw e3) (by rw[MZ,OD (by omega)];rfl) λh4 eb=>Ox ?_)
    have I4:L2.Inv X pins τ3 H3 { s3 with heap:=h4,toks:=s3.toks }:=I3.turned (λb o U e=>eb b o U e) fr3 fit.2.1 fit.2.2.2.1 fit.2.2.2.2.1 fit.2.2.2.2.2
    exact back I4 kk rs3 rg3 (fin σ3 G3 (by rw[MH];exact pv))
  | _=>exact ro.elim
 | _=>exact q1.elim
open HT PySem.SeqAt
def Ks(te:bb)(tl th I:Js):bb:=λσ G Q=>te σ G λx G1=>tl σ G1 λl G2=>th σ G2 λu L=>I σ L λst J=>match x with
 | .tup ds=>(l=none/\u=none/\st=some (-1))/\Q (.tup ds.reverse) J
 | _=>False
def GE(to:bb)(ta:lF):bb:=λσ G Q=>to σ G λx G1=>match x with
 | .tup ds=>ta σ G1 λes G2=>match es with
  | [y]=>(pl 7 y/\(∀d∈ds,pl 7 d)/\y∈ds)/\Q (.int (Eu y ds)) G2
  | _=>False
 | _=>False
def Jx(a:MF)(k:Nat)(g:tx)(tt:ou)(te:bb)(σ:eV)(ds:List D)(G1:Gp)(Q:mf):Prop:=ds.length<=MN/\∃Pv:Nat->List D->Gp->Prop,Pv 0 [] G1/\(∀i I G',Pv i I G'->G' a=some (.lst ds))/\
 (∀(i:Nat) d I G',ds[i]?=some d->Pv i I G'->g d (List.replicate k none ++ σ) G' λJ G2=>(k<=J.length/\J.drop k=σ)/\tt J G2 λb L=>if b=true then te J L λy O=>Pv (i+1) (I ++ [val y]) O else Pv (i+1) I L)/\
 ∀I G',Pv ds.length I G'->Q (.fl I) G'
def wN(k:Nat)(tl:bb)(g:tx)(tt:ou)(te:bb):bb:=λσ G Q=>tl σ G λd G1=>match d with
 | .ref a=>∃ds,G1 a=some (.lst ds)/\Jx a k g tt te σ ds G1 Q
 | d=>match eJ d with
  | some ds=>tJ k g tt te σ ds G1 Q
  | none=>False
section
variable{X:Cx}{elt tg iter:M7}{ifs:List M7}{scope:OU}{T M:List Str}{pos:Pos}{tl:bb}{g:tx}{tt:ou}{te:bb}
theorem iK{K:Pj}{τ:St}{σ:eV}{G G1:Gp}{H H1:Hp}{Q:VK}{Q3:mf}{ds:List D}{J:It}{Pv:Nat->List D->Gp->Prop}(rs:RS K H σ τ)(rg:RG K H G)(k:∀d G' v H',Q3 d G'->Kp G H G' H'->RG K H' G'->RE K G H G' H' d v->Q v H')(k1:Kp G H G1 H1)(rg1:RG K H1 G1)
  (p0:Pv 0 [] G1) (it:∀i I G' H',Pv i I G'->Kp G1 H1 G' H'->RG K H' G'->(i < ds.length->J.go i H'/\∀x H2,J.yld i H' x H2->Kp G' H' G' H2/\RG K H2 G'/\∃d,ds[i]?=some d/\RD K H2 d x)/\(i=ds.length->J.stop i H'))
  (step:∀(i:Nat) d I G',ds[i]?=some d->Pv i I G'->g d (List.replicate T.length none ++ σ) G' λL G2=>(T.length<=L.length/\L.drop T.length=σ)/\tt L G2 λb G3=>if b=true then te L G3 λy G4=>Pv (i+1) (I ++ [val y]) G4 else Pv (i+1) I G3)
  (fin:∀I G',Pv ds.length I G'->Q3 (.fl I) G') (hsz:ds.length<=MN):
  ∀Da,H1 Da=none->∃W:Nat->Nat->List V->St->Hp->Prop,(∃m,W 0 m [] (ent T τ) (aV H1 Da (.lst [])))/\
   ∀i m ys σ1 H2,W i m ys σ1 H2->H2 Da=some (.lst ys)/\((J.stop i H2/\Q (.ref Da) H2)\/(J.go i H2/\∃N:List V->St->Hp->Prop,(∀O σ' H',N O σ' H'->∃m',m' < m/\W (i+1) m' O σ' H')/\
    ∀x H',J.yld i H2 x H'->iI K g x σ1 H' λL H3=>cY K tt L H3 λb H4=>if b=true then va K te L H4 λy H5=>H5 Da=some (.lst ys)/\ys.length < MN/\N (ys ++ [y]) L (aV H5 Da (.lst (ys ++ [y])))else N ys L H4)):=by
 intro Da hD;have kD:Kp G1 H1 G1 (aV H1 Da (.lst [])):=Kp.laid hD;have rgD:RG K (aV H1 Da (.lst [])) G1:=rg1.laid hD;have gD:G1 Da=none:=rg1.free hD;refine⟨λi m ys τ2 H2=>m=ds.length - i/\i<=ds.length/\∃I G2,H2 Da=some (.lst ys)/\G2 Da=none/\RG K H2 G2/\RS K H2 (List.replicate T.length none ++ σ) τ2/\RDs K H2 I ys/\I.length<=i/\Pv i I G2/\(∀a h,a≠Da->H1 a=some h->G1 a=none->H2 a=some h/\G2 a=none),
  ⟨ds.length,rfl,NH _,[],G1,aG,gD,rgD,Du T (rs.mono ((k1.trans kD).stb rg)),RDs.nil,le_refl _,p0,λa h ha e n=>⟨by rw[ao ha];exact e,n⟩⟩,?_⟩
 rintro i m ys τ2 H2 ⟨rfl,hi',I,G2,eD,nD,U,rs2,ra,la,pv,k2⟩
 have k2':Kp G1 H1 G2 H2:=λa h e n=>k2 a h (bw e hD) e n;refine⟨eD,?_⟩;obtain⟨hgo,hstop⟩:=it i I G2 H2 pv k2' U
 by_cases hlt:i < ds.length
 .obtain⟨go,yld⟩:=hgo hlt;refine .inr ⟨go,λO τ' H'=>∃I G',H' Da=some (.lst O)/\G' Da=none/\RG K H' G'/\RS K H' (List.replicate T.length none ++ σ) τ'/\RDs K H' I O/\I.length<=i+1/\Pv (i+1) I G'/\(∀a h,a≠Da->H1 a=some h->G1 a=none->H' a=some h/\G' a=none),
   λO τ' H' q'=>⟨ds.length - (i+1),by omega,rfl,hlt,q'⟩,λx H3 y=>?_⟩
  obtain⟨ky,rgy,d,hd,rd⟩:=yld x H3 y;refine⟨d,List.replicate T.length none ++ σ,G2,_,rd,rs2.mono (ky.stb U),rgy,step i d I G2 hd pv,λσ4 G4 τ4 H4 q4 k4 Y rs4=>?_⟩;obtain⟨⟨hlen,hdrop⟩,q4⟩:=q4;have Z:RS K H4 (List.replicate T.length none ++ σ) τ4:=by
   have:=oQ T.length hlen rs4;rw[hdrop]at this;exact this
  refine⟨σ4,G4,_,rs4,Y,q4,λb G5 H5 q5 k5 rg5=>?_⟩;have e3:H3 Da=some (.lst ys):=(ky Da _ eD nD).1;have e4:=k4 Da _ e3 nD;have e5:=k5 Da _ e4.1 e4.2;have kk:∀{G6:Gp} {H6:Hp},Kp G5 H5 G6 H6->∀a h,a≠Da->H1 a=some h->G1 a=none->H6 a=some h/\G6 a=none:=λk6 a h ha e n=>((((Kp.trans k2' ky).trans k4).trans k5).trans k6) a h e n;cases b with
  | false=>
   refine iteF ⟨I,G5,e5.1,e5.2,rg5,Z.mono (k5.stb Y),RDs.mono (((ky.trans k4).trans k5).stb U) _ _ ra,by omega,q5,kk Kp.refl⟩
  | true=>
   refine iteT ⟨σ4,G5,_,rs4.mono (k5.stb Y),rg5,q5,λyv G6 v H6 q6 k6 rg6 rd6=>?_⟩;have e6:=k6 Da _ e5.1 e5.2;have la':=ra.length;have st:Stb K H6 (aV H6 Da (.lst (ys ++ [v]))):=by
    constructor
    .intro a zs q;rcases q with (q|⟨o,q⟩)|q
     .exact .inl (.inl (by rw[ao (λz=>by subst z;rw[e6.1]at q;cases q)];exact q))
     .exact .inl (.inr ⟨o,by rw[ao (λz=>by subst z;rw[e6.1]at q;cases q)];exact q⟩)
     .exact .inr q
    .intro a zs q;rcases q with ⟨o,q⟩|q
     .exact .inl ⟨o,by rw[ao (λz=>by subst z;rw[e6.1]at q;cases q)];exact q⟩
     .exact .inr q
   refine⟨e6.1,by omega,I ++ [val yv],G6,aG,e6.2,λa o q=>?_,(Z.mono ((k5.trans k6).stb Y)).mono st,?_,by simp;omega,q6,λa h ha e n=>?_⟩
   .obtain⟨h',q1,q2⟩:=rg6 a o q;exact⟨h',by rw[ao (λz=>by subst z;rw[e6.2]at q;cases q)];exact q1,q2.mono st⟩
   .exact RDs.append (RDs.mono st _ _ (RDs.mono ((((ky.trans k4).trans k5).trans k6).stb U) _ _ ra)) (RDs.cons (RD.mono st _ _ rd6) RDs.nil)
   .rw[ao ha];exact kk k6 a h ha e n
 .have e:i=ds.length:=by omega
  refine .inl ⟨hstop e,k _ G2 _ H2 (fin I G2 (by rw[<- e];exact pv)) (k1.trans k2') U (.inl ⟨I,Da,ys,rfl,rfl,eD,nD,ra,?_⟩)⟩
  exact k1.fr (qP hD)
def Kl(K:Pj)(te:bb):TI:=λτ H R=>∃σ G I,RS K H σ τ/\RG K H G/\te σ G I/\∀d G1 H1,I d G1->Kp G H G1 H1->RG K H1 G1->match d with
  | .ref a=>(∃ds,G1 a=some (.lst ds))/\R (K3 K a) H1
  | d=>∃ds,eJ d=some ds/\∀J,uD K G1 H1 ds J->R J H1
theorem FS{e:M7}{te:bb}(h:PE X e (aB X.K te)):PI X tg e (Kl X.K te):=A2 h
theorem Ay{K:Pj}{τ:St}{H:Hp}{Q:VK}(h:aB K (wN T.length tl g tt te) τ H Q):AR (ent T) (Kl K tl) (iI K g) (cY K tt) (va K te) τ H Q:=by
 obtain⟨σ,G,Q3,Z,rg,h,k⟩:=h;refine⟨σ,G,_,Z,rg,h,λd G1 H1 q k1 O=>?_⟩;cases d with
 | ref a=>
  obtain⟨ds,hg,L,Pv,W,live,step,fin⟩:=q;refine⟨⟨ds,hg⟩,iK Z rg k k1 O W (λi U G' H' pv Y I=>?_) step fin L⟩;obtain⟨xs,e1,r⟩:=sm I (live i U G' pv);have hl:=r.length;refine⟨λhi=>⟨⟨xs,xs[i]'(by omega),ij.of e1,by simp[show i < xs.length by omega]⟩,λx H2 y=>?_⟩,λe=>⟨xs,ij.of e1,by omega⟩⟩
  obtain⟨rfl,hx⟩:=y;refine⟨Kp.refl,I,ds[i],by simp[hi],?_⟩
  obtain⟨y,e,q⟩:=r.get (i:=i) (d:=ds[i]) (by simp[hi])
  rw[hx xs (ij.of e1)]at e;cases e;exact q
 | lst ds=>
  obtain⟨L,Pv,W,step,fin⟩:=q;exact⟨_,rfl,λJ it=>iK Z rg k k1 O W (λi U G' H' _ Y I=>it i G' H' Y I) step fin L⟩
 | fl ds=>
  obtain⟨L,Pv,W,step,fin⟩:=q;exact⟨_,rfl,λJ it=>iK Z rg k k1 O W (λi U G' H' _ Y I=>it i G' H' Y I) step fin L⟩
 | tup ds=>
  obtain⟨L,Pv,W,step,fin⟩:=q;exact⟨_,rfl,λJ it=>iK Z rg k k1 O W (λi U G' H' _ Y I=>it i G' H' Y I) step fin L⟩
 | str z=>
  obtain⟨L,Pv,W,step,fin⟩:=q;exact⟨_,rfl,λJ it=>iK Z rg k k1 O W (λi U G' H' _ Y I=>it i G' H' Y I) step fin L⟩
 | _=>exact q.elim
theorem F4(ok:CompOk X scope T M)
  (I:∀cl C s₀ H₀ fp,PG (bD X (T ++ M) scope cl C s₀ H₀ fp) tg (iI X.K g)/\Fd (bD X (T ++ M) scope cl C s₀ H₀ fp) ifs (cY X.K tt)/\PE (bD X (T ++ M) scope cl C s₀ H₀ fp) elt (aB X.K te))
  (hi:PE X iter (aB X.K tl)) (hs:∀x,NO iter X.env x=pure x:=by intro _;rfl):PE X (.ListComp elt [⟨tg,iter,ifs,0⟩] scope pos) (aB X.K (wN T.length tl g tt te)):=
 (A4 ok (λcl C s₀ H₀ fp=>let ⟨a,b,c⟩:=I cl C s₀ H₀ fp;⟨a,b,dD c⟩) (FS hi) hs).imp λ_ _ _ h=>Ay h
end
open PySem.W
abbrev jb(C t:MF):Obj:={ cls:=.ref C,data:=.fields #[.ref t,.none,.none,.none,.bool false,.none] }
abbrev gl(h:MY)(C:MF)(rest:List MC):MY:=(h.push { cls:=.type "tuple",data:=.seq rest.toArray }).push (jb C h.objs.size)
section
variable{prog:MR}{w:M4}{A:MS}{K:Pj}{h:MY}{g:Array GenState}{d:Drawn}{t:Nat}{os:OsState}{R:PK->MD->Prop}
variable{nm q:Str}{C N fI:MF}{bs bm bmB:List MC}{hdct:Bool}{sn:List Str}{sub:List MC}{ab:Bool}{col:Option Bool}{dd:Option MF}{k0 k1 k2 k3 k5:Option MC}{B newId Tp:String}{rest:List MC}
theorem GA(F:ExcBaseFacts B newId Tp bmB)(T:OwnTail h bmB bm)(I:h.get? C=some (Rv nm q C N bs bm hdct sn sub ab col dd k0 k1 k2 k3 k5 newId))(X:K.In h)
  (hi:Ql K (.ref C) "__init__"=some (some (.ref fI))) (Z:typeIn K (.ref fI)=some (.type "function")) (SS:rest.length<=MN)
  (hq:N4 (MK prog w) (A.under (.builtin "type.__call__" ⟨.ref C::rest,[]⟩)) (.call (.ref fI) ⟨.ref (h.objs.size+1)::rest,[]⟩) (InitBack (h.objs.size+1) R) ⟨gl h C rest,g,d,t,os⟩):
  N4 (MK prog w) A (.call (.ref C) ⟨rest,[]⟩) R ⟨h,g,d,t,os⟩:=by
 have f1:=tc_lookup;have f2:=tc_bind (.ref C);have hT:(⟨h,g,d,t,os⟩:MD).TypeIs (.ref C) "type":=⟨_,I,rfl⟩;refine codeAny_of_tree ?_;show MJ _ _ (callAny (.ref C) _) _ _ _
 repeat (any_goals (first|assumption|with_reducible refine Pl I ?_|wp_step))
 refine⟨rfl,?_⟩;refine codeAny_call_builtin_at (R9 _ (by decide +kernel)) entry_typeCall (wpAny_check_type_call_sub I ?_)
 repeat (first|with_reducible refine Pl I ?_|with_reducible refine wpAny_madeBy_exc I ?_|wp_step)
 refine codeAny_call_builtin_code (R9 _ F.quiet) (wpAny_check_new_subT F T I ?_);refine codeAny_exc_new_subT F T I ?_ SS;show MJ (MK prog w) (A.under (.builtin "type.__call__" ⟨.ref C::rest,[]⟩)) _ _ _ ⟨gl h C rest,g,d,t,os⟩
 have k:∀b o,h.get? b=some o->(gl h C rest).get? b=some o:=λb o e=>ME _ (ME _ e);have Y:(gl h C rest).get? (h.objs.size+1)=some (jb C h.objs.size):=by heap_get
 have L:=k _ _ I;have J:(Value.ref C::bm).contains (.ref C)=true:=by simp
 have i1:QM (MK prog w) (gl h C rest) (Py (.ref C) "__init__") (some (.ref fI)):=(Qr X hi).keeps k;have b1:QM (MK prog w) (gl h C rest) (bindSpecial (.ref fI) (.ref (h.objs.size+1))) (.ref fI,[.ref (h.objs.size+1)]):=(bind_fn X _ Z).keeps k;have t1:QM (MK prog w) (gl h C rest) (typeOf (.ref (h.objs.size+1))) (.ref C):=(Looks.ld Y).andThen .now;have s1:QM (MK prog w) (gl h C rest) (isSubtype (.ref C) (.ref C)) true:=λA Q E s W O=>by
  obtain⟨hh,g',d',t',U⟩:=s;refine RF (W _ _ L) ?_;rw[J];exact O
 unfold PB callSpecial? specialOf
 repeat (first|with_reducible refine OY ?_|simp only[J,Bool.not_true,Bool.false_eq_true,if_false]|lk)
 refine Og hq λr s' z=>?_;rcases r with e|(v|_|_|_)<;>first|exact z|exact z.elim|skip
 obtain⟨rfl,z⟩:=z;exact MG (MG z)
end
section
open Builtin Builtin.ObjectAttr
variable{prog:MR}{w:M4}{A:MS}{K:Pj}{s:MD}{x C:MF}{o:Obj}{cd:ClassData}{name:Str}{v:MC}
theorem F5{tk:Tok}{R:PK->MD->Prop}(X:K.In s.heap)(I:Ug s.heap x o C none)(U:clsIn K C=some cd)(hp:refuseLoop (.ref x) "__setattr__" cd.mro=pure ())(ho:cd.mro.contains (.type "object")=true)(ne:cd.mro.isEmpty=false)(Y:takerIn K C name=some none)
  (h:∀b,MJ (MK prog w) A.in1 (storeInOwnDict (.ref x) (.ref C) (.str name tk) name v b) (λfin s'=>match fin with|.done f=>R (.ok f) s'|.again W=>W.quiet=true/\N4 (MK prog w) A W R s') (λe s'=>R (.error e) s') s):
  N4 (MK prog w) A (.call (.builtin "object.__setattr__") ⟨[.ref x,.str name tk,v],[]⟩) R s:=by
 have SF:=PySem.F.store_object;have O:QM (MK prog w) s.heap (PB (.ref x) (.type "object")) true:=I.type.andThen (Rt X (by unfold mroIn;rw[U,Option.bind_some,if_neg (by rw[ne];decide),ho]))
 refine P5 SF.slot.plain SF.entry (@R1 (MK prog w) _ _ s "object.__setattr__" "object" "__setattr__" (.ref x) [.str name tk,v] [] _ SF.kind SF.split O (SF.args (.ref x) (.str name tk) v) ?_);obtain⟨attr,ha,Z⟩:=Option.bind_eq_some_iff.mp Y;have L:QM (MK prog w) s.heap (mroOf (.ref C)) cd.mro:=(looks_clsIn X U).andThen .now;have J:QM (MK prog w) s.heap (PySem.Builtin.ObjectAttr.storeTaker? attr) none:=by
  cases attr with
  | none=>exact .now
  | some a=>
   obtain⟨b,hb,e⟩:=Option.map_eq_some_iff.mp Z;refine (looks_takesIn X hb).andThen ?_;cases b with
   | true=>cases e
   | false=>exact .now
 rw[osa_eq,refuse_eq];refine MB (MB (I.type.here (MB (L.here ?_))));rw[hp];exact MG (MB (I.type.here (MB ((Qr X ha).here (MB (J.here (h _)))))))
theorem set_exc{E:MC->MD->Prop}{Q:Unit->MD->Prop}(X:K.In s.heap)(Y:s.heap.get? x=some o)(O:o.cls=.ref C)(J:notCls o=true)(L:o.dict=none)(hs:Ql K (.ref C) "__setattr__"=some (some (.builtin "object.__setattr__")))
  (hc:clsIn K C=some cd) (hd:cd.hasDict=true) (hp:refuseLoop (.ref x) "__setattr__" cd.mro=pure ()) (ho:cd.mro.contains (.type "object")=true) (ne:cd.mro.isEmpty=false) (ht:takerIn K C name=some none)
  (h:∀h' tk,h'.get? x=some { o with dict:=some s.heap.objs.size }->h'.Ns1 s.heap.objs.size (λy=>if y=name then some v else none)->(∀b ob,b≠x->s.heap.get? b=some ob->h'.get? b=some ob)->Q () { s with heap:=h',toks:=tk }):
  MJ (MK prog w) A (Sc (.ref x) name v) Q E s:=by
 have I:Ug s.heap x o C none:=⟨Y,O,J,by rw[L];trivial⟩
 have hnc:∀c,o.data≠.cls c:=λc e=>by unfold notCls at J;rw[e]at J;cases J
 refine set_plain X I hs (F5 (s:={ s with toks:=s.toks+1 }) X I hc hp ho ne ht λb=>?_)
 have W:(s.heap.push { cls:=.type "dict",data:=.dict #[] }).get? x=some o:=ME _ Y;have yJ:x≠s.heap.objs.size:=M6 (ML Y);have fin:MJ (MK prog w) A.in1 (storeInDict s.heap.objs.size (.str name s.toks) name v) (λfin s'=>match fin with
   | .done f=>(match (Except.ok f:PK) with|.ok (.ret _)=>Q () s'|.ok _=>False|.error e=>E e s')
   | .again c'=>c'.quiet=true/\N4 (MK prog w) A c' (λr s'=>match r with|.ok (.ret _)=>Q () s'|.ok _=>False|.error e=>E e s') s')
   (λe s'=>match (Except.error e:PK) with|.ok (.ret _)=>Q () s'|.ok _=>False|.error e=>E e s')
   { s with heap:=(s.heap.push { cls:=.type "dict",data:=.dict #[] }).update x λo=>{ o with dict:=some s.heap.objs.size },toks:=s.toks+1 }:=by
  have gd:((s.heap.push { cls:=.type "dict",data:=.dict #[] }).update x λo=>{ o with dict:=some s.heap.objs.size }).get? s.heap.objs.size=some { cls:=.type "dict",data:=.dict #[] }:=
   (RK _ _ _ _ yJ.symm).trans (Heap.get?_push_at rfl rfl)
  have nd:((s.heap.push { cls:=.type "dict",data:=.dict #[] }).update x λo=>{ o with dict:=some s.heap.objs.size }).Ns s.heap.objs.size (λ_=>none):=⟨_,#[],_,gd,rfl,λe he=>absurd he (by simp),λ_=>rfl⟩
  unfold storeInDict newKeyGuard;refine MB (MG (MB (wpAny_nsSet1 (Sh nd) λh' hn' Z=>?_)));obtain⟨oD,esD,epD,hoD,hdD,hcD⟩:=hn'.count (Within.cons name v Within.nil);refine MB (wpAny_lookBehind hoD (by rw[hdD];exact pastItsLine_dict (le_trans hcD (by rw[MU,Np,NK];omega))) ?_)
  refine MG (h h' _ ?_ hn' λb ob hb e=>?_)
  .refine (Z.2 x yJ).trans (Nk _ W ?_);have hfr:=(Heap.get?_some_iff.mp Y).2;obtain⟨oc,od,U,osl⟩:=o;cases U<;>first|rfl|exact hfr
  .exact (Z.2 b (M6 (ML e))).trans ((RK _ _ _ _ hb).trans (ME _ e))
 obtain⟨oc,od,U,osl⟩:=o;dsimp only at O L;subst O L;unfold storeInOwnDict;refine MB (MG ?_);show MJ _ _ (ownDictForStores (.ref x) >>= _) _ _ _
 refine MB ?_;unfold ownDictForStores instanceDict;refine MB (QR Y ?_);dsimp only;refine MB (Looks.here (s:={ s with toks:=s.toks+1 }) (looks_clsIn X hc) ?_)
 rw[hd,if_neg (by decide),if_neg (by simp[typeHasDict])]
 split
 .exact absurd rfl (hnc _)
 .refine MB (wpAny_alloc ?_);refine MB (wpAny_update (s:={ s with heap:=s.heap.push { cls:=.type "dict",data:=.dict #[] },toks:=s.toks+1 }) W ?_)
  exact MG fin
end
section
variable{M:Rz}{A:MS}{E:MC->MD->Prop}{env:Env}{nm q:Str}{C N:MF}{bs bm:List MC}{hdct:Bool}{sn:List Str}{sub:List MC}{ab:Bool}{col:Option Bool}{dd:Option MF}{k0 k1 k2 k3 k5:Option MC}{newId:String}
theorem BL{s:MD}{x:Sem MC}{Q:Flow->MD->Prop}(Z:bm.contains (.type "BaseException")=true)(U:A.handled=none)
  (h:MJ M A x (λv I=>∃e t dx,v=.ref e/\I.heap.get? C=some (Rv nm q C N bs bm hdct sn sub ab col dd k0 k1 k2 k3 k5 newId)/\I.heap.get? e=some { cls:=.ref C,dict:=dx,data:=.fields #[.ref t,.none,.none,.none,.bool false,.none] }/\E (.ref e) I) E s):
  MJ M A (raiseStmt env (some x) none) Q E s:=by
 have L:(Value.ref C::bm).contains (.type "BaseException")=true:=by rw[List.contains_cons,Z,Bool.or_true]
 unfold raiseStmt;refine MB (Nf h (λv I J=>?_) λ_ _ x=>x);obtain⟨e,t,dx,rfl,O,W,Y⟩:=J;obtain⟨hp,g,d,tk,os⟩:=I
 repeat (first|with_reducible refine Pl W ?_|with_reducible refine Pl O ?_|(with_reducible refine RF O ?_;rw[L])|wp_step)
 exact wpAny_raiseNew_none U Y
end
end L3
namespace L2
open PySem PySem.Spec PyProof.Rows
structure Noted(fs:List MF)(x:MF)(oe:Obj)(vs:Array MC)(h h':MY):Prop where
 keep:∀b o,b∉fs->b≠x->(∀T,vs[1]?=some (.ref T)->b≠T)->h.get? b=some o->h'.get? b=some o
 slot:∀b o,b∈fs->h.get? b=some o->∃sl,h'.get? b=some { o with slots:=sl }
 there:∀b o,h.get? b=some o->∃o',h'.get? b=some o'
 exc:∃T oT ts,h'.get? x=some (oe.mapFields (·.setIfInBounds 1 (.ref T)))/\h.objs.size<=T/\T≠x/\h'.get? T=some oT/\oT.data=.fields ts/\ts[3]?=some .none
section
variable{M:Rz}{A:MS}{E:MC->MD->Prop}{s:MD}
theorem sZ{base:MY}{env:Env}{outer:List Env}{L x:MF}{oe:Obj}{vs:Array MC}{head:MC}{SZ:Bool}{Q:Unit->MD->Prop}
  (hfr:A.frames=some (env::outer)) (hl:s.heap.FunFrames base (env::outer)) (hf:env.frame=some L) (he:s.heap.get? x=some oe) (hd:oe.data=.fields vs) (hsz:1 < vs.size)
  (h:∀h',Noted ((env::outer).filterMap (·.frame)) x oe #[] s.heap h'->Q () { s with heap:=h' }):
  MJ M A (do let a <- frameOf env;let pl <- entryPlaceOf L SZ;let b <- RM head a .none (Ob L) .none pl;QT (.ref x) 1 b) (λ_ s'=>MJ M A (Q7 (.ref x) none) Q E s') E s:=by
 have TH:x∉(env::outer).filterMap (·.frame):=λhm=>by
  obtain⟨_,o,ho,hnf⟩:=hl.mem hm;rw[he]at ho;injection ho with ho;subst ho;exact hnf vs hd
 refine MB (wpAny_frameOf_fun hfr hl hf λI J=>?_);refine MB (wpAny_entryPlaceOf λpl hpl=>?_);unfold RM newFields;refine MB (Nh ?_ (hpl.sizeOk5 _ _ _ _ _));have W:I.get? x=some oe:=(J.2.1 x TH).trans he;generalize hob:({ cls:=.type "traceback",dict:=none,data:=.fields ([head,.ref L,.none,Ob L,.none] ++ (if pl.isEmpty then List.replicate 6 Value.none else pl)).toArray }:Obj)=ob
 have hod:ob.data=.fields ([head,.ref L,.none,Ob L,.none] ++ (if pl.isEmpty then List.replicate 6 Value.none else pl)).toArray:=by rw[<- hob]
 have T4:ob.isFreed=false:=NQ hod;have U:=ME (h:=I) ob W;refine Nw U hd hsz ?_;have hTe:I.objs.size≠x:=OB (ML W);have Y:=Nv hd (·.setIfInBounds 1 (Value.ref I.objs.size));have O:=Nk (Nb (·.setIfInBounds 1 (Value.ref I.objs.size))) U (NQ Y);have Z:=(MV (I.push ob) (Nb (·.setIfInBounds 1 (Value.ref I.objs.size))) (Ne.symm hTe)).trans (MM I T4);have hs3:3 < ([head,.ref L,.none,Ob L,.none] ++ (if pl.isEmpty then List.replicate 6 Value.none else pl)).toArray.size:=by
  simp only[M1,Nt,MU,Np];omega
 unfold Q7;refine MB (M3 O Y (x:=.ref I.objs.size) (by simp[hsz]) ?_)
 rw[if_pos (show (Value.ref I.objs.size != Value.none)=true from by simp)]
 refine Nw Z hod hs3 (h _ ?_);have keep:∀b o,b≠x->I.get? b=some o->
   (((I.push ob).update x (Nb (·.setIfInBounds 1 (Value.ref I.objs.size)))).update I.objs.size (Nb (·.setIfInBounds 3 ((none:Option MF).elim Value.none λf=>Ob f)))).get? b=some o:=λb o hbe hb=>by
  have hbT:I.objs.size≠b:=OB (ML hb);rw[MV _ _ hbT,MV _ _ (Ne.symm hbe)];exact ME _ hb
 have hx':(((I.push ob).update x (Nb (·.setIfInBounds 1 (Value.ref I.objs.size)))).update I.objs.size (Nb (·.setIfInBounds 3 ((none:Option MF).elim Value.none λf=>Ob f)))).get? x=some (oe.mapFields (·.setIfInBounds 1 (.ref I.objs.size))):=by
  rw[MV _ _ hTe];exact O
 refine⟨λb o hb hbx _ e=>keep b o hbx ((J.2.1 b hb).trans e),λb o hb e=>?_,λb o e=>?_,I.objs.size,_,_,hx',PY J.1.symm,hTe,Nk _ Z (NQ (Nv hod _)),Nv hod _,?_⟩
 .obtain⟨sl,hsl⟩:=J.2.2 b o e;exact⟨sl,keep b _ (λz=>TH (z ▸ hb)) hsl⟩
 .by_cases hbx:b=x
  .exact⟨_,by rw[hbx];exact hx'⟩
  .obtain⟨sl,hsl⟩:=J.2.2 b o e;exact⟨_,keep b _ hbx hsl⟩
 .rw[Array.getElem?_setIfInBounds_self_of_lt hs3];rfl
def AJ(h:MY)(x:MF)(vs:Array MC):Prop:=vs[1]?=some .none\/∃T J I,vs[1]?=some (.ref T)/\T≠x/\h.get? T=some J/\J.data=.fields I/\I[3]?=some .none
theorem u7{base:MY}{env:Env}{outer:List Env}{L x:MF}{oe:Obj}{vs:Array MC}{Q:Unit->MD->Prop}
  (Y:A.frames=some (env::outer)) (hl:s.heap.FunFrames base (env::outer)) (hf:env.frame=some L) (he:s.heap.get? x=some oe) (hd:oe.data=.fields vs) (hH:AJ s.heap x vs)
  (h:∀h',Noted ((env::outer).filterMap (·.frame)) x oe vs s.heap h'->Q () { s with heap:=h' }):
  MJ M A (noteFrame (.ref x) env) (λ_ s'=>MJ M A (Q7 (.ref x) none) Q E s') E s:=by
 unfold noteFrame;simp only[hf];rcases hH with h1|⟨T,oT,ts,h1,hTx,Z,J,h3⟩
 .have O:1 < vs.size:=(Array.getElem?_eq_some_iff.mp h1).1;refine MB (M3 he hd h1 ?_);rw[if_neg (by decide)]
  exact sZ Y hl hf he hd O λh' N=>h h' ⟨λb o I hx _ e=>N.keep b o I hx (λT z=>by simp at z) e,N.slot,N.there,N.exc⟩
 .have O:1 < vs.size:=(Array.getElem?_eq_some_iff.mp h1).1;have hs3:3 < ts.size:=(Array.getElem?_eq_some_iff.mp h3).1;refine MB (M3 he hd h1 ?_);rw[if_pos (show (Value.ref T != Value.none)=true from by simp)]
  refine MB (M3 Z J h3 ?_);rw[if_neg (by simp[Ob])]
  refine MB (Nw Z J hs3 ?_);have hdT:=Nv J (·.setIfInBounds 3 Value.none);have W:∀b o,b≠T->s.heap.get? b=some o->(s.heap.update T (Nb (·.setIfInBounds 3 Value.none))).get? b=some o:=λb o I e=>(MV _ _ (Ne.symm I)).trans e;have hTT:=Nk (Nb (·.setIfInBounds 3 Value.none)) Z (NQ hdT);have nf:∀b,b∈(env::outer).filterMap (·.frame)->b≠T:=λb I z=>by
   obtain⟨_,o,ho,U⟩:=hl.mem I;rw[z,Z]at ho;injection ho with ho;subst ho;exact U ts J
  have hl':(s.heap.update T (Nb (·.setIfInBounds 3 Value.none))).FunFrames base (env::outer):=hl.of_keeps λb o I U=>⟨o,W b o (λz=>by rw[z,Z]at I;injection I with I;subst I;exact U ts J) I,rfl⟩
  refine sZ (s:={ s with heap:=s.heap.update T (Nb (·.setIfInBounds 3 Value.none)) }) Y hl' hf (W x oe (Ne.symm hTx) he) hd O λh' N=>h h' ⟨λb o I hx ht e=>N.keep b o I hx (λ_ z=>by simp at z) (W b o (ht T h1) e),λb o I e=>N.slot b o I (W b o (nf b I) e),λb o e=>?_,?_⟩
  .by_cases I:b=T
   .exact N.there b _ (by rw[I];exact hTT)
   .exact N.there b o (W b o I e)
  .obtain⟨T',oT',ts',q1,q2,q3⟩:=N.exc;exact⟨T',oT',ts',q1,le_trans (PY (Heap.size_update ..).symm) q2,q3⟩
end
def L6(n:Nat)(H:Hp)(h:MY)(x C dx:MF):Prop:=n<=x/\H x=none/\∃I vs,h.get? x=some I/\I.cls=.ref C/\I.dict=some dx/\I.data=.fields vs/\vs[2]?=some .none/\
 (vs[1]?=some .none\/∃T L J,vs[1]?=some (.ref T)/\T≠x/\n<=T/\H T=none/\h.get? T=some L/\L.data=.fields J/\J[3]?=some .none)
def CM(P:MR)(w:M4):E9:=λouter H s E e s'=>∃x C dx H',e=.ref x/\s'.os=s.os/\Po s'.gens/\Un (vf outer) [] H H' s.heap s'.heap/\lb P w H' s'.heap/\L6 s.heap.objs.size H' s'.heap x C dx/\s.heap.get? dx=none/\E (.ref C) (some dx) H'
theorem kq{o:Obj}{vs:Array MC}{f:Array MC->Array MC}(hd:o.data=.fields vs):(o.mapFields f).dict=o.dict:=by
 obtain⟨c,d,I,sl⟩:=o;obtain rfl:I=.fields vs:=hd;rfl
section
variable{X:Cx}{pins:List (MF×Obj)}{σ:St}{H:Hp}{s:MD}{E:XK}{x C dx:MF}
theorem A7{env:Env}{outer:List Env}{L b:MF}(I:env.frame=some L)(h:b∈(env::outer).filterMap (·.frame)):b=L\/b∈vf outer:=by
 rw[NJ,I]at h;exact NC.mp h
theorem Inv.noted{h':MY}{J:Obj}{vs:Array MC}{n:Nat}(I:Inv X pins σ H s)(N:Noted (vf X.stack) x J vs s.heap h')(hn:n<=s.heap.objs.size)(h0:n<=x)(W:H x=none)(he:s.heap.get? x=some J)(hc:J.cls=.ref C)(L:J.dict=some dx)(hd:J.data=.fields vs)(h2:vs[2]?=some .none)(hsz:1 < vs.size)
  (hT:∀T,vs[1]?=some (.ref T)->H T=none):lb X.prog X.w H h'/\L6 n H h' x C dx:=by
 refine⟨λb u e=>?_,h0,W,?_⟩
 .have un:∀c v,H c=some v->c∉vf X.stack/\c≠x/\∀T,vs[1]?=some (.ref T)->c≠T:=λc v q=>
   ⟨(λz=>by rw[I.stkFree c z]at q;cases q),(λz=>by rw[z,W]at q;cases q),(λT t z=>by rw[z,hT T t]at q;cases q)⟩
  refine (I.hok b u e).stay (λc v O q=>?_) (λ_ q=>q) λ_ _ q=>q;rcases O with z|z
  .obtain⟨a1,a2,a3⟩:=un b u e;rw[z]at q ⊢;exact N.keep b v a1 a2 a3 q
  .obtain⟨a1,a2,a3⟩:=un c _ z;exact N.keep c v a1 a2 a3 q
 .obtain⟨T,oT,Y,q1,U,q3,q4,q5,Z⟩:=N.exc;refine⟨_,_,q1,(OV _ _).trans hc,(kq hd).trans L,Nv hd _,by simp[h2],.inr ⟨T,oT,Y,by simp[hsz],q3,le_trans hn U,I.hok.fresh U,q4,q5,Z⟩⟩
theorem Em(I:Inv X pins σ H s)(L:X.stack=X.env::X.outer)(hf:X.env.frame=some X.env.locals)(hex:X.ex=[])(F:L6 X.s₀.heap.objs.size H s.heap x C dx)(T6:X.s₀.heap.get? dx=none)(q:E (.ref C) (some dx) H):
  MJ (MK X.prog X.w) X.A (Sd X.env (.ref x)) (λ_ J=>CM X.prog X.w X.outer X.H₀ X.s₀ E (.ref x) J) (λe' J=>CM X.prog X.w X.outer X.H₀ X.s₀ E e' J) s:=by
 obtain⟨h0,hx,oe,vs,he,hc,hdx,hd,h2,Z⟩:=F;have Y:1 < vs.size:=by
  rcases Z with z|⟨T,_,_,z,_⟩
  .exact (Array.getElem?_eq_some_iff.mp z).1
  .exact (Array.getElem?_eq_some_iff.mp z).1
 have hH:AJ s.heap x vs:=by
  rcases Z with z|⟨T,oT,ts,O,z2,z3,z4,z5,z6,z7⟩
  .exact .inl z
  .exact .inr ⟨T,oT,ts,O,z2,z5,z6,z7⟩
 have W:∀T,vs[1]?=some (.ref T)->X.s₀.heap.objs.size<=T/\H T=none:=λT z=>by
  rcases Z with O|⟨T',oT,ts,O,z2,z3,z4,z5,z6,z7⟩
  .rw[O]at z;cases z
  .rw[O]at z;cases z;exact⟨z3,z4⟩
 have SR:=I.stack;rw[L]at SR;unfold Sd;refine MB (u7 (base:=X.base) (by rw[I.ok.frames,L]) SR hf he hd hH λh' N=>?_)
 have N':Noted (vf X.stack) x oe vs s.heap h':=by rw[L];exact N
 obtain⟨hok,fly⟩:=I.noted N' I.sz h0 hx he hc hdx hd h2 Y λT z=>(W T z).2;have hL:X.s₀.heap.objs.size<=X.env.locals:=I.ok.above;refine⟨x,C,dx,H,rfl,I.os,I.bare,⟨λb o e n U _=>?_,λb o e n U _=>?_,λb o e n _=>I.base.free b o e n (by rw[hex];simp),λb o e _=>?_,I.base.tups,I.base.frzs,I.base.tbls⟩,hok,fly,T6,q⟩
 .have lt:b < X.s₀.heap.objs.size:=ML e;refine N.keep b o (λz=>?_) (λz=>not_lt.mpr h0 (z ▸ lt)) (λT z w=>not_lt.mpr (W T z).1 (w ▸ lt)) (I.base.keep b o e n U (by rw[hex];simp))
  rcases A7 hf z with z|z
  .exact not_lt.mpr hL (z ▸ lt)
  .exact U z
 .obtain⟨sl,e1⟩:=I.base.slot b o e n U (by rw[hex];simp)
  obtain⟨sl',e2⟩:=N.slot b _ (by rw[NJ,hf];exact MQ _ U) e1
  exact⟨sl',e2⟩
 .obtain⟨o',e1⟩:=I.base.there b o e (by rw[hex];simp)
  exact N.there b o' e1
end
open L3
def veMro:List MC:=[.type "ValueError",.type "Exception",.type "BaseException",.type "object"]
structure XMk(K:Pj)(C f:MF)(a:Str):Prop where
 obj:∃nm q N bs bm hdct sn sub ab col dd k0 k1 k2 k3 k5,K.lookup C=some (Rv nm q C N bs bm hdct sn sub ab col dd k0 k1 k2 k3 k5 "ValueError.__new__")/\tailIn K veMro bm=true/\bm.contains (.type "BaseException")=true
 init:Ql K (.ref C) "__init__"=some (some (.ref f))
 fn:Ui K (.ref f)=some (.type "function")
 kp:QG K (.ref C)=true
 sa:Ql K (.ref C) "__setattr__"=some (some (.builtin "object.__setattr__"))
 cls:∃cd,PySem.W.clsIn K C=some cd/\cd.hasDict=true/\(∀x,PySem.refuseLoop (.ref x) "__setattr__" cd.mro=pure ())/\cd.mro.contains (.type "object")=true/\cd.mro.isEmpty=false
 tk:Uc K C a=some none
abbrev i_(C t dx:MF):Obj:={ cls:=.ref C,dict:=some dx,data:=.fields #[.ref t,.none,.none,.none,.bool false,.none] }
def ib(H:Hp)(a:MF):Hp:=λb=>if b=a then none else H b
theorem kZ{H:Hp}{a:MF}:ib H a a=none:=by unfold ib;rw[if_pos rfl]
theorem bX{H:Hp}{a b:MF}(h:b≠a):ib H a b=H b:=by unfold ib;rw[if_neg h]
section
variable{X:Cx}{pins:List (MF×Obj)}{σ:St}{H:Hp}{s:MD}
theorem Inv.drop{x:MF}{J:MY->Prop}(I:Inv X pins σ H s)(e:H x=some (.ext J))(hn:X.s₀.heap.objs.size<=x):Inv X pins σ (ib H x) s:=by
 have non:∀b,H b=none->ib H x b=none:=λb q=>by unfold ib;split;rfl;exact q
 refine⟨I.ok,I.os,I.bare,⟨I.base.keep,I.base.slot,λb o q n z=>non b (I.base.free b o q n z),I.base.there,λb xs q=>?_,λb o u q=>?_,λb ps q=>?_⟩,I.loc,I.cell,non _ I.free,λy c q=>non c (I.freeC y c q),λp L=>?_,λb u q=>?_,I.len⟩
 .have:=I.base.tups b xs q;rw[bX (λz=>by rw[z,e]at this;cases this)];exact this
 .have:=I.base.frzs b o u q;rw[bX (λz=>by rw[z,e]at this;cases this)];exact this
 .obtain⟨more,this⟩:=I.base.tbls b ps q;exact⟨more,by rw[bX (λz=>by rw[z,e]at this;cases this)];exact this⟩
 .obtain⟨a,b,c⟩:=I.pin p L;exact⟨a,non _ b,c⟩
 .have O:b≠x:=λz=>by rw[z,kZ]at q;cases q
  rw[bX O]at q;refine (I.hok b u q).stay (λ_ _ _ z=>z) (λc z=>?_) λc ys z=>?_
  .rw[bX (λy=>by rw[y,e]at z;cases z)];exact z
  .rw[bX (λy=>by rw[y,e]at z;cases z)];exact z
theorem Inv.xset{x C t f:MF}{a:Str}{v:V}{u:MC}{Q:Unit->MD->Prop}{E:MC->MD->Prop}(M:XMk X.K C f a)(I:Inv X pins σ H s)(e:H x=some (XO x (jb C t)))(r:aF v u)
  (h:∀dx s',H dx=none->dx≠x->Inv X pins σ (aV (aV H dx (.xd [(a,v)])) x (XO x (i_ C t dx))) s'->Q () s'):MJ (MK X.prog X.w) X.A (Sc (.ref x) a u) Q E s:=by
 obtain⟨cd,c1,c2,c3,c4,c5⟩:=M.cls;have W:=kA I e;refine L3.set_exc I.kIn W rfl rfl rfl M.sa c1 c2 (c3 x) c4 c5 M.tk λh' tk g1 g2 g3=>?_;have fr:H s.heap.objs.size=none:=I.hok.fresh (le_refl _);have Y:x < s.heap.objs.size:=ML W;have nx:s.heap.objs.size≠x:=OB Y;refine h s.heap.objs.size _ fr nx (I.un (h':=h') (t':=tk) ⟨λb o q n _ _=>?_,λb o q n _ _=>?_,λb o q n _=>?_,λb o q _=>?_,λb xs q=>?_,λb o w q=>?_,λb ps q=>?_⟩ λb w q=>?_)
 .exact g3 b o (λz=>by rw[z,e]at n;cases n) q
 .exact⟨o.slots,g3 b o (λz=>by rw[z,e]at n;cases n) q⟩
 .rw[ao (λz=>by rw[z,e]at n;cases n),ao (λz=>Nat.lt_irrefl _ (z ▸ (ML q:b < _)))];exact n
 .by_cases J:b=x
  .exact⟨_,by rw[J];exact g1⟩
  .exact⟨o,g3 b o J q⟩
 .rw[ao (λz=>by rw[z,e]at q;cases q),ao (λz=>by rw[z,fr]at q;cases q)];exact q
 .rw[ao (λz=>by rw[z,e]at q;cases q),ao (λz=>by rw[z,fr]at q;cases q)];exact q
 .exact⟨#[],by rw[ao (λz=>by rw[z,e]at q;cases q),ao (λz=>by rw[z,fr]at q;cases q)];simpa using q⟩
 .by_cases J:b=x
  .subst J;rw[aG]at q;cases q;exact CO g1
  .rw[ao J]at q
   by_cases L:b=s.heap.objs.size
   .subst L;rw[aG]at q;cases q;refine⟨_,g2,λf=>?_⟩
    by_cases U:f=a
    .subst U;simp only[List.lookup,beq_self_eq_true,if_true];exact r
    .have:(f == a)=false:=by simpa using U
     simp only[List.lookup,this,if_neg U];trivial
   .rw[ao L]at q;refine (I.hok b w q).stay (λc o Z z=>g3 c o (λy=>?_) z) (λc z=>?_) λc ys z=>?_
    .rcases Z with O|O
     .exact J (O ▸ y)
     .rw[y,e]at O;cases O
    .rw[ao (λy=>by rw[y,e]at z;cases z),ao (λy=>by rw[y,fr]at z;cases z)];exact z
    .rw[ao (λy=>by rw[y,e]at z;cases z),ao (λy=>by rw[y,fr]at z;cases z)];exact z
end
section
variable{X:Cx}{C f:MF}{a:Str}
def JF(C:MF)(a:Str)(to tv:TE):TS:=λD σ H=>tv σ H λv H1=>to σ H1 λy H2=>∃x t,y=.ref x/\H2 x=some (XO x (jb C t))/\∀dx,H2 dx=none->dx≠x->D.nx σ (aV (aV H2 dx (.xd [(a,v)])) x (XO x (i_ C t dx)))
theorem FN{o value:M7}{to tv:TE}{pos pos':Pos}(M:XMk X.K C f a)(ho:PE X o to)(Z:PE X value tv)(hs:N7 value (some (.Attribute o a pos')) pos.line X.env=pure false:=by rfl):PS X (.Assign [.Attribute o a pos'] value pos) (JF C a to tv):=by
 intro pins s σ H D I h;refine Qz (b_ (Z pins s σ H _ I h) λu s1 J=>?_) hs;obtain⟨y,H1,I1,L,q⟩:=J;refine b_ (ho pins s1 σ H1 _ I1 q) λov s2 J=>?_;obtain⟨y2,H2,I2,rx,U⟩:=J;obtain⟨x,t,ex,ea,O⟩:=U;subst ex;obtain rfl:ov=Value.ref x:=rx;exact I2.xset M ea L λdx s3 Y W I3=>⟨σ,_,I3,O dx Y W⟩
def q_(C:MF)(a:Str):Sp:=λvs H Q _=>∃x v t,vs=[.ref x,v]/\H x=some (XO x (jb C t))/\∀dx,H dx=none->dx≠x->Q .non (aV (aV H dx (.xd [(a,v)])) x (XO x (i_ C t dx)))
theorem FE{pins:List (MF×Obj)}{σ:St}{H:Hp}{s:MD}{v:V}{u:MC}{R:MC->MD->Prop}{fd:NL}{ps:List Str}{k:Nat}(M:XMk X.K C f a)(F:FnOk X.prog X.w X.K X.mg X.base pO k f fd ps (q_ C a))(hr:Room (k+1) X.A)(hb:eA X.K fd ps [])
  (I:Inv X pins σ H s) (r:aF v u) (h:∀x t dx s',X.s₀.heap.objs.size<=x->H dx=none->H x=none->dx≠x->s.heap.get? dx=none->Inv X pins σ (aV H dx (.xd [(a,v)])) s'->s'.heap.get? x=some (i_ C t dx)->R (.ref x) s'):
  MJ (MK X.prog X.w) X.A (call (.ref C) [u]) R X.xe s:=by
 obtain⟨nm,q,N,bs,bm,hdct,sn,sub,ab,col,dd,k0,k1,k2,k3,k5,lk,tl,Sq⟩:=M.obj;have fx:H (s.heap.objs.size+1)=none:=I.hok.fresh (P_ _);have I1:Inv X pins σ H { s with heap:=s.heap.push { cls:=.type "tuple",data:=.seq #[u] },toks:=s.toks }:=I.kept λb o e=>ME _ e
 have sz:(s.heap.push { cls:=.type "tuple",data:=.seq #[u] }).objs.size=s.heap.objs.size+1:=NE ..;have I2:Inv X pins σ (aV H (s.heap.objs.size+1) (XO (s.heap.objs.size+1) (jb C s.heap.objs.size))) { s with heap:=gl s.heap C [u],toks:=s.toks }:=pC (s:={ s with heap:=s.heap.push { cls:=.type "tuple",data:=.seq #[u] },toks:=s.toks }) I1 sz rfl
 have r2:Vals [V.ref (s.heap.objs.size+1),v] [Value.ref (s.heap.objs.size+1),u]:=.cons rfl (.cons r .nil);have sp0:q_ C a [V.ref (s.heap.objs.size+1),v] (aV H (s.heap.objs.size+1) (XO (s.heap.objs.size+1) (jb C s.heap.objs.size))) (λv' H'=>v'=.non/\∃dx,H dx=none/\dx≠s.heap.objs.size+1/\H'=aV (aV (aV H (s.heap.objs.size+1) (XO (s.heap.objs.size+1) (jb C s.heap.objs.size))) dx (.xd [(a,v)])) (s.heap.objs.size+1) (XO (s.heap.objs.size+1) (i_ C s.heap.objs.size dx))) E0:=
  ⟨_,v,_,rfl,aG,λdx n1 U=>⟨rfl,dx,by rw[ao U]at n1;exact n1,U,rfl⟩⟩
 have hl:([Value.ref (s.heap.objs.size+1),u] ++ []).length=ps.length:=(F.len _ _ _ _ sp0);obtain⟨J,g,d,tk,os⟩:=s;refine OY (GA PySem.F.excBase_ValueError (PySem.W.tail_of_in I.kIn tl) (I.kIn _ _ lk) I.kIn M.init M.fn (by show 1<=MN;decide) (Og (F.run _ X.stack _ _ ⟨[.ref (J.objs.size+1),u],[]⟩ [.ref (J.objs.size+1),u] _ _ E0 (hr.make C [u] []) (I2.env0.make C [u] []) (hb _ [.ref (J.objs.size+1),u] I2.kIn hl) r2 sp0) λr s' L=>?_))
 cases r with
 | error e=>exact False.elim L
 | ok fl=>
  cases fl with
  | ret u'=>
   obtain⟨v',H',os1,Z,un,hok,rv,⟨ev,dx,n1,U,eH⟩⟩:=L;have I3:=I2.call' os1 un hok Z (λb z=>absurd z (by simp))
   have n0:J.get? dx=none:=by
    cases z:J.get? dx with
    | none=>rfl
    | some o=>
     have z1:=un.free dx o (ME _ (ME _ z)) (by rw[ao U];exact n1) (by simp)
     rw[eH,ao U,aG]at z1;cases z1
   subst ev eH;have hx:=kA I3 aG;have I4:=I3.drop (x:=J.objs.size+1) aG (le_trans I.sz (P_ _));have eq:ib (aV (aV (aV H (J.objs.size+1) (XO (J.objs.size+1) (jb C J.objs.size))) dx (.xd [(a,v)])) (J.objs.size+1) (XO (J.objs.size+1) (i_ C J.objs.size dx))) (J.objs.size+1)=aV H dx (.xd [(a,v)]):=by
    funext b
    by_cases O:b=J.objs.size+1
    .rw[O,kZ,ao (Ne.symm U)];exact fx.symm
    .rw[bX O,ao O]
     by_cases Y:b=dx
     .rw[Y,aG,aG]
     .rw[ao Y,ao Y,ao O]
   rw[eq]at I4;exact⟨rv,h _ _ dx _ (le_trans I.sz (P_ _)) n1 fx U n0 I4 hx⟩
  | next=>exact False.elim L
  | brk=>exact False.elim L
  | cont=>exact False.elim L
def HG(t:TA)(Ex:V->Hp->Prop):TS:=λ_ σ H=>t σ H λvs H1=>∃v,vs=[v]/\Ex v H1
theorem DQ{nm:Str}{e:M7}{t:TA}{Ex:V->Hp->Prop}{p pos SN:Pos}{fd:NL}{ps:List Str}{k:Nat}(M:XMk X.K C f a)(F:FnOk X.prog X.w X.K X.mg X.base pO k f fd ps (q_ C a))(hr:Room (k+1) X.A)(hb:eA X.K fd ps [])(hc:X.calm=true)(hex:X.ex=[])(hg:Gl X nm)(hm:X.mg nm=some (.ref C))(ha:PA X [e] t)
  (hX:∀pins σ H s x t' dx v,Inv X pins σ (aV H dx (.xd [(a,v)])) s->H dx=none->H x=none->X.s₀.heap.objs.size<=x->dx≠x->X.s₀.heap.get? dx=none->s.heap.get? x=some (i_ C t' dx)->Ex v H->X.xe (.ref x) s)
  (U:(nm == ("__debug__":Str))=false:=by decide) (he:MP [e] X.env=(false,eval e X.env)::MP [] X.env:=by rfl) (O:(NM pos (MP [] X.env)).any (·.1)=false:=by rfl):
  PS X (.Raise (some (.Call (.Name nm p) [e] [] pos)) none SN) (HG t Ex):=by
 intro pins s σ H D I h;obtain⟨L,q,N,bs,bm,hdct,sn,sub,ab,col,dd,k0,k1,k2,k3,k5,lk,tl,Sq⟩:=M.obj;rw[arm_exec_Raise];refine MB (OI ?_);refine BL (nm:=L) (q:=q) (C:=C) (N:=N) (bs:=bs) (bm:=bm) (hdct:=hdct) (sn:=sn) (sub:=sub) (ab:=ab) (col:=col) (dd:=dd) (k0:=k0) (k1:=k1) (k2:=k2) (k3:=k3) (k5:=k5) (newId:="ValueError.__new__") Sq (I.ok.hd hc) ?_;refine MB ?_;refine N9 (i8 I hg hm ?_ U);refine Ph (h₀:=X.base) I.ok.mod.kin M.kp (b_ (ha pos pins s σ H _ I h) λus s1 ⟨vs,H1,W,r,J⟩=>⟨W.kIn,?_⟩) he O;obtain⟨v,rfl,J⟩:=J;cases r with
 | cons r rr=>
  cases rr;refine FE M F hr hb W r λx t' dx s' n0 n1 n2 n3 n4 I2 Z=>?_;have n5:X.s₀.heap.get? dx=none:=by
   cases z:X.s₀.heap.get? dx with
   | none=>rfl
   | some o=>
    obtain⟨o',Y⟩:=W.base.there dx o z (by rw[hex];simp)
    rw[n4]at Y;cases Y
  refine MB (OI (MG ?_));exact⟨x,t',some dx,rfl,I2.kIn _ _ lk,Z,hX _ _ _ _ _ _ _ _ I2 n1 n2 n0 n3 n5 Z J⟩
end
open PySem.W
section
variable{prog:MR}{w:M4}{A:MS}{E:MC->MD->Prop}{s:MD}{K:Pj}{x C:MF}{ox:Obj}{od:Option Obj}{name:Str}
structure XGet(K:Pj)(C:MF):Prop where
 ga:Ql K (.ref C) "__getattribute__"=some (some (.builtin "BaseException.__getattribute__"))
 gt:Ql K (.ref C) "__getattr__"=some none
 be:mroIn K C (.type "BaseException")=some true
 hd:hasDictIn K C=true
theorem tq:plainId "BaseException.__getattribute__"=true:=by decide +kernel
theorem Bt{v:MC}{tk:Tok}{R:PK->MD->Prop}(X:K.In s.heap)(G:XGet K C)(I:InstAt s.heap x ox C od)(W:Se K C od name=some (.value v))(h:R (.ok (.ret v)) s):
  N4 (MK prog w) A (.call (.builtin "BaseException.__getattribute__") ⟨[.ref x,.str name tk],[]⟩) R s:=by
 obtain⟨L,g,d,t,os⟩:=s;have U:builtinKind "BaseException.__getattribute__"=some .slot:=by decide +kernel
 have Y:splitId "BaseException.__getattribute__"=some ("BaseException","__getattribute__"):=by decide +kernel
 have O:=I.type (M:=MK prog w);have J:QM (MK prog w) L (PB (.ref x) (.type "BaseException")) true:=O.andThen (Rt X G.be);have Z:=looks_find (M:=MK prog w) X I W;refine P5 tq PySem.F.entry_bexc_ga (@R1 (MK prog w) _ _ ⟨L,g,d,t,os⟩ "BaseException.__getattribute__" "BaseException" "__getattribute__" (.ref x) [.str name tk] [] _ U Y J (PySem.F.args_bexc_ga (.ref x) (.str name tk)) ?_);refine MB (MG ?_);refine MB (MG ?_);refine MB (O.at (MB (Z.at ?_)));exact MG h
theorem zo{g a:MC}{tk:Tok}{R:PK->MD->Prop}(X:K.In s.heap)(G:XGet K C)(I:InstAt s.heap x ox C od)(W:Se K C od name=some (.bind g a))
  (h:MJ (MK prog w) A.in1 (call g [a,.ref x,.ref C]) (λv s'=>R (.ok (.ret v)) s') (λe s'=>R (.error e) s') s):
  N4 (MK prog w) A (.call (.builtin "BaseException.__getattribute__") ⟨[.ref x,.str name tk],[]⟩) R s:=by
 obtain⟨L,Y,d,t,os⟩:=s;have U:builtinKind "BaseException.__getattribute__"=some .slot:=by decide +kernel
 have Z:splitId "BaseException.__getattribute__"=some ("BaseException","__getattribute__"):=by decide +kernel
 have O:=I.type (M:=MK prog w);have J:QM (MK prog w) L (PB (.ref x) (.type "BaseException")) true:=O.andThen (Rt X G.be);have L1:=looks_find (M:=MK prog w) X I W;refine P5 tq PySem.F.entry_bexc_ga (@R1 (MK prog w) _ _ ⟨L,Y,d,t,os⟩ "BaseException.__getattribute__" "BaseException" "__getattribute__" (.ref x) [.str name tk] [] _ U Z J (PySem.F.args_bexc_ga (.ref x) (.str name tk)) ?_);refine MB (MG ?_);refine MB (MG ?_);refine MB (O.at (MB (L1.at ?_)));show MJ _ _ (holding [a] (call g [a,.ref x,.ref C]) >>= ret) _ _ _
 exact MB (Na (Nf h (λv s' z=>MG z) λ_ _ z=>z))
theorem Cy(o:MC):bindSpecial (.builtin "BaseException.__getattribute__") o=pure (.builtin "BaseException.__getattribute__",[o]):=by kernel_rfl
theorem AN{tk:Tok}{fill expr:Bool}{Q:MC->MD->Prop}(X:K.In s.heap)(G:XGet K C)(I:InstAt s.heap x ox C od)
  (h:N4 (MK prog w) A (.call (.builtin "BaseException.__getattribute__") ⟨[.ref x,.str name tk],[]⟩) (λr s'=>match r with|.ok (.ret v)=>MJ (MK prog w) A (handedOut v) Q E s'|_=>False) s):
  MJ (MK prog w) A (getAttrBy (.ref x) (.str name tk) fill expr) Q E s:=by
 obtain⟨U,W,d,t,os⟩:=s;have O:=I.type (M:=MK prog w);have L:=Qr (M:=MK prog w) X G.ga;have L2:=Qr (M:=MK prog w) X G.gt;have J:(Value.builtin "BaseException.__getattribute__" == Value.builtin "object.__getattribute__")=false:=by decide +kernel
 unfold getAttrBy;refine Na (MB (O.at (MB (L.at ?_))));dsimp only;rw[if_neg (by rw[J,Bool.and_false];decide)]
 unfold getAttrByItsOwn hookBefore;rw[if_pos (show onTheHeap (Value.ref C)=true from rfl)]
 refine MB (L2.at ?_);unfold callGetattribute;rw[if_neg (by cases expr<;>decide)]
 refine MB (Nx (Na ?_));unfold boundAndCalled;rw[Cy];refine MB (MG (OY (Og h λr s' z=>?_)));rcases r with e|(v|_|_|_)<;>first|exact z|exact z.elim
theorem La{v:MC}{expr:Bool}{Q:MC->MD->Prop}(X:K.In s.heap)(G:XGet K C)(I:InstAt s.heap x ox C od)(L:Se K C od name=some (.value v))(J:handedIn v=true)(h:Q v { s with toks:=s.toks+1 }):
  MJ (MK prog w) A (Rk (.ref x) name expr) Q E s:=by
 unfold Rk;refine MB (wpAny_mkText ?_);refine AN (s:={ s with toks:=s.toks+1 }) X G I (Bt (s:={ s with toks:=s.toks+1 }) X G I L ?_)
 show MJ _ _ (handedOut v) _ _ _
 rw[handedOut_of J];exact MG h
theorem Hy{od:Obj}{Q:Option MC->MD->Prop}(X:K.In s.heap)(G:XGet K C)(I:InstAt s.heap x ox C (some od))(W:Ql K (.ref C) "__class__"=some (some (.builtin "object.__class__")))
  (hn:QE K (.builtin "object.__class__") "__get__"=some (some (.builtin "getset_descriptor.__get__"))) (J:takesIn K (.builtin "object.__class__")=some true) (L:mroIn K C (.type "object")=some true)
  (h:Q (some (.ref C)) { s with toks:=s.toks+1 }):MJ (MK prog w) A (Pw (.ref x) "__class__") Q E s:=by
 have O:Se K C (some od) "__class__"=some (.bind (.builtin "getset_descriptor.__get__") (.builtin "object.__class__")):=findObj_data (by obtain⟨cd,U,_⟩:=any_some G.hd;rw[U];rfl) W hn J
 unfold Pw getAttrBy?;refine MB (wpAny_mkText ?_);refine MB (Nx (AN (s:={ s with toks:=s.toks+1 }) X G I (zo (s:={ s with toks:=s.toks+1 }) X G I O ?_)))
 refine OY (class_get (s:={ s with toks:=s.toks+1 }) (ox:=ox) (od:=some od) X I L ?_)
 show MJ _ _ (handedOut (.ref C)) _ _ _
 rw[handedOut_of rfl];exact MG (MG h)
theorem Eo{od:Obj}(G:XGet K C)(ha:Ql K (.ref C) "__class__"=some (some (.builtin "object.__class__")))
  (hn:QE K (.builtin "object.__class__") "__get__"=some (some (.builtin "getset_descriptor.__get__"))) (O:takesIn K (.builtin "object.__class__")=some true) (hm:mroIn K C (.type "object")=some true):
  KitX K (.ref x) (.ref C) (λh=>InstAt h x ox C (some od)) where
 ty:=λ_ _ _ I=>I.type
 it:=λ_ _ X _=>by
  obtain⟨W,J,_⟩:=any_some G.hd;unfold clsIn at J;split at J
  .rename_i c' d' Y sl' U;intro A' Q' E' s' k q;unfold isType loadHead;exact MB (QR (k _ _ (X _ _ U)) (MG q))
  .cases J
 ne:=λh Z dd its n sl X L=>by
  obtain⟨W,J,_⟩:=any_some G.hd;refine Bool.eq_false_iff.mpr λq=>?_;have e:C=Z:=Value.ref.inj (beq_iff_eq.mp q);subst e;unfold clsIn at J;split at J
  .rename_i c' d' Y sl' U;have z:=(X _ _ U).symm.trans L;cases z
  .cases J
 ca:=λX I k=>Hy X G I ha hn O hm k
end
section
variable{X:Cx}{pins:List (MF×Obj)}{σ:St}{H:Hp}{s:MD}
theorem By{A:MS}{E:MC->MD->Prop}{i:Nat}{n:Str}{v:V}{Q:Unit->MD->Prop}(I:Inv X pins σ H s)(hN:X.N.Nodup)(hi:X.N[i]?=some n)(hk:X.env.scope.names.lookup n=some .local)(hv:σ[i]?=some (some v))
  (h:∀s',Inv X pins (σ.set i none) H s'->Q () s'):MJ (MK X.prog X.w) A (unbindName X.env n) Q E s:=by
 obtain⟨m,hn,hl⟩:=id I.loc;have Tr:(X.env.scope.kind == .class || (X.env.scope.kind == .module && X.env.locals != X.env.globals))=false:=by rw[I.ok.kind];rfl
 have O:i < σ.length:=by rw[I.len];exact (List.getElem?_eq_some_iff.mp hi).1
 have cne:=I.cne;obtain⟨u,ru,q⟩:=hl i n v hi hv (.inl hk);have hm:m n=some u:=by
  rcases q with ⟨_,q⟩|⟨k,_⟩
  .exact q
  .have Z:X.env.kindOf n=some .local:=hk;rcases k with k|k<;>(rw[Z]at k;cases k)
 refine wpAny_unbindName_local hk hn hm Tr λh' u' Y hs=>?_;obtain⟨oL,_,_,hoL,_⟩:=id hn;have tracked:lb X.prog X.w H h':=λb ob e=>by
  refine (I.hok b ob e).stay (λc w' U q=>(hs.2 c ?_).trans q) (λ_ q=>q) λ_ _ q=>q
  rintro rfl
  rcases U with z|U
  .rw[<- z,I.free]at e;cases e
  .rw[I.free]at U;cases U
 refine h _ ⟨I.ok,I.os,I.bare,⟨λb o e n hb L=>?_,λb o e n hb L=>?_,I.base.free,λb o e L=>?_,I.base.tups,I.base.frzs,I.base.tbls⟩,⟨_,Y,λj y v' J W e3=>?_⟩,λy c e=>?_,I.free,I.freeC,λp hp=>?_,tracked,by simpa using I.len⟩
 .exact (hs.2 b (M6 (M9 (ML e) I.ok.above))).trans (I.base.keep b o e n hb L)
 .obtain⟨sl,J⟩:=I.base.slot b o e n hb L;exact⟨sl,(hs.2 b (M6 (M9 (ML e) I.ok.above))).trans J⟩
 .obtain⟨o',J⟩:=I.base.there b o e L;exact⟨o',(hs.2 b (M6 (M9 (ML e) I.ok.above))).trans J⟩
 .by_cases hj:j=i
  .subst hj;rw[NY O]at W;cases W
  .rw[Oc (Ne.symm hj)]at W;obtain⟨u',r',q⟩:=hl j y v' J W e3;refine⟨u',r',?_⟩;rcases q with ⟨k,e⟩|⟨k,c,e,z⟩
   .refine .inl ⟨k,?_⟩;have:y≠n:=λe=>hj (r_ hN J (e ▸ hi));simp[this,e]
   .exact .inr ⟨k,c,e,z.sameBut hs (cne y c e)⟩
 .obtain⟨w',z⟩:=I.cell y c e;exact⟨w',z.sameBut hs (cne y c e)⟩
 .obtain⟨e,n,ne,nf,d⟩:=I.pin p hp;exact⟨(hs.2 p.1 ne).trans e,n,ne,nf,d⟩
abbrev zl(X:Cx)(x:MF)(o:Obj):Cx:={ X with A:=X.A.mark (some (.ref x)),calm:=false,pn:=(x,o)::X.pn,xe:=λ_ _=>False }
theorem Room.mrk{j k:Nat}{A:MS}{h:Option MC}(r:Room k A)(d:j<=k/\j < 100:=by decide):Room j (A.mark h):=⟨λz=>absurd z (Nat.not_le.mpr d.2),(r.mono d.1).dp,(r.mono d.1).un⟩
theorem Inv.toH{x:MF}{o:Obj}(I:Inv X pins σ H s)(J:s.heap.get? x=some o)(hn:H x=none)(O:x≠X.env.locals)(U:x∉X.fs)(W:∀v,o.data≠.cell v)(hz:∃C vs,o.cls=.ref C/\o.data=.fields vs/\vs[2]?=some .none):Inv (zl X x o) pins σ H s:=
 ⟨⟨I.ok.mod,I.ok.kind,I.ok.glob,I.ok.blt,I.ok.above,I.ok.inj,I.ok.has,I.ok.cab,(λz=>nomatch z),(let ⟨C,vs,z⟩:=hz;.inr ⟨x,o,C,vs,rfl,MW,z⟩),I.ok.frames,I.ok.stk,I.ok.exf,I.ok.bs,I.ok.bsz,I.ok.noex,I.ok.exfs,I.ok.funs,I.ok.frf⟩,
  I.os,I.bare,I.base,I.loc,I.cell,I.free,I.freeC,λp L=>by
   rcases NC.mp L with z|z
   .subst z;exact⟨J,hn,O,U,W⟩
   .exact I.pin p z,I.hok,I.len⟩
theorem Inv.ofH{x:MF}{o:Obj}(ok:X.Ok)(I:Inv (zl X x o) pins σ H s):Inv X pins σ H s:=
 ⟨ok,I.os,I.bare,I.base,I.loc,I.cell,I.free,I.freeC,λp J=>I.pin p (MQ _ J),I.hok,I.len⟩
end
section
variable{prog:MR}{w:M4}{A:MS}{E:MC->MD->Prop}{s:MD}{env:Env}
theorem Cf{e:MF}{t:M7}{n:Str}{Y:Nd}{Sw:List Nd}{pos:Pos}{rest:List ExceptHandler}{Q:Flow->MD->Prop}
  (h:MJ (MK prog w) (A.mark (some (.ref e))) (eval t env) (λc W=>MJ (MK prog w) (A.mark (some (.ref e))) (excMatches (.ref e) c) (λb U=>b=true/\
   MJ (MK prog w) (A.mark (some (.ref e))) (Q7 (.ref e) none) (λ_ O=>MJ (MK prog w) (A.mark (some (.ref e))) (storeName env n (.ref e)) (λ_ L=>
    MJ (MK prog w) (A.mark (some (.ref e))) (execs (Y::Sw) env) (λf J=>MJ (MK prog w) A (do bindName env n .none;PX env n pos) (λ_ Z=>Q f Z) E J) (λ_ _=>False) L) (λ_ _=>False) O) (λ_ _=>False) U) (λ_ _=>False) W) (λ_ _=>False) s):
  MJ (MK prog w) A (handleBy (.ref e) env (.ExceptHandler (some t) (some n) (Y::Sw) pos::rest)) Q E s:=by
 refine wpAny_handleBy_cons (codeAny_handlers_test (Nf h (λc W h₁=>Nf h₁ (λb U I=>?_) λ_ _ z=>z.elim) λ_ _ z=>z.elim)) (by intro q;cases q)
 obtain⟨rfl,I⟩:=I;exact codeAny_handlers_suite_as (Nf I (λ_ O h₃=>Nf h₃ (λ_ L h₄=>Nf h₄ (λf J h₅=>h₅) λ_ _ z=>z.elim) λ_ _ z=>z.elim) λ_ _ z=>z.elim)
end
section
variable{X:Cx}{pins:List (MF×Obj)}{σ:St}{H:Hp}{s:MD}
theorem Inv.rec_ne{b:MF}{o:Obj}{vs:Array MC}(I:Inv X pins σ H s)(e:s.heap.get? b=some o)(hd:o.data=.fields vs):b≠X.env.locals/\∀y c,X.env.cells.lookup y=some c->c≠b:=by
 refine⟨λz=>?_,λy c q z=>?_⟩
 .obtain⟨m,⟨W,es,ep,U,L,_⟩,_⟩:=I.loc;rw[z,U]at e;cases e;rw[L]at hd;cases hd
 .obtain⟨v,oc,O,J⟩:=I.cell y c q;rw[z,e]at O;cases O;rw[hd]at J;cases J
theorem Inv.note{h':MY}{x n:Nat}{U:Obj}{vs:Array MC}(I:Inv X pins σ H s)(J:X.stack=X.env::X.outer)(Z:X.env.frame=some X.env.locals)(N:Noted (vf X.stack) x U vs s.heap h')(hok:lb X.prog X.w H h')(he:s.heap.get? x=some U)(hd:U.data=.fields vs)
  (hn:X.s₀.heap.objs.size<=n) (h0:n<=x) (hp:∀p∈X.pn ++ pins,p.1 < n) (hT:∀T,vs[1]?=some (.ref T)->n<=T/\∃W ts,s.heap.get? T=some W/\W.data=.fields ts):Inv X pins σ H { s with heap:=h' }:=by
 obtain⟨x1,x2⟩:=I.rec_ne he hd;obtain⟨ch,L⟩:∃ch:List MF,∀b,b∈ch↔b=x\/vs[1]?=some (.ref b):=by
  cases hv:vs[1]? with
  | none=>exact⟨[x],λb=>by simp⟩
  | some v=>
   cases v with
   | ref T=>exact⟨[x,T],λb=>by simp[eq_comm]⟩
   | _=>exact⟨[x],λb=>by simp⟩
 have Tv:∀b,b∉ch->b≠x/\∀T,vs[1]?=some (.ref T)->b≠T:=λb O=>⟨λz=>O ((L b).mpr (.inl z)),λT t z=>O ((L b).mpr (.inr (z ▸ t)))⟩;have Y:∀b,b≠X.env.locals->b∉X.fs->b∉vf X.stack:=λb h1 h2 z=>by
  rw[J]at z;rcases A7 Z z with z|z
  .exact h1 z
  .exact h2 z
 refine I.step (g':=s.gens) (t':=s.toks) (d':=s.drawn) (ch:=ch) (λb O=>?_) (λb o h1 h2 h3 e _=>N.keep b o (Y b h1 h2) (Tv b h3).1 (Tv b h3).2 e) (λb o _ h2 _ e _=>N.slot b o (by rw[J];show b∈(X.env::X.outer).filterMap _;rw[NJ,Z];exact MQ _ h2) e) (λ_ _ _ _ z=>z) (λb o _ e=>N.there b o e)
  (λ_ _ z=>z) (λ_ _ _ z=>z) (λ_ ps z=>⟨#[],by simpa using z⟩) (λm hm=>?_) hok I.bare
 .rcases (L b).mp O with z|z
  .subst z;exact⟨.inr (le_trans hn h0),x1,x2,λp q w=>not_lt.mpr h0 (w ▸ hp p q)⟩
  .obtain⟨t1,W,ts,t2,t3⟩:=hT b z;obtain⟨y1,y2⟩:=I.rec_ne t2 t3;exact⟨.inr (le_trans hn t1),y1,y2,λp q w=>not_lt.mpr t1 (w ▸ hp p q)⟩
 .obtain⟨o,es,ep,ho,r⟩:=hm;obtain⟨sl,e⟩:=N.slot _ o (by rw[J];show X.env.locals∈(X.env::X.outer).filterMap _;rw[NJ,Z];exact MW) ho
  exact⟨_,es,ep,e,r⟩
end
theorem Eb{P:MR}{w:M4}{H:Hp}{h:MY}{a:MF}{o:HO}(x:bz P w H h a o):∃I,h.get? a=some I:=by
 cases o with
 | lst xs=>obtain⟨_,_,_,_,e⟩:=x;exact⟨_,e⟩
 | tup xs=>obtain⟨z,L,r,I,e,c⟩:=x;exact⟨_,e⟩
 | dK J=>obtain⟨_,_,_,_,o,_,_,e,_⟩:=x;exact⟨_,e⟩
 | dT J=>obtain⟨_,_,_,_,o,_,_,e,_⟩:=x;exact⟨_,e⟩
 | set S n=>obtain⟨o,_,_,_,e,_⟩:=x;exact⟨_,e⟩
 | ins C dx fs=>obtain⟨_,_,_,e,_⟩:=x;exact⟨_,e⟩
 | own y=>obtain⟨_,e⟩:=x;exact⟨_,e⟩
 | xd fs=>obtain⟨_,⟨_,_,_,e,_⟩,_⟩:=x;exact⟨_,e⟩
 | rng lo hi=>obtain⟨_,_,_,e⟩:=x;exact⟨_,e⟩
 | frz I u=>obtain⟨e,_⟩:=x;exact⟨_,e⟩
 | tbl ps=>exact⟨_,x⟩
 | met f y=>exact⟨_,x⟩
 | ext O=>obtain⟨_,⟨_,e⟩,_⟩:=x;exact⟨_,e⟩
section
variable{X:Cx}{pins:List (MF×Obj)}{σ:St}{H:Hp}{s:MD}
theorem Inv.dropX{x:MF}{gs:List (Str×V)}(I:Inv X pins σ H s)(e:H x=some (.xd gs)):Inv X pins σ (ib H x) s:=by
 have non:∀b,H b=none->ib H x b=none:=λb q=>by unfold ib;split;rfl;exact q
 refine⟨I.ok,I.os,I.bare,⟨I.base.keep,I.base.slot,λb o q n z=>non b (I.base.free b o q n z),I.base.there,λb xs q=>?_,λb o u q=>?_,λb ps q=>?_⟩,I.loc,I.cell,non _ I.free,λy c q=>non c (I.freeC y c q),λp J=>?_,λb u q=>?_,I.len⟩
 .have:=I.base.tups b xs q;rw[bX (λz=>by rw[z,e]at this;cases this)];exact this
 .have:=I.base.frzs b o u q;rw[bX (λz=>by rw[z,e]at this;cases this)];exact this
 .obtain⟨more,this⟩:=I.base.tbls b ps q;exact⟨more,by rw[bX (λz=>by rw[z,e]at this;cases this)];exact this⟩
 .obtain⟨a,b,c⟩:=I.pin p J;exact⟨a,non _ b,c⟩
 .have L:b≠x:=λz=>by rw[z,kZ]at q;cases q
  rw[bX L]at q;refine (I.hok b u q).stay (λ_ _ _ z=>z) (λc z=>?_) λc ys z=>?_
  .rw[bX (λy=>by rw[y,e]at z;cases z)];exact z
  .rw[bX (λy=>by rw[y,e]at z;cases z)];exact z
abbrev xQ(X:Cx)(dx:MF)(od:Obj):Cx:={ X with pn:=(dx,od)::X.pn }
theorem Inv.toP{dx:MF}{od:Obj}(I:Inv X pins σ H s)(J:s.heap.get? dx=some od)(hn:H dx=none)(O:dx≠X.env.locals)(U:dx∉X.fs)(W:∀v,od.data≠.cell v):Inv (xQ X dx od) pins σ H s:=
 ⟨⟨I.ok.mod,I.ok.kind,I.ok.glob,I.ok.blt,I.ok.above,I.ok.inj,I.ok.has,I.ok.cab,I.ok.hd,I.ok.hs.cons,I.ok.frames,I.ok.stk,I.ok.exf,I.ok.bs,I.ok.bsz,I.ok.noex,I.ok.exfs,I.ok.funs,I.ok.frf⟩,
  I.os,I.bare,I.base,I.loc,I.cell,I.free,I.freeC,λp L=>by
   rcases NC.mp L with z|z
   .subst z;exact⟨J,hn,O,U,W⟩
   .exact I.pin p z,I.hok,I.len⟩
theorem Inv.ofP{dx:MF}{od:Obj}(ok:X.Ok)(I:Inv (xQ X dx od) pins σ H s):Inv X pins σ H s:=
 ⟨ok,I.os,I.bare,I.base,I.loc,I.cell,I.free,I.freeC,λp J=>I.pin p (MQ _ J),I.hok,I.len⟩
end
structure XIs(C:MF)(o:Obj)(dx:MF)(od:Obj)(a:Str)(v:V):Prop where
 cls:o.cls=.ref C
 dict:o.dict=some dx
 data:∃vs,o.data=.fields vs
 look:∃u,lookIn a od=some (some u)/\aF v u
def Ends.un(i:Nat)(D:Ends):Ends:={ nx:=λσ H=>D.nx (σ.set i none) H,rt:=D.rt,bk:=λσ H=>D.bk (σ.set i none) H,ct:=λσ H=>D.ct (σ.set i none) H }
def C_(K:Pj)(sp:Sp)(t:TA)(J:MF)(i:Nat)(th:MF->Str->V->MF->TS):TS:=λD σ H=>t σ H λvs H1=>sp vs H1 (λ_ H2=>D.nx σ H2) (λcls I H2=>∃C dx a v,cls=.ref C/\I=some dx/\H2 dx=some (.xd [(a,v)])/\exmOne K (.ref C) (.ref J)=some true/\
 (H1 dx=none->∀x,ib H2 dx x=none->th C a v x (Ends.un i D) (σ.set i (some (.ref x))) (ib H2 dx)))
theorem zU{X:Cx}{k:Nat}{f CB:MF}{fd:NL}{ps:List Str}{sp:Sp}{nm cn n:Str}{i:Nat}{e:M7}{es:List M7}{t:TA}{th:MF->Str->V->MF->TS}{b₀:Nd}{Sw:List Nd}{p p2 pos pos1 SY SW:Pos}
  (F:FnOk X.prog X.w X.K X.mg X.base (CM X.prog X.w) k f fd ps sp) (hr:Room k X.A) (hg:Gl X nm) (hm:X.mg nm=some (.ref f)) (hk:QG X.K (.ref f)=true) (hb:eA X.K fd ps []) (ha:PA X.nox (e::es) t)
  (W:X.stack=X.env::X.outer) (hf:X.env.frame=some X.env.locals) (hN:X.N.Nodup) (hi:X.N[i]?=some n) (hl:X.env.scope.names.lookup n=some .local) (hg2:Gl X cn) (hm2:X.mg cn=some (.ref CB))
  (Su:∀C a v x o dx od,XIs C o dx od a v->iO (zl (xQ X dx od) x o) (b₀::Sw) (th C a v x))
  (hdb:(nm == ("__debug__":Str))=false:=by decide) (Tq:(cn == ("__debug__":Str))=false:=by decide) (he:MP (e::es) X.env=(false,eval e X.env)::MP es X.env:=by rfl) (hpl:(NM pos (MP es X.env)).any (·.1)=false:=by rfl)
  (hsw:N7 (.Call (.Name nm p) (e::es) [] pos) none pos1.line X.env=pure false:=by rfl):
  PS X (.Try [.Expr (.Call (.Name nm p) (e::es) [] pos) pos1] [.ExceptHandler (some (.Name cn p2)) (some n) (b₀::Sw) SY] [] [] SW) (C_ X.K sp t CB i th):=by
 intro pins s σ H D I h;refine wpAny_Try_except (QD (wpAny_Expr_any ?_ I.quiet hsw));refine N9 (i8 I hg hm ?_ hdb);refine Ph (h₀:=X.base) I.ok.mod.kin hk (Nf (ha pos pins s σ H _ (I.wish _) h) (λus s1 q0=>?_) λ_ _ z=>z.elim) he hpl;obtain⟨vs,H1,I1,r,q⟩:=q0;have I1:=I1.unwish;refine⟨I1.kIn,?_⟩;have hlen:(us ++ []).length=ps.length:=by rw[Ng,<- r.length];exact F.len _ _ _ _ q
 have hb1:=hb s1 us I1.kIn hlen;rw[Ng]at hb1;refine OY (Og (F.run X.A X.stack s1 H1 ⟨us,[]⟩ us vs _ _ hr I1.env0 hb1 r q) λr' s' hq=>?_);cases r' with
 | ok fl=>
  cases fl with
  | ret u=>
   obtain⟨v,H2,I2,rv,q2⟩:=I1.after hq;exact Ox (Ox ⟨σ,H2,I2,q2⟩)
  | next=>exact False.elim hq
  | brk=>exact False.elim hq
  | cont=>exact False.elim hq
 | error ev=>
  obtain⟨x,C,dx,H2,rfl,os,bare,un,hok,fly,hd0,C',dx',a,v,e1,e2,U,hexm,hth⟩:=hq;cases e1;cases e2;have T7:H1 dx=none:=by
   cases z:H1 dx with
   | none=>rfl
   | some o=>obtain⟨ob,z'⟩:=Eb (I1.hok dx o z);rw[hd0]at z';cases z'
  have J:Inv X pins σ H2 s':=I1.call' os un hok bare (λb z=>absurd z (by simp))
  obtain⟨h0,hx,oe,vs',hex,hc,hdx,hd,h2,hh⟩:=fly;have hsz:1 < vs'.size:=by
   rcases hh with z|⟨T,_,_,z,_⟩
   .exact (Array.getElem?_eq_some_iff.mp z).1
   .exact (Array.getElem?_eq_some_iff.mp z).1
  have hH:AJ s'.heap x vs':=by
   rcases hh with z|⟨T,oT,ts,z1,z2,z3,z4,z5,z6,z7⟩
   .exact .inl z
   .exact .inr ⟨T,oT,ts,z1,z2,z5,z6,z7⟩
  have hTn:∀T,vs'[1]?=some (.ref T)->(s1.heap.objs.size<=T/\∃oT ts,s'.heap.get? T=some oT/\oT.data=.fields ts)/\H2 T=none:=λT z=>by
   rcases hh with z1|⟨Z,oT,ts,z1,z2,z3,z4,z5,z6,z7⟩
   .rw[z1]at z;cases z
   .rw[z1]at z;cases z;exact⟨⟨z3,oT,ts,z5,z6⟩,z4⟩
  have SR:=J.stack;rw[W]at SR;refine u7 (base:=X.base) (by rw[J.ok.frames,W]) SR hf hex hd hH λh' N=>?_
  have N':Noted (vf X.stack) x oe vs' s'.heap h':=by rw[W];exact N
  have sz1:X.s₀.heap.objs.size<=s1.heap.objs.size:=I1.sz;obtain⟨hok2,_⟩:=J.noted N' J.sz (le_trans sz1 h0) hx hex hc hdx hd h2 hsz λT z=>(hTn T z).2;have J2:Inv X pins σ H2 { s' with heap:=h' }:=J.note W hf N' hok2 hex hd sz1 h0 (λp hp=>ML (I1.pin p hp).1) λT z=>(hTn T z).1
  obtain⟨Z,oT',ts',t1,t2,t3,t4,t5,t6⟩:=N.exc;have Y:=Nv hd (·.setIfInBounds 1 (Value.ref Z));have hc2:(oe.mapFields (·.setIfInBounds 1 (Value.ref Z))).cls=.ref C:=(OV _ _).trans hc;have T5:(oe.mapFields (·.setIfInBounds 1 (Value.ref Z))).dict=some dx:=(kq hd).trans hdx;generalize oe.mapFields (·.setIfInBounds 1 (Value.ref Z))=o2 at *
  have TB:=J2.hok dx _ U;obtain⟨mA,ns,rl⟩:=TB;obtain⟨od,hod,hlk⟩:=u_ ns;have hnc:∀v,od.data≠.cell v:=λv z=>by
   obtain⟨o',es,ep,ho',hd',_⟩:=ns;rw[hod]at ho';cases ho';rw[z]at hd';cases hd'
  have lk:∃u,lookIn a od=some (some u)/\aF v u:=by
   have r:=rl a;simp only[List.lookup,beq_self_eq_true]at r;cases hm:mA a with
   | none=>rw[hm]at r;exact r.elim
   | some u=>rw[hm]at r;exact⟨u,by rw[hlk,hm],r⟩
  have ndx:ib H2 dx dx=none:=kZ;have xdx:x≠dx:=λz=>by rw[z,U]at hx;cases hx
  have hx':ib H2 dx x=none:=by rw[bX xdx];exact hx
  have dl:dx≠X.env.locals:=λz=>by have:=J2.free;rw[<- z,U]at this;cases this
  have dfs:dx∉X.fs:=λz=>by
   have:=J2.stkFree dx (by rw[W];show dx∈(X.env::X.outer).filterMap _;rw[NJ,hf];exact MQ _ z)
   rw[U]at this;cases this
  have JP:Inv (xQ X dx od) pins σ (ib H2 dx) { s' with heap:=h' }:=(J2.dropX U).toP hod ndx dl dfs hnc
  have dlt:dx < s'.heap.objs.size:=(J.hok dx _ U).lt;obtain⟨x1,x2⟩:=J2.rec_ne t1 Y;have xfs:x∉X.fs:=λz=>by
   have:=(J2.ok.funs.mem (show x∈X.outer.filterMap (·.frame)from z)).2
   obtain⟨o,ho,_⟩:=this;exact not_lt.mpr (le_trans sz1 h0) (ML ho)
  have HI:Inv (zl (xQ X dx od) x o2) pins σ (ib H2 dx) { s' with heap:=h' }:=JP.toH t1 hx' x1 xfs (λv z=>by rw[Y]at z;cases z) ⟨C,_,hc2,Y,by simp[h2]⟩
  have LT:QM (MK X.prog X.w) h' (typeOf (.ref x)) (.ref C):=hc2 ▸ (Looks.ld t1).andThen .now;refine Cf (i8 (X:=zl (xQ X dx od) x o2) HI hg2 hm2 ?_ Tq);refine (exm_one (M:=MK X.prog X.w) HI.kIn LT hexm).here (s:={ s' with heap:=h' }) ⟨rfl,?_⟩
  have hs3:3 < ts'.size:=(Array.getElem?_eq_some_iff.mp t6).1;refine wpAny_setFlight_none t1 Y (by simp[hsz]) t4 t5 hs3 ?_
  have O:s'.heap.objs.size<=Z:=t2;have HI3:Inv (zl (xQ X dx od) x o2) pins σ (ib H2 dx) { s' with heap:=h'.update Z (Nb (·.setIfInBounds 3 Value.none)) }:=by
   obtain⟨y1,y2⟩:=J2.rec_ne t4 t5;refine Inv.turnedL (s:={ s' with heap:=h' }) (t':=s'.toks) (fp:=[Z]) HI (λb o hb q=>(MV _ _ (λz=>hb (by simp[z]))).trans q) λb hb=>?_
   rw[Pt.mp hb];refine⟨(bX (λz:Z=dx=>not_lt.mpr O (by rw[z];exact dlt))).trans (J.hok.fresh O),y1,?_,.inr (le_trans J.sz O),y2,λp hp z=>?_⟩
   .intro z;obtain⟨o,ho,_⟩:=(J2.ok.funs.mem (show Z∈X.outer.filterMap (·.frame)from z)).2
    exact not_lt.mpr (le_trans J.sz O) (ML ho)
   .rcases NC.mp hp with w|w
    .subst w;exact t3 z.symm
    .rcases NC.mp w with w|w
     .subst w;exact not_lt.mpr O (by rw[<- show dx=Z from z];exact dlt)
     .exact not_lt.mpr O (z ▸ (ML (J.pin p w).1:p.1 < _))
  refine mQ (X:=zl (xQ X dx od) x o2) HI3 hN hi (.inl hl) (v:=.ref x) rfl (λs4 HI4=>?_) (.inr hl);refine Nf (Su C a v x o2 dx od ⟨hc2,T5,⟨_,Y⟩,lk⟩ pins s4 _ _ (Ends.un i D) HI4 (hth T7 x hx')) (λfl s5 hq=>?_) λ_ _ z=>z;have fin:∀{L:St} {H':Hp},Inv (zl (xQ X dx od) x o2) pins L H' s5->(∀s6,Inv X pins (L.set i none) H' s6->SP X pins D fl s6)->MJ (MK X.prog X.w) X.A (do bindName X.env n .none;PX X.env n SY) (λ_ s6=>SP X pins D fl s6) X.xe s5:=λ{L H'} K5 kk=>by
   have I5:=Inv.ofP J.ok (Inv.ofH JP.ok K5);have hiσ:i < L.length:=by rw[I5.len];exact (List.getElem?_eq_some_iff.mp hi).1
   refine MB (wpAny_bindName (mQ I5 hN hi (.inl hl) (v:=.non) rfl (λs6 I6=>?_) (.inr hl)));unfold PX;refine Pq (By I6 hN hi hl (v:=.non) (by rw[NY hiσ]) λs7 I7=>?_)
   rw[Ri]at I7;exact kk s7 I7
  cases fl with
  | next=>
   obtain⟨L,H',K5,q5⟩:=hq;exact fin K5 λs6 I6=>⟨_,_,I6,q5⟩
  | brk=>
   obtain⟨L,H',K5,q5⟩:=hq;exact fin K5 λs6 I6=>⟨_,_,I6,q5⟩
  | cont=>
   obtain⟨L,H',K5,q5⟩:=hq;exact fin K5 λs6 I6=>⟨_,_,I6,q5⟩
  | ret u=>
   obtain⟨v,L,H',K5,rv,q5⟩:=hq;exact fin K5 λs6 I6=>⟨v,_,_,I6,rv,q5⟩
end L2
namespace L3
open PySem PySem.Spec PyProof.Rows L2 PySem.W
abbrev XQ:=MF->Str->D->Gp->Prop
def CH(K:Pj)(G:Gp)(H:Hp)(EQ:XQ)(E:XK):Prop:=∀C a d G' v dx H',EQ C a d G'->Kp G H G' H'->RG K H' G'->G' dx=none->H' dx=some (.xd [(a,v)])->RD K H' d v->E (.ref C) (some dx) H'
theorem CH.base{K:Pj}{G G1:Gp}{H H1:Hp}{EQ:XQ}{E:XK}(f:CH K G H EQ E)(k:Kp G H G1 H1):CH K G1 H1 EQ E:=λC a d G' v dx H' q I=>f C a d G' v dx H' q (k.trans I)
abbrev Fc:=List D->Gp->mf->XQ->Prop
def qN(K:Pj)(sp:Fc):Sp:=λvs H Q E=>∃ds G I EQ,RDs K H ds vs/\RG K H G/\sp ds G I EQ/\tE K G H I Q/\CH K G H EQ E
def e_(K:Pj)(E:XK)(EQ:XQ)(t:bH):TS:=λD τ H=>∃σ G I,RS K H σ τ/\RG K H G/\CH K G H EQ E/\t I σ G/\EndsOk K G H I D
structure CtxW(X:Cx)(E:XK):Prop where
 st:X.stack=X.env::X.outer
 fr:X.env.frame=some X.env.locals
 ex:X.ex=[]
 calm:X.calm=true
 xe:X.xe=λe s'=>MJ (MK X.prog X.w) X.A (Sd X.env e) (λ_ s''=>CM X.prog X.w X.outer X.H₀ X.s₀ E e s'') (λe' s''=>CM X.prog X.w X.outer X.H₀ X.s₀ E e' s'') s'
structure FnX(P:MR)(w:M4)(K:Pj)(mg:Str->Option MC)(base:MY)(k:Nat)(x:Str)(sp:Fc):Prop where
 ex:∃f fd ps,FnOk P w K mg base (CM P w) k f fd ps (qN K sp)/\mg x=some (.ref f)/\QG K (.ref f)=true/\eA K fd ps []
structure ErX(P:MR)(w:M4)(K:Pj)(mg:Str->Option MC)(base:MY)(k:Nat)(x:Str)(C:MF)(a:Str):Prop where
 ex:∃f fd ps,XMk K C f a/\mg x=some (.ref C)/\FnOk P w K mg base pO k f fd ps (q_ C a)/\eA K fd ps []
def zK(C:MF)(a:Str)(ta:lF)(EQ:XQ):bH:=λ_ σ G=>ta σ G λds G1=>∃d,ds=[d]/\EQ C a d G1
section
variable{X:Cx}{E:XK}{EQ:XQ}{st:Nd}{rest:List Nd}{t u:bH}{pos:Pos}
theorem Lb(h:PS X st (bx X.K t)):PS X st (e_ X.K E EQ t):=h.imp λD τ H z=>by
 obtain⟨σ,G,L,I,J,_,h,k⟩:=z;exact⟨σ,G,L,I,J,h,k⟩
theorem GX(h:iO X rest (bx X.K t)):iO X rest (e_ X.K E EQ t):=h.imp λD τ H z=>by
 obtain⟨σ,G,L,I,J,_,h,k⟩:=z;exact⟨σ,G,L,I,J,h,k⟩
theorem JA(h1:PS X st (e_ X.K E EQ t)):iO X [st] (e_ X.K E EQ t):=vX h1
theorem CT(h1:PS X st (e_ X.K E EQ t))(h2:iO X rest (e_ X.K E EQ u)):iO X (st::rest) (e_ X.K E EQ (sSeq t u)):=(xN h1 h2).imp λD τ H z=>by
 obtain⟨σ,G,O,Z,rg,W,h,k⟩:=z;exact⟨σ,G,{ O with nx:=u O },Z,rg,W,h,⟨λI G' Y H' q U L J=>⟨I,G',O,J,L,W.base U,q,k.base U⟩,k.rt,k.bk,k.ct⟩⟩
theorem Ld{c:M7}{a b:List Nd}{tc:ou}(Y:PT X c (cY X.K tc))(ha:iO X a (e_ X.K E EQ t))(Z:iO X b (e_ X.K E EQ u)):PS X (.If c a b pos) (e_ X.K E EQ (kS tc t u)):=
 (Hd Y ha Z).imp λD τ H z=>by
  obtain⟨σ,G,W,L,O,U,h,k⟩:=z;refine⟨σ,G,_,L,O,h,λb G' H' q I J=>?_⟩;cases b with
  | true=>exact⟨σ,G',W,L.mono (I.stb O),J,U.base I,q,k.base I⟩
  | false=>exact⟨σ,G',W,L.mono (I.stb O),J,U.base I,q,k.base I⟩
theorem Fj{C:MF}{a nm:Str}{k:Nat}{e:M7}{ta:lF}{p SN:Pos}(W:CtxW X E)(F:ErX X.prog X.w X.K X.mg X.base k nm C a)(hr:Room (k+1) X.A)(hg:Gl X nm)(ha:PA X [e] (dI X.K ta))
  (Z:(nm == ("__debug__":Str))=false:=by decide) (he:MP [e] X.env=(false,eval e X.env)::MP [] X.env:=by rfl) (Y:(NM pos (MP [] X.env)).any (·.1)=false:=by rfl):
  PS X (.Raise (some (.Call (.Name nm p) [e] [] pos)) none SN) (e_ X.K E EQ (zK C a ta EQ)):=by
 obtain⟨f,fd,ps,M,hm,F,hb⟩:=F.ex;refine (DQ (Ex:=λv H=>∃d G,RD X.K H d v/\RG X.K H G/\EQ C a d G/\CH X.K G H EQ E) M F hr hb W.calm W.ex hg hm ha (λpins σ H s x t' dx v I L n2 n3 n4 n5 hx q=>?_) Z he Y).imp λD τ H z=>?_
 .obtain⟨d,G,rd,J,q,fx⟩:=q;rw[W.xe];have lt:G dx=none:=J.free L;exact Em I W.st W.fr W.ex ⟨n3,by rw[ao (Ne.symm n4)];exact n2,_,_,hx,rfl,rfl,rfl,rfl,.inl rfl⟩ n5 (fx C a d G v dx _ q (Kp.laid L) (J.laid L) lt aG (RD.mono ((Kp.laid (G:=G) L).stb J) _ _ rd))
 .obtain⟨σ,G,D3,rs,J,fx,h,k⟩:=z;refine⟨σ,G,_,rs,J,h,λds G1 vs H1 q k1 O U=>?_⟩;obtain⟨d,rfl,q⟩:=q;obtain⟨v,rfl,rd⟩:=dH U;exact⟨v,rfl,d,G1,rd,O,q,fx.base k1⟩
end
section
variable{P:MR}{w:M4}{K:Pj}{mg:Str->Option MC}{base:MY}
theorem Jb{N:List Str}{qual:Str}{scope:OU}{f:MF}{cd:MC}{A:MS}{outer:List Env}{s:MD}{H:Hp}{E:XK}:CtxW (ux true (CM P w) P w K mg base N qual scope f cd A outer s H E) E:=⟨rfl,rfl,rfl,rfl,rfl⟩
theorem Fun3.okX{x qual:Str}{st:Nd}{f:MF}{fd:NL}{N ps:List Str}{k:Nat}{sp:Fc}(F:Fun3 K x qual st f fd)(S:Ψ N ps (ah st))(len:∀ds G Q EQ,sp ds G Q EQ->ds.length=ps.length)
  (Su:∀(I:MC) (A:MS) (outer:List Env) (s:MD) (H:Hp) (E:XK) (EQ:XQ),Room k (A.deeper (OT qual (ah st) s.heap.objs.size f I))->
   ∃t:bH,iO (ux (ble 100 k) (CM P w) P w K mg base N qual (ah st) f I A outer s H E) (cQ st) (e_ K E EQ t)/\∀ds G Q,sp ds G Q EQ->t { nx:=λ_ G'=>Q .non G',rt:=Q } (cZ N ds) G):FnOk P w K mg base (CM P w) (k+1) f fd ps (qN K sp):=by
 obtain⟨oc,od,dV,kV,doc,pm,an,I,ct,osl,rfl,lk,Y⟩:=F.ex;refine EG lk Y S (λvs H Q E z=>by obtain⟨ds,G,L,EQ,J,Z,h,U⟩:=z;rw[<- J.length];exact len ds G L EQ h) λA outer s H vs Q E hr W=>?_
 obtain⟨ds,G,L,EQ,J,Z,h,U,fx⟩:=W;obtain⟨t,ht,hq⟩:=Su I A outer s H E EQ hr;refine⟨e_ K E EQ t,ht,cZ N ds,G,{ nx:=λ_ G'=>L .non G',rt:=L },xB J,Z,fx,hq ds G L h,⟨λσ' G' τ' H' q k' O rs'=>U _ G' _ H' q k' O (.of vW),U,λ_ _ _ _ q=>q.elim,λ_ _ _ _ q=>q.elim⟩⟩
theorem Gw{x qual:Str}{st:Nd}{f C:MF}{fd:NL}{a y z:Str}{p1 p2 Z Y:Pos}(F:Fun3 K x qual st f fd)(S:Ψ [y,z] [y,z] (ah st))(M:XMk K C f a)(hb:cQ st=[.Assign [.Attribute (.Name y p1) a p2] (.Name z Z) Y])
  (hy:Jr (ah st) y) (hz:Jr (ah st) z) (L:(y == ("__debug__":Str))=false:=by decide) (J:(z == ("__debug__":Str))=false:=by decide) (W:(y == ("__classdict__":Str))=false:=by decide) (U:(z == ("__classdict__":Str))=false:=by decide)
  (hs:∀env,N7 (.Name z Z) (some (.Attribute (.Name y p1) a p2)) Y.line env=pure false:=by intro _;rfl):FnOk P w K mg base pO 1 f fd [y,z] (q_ C a):=by
 obtain⟨oc,od,dV,kV,doc,pm,an,cdv,ct,osl,rfl,lk,O⟩:=F.ex;refine EG lk O S (λvs H Q E q=>by obtain⟨x,v,t,rfl,_⟩:=q;rfl) λA outer s H vs Q E hr I=>?_
 obtain⟨x,v,t,rfl,e,h⟩:=I;rw[hb];refine⟨_,vX (FN M (v_ (i:=0) rfl hy L W) (v_ (i:=1) rfl hz J U) (hs _)),v,rfl,.ref x,rfl,x,t,rfl,e,h⟩
end
def Ends3.un(i:Nat)(D:Ends3):Ends3:={ nx:=λσ G=>D.nx (σ.set i none) G,rt:=D.rt,bk:=λσ G=>D.bk (σ.set i none) G,ct:=λσ G=>D.ct (σ.set i none) G }
def HQ(ok:MF->Str->Prop)(sp:Fc)(ta:lF)(i:Nat)(th:MF->Str->Int->MF->bH):bH:=λD σ G=>ta σ G λds G1=>sp ds G1 (λ_ G2=>D.nx σ G2) (λC a d G2=>∃z,d=.int z/\ok C a/\∀x,G2 x=none->th C a z x (Ends3.un i D) (σ.set i (some (.ref x))) G2)
theorem Fu{K:Pj}{H:Hp}{dx:MF}{gs:List (Str×V)}(e:H dx=some (.xd gs)):Stb K H (ib H dx) where
 t:=λa xs q=>by
  rcases q with (q|⟨o,q⟩)|q
  .exact .inl (.inl (by rw[bX (λz=>by rw[z,e]at q;cases q)];exact q))
  .exact .inl (.inr ⟨o,by rw[bX (λz=>by rw[z,e]at q;cases q)];exact q⟩)
  .exact .inr q
 l:=λa xs q=>by
  rcases q with ⟨o,q⟩|q
  .exact .inl ⟨o,by rw[bX (λz=>by rw[z,e]at q;cases q)];exact q⟩
  .exact .inr q
theorem RS.unset{K:Pj}{H:Hp}:∀{σ:eV} {τ:St} (i:Nat),RS K H σ τ->RS K H (σ.set i none) (τ.set i none)
 | _,_,_,.nil=>.nil
 | _,_,0,.cons _ t=>.cons (show CC K H none none from trivial) t
 | _,_,i+1,.cons r t=>.cons r (RS.unset i t)
section
variable{X:Cx}
theorem J0{k:Nat}{CB:MF}{sp:Fc}{nm cn n:Str}{i:Nat}{e:M7}{es:List M7}{ta:lF}{th:MF->Str->Int->MF->bH}{L:Nd}{Sw:List Nd}{p p2 pos J SY SW:Pos}{ok:MF->Str->Prop}
  (F:FnX X.prog X.w X.K X.mg X.base k nm sp) (hr:Room k X.A) (hg:Gl X nm) (ha:PA X.nox (e::es) (dI X.K ta))
  (hst:X.stack=X.env::X.outer) (hf:X.env.frame=some X.env.locals) (hN:X.N.Nodup) (hi:X.N[i]?=some n) (hl:X.env.scope.names.lookup n=some .local) (hg2:Gl X cn) (hm2:X.mg cn=some (.ref CB)) (hok:∀C a,ok C a->exmOne X.K (.ref C) (.ref CB)=some true)
  (Su:∀C a z x o dx od,ok C a->XIs C o dx od a (.int z)->iO (zl (xQ X dx od) x o) (L::Sw) (bx X.K (th C a z x)))
  (hdb:(nm == ("__debug__":Str))=false:=by decide) (Tq:(cn == ("__debug__":Str))=false:=by decide) (he:MP (e::es) X.env=(false,eval e X.env)::MP es X.env:=by rfl) (hpl:(NM pos (MP es X.env)).any (·.1)=false:=by rfl)
  (hsw:N7 (.Call (.Name nm p) (e::es) [] pos) none J.line X.env=pure false:=by rfl):
  PS X (.Try [.Expr (.Call (.Name nm p) (e::es) [] pos) J] [.ExceptHandler (some (.Name cn p2)) (some n) (L::Sw) SY] [] [] SW) (bx X.K (HQ ok sp ta i th)):=by
 obtain⟨f,fd,ps,F,hm,hk,hb⟩:=F.ex;refine (zU (th:=λC a v x=>λD σ H=>∃z,v=.int z/\ok C a/\bx X.K (th C a z x) D σ H) F hr hg hm hk hb ha hst hf hN hi hl hg2 hm2 (λC a v x o dx od hx=>?_) hdb Tq he hpl hsw).imp λD τ H z=>?_
 .intro pins s σ H D I h;obtain⟨z,rfl,hc,h⟩:=h;exact Su C a z x o dx od hc hx pins s σ H D I h
 .obtain⟨σ,G,D3,rs,rg,h,kk⟩:=z;refine⟨σ,G,_,rs,rg,h,λds G1 vs H1 q k1 rg1 rds=>⟨ds,G1,_,_,rds,rg1,q,λd G' v H' q' k' O _=>kk.nx σ G' τ H' q' (k1.trans k') O (rs.mono ((k1.trans k').stb rg)),?_⟩⟩;intro C a d G' v dx H' q' k' O n e rd;obtain⟨z,rfl,hc,hth⟩:=q';obtain rfl:v=.int z:=by simpa only[RD]using rd
  refine⟨C,dx,a,.int z,rfl,rfl,e,hok C a hc,λh1 x hx=>⟨z,rfl,hc,?_⟩⟩;have Z:RG X.K (ib H' dx) G':=λb o q=>by
   obtain⟨ho,e1,r⟩:=O b o q;exact⟨ho,by rw[bX (λy=>by rw[y,n]at q;cases q)];exact e1,r.mono (Fu e)⟩
  have kp:Kp G H G' (ib H' dx):=λb o e0 n0=>by
   obtain⟨a1,a2⟩:=k1 b o e0 n0;obtain⟨c1,c2⟩:=k' b o a1 a2;exact⟨by rw[bX (λy=>by rw[y,h1]at a1;cases a1)];exact c1,c2⟩
  refine⟨_,G',_,RS.set (d:=.ref x) (by simp only[RD]) i (rs.mono (kp.stb rg)),Z,hth x (Z.free hx),?_⟩
  have kb:=kk.base kp;exact⟨λW G2 U H2 q k2 r2 Y=>kb.nx _ _ _ _ q k2 r2 (RS.unset i Y),kb.rt,λW G2 U H2 q k2 r2 Y=>kb.bk _ _ _ _ q k2 r2 (RS.unset i Y),λW G2 U H2 q k2 r2 Y=>kb.ct _ _ _ _ q k2 r2 (RS.unset i Y)⟩
structure XAsk(K:Pj)(C:MF)(a:Str):Prop where
 g:XGet K C
 ca:Ql K (.ref C) "__class__"=some (some (.builtin "object.__class__"))
 gs:QE K (.builtin "object.__class__") "__get__"=some (some (.builtin "getset_descriptor.__get__"))
 tk:takesIn K (.builtin "object.__class__")=some true
 mo:mroIn K C (.type "object")=some true
 fa:Ql K (.ref C) a=some none
theorem Iu{nm:Str}{C:MF}{pos:Pos}(J:Gl X nm)(I:X.mg nm=some (.ref C))(hd:(nm == ("__debug__":Str))=false:=by decide):PE X (.Name nm pos) (aB X.K (eC (.ref C))):=wf (v:=.ref C) J I rfl (λ_=>by simp only[RD]) hd
def Kz:D->MC
 | .ref a=>.ref a
 | .ty n=>.type n
 | _=>.none
def Jo(x:MF)(c:D)(b:Bool):AF:=λds G Q=>ds=[.ref x,c]/\Q (.bl b) G
theorem xm{C x dx:MF}{o od:Obj}{a:Str}{v:V}{pins:List (MF×Obj)}{σ:St}{H:Hp}{s:MD}(J:XIs C o dx od a v)(I:Inv (zl (xQ X dx od) x o) pins σ H s):InstAt s.heap x o C (some od):=by
 have h1:=(I.pin (x,o) (by simp)).1
 have h2:=(I.pin (dx,od) (by simp)).1
 refine⟨h1,J.cls,?_,?_⟩
 .obtain⟨vs,e⟩:=J.data;unfold notCls;rw[e]
 .rw[J.dict];exact h2
theorem KB{C x dx:MF}{o od:Obj}{a:Str}{v:V}{c:D}{b:Bool}(hx:XIs C o dx od a v)(A:XAsk X.K C a)(hc:(∃y,c=.ref y)\/∃n,c=.ty n)(e:kitOne X.K (.ref C) (Kz c)=some b):dj (zl (xQ X dx od) x o) (.builtin "isinstance") (kt X.K (Jo x c b)):=by
 intro pins s σ H vs us Q I W h;obtain⟨ds,G,Q3,O,Z,⟨rfl,h⟩,kk⟩:=h;obtain⟨v1,t,e1,h1,h2⟩:=O.inv_cons;obtain⟨u2,e2,L⟩:=dH h2;simp only[RD]at h1;subst e1 e2 h1;obtain⟨u,U,rfl,Y,J⟩:=CZ W;cases Y;have eu:U=Kz c:=by
  rcases hc with ⟨y,rfl⟩|⟨n,rfl⟩
  .simp only[RD]at L;subst L;exact J
  .simp only[RD]at L;subst L;exact J
 subst eu;exact kia_one (Eo (ox:=o) (od:=od) A.g A.ca A.gs A.tk A.mo) I.kIn (xm hx I) e (λz=>nomatch z) λtk=>⟨.bl b,H,I.tok tk,rfl,kk _ G _ H h Kp.refl Z (.of f_)⟩
def IV(te:bb)(x:MF)(z:Int):bb:=λσ G Q=>te σ G λd G1=>d=.ref x/\Q (.int z) G1
theorem J9{C x dx:MF}{o od:Obj}{a:Str}{z:Int}{e:M7}{te:bb}{pos:Pos}(U:XIs C o dx od a (.int z))(A:XAsk X.K C a)(he:PE (zl (xQ X dx od) x o) e (aB X.K te))
  (hb:N6 e a (zl (xQ X dx od) x o).env (eval e (zl (xQ X dx od) x o).env)=eval e (zl (xQ X dx od) x o).env:=by rfl):PE (zl (xQ X dx od) x o) (.Attribute e a pos) (aB X.K (IV te x z)):=by
 intro pins s τ H Q I h;obtain⟨σ,G,Q3,Y,Z,h,kk⟩:=h;refine Bp hb (b_ (he pins s τ H (λv H1=>v=.ref x/\Q (.int z) H1) I ⟨σ,G,_,Y,Z,h,λd G1 v H1 q k1 J re=>?_⟩) λu s1 W=>?_)
 .obtain⟨rfl,q⟩:=q;exact⟨re.ref,kk _ G1 _ H1 q k1 J (.of dC)⟩
 .obtain⟨v,H1,L,rx,rfl,q⟩:=W;obtain rfl:u=Value.ref x:=rx;obtain⟨u',hl,O⟩:=U.look;refine La L.kIn A.g (xm U L) (findObj_own A.g.hd A.fa rfl hl) ?_ ⟨.int z,H1,L.tok _,O,q⟩;obtain⟨t,rfl⟩:=O;rfl
end
def As(te:bb):bb:=λσ G Q=>te σ G λd G1=>∃ds,d=.fl ds/\∀p,G1 p=none->Q (.ref p) (gset G1 p (.lst ds))
theorem Ir{X:Cx}{e:M7}{te:bb}(U:PE X e (aB X.K te)):PE X e (aB X.K (As te)):=
 U.imp λτ H Q ⟨σ,G,Q3,J,L,h,k⟩=>⟨σ,G,_,J,L,h,λd G' v H' q O I re=>by
  obtain⟨ds,rfl,q⟩:=q;obtain⟨p,xs,rfl,e1,Z,Y,W⟩:=re.fl;exact k (.ref p) _ _ H' (q p Z) (D_ O W) (D9 I e1 Y) (.of fV)⟩
end L3
namespace RQ
open PySem PySem.Spec PyProof.Rows L2 L3
section
variable{α:Type}
noncomputable def cE(l:List (Sl×α))(k:Sl):Option α:=(l.find? λp=>decide (p.1=k)).map (·.2)
noncomputable def iZ(l:List (Sl×α))(k:Sl)(v:α):List (Sl×α):=if (l.any λp=>decide (p.1=k))=true then l.map (λp=>if p.1=k then (p.1,v)else p)else l ++ [(k,v)]
def bf(l m:List (Sl×α)):List (Sl×α):=m.foldl (λa p=>iZ a p.1 p.2) l
def aN(f:α->D)(l:List (Sl×α)):List (List aE×D):=l.map λp=>(p.1.key,f p.2)
theorem Br(f:α->D)(k:Sl):∀l:List (Sl×α),((aN f l).any λkv=>decide (kv.1=k.key))=l.any λp=>decide (p.1=k)
 | []=>rfl
 | p::r=>by
  have I:=Br f k r;unfold aN at I ⊢;simp only[M5,P6,I];congr 1
  by_cases e:p.1=k
  .rw[decide_eq_true e,decide_eq_true (by rw[e])]
  .rw[decide_eq_false e,decide_eq_false (λz=>e (Sl.key_inj z))]
theorem xM(f:α->D)(l:List (Sl×α))(k:Sl)(v:α):aT (aN f l) k.key (f v)=aN f (iZ l k v):=by
 unfold aT iZ;rw[Br];split
 .unfold aN;rw[Nr,Nr];refine Om λp _=>?_;simp only[Function.comp]
  by_cases e:p.1=k
  .rw[if_pos e,if_pos (by rw[e])]
  .rw[if_neg e,if_neg (λz=>e (Sl.key_inj z))]
 .unfold aN;rw[No];rfl
theorem Bq(f:α->D)(k:Sl):∀l:List (Sl×α),cx (aN f l) k.key=(cE l k).map f
 | []=>rfl
 | p::r=>by
  have I:=Bq f k r;unfold aN cE cx at *
  by_cases e:p.1=k
  .simp[Nj,e]
  .have J:¬ p.1.key=k.key:=λz=>e (Sl.key_inj z);simp only[M5,Nj,decide_eq_false e,decide_eq_false J];exact I
theorem s_(f:α->D)(m:List (Sl×α)):dictOf (aN f m)=aN f (bf [] m):=by
 unfold dictOf bf;have:∀(m l:List (Sl×α)),(aN f m).foldl (λa I=>aT a I.1 I.2) (aN f l)=aN f (m.foldl (λa p=>iZ a p.1 p.2) l):=by
  intro m
  induction m with
  | nil=>intro l;rfl
  | cons p r J=>
   intro l;unfold aN at J ⊢;simp only[M5,Ol];have:=xM f l p.1 p.2;unfold aN at this;rw[this];exact J _
 exact this m []
theorem qT(l:List (Sl×α))(k j:Sl)(v:α):cE (iZ l k v) j=if j=k then some v else cE l j:=by
 unfold iZ;split
 .rename_i h
  induction l with
  | nil=>simp at h
  | cons p r Z=>
   simp only[M5,cE,Nj]
   by_cases e:p.1=k
   .rw[if_pos e]
    by_cases I:j=k
    .rw[if_pos I];simp[e,I]
    .rw[if_neg I];have O:¬ p.1=j:=λz=>I (z.symm.trans e);simp only[decide_eq_false O];clear Z h
     induction r with
     | nil=>rfl
     | cons q t J=>
      simp only[M5,Nj]
      by_cases Y:q.1=k
      .rw[if_pos Y];have U:¬ q.1=j:=λz=>I (z.symm.trans Y);simp only[decide_eq_false U];exact J
      .rw[if_neg Y]
       by_cases U:q.1=j
       .simp[U]
       .simp only[decide_eq_false U];exact J
   .rw[if_neg e];simp only[P6,decide_eq_false e,Bool.false_or]at h;have L:=Z h;unfold cE at L
    by_cases O:p.1=j
    .have I:¬ j=k:=λz=>e (O.trans z);rw[if_neg I];simp[O]
    .simp only[decide_eq_false O];exact L
 .rename_i h;have hn:∀p∈l,p.1≠k:=λp W z=>h (List.any_eq_true.mpr ⟨p,W,decide_eq_true z⟩);unfold cE;rw[List.find?_append]
  by_cases I:j=k
  .rw[if_pos I];have:l.find? (λp=>decide (p.1=j))=none:=List.find?_eq_none.mpr λp W=>by simpa using λz=>hn p W (z.trans I)
   rw[this];simp[I]
  .rw[if_neg I];cases l.find? (λp=>decide (p.1=j)) with
   | some p=>rfl
   | none=>
    have ek:¬ k=j:=λz=>I z.symm;simp[ek]
theorem DI{l:List (Sl×α)}{k:Sl}{v:α}{p:Sl×α}(h:p∈iZ l k v):p∈l\/p=(k,v):=by
 unfold iZ at h;split at h
 .obtain⟨q,hq,e⟩:=mem_map.mp h;split at e
  .rename_i z;exact .inr (by rw[<- e,z])
  .exact .inl (e ▸ hq)
 .rcases Qi.mp h with h|h
  .exact .inl h
  .exact .inr (Pt.mp h)
theorem uZ{m:List (Sl×α)}:∀{l:List (Sl×α)} {p:Sl×α},p∈bf l m->p∈l\/p∈m:=by
 induction m with
 | nil=>intro l p h;exact .inl h
 | cons q r I=>
  intro l p h;rcases I (l:=iZ l q.1 q.2) h with h|h
  .rcases DI h with h|h
   .exact .inl h
   .exact .inr (h ▸ MW)
  .exact .inr (MQ _ h)
theorem w8{l:List (Sl×α)}{k:Sl}{v:α}(h:cE l k=some v):(k,v)∈l:=by
 unfold cE at h;cases e:l.find? λp=>decide (p.1=k) with
 | none=>rw[e]at h;cases h
 | some p=>
  rw[e]at h;cases h;have h1:=List.mem_of_find?_eq_some e;have h2:=List.find?_some e;have:p.1=k:=of_decide_eq_true h2;rw[<- this];exact h1
theorem za{l:List (Sl×α)}{p:Sl×α}(h:p∈l):∃v,cE l p.1=some v:=by
 unfold cE;cases e:l.find? λq=>decide (q.1=p.1) with
 | none=>exact absurd (List.find?_eq_none.mp e p h) (by simp)
 | some q=>exact⟨q.2,rfl⟩
theorem DJ(l:List (Sl×α))(k:Sl)(v:α):(iZ l k v).length<=l.length+1:=by
 unfold iZ;split<;>simp
theorem eR(m:List (Sl×α)):∀l:List (Sl×α),(bf l m).length<=l.length+m.length:=by
 induction m with
 | nil=>intro l;exact le_refl _
 | cons p r I=>
  intro l;have h1:=I (iZ l p.1 p.2);have h2:=DJ l p.1 p.2;show (bf (iZ l p.1 p.2) r).length<=_
  rw[MU];omega
theorem e9(l a b:List (Sl×α)):bf l (a ++ b)=bf (bf l a) b:=by unfold bf;rw[List.foldl_append]
theorem iY(l a:List (Sl×α))(p:Sl×α):bf l (a ++ [p])=iZ (bf l a) p.1 p.2:=by rw[e9];rfl
end
def Lz(c:Nat):Str:=⟨#[c]⟩
def zE(x:Str):List Str:=x.cps.toList.map Lz
def ef(s:Sk):List (Sl×Str):=match s.act with
 | .put _ x=>(made s).zip (zE x)
 | _=>[]
def fL(s:Sk):List (Sl×Unit):=match s.act with
 | .strike ns=>ns.map λn=>(n,())
 | _=>[]
def gv(s:Sk):List (Sl×Sl):=match s.act with
 | .move ns _=>ns.zip (made s)
 | _=>[]
def jO(s:Sk):List (Sl×Str):=match s.act with
 | .dress ns w=>ns.map λn=>(n,w)
 | _=>[]
def Sk.wd(s:Sk):Nat:=match s.act with
 | .put _ x=>x.length
 | .strike ns=>ns.length
 | .dress ns _=>ns.length
 | .move ns _=>ns.length
def aA(x:Str)(o:List Sk):List (Sl×Str):=bf [] ((fi x.length).zip (zE x) ++ o.flatMap ef)
def aW(o:List Sk):List (Sl×Unit):=bf [] (o.flatMap fL)
def bc(o:List Sk):List (Sl×Sl):=bf [] (o.flatMap gv)
def eO(o:List Sk):List (Sl×Str):=bf [] (o.flatMap jO)
abbrev Nm:=Str×Int
def Nm.d(n:Nm):D:=.tup [.str n.1,.int n.2]
def Nm.key(n:Nm):List aE:=[.inr n.1,.inl n.2]
def Sk.nm(s:Sk):Nm:=(s.pen,s.num)
def gF(row:List Sl)(s:Sk):Bool:=(made s).all λx=>decide (x∈row)
def bF(out:List Sk)(names:List Nm)(row:List Sl):List Sk:=(out.filter λs=>decide (s.nm∈names)).filter (gF row)
def aY(x:Str)(w:List Sk):List (Sl×Sl):=bf [] (((aA x w).filter λp=>(cE (aW w) p.1).isNone).map λp=>((cE (bc w) p.1).getD p.1,p.1))
structure Seat where
 slot:Sl
 name:Sl
 sign:Str
 word:Str
def Seat.d(s:Seat):D:=.tup [s.slot.d,s.name.d,.str s.sign,.str s.word]
def fG(x:Str)(w:List Sk)(row:List Sl):List (Sl×Sl):=row.filterMap λs=>(cE (aY x w) s).map λn=>(s,n)
def cH(x:Str)(out:List Sk)(names:List Nm):List Seat:=
 (fG x (bF out names (cO x.length out)) (cO x.length out)).map λp=>⟨p.1,p.2,(cE (aA x (bF out names (cO x.length out))) p.2).getD "",(cE (eO (bF out names (cO x.length out))) p.2).getD ""⟩
structure Rr where
 nm:D
 sign:Str
 word:Str
def Rr.d(r:Rr):D:=.tup [r.nm,.str r.sign,.str r.word]
def nl:Str:=MI "\n"
def Rr.e(r:Rr):Bool:=eK (.str r.sign) (.str nl)
def prD(p:Nat×Nat):D:=.tup [.int p.1,.int p.2]
def cV:Nat->Nat->List Bool->List (Nat×Nat)
 | s,n,[]=>[(s,n)]
 | s,n,true::t=>(s,n)::cV (n+1) (n+1) t
 | s,n,false::t=>cV s (n+1) t
def r9(rs:List Rr):List (Nat×Nat):=cV 0 0 (rs.map Rr.e)
def jh(es:List Bool):List (Nat×Nat)×Nat:=(es.foldl (λ(I:(List (Nat×Nat)×Nat)×Nat) e=>if e then ((I.1.1 ++ [(I.1.2,I.2)],I.2+1),I.2+1)else (I.1,I.2+1)) (([],0),0)).1
theorem kP:∀(es:List Bool) (ps:List (Nat×Nat)) (s n:Nat),(es.foldl (λ(I:(List (Nat×Nat)×Nat)×Nat) e=>if e then ((I.1.1 ++ [(I.1.2,I.2)],I.2+1),I.2+1)else (I.1,I.2+1)) ((ps,s),n)).2=n+es.length/\
  let r:=(es.foldl (λ(I:(List (Nat×Nat)×Nat)×Nat) e=>if e then ((I.1.1 ++ [(I.1.2,I.2)],I.2+1),I.2+1)else (I.1,I.2+1)) ((ps,s),n)).1;r.1 ++ [(r.2,n+es.length)]=ps ++ cV s n es
 | [],ps,s,n=>⟨rfl,rfl⟩
 | true::t,ps,s,n=>by
  obtain⟨h1,h2⟩:=kP t (ps ++ [(s,n)]) (n+1) (n+1);refine⟨by simp only[Ol,if_true,MU];rw[h1];omega,?_⟩
  simp only[Ol,if_true,MU,cV];have:n+(t.length+1)=n+1+t.length:=by omega
  rw[this,h2];simp
 | false::t,ps,s,n=>by
  obtain⟨h1,h2⟩:=kP t ps s (n+1);refine⟨by simp only[Ol,Bool.false_eq_true,if_false,MU];rw[h1];omega,?_⟩
  simp only[Ol,Bool.false_eq_true,if_false,MU,cV];have:n+(t.length+1)=n+1+t.length:=by omega
  rw[this,h2]
theorem Bw(es:List Bool)(e:Bool):jh (es ++ [e])=if e then ((jh es).1 ++ [((jh es).2,es.length)],es.length+1)else jh es:=by
 have h:=(kP es [] 0 0).1;unfold jh;rw[List.foldl_append];simp only[Ol,List.foldl_nil];rw[h,Nat.zero_add];cases e<;>simp
theorem CW(rs:List Rr):(jh (rs.map Rr.e)).1 ++ [((jh (rs.map Rr.e)).2,rs.length)]=r9 rs:=by
 have h:=(kP (rs.map Rr.e) [] 0 0).2;simp only[MH,Nat.zero_add,ON]at h;exact h
theorem vD:∀(es:List Bool) (ps:List (Nat×Nat)) (s n:Nat),s<=n->let r:=(es.foldl (λ(I:(List (Nat×Nat)×Nat)×Nat) e=>if e then ((I.1.1 ++ [(I.1.2,I.2)],I.2+1),I.2+1)else (I.1,I.2+1)) ((ps,s),n)).1;r.1.length<=ps.length+es.length/\r.2<=n+es.length
 | [],ps,s,n,h=>⟨by simp,by simpa using h⟩
 | true::t,ps,s,n,h=>by
  have:=vD t (ps ++ [(s,n)]) (n+1) (n+1) (le_refl _);simp only[Ol,if_true,MU,Nt,Np]at this ⊢;omega
 | false::t,ps,s,n,h=>by
  have:=vD t ps s (n+1) (by omega)
  simp only[Ol,Bool.false_eq_true,if_false,MU]at this ⊢;omega
theorem qV(es:List Bool):(jh es).1.length<=es.length/\(jh es).2<=es.length:=by
 have:=vD es [] 0 0 (le_refl _)
 simpa[jh]using this
theorem yR{α:Type}(f:α->D):∀(n:Nat) (xs:List α) (i:Nat) (d:D),(L3.enumFrom3 n (xs.map f))[i]?=some d->∃x,xs[i]?=some x/\d=.tup [.int (n+i:Nat),f x]
 | n,[],i,d,h=>by simp[L3.enumFrom3]at h
 | n,x::r,0,d,h=>by simp[L3.enumFrom3]at h;exact⟨x,rfl,by rw[<- h];simp⟩
 | n,x::r,i+1,d,h=>by
  simp only[M5,L3.enumFrom3,ND]at h;obtain⟨y,h1,h2⟩:=yR f (n+1) r i d h;refine⟨y,h1,?_⟩;rw[h2];have:n+1+i=n+(i+1):=by omega
  rw[this]
end RQ
namespace L3
open PySem PySem.Spec PyProof.Rows L2 PySem.SeqAt PySem.W
structure FnM(K:Pj)(n q:Str)(st:Nd)(dV:MC)(f:MF):Prop where
 ex:∃(oc:MC) (od an:Option MF) (sl:Array (Option MC)) (kV dc pm cd ct:MC),K.lookup f=some ⟨oc,od,.func (fnOf n q (fc st) (cQ st) (ah st) dV kV dc pm an cd ct),sl⟩/\RZ K cd q=true
structure FnG(K:Pj)(n:Str)(st:Nd):Prop where
 ex:∃f,nsIn K MT n=some (some (.ref f))/\FnM K n n st .none f/\QG K (.ref f)=true
structure MtG(K:Pj)(C:MF)(n q:Str)(st:Nd):Prop where
 ex:∃f,Meth K C n f/\FnM K n q st .none f
structure CfG(K:Pj)(C:MF)(n q:Str)(st:Nd):Prop where
 ex:∃f,(QE K (.ref C) "__getattribute__"=some (some (.builtin "type.__getattribute__"))/\readsIn K C (.type "type")=true/\findCls K (.ref C) (.type "type") n=some (.val (.ref f))/\QG K (.ref f)=true)/\FnM K n q st .none f
section
variable{K:Pj}{n q:Str}{st:Nd}{f C t:MF}{oc oc' dV kV dc pm cd ct:MC}{od od' an:Option MF}{sl sl':Array (Option MC)}
theorem Aq(l:K.lookup f=some ⟨oc,od,.func (fnOf n q (fc st) (cQ st) (ah st) dV kV dc pm an cd ct),sl⟩)(c:RZ K cd q=true):FnM K n q st dV f:=⟨_,_,_,_,_,_,_,_,_,l,c⟩
theorem fnG_mk(a:nsIn K MT n=some (some (.ref f)))(l:K.lookup f=some ⟨oc,od,.func (fnOf n n (fc st) (cQ st) (ah st) .none kV dc pm an cd ct),sl⟩)(c:RZ K cd n=true)(k:QG K (.ref f)=true):FnG K n st:=⟨f,a,Aq l c,k⟩
theorem mtG_mk(a:Ql K (.ref C) n=some (some (.ref f)))(i:isFn K (.ref f)=true)(l:K.lookup f=some ⟨oc,od,.func (fnOf n q (fc st) (cQ st) (ah st) .none kV dc pm an cd ct),sl⟩)(c:RZ K cd q=true)(k:QG K (.ref f)=true):MtG K C n q st:=⟨f,⟨a,i,k⟩,Aq l c⟩
theorem cfG_mk(g:QE K (.ref C) "__getattribute__"=some (some (.builtin "type.__getattribute__")))(r:readsIn K C (.type "type")=true)(a:findCls K (.ref C) (.type "type") n=some (.val (.ref f)))(l:K.lookup f=some ⟨oc,od,.func (fnOf n q (fc st) (cQ st) (ah st) .none kV dc pm an cd ct),sl⟩)(c:RZ K cd q=true)(k:QG K (.ref f)=true):CfG K C n q st:=⟨f,⟨g,r,a,k⟩,Aq l c⟩
end
def Hu(n q:Str)(st:Nd)(ps:List Str):Prop:=∀(kV dc pm:MC) (an:Option MF) (cd ct:MC) (I:List MC),I.length=ps.length->bindArgs (fnOf n q (fc st) (cQ st) (ah st) .none kV dc pm an cd ct) ⟨I,[]⟩=pure (ps.zip I)
section
variable(P:MR)(w:M4)(base:MY){K:Pj}{h:MY}{mg:Str->Option MC}{k:Nat}{n q x:Str}{st:Nd}{ps:List Str}{sp:cR}{C:MF}
theorem Mu(X:K.In h)(G:h.Ns MT mg)(H:FnG K n st)(ok:∀{f fd},Fun3 K n n st f fd->FnOk P w K mg base pO k f fd ps (b9 K sp))(b:Hu n n st ps:=by walk_at "b"):Fn3 P w K mg base k n [] sp:=by
 obtain⟨f,a,⟨⟨_,_,_,_,_,_,_,_,_,l,c⟩⟩,kp⟩:=H.ex;exact⟨_,_,_,[],[],ok (i9 l c),mg_of X G a,kp,.all (b _ _ _ _ _ _),.nil,λ_=>RDs.nil⟩
theorem Gh(cl:Cls K C)(H:MtG K C n q st)(ok:∀{f fd},Fun3 K n q st f fd->FnOk P w K mg base pO k f fd ps (b9 K sp))(b:Hu n q st ps:=by walk_at "b"):Mt3 P w K mg base k C n [] sp:=by
 obtain⟨f,a,⟨⟨_,_,_,_,_,_,_,_,_,l,c⟩⟩⟩:=H.ex;exact⟨cl,_,_,_,[],[],ok (i9 l c),a,.all (b _ _ _ _ _ _),.nil,λ_=>RDs.nil⟩
theorem Kk(X:K.In h)(G:h.Ns MT mg)(ca:nsIn K MT x=some (some (.ref C)))(m:makesIn K C=true)(I:QG K (.ref C)=true)(H:MtG K C "__init__" q st)(ok:∀{f fd},Fun3 K "__init__" q st f fd->FnOk P w K mg base pO k f fd ps (b9 K sp))(b:Hu "__init__" q st ps:=by walk_at "b"):Mk3 P w K mg base k x C [] sp:=by
 obtain⟨f,a,⟨⟨_,_,_,_,_,_,_,_,_,l,c⟩⟩⟩:=H.ex;exact⟨_,_,_,[],[],⟨m,a.at_,a.fn,I⟩,mg_of X G ca,ok (i9 l c),.all (b _ _ _ _ _ _),.nil,λ_=>RDs.nil⟩
theorem Mx(X:K.In h)(G:h.Ns MT mg)(ca:nsIn K MT x=some (some (.ref C)))(H:CfG K C n q st)(ok:∀{f fd},Fun3 K n q st f fd->FnOk P w K mg base pO k f fd ps (b9 K sp))(b:Hu n q st ps:=by walk_at "b"):Cf3 P w K mg base k x n [] sp:=by
 obtain⟨f,⟨g,r,a,kp⟩,⟨⟨_,_,_,_,_,_,_,_,_,l,c⟩⟩⟩:=H.ex;exact⟨C,_,_,_,[],[],ok (i9 l c),mg_of X G ca,g,r,a,kp,.all (b _ _ _ _ _ _),.nil,λ_=>RDs.nil⟩
end
section
variable(P:MR)(w:M4)(base:MY){K:Pj}{h:MY}{mg:Str->Option MC}{k:Nat}{n q x:Str}{st:Nd}{ps:List Str}{sp:Fc}{C:MF}
theorem LM(X:K.In h)(G:h.Ns MT mg)(H:FnG K n st)(ok:∀{f fd},Fun3 K n n st f fd->FnOk P w K mg base (CM P w) k f fd ps (qN K sp))(b:Hu n n st ps:=by walk_at "b"):FnX P w K mg base k n sp:=by
 obtain⟨f,a,⟨⟨_,_,_,_,_,_,_,_,_,l,c⟩⟩,kp⟩:=H.ex;exact⟨_,_,_,ok (i9 l c),mg_of X G a,kp,.all (b _ _ _ _ _ _)⟩
end
theorem _root_.L2.Room.m{j k:Nat}{A:MS}(h:Room k A)(d:j<=k:=by decide):Room j A:=h.mono d
section
variable{P:MR}{w:M4}{base:MY}{K:Pj}{h:MY}{mg:Str->Option MC}{n q x:Str}{st:Nd}{N ps:List Str}{sp:cR}{spx:Fc}{rd:bH}{rx:XQ->bH}{C f:MF}{fd:NL}
abbrev L7(P:MR)(w:M4)(K:Pj)(mg:Str->Option MC)(base:MY)(k:Nat)(N:List Str)(q:Str)(st:Nd)(rd:bH):Prop:=∀{f:MF} {cdv:MC} {A:MS} {outer:List Env} {s:MD} {H:Hp} {E:XK},Room k (A.deeper (OT q (ah st) s.heap.objs.size f cdv))->(A.deeper (OT q (ah st) s.heap.objs.size f cdv)).units+8 < NA->(A.deeper (OT q (ah st) s.heap.objs.size f cdv)).units+4 < NA->iO (ux (ble 100 k) pO P w K mg base N q (ah st) f cdv A outer s H E).nox (cQ st) (bx K rd)
abbrev K6(P:MR)(w:M4)(K:Pj)(mg:Str->Option MC)(base:MY)(k:Nat)(N:List Str)(q:Str)(st:Nd)(rx:XQ->bH):Prop:=∀{f:MF} {cdv:MC} {A:MS} {outer:List Env} {s:MD} {H:Hp} {E:XK} {EQ:XQ},Room k (A.deeper (OT q (ah st) s.heap.objs.size f cdv))->(A.deeper (OT q (ah st) s.heap.objs.size f cdv)).units+8 < NA->(A.deeper (OT q (ah st) s.heap.objs.size f cdv)).units+4 < NA->iO (ux (ble 100 k) (CM P w) P w K mg base N q (ah st) f cdv A outer s H E) (cQ st) (e_ K E EQ (rx EQ))
theorem Ee(k:Nat)(F:Fun3 K n q st f fd)(S:Ψ N ps (ah st))(len:∀ds G Q,sp ds G Q->ds.length=ps.length)(I:∀ds G Q,sp ds G Q->rd { nx:=λ_ G'=>Q .non G',rt:=Q } (cZ N ds) G)(d:L7 P w K mg base k N q st rd):FnOk P w K mg base pO (k+1) f fd ps (b9 K sp):=
 Fun3.ok3 F S len λ_ _ _ _ _ _ J=>⟨rd,d J (by have:=J.units;omega) (by have:=J.units;omega),I⟩
theorem Mr(k:Nat)(F:Fun3 K n q st f fd)(S:Ψ N ps (ah st))(len:∀ds G Q EQ,spx ds G Q EQ->ds.length=ps.length)(I:∀EQ ds G Q,spx ds G Q EQ->rx EQ { nx:=λ_ G'=>Q .non G',rt:=Q } (cZ N ds) G)(d:K6 P w K mg base k N q st rx):FnOk P w K mg base (CM P w) (k+1) f fd ps (qN K spx):=
 Fun3.okX F S len λ_ _ _ _ _ _ EQ J=>⟨rx EQ,d J (by have:=J.units;omega) (by have:=J.units;omega),I EQ⟩
variable(P w base)
theorem oC(X:K.In h)(G:h.Ns MT mg)(H:FnG K n st)(k:Nat)(S:Ψ N ps (ah st))(len:∀ds G Q,sp ds G Q->ds.length=ps.length)(I:∀ds G Q,sp ds G Q->rd { nx:=λ_ G'=>Q .non G',rt:=Q } (cZ N ds) G)(d:L7 P w K mg base k N n st rd)(b:Hu n n st ps:=by walk_at "b"):Fn3 P w K mg base (k+1) n [] sp:=Mu P w base X G H (λF=>Ee k F S len I d) b
variable(mg) in
theorem uf(cl:Cls K C)(H:MtG K C n q st)(k:Nat)(S:Ψ N ps (ah st))(len:∀ds G Q,sp ds G Q->ds.length=ps.length)(I:∀ds G Q,sp ds G Q->rd { nx:=λ_ G'=>Q .non G',rt:=Q } (cZ N ds) G)(d:L7 P w K mg base k N q st rd)(b:Hu n q st ps:=by walk_at "b"):Mt3 P w K mg base (k+1) C n [] sp:=Gh P w base cl H (λF=>Ee k F S len I d) b
theorem LL(X:K.In h)(G:h.Ns MT mg)(H:FnG K n st)(k:Nat)(S:Ψ N ps (ah st))(len:∀ds G Q EQ,spx ds G Q EQ->ds.length=ps.length)(I:∀EQ ds G Q,spx ds G Q EQ->rx EQ { nx:=λ_ G'=>Q .non G',rt:=Q } (cZ N ds) G)(d:K6 P w K mg base k N n st rx)(b:Hu n n st ps:=by walk_at "b"):FnX P w K mg base (k+1) n spx:=LM P w base X G H (λF=>Mr k F S len I d) b
end
end L3
namespace RQ
open PySem PySem.Spec PyProof.Rows L2 L3
noncomputable def eW(i:Nat):Nd:=PySem.Challenge.pw_redquill_k44_joined.main.body.getD i (.Pass ⟨0,0,0,0⟩)
def k_PARAGRAPH_END:D:=.str "\n"
def k_START:D:=.tup [.str "",.int 0,.int 0]
def k_WAITS:D:=.str "waits"
def k_WIPED:D:=.str "wiped"
theorem sT{I a1 a2 a3:D}:fm Aa0 [I,a1,a2,a3] "name"=some I:=by kernel_rfl
theorem sS{I a1 a2 a3:D}:fm Aa0 [I,a1,a2,a3] "time"=some a1:=by kernel_rfl
theorem pE{I a1 a2 a3:D}:fm Aa0 [I,a1,a2,a3] "anchor"=some a2:=by kernel_rfl
theorem qJ{I a1 a2 a3:D}:fm Aa0 [I,a1,a2,a3] "names"=some a3:=by kernel_rfl
theorem v3:iD [] "name"=(["name"]:List Str):=by kernel_rfl
theorem v8{x:D}:gC [] [] "name" x=[x]:=by kernel_rfl
theorem v0:iD ["name"] "time"=(["name","time"]:List Str):=by kernel_rfl
theorem v7{I x:D}:gC ["name"] [I] "time" x=[I,x]:=by kernel_rfl
theorem vZ:iD ["name","time"] "anchor"=(AD0:List Str):=by kernel_rfl
theorem v6{I a1 x:D}:gC ["name","time"] [I,a1] "anchor" x=[I,a1,x]:=by kernel_rfl
theorem vY:iD AD0 "names"=(Aa0:List Str):=by kernel_rfl
theorem v5{I a1 a2 x:D}:gC AD0 [I,a1,a2] "names" x=[I,a1,a2,x]:=by kernel_rfl
theorem yP{I a1 a2 a3 a4:D}:fm Ag0 [I,a1,a2,a3,a4] "name"=some I:=by kernel_rfl
theorem yO{I a1 a2 a3 a4:D}:fm Ag0 [I,a1,a2,a3,a4] "time"=some a1:=by kernel_rfl
theorem ur{I a1 a2 a3 a4:D}:fm Ag0 [I,a1,a2,a3,a4] "anchor"=some a2:=by kernel_rfl
theorem wI{I a1 a2 a3 a4:D}:fm Ag0 [I,a1,a2,a3,a4] "signs"=some a4:=by kernel_rfl
theorem BU:iD Aa0 "anchor"=(Aa0:List Str):=by kernel_rfl
theorem BW{I a1 a2 a3 x:D}:gC Aa0 [I,a1,a2,a3] "anchor" x=[I,a1,x,a3]:=by kernel_rfl
theorem BS:iD Aa0 "signs"=(Ag0:List Str):=by kernel_rfl
theorem BV{I a1 a2 a3 x:D}:gC Aa0 [I,a1,a2,a3] "signs" x=[I,a1,a2,a3,x]:=by kernel_rfl
theorem v4:iD Aa0 "names"=(Aa0:List Str):=by kernel_rfl
theorem v9{I a1 a2 a3 x:D}:gC Aa0 [I,a1,a2,a3] "names" x=[I,a1,a2,x]:=by kernel_rfl
theorem uv{I a1 a2 a3 a4:D}:fm Ah0 [I,a1,a2,a3,a4] "name"=some I:=by kernel_rfl
theorem uu{I a1 a2 a3 a4:D}:fm Ah0 [I,a1,a2,a3,a4] "time"=some a1:=by kernel_rfl
theorem sU{I a1 a2 a3 a4:D}:fm Ah0 [I,a1,a2,a3,a4] "names"=some a3:=by kernel_rfl
theorem ut{I a1 a2 a3 a4:D}:fm Ah0 [I,a1,a2,a3,a4] "word"=some a4:=by kernel_rfl
theorem xO:iD Aa0 "word"=(Ah0:List Str):=by kernel_rfl
theorem xP{I a1 a2 a3 x:D}:gC Aa0 [I,a1,a2,a3] "word" x=[I,a1,a2,a3,x]:=by kernel_rfl
def ar:List Str:=["old","drawn","states","greatest","time"]
theorem on:uE ar "old" 0:=nY (by decide +kernel)
theorem dZ:uE ar "drawn" 1:=nY (by decide +kernel)
theorem dh:uE ar "states" 2:=nY (by decide +kernel)
theorem gY:uE ar "greatest" 3:=nY (by decide +kernel)
theorem me:uE ar "time" 4:=nY (by decide +kernel)
theorem iH:("strokes":Str)∉ar:=by decide +kernel
theorem ko:("check_known":Str)∉ar:=by decide +kernel
theorem kj:("state":Str)∉ar:=by decide +kernel
theorem iG:("unwiped":Str)∉ar:=by decide +kernel
theorem bR:("view":Str)∉ar:=by decide +kernel
theorem gH:("seats":Str)∉ar:=by decide +kernel
theorem dX:("coming_name":Str)∉ar:=by decide +kernel
theorem dW:("coming_time":Str)∉ar:=by decide +kernel
theorem h9:("draw":Str)∉ar:=by decide +kernel
theorem nM:("put":Str)∉ar:=by decide +kernel
theorem jx:("strike":Str)∉ar:=by decide +kernel
theorem ud:("move":Str)∉ar:=by decide +kernel
theorem uc:("part":Str)∉ar:=by decide +kernel
theorem km:("check_waits":Str)∉ar:=by decide +kernel
theorem t_:("wipe":Str)∉ar:=by decide +kernel
abbrev bI:Nd:=aU (eW 3) 0
theorem iT:Ψ ["self","at"] ["self","at"] (ah bI):=by walk_at "j"
abbrev pV:Nd:=eW 7
theorem vP:Ψ ["at","length"] ["at","length"] (ah pV):=by walk_at "j"
abbrev jm:Nd:=eW 8
theorem oM:Ψ AM0 AM0 (ah jm):=by walk_at "j"
abbrev m4:Nd:=eW 11
theorem dz:Ψ AC0 ["rows"] (ah m4):=by walk_at "j"
abbrev Do:Nd:=eW 12
theorem mT:Ψ Ar0 ["paper","pen","number"] (ah Do):=by walk_at "j"
abbrev mZ:Nd:=eW 15
theorem tL:Ψ Au0 Au0 (ah mZ):=by walk_at "j"
theorem qB:((["k"]:List Str) ++ (Au0:List Str)).Nodup:=by decide +kernel
abbrev pR:Nd:=eW 21
theorem gc:Ψ ["row","name","time","act"] AG0 (ah pR):=by walk_at "j"
abbrev im:Nd:=eW 22
theorem mS:Ψ AG0 AG0 (ah im):=by walk_at "j"
abbrev rA:Nd:=eW 23
theorem jR:Ψ ["rows","by_name","row"] ["rows"] (ah rA):=by walk_at "j"
abbrev pS:Nd:=eW 25
theorem vN:Ψ ["old"] ["old"] (ah pS):=by walk_at "j"
abbrev m5:Nd:=eW 26
theorem fJ:Ψ Ay0 ["following","anchor","slots"] (ah m5):=by walk_at "j"
abbrev uT:Nd:=eW 27
theorem iS:Ψ ["following","row","slot"] ["following"] (ah uT):=by walk_at "j"
abbrev rq:Nd:=eW 28
theorem jQ:Ψ Am0 ["old","strokes"] (ah rq):=by walk_at "j"
theorem ue:((AG0:List Str) ++ (Am0:List Str)).Nodup:=by decide +kernel
abbrev xA:Nd:=eW 30
theorem BI:Ψ ["keys"] ["keys"] (ah xA):=by walk_at "j"
theorem xU:((["key"]:List Str) ++ (["keys"]:List Str)).Nodup:=by decide +kernel
abbrev pT:Nd:=eW 31
theorem vO:Ψ Av0 Av0 (ah pT):=by walk_at "j"
theorem se:((["slot"]:List Str) ++ (Av0:List Str)).Nodup:=by decide +kernel
abbrev pU:Nd:=eW 32
theorem iR:Ψ Af0 ["strokes","standing","in_row"] (ah pU):=by walk_at "j"
theorem si:((AG0:List Str) ++ (Af0:List Str)).Nodup:=by decide +kernel
theorem sf:((["stroke"]:List Str) ++ (Af0:List Str)).Nodup:=by decide +kernel
abbrev jk:Nd:=eW 33
theorem cU:Ψ At0 ["old","strokes"] (ah jk):=by walk_at "j"
abbrev jW:Nd:=eW 34
theorem eF:Ψ AE0 ["strokes"] (ah jW):=by walk_at "j"
abbrev lL:Nd:=eW 35
theorem dN:Ψ AA0 ["strokes"] (ah lL):=by walk_at "j"
abbrev mY:Nd:=eW 36
theorem fH:Ψ ["strokes","worn","stroke","name"] ["strokes"] (ah mY):=by walk_at "j"
abbrev xz:Nd:=eW 37
theorem dy:Ψ Ab0 Ak0 (ah xz):=by walk_at "j"
theorem xT:((["slot"]:List Str) ++ (Ab0:List Str)).Nodup:=by decide +kernel
theorem p8:((["slot","name"]:List Str) ++ (Ai0:List Str)).Nodup:=by decide +kernel
abbrev uR:Nd:=eW 38
theorem zH:Ψ Ak0 Ak0 (ah uR):=by walk_at "j"
theorem wu:((["seat"]:List Str) ++ (Ak0:List Str)).Nodup:=by decide +kernel
abbrev pW:Nd:=eW 43
theorem vQ:Ψ ["seats","at"] ["seats","at"] (ah pW):=by walk_at "j"
abbrev jl:Nd:=eW 44
theorem oK:Ψ Aw0 Aw0 (ah jl):=by walk_at "j"
theorem mB:((["seat"]:List Str) ++ (Aw0:List Str)).Nodup:=by decide +kernel
abbrev m8:Nd:=eW 47
theorem lK:Ψ AB0 ["_law_cell","_law_place"] (ah m8):=by walk_at "j"
abbrev m6:Nd:=eW 48
theorem tM:Ψ Ao0 Ao0 (ah m6):=by walk_at "j"
theorem qC:((["_law_k"]:List Str) ++ (Ao0:List Str)).Nodup:=by decide +kernel
abbrev m7:Nd:=eW 49
theorem dA:Ψ Al0 ["_law_paper","_law_pen","_law_cell"] (ah m7):=by walk_at "j"
abbrev jX:Nd:=eW 50
theorem eG:Ψ An0 ["_law_paper","_law_pen","_law_number"] (ah jX):=by walk_at "j"
abbrev lM:Nd:=eW 51
theorem eY:Ψ Ad0 ["_law_paper","_law_pen","_law_number","_law_counts","_law_wiped"] (ah lM):=by walk_at "j"
theorem o9:((["_law_at"]:List Str) ++ (Ad0:List Str)).Nodup:=by decide +kernel
abbrev uS:Nd:=eW 52
theorem hJ:Ψ Ac0 ["_law_script"] (ah uS):=by walk_at "j"
theorem Ed:((["_law_row"]:List Str) ++ (Ac0:List Str)).Nodup:=by decide +kernel
abbrev eZ:Nd:=aU (eW 16) 0
theorem mq:Ψ AK0 AK0 (ah eZ):=by walk_at "j"
abbrev dO:Nd:=aU (eW 16) 1
theorem qv:Ψ Ae0 Ae0 (ah dO):=by walk_at "j"
abbrev bP:Nd:=aU (eW 16) 2
theorem mU:Ψ Ae0 Ae0 (ah bP):=by walk_at "j"
abbrev jY:Nd:=aU (eW 17) 0
theorem qw:Ψ Ap0 Ap0 (ah jY):=by walk_at "j"
abbrev pX:Nd:=aU (eW 17) 1
theorem vR:Ψ Ae0 Ae0 (ah pX):=by walk_at "j"
abbrev uU:Nd:=aU (eW 17) 3
theorem zI:Ψ Ae0 Ae0 (ah uU):=by walk_at "j"
abbrev gP:Nd:=aU (eW 18) 0
theorem mr:Ψ Az0 Az0 (ah gP):=by walk_at "j"
abbrev m9:Nd:=aU (eW 18) 1
theorem tN:Ψ Ae0 Ae0 (ah m9):=by walk_at "j"
abbrev iq:Nd:=aU (eW 19) 0
theorem mX:Ψ As0 As0 (ah iq):=by walk_at "j"
abbrev pZ:Nd:=aU (eW 19) 1
theorem vS:Ψ Ae0 Ae0 (ah pZ):=by walk_at "j"
abbrev jq:Nd:=aU (eW 20) 0
theorem oP:Ψ Aq0 Aq0 (ah jq):=by walk_at "j"
abbrev nk:Nd:=aU (eW 20) 1
theorem tS:Ψ Ae0 Ae0 (ah nk):=by walk_at "j"
abbrev rB:Nd:=aU (eW 20) 2
theorem xy:Ψ Ae0 Ae0 (ah rB):=by walk_at "j"
abbrev ip:Nd:=aU (eW 45) 0
theorem mW:Ψ ["self","old"] ["self","old"] (ah ip):=by walk_at "j"
abbrev jp:Nd:=aU (eW 45) 2
theorem oO:Ψ Ae0 Ae0 (ah jp):=by walk_at "j"
abbrev f9:Nd:=aU (eW 45) 5
theorem jV:Ψ Aj0 Aj0 (ah f9):=by walk_at "j"
abbrev lN:Nd:=aU (eW 45) 6
theorem rm:Ψ Aj0 Aj0 (ah lN):=by walk_at "j"
abbrev jn:Nd:=aU (eW 45) 10
theorem oN:Ψ Ae0 Ae0 (ah jn):=by walk_at "j"
theorem mC:((AG0:List Str) ++ (Ae0:List Str)).Nodup:=by decide +kernel
abbrev ng:Nd:=aU (eW 45) 11
theorem tP:Ψ Ae0 Ae0 (ah ng):=by walk_at "j"
abbrev lO:Nd:=aU (eW 45) 12
theorem rp:Ψ Ae0 Ae0 (ah lO):=by walk_at "j"
abbrev f7:Nd:=aU (eW 45) 13
theorem jT:Ψ ["self","pen"] ["self","pen"] (ah f7):=by walk_at "j"
abbrev f6:Nd:=aU (eW 45) 14
theorem jS:Ψ Ae0 Ae0 (ah f6):=by walk_at "j"
abbrev nj:Nd:=aU (eW 45) 15
theorem tR:Ψ ["self","stroke"] ["self","stroke"] (ah nj):=by walk_at "j"
abbrev pY:Nd:=aU (eW 45) 16
theorem mV:Ψ ["self","pen","at","signs","seats"] ["self","pen","at","signs"] (ah pY):=by walk_at "j"
abbrev jZ:Nd:=aU (eW 45) 17
theorem jj:Ψ ["self","pen","at","to","seats"] ["self","pen","at","to"] (ah jZ):=by walk_at "j"
abbrev ni:Nd:=aU (eW 45) 19
theorem hU:Ψ Ax0 ["self","pen","at","to","goal"] (ah ni):=by walk_at "j"
abbrev nh:Nd:=aU (eW 45) 20
theorem tQ:Ψ ["self","pen","at"] ["self","pen","at"] (ah nh):=by walk_at "j"
abbrev f8:Nd:=aU (eW 45) 21
theorem jU:Ψ Aj0 Aj0 (ah f8):=by walk_at "j"
abbrev m_:Nd:=aU (eW 45) 23
theorem tO:Ψ Aj0 Aj0 (ah m_):=by walk_at "j"
def ba(_:Zz)(_:HW):cR:=λds G Q=>match ds with
 | [d]=>∃r:Rw,d=r.d/\Q r.key G
 | _=>False
def fZ(G G':Gp):Prop:=∀a o,G a=some o->G' a=some o
theorem fZ.refl{G:Gp}:fZ G G:=λ_ _ h=>h
theorem fZ.trans{G G1 G2:Gp}(a:fZ G G1)(b:fZ G1 G2):fZ G G2:=λx o h=>b x o (a x o h)
theorem fZ.gset{G G1:Gp}{p:MF}{o:GO}(a:fZ G G1)(I:G p=none):fZ G (gset G1 p o):=λx y h=>by
 have:x≠p:=λz=>by subst z;rw[I]at h;cases h
 rw[ai this];exact a x y h
def dL(_:Zz)(_:HW):cR:=λds G Q=>match ds with
 | [.ref q]=>∃I base:List Rw,(G q=some (.lst (I.map Rw.d))/\je I/\I.length<=1000/\base.length < 64/\∀r∈I,r∈base)/\∀out G',fZ G G'->fE out->(∀r,r∈out↔r∈I)->Q (.fl (out.map Rw.d)) G'
 | _=>False
set_option genInjectivity false in
structure Zz where
 (Z1 Z2 Z3 Z4 Z5 Z6:MF)
abbrev Zz.F(z:Zz):List MF:=[z.Z1,z.Z2,z.Z3,z.Z4,z.Z5]
def eP(zF:Zz)(hw:HW):cR:=λds G Q=>match ds with
 | [.str x,.ref q]=>∃sks base:List Sk,(G q=some (.lst (sks.map Sk.d))/\x.length<=1000/\je (sks.map Sk.rw)/\sks.length<=1000/\base.length < 64/\(∀s∈sks,s∈base)/\∀s∈sks,s.ok)/\
   ∀out G',fZ G G'->fE (out.map Sk.rw)->(∀s,s∈out↔s∈sks)->Q (.fl ((cO x.length out).map Sl.d)) G'
 | _=>False
def cg(_:Zz)(_:HW):cR:=λds G Q=>match ds with
 | [.tup [.str p,.int n],.int m]=>(0<=m/\m<=1000)/\Q (.fl ((bJ p n m.toNat).map Sl.d)) G
 | _=>False
def aS(zF:Zz)(s:Sk):GO:=match s.act with
 | .put a x=>.ins zF.Z2 Ag0 [.tup [.str s.pen,.int s.num],.int s.time,a.d,.tup [],.str x]
 | .strike ns=>.ins zF.Z3 Aa0 [.tup [.str s.pen,.int s.num],.int s.time,aD.d,.tup (ns.map Sl.d)]
 | .dress ns w=>.ins zF.Z4 Ah0 [.tup [.str s.pen,.int s.num],.int s.time,aD.d,.tup (ns.map Sl.d),.str w]
 | .move ns a=>.ins zF.Z5 Aa0 [.tup [.str s.pen,.int s.num],.int s.time,a.d,.tup (ns.map Sl.d)]
def aR(zF:Zz)(hw:HW):cR:=λds G Q=>match ds with
 | [.ref a,d,.int t]=>(∃C,C∈zF.F/\G a=some (.ins C [] [])/\∃p n,d=.tup [.str p,.int n]/\Q .non (gset G a (.ins C Aa0 [d,.int t,aD.d,.tup []])))
 | _=>False
def bZ(zF:Zz)(hw:HW):cR:=λds G Q=>match ds with
 | [.ref a,d,.int t,b,.str x]=>G a=some (.ins zF.Z2 [] [])/\∃p n s,d=.tup [.str p,.int n]/\b=Sl.d s/\Q .non (gset G a (.ins zF.Z2 Ag0 [d,.int t,b,.tup [],.str x]))
 | _=>False
def bh(zF:Zz)(hw:HW):cR:=λds G Q=>match ds with
 | [.ref a,d,.int t,.tup ns]=>G a=some (.ins zF.Z3 [] [])/\∃p n,d=.tup [.str p,.int n]/\Q .non (gset G a (.ins zF.Z3 Aa0 [d,.int t,aD.d,.tup ns]))
 | _=>False
def bW(zF:Zz)(hw:HW):cR:=λds G Q=>match ds with
 | [.ref a,d,.int t,.tup ns,.str w]=>G a=some (.ins zF.Z4 [] [])/\∃p n,d=.tup [.str p,.int n]/\Q .non (gset G a (.ins zF.Z4 Ah0 [d,.int t,aD.d,.tup ns,.str w]))
 | _=>False
def bO(zF:Zz)(hw:HW):cR:=λds G Q=>match ds with
 | [.ref a,d,.int t,.tup ns,b]=>G a=some (.ins zF.Z5 [] [])/\∃p n s,d=.tup [.str p,.int n]/\b=Sl.d s/\Q .non (gset G a (.ins zF.Z5 Aa0 [d,.int t,b,.tup ns]))
 | _=>False
def c7(zF:Zz)(hw:HW):cR:=λds G Q=>match ds with
 | [d]=>∃s:Sk,d=s.d/\∀p,G p=none->Q (.ref p) (gset G p (aS zF s))
 | _=>False
def ay(_:Zz)(_:HW):cR:=λds G Q=>match ds with
 | [.ref _]=>Q (.fl []) G
 | _=>False
def bu(zF:Zz)(hw:HW):cR:=λds G Q=>match ds with
 | [.ref a]=>∃(s:Sk) (b:Sl) (x:Str),(s.act=.put b x/\G a=some (aS zF s)/\x.length<=1000)/\Q (.fl ((made s).map Sl.d)) G
 | _=>False
def bd(zF:Zz)(hw:HW):cR:=λds G Q=>match ds with
 | [.ref a]=>∃(s:Sk) (b:Sl) (ns:List Sl),(s.act=.move ns b/\G a=some (aS zF s)/\ns.length<=1000)/\Q (.fl ((made s).map Sl.d)) G
 | _=>False
def c8(_:Zz)(_:HW):cR:=λds G Q=>match ds with
 | [.str x]=>x.length<=1000/\Q (.fl ((fi x.length).map Sl.d)) G
 | _=>False
def cM(zF:Zz)(hw:HW):cR:=λds G Q=>match ds with
 | [.ref p,a,.lst xs]=>∃(b:Sl) (I W:List Sl) (J:List (List aE×D)),(a=b.d/\xs=I.map Sl.d/\G p=some (.dT hw J)/\CG J W/\b∈W/\I.Nodup/\(∀x∈I,x∉W)/\W.length+I.length<=900000)/\
   ∀L,CG L (bq W b I)->Q .non (gset G p (.dT hw L))
 | _=>False
def fw(zF:Zz)(hw:HW):cR:=λds G Q=>match ds with
 | [.ref p]=>∃(R:List Sl) (I:List (List aE×D)),(G p=some (.dT hw I)/\CG I (aD::R)/\R.length<=900000)/\Q (.fl (R.map Sl.d)) G
 | _=>False
def ic(zF:Zz)(G:Gp)(ps:List MF)(o:List Sk):Prop:=ps.length=o.length/\∀(j:Nat) p s,ps[j]?=some p->o[j]?=some s->G p=some (aS zF s)
def vB(o:List Sk):Prop:=o.length<=64/\∀s∈o,s.wd<=1000
def fu(zF:Zz)(hw:HW):cR:=λds G Q=>match ds with
 | [.lst xs]=>(∃I:List Sl,(xs=I.map Sl.d/\I.length<=900000)/\∀p,G p=none->Q (.ref p) (gset G p (.dT hw (aN (λ_=>.bl true) (bf [] (I.map λs=>(s,())))))))\/
   ∃ns:List Nm,(xs=ns.map Nm.d/\ns.length<=900000)/\∀p,G p=none->Q (.ref p) (gset G p (.dT hw (dictOf (ns.map λn=>(n.key,.bl true)))))
 | _=>False
def d6(zF:Zz)(hw:HW):cR:=λds G Q=>match ds with
 | [.ref a,.ref p]=>∃(s:Sk) (row:List (Sl×Unit)),(G a=some (aS zF s)/\s.wd<=1000/\G p=some (.dT hw (aN (λ_=>.bl true) row)))/\Q (.bl ((made s).all λx=>(cE row x).isSome)) G
 | _=>False
def cm(zF:Zz)(hw:HW):cR:=λds G Q=>match ds with
 | [.str x,.lst xs]=>∃(ps:List MF) (o:List Sk),(xs=ps.map D.ref/\ic zF G ps o/\vB o/\x.length<=1000)/\∀p,G p=none->Q (.ref p) (gset G p (.dT hw (aN D.str (aA x o))))
 | _=>False
def ak(zF:Zz)(hw:HW):cR:=λds G Q=>match ds with
 | [.ref a]=>∃(s:Sk) (ns:List Sl),((s.act=.strike ns\/(∃w,s.act=.dress ns w)\/∃b,s.act=.move ns b)/\G a=some (aS zF s)/\ns.length<=1000)/\Q (.fl (ns.map Sl.d)) G
 | _=>False
def cC(zF:Zz)(hw:HW):cR:=λds G Q=>match ds with
 | [.lst xs]=>∃(ps:List MF) (o:List Sk),(xs=ps.map D.ref/\ic zF G ps o/\vB o)/\∀p,G p=none->Q (.ref p) (gset G p (.dT hw (aN (λ_=>.bl true) (aW o))))
 | _=>False
def cS(zF:Zz)(hw:HW):cR:=λds G Q=>match ds with
 | [.lst xs]=>∃(ps:List MF) (o:List Sk),(xs=ps.map D.ref/\ic zF G ps o/\vB o)/\∀p,G p=none->Q (.ref p) (gset G p (.dT hw (aN Sl.d (bc o))))
 | _=>False
def dk(zF:Zz)(hw:HW):cR:=λds G Q=>match ds with
 | [.lst xs]=>∃(ps:List MF) (o:List Sk),(xs=ps.map D.ref/\ic zF G ps o/\vB o)/\∀p,G p=none->Q (.ref p) (gset G p (.dT hw (aN D.str (eO o))))
 | _=>False
def d7(zF:Zz)(hw:HW):cR:=λds G Q=>match ds with
 | [.ref q,.lst ns,.ref p]=>∃(sks base:List Sk) (names:List Nm) (row:List Sl),(G q=some (.lst (sks.map Sk.d))/\je (sks.map Sk.rw)/\sks.length<=1000/\base.length < 64/\(∀s∈sks,s∈base)/\(∀s∈sks,s.wd<=1000)/\ns=names.map Nm.d/\names.length<=900000/\G p=some (.dT hw (aN (λ_=>.bl true) (bf [] (row.map λs=>(s,()))))))/\
   ∀out ps G',fZ G G'->fE (out.map Sk.rw)->(∀s,s∈out↔s∈sks)->ic zF G' ps (bF out names row)->Q (.fl (ps.map D.ref)) G'
 | _=>False
def fq(zF:Zz)(hw:HW):cR:=λds G Q=>match ds with
 | [.str x,.ref q,.lst ns]=>∃(sks base:List Sk) (names:List Nm),(G q=some (.lst (sks.map Sk.d))/\x.length<=1000/\je (sks.map Sk.rw)/\sks.length<=1000/\base.length < 64/\(∀s∈sks,s∈base)/\(∀s∈sks,1<=s.num/\s.wd<=1000)/\ns=names.map Nm.d/\names.length<=900000)/\
   ∀out G',fZ G G'->fE (out.map Sk.rw)->(∀s,s∈out↔s∈sks)->Q (.fl ((cH x out names).map Seat.d)) G'
 | _=>False
def Seat.d3(s:Seat):D:=.tup [s.name.d,.str s.sign,.str s.word]
def ft(zF:Zz)(hw:HW):cR:=λds G Q=>match ds with
 | [.str x,.ref q,.lst ns]=>∃(sks base:List Sk) (names:List Nm),(G q=some (.lst (sks.map Sk.d))/\x.length<=1000/\je (sks.map Sk.rw)/\sks.length<=1000/\base.length < 64/\(∀s∈sks,s∈base)/\(∀s∈sks,1<=s.num/\s.wd<=1000)/\ns=names.map Nm.d/\names.length<=900000)/\
   ∀out G',fZ G G'->fE (out.map Sk.rw)->(∀s,s∈out↔s∈sks)->Q (.fl ((cH x out names).map Seat.d3)) G'
 | _=>False
def dM(zF:Zz)(hw:HW):cR:=λds G Q=>match ds with
 | [.ref p]=>∃(s:Sk) (a:Sl) (x:Str),(s.act=.put a x/\G p=some (aS zF s))/\Q s.d G
 | _=>False
def cj(zF:Zz)(hw:HW):cR:=λds G Q=>match ds with
 | [.ref p]=>∃(s:Sk) (ns:List Sl),(s.act=.strike ns/\G p=some (aS zF s))/\Q s.d G
 | _=>False
def cG(zF:Zz)(hw:HW):cR:=λds G Q=>match ds with
 | [.ref p]=>∃(s:Sk) (ns:List Sl) (w:Str),(s.act=.dress ns w/\G p=some (aS zF s))/\Q s.d G
 | _=>False
def cX(zF:Zz)(hw:HW):cR:=λds G Q=>match ds with
 | [.ref p]=>∃(s:Sk) (ns:List Sl) (a:Sl),(s.act=.move ns a/\G p=some (aS zF s))/\Q s.d G
 | _=>False
structure Pp where
 old:Str
 sks:List Sk
 st:List (List aE×D)
 gr:List (aE×D)
 time:Int
def gZ(C:MF)(I:List aE->Int)(G:Gp)(p d s g:MF)(P:Pp):Prop:=G p=some (.ins C ar [.str P.old,.ref d,.ref s,.ref g,.int P.time])/\G d=some (.lst (P.sks.map Sk.d))/\G s=some (.dT I P.st)/\G g=some (.dK P.gr)
def cA(P:Pp)(n:Nm):Bool:=eK ((cx P.st n.key).getD .non) (.str (MI "wiped"))
def Pp.unw(P:Pp):List Nm:=(P.sks.filter λs=>!cA P s.nm).map Sk.nm
def Pp.num(P:Pp)(pen:Str):Int:=match cx P.gr (.inr pen) with
 | some (.int m)=>m+1
 | _=>1
def Pp.add(P:Pp)(k:Sk):Pp:=⟨P.old,P.sks ++ [k],aT P.st k.nm.key (.str (MI "waits")),aT P.gr (.inr k.pen) (.int k.num),k.time⟩
structure Pp.ok(P:Pp)(n:Nat):Prop where
 lo:P.old.length<=40
 ls:P.sks.length<=n
 lt:P.st.length<=n
 lg:P.gr.length<=n
 sk:∀s∈P.sks,1<=s.num/\s.wd<=60/\s.time<=P.time
 ap:(P.sks.map Sk.rw).Pairwise g6
 kn:∀s∈P.sks,∃w:Str,cx P.st s.nm.key=some (.str w)
 gi:∀k v,cx P.gr k=some v->∃m:Int,v=.int m/\0<=m
 gm:∀s∈P.sks,∃m:Int,cx P.gr (.inr s.pen)=some (.int m)/\s.num<=m
def AG(l:List MF)(G G':Gp):Prop:=∀a o,a∉l->G a=some o->G' a=some o
def Srt(P:Pp)(out:List Sk):Prop:=fE (out.map Sk.rw)/\∀s,s∈out↔s∈P.sks
def Pp.seats(P:Pp)(out:List Sk):List Seat:=cH P.old out P.unw
def bM(zF:Zz)(hw:HW):cR:=λds G Q=>match ds with
 | [.ref p]=>∃(P:Pp) (d s g:MF),(gZ zF.Z6 hw G p d s g P/\P.ok 50)/\Q (.fl (P.unw.map Nm.d)) G
 | _=>False
def aO(zF:Zz)(hw:HW):cR:=λds G Q=>match ds with
 | [.ref p]=>∃(P:Pp) (d s g:MF),(gZ zF.Z6 hw G p d s g P/\P.ok 50)/\∀out G',fZ G G'->Srt P out->Q (.fl ((P.seats out).map Seat.d3)) G'
 | _=>False
def bU(zF:Zz)(hw:HW):cR:=λds G Q=>match ds with
 | [.ref p]=>∃(P:Pp) (d s g:MF),(gZ zF.Z6 hw G p d s g P/\P.ok 50)/\∀out G',fZ G G'->Srt P out->Q (.fl ((P.seats out).map Seat.d)) G'
 | _=>False
def bN(zF:Zz)(hw:HW):cR:=λds G Q=>match ds with
 | [.ref p]=>∃(P:Pp) (d s g:MF),(gZ zF.Z6 hw G p d s g P/\P.sks.length<=50)/\Q (.fl (P.sks.map Sk.d)) G
 | _=>False
def aQ(zF:Zz)(hw:HW):cR:=λds G Q=>match ds with
 | [.ref p,.str pen]=>∃(P:Pp) (d s g:MF),(gZ zF.Z6 hw G p d s g P/\∀k v,cx P.gr k=some v->∃m:Int,v=.int m/\0<=m)/\Q (.tup [.str pen,.int (P.num pen)]) G
 | _=>False
def aP(zF:Zz)(hw:HW):cR:=λds G Q=>match ds with
 | [.ref p]=>∃(P:Pp) (d s g:MF),gZ zF.Z6 hw G p d s g P/\Q (.int (P.time+1)) G
 | _=>False
def ck(zF:Zz)(hw:HW):cR:=λds G Q=>match ds with
 | [.ref p,.ref a]=>∃(P:Pp) (d s g:MF) (k:Sk),(gZ zF.Z6 hw G p d s g P/\G a=some (aS zF k)/\P.sks.length<=50/\P.st.length<=50/\P.gr.length<=50)/\∀G',AG [p,d,s,g] G G'->gZ zF.Z6 hw G' p d s g (P.add k)->Q (.tup [.str k.pen,.int k.num]) G'
 | _=>False
def bn(zF:Zz)(hw:HW):cR:=λds G Q=>match ds with
 | [.ref p,.tup [.str a,.int b]]=>∃(P:Pp) (d s g:MF) (w:Str),(gZ zF.Z6 hw G p d s g P/\cx P.st [.inr a,.inl b]=some (.str w))/\Q .non G
 | _=>False
def cq(zF:Zz)(hw:HW):cR:=λds G Q=>match ds with
 | [.ref p,.tup [.str a,.int b]]=>∃(P:Pp) (d s g:MF) (w:Str),(gZ zF.Z6 hw G p d s g P/\cx P.st [.inr a,.inl b]=some (.str w))/\Q (.str w) G
 | _=>False
def bj(zF:Zz)(hw:HW):cR:=λds G Q=>match ds with
 | [.ref p,.tup [.str a,.int b]]=>∃(P:Pp) (d s g:MF),(gZ zF.Z6 hw G p d s g P/\cx P.st [.inr a,.inl b]=some (.str (MI "waits")))/\Q .non G
 | _=>False
def Pp.wipe(P:Pp)(n:List aE):Pp:=⟨P.old,P.sks,aT P.st n (.str (MI "wiped")),P.gr,P.time⟩
def dq(zF:Zz)(hw:HW):cR:=λds G Q=>match ds with
 | [.ref p,.tup [.str a,.int b]]=>∃(P:Pp) (d s g:MF),(gZ zF.Z6 hw G p d s g P/\cx P.st [.inr a,.inl b]=some (.str (MI "waits"))/\P.st.length<=50)/\∀G',AG [p,d,s,g] G G'->gZ zF.Z6 hw G' p d s g (P.wipe [.inr a,.inl b])->Q .non G'
 | _=>False
def bV(zF:Zz)(hw:HW):cR:=λds G Q=>match ds with
 | [.ref p,.str x]=>G p=some (.ins zF.Z6 [] [])/\∀d s g G',AG [p,d,s,g] G G'->gZ zF.Z6 hw G' p d s g ⟨x,[],[],[],0⟩->Q .non G'
 | _=>False
def c9(_:Zz)(_:HW):cR:=λds G Q=>match ds with
 | [.int at_,.int n]=>(0<=at_/\at_<=n)/\Q .non G
 | _=>False
def bL(_:Zz)(_:HW):cR:=λds G Q=>match ds with
 | [.int at_,.int to_,.int n]=>(0<=at_/\at_ < n/\at_ < to_/\to_<=n)/\Q .non G
 | _=>False
def c_(_:Zz)(_:HW):cR:=λds G Q=>match ds with
 | [.lst xs,.int i]=>∃seats:List Seat,(xs=seats.map Seat.d/\0<=i/\i<=seats.length)/\∀a:Sl,Q a.d G
 | _=>False
def bK(_:Zz)(_:HW):cR:=λds G Q=>match ds with
 | [.lst xs,.int i,.int j]=>∃seats:List Seat,(xs=seats.map Seat.d/\0<=i/\i<=j/\j<=seats.length/\seats.length<=100000)/\Q (.tup ((((seats.drop i.toNat).take (j - i).toNat).map Seat.name).map Sl.d)) G
 | _=>False
def Pp.next(P:Pp)(pen:Str)(k:Sk):Prop:=k.pen=pen/\k.num=P.num pen/\k.time=P.time+1
def b7(zF:Zz)(hw:HW):cR:=λds G Q=>match ds with
 | [.ref p,.str pen,.int i,.int j]=>∃(P:Pp) (d s g:MF),(gZ zF.Z6 hw G p d s g P/\P.ok 49)/\∀out,Srt P out->(0<=i/\i < (P.seats out).length/\i < j/\j<=(P.seats out).length)/\
   ∀G',AG [p,d,s,g] G G'->gZ zF.Z6 hw G' p d s g (P.add ⟨pen,P.num pen,P.time+1,.strike ((((P.seats out).drop i.toNat).take (j - i).toNat).map Seat.name)⟩)->Q (.tup [.str pen,.int (P.num pen)]) G'
 | _=>False
def da(zF:Zz)(hw:HW):cR:=λds G Q=>match ds with
 | [.ref p,.str pen,.int i,.str x]=>∃(P:Pp) (d s g:MF),(gZ zF.Z6 hw G p d s g P/\P.ok 49)/\∀out,Srt P out->(0<=i/\i<=(P.seats out).length)/\
   ∀(a:Sl) G',AG [p,d,s,g] G G'->gZ zF.Z6 hw G' p d s g (P.add ⟨pen,P.num pen,P.time+1,.put a x⟩)->Q (.tup [.str pen,.int (P.num pen)]) G'
 | _=>False
def du(zF:Zz)(hw:HW):cR:=λds G Q=>match ds with
 | [.ref p,.str pen,.int i]=>∃(P:Pp) (d s g:MF),(gZ zF.Z6 hw G p d s g P/\P.ok 49)/\∀out,Srt P out->(0<=i/\i<=(P.seats out).length)/\
   ∀(a:Sl) G',AG [p,d,s,g] G G'->gZ zF.Z6 hw G' p d s g (P.add ⟨pen,P.num pen,P.time+1,.put a (MI "\n")⟩)->Q (.tup [.str pen,.int (P.num pen)]) G'
 | _=>False
def dw(zF:Zz)(hw:HW):cR:=λds G Q=>match ds with
 | [.ref p,.str pen,.int i,.int j,.int m]=>∃(P:Pp) (d s g:MF),(gZ zF.Z6 hw G p d s g P/\P.ok 49)/\∀out,Srt P out->(0<=i/\i < (P.seats out).length/\i < j/\j<=(P.seats out).length/\0<=m/\m<=(P.seats out).length)/\
   ∀(a:Sl) G',AG [p,d,s,g] G G'->gZ zF.Z6 hw G' p d s g (P.add ⟨pen,P.num pen,P.time+1,.move ((((P.seats out).drop i.toNat).take (j - i).toNat).map Seat.name) a⟩)->Q (.tup [.str pen,.int (P.num pen)]) G'
 | _=>False
def cL(_:Zz)(_:HW):cR:=λds G Q=>match ds with
 | [.lst xs]=>∃I:List Rr,(xs=I.map Rr.d/\I.length<=100000)/\Q (.fl ((r9 I).map prD)) G
 | _=>False
def Seat.rr(s:Seat):Rr:=⟨s.name.d,s.sign,s.word⟩
def aI:Nat->List Bool->List Nat
 | _,[]=>[]
 | n,true::t=>n::aI (n+1) t
 | n,false::t=>aI (n+1) t
def de(seats:List Seat):List Nat:=aI 0 ((seats.map Seat.rr).map Rr.e)
def kR(zF:Zz)(hw:HW):cR:=λds G Q=>match ds with
 | [.ref p,.str pen,.int n]=>∃(P:Pp) (d s g:MF),(gZ zF.Z6 hw G p d s g P/\P.ok 49)/\∀out,Srt P out->(0<=n/\n < (de (P.seats out)).length)/\
   ∀G' I,(P.seats out)[(de (P.seats out)).getD n.toNat 0]?=some I->AG [p,d,s,g] G G'->gZ zF.Z6 hw G' p d s g (P.add ⟨pen,P.num pen,P.time+1,.strike [I.name]⟩)->Q (.tup [.str pen,.int (P.num pen)]) G'
 | _=>False
def ik(zF:Zz)(hw:HW)(Sj:MF):Fc:=λds G Q EQ=>match ds with
 | [.ref p,.str _,.int n]=>∃(P:Pp) (d s g:MF),(gZ zF.Z6 hw G p d s g P/\P.ok 49)/\∀out,Srt P out->¬ (0<=n/\n < (de (P.seats out)).length)/\∀G',fZ G G'->EQ Sj "at" (.int n) G'
 | _=>False
def drawn(c p:Int):Int:=let n:=(c+7919*p+1)*48271 % 2147483647;n*(n / 1009+69621) % 2147483647
def aM(_:Zz)(_:HW):cR:=λds G Q=>match ds with
 | [.int c,.int p]=>(0<=p/\p < 1000000)/\Q (.int (drawn c p)) G
 | _=>False
def cN(_:Zz)(_:HW):cR:=λds G Q=>match ds with
 | [.int _,.int m]=>(0<=m/\m<=40)/\∀x:Str,x.length=m.toNat->Q (.str x) G
 | _=>False
def dm(zF:Zz)(hw:HW):cR:=λds G Q=>match ds with
 | [.ref p,.str pen,.int _]=>∃(P:Pp) (d s g:MF),(gZ zF.Z6 hw G p d s g P/\P.ok 49)/\∀k G',P.next pen k->k.wd<=60->AG [p,d,s,g] G G'->gZ zF.Z6 hw G' p d s g (P.add k)->Q (.tup [.str pen,.int (P.num pen)]) G'
 | _=>False
def cD(zF:Zz)(hw:HW):cR:=λds G Q=>match ds with
 | [.ref p,.str _,.int n]=>∃(P:Pp) (d s g:MF),(gZ zF.Z6 hw G p d s g P/\P.ok 49/\∀out,Srt P out->¬ (0<=n/\n < (de (P.seats out)).length))/\∀G',fZ G G'->Q (.bl true) G'
 | _=>False
def Turn(P:Pp)(pen:Str)(cnt:List (aE×D))(P':Pp)(I:List (aE×D)):Prop:=(P'=P/\I=cnt)\/∃k:Sk,P.next pen k/\k.wd<=60/\(P'=P.add k\/P'=(P.add k).wipe k.nm.key)/\I=aT cnt (.inr pen) (.int (P.num pen))
def cT(zF:Zz)(hw:HW):cR:=λds G Q=>match ds with
 | [.ref p,.str pen,.int _,.ref q,.bl _]=>∃(P:Pp) (d s g:MF) (cnt:List (aE×D)),(gZ zF.Z6 hw G p d s g P/\P.ok 49/\G q=some (.dK cnt)/\q≠g/\cnt.length<=10/\cx cnt (.inr pen)=some (.int (P.num pen - 1)))/\
   ∀G' J I,gZ zF.Z6 hw G' p d s g J->G' q=some (.dK I)->Turn P pen cnt J I->Q (.bl true) G'
 | _=>False
def vJ(_:Zz)(_:HW):cR:=λvs _ Q=>match vs with
 | [.lst ds]=>∃ns:List Int,ds=ns.map D.int/\ns.length<=63/\∀G',Q (.bl true) G'
 | _=>False
def lW(zF:Zz)(hw:List aE->Int):bH:=sSeq (bQ 2 (cz kh (cz BZ (cz fW (cz fW (ae 0) (cz BZ (eC (.int 7919)) (ae 1))) (eC (.int 1))) (eC (.int 48271))) (eC (.int 2147483647))))
 (bg (cz kh (cz BZ (ae 2) (cz fW (cz Gb (ae 2) (eC (.int 1009))) (eC (.int 69621)))) (eC (.int 2147483647))))
def lU(zF:Zz)(hw:List aE->Int):bH:=bg (Bh (eC (.str "")) (af (eU 1 (K_ (af (ae 1) (au))) (gN 0) (ji) (cz i0 (eC (.str "abc\nx\n")) (cz kh (aK (aM zF hw) [] (af (ae 1) (af (cz fW (eC (.int 40)) (ae 0)) (au)))) (eC (.int 6))))) (au)))
def lS(zF:Zz)(hw:List aE->Int):bH:=sSeq (FC 1 (At (au)))
 (sSeq (bQ 2 (eC (.int 0)))
 (sSeq (iV (Ey (af (ae 0) (au))) (n8 2 (fb (gN 3) (fb (gN 4) (n_)))) (kS (cW (fU wo (cz i0 (ae 4) (eC (.int 1))) (eC k_PARAGRAPH_END))) (sSeq (em (gX (ae 1) (af (iJ (af (ae 2) (af (ae 3) (au)))) (au))))
 (bQ 2 (cz fW (ae 3) (eC (.int 1))))) (cy)))
 (sSeq (em (gX (ae 1) (af (iJ (af (ae 2) (af (eB kJ (af (ae 0) (au))) (au)))) (au))))
 (iU 1))))
def lT(zF:Zz)(hw:List aE->Int):bH:=sSeq (bQ 3 (ae 1))
 (iV (fA (ae 2)) (gN 4) (sSeq (dG hw (ae 0) (ae 4) (qK hw (ae 0) (ae 3)))
 (sSeq (dG hw (ae 0) (ae 3) (ae 4))
 (bQ 3 (ae 4)))))
def lR(zF:Zz)(hw:List aE->Int):bH:=bg (eU 1 (LH (af (eC (.int 1)) (af (cz fW (ae 1) (eC (.int 1))) (au)))) (gN 0) (ji) (cz fW (ae 1) (iJ (af (ae 0) (au)))))
def nB(zF:Zz)(hw:List aE->Int):bH:=bg (aK (cg zF hw) [] (af (E_ Dk (eC k_START) (Hf) (jw (eC (.int 2)))) (af (eB kJ (af (ae 0) (au))) (au))))
def gQ(zF:Zz)(hw:List aE->Int):bH:=bg (iJ (af (cz i0 (ae 0) (eC (.int 1))) (af (cz i0 (ae 0) (eC (.int 0))) (au))))
def p6(zF:Zz)(hw:List aE->Int):bH:=sSeq (bQ 1 (qf hw))
 (sSeq (Dp (ae 0) (gN 2) (dG hw (ae 1) (cz i0 (ae 2) (eC (.int 0))) (ae 2)))
 (bg (Ar (ba zF hw) (ae 1))))
def gy(zF:Zz)(hw:List aE->Int):bH:=sSeq (ir zF.F "name" (ae 0) (ae 1))
 (sSeq (ir zF.F "time" (ae 0) (ae 2))
 (sSeq (ir zF.F "anchor" (ae 0) (eC k_START))
 (ir zF.F "names" (ae 0) (iJ (au)))))
def ju(zF:Zz)(hw:List aE->Int):bH:=sSeq (em (aK (aR zF hw) [] (af (ae 0) (af (ae 1) (af (ae 2) (au))))))
 (sSeq (ir zF.F "anchor" (ae 0) (ae 3))
 (ir zF.F "signs" (ae 0) (ae 4)))
def gA(zF:Zz)(hw:List aE->Int):bH:=sSeq (em (aK (aR zF hw) [] (af (ae 0) (af (ae 1) (af (ae 2) (au))))))
 (ir zF.F "names" (ae 0) (ae 3))
def gU(zF:Zz)(hw:List aE->Int):bH:=sSeq (em (aK (aR zF hw) [] (af (ae 0) (af (ae 1) (af (ae 2) (au))))))
 (sSeq (ir zF.F "names" (ae 0) (ae 3))
 (ir zF.F "word" (ae 0) (ae 4)))
def iB(zF:Zz)(hw:List aE->Int):bH:=sSeq (em (aK (aR zF hw) [] (af (ae 0) (af (ae 1) (af (ae 2) (au))))))
 (sSeq (ir zF.F "names" (ae 0) (ae 3))
 (ir zF.F "anchor" (ae 0) (ae 4)))
def nA(zF:Zz)(hw:List aE->Int):bH:=sSeq (bQ 1 (cz i0 (ae 0) (eC (.int 0))))
 (sSeq (bQ 2 (cz i0 (ae 0) (eC (.int 1))))
 (sSeq (bQ 3 (cz i0 (ae 0) (eC (.int 2))))
 (sSeq (kS (cW (fU wo (cz i0 (ae 3) (eC (.int 0))) (eC (.str "put")))) (bg (kF zF.Z2 (bZ zF hw) [] (af (ae 1) (af (ae 2) (af (cz i0 (ae 3) (eC (.int 1))) (af (cz i0 (ae 3) (eC (.int 2))) (au))))))) (cy))
 (sSeq (kS (cW (fU wo (cz i0 (ae 3) (eC (.int 0))) (eC (.str "strike")))) (bg (kF zF.Z3 (bh zF hw) [] (af (ae 1) (af (ae 2) (af (cz i0 (ae 3) (eC (.int 1))) (au)))))) (cy))
 (sSeq (kS (cW (fU wo (cz i0 (ae 3) (eC (.int 0))) (eC (.str "dress")))) (bg (kF zF.Z4 (bW zF hw) [] (af (ae 1) (af (ae 2) (af (cz i0 (ae 3) (eC (.int 1))) (af (cz i0 (ae 3) (eC (.int 2))) (au))))))) (cy))
 (bg (kF zF.Z5 (bO zF hw) [] (af (ae 1) (af (ae 2) (af (cz i0 (ae 3) (eC (.int 1))) (af (cz i0 (ae 3) (eC (.int 2))) (au))))))))))))
def rV(zF:Zz)(hw:List aE->Int):bH:=sSeq (FC 1 (At (au)))
 (sSeq (bQ 2 (qK hw (ae 0) (eC k_START)))
 (sSeq (zJ (cW (cz u6 (ae 2) (eC .non))) (sSeq (em (gX (ae 1) (af (ae 2) (au))))
 (bQ 2 (qK hw (ae 0) (ae 2)))))
 (iU 1)))
def jt(zF:Zz)(hw:List aE->Int):bH:=bg (At (au))
def nH(zF:Zz)(hw:List aE->Int):bH:=bg (aK (cg zF hw) [] (af (bp zF.F "name" (ae 0)) (af (eB kJ (af (bp zF.F "signs" (ae 0)) (au))) (au))))
def l8(zF:Zz)(hw:List aE->Int):bH:=bg (aK (cg zF hw) [] (af (bp zF.F "name" (ae 0)) (af (eB kJ (af (bp zF.F "names" (ae 0)) (au))) (au))))
def p5(zF:Zz)(hw:List aE->Int):bH:=sSeq (bQ 2 (Aw hw (eC k_START) (eC .non)))
 (sSeq (em (aK (cM zF hw) [] (af (ae 2) (af (eC k_START) (af (aK (c8 zF hw) [] (af (ae 0) (au))) (au))))))
 (sSeq (iV (fA (eU 1 (fA (aK (dL zF hw) [] (af (ae 1) (au)))) (gN 0) (ji) (aK (c7 zF hw) [] (af (ae 0) (au))))) (gN 3) (kS (cW (wM hw (bp zF.F "anchor" (ae 3)) (ae 2))) (em (aK (cM zF hw) [] (af (ae 2) (af (bp zF.F "anchor" (ae 3)) (af (eE [(zF.Z1,ay zF hw),(zF.Z2,bu zF hw),(zF.Z3,ay zF hw),(zF.Z4,ay zF hw),(zF.Z5,bd zF hw)] "slots" [] (ae 3) au) (au)))))) (cy)))
 (bg (aK (fw zF hw) [] (af (ae 2) (au))))))
def uX(zF:Zz)(hw:List aE->Int):bH:=bg (Av hw (eU 1 (fA (ae 0)) (gN 0) (ji) (iJ (af (ae 0) (af (eC (.bl true)) (au))))))
def nC(zF:Zz)(hw:List aE->Int):bH:=bg (eB Bo (af (eU 1 (fA (eE [(zF.Z1,ay zF hw),(zF.Z2,bu zF hw),(zF.Z3,ay zF hw),(zF.Z4,ay zF hw),(zF.Z5,bd zF hw)] "slots" [] (ae 0) au)) (gN 0) (ji) (wM hw (ae 0) (ae 2))) (au)))
def nE(zF:Zz)(hw:List aE->Int):bH:=sSeq (bQ 3 (aK (fu zF hw) [] (af (ae 1) (au))))
 (sSeq (bQ 4 (eU 1 (fA (aK (dL zF hw) [] (af (ae 0) (au)))) (gN 0) (cW (wM hw (cz i0 (ae 0) (eC (.int 0))) (ae 4))) (aK (c7 zF hw) [] (af (ae 0) (au)))))
 (bg (eU 1 (fA (ae 4)) (gN 0) (qu (aK (d6 zF hw) [] (af (ae 0) (af (ae 3) (au))))) (ae 0))))
def iu(zF:Zz)(hw:List aE->Int):bH:=sSeq (bQ 2 (Au hw (af (aK (c8 zF hw) [] (af (ae 0) (au))) (af (ae 0) (au)))))
 (sSeq (iV (fA (ae 1)) (gN 3) (kS (qu (eB (wX [(zF.Z1,false),(zF.Z2,true),(zF.Z3,false),(zF.Z4,false),(zF.Z5,false)] zF.Z2) (af (ae 3) (af (eC (.ref zF.Z2)) au)))) (iV (Cd (af (eE [(zF.Z1,ay zF hw),(zF.Z2,bu zF hw),(zF.Z3,ay zF hw),(zF.Z4,ay zF hw),(zF.Z5,bd zF hw)] "slots" [] (ae 3) au) (af (bp zF.F "signs" (ae 3)) (au)))) (n8 2 (fb (gN 4) (fb (gN 5) (n_)))) (dG hw (ae 2) (ae 4) (ae 5))) (cy)))
 (bg (ae 2)))
def gR(zF:Zz)(hw:List aE->Int):bH:=bg (eB ql (af (bp zF.F "names" (ae 0)) (au)))
def jr(zF:Zz)(hw:List aE->Int):bH:=sSeq (bQ 1 (qf hw))
 (sSeq (iV (fA (ae 0)) (gN 2) (kS (qu (eB (wX [(zF.Z1,false),(zF.Z2,false),(zF.Z3,true),(zF.Z4,false),(zF.Z5,false)] zF.Z3) (af (ae 2) (af (eC (.ref zF.Z3)) au)))) (iV (fA (eE [(zF.Z1,ak zF hw),(zF.Z2,ak zF hw),(zF.Z3,ak zF hw),(zF.Z4,ak zF hw),(zF.Z5,ak zF hw)] "touched" [] (ae 2) au)) (gN 3) (dG hw (ae 1) (ae 3) (eC (.bl true)))) (cy)))
 (bg (ae 1)))
def j0(zF:Zz)(hw:List aE->Int):bH:=sSeq (bQ 1 (qf hw))
 (sSeq (iV (fA (ae 0)) (gN 2) (kS (qu (eB (wX [(zF.Z1,false),(zF.Z2,false),(zF.Z3,false),(zF.Z4,false),(zF.Z5,true)] zF.Z5) (af (ae 2) (af (eC (.ref zF.Z5)) au)))) (iV (Cd (af (eE [(zF.Z1,ak zF hw),(zF.Z2,ak zF hw),(zF.Z3,ak zF hw),(zF.Z4,ak zF hw),(zF.Z5,ak zF hw)] "touched" [] (ae 2) au) (af (eE [(zF.Z1,ay zF hw),(zF.Z2,bu zF hw),(zF.Z3,ay zF hw),(zF.Z4,ay zF hw),(zF.Z5,bd zF hw)] "slots" [] (ae 2) au) (au)))) (n8 2 (fb (gN 3) (fb (gN 4) (n_)))) (dG hw (ae 1) (ae 3) (ae 4))) (cy)))
 (bg (ae 1)))
def lQ(zF:Zz)(hw:List aE->Int):bH:=sSeq (bQ 1 (qf hw))
 (sSeq (iV (fA (ae 0)) (gN 2) (kS (qu (eB (wX [(zF.Z1,false),(zF.Z2,false),(zF.Z3,false),(zF.Z4,true),(zF.Z5,false)] zF.Z4) (af (ae 2) (af (eC (.ref zF.Z4)) au)))) (iV (fA (eE [(zF.Z1,ak zF hw),(zF.Z2,ak zF hw),(zF.Z3,ak zF hw),(zF.Z4,ak zF hw),(zF.Z5,ak zF hw)] "touched" [] (ae 2) au)) (gN 3) (dG hw (ae 1) (ae 3) (bp zF.F "word" (ae 2)))) (cy)))
 (bg (ae 1)))
def uW(zF:Zz)(hw:List aE->Int):bH:=sSeq (bQ 3 (aK (eP zF hw) [] (af (ae 0) (af (ae 1) (au)))))
 (sSeq (bQ 4 (aK (d7 zF hw) [] (af (ae 1) (af (ae 2) (af (aK (fu zF hw) [] (af (ae 3) (au))) (au))))))
 (sSeq (bQ 5 (aK (cm zF hw) [] (af (ae 0) (af (ae 4) (au)))))
 (sSeq (bQ 6 (aK (cC zF hw) [] (af (ae 4) (au))))
 (sSeq (bQ 7 (aK (cS zF hw) [] (af (ae 4) (au))))
 (sSeq (bQ 8 (aK (dk zF hw) [] (af (ae 4) (au))))
 (sSeq (bQ 9 (qf hw))
 (sSeq (Dq (ae 5) (gN 10) (kS (cW (k_ hw (ae 10) (ae 6))) (dG hw (ae 9) (pF hw (ae 7) (ae 10) (ae 10)) (ae 10)) (cy)))
 (sSeq (bQ 11 (eU 1 (fA (ae 3)) (gN 0) (cW (wM hw (ae 0) (ae 10))) (iJ (af (ae 0) (af (qK hw (ae 10) (ae 0)) (au))))))
 (bg (eU 2 (fA (ae 11)) (n8 2 (fb (gN 0) (fb (gN 1) (n_)))) (ji) (iJ (af (ae 0) (af (ae 1) (af (qK hw (ae 7) (ae 1)) (af (pF hw (ae 10) (ae 1) (eC (.str ""))) (au))))))))))))))))
def rT(zF:Zz)(hw:List aE->Int):bH:=bg (eU 1 (fA (aK (fq zF hw) [] (af (ae 0) (af (ae 1) (af (ae 2) (au)))))) (gN 0) (ji) (E_ Dk (ae 0) (jw (eC (.int 1))) (Hf)))
def iz(zF:Zz)(hw:List aE->Int):bH:=bg (wN 1 (jc zF.Z6 ar 1 (ae 0)) (gN 0) (cW (fU F_ (qK hw (jc zF.Z6 ar 2 (ae 1)) (cz i0 (ae 0) (eC (.int 0)))) (eC k_WIPED))) (cz i0 (ae 0) (eC (.int 0))))
def lZ(zF:Zz)(hw:List aE->Int):bH:=bg (aK (ft zF hw) [] (af (jc zF.Z6 ar 0 (ae 0)) (af (jc zF.Z6 ar 1 (ae 0)) (af (br zF.Z6 ar (bM zF hw) [] (ae 0) au) (au)))))
def ix(zF:Zz)(hw:List aE->Int):bH:=sSeq (kS (lH (cW (jd Ga IB (eC (.int 0)) (ae 0) (ae 2)))) (hV) (cy))
 (kS (lH (cW (jd IB Ga (ae 0) (ae 1) (ae 2)))) (hV) (cy))
def iw(zF:Zz)(hw:List aE->Int):bH:=bg (eB wW (af (eU 1 (fA (E_ Dk (ae 0) (jw (ae 1)) (jw (ae 2)))) (gN 0) (ji) (cz i0 (ae 0) (eC (.int 1)))) (au)))
def j7(zF:Zz)(hw:List aE->Int):bH:=bg (aK (fq zF hw) [] (af (jc zF.Z6 ar 0 (ae 0)) (af (jc zF.Z6 ar 1 (ae 0)) (af (br zF.Z6 ar (bM zF hw) [] (ae 0) au) (au)))))
def rW(zF:Zz)(hw:List aE->Int):bH:=bg (iJ (af (bp zF.F "name" (ae 0)) (af (bp zF.F "time" (ae 0)) (af (iJ (af (eC (.str "put")) (af (bp zF.F "anchor" (ae 0)) (af (bp zF.F "signs" (ae 0)) (au))))) (au)))))
def lX(zF:Zz)(hw:List aE->Int):bH:=bg (iJ (af (bp zF.F "name" (ae 0)) (af (bp zF.F "time" (ae 0)) (af (iJ (af (eC (.str "strike")) (af (bp zF.F "names" (ae 0)) (au)))) (au)))))
def nJ(zF:Zz)(hw:List aE->Int):bH:=bg (iJ (af (bp zF.F "name" (ae 0)) (af (bp zF.F "time" (ae 0)) (af (iJ (af (eC (.str "dress")) (af (bp zF.F "names" (ae 0)) (af (bp zF.F "word" (ae 0)) (au))))) (au)))))
def p7(zF:Zz)(hw:List aE->Int):bH:=bg (iJ (af (bp zF.F "name" (ae 0)) (af (bp zF.F "time" (ae 0)) (af (iJ (af (eC (.str "move")) (af (bp zF.F "names" (ae 0)) (af (bp zF.F "anchor" (ae 0)) (au))))) (au)))))
def l7(zF:Zz)(hw:List aE->Int):bH:=sSeq (em (gX (jc zF.Z6 ar 1 (ae 0)) (af (eE [(zF.Z2,dM zF hw),(zF.Z3,cj zF hw),(zF.Z4,cG zF hw),(zF.Z5,cX zF hw)] "row" [] (ae 1) au) (au))))
 (sSeq (dG hw (jc zF.Z6 ar 2 (ae 0)) (bp zF.F "name" (ae 1)) (eC k_WAITS))
 (sSeq (dG hw (jc zF.Z6 ar 3 (ae 0)) (cz i0 (bp zF.F "name" (ae 1)) (eC (.int 0))) (cz i0 (bp zF.F "name" (ae 1)) (eC (.int 1))))
 (sSeq (AV zF.Z6 ar 4 (ae 0) (bp zF.F "time" (ae 1)))
 (bg (bp zF.F "name" (ae 1))))))
def fN(zF:Zz)(hw:List aE->Int):bH:=bg (iJ (af (ae 1) (af (cz fW (pF hw (jc zF.Z6 ar 3 (ae 0)) (ae 1) (eC (.int 0))) (eC (.int 1))) (au))))
def fM(zF:Zz)(hw:List aE->Int):bH:=bg (cz fW (jc zF.Z6 ar 4 (ae 0)) (eC (.int 1)))
def jv(zF:Zz)(hw:List aE->Int):bH:=sSeq (bQ 4 (br zF.Z6 ar (bU zF hw) [] (ae 0) au))
 (sSeq (em (aK (bL zF hw) [] (af (ae 2) (af (ae 3) (af (eB kJ (af (ae 4) (au))) (au))))))
 (bg (br zF.Z6 ar (ck zF hw) [] (ae 0) (af (kF zF.Z3 (bh zF hw) [] (af (br zF.Z6 ar (aQ zF hw) [] (ae 0) (af (ae 1) (au))) (af (br zF.Z6 ar (aP zF hw) [] (ae 0) au) (af (aK (bK zF hw) [] (af (ae 4) (af (ae 2) (af (ae 3) (au))))) (au))))) (au)))))
def AY(zF:Zz)(hw:List aE->Int):bH:=sSeq (bQ 3 (aK (cL zF hw) [] (af (br zF.Z6 ar (aO zF hw) [] (ae 0) au) (au))))
 (sSeq (kS (lH (cW (jd Ga IB (eC (.int 0)) (ae 2) (cz Aa (eB kJ (af (ae 3) (au))) (eC (.int 1)))))) (hV) (cy))
 (sSeq (bQ 4 (cz i0 (cz i0 (ae 3) (ae 2)) (eC (.int 1))))
 (bg (br zF.Z6 ar (b7 zF hw) [] (ae 0) (af (ae 1) (af (ae 4) (af (cz fW (ae 4) (eC (.int 1))) (au))))))))
def iA(zF:Zz)(hw:List aE->Int):bH:=bg (eB ql (af (jc zF.Z6 ar 1 (ae 0)) (au)))
def AW(zF:Zz)(hw:List aE->Int)(Sj:MF)(EQ:XQ):bH:=sSeq (bQ 3 (aK (cL zF hw) [] (af (br zF.Z6 ar (aO zF hw) [] (ae 0) au) (au))))
 (sSeq (kS (lH (cW (jd Ga IB (eC (.int 0)) (ae 2) (cz Aa (eB kJ (af (ae 3) (au))) (eC (.int 1)))))) (zK Sj "at" (af (ae 2) (au)) EQ) (cy))
 (hV))
def js(zF:Zz)(hw:List aE->Int)(Sm:MF)(Sj:MF)(Sn:MF)(So:MF):bH:=sSeq (bQ 3 (eB ql (af (br zF.Z6 ar (bN zF hw) [] (ae 0) au) (au))))
 (sSeq (bQ 4 (eB ql (af (br zF.Z6 ar (aO zF hw) [] (ae 0) au) (au))))
 (sSeq (HQ (λC a=>C=Sj/\a="at") (ik zF hw Sj) (af (ae 0) (af (ae 1) (af (ae 2) (au)))) 5 (λ_ _ z x=>sSeq (kS (zA (lH (qu (eB (Jo x (.ref Sj) true) (af (ae 5) (af (eC (.ref Sj)) (au)))))) (cW (fU F_ (IV (ae 5) x z) (ae 2)))) (bg (eC (.bl false))) (cy))
 (bg (IZ (fU wo (br zF.Z6 ar (bN zF hw) [] (ae 0) au) (ae 3)) (fU wo (br zF.Z6 ar (aO zF hw) [] (ae 0) au) (ae 4))))))
 (bg (eC (.bl false)))))
def fP(zF:Zz)(hw:List aE->Int):bH:=kS (cW (k_ hw (ae 1) (jc zF.Z6 ar 2 (ae 0)))) (hV) (cy)
def j6(zF:Zz)(hw:List aE->Int):bH:=sSeq (em (br zF.Z6 ar (bn zF hw) [] (ae 0) (af (ae 1) (au))))
 (bg (qK hw (jc zF.Z6 ar 2 (ae 0)) (ae 1)))
def fO(zF:Zz)(hw:List aE->Int):bH:=kS (cW (fU F_ (br zF.Z6 ar (cq zF hw) [] (ae 0) (af (ae 1) (au))) (eC k_WAITS))) (hV) (cy)
def lY(zF:Zz)(hw:List aE->Int):bH:=sSeq (em (br zF.Z6 ar (bj zF hw) [] (ae 0) (af (ae 1) (au))))
 (dG hw (jc zF.Z6 ar 2 (ae 0)) (ae 1) (eC k_WIPED))
def j5(zF:Zz)(hw:List aE->Int):bH:=sSeq (bQ 5 (eB ql (af (br zF.Z6 ar (aO zF hw) [] (ae 0) au) (au))))
 (sSeq (bQ 6 (eU 1 (K_ (af (eB kJ (af (ae 5) (au))) (au))) (gN 0) (cW (fU wo (cz i0 (cz i0 (ae 6) (ae 0)) (eC (.int 1))) (eC (.str "\n")))) (ae 0)))
 (sSeq (kS (lH (cW (jd Ga IB (eC (.int 0)) (ae 2) (eB kJ (af (ae 6) (au)))))) (bg (aK (cD zF hw) [] (af (ae 0) (af (ae 1) (af (ae 2) (au)))))) (cy))
 (sSeq (bQ 7 (aK (kR zF hw) [] (af (ae 0) (af (ae 1) (af (ae 2) (au))))))
 (sSeq (dG hw (ae 3) (ae 1) (cz fW (qK hw (ae 3) (ae 1)) (eC (.int 1))))
 (sSeq (kS (zA (cW (fU F_ (ae 7) (iJ (af (ae 1) (af (qK hw (ae 3) (ae 1)) (au)))))) (cW (fU F_ (br zF.Z6 ar (cq zF hw) [] (ae 0) (af (ae 7) (au))) (eC (.str "waits"))))) (bg (eC (.bl false))) (cy))
 (sSeq (kS (cW (fU F_ (br zF.Z6 ar (aO zF hw) [] (ae 0) au) (cz fW (E_ Dk (ae 5) (Hf) (jw (cz i0 (ae 6) (ae 2)))) (E_ Dk (ae 5) (jw (cz fW (cz i0 (ae 6) (ae 2)) (eC (.int 1)))) (Hf))))) (bg (eC (.bl false))) (cy))
 (sSeq (kS (qu (ae 4)) (sSeq (em (br zF.Z6 ar (dq zF hw) [] (ae 0) (af (ae 7) (au))))
 (bg (fU wo (br zF.Z6 ar (aO zF hw) [] (ae 0) au) (ae 5)))) (cy))
 (bg (eC (.bl true))))))))))
def nF(zF:Zz)(hw:List aE->Int):bH:=kS (lH (cW (jd Ga Ga (eC (.int 0)) (ae 0) (ae 1)))) (hV) (cy)
def nG(zF:Zz)(hw:List aE->Int):bH:=sSeq (kS (cW (fU wo (ae 1) (eC (.int 0)))) (bg (eC k_START)) (cy))
 (bg (cz i0 (cz i0 (ae 0) (cz Aa (ae 1) (eC (.int 1)))) (eC (.int 0))))
def nI(zF:Zz)(hw:List aE->Int):bH:=sSeq (bQ 4 (br zF.Z6 ar (bU zF hw) [] (ae 0) au))
 (sSeq (em (aK (c9 zF hw) [] (af (ae 2) (af (eB kJ (af (ae 4) (au))) (au)))))
 (bg (br zF.Z6 ar (ck zF hw) [] (ae 0) (af (kF zF.Z2 (bZ zF hw) [] (af (br zF.Z6 ar (aQ zF hw) [] (ae 0) (af (ae 1) (au))) (af (br zF.Z6 ar (aP zF hw) [] (ae 0) au) (af (aK (c_ zF hw) [] (af (ae 4) (af (ae 2) (au)))) (af (ae 3) (au)))))) (au)))))
def l5(zF:Zz)(hw:List aE->Int):bH:=bg (br zF.Z6 ar (da zF hw) [] (ae 0) (af (ae 1) (af (ae 2) (af (eC (.str "\n")) (au)))))
def l6(zF:Zz)(hw:List aE->Int):bH:=sSeq (bQ 5 (br zF.Z6 ar (bU zF hw) [] (ae 0) au))
 (sSeq (em (aK (bL zF hw) [] (af (ae 2) (af (ae 3) (af (eB kJ (af (ae 5) (au))) (au))))))
 (sSeq (em (aK (c9 zF hw) [] (af (ae 4) (af (eB kJ (af (ae 5) (au))) (au)))))
 (sSeq (bQ 6 (aK (bK zF hw) [] (af (ae 5) (af (ae 2) (af (ae 3) (au))))))
 (bg (br zF.Z6 ar (ck zF hw) [] (ae 0) (af (kF zF.Z5 (bO zF hw) [] (af (br zF.Z6 ar (aQ zF hw) [] (ae 0) (af (ae 1) (au))) (af (br zF.Z6 ar (aP zF hw) [] (ae 0) au) (af (ae 6) (af (aK (c_ zF hw) [] (af (ae 5) (af (ae 4) (au)))) (au)))))) (au)))))))
def lV(zF:Zz)(hw:List aE->Int):bH:=sSeq (bQ 3 (eB kJ (af (br zF.Z6 ar (aO zF hw) [] (ae 0) au) (au))))
 (sSeq (bQ 4 (cz kh (aK (aM zF hw) [] (af (ae 2) (af (eC (.int 3)) (au)))) (eC (.int 4))))
 (sSeq (bQ 5 (cz kh (aK (aM zF hw) [] (af (ae 2) (af (eC (.int 4)) (au)))) (cz fW (ae 3) (eC (.int 1)))))
 (sSeq (kS (zA (cW (fU wo (ae 4) (eC (.int 0)))) (cW (fU wo (ae 3) (eC (.int 0))))) (bg (br zF.Z6 ar (du zF hw) [] (ae 0) (af (ae 1) (af (ae 5) (au))))) (cy))
 (sSeq (kS (cW (fU wo (ae 4) (eC (.int 1)))) (bg (br zF.Z6 ar (da zF hw) [] (ae 0) (af (ae 1) (af (ae 5) (af (aK (cN zF hw) [] (af (ae 2) (af (cz fW (eC (.int 1)) (cz kh (aK (aM zF hw) [] (af (ae 2) (af (eC (.int 5)) (au)))) (eC (.int 4)))) (au)))) (au)))))) (cy))
 (sSeq (bQ 5 (cz kh (ae 5) (ae 3)))
 (sSeq (bQ 6 (cz fW (cz fW (ae 5) (eC (.int 1))) (cz kh (aK (aM zF hw) [] (af (ae 2) (af (eC (.int 5)) (au)))) (eB E1 (af (eC (.int 6)) (af (cz Aa (ae 3) (ae 5)) (au)))))))
 (sSeq (kS (cW (fU wo (ae 4) (eC (.int 2)))) (bg (br zF.Z6 ar (b7 zF hw) [] (ae 0) (af (ae 1) (af (ae 5) (af (ae 6) (au)))))) (cy))
 (bg (br zF.Z6 ar (dw zF hw) [] (ae 0) (af (ae 1) (af (ae 5) (af (ae 6) (af (cz kh (aK (aM zF hw) [] (af (ae 2) (af (eC (.int 6)) (au)))) (cz fW (ae 3) (eC (.int 1)))) (au))))))))))))))
def gT(zF:Zz)(hw:List aE->Int):bH:=sSeq (rC zF.Z6 [] "old" (ae 0) (ae 1))
 (sSeq (rC zF.Z6 ["old"] "drawn" (ae 0) (As (At (au))))
 (sSeq (rC zF.Z6 ["old","drawn"] "states" (ae 0) (qf hw))
 (sSeq (rC zF.Z6 AF0 "greatest" (ae 0) (Bi))
 (rC zF.Z6 ["old","drawn","states","greatest"] "time" (ae 0) (eC (.int 0))))))
def DA(zF:Zz)(hw:List aE->Int):bH:=sSeq (bQ 1 (eB EZ (af (E_ Dk (ae 0) (Hf) (jw (eC (.int 1)))) (au))))
 (sSeq (bQ 2 (kF zF.Z6 (bV zF hw) [] (af (aK (cN zF hw) [] (af (cz Gb (ae 1) (eC (.int 31))) (af (cz kh (ae 1) (eC (.int 31))) (au)))) (au))))
 (sSeq (bQ 3 (At (af (eC (.str "ann")) (af (eC (.str "bob")) (af (cz fW (eC (.str "ann")) (E_ Dk (eC (.str "bob")) (Hf) (jw (cz fW (eC (.int 1)) (cz kh (ae 1) (eC (.int 3))))))) (au))))))
 (sSeq (bQ 4 (Bi))
 (sSeq (iV (fA (ae 3)) (gN 5) (dG hw (ae 4) (ae 5) (eC (.int 0))))
 (sSeq (iV (fA (E_ Dk (ae 0) (jw (eC (.int 1))) (jw (eC (.int 26))))) (gN 1) (sSeq (bQ 5 (cz i0 (ae 3) (cz kh (aK (aM zF hw) [] (af (ae 1) (af (eC (.int 1)) (au)))) (eC (.int 3)))))
 (kS (cW (fU wo (cz kh (aK (aM zF hw) [] (af (ae 1) (af (eC (.int 2)) (au)))) (eC (.int 2))) (eC (.int 0)))) (sSeq (bQ 6 (eB kJ (af (eU 1 (fA (br zF.Z6 ar (aO zF hw) [] (ae 2) au)) (gN 0) (cW (fU wo (cz i0 (ae 0) (eC (.int 1))) (eC (.str "\n")))) (ae 0)) (au))))
 (sSeq (bQ 7 (cz Aa (cz kh (aK (aM zF hw) [] (af (ae 1) (af (eC (.int 7)) (au)))) (cz fW (ae 6) (eC (.int 3)))) (eC (.int 1))))
 (kS (lH (qu (aK (cT zF hw) [] (af (ae 2) (af (ae 5) (af (ae 7) (af (ae 4) (af (fU wo (cz kh (aK (aM zF hw) [] (af (ae 1) (af (eC (.int 8)) (au)))) (eC (.int 4))) (eC (.int 0))) (au))))))))) (bg (eC (.bl false))) (cy)))) (kS (cW (cz u6 (aK (dm zF hw) [] (af (ae 2) (af (ae 5) (af (ae 1) (au))))) (eC .non))) (dG hw (ae 4) (ae 5) (cz fW (qK hw (ae 4) (ae 5)) (eC (.int 1)))) (cy)))))
 (bg (eC (.bl true))))))))
def wl:String:="cy em bg JS HR JT kS hV bQ FC iU Lv AV rC ae eC cz fU jd IZ Mv Ku Mw LO cW JN zA lH qu ji HE iJ At au af fW oI Hg Aa kh Gb LB BZ IB Ga Mc Mq wo F_ i0 E_ Hf jw Dk eB kJ ql wW EZ E1 LQ LR wE aK br kF jc Bh gX eU iV fA K_ LH Ls eJ w_ Fa gN n8 fb n_ val cZ List.map_cons List.map_nil List.replicate List.length_cons List.length_nil List.cons_append List.nil_append List.append_nil List.getElem?_cons_zero List.getElem?_cons_succ List.getElem?_nil List.set_cons_zero List.set_cons_succ List.set_nil Nat.reduceAdd Nat.reduceSub Nat.reduceLeDiff Nat.zero_add Option.some.injEq Option.map_some decide_eq_true_eq true_and and_true and_self if_true if_false Bool.false_eq_true reduceCtorEq List.cons.injEq GO.ins.injEq GO.lst.injEq D.lst.injEq D.fl.injEq exists_eq_left' exists_eq_left exists_eq' av d9 pl bo KU KS KR KQ KP KO KN KM KL KJ KI KH KG KF KE qf Bi pF dG kg Kv Kt IY LA IA jy cu mI yC Gr Bool.not_true Bool.not_false bp ir eE Aw IX IW Ar LC u6 sL zJ qK wM k_ LS KC if_true if_false Av Au Cd fo Dq Bo wX Ks GE Mm Kt k_ pF jy Mc As Dp wN Ey Bh k_PARAGRAPH_END k_WAITS k_WIPED Jo IV EZ E1 JL k_START sT sS pE qJ v3 v8 v0 v7 vZ v6 vY v5 yP yO ur wI BU BW BS BV v4 v9 uv uu sU ut xO xP ba dL cg aR bZ bh bW bO c7 ay bu bd c8 cM fw eP fu d6 d7 cm ak cC cS dk fq ft cL c9 bL c_ bK kR dM cj cG cX bM aO bU bN aQ aP ck bn cq bj dq bV b7 da du dw aM cN dm cD cT"
local macro_rules | `(tactic| walk_at "st") => do let ls <- (("sSeq " ++ wl).splitOn " ").toArray.mapM (fun s => `(Lean.Parser.Tactic.simpLemma| $(Lean.mkIdent s.toName):term)); `(tactic| simp only [$ls,*, *])
local macro_rules | `(tactic| rw?) => do let ls <- (wl.splitOn " ").toArray.mapM (fun s => `(Lean.Parser.Tactic.simpLemma| $(Lean.mkIdent s.toName):term)); `(tactic| simp only [$ls,*, *])
theorem Ca{b:Bool}{p q:Prop}(h1:b=true->p)(h2:b=false->q):if b=true then p else q:=by
 cases b
 .rw[if_neg (by decide)];exact h2 rfl
 .rw[if_pos rfl];exact h1 rfl
theorem iteF{p q:Prop}(h:q):if (false:Bool)=true then p else q:=by rw[if_neg (by decide)];exact h
theorem iteT{p q:Prop}(h:p):if (true:Bool)=true then p else q:=by rw[if_pos rfl];exact h
theorem qe{a b:Int}(h:0 < b):0<=a % b/\a % b < b:=⟨Int.emod_nonneg _ (by omega),Int.emod_lt_of_pos _ h⟩
def Hr(m:Str)(i:Int):Str:=⟨#[m.cps.toList.getD i.toNat 0]⟩
theorem Dg{m:Str}{i:Int}(h0:0<=i)(h:i < m.length):L3.strAt m i=some (.str (Hr m i)):=by
 have J:i.toNat < m.cps.toList.length:=by simp only[Array.length_toList];have:m.length=m.cps.size:=rfl;omega
 unfold L3.strAt lD Gt;have h2:i < (m.cps.toList.length:Int):=by omega
 rw[if_pos h0,if_pos h2];have I:i.toNat < m.cps.size:=by simpa using J
 simp[Hr,I]
theorem Jq{α:Type}[Inhabited α]{f:α->D}{xs:List α}{i:Int}(h0:0<=i)(h:i < xs.length):lD (xs.map f) i=some (f (xs.getD i.toNat default)):=by
 rw[kK h0 (by rw[MH];exact h)]
 have hi:i.toNat < xs.length:=by omega
 simp[hi]
theorem EC{α:Type}[Inhabited α]{xs:List α}{i:Nat}(h:i < xs.length):xs.getD i default∈xs:=by
 rw[MX,MO h];exact OQ h
theorem ve{G:Gp}{p:MF}{o:GO}(h:G p=none):fB (gset G p o) p=G:=by
 funext a
 by_cases e:a=p
 .subst e;rw[d_,h]
 .rw[ee e,ai e]
def bE(sp:cR)(rd:bH)(ns:List Str):Prop:=∀ds G Q,sp ds G Q->rd { nx:=λ_ G'=>Q .non G',rt:=Q } (cZ ns ds) G
def bA(sp:cR)(n:Nat):Prop:=∀ds G Q,sp ds G Q->ds.length=n
local macro_rules | `(tactic| walk_at "i") => `(tactic| first | exact Or.inl rfl | exact Or.inr rfl)
def LW(sp:Fc)(rx:XQ->bH)(ns:List Str):Prop:=∀EQ ds G Q,sp ds G Q EQ->rx EQ { nx:=λ_ G'=>Q .non G',rt:=Q } (cZ ns ds) G
def LZ(sp:Fc)(n:Nat):Prop:=∀ds G Q EQ,sp ds G Q EQ->ds.length=n
theorem lq(zF:Zz)(hw:HW):bE (aR zF hw) (gy zF hw) AK0:=by
 intro ds G Q h;unfold aR at h;split at h
 .rename_i a d t;obtain⟨C,J,I,p,n,rfl,h⟩:=h;have hs:=aj;unfold gy;walk_at "st";(repeat ((with_reducible refine And.intro ?cc ?_); (case cc => first | decide | omega | rfl)));exact h
 .exact h.elim
theorem oX(zF:Zz)(hw:HW):bE (bZ zF hw) (ju zF hw) Ap0:=by
 intro ds G Q h;unfold bZ at h;split at h
 .rename_i a d t b x;obtain⟨J,p,n,s,rfl,rfl,h⟩:=h;have hs:=aj;have I:zF.Z2∈zF.F:=by simp
  unfold ju;unfold Sl.d;walk_at "st";exact⟨zF.Z2,I,rfl,p,n,rfl,⟨I,by decide⟩,⟨I,by decide⟩,h⟩
 .exact h.elim
theorem lr(zF:Zz)(hw:HW):bE (bh zF hw) (gA zF hw) Az0:=by
 intro ds G Q h;unfold bh at h;split at h
 .obtain⟨J,p,n,rfl,h⟩:=h;have hs:=aj;have I:zF.Z3∈zF.F:=by simp
  unfold gA;walk_at "st";exact⟨zF.Z3,I,rfl,p,n,rfl,⟨I,by decide⟩,h⟩
 .exact h.elim
theorem my(zF:Zz)(hw:HW):bE (bW zF hw) (gU zF hw) As0:=by
 intro ds G Q h;unfold bW at h;split at h
 .obtain⟨J,p,n,rfl,h⟩:=h;have hs:=aj;have I:zF.Z4∈zF.F:=by simp
  unfold gU;walk_at "st";exact⟨zF.Z4,I,rfl,p,n,rfl,⟨I,by decide⟩,⟨I,by decide⟩,h⟩
 .exact h.elim
theorem nz(zF:Zz)(hw:HW):bE (bO zF hw) (iB zF hw) Aq0:=by
 intro ds G Q h;unfold bO at h;split at h
 .obtain⟨J,p,n,s,rfl,rfl,h⟩:=h;have hs:=aj;have I:zF.Z5∈zF.F:=by simp
  unfold iB;unfold Sl.d;walk_at "st";exact⟨zF.Z5,I,rfl,p,n,rfl,⟨I,by decide⟩,⟨I,by decide⟩,h⟩
 .exact h.elim
theorem rF(zF:Zz)(hw:HW):bE (cg zF hw) (lR zF hw) Au0:=by
 intro ds G Q h;unfold cg at h;split at h
 .rename_i p n m;obtain⟨⟨h1,h2⟩,h⟩:=h;have hs:=aj;unfold lR;rw?;refine⟨⟨by omega,by omega,by omega,by omega⟩,gJ (λd=>match d with|.int k=>.tup [.str p,.int n,.int k]|d=>d) (by rw[dB];omega) (λd hd P I=>?_) ?_⟩
  .obtain⟨k,J,rfl⟩:=mem_map.mp hd;walk_at "st";exact⟨rfl,by omega,by simp,by omega,I _ rfl⟩
  .have e:(fy 1 (m+1 - 1).toNat).map (λd=>match d with|D.int k=>D.tup [.str p,.int n,.int k]|d=>d)=(bJ p n m.toNat).map Sl.d:=by
    unfold fy bJ;rw[Nr,Nr,show m+1 - 1=m by omega]
    refine Om λk _=>?_;simp only[Function.comp,Sl.d];rw[Int.add_comm]
   rw[e];exact h
 .exact h.elim
theorem tU(zF:Zz)(hw:HW):bE (c8 zF hw) (nB zF hw) ["old"]:=by
 intro ds G Q h;unfold c8 at h;split at h
 .rename_i x;obtain⟨h1,h⟩:=h;have hs:=aj;unfold nB;have I:L3.cutD [D.str (MI ""),D.int 0,D.int 0] none (some 2)=[D.str (MI ""),D.int 0]:=by rw[wQ (by decide)];rfl
  walk_at "st";refine⟨by decide,by omega,⟨by omega,by omega⟩,?_⟩
  rw[Int.toNat_natCast];exact h
 .exact h.elim
theorem oW(zF:Zz)(hw:HW):bE (ay zF hw) (jt zF hw) Ae0:=by
 intro ds G Q h;unfold ay at h;split at h
 .have hs:=aj;unfold jt;walk_at "st"
  first|exact⟨by omega,h⟩|omega
 .exact h.elim
theorem tZ(zF:Zz)(hw:HW):bE (bu zF hw) (nH zF hw) Ae0:=by
 intro ds G Q h;unfold bu at h;split at h
 .rename_i a;obtain⟨s,b,x,⟨e,I,J⟩,h⟩:=h;have hs:=aj;have L:zF.Z2∈zF.F:=by simp
  unfold aS at I;rw[e]at I;unfold nH;walk_at "st";refine⟨by omega,⟨by omega,by omega⟩,?_⟩
  rw[Int.toNat_natCast];unfold made at h;rw[e]at h;exact h
 .exact h.elim
theorem rS(zF:Zz)(hw:HW):bE (bd zF hw) (l8 zF hw) Ae0:=by
 intro ds G Q h;unfold bd at h;split at h
 .rename_i a;obtain⟨s,b,ns,⟨e,I,J⟩,h⟩:=h;have hs:=aj;have L:zF.Z5∈zF.F:=by simp
  unfold aS at I;rw[e]at I;unfold l8;walk_at "st";rw[MH];refine⟨⟨by omega,by omega⟩,?_⟩
  rw[Int.toNat_natCast];unfold made at h;rw[e]at h;exact h
 .exact h.elim
theorem ml{a b:String}(h:MI a≠MI b):eK (.str (MI a)) (.str (MI b))=false:=bC λz=>h (by injection z)
theorem tT(zF:Zz)(hw:HW):bE (c7 zF hw) (nA zF hw) ["row","name","time","act"]:=by
 intro ds G Q h;unfold c7 at h;split at h
 .obtain⟨⟨pen,num,time,act⟩,rfl,h⟩:=h;have hs:=aj;unfold aS at h;unfold nA Sk.d;cases act with
  | put a x=>
   unfold Act.d;dsimp only at h;rw[ag];rw?;rw[ag];rw?;rw[ag];rw?;rw[ag];unfold Sl.d at h;unfold Sl.d;rw?;exact λp I=>⟨pen,num,a,rfl,rfl,h p I⟩
  | strike ns=>
   unfold Act.d;dsimp only at h;rw[ag];rw?;rw[ag];rw?;rw[ag];rw?;have J:=ml (a:="strike") (b:="put") (by decide +kernel)
   rw[ag];refine bB false (λK hK=>?_) (iteF ?_)
   .walk_at "st"
   .simp only[cy];rw[ag];rw?;exact λp I=>⟨pen,num,rfl,h p I⟩
  | dress ns w=>
   unfold Act.d;dsimp only at h;rw[ag];rw?;rw[ag];rw?;rw[ag];rw?;have J:=ml (a:="dress") (b:="put") (by decide +kernel)
   have L:=ml (a:="dress") (b:="strike") (by decide +kernel)
   rw[ag];refine bB false (λK hK=>?_) (iteF ?_)
   .walk_at "st"
   .simp only[cy];rw[ag];refine bB false (λK hK=>?_) (iteF ?_)
    .walk_at "st"
    .simp only[cy];rw[ag];rw?;exact λp I=>⟨pen,num,rfl,h p I⟩
  | move ns a=>
   unfold Act.d;dsimp only at h;rw[ag];rw?;rw[ag];rw?;rw[ag];rw?;have J:=ml (a:="move") (b:="put") (by decide +kernel)
   have L:=ml (a:="move") (b:="strike") (by decide +kernel)
   have O:=ml (a:="move") (b:="dress") (by decide +kernel)
   rw[ag];refine bB false (λK hK=>?_) (iteF ?_)
   .walk_at "st"
   .simp only[cy];rw[ag];refine bB false (λK hK=>?_) (iteF ?_)
    .walk_at "st"
    .simp only[cy];rw[ag];refine bB false (λK hK=>?_) (iteF ?_)
     .walk_at "st"
     .simp only[cy];unfold Sl.d at h;unfold Sl.d;rw?;exact λp I=>⟨pen,num,a,rfl,rfl,h p I⟩
 .exact h.elim
theorem ms(zF:Zz)(hw:HW):bE (ba zF hw) (gQ zF hw) AG0:=by
 intro ds G Q h;unfold ba at h;split at h
 .obtain⟨r,rfl,h⟩:=h;have hs:=aj;unfold gQ Rw.d;walk_at "st"
  first|exact⟨by omega,h⟩|omega
 .exact h.elim
def Mo(hw:List aE->Int)(G:Gp)(p:MF)(ss W:List Sl)(b:Sl)(a:D)(i:Nat)(σ:eV)(G':Gp):Prop:=∃(L:Option D) (Wi:List Sl) (J:Sl) (I:List (List aE×D)),σ=[some (.ref p),some a,some (.lst (ss.map Sl.d)),some J.d,L]/\G'=gset G p (.dT hw I)/\CG I Wi/\J∈Wi/\(∀x∈ss.drop i,x∉Wi)/\bq Wi J (ss.drop i)=bq W b ss/\Wi.length=W.length+i
theorem rH(zF:Zz)(hw:HW):bE (cM zF hw) (lT zF hw) Ay0:=by
 intro ds G Q h;unfold cM at h;split at h
 .rename_i p a xs;obtain⟨b,Y,W,I,⟨rfl,rfl,hG,O,U,nd,hf,hl⟩,h⟩:=h;have hs:=aj;unfold lT;rw[ag];have eb:(match b.d with|D.fl ds=>D.lst ds|d=>d)=b.d:=rfl
  simp only[bQ,ae,cZ,val,M5,Pn,OC,ON,List.replicate,NU,ND,MU,Np,Nn,Ny,Nat.reduceAdd,Nat.reduceSub,eb];refine⟨Mo hw G p Y W b b.d,⟨_,W,b,I,rfl,?_,O,U,hf,rfl,rfl⟩,?_,?_⟩
  .funext z
   by_cases e:z=p
   .subst e;rw[av];exact hG
   .rw[ai e]
  .rintro i d σ G' hd ⟨x4,Wi,J,I,rfl,rfl,O,U,hf,hI,hlen⟩
   rw[MZ]at hd;cases hx:Y[i]? with
   | none=>rw[hx]at hd;cases hd
   | some x=>
    rw[hx]at hd;cases hd;obtain⟨hi,ex⟩:=List.getElem?_eq_some_iff.mp hx;have dr:Y.drop i=x::Y.drop (i+1):=by rw[<- ex];exact List.drop_eq_getElem_cons hi
    rw[dr]at hf hI;have hxW:=hf x MW;have fs:=EF O U hxW;have lk:=O.2.2.2 J U;have lx:=O.2.2.1 x hxW;have nx1:=O.2.1;have nd':(x::Y.drop (i+1)).Nodup:=by rw[<- dr];exact nd.sublist (List.drop_sublist _ _)
    rw[Oj]at nd';simp only[gN,Ny,Nn];have kx:=wF x;have kb:=wF J;have vx:val x.d=x.d:=rfl;have vb:val J.d=J.d:=rfl;rw[ag];show ∃d,cu hw (gset G p (.dT hw I)) (.ref p) J.d (some d)/\kg hw (.ref p) x.d (val d) (gset G p (.dT hw I)) _
    refine⟨nx Wi J,?_,?_⟩
    .show (match gset G p (.dT hw I) p with|some (.dT L I)=>L=hw/\∃Z,mI J.d=some Z/\some (nx Wi J)=cx I Z|some (.dK I)=>_|some (.dF _ L _ I)=>_|_=>False)
     rw[av];exact⟨rfl,J.key,kb,lk.symm⟩
    .rw[IC];show (match gset G p (.dT hw I) p with|some (.dT L I)=>L=hw/\∃Z,mI x.d=some Z/\I.length < MN/\_|some (.dK I)=>_|some (.lst ds)=>_|_=>False)
     rw[av];refine⟨rfl,x.key,kx,by omega,?_⟩
     rw[d9];dsimp only;rw[ag];show (match gset G p (.dT hw (aT I x.key (nx Wi J))) p with|some (.dT L I)=>L=hw/\∃Z,mI J.d=some Z/\I.length < MN/\_|some (.dK I)=>_|some (.lst ds)=>_|_=>False)
     rw[av];refine⟨rfl,J.key,kb,by have:=eQ I x.key (nx Wi J);omega,?_⟩
     rw[d9];refine⟨_,jK Wi J x,x,_,rfl,rfl,fs,(dY U x).mpr (.inr rfl),λy hy hW=>?_,?_,by rw[kB U];omega⟩
     .rcases (dY U y).mp hW with z|z
      .exact hf y (MQ _ hy) z
      .exact nd'.1 (z ▸ hy)
     .exact hI
  .rintro σ G' ⟨x4,Wi,J,I,rfl,rfl,O,U,hf,hI,hlen⟩
   rw[MH,P3]at hI;have:Wi=bq W b Y:=hI;rw[this]at O;exact h _ O
 .exact h.elim
def Mb(G:Gp)(p q:MF)(R:List Sl)(m:Nat)(σ:eV)(G':Gp):Prop:=∃i,i<=R.length/\m=R.length - i/\σ=[some (.ref p),some (.ref q),some (CK (R.drop i))]/\G'=gset G q (.lst ((R.take i).map Sl.d))
theorem Ki{W:List Sl}(I:W.Nodup):∀{pre post:List Sl} {c:Sl},W=pre ++ c::post->nx W c=CK post:=by
 induction W with
 | nil=>intro pre post c h;simp at h
 | cons a t J=>
  intro pre post c h;rw[Oj]at I;cases pre with
  | nil=>
   simp only[ON,List.cons.injEq]at h;obtain⟨rfl,rfl⟩:=h;simp[nx]
  | cons O pre=>
   simp only[OC,List.cons.injEq]at h;obtain⟨rfl,h⟩:=h;have L:c∈t:=by rw[h];simp
   simp only[nx];rw[if_neg (λ(z:a=c)=>I.1 (by rw[z];exact L))]
   exact J I.2 h
theorem xE(zF:Zz)(hw:HW):bE (fw zF hw) (rV zF hw) ["following","row","slot"]:=by
 intro ds G Q h;unfold fw at h;split at h
 .rename_i p;obtain⟨R,I,⟨Y,hF,hl⟩,h⟩:=h;have hs:=aj;unfold rV;rw[ag];rw?;refine⟨by omega,λq hq=>?_⟩
  have O:p≠q:=λz=>by subst z;rw[Y]at hq;cases hq
  have gp:∀o,gset G q o p=some (.dT hw I):=λo=>by rw[ai O];exact Y
  have look:∀c∈aD::R,∀o,cu hw (gset G q o) (.ref p) c.d (some (nx (aD::R) c)):=λc hc o=>by
   show (match gset G q o p with|some (.dT J I)=>J=hw/\∃W,mI c.d=some W/\some (nx (aD::R) c)=cx I W|some (.dK I)=>_|some (.dF _ J _ I)=>_|_=>False)
   rw[gp];exact⟨rfl,c.key,wF c,(hF.2.2.2 c hc).symm⟩
  rw[ag];show ∃d,cu hw (gset G q (.lst [])) (.ref p) aD.d (some d)/\_
  refine⟨_,look aD (by simp) _,?_⟩
  have e0:nx (aD::R) aD=CK R:=by simp[nx]
  dsimp only;rw[ag,e0,wp];simp only[Ny,Nn];refine⟨Mb G p q R,⟨R.length,0,NH _,rfl,rfl,rfl⟩,?_⟩;have U:∀(a b:Option D) (d:D) (K:Bool->Gp->Prop) (G:Gp),cW (cz u6 (ae 2) (eC .non)) [a,b,some d] G K↔K (!sL d) G:=λa b d K G=>Iff.rfl
  rintro m σ G' ⟨i,hi,rfl,rfl,rfl⟩
  by_cases L:i < R.length
  .have dr:R.drop i=R[i]::R.drop (i+1):=List.drop_eq_getElem_cons L;rw[dr];refine (U _ _ (R[i]).d _ _).mpr ?_;dsimp only;rw[show (!sL (R[i]).d)=true from rfl,if_pos rfl]
   have e1:nx (aD::R) R[i]=CK (R.drop (i+1)):=Ki hF.1 (pre:=aD::R.take i) (by rw[OC];congr 1;rw[<- dr];exact (List.take_append_drop i R).symm)
   refine⟨λσ G'=>Mb G p q R (R.length - (i+1)) σ G',λσ2 G2 hN=>⟨_,by omega,hN⟩,?_⟩
   rw[ag];have ua:∀(E:Ends3) (Z:D),em (gX (ae 1) (af (ae 2) au)) E [some (.ref p),some (.ref q),some (R[i]).d] (gset G q (.lst ((R.take i).map Sl.d)))↔((R.take i).map Sl.d).length < MN/\E.nx [some (.ref p),some (.ref q),some (R[i]).d] (gset G q (.lst ((R.take i).map Sl.d ++ [(R[i]).d]))):=λE Z=>by
    unfold Sl.d;rw?
   rw[show CK (R[i]::R.drop (i+1))=(R[i]).d from rfl,ua _ .non]
   refine⟨by rw[MH,NI];omega,?_⟩
   dsimp only;show ∃d,cu hw (gset G q _) (.ref p) (R[i]).d (some d)/\_
   refine⟨_,look R[i] (by simp) _,i+1,by omega,rfl,?_,?_⟩
   .rw[e1,wp];rfl
   .rw[Nz,MO L,No];rfl
  .have ei:i=R.length:=by omega
   subst ei;rw[P3,Nu];refine (U _ _ .non _ _).mpr ?_;dsimp only;rw[show (!sL D.non)=false from rfl,if_neg (by decide)]
   show iU 1 _ _ _
   simp only[iU,ND,NU,av];rw[ve hq];exact h
 .exact h.elim
theorem Fm(vs:List Rw):(vs.map pj).map (·.2)=vs.map Rw.d:=by rw[Nr];rfl
theorem Dw{rs:List Rw}{i:Nat}{d:D}(h:(rs.map Rw.d)[i]?=some d):∃r,rs[i]?=some r/\d=r.d:=by
 rw[MZ]at h;cases e:rs[i]? with
 | none=>rw[e]at h;cases h
 | some r=>rw[e]at h;cases h;exact⟨r,rfl,rfl⟩
theorem key_at{rs:List Rw}{i:Nat}{d:D}(h:(rs.map Rw.key)[i]?=some d):∃r,rs[i]?=some r/\d=r.key:=by
 rw[MZ]at h;cases e:rs[i]? with
 | none=>rw[e]at h;cases h
 | some r=>rw[e]at h;cases h;exact⟨r,rfl,rfl⟩
theorem Fy(zF:Zz)(hw:HW)(G:Gp){vs base:List Rw}(O:vs.Pairwise g6)(L:base.length < 64)(sub:∀r∈vs,r∈base):
  SortBy (ba zF hw) G (vs.map Rw.d) (vs.map Rw.key) λi=>PySem.W.rankIn Rw.lt vs (vs.getD i default) where
 few:=by
  rw[MH];have:=fT (qm O) sub;omega
 len:=by rw[MH,MH]
 key:=λi d Y h1 h2=>by
  obtain⟨r,J,rfl⟩:=Dw h1;obtain⟨r',I,rfl⟩:=key_at h2;rw[J]at I;cases I;exact⟨r,rfl,rfl,rfl⟩
 ki:=λd hd=>by
  obtain⟨r,_,rfl⟩:=mem_map.mp hd;exact⟨_,_,rfl⟩
 cp:=λa U b L=>by
  obtain⟨r,_,rfl⟩:=mem_map.mp U;obtain⟨r',_,rfl⟩:=mem_map.mp L;exact IL r r'
 lt:=λi j a b h1 h2=>by
  obtain⟨r,J,rfl⟩:=key_at h1;obtain⟨r',I,rfl⟩:=key_at h2;rw[II,PySem.W.rank_lt Dr (M_ J),MX,MX,J,I];rfl
theorem vU(zF:Zz)(hw:HW):bE (dL zF hw) (p6 zF hw) ["rows","by_name","row"]:=by
 intro ds G Q h;unfold dL at h;split at h
 .rename_i q;obtain⟨Y,base,⟨L,one,l1,l2,sub⟩,h⟩:=h;have hs:=aj;unfold p6;rw[ag];rw?;intro p hp;have hqp:q≠p:=λz=>by subst z;rw[hp]at L;cases L
  rw[ag];rw?;refine⟨Y.map Rw.d,by rw[ai hqp];exact L,λi σ G'=>∃(vs:List Rw) (v:Option D),(σ=[some (.ref q),some (.ref p),v]/\G'=gset G p (.dT hw (vs.map pj)))/\vs.Pairwise g6/\∀r,r∈vs↔r∈Y.take i,⟨[],none,⟨rfl,rfl⟩,.nil,by simp⟩,?_,?_,?_⟩
  .rintro i σ G' ⟨vs,v,⟨_,rfl⟩,_⟩
   rw[ai hqp];exact L
  .rintro i d σ G' hd ⟨vs,v,⟨rfl,rfl⟩,U,J⟩
   obtain⟨r,hr,rfl⟩:=Dw hd;have Z:=M_ hr;have tk:∀x,x∈Y.take (i+1)↔x∈Y.take i\/x=r:=λx=>by
    rw[Nz,hr,Qi];simp
   have lv:vs.length<=base.length:=fT (qm U) λx hx=>sub x (OM ((J x).mp hx));simp only[gN,Ny,Nn];have fin:∀G2,G2=gset G p (.dT hw (aT (vs.map pj) (p9 r) r.d))->∃(vs:List Rw) (v:Option D),(([some (D.ref q),some (.ref p),some r.d]:eV)=[some (.ref q),some (.ref p),v]/\G2=gset G p (.dT hw (vs.map pj)))/\vs.Pairwise g6/\∀x,x∈vs↔x∈Y.take (i+1):=by
    intro G2 e
    by_cases O:r∈vs
    .refine⟨vs,_,⟨rfl,?_⟩,U,λx=>?_⟩
     .rw[e,H_ O λa W pp nn=>one a (OM ((J a).mp W)) r Z pp nn]
     .rw[tk,J];constructor
      .exact .inl
      .rintro (z|rfl)
       .exact z
       .exact (J _).mp O
    .have ap:∀a∈vs,g6 a r:=λa W z=>O (by
      have:=one a (OM ((J a).mp W)) r Z z.1 z.2;subst this;exact W)
     refine⟨vs ++ [r],_,⟨rfl,?_⟩,?_,λx=>?_⟩
     .rw[e,put_new ap]
     .rw[List.pairwise_append];exact⟨U,List.pairwise_singleton _ _,λa W b hb=>by rw[Pt.mp hb];exact ap a W⟩
     .rw[tk,Qi,J,Pt]
   refine (show dG hw (ae 1) (cz i0 (ae 2) (eC (.int 0))) (ae 2) _ [some (D.ref q),some (.ref p),some r.d] _ from ?_)
   show (match (gset G p (.dT hw (vs.map pj))) p with
    | some (.dT hw' I)=>hw'=hw/\∃ks,mI (.tup [.str r.pen,.int r.num])=some ks/\I.length < MN/\_
    | some (.dK I)=>_
    | some (.lst ds)=>_
    | _=>False)
   rw[av];exact⟨rfl,p9 r,rfl,by rw[MH];omega,fin _ (by rw[d9];rfl)⟩
  .rintro σ G' ⟨vs,v,⟨rfl,rfl⟩,U,J⟩
   rw[MH,Nu]at J;show (match (gset G p (.dT hw (vs.map pj))) p with
    | some (.dT _ I)=>∃ks r,SortBy (ba zF hw) (gset G p (.dT hw (vs.map pj))) (I.map (·.2)) ks r/\∀p':List Nat,p'.Perm (List.range (I.map (·.2)).length)->(p'.map r).Pairwise (·<=·)->Q (.fl (p'.map λi=>(I.map (·.2)).getD i .non)) (gset G p (.dT hw (vs.map pj)))
    | _=>False)
   rw[av];dsimp only;rw[Fm];refine⟨vs.map Rw.key,_,Fy zF hw _ U l2 (λr hr=>sub r ((J r).mp hr)),λq hq hsq=>?_⟩;rw[MH]at hq;obtain⟨st,mem⟩:=Dh U hq hsq;have e:(q.map λi=>(vs.map Rw.d).getD i .non)=(q.map λi=>vs.getD i default).map Rw.d:=by
    rw[Nr];refine Om λi hi=>?_;have li:i < vs.length:=mem_range.mp (hq.mem_iff.mp hi);simp[li]
   rw[e];exact h _ _ (fZ.refl.gset hp) st λr=>(mem r).trans (J r)
 .exact h.elim
theorem zL{sks:List Sk}:∀{out:List Rw},(∀r∈out,r∈sks.map Sk.rw)->∃o:List Sk,out=o.map Sk.rw/\∀s∈o,s∈sks
 | [],_=>⟨[],rfl,λs hs=>by simp at hs⟩
 | r::t,h=>by
  obtain⟨o,e,J⟩:=zL λx I=>h x (MQ _ I);obtain⟨s,hs,L⟩:=mem_map.mp (h r MW);refine⟨s::o,by rw[e,<- L];rfl,λx I=>?_⟩
  rcases NC.mp I with z|z
  .rw[z];exact hs
  .exact J x z
theorem Act.d_inj{a b:Act}(h:a.d=b.d):a=b:=by
 have sl:∀{xs ys:List Sl},xs.map Sl.d=ys.map Sl.d->xs=ys:=λ{xs ys} e=>List.map_inj_right (f:=Sl.d) (λx y=>Sl.d_inj) |>.mp e
 have ne:∀{x y:String},MI x≠MI y->D.str (MI x)≠D.str (MI y):=λh z=>h (by injection z)
 cases a<;>cases b<;>simp only[Act.d,D.tup.injEq,List.cons.injEq,D.str.injEq,and_true,true_and,reduceCtorEq,and_false,false_and]at h
 .obtain⟨h1,h2⟩:=h;rw[Sl.d_inj h1,h2]
 all_goals first
  | (exact absurd h (by decide +kernel))
  | (exact absurd h.1 (by decide +kernel))
  | skip
 .rw[sl h]
 .rw[sl h.1,h.2]
 .rw[sl h.1,Sl.d_inj h.2]
theorem Sk.rw_inj{a b:Sk}(h:a.rw=b.rw):a=b:=by
 obtain⟨a1,a2,a3,a4⟩:=a;obtain⟨O,L,J,I⟩:=b;simp only[Sk.rw,Rw.mk.injEq]at h;obtain⟨rfl,rfl,rfl,h⟩:=h;rw[Act.d_inj h]
theorem sV(zF:Zz)(hw:HW){σ:eV}{G:Gp}{p:MF}{s:Sk}{i:Nat}{Q:mf}(I:σ[i]?=some (some (.ref p)))(J:G p=some (aS zF s))(h:Q s.act.anch.d G):bp zF.F "anchor" (ae i) σ G Q:=by
 obtain⟨pen,num,time,act⟩:=s;unfold bp ae;rw[I];cases act<;>(simp only[aS]at J;simp only[J];refine⟨by simp,?_⟩;first|exact h)
theorem i6(zF:Zz)(hw:HW){σ:eV}{G:Gp}{p:MF}{s:Sk}{i:Nat}{Q:mf}(L:σ[i]?=some (some (.ref p)))(I:G p=some (aS zF s))(O:s.act.many<=1000)(h:Q (.fl ((made s).map Sl.d)) G):
  eE [(zF.Z1,ay zF hw),(zF.Z2,bu zF hw),(zF.Z3,ay zF hw),(zF.Z4,ay zF hw),(zF.Z5,bd zF hw)] "slots" [] (ae i) au σ G Q:=by
 obtain⟨pen,num,time,act⟩:=s;unfold eE ae;rw[L];cases act with
 | put a x=>
  have J:=I;simp only[aS]at I;simp only[I];exact⟨by decide +kernel,bu zF hw,by simp,⟨_,a,x,⟨rfl,J,O⟩,h⟩⟩
 | strike ns=>
  simp only[aS]at I;simp only[I];exact⟨by decide +kernel,ay zF hw,by simp,h⟩
 | dress ns w=>
  simp only[aS]at I;simp only[I];exact⟨by decide +kernel,ay zF hw,by simp,h⟩
 | move ns a=>
  have J:=I;simp only[aS]at I;simp only[I];exact⟨by decide +kernel,bd zF hw,by simp,⟨_,a,ns,⟨rfl,J,O⟩,h⟩⟩
def E6(zF:Zz)(G:Gp)(ps:List MF)(o:List Sk):Prop:=∀(j:Nat) p s,ps[j]?=some p->o[j]?=some s->G p=some (aS zF s)
theorem o7(zF:Zz)(s:Sk):∃C L ds,aS zF s=.ins C L ds:=by
 obtain⟨pen,num,time,act⟩:=s;cases act<;>exact⟨_,_,_,rfl⟩
theorem no(n:Nat):∀(o:List Sk) (W:List Sl),(∀s∈o,s.act.many<=1000)->(o.foldl dg W).length<=W.length+1000*o.length
 | [],W,_=>by simp
 | s::t,W,h=>by
  have h1:=h s MW;have L:=no n t (dg W s) λx I=>h x (MQ _ I);have h2:(dg W s).length<=W.length+1000:=by
   unfold dg;split
   .rename_i J;rw[ma J];have:(made s).length=s.act.many:=b8 _ _ _;omega
   .omega
  simp only[Ol,MU];omega
def Mp(zF:Zz)(hw:List aE->Int)(G:Gp)(f:MF)(ps:List MF)(o:List Sk)(n:Nat)(O L:Option D)(i:Nat)(σ:eV)(G':Gp):Prop:=∃(J:Option D) (I:List (List aE×D)),σ=[O,L,some (.ref f),J]/\fZ G G'/\E6 zF G' ps o/\G' f=some (.dT hw I)/\CG I (lh n (o.take i))
theorem vT(zF:Zz)(hw:HW):bE (eP zF hw) (p5 zF hw) Am0:=by
 intro ds G Q h;unfold eP at h;split at h
 .rename_i x q;obtain⟨sks,base,⟨hq0,hx,one,l1,l2,sub,ok⟩,h⟩:=h;have hs:=aj;unfold p5;rw[ag];show ∀f,G f=none->(match gset G f (.dT hw []) f with|some (.dT hw' [])=>hw'=hw/\∃ks,mI aD.d=some ks/\_|_=>False)
  intro f hf;have hqf:q≠f:=λz=>by subst z;rw[hf]at hq0;cases hq0
  rw[av];refine⟨rfl,aD.key,rfl,?_⟩;rw[d9];dsimp only;rw[ag];simp only[Ny,Nn,cZ,M5,Pn,OC,ON,List.replicate,MU,Np,Nat.reduceAdd,Nat.reduceSub];show x.length<=1000/\(∃(b:Sl) (ss W:List Sl) (I:List (List aE×D)),(aD.d=b.d/\(fi x.length).map Sl.d=ss.map Sl.d/\gset G f (.dT hw [(aD.key,.non)]) f=some (.dT hw I)/\CG I W/\b∈W/\ss.Nodup/\(∀x∈ss,x∉W)/\W.length+ss.length<=900000)/\∀SA,CG SA (bq W b ss)->_)
  have ol:(fi x.length).length=x.length:=b8 _ _ _;refine⟨hx,aD,fi x.length,[aD],_,⟨rfl,rfl,av,Ci (λ_=>True),by simp,dU _ _ _,λy hy hW=>?_,by rw[ol];simp;omega⟩,λI hF=>?_⟩
  .obtain⟨_,_,hk⟩:=cI hy;rw[Pt.mp hW]at hk;exact absurd hk (by decide)
  .rw[d9];dsimp only;rw[ag];rw?;refine⟨sks.map Sk.rw,base.map Sk.rw,⟨by rw[ai hqf,hq0,Nr];rfl,one,by rw[MH];exact l1,by rw[MH];exact l2,λr hr=>?_⟩,λout G1 hE st mem=>?_⟩
   .obtain⟨s,J,rfl⟩:=mem_map.mp hr;exact mem_map.mpr ⟨s,sub s J,rfl⟩
   obtain⟨o,rfl,ho⟩:=zL (sks:=sks) (out:=out) λr hr=>(mem r).mp hr;have memo:∀s,s∈o↔s∈sks:=λs=>⟨ho s,λJ=>by
    obtain⟨s',h1,h2⟩:=mem_map.mp ((mem s.rw).mpr (mem_map.mpr ⟨s,J,rfl⟩));rw[<- Sk.rw_inj h2];exact h1⟩
   have lo:o.length < 64:=by
    have:=fT (eX st) (ys:=base.map Sk.rw) λr hr=>by
     obtain⟨s,J,rfl⟩:=mem_map.mp hr;exact mem_map.mpr ⟨s,sub s (ho s J),rfl⟩
    rw[MH,MH]at this;omega
   have hG1:G1 f=some (.dT hw I):=hE f _ av;have hE1:fZ G G1:=λa o' ha=>hE a o' (by
    have:a≠f:=λz=>by subst z;rw[hf]at ha;cases ha
    rw[ai this];exact ha)
   have dmap:(o.map Sk.rw).map Rw.d=o.map Sk.d:=by rw[Nr];rfl
   rw[dmap];refine⟨by rw[MH];omega,λi acc G2=>∃ps:List MF,ps.length=i/\acc=ps.map D.ref/\fZ G1 G2/\E6 zF G2 ps o,⟨[],rfl,rfl,fZ.refl,λj p s Z=>by simp at Z⟩,?_,?_⟩
   .rintro i d acc G2 hd ⟨ps,rfl,rfl,hE2,hO⟩
    rw[MZ]at hd;cases hsj:o[ps.length]? with
    | none=>rw[hsj]at hd;cases hd
    | some s=>
     rw[hsj]at hd;cases hd;refine⟨⟨by simp,rfl⟩,?_⟩
     show ∃s':Sk,s.d=s'.d/\∀p,G2 p=none->_
     refine⟨s,rfl,λp hp=>⟨ps ++ [p],by simp,by rw[No];rfl,λa o' ha=>?_,λj q s' Z J=>?_⟩⟩
     .have:a≠p:=λz=>by subst z;rw[hE2 a o' ha]at hp;cases hp
      rw[ai this];exact hE2 a o' ha
     .rw[List.getElem?_append]at Z;split at Z
      .have h1:=hO j q s' Z J;have:q≠p:=λz=>by subst z;rw[h1]at hp;cases hp
       rw[ai this];exact h1
      .rename_i hge;have hj0:j=ps.length:=by
        by_cases z:j - ps.length=0
        .omega
        .obtain⟨k,hk⟩:∃k,j - ps.length=k+1:=⟨j - ps.length - 1,by omega⟩
         rw[hk]at Z;simp at Z
       subst hj0;simp at Z;subst Z;rw[hsj]at J;cases J;exact av
   .rintro acc G2 ⟨ps,hl,rfl,hE2,hO⟩
    rw[MH]at hl;show L3.ForIn _ _ _ _ (ps.map D.ref) G2
    refine⟨Mp zF hw G f ps o x.length (some (.str x)) (some (.ref q)),⟨_,I,rfl,hE1.trans hE2,hO,hE2 f _ hG1,hF⟩,?_,?_⟩
    .rintro i d σ G3 hd ⟨x3,O,rfl,hE3,hO3,Y,U⟩
     rw[MZ]at hd;cases hpj:ps[i]? with
     | none=>rw[hpj]at hd;cases hd
     | some p=>
      rw[hpj]at hd;cases hd;have hil:i < o.length:=by have:=(List.getElem?_eq_some_iff.mp hpj).1;omega
      have hsi:o[i]?=some o[i]:=MO hil;have Sz:=hO3 i p _ hpj hsi;have oks:=ok o[i] (ho _ (OQ hil));have tk:o.take (i+1)=o.take i ++ [o[i]]:=by rw[Nz,hsi];rfl
      have fr:zg (o.take i) (lh x.length (o.take i)):=by
       have:=yM x.length (o.take i) [] _ (sR x.length)
       simpa[lh]using this
      have apart:∀r∈o.take i,¬ (r.pen=(o[i]).pen/\r.num=(o[i]).num):=λr hr z=>by
       obtain⟨j,Z,er⟩:=List.mem_iff_getElem.mp hr;rw[NI]at Z;rw[List.getElem_take]at er;have hji:j < i:=by omega
       have st':∀a b:Nat,(ha:a < (o.map Sk.rw).length)->(hb:b < (o.map Sk.rw).length)->a < b->((o.map Sk.rw)[a]).lt (o.map Sk.rw)[b]=true:=λa b ha hb hab=>List.pairwise_iff_getElem.mp st a b ha hb hab;have:=st' j i (by rw[MH];omega) (by rw[MH];omega) hji
       rw[O2,O2,er]at this;have TU:=one (o[i]).rw (mem_map.mpr ⟨_,ho _ (OQ hil),rfl⟩) r.rw (mem_map.mpr ⟨_,ho _ (er ▸ OQ (by omega)),rfl⟩) z.1.symm z.2.symm
       rw[TU,lt_irrefl]at this;cases this
      have fresh:=yN fr oks.1 apart;have wl:=no x.length (o.take i) (bq [aD] aD (fi x.length)) λs J=>(ok s (ho s (OM J))).2;rw[cF]at wl;have wl2:(lh x.length (o.take i)).length<=100000:=by
       have e1:lh x.length (o.take i)=(o.take i).foldl dg (aD::fi x.length):=by unfold lh;rw[cF]
       rw[e1];rw[NI,MU,ol]at wl;omega
      generalize o[i]=s at *
      simp only[gN,Ny,Nn];have nf:f≠p:=λz=>by subst z;obtain⟨C,L,ds,e⟩:=o7 zF s;rw[Y,e]at Sz;cases Sz
      refine bB (decide (s.act.anch∈lh x.length (o.take i))) (λK hK=>?_) (Ca (λhin=>?_) λTZ=>?_)
      .unfold cW wM;refine sV zF hw (p:=p) (i:=3) rfl Sz ?_;show ∃r,cu hw G3 (.ref f) s.act.anch.d r/\_
       refine⟨cx O s.act.anch.key,?_,?_⟩
       .show (match G3 f with|some (.dT hw' I)=>hw'=hw/\∃ks,mI s.act.anch.d=some ks/\cx O s.act.anch.key=cx I ks|some (.dK I)=>_|some (.dF _ hw' _ I)=>_|_=>False)
        rw[Y];exact⟨rfl,_,rfl,rfl⟩
       .have e1:(cx O s.act.anch.key).isSome=decide (s.act.anch∈lh x.length (o.take i)):=by
         by_cases z:s.act.anch∈lh x.length (o.take i)
         .rw[U.2.2.2 _ z,decide_eq_true z];rfl
         .rw[U.2.2.1 _ z,decide_eq_false z];rfl
        rw[e1];exact hK
      .have TF:=of_decide_eq_true hin;simp only[em,aK,af,au,ae,NU,ND];refine sV zF hw (p:=p) (i:=3) rfl Sz ?_;refine i6 zF hw (p:=p) (i:=3) rfl Sz oks.2 ?_;have lm:(made s).length=s.act.many:=b8 _ _ _;have lm2:=oks.2;show ∃(b:Sl) (ss W:List Sl) (I:List (List aE×D)),(s.act.anch.d=b.d/\(made s).map Sl.d=ss.map Sl.d/\G3 f=some (.dT hw I)/\CG I W/\b∈W/\ss.Nodup/\(∀x∈ss,x∉W)/\W.length+ss.length<=900000)/\∀SA,CG SA (bq W b ss)->_
       refine⟨s.act.anch,made s,_,O,⟨rfl,rfl,Y,U,TF,dU _ _ _,fresh,by omega⟩,λSA hF'=>?_⟩
       refine⟨_,SA,rfl,λa o' ha=>?_,λj q s' Z J=>?_,av,?_⟩
       .have:a≠f:=λz=>by subst z;rw[hf]at ha;cases ha
        rw[ai this];exact hE3 a o' ha
       .have h1:=hO3 j q s' Z J;have:q≠f:=λz=>by subst z;obtain⟨C,L,ds,e⟩:=o7 zF s';rw[Y,e]at h1;cases h1
        rw[ai this];exact h1
       .rw[tk,oR];unfold dg;rw[if_pos TF];exact hF'
      .have Tz:=of_decide_eq_false TZ;simp only[cy];refine⟨_,O,rfl,hE3,hO3,Y,?_⟩;rw[tk,oR];unfold dg;rw[if_neg Tz];exact U
    .rintro σ G3 ⟨x3,O,rfl,hE3,hO3,Y,U⟩
     rw[MH,hl,Nu]at U;rw[iW]at U;show ∃(R:List Sl) (I:List (List aE×D)),(G3 f=some (.dT hw I)/\CG I (aD::R)/\R.length<=900000)/\_
     refine⟨cO x.length o,O,⟨Y,U,?_⟩,h o G3 hE3 st memo⟩;have wl:=no x.length o (bq [aD] aD (fi x.length)) λs J=>(ok s (ho s J)).2;have e1:o.foldl dg (bq [aD] aD (fi x.length))=aD::cO x.length o:=iW x.length o;rw[e1,cF,MU,MU,ol]at wl;omega
 .exact h.elim
theorem kX(s:Sk):s.act.many<=s.wd:=by
 obtain⟨pen,num,time,act⟩:=s;cases act<;>first|exact le_refl _|exact NH _
theorem zN(zF:Zz)(hw:HW):bE (fu zF hw) (uX zF hw) ["keys"]:=by
 intro ds G Q h;unfold fu at h;split at h
 .rename_i xs;have hs:=aj;unfold uX;rcases h with ⟨U,⟨rfl,L⟩,h⟩|⟨ns,⟨rfl,L⟩,h⟩
  .rw?;refine gJ (λd=>.tup [d,.bl true]) (by rw[MH];omega) (λd hd P O=>?_) ?_
   .obtain⟨s,I,rfl⟩:=mem_map.mp hd;unfold Sl.d;walk_at "st";exact⟨rfl,by omega,O _ rfl⟩
   .dsimp only;refine⟨aN (λ_=>.bl true) (U.map λs=>(s,())),⟨?_,by unfold aN;rw[MH,MH];exact L⟩,λp J=>?_⟩
    .unfold aN;rw[Nr,Nr,Nr];rfl
    .rw[s_];exact h p J
  .rw?;refine gJ (λd=>.tup [d,.bl true]) (by rw[MH];omega) (λd hd P O=>?_) ?_
   .obtain⟨s,I,rfl⟩:=mem_map.mp hd;unfold Nm.d;walk_at "st";exact⟨rfl,by omega,O _ rfl⟩
   .dsimp only;refine⟨ns.map λn=>(n.key,.bl true),⟨?_,by rw[MH];exact L⟩,λp J=>h p J⟩
    rw[Nr,Nr];rfl
 .exact h.elim
theorem i7(zF:Zz)(hw:HW){G:Gp}{p:MF}{α:Type}{f:α->D}{l:List (Sl×α)}(x:Sl)(I:G p=some (.dT hw (aN f l))):cu hw G (.ref p) x.d ((cE l x).map f):=by
 unfold cu;dsimp only;rw[I];exact⟨rfl,x.key,rfl,(Bq f x l).symm⟩
theorem tV(zF:Zz)(hw:HW):bE (d6 zF hw) (nC zF hw) Av0:=by
 intro ds G Q h;unfold d6 at h;split at h
 .rename_i a p;obtain⟨s,row,⟨U,J,L⟩,h⟩:=h;have hs:=aj;have W:=kX s;unfold nC;unfold bg eB af au eU fA;refine i6 zF hw (p:=a) (i:=0) (s:=s) rfl U (by omega) ?_
  dsimp only[eJ];have I:(made s).length=s.act.many:=b8 _ _ _;refine gJ (λd=>match d with|.tup [.str q,.int n,.int k]=>.bl (cE row ⟨q,n,k⟩).isSome|d=>d) (by rw[MH,I];omega) (λd hd P O=>?_) ?_
  .obtain⟨x,Y,rfl⟩:=mem_map.mp hd;refine⟨⟨by simp[cZ],rfl⟩,?_⟩
   show ∃r,cu hw G (.ref p) x.d r/\P (.bl r.isSome) G
   refine⟨_,i7 zF hw x L,O _ ?_⟩;show D.bl ((cE row x).map _).isSome=D.bl (cE row x).isSome
   rw[Option.isSome_map]
  .show ∃bs:List Bool,w_ G (val _)=some (bs.map D.bl)/\_;refine⟨(made s).map λx=>(cE row x).isSome,?_,?_⟩
   .show some _=some _;congr 1;rw[Nr,Nr];rfl
   .rw[List.all_map];exact h
 .exact h.elim
theorem Gf{ns:List Nm}(n:Nm):(cx (dictOf (ns.map λn=>(n.key,D.bl true))) n.key).isSome=decide (n∈ns):=by
 unfold dictOf;have key_inj:∀{a b:Nm},a.key=b.key->a=b:=λ{a b} h=>by
  obtain⟨a1,a2⟩:=a;obtain⟨O,L⟩:=b;simp only[Nm.key,List.cons.injEq,Sum.inr.injEq,Sum.inl.injEq,and_true]at h;obtain⟨rfl,rfl⟩:=h;rfl
 suffices H:∀l:List (List aE×D),(cx ((ns.map λn=>(n.key,D.bl true)).foldl (λa I=>aT a I.1 I.2) l) n.key).isSome=((cx l n.key).isSome || decide (n∈ns)) by
  have:=H []
  simpa[cx]using this
 induction ns with
 | nil=>intro l;simp
 | cons m r J=>
  intro l;rw[M5,Ol,J,cw]
  by_cases e:n=m
  .subst e;simp
  .rw[if_neg (λz=>e (key_inj z))];simp[e]
theorem ic.ext{zF:Zz}{G G':Gp}{ps:List MF}{o:List Sk}(h:ic zF G ps o)(e:fZ G G'):ic zF G' ps o:=⟨h.1,λj p s I hs=>e _ _ (h.2 j p s I hs)⟩
theorem ic.nil{zF:Zz}{G:Gp}:ic zF G [] []:=⟨rfl,λj p s I=>by simp at I⟩
theorem ic.add{zF:Zz}{G:Gp}{ps:List MF}{o:List Sk}{p:MF}{s:Sk}(h:ic zF G ps o)(L:G p=some (aS zF s)):ic zF G (ps ++ [p]) (o ++ [s]):=by
 obtain⟨O,h⟩:=h;refine⟨by simp[O],λj q t hq I=>?_⟩
 rw[List.getElem?_append]at hq I;split at hq
 .rename_i W;rw[if_pos (by omega)]at I
  exact h j q t hq I
 .rename_i W;rw[if_neg (by omega)]at I
  have J:j - ps.length=0:=by
   by_cases z:j - ps.length=0
   .exact z
   .obtain⟨k,U⟩:∃k,j - ps.length=k+1:=⟨j - ps.length - 1,by omega⟩
    rw[U]at hq;simp at hq
  rw[J]at hq;rw[show j - o.length=0 by omega]at I
  simp only[NU,Option.some.injEq]at hq I;subst hq I;exact L
theorem Gi(row:List Sl)(x:Sl):(cE (bf [] (row.map λs=>(s,()))) x).isSome=decide (x∈row):=by
 suffices H:∀l:List (Sl×Unit),(cE (bf l (row.map λs=>(s,()))) x).isSome=((cE l x).isSome || decide (x∈row)) by
  have:=H []
  simpa[cE]using this
 induction row with
 | nil=>intro l;simp[bf]
 | cons m r I=>
  intro l;show (cE (bf (iZ l m ()) (r.map λs=>(s,()))) x).isSome=_
  rw[I,qT]
  by_cases e:x=m
  .subst e;simp
  .rw[if_neg e];simp[e]
theorem ic.snoc{zF:Zz}{G:Gp}{ps:List MF}{o:List Sk}{p:MF}{s:Sk}(h:ic zF G ps o)(I:G p=none):ic zF (gset G p (aS zF s)) (ps ++ [p]) (o ++ [s]):=
 (h.ext (fZ.refl.gset I)).add av
theorem tW(zF:Zz)(hw:HW):bE (d7 zF hw) (nE zF hw) Af0:=by
 intro ds G Q h;unfold d7 at h;split at h
 .rename_i q0 ns p;obtain⟨sks,base,names,row,⟨hq0,one,l1,l2,sub,wd,rfl,l3,hG⟩,h⟩:=h;have hs:=aj;unfold nE;rw[ag];rw?;refine .inr ⟨names,⟨rfl,l3⟩,λq hq=>?_⟩;have hpq:p≠q:=λz=>by subst z;rw[hG]at hq;cases hq
  rw[ag];have g1:gset G q (.dT hw (dictOf (names.map λn=>(n.key,.bl true)))) q=some (.dT hw (dictOf (names.map λn=>(n.key,.bl true)))):=av;have g2:fZ G (gset G q (.dT hw (dictOf (names.map λn=>(n.key,.bl true))))):=fZ.refl.gset hq;generalize gset G q (.dT hw (dictOf (names.map λn=>(n.key,.bl true))))=G1 at g1 g2;rw?;refine⟨sks.map Sk.rw,base.map Sk.rw,⟨by rw[g2 q0 _ hq0,Nr];rfl,one,by rw[MH];exact l1,by rw[MH];exact l2,λr U=>?_⟩,λout G2 hE st mem=>?_⟩
  .obtain⟨s,I,rfl⟩:=mem_map.mp U;exact mem_map.mpr ⟨s,sub s I,rfl⟩
  obtain⟨o,rfl,ho⟩:=zL (sks:=sks) (out:=out) λr U=>(mem r).mp U;have memo:∀s,s∈o↔s∈sks:=λs=>⟨ho s,λI=>by
   obtain⟨s',h1,h2⟩:=mem_map.mp ((mem s.rw).mpr (mem_map.mpr ⟨s,I,rfl⟩));rw[<- Sk.rw_inj h2];exact h1⟩
  have lo:o.length < 64:=by
   have:=fT (eX st) (ys:=base.map Sk.rw) λr U=>by
    obtain⟨s,I,rfl⟩:=mem_map.mp U;exact mem_map.mpr ⟨s,sub s (ho s I),rfl⟩
   rw[MH,MH]at this;omega
  have dmap:(o.map Sk.rw).map Rw.d=o.map Sk.d:=by rw[Nr];rfl
  rw[dmap];refine⟨by rw[MH];omega,λi J Y=>∃ps:List MF,J=ps.map D.ref/\fZ G2 Y/\ic zF Y ps ((o.take i).filter λs=>decide (s.nm∈names)),⟨[],rfl,fZ.refl,by simpa using ic.nil⟩,?_,?_⟩
  .rintro i d J Y hd ⟨ps,rfl,O,hO⟩
   rw[MZ]at hd;cases hsj:o[i]? with
   | none=>rw[hsj]at hd;cases hd
   | some s=>
    rw[hsj]at hd;cases hd;have tk:(o.take (i+1)).filter (λs=>decide (s.nm∈names))=(o.take i).filter (λs=>decide (s.nm∈names)) ++ (if s.nm∈names then [s]else []):=by
     rw[Nz,hsj,NV]
     by_cases e:s.nm∈names
     .rw[if_pos e];simp[e]
     .rw[if_neg e];simp[e]
    refine⟨⟨by simp,rfl⟩,?_⟩
    show ∃r,cu hw Y (.ref q) s.nm.d r/\(match D.bl r.isSome with|.bl b=>_|_=>False)
    refine⟨cx (dictOf (names.map λn=>(n.key,D.bl true))) s.nm.key,?_,?_⟩
    .unfold cu;dsimp only;rw[O q _ (hE q _ g1)];exact⟨rfl,_,rfl,rfl⟩
    .rw[Gf];dsimp only
     by_cases e:s.nm∈names
     .rw[decide_eq_true e,if_pos rfl];show ∃s':Sk,s.d=s'.d/\∀p,Y p=none->_
      refine⟨s,rfl,λr U=>⟨ps ++ [r],by rw[No];rfl,λa o' ha=>?_,?_⟩⟩
      .have:a≠r:=λz=>by subst z;rw[O a o' ha]at U;cases U
       rw[ai this];exact O a o' ha
      .rw[tk,if_pos e];exact hO.snoc U
     .rw[decide_eq_false e,if_neg Bool.false_ne_true];refine⟨ps,rfl,O,?_⟩;rw[tk,if_neg e,Ng];exact hO
  .rintro J Y ⟨ps,rfl,O,hO⟩
   rw[MH,Nu]at hO;dsimp only[val];have hE4:fZ G Y:=g2.trans (hE.trans O);generalize hfl:o.filter (λs=>decide (s.nm∈names))=L at hO;have TN:∀s∈L,s∈o:=λs I=>by rw[<- hfl]at I;exact (RX.mp I).1
   have lw:L.length<=o.length:=by rw[<- hfl];exact N8 _ _
   have hl:=hO.1;show (_<=MN)/\_
   refine⟨by rw[MH];omega,λi J G4=>∃Z:List MF,J=Z.map D.ref/\G4=Y/\ic zF Y Z ((L.take i).filter (gF row)),⟨[],rfl,rfl,by simpa using ic.nil⟩,?_,?_⟩
   .rintro i d J G4 hd ⟨Z,rfl,rfl,hQ⟩
    rw[MZ]at hd;cases W:ps[i]? with
    | none=>rw[W]at hd;cases hd
    | some a=>
     rw[W]at hd;cases hd;have hi:i < L.length:=by have:=(List.getElem?_eq_some_iff.mp W).1;omega
     have hwi:L[i]?=some L[i]:=MO hi;have hob:=hO.2 i a _ W hwi;refine⟨⟨by simp,rfl⟩,?_⟩
     have tk:(L.take (i+1)).filter (gF row)=(L.take i).filter (gF row) ++ (if gF row L[i]=true then [L[i]]else []):=by
      rw[Nz,hwi,NV]
      by_cases e:gF row L[i]=true
      .rw[if_pos e];simp[e]
      .rw[if_neg e];simp[e]
     have hgp:G4 p=some (.dT hw (aN (λ_=>.bl true) (bf [] (row.map λs=>(s,()))))):=hE4 p _ hG;have pe:(made L[i]).all (λx=>(cE (bf [] (row.map λs=>(s,()))) x).isSome)=gF row L[i]:=by
      unfold gF;congr 1;funext x;exact Gi row x
     refine⟨_,_,⟨hob,wd _ (ho _ (TN _ (OQ hi))),hgp⟩,?_⟩;rw[pe];show True/\_
     refine⟨trivial,?_⟩;dsimp only
     by_cases e:gF row L[i]=true
     .rw[if_pos e];exact⟨Z ++ [a],by rw[No];rfl,rfl,by rw[tk,if_pos e];exact hQ.add hob⟩
     .rw[if_neg e];exact⟨Z,rfl,rfl,by rw[tk,if_neg e,Ng];exact hQ⟩
   .rintro J G4 ⟨Z,rfl,rfl,hQ⟩
    rw[MH,hl,Nu]at hQ;refine h o Z _ hE4 st memo ?_;unfold bF;rw[hfl];exact hQ
 .exact h.elim
theorem vM{hw:HW}{α:Type}{f:α->D}{l:List (Sl×α)}{G:Gp}{p:MF}{x:Sl}{w:α}{K:Gp->Prop}(J:G p=some (.dT hw (aN f l)))(I:l.length < MN)(h:K (gset G p (.dT hw (aN f (iZ l x w))))):kg hw (.ref p) x.d (f w) G K:=by
 unfold kg;dsimp only;rw[J];exact⟨rfl,x.key,rfl,by unfold aN;rw[MH];exact I,by rw[xM];exact h⟩
theorem rj{α:Type}{σ:List α}{a:Nat}(h:a < σ.length):σ.set a σ[a]=σ:=List.set_getElem_self h
theorem Hj{hw:HW}{α:Type}{f:α->D}(hf:∀v,val (f v)=f v){m l:List (Sl×α)}{a b d:Nat}{σ:eV}{G:Gp}{p:MF}{E:Ends3}(J:a≠b)(U:a≠d)(O:b≠d)(Y:a < σ.length)(W:b < σ.length)(L:σ[d]?=some (some (.ref p)))(hl:l.length+m.length < MN)
  (h:∀u v,E.nx ((σ.set a u).set b v) (gset G p (.dT hw (aN f (bf l m))))):ForIn (n8 2 (fb (gN a) (fb (gN b) n_))) (dG hw (ae d) (ae a) (ae b)) E σ (m.map λq=>.tup [q.1.d,f q.2]) (gset G p (.dT hw (aN f l))):=by
 refine⟨λi I G'=>∃u v,I=(σ.set a u).set b v/\G'=gset G p (.dT hw (aN f (bf l (m.take i)))),⟨σ[a],σ[b],by rw[rj Y,rj W],rfl⟩,?_,?_⟩
 .rintro i dd I G' hd ⟨u,v,rfl,rfl⟩
  rw[MZ]at hd;cases hq:m[i]? with
  | none=>rw[hq]at hd;cases hd
  | some q=>
   rw[hq]at hd;cases hd;have hi:=(List.getElem?_eq_some_iff.mp hq).1;have tk:m.take (i+1)=m.take i ++ [q]:=by rw[Nz,hq];rfl
   unfold n8 fb n_ gN;refine⟨rfl,?_⟩;show dG hw (ae d) (ae a) (ae b) _ ((((σ.set a u).set b v).set a (some q.1.d)).set b (some (f q.2))) _
   have e0:(((σ.set a u).set b v).set a (some q.1.d)).set b (some (f q.2))=(σ.set a (some q.1.d)).set b (some (f q.2)):=by
    rw[List.set_comm _ _ (Ne.symm J),Ri,Ri]
   rw[e0];have s1:((σ.set a (some q.1.d)).set b (some (f q.2)))[b]?=some (some (f q.2)):=by rw[NY (by rw[List.length_set];exact W)]
   have s2:((σ.set a (some q.1.d)).set b (some (f q.2)))[a]?=some (some q.1.d):=by rw[Oc (Ne.symm J),NY Y]
   have Z:((σ.set a (some q.1.d)).set b (some (f q.2)))[d]?=some (some (.ref p)):=by rw[Oc O,Oc U];exact L
   unfold dG ae;rw[s1,s2,Z];dsimp only;rw[hf];have pl:=eR (m.take i) l;rw[NI]at pl;refine vM (x:=q.1) av (by omega) ⟨_,_,rfl,?_⟩
   rw[d9,tk,iY]
 .rintro I G' ⟨u,v,rfl,rfl⟩
  rw[MH,Nu];exact h u v
theorem Hk{hw:HW}{α:Type}{f:α->D}{w:α}(Z:val (f w)=f w){ns:List Sl}{l:List (Sl×α)}{a d:Nat}{σ:eV}{G:Gp}{p:MF}{E:Ends3}{te:bb}(L:a≠d)(O:a < σ.length)(J:σ[d]?=some (some (.ref p)))(hl:l.length+ns.length < MN)
  (Y:∀u l (K:mf),K (f w) (gset G p (.dT hw (aN f l)))->te (σ.set a u) (gset G p (.dT hw (aN f l))) K)
  (h:∀u,E.nx (σ.set a u) (gset G p (.dT hw (aN f (bf l (ns.map λn=>(n,w))))))):ForIn (gN a) (dG hw (ae d) (ae a) te) E σ (ns.map Sl.d) (gset G p (.dT hw (aN f l))):=by
 refine⟨λi I G'=>∃u,I=σ.set a u/\G'=gset G p (.dT hw (aN f (bf l ((ns.take i).map λn=>(n,w))))),⟨σ[a],by rw[rj O],rfl⟩,?_,?_⟩
 .rintro i dd I G' hd ⟨u,rfl,rfl⟩
  rw[MZ]at hd;cases hq:ns[i]? with
  | none=>rw[hq]at hd;cases hd
  | some q=>
   rw[hq]at hd;cases hd;have hi:=(List.getElem?_eq_some_iff.mp hq).1;have tk:ns.take (i+1)=ns.take i ++ [q]:=by rw[Nz,hq];rfl
   show dG hw (ae d) (ae a) te _ ((σ.set a u).set a (some q.d)) _
   rw[Ri];have W:(σ.set a (some q.d))[a]?=some (some q.d):=by rw[NY O]
   have U:(σ.set a (some q.d))[d]?=some (some (.ref p)):=by rw[Oc L];exact J
   unfold dG;refine Y _ _ _ ?_;unfold ae;rw[W,U];dsimp only;rw[Z];have pl:=eR ((ns.take i).map λn=>(n,w)) l;rw[MH,NI]at pl;refine vM (x:=q) av (by omega) ⟨_,rfl,?_⟩
   rw[d9,tk,No,M5,Pn,iY]
 .rintro I G' ⟨u,rfl,rfl⟩
  rw[MH,Nu];exact h u
theorem mM{α I:Type}(f:α->D)(g:I->D):∀(a:List α) (b:List I),mN (a.map f) (b.map g)=(a.zip b).map λq=>.tup [f q.1,g q.2]
 | [],_=>rfl
 | _::_,[]=>rfl
 | x::a,y::b=>by simp only[M5,mN,List.zip_cons_cons,mM f g a b]
theorem uO(x:Str):L3.signs x=(zE x).map D.str:=by unfold L3.signs zE;rw[Nr];rfl
theorem AT(x:Str):(zE x).length=x.length:=by simp[zE,PJ]
theorem k9{I:Type}(g:Sk->List I){o:List Sk}{i:Nat}{s:Sk}(h:o[i]?=some s):(o.take (i+1)).flatMap g=(o.take i).flatMap g ++ g s:=by
 rw[Nz,h,OS];simp
theorem sX{I:Type}(g:Sk->List I):∀{o:List Sk},(∀s∈o,(g s).length<=1000)->(o.flatMap g).length<=1000*o.length
 | [],_=>by simp
 | s::r,h=>by
  have h1:=h s MW;have h2:=sX g (o:=r) λt J=>h t (MQ _ J);rw[Pa,Nt,MU];omega
theorem pI{s:Sk}(h:s.wd<=1000):(ef s).length<=1000:=by
 obtain⟨pen,num,time,act⟩:=s;cases act with
 | put a x=>
  show ((made _).zip (zE x)).length<=1000
  rw[Qj,AT];have:x.length<=1000:=h;omega
 | _=>exact NH _
theorem zB{s:Sk}(h:s.wd<=1000):(fL s).length<=1000:=by
 obtain⟨pen,num,time,act⟩:=s;cases act with
 | strike ns=>show (ns.map _).length<=1000;rw[MH];exact h
 | _=>exact NH _
theorem CV{s:Sk}(h:s.wd<=1000):(jO s).length<=1000:=by
 obtain⟨pen,num,time,act⟩:=s;cases act with
 | dress ns w=>show (ns.map _).length<=1000;rw[MH];exact h
 | _=>exact NH _
theorem xr{s:Sk}(h:s.wd<=1000):(gv s).length<=1000:=by
 obtain⟨pen,num,time,act⟩:=s;cases act with
 | move ns a=>
  show (ns.zip (made _)).length<=1000
  rw[Qj];have:ns.length<=1000:=h;omega
 | _=>exact NH _
theorem iP{I:Type}{o:List Sk}(h:vB o)(g:Sk->List I)(J:∀s:Sk,s.wd<=1000->(g s).length<=1000)(i:Nat):((o.take i).flatMap g).length<=64000:=by
 have h1:=sX g (o:=o.take i) λs hs=>J s (h.2 s (OM hs));have h2:=h.1;rw[NI]at h1;omega
theorem kz(zF:Zz)(hw:HW){σ:eV}{G:Gp}{a C:MF}{s:Sk}{i:Nat}{I:List (MF×Bool)}{K:Bool->Gp->Prop}(b:Bool)(J:σ[i]?=some (some (.ref a)))(L:G a=some (aS zF s))
  (O:match s.act with|.put _ _=>(zF.Z2,b)∈I|.strike _=>(zF.Z3,b)∈I|.dress _ _=>(zF.Z4,b)∈I|.move _ _=>(zF.Z5,b)∈I) (h:K b G):qu (eB (wX I C) (af (ae i) (af (eC (.ref C)) au))) σ G K:=by
 obtain⟨pen,num,time,act⟩:=s;unfold qu eB af au ae eC wX;rw[J];cases act<;>(simp only[aS]at L;simp only[val,L];exact⟨trivial,b,O,⟨trivial,h⟩⟩)
theorem i5(zF:Zz)(hw:HW){σ:eV}{G:Gp}{p:MF}{s:Sk}{ns:List Sl}{i:Nat}{Q:mf}(J:σ[i]?=some (some (.ref p)))(O:G p=some (aS zF s))(U:s.act=.strike ns\/(∃w,s.act=.dress ns w)\/∃b,s.act=.move ns b)(L:ns.length<=1000)(h:Q (.fl (ns.map Sl.d)) G):
  eE [(zF.Z1,ak zF hw),(zF.Z2,ak zF hw),(zF.Z3,ak zF hw),(zF.Z4,ak zF hw),(zF.Z5,ak zF hw)] "touched" [] (ae i) au σ G Q:=by
 have I:=O;unfold eE ae;rw[J];obtain⟨pen,num,time,act⟩:=s;rcases U with e|⟨w,e⟩|⟨b,e⟩<;>(have W:act=_:=e;subst W;simp only[aS]at O;simp only[O])
 .exact⟨by decide +kernel,ak zF hw,by simp,_,ns,⟨.inl rfl,I,L⟩,h⟩
 .exact⟨by decide +kernel,ak zF hw,by simp,_,ns,⟨.inr (.inl ⟨w,rfl⟩),I,L⟩,h⟩
 .exact⟨by decide +kernel,ak zF hw,by simp,_,ns,⟨.inr (.inr ⟨b,rfl⟩),I,L⟩,h⟩
theorem mv(zF:Zz)(hw:HW):bE (ak zF hw) (gR zF hw) Ae0:=by
 intro ds G Q h;unfold ak at h;split at h
 .rename_i p;obtain⟨⟨pen,num,time,act⟩,ns,⟨L,J,U⟩,h⟩:=h;have hs:=aj;unfold aS at J;unfold gR;rcases L with e|⟨w,e⟩|⟨b,e⟩<;>(have O:act=_:=e;subst O;dsimp only at J)
  .have I:zF.Z3∈zF.F:=by simp
   walk_at "st"
   try exact h
  .have I:zF.Z4∈zF.F:=by simp
   walk_at "st"
   try exact h
  .have I:zF.Z5∈zF.F:=by simp
   walk_at "st"
   try exact h
 .exact h.elim
theorem wV(x:Str){o:List Sk}{i:Nat}{s:Sk}(h:o[i]?=some s):aA x (o.take (i+1))=bf (aA x (o.take i)) (ef s):=by
 unfold aA;rw[k9 ef h,<- List.append_assoc,e9]
theorem xw{o:List Sk}{i:Nat}{s:Sk}(h:o[i]?=some s):aW (o.take (i+1))=bf (aW (o.take i)) (fL s):=by
 unfold aW;rw[k9 fL h,e9]
theorem zy{o:List Sk}{i:Nat}{s:Sk}(h:o[i]?=some s):bc (o.take (i+1))=bf (bc (o.take i)) (gv s):=by
 unfold bc;rw[k9 gv h,e9]
theorem Bv{o:List Sk}{i:Nat}{s:Sk}(h:o[i]?=some s):eO (o.take (i+1))=bf (eO (o.take i)) (jO s):=by
 unfold eO;rw[k9 jO h,e9]
theorem FJ{zF:Zz}{G:Gp}{ps:List MF}{o:List Sk}{i:Nat}{d:D}(h:ic zF G ps o)(hd:(ps.map D.ref)[i]?=some d):∃a s,d=.ref a/\o[i]?=some s/\G a=some (aS zF s):=by
 rw[MZ]at hd;cases I:ps[i]? with
 | none=>rw[I]at hd;cases hd
 | some a=>
  rw[I]at hd;cases hd;have hi:i < o.length:=by have:=(List.getElem?_eq_some_iff.mp I).1;have:=h.1;omega
  exact⟨a,o[i],rfl,MO hi,h.2 i a _ I (MO hi)⟩
theorem Cj(zF:Zz)(hw:HW){σ:eV}{G:Gp}{p:MF}{pen:Str}{num time:Int}{a:Sl}{x:Str}{i:Nat}{Q:mf}(I:σ[i]?=some (some (.ref p)))(J:G p=some (aS zF ⟨pen,num,time,.put a x⟩))(h:Q (.str x) G):bp zF.F "signs" (ae i) σ G Q:=by
 unfold bp ae;rw[I];simp only[aS]at J;simp only[J];exact⟨by simp,h⟩
theorem EH(zF:Zz)(hw:HW){σ:eV}{G:Gp}{p:MF}{pen:Str}{num time:Int}{ns:List Sl}{w:Str}{i:Nat}{Q:mf}(I:σ[i]?=some (some (.ref p)))(J:G p=some (aS zF ⟨pen,num,time,.dress ns w⟩))(h:Q (.str w) G):bp zF.F "word" (ae i) σ G Q:=by
 unfold bp ae;rw[I];simp only[aS]at J;simp only[J];exact⟨by simp,h⟩
theorem nq(zF:Zz)(hw:HW):bE (cm zF hw) (iu zF hw) At0:=by
 intro ds G Q h;unfold cm at h;split at h
 .rename_i x xs;obtain⟨ps,o,⟨rfl,hO,hS,hx⟩,h⟩:=h;have hs:=aj;unfold iu;rw[ag];rw?;have ol:(fi x.length).length=x.length:=b8 _ _ _;have l0:((fi x.length).zip (zE x)).length<=1000:=by rw[Qj];omega
  refine⟨_,_,aN D.str ((fi x.length).zip (zE x)),⟨rfl,rfl,?_,by unfold aN;rw[MH];omega⟩,λp Z=>?_⟩
  .rw[uO,mM];unfold aN;rw[Nr];rfl
  rw[s_];have e0:bf [] ((fi x.length).zip (zE x))=aA x (o.take 0):=by unfold aA;simp
  rw[e0];rw[ag];have hE:fZ G (gset G p (.dT hw (aN D.str (aA x (o.take 0))))):=fZ.refl.gset Z;show ForIn _ _ _ _ (ps.map D.ref) _
  refine⟨λi σ G'=>∃W U O,σ=[some (.str x),some (.lst (ps.map D.ref)),some (.ref p),W,U,O]/\G'=gset G p (.dT hw (aN D.str (aA x (o.take i)))),⟨_,_,_,rfl,rfl⟩,?_,?_⟩
  .rintro i d σ G' hd ⟨W,U,O,rfl,rfl⟩
   obtain⟨a,s,rfl,J,I⟩:=FJ hO hd;have hap:a≠p:=λz=>by subst z;rw[Z]at I;cases I
   have L:∀u,gset G p u a=some (aS zF s):=λu=>by rw[ai hap];exact I
   have Y:s.wd<=1000:=hS.2 s (M_ J);have bl:(aA x (o.take i)).length<=65000:=by
    have h1:=eR ((fi x.length).zip (zE x) ++ (o.take i).flatMap ef) [];have h2:=iP hS ef (λs hs=>pI hs) i;rw[Nt,Np]at h1;unfold aA;omega
   have bt:=wV x J;simp only[gN,Ny,Nn];obtain⟨pen,num,time,act⟩:=s;cases act with
   | put an w=>
    refine bB true (λK hK=>kz zF hw (s:=⟨pen,num,time,.put an w⟩) (a:=a) (i:=3) true rfl (L _) (by simp) hK) ?_
    rw[if_pos rfl];unfold iV Cd af au;have mw:=kX ⟨pen,num,time,.put an w⟩;refine i6 zF hw (p:=a) (i:=3) (s:=⟨pen,num,time,.put an w⟩) rfl (L _) (by omega) ?_
    refine Cj zF hw (p:=a) (i:=3) (a:=an) (x:=w) rfl (L _) ?_;refine⟨_,_,⟨rfl,rfl⟩,?_⟩;rw[uO,mM];have bl2:=pI Y;refine Hj (f:=D.str) (λ_=>rfl) (m:=(made ⟨pen,num,time,.put an w⟩).zip (zE w)) (by decide) (by decide) (by decide) (by simp) (by simp) rfl (by show _+(ef ⟨pen,num,time,.put an w⟩).length < _;omega) λu v=>⟨_,_,_,rfl,?_⟩
    rw[bt];rfl
   | _=>
    refine bB false (λK hK=>kz zF hw (s:=⟨pen,num,time,_⟩) (a:=a) (i:=3) false rfl (L _) (by simp) hK) ?_
    rw[if_neg Bool.false_ne_true];refine⟨_,_,_,rfl,?_⟩;rw[bt];rfl
  .rintro σ G' ⟨W,U,O,rfl,rfl⟩
   rw[MH,hO.1,Nu];exact h p Z
 .exact h.elim
theorem oU(zF:Zz)(hw:HW):bE (cC zF hw) (jr zF hw) AE0:=by
 intro ds G Q h;unfold cC at h;split at h
 .rename_i xs;obtain⟨ps,o,⟨rfl,hO,hS⟩,h⟩:=h;have hs:=aj;unfold jr;rw[ag];rw?;intro p Z;rw[ag];show ForIn _ _ _ _ (ps.map D.ref) _
  refine⟨λi σ G'=>∃O L,σ=[some (.lst (ps.map D.ref)),some (.ref p),O,L]/\G'=gset G p (.dT hw (aN (λ_=>.bl true) (aW (o.take i)))),⟨_,_,rfl,rfl⟩,?_,?_⟩
  .rintro i d σ G' hd ⟨O,L,rfl,rfl⟩
   obtain⟨a,s,rfl,J,I⟩:=FJ hO hd;have W:a≠p:=λz=>by subst z;rw[Z]at I;cases I
   have Y:∀u,gset G p u a=some (aS zF s):=λu=>by rw[ai W];exact I
   have U:s.wd<=1000:=hS.2 s (M_ J);have bl:(aW (o.take i)).length<=65000:=by
    have h1:=eR ((o.take i).flatMap fL) [];have h2:=iP hS fL (λs hs=>zB hs) i;rw[Np]at h1;unfold aW;omega
   have bt:=xw J;simp only[gN,Ny,Nn];obtain⟨pen,num,time,act⟩:=s;cases act with
   | strike ns=>
    refine bB true (λK hK=>kz zF hw (s:=⟨pen,num,time,.strike ns⟩) (a:=a) (i:=2) true rfl (Y _) (by simp) hK) ?_
    rw[if_pos rfl];unfold iV fA;have hl:ns.length<=1000:=U;refine i5 zF hw (p:=a) (i:=2) (s:=⟨pen,num,time,.strike ns⟩) rfl (Y _) (.inl rfl) hl ?_;dsimp only[eJ];refine Hk (f:=λ(_:Unit)=>D.bl true) (w:=()) rfl (by decide) (by simp) rfl (by omega) (λu l K hK=>hK) λu=>⟨_,_,rfl,?_⟩
    rw[bt];rfl
   | _=>
    refine bB false (λK hK=>kz zF hw (s:=⟨pen,num,time,_⟩) (a:=a) (i:=2) false rfl (Y _) (by simp) hK) ?_
    rw[if_neg Bool.false_ne_true];refine⟨_,_,rfl,?_⟩;rw[bt];rfl
  .rintro σ G' ⟨O,L,rfl,rfl⟩
   rw[MH,hO.1,Nu];exact h p Z
 .exact h.elim
theorem rE(zF:Zz)(hw:HW):bE (dk zF hw) (lQ zF hw) ["strokes","worn","stroke","name"]:=by
 intro ds G Q h;unfold dk at h;split at h
 .rename_i xs;obtain⟨ps,o,⟨rfl,hO,hS⟩,h⟩:=h;have hs:=aj;unfold lQ;rw[ag];rw?;intro p Z;rw[ag];show ForIn _ _ _ _ (ps.map D.ref) _
  refine⟨λi σ G'=>∃U O,σ=[some (.lst (ps.map D.ref)),some (.ref p),U,O]/\G'=gset G p (.dT hw (aN D.str (eO (o.take i)))),⟨_,_,rfl,rfl⟩,?_,?_⟩
  .rintro i d σ G' hd ⟨U,O,rfl,rfl⟩
   obtain⟨a,s,rfl,J,I⟩:=FJ hO hd;have Y:a≠p:=λz=>by subst z;rw[Z]at I;cases I
   have L:∀u,gset G p u a=some (aS zF s):=λu=>by rw[ai Y];exact I
   have W:s.wd<=1000:=hS.2 s (M_ J);have bl:(eO (o.take i)).length<=65000:=by
    have h1:=eR ((o.take i).flatMap jO) [];have h2:=iP hS jO (λs hs=>CV hs) i;rw[Np]at h1;unfold eO;omega
   have bt:=Bv J;simp only[gN,Ny,Nn];obtain⟨pen,num,time,act⟩:=s;cases act with
   | dress ns w=>
    refine bB true (λK hK=>kz zF hw (s:=⟨pen,num,time,.dress ns w⟩) (a:=a) (i:=2) true rfl (L _) (by simp) hK) ?_
    rw[if_pos rfl];unfold iV fA;have hl:ns.length<=1000:=W;refine i5 zF hw (p:=a) (i:=2) (s:=⟨pen,num,time,.dress ns w⟩) rfl (L _) (.inr (.inl ⟨w,rfl⟩)) hl ?_;dsimp only[eJ];refine Hk (f:=D.str) (w:=w) rfl (by decide) (by simp) rfl (by omega) (λu l K hK=>EH zF hw (p:=a) (i:=2) (ns:=ns) (w:=w) rfl (L _) hK) λu=>⟨_,_,rfl,?_⟩
    rw[bt];rfl
   | _=>
    refine bB false (λK hK=>kz zF hw (s:=⟨pen,num,time,_⟩) (a:=a) (i:=2) false rfl (L _) (by simp) hK) ?_
    rw[if_neg Bool.false_ne_true];refine⟨_,_,rfl,?_⟩;rw[bt];rfl
  .rintro σ G' ⟨U,O,rfl,rfl⟩
   rw[MH,hO.1,Nu];exact h p Z
 .exact h.elim
theorem qx(zF:Zz)(hw:HW):bE (cS zF hw) (j0 zF hw) AA0:=by
 intro ds G Q h;unfold cS at h;split at h
 .rename_i xs;obtain⟨ps,o,⟨rfl,hO,hS⟩,h⟩:=h;have hs:=aj;unfold j0;rw[ag];rw?;intro p hp;rw[ag];show ForIn _ _ _ _ (ps.map D.ref) _
  refine⟨λi σ G'=>∃Y W U,σ=[some (.lst (ps.map D.ref)),some (.ref p),Y,W,U]/\G'=gset G p (.dT hw (aN Sl.d (bc (o.take i)))),⟨_,_,_,rfl,rfl⟩,?_,?_⟩
  .rintro i d σ G' hd ⟨Y,W,U,rfl,rfl⟩
   obtain⟨a,s,rfl,L,I⟩:=FJ hO hd;have Z:a≠p:=λz=>by subst z;rw[hp]at I;cases I
   have O:∀u,gset G p u a=some (aS zF s):=λu=>by rw[ai Z];exact I
   have J:s.wd<=1000:=hS.2 s (M_ L);have bl:(bc (o.take i)).length<=65000:=by
    have h1:=eR ((o.take i).flatMap gv) [];have h2:=iP hS gv (λs hs=>xr hs) i;rw[Np]at h1;unfold bc;omega
   have bt:=zy L;simp only[gN,Ny,Nn];obtain⟨pen,num,time,act⟩:=s;cases act with
   | move ns an=>
    refine bB true (λK hK=>kz zF hw (s:=⟨pen,num,time,.move ns an⟩) (a:=a) (i:=2) true rfl (O _) (by simp) hK) ?_
    rw[if_pos rfl];unfold iV Cd af au;have hl:ns.length<=1000:=J;have mw:=kX ⟨pen,num,time,.move ns an⟩;refine i5 zF hw (p:=a) (i:=2) (s:=⟨pen,num,time,.move ns an⟩) rfl (O _) (.inr (.inr ⟨an,rfl⟩)) hl ?_;refine i6 zF hw (p:=a) (i:=2) (s:=⟨pen,num,time,.move ns an⟩) rfl (O _) (by omega) ?_
    refine⟨_,_,⟨rfl,rfl⟩,?_⟩;rw[mM];have bl2:=xr J;refine Hj (f:=Sl.d) (λ_=>rfl) (m:=ns.zip (made ⟨pen,num,time,.move ns an⟩)) (by decide) (by decide) (by decide) (by simp) (by simp) rfl (by show _+(gv ⟨pen,num,time,.move ns an⟩).length < _;omega) λu v=>⟨_,_,_,rfl,?_⟩
    rw[bt];rfl
   | _=>
    refine bB false (λK hK=>kz zF hw (s:=⟨pen,num,time,_⟩) (a:=a) (i:=2) false rfl (O _) (by simp) hK) ?_
    rw[if_neg Bool.false_ne_true];refine⟨_,_,_,rfl,?_⟩;rw[bt];rfl
  .rintro σ G' ⟨Y,W,U,rfl,rfl⟩
   rw[MH,hO.1,Nu];exact h p hp
 .exact h.elim
theorem vH{out:List Rw}(one:je out)(h:fE out):out.Pairwise g6:=by
 refine List.Pairwise.imp_of_mem (λ{a b} L J I z=>?_) h;have:=one a L b J z.1 z.2;subst this;rw[lt_irrefl]at I;cases I
theorem rh{xs ys:List Sk}(h:xs.map Sk.rw=ys.map Sk.rw):xs=ys:=List.map_inj_right (f:=Sk.rw) (λx y=>Sk.rw_inj) |>.mp h
noncomputable def HM:D->Sl
 | .tup [.str q,.int n,.int k]=>⟨q,n,k⟩
 | _=>default
theorem Dj(x:Sl):HM x.d=x:=rfl
theorem BG(row:List Sl)(I:List (Sl×Sl)):((row.map Sl.d).filter λd=>(cE I (HM d)).isSome).map (λd=>.tup [d,((cE I (HM d)).getD default).d])=(row.filterMap λs=>(cE I s).map λn=>(s,n)).map λp=>D.tup [p.1.d,p.2.d]:=by
 induction row with
 | nil=>rfl
 | cons s r J=>
  rw[M5,List.filter_cons,Dj];cases e:cE I s with
  | none=>
   rw[List.filterMap_cons_none (by rw[e];rfl)]
   simpa using J
  | some n=>
   rw[List.filterMap_cons_some (b:=(s,n)) (by rw[e];rfl)]
   simp only[Option.isSome_some,if_true,M5,J,Dj,e,Option.getD_some]
theorem zM(zF:Zz)(hw:HW):bE (fq zF hw) (uW zF hw) Ab0:=by
 intro ds G Q h;unfold fq at h;split at h
 .rename_i x q0 ns;obtain⟨sks,base,names,⟨hq0,hx,one,l1,l2,sub,ok,rfl,l3⟩,h⟩:=h;have hs:=aj;have okk:∀s∈sks,s.ok:=λs I=>⟨(ok s I).1,le_trans (kX s) (ok s I).2⟩;unfold uW;rw[ag];rw?;refine⟨sks,base,⟨by first|rfl|exact hq0,one,l1,l2,sub,okk⟩,λout G1 hE1 st1 SD=>?_⟩
  have lo:out.length < 64:=by
   have:=fT (eX st1) (ys:=base.map Sk.rw) λr hr=>by
    obtain⟨s,I,rfl⟩:=mem_map.mp hr;exact mem_map.mpr ⟨s,sub s ((SD s).mp I),rfl⟩
   rw[MH,MH]at this;omega
  have To:(cO x.length out).length<=900000:=by
   have wl:=no x.length out (bq [aD] aD (fi x.length)) λs I=>(okk s ((SD s).mp I)).2;have e1:out.foldl dg (bq [aD] aD (fi x.length))=aD::cO x.length out:=iW x.length out;have ol:(fi x.length).length=x.length:=b8 _ _ _;rw[e1,cF,MU,MU,ol]at wl;omega
  rw[ag];have h':=λG' hE=>h out G' hE st1 SD;clear h;unfold cH at h';generalize cO x.length out=row at To h' ⊢;rw?;refine .inl ⟨row,⟨rfl,To⟩,λpm hpm=>?_⟩;refine⟨sks,base,names,row,⟨by first|exact (fZ.refl.gset hpm) q0 _ (hE1 q0 _ hq0)|rfl,one,l1,l2,sub,λs I=>(ok s I).2,rfl,l3,rfl⟩,λTk ps G2 hE2 st2 Tl hO2=>?_⟩
  have eo:Tk=out:=rh (g_ st2 st1 λr=>by
   constructor
   .intro hr;obtain⟨s,I,rfl⟩:=mem_map.mp hr;exact mem_map.mpr ⟨s,(SD s).mpr ((Tl s).mp I),rfl⟩
   .intro hr;obtain⟨s,I,rfl⟩:=mem_map.mp hr;exact mem_map.mpr ⟨s,(Tl s).mpr ((SD s).mp I),rfl⟩)
  subst eo;have hE3:fZ G G2:=hE1.trans ((fZ.refl.gset hpm).trans hE2);have sw:vB (bF Tk names row):=⟨le_trans (le_trans (N8 _ _) (N8 _ _)) (by omega),λs I=>(ok s ((SD s).mp (RX.mp (RX.mp I).1).1)).2⟩
  generalize bF Tk names row=w at *
  clear hE2 hpm SD Tl st1 st2 lo;rw[ag];rw?;refine⟨ps,w,⟨rfl,hO2,sw⟩,λJ hpb=>?_⟩;have hE4:fZ G (gset G2 J (.dT hw (aN D.str (aA x w)))):=hE3.trans (fZ.refl.gset hpb);have hO4:=hO2.ext (G':=gset G2 J (.dT hw (aN D.str (aA x w)))) (fZ.refl.gset hpb);have f1:gset G2 J (.dT hw (aN D.str (aA x w))) J=some (.dT hw (aN D.str (aA x w))):=av;generalize gset G2 J (.dT hw (aN D.str (aA x w)))=G4 at *
  clear hE3 hO2 hpb;rw[ag];rw?;refine⟨ps,w,⟨rfl,hO4,sw⟩,λpk hpk=>?_⟩;have ne1:J≠pk:=λz=>by subst z;rw[f1]at hpk;cases hpk
  have hE5:fZ G4 (gset G4 pk (.dT hw (aN (λ_=>.bl true) (aW w)))):=fZ.refl.gset hpk;have hO5:=hO4.ext hE5;have f2:gset G4 pk (.dT hw (aN (λ_=>.bl true) (aW w))) pk=some (.dT hw (aN (λ_=>.bl true) (aW w))):=av;have U:=hE5 _ _ f1;have hE5':=hE4.trans hE5;generalize gset G4 pk (.dT hw (aN (λ_=>.bl true) (aW w)))=G5 at *
  clear hE4 hO4 hpk hE5 f1;rw[ag];rw?;refine⟨ps,w,⟨rfl,hO5,sw⟩,λpt W=>?_⟩;have ne2:J≠pt:=λz=>by subst z;rw[U]at W;cases W
  have ne3:pk≠pt:=λz=>by subst z;rw[f2]at W;cases W
  have Z:fZ G5 (gset G5 pt (.dT hw (aN Sl.d (bc w)))):=fZ.refl.gset W;have hO6:=hO5.ext Z;have f3:gset G5 pt (.dT hw (aN Sl.d (bc w))) pt=some (.dT hw (aN Sl.d (bc w))):=av;have f1:=Z _ _ U;have f2':=Z _ _ f2;have hE6':=hE5'.trans Z;generalize gset G5 pt (.dT hw (aN Sl.d (bc w)))=G6 at *
  clear hE5' hO5 W Z U f2;rw[ag];rw?;refine⟨ps,w,⟨rfl,hO6,sw⟩,λpw hpw=>?_⟩;have ne4:J≠pw:=λz=>by subst z;rw[f1]at hpw;cases hpw
  have Y:fZ G6 (gset G6 pw (.dT hw (aN D.str (eO w)))):=fZ.refl.gset hpw;have f4:gset G6 pw (.dT hw (aN D.str (eO w))) pw=some (.dT hw (aN D.str (eO w))):=av;have U:=Y _ _ f1;have f2:=Y _ _ f2';have f3':=Y _ _ f3;have TL:=hE6'.trans Y;generalize gset G6 pw (.dT hw (aN D.str (eO w)))=G7 at *
  clear hE6' hO6 hpw Y f1 f2' f3;rw[ag];rw?;intro pq O;have n1:J≠pq:=λz=>by subst z;rw[U]at O;cases O
  have n2:pk≠pq:=λz=>by subst z;rw[f2]at O;cases O
  have n3:pt≠pq:=λz=>by subst z;rw[f3']at O;cases O
  have n4:pw≠pq:=λz=>by subst z;rw[f4]at O;cases O
  rw[ag];have gb:gset G7 pq (.dT hw []) J=some (.dT hw (aN D.str (aA x w))):=by rw[ai n1];exact U
  refine⟨hw,_,gb,?_⟩;clear gb;have bl:(aA x w).length<=65000:=by
   have h1:=eR ((fi x.length).zip (zE x) ++ w.flatMap ef) [];have h2:=sX ef (o:=w) λs I=>pI (sw.2 s I);have h3:=sw.1;rw[Nt,Np,Qj,AT]at h1;unfold aA;omega
  have keys:(aN D.str (aA x w)).map Gq=(aA x w).map λp=>p.1.d:=by
   unfold aN;rw[Nr];rfl
  rw[keys];refine⟨λi σ G'=>∃x10,σ=[some (.str x),some (.ref q0),some (.lst (names.map Nm.d)),some (.lst (row.map Sl.d)),some (.lst (ps.map D.ref)),some (.ref J),some (.ref pk),some (.ref pt),some (.ref pw),some (.ref pq),x10,none]/\G'=gset (fB G7 J) pq (.dT hw (aN Sl.d (bf [] ((((aA x w).take i).filter λp=>(cE (aW w) p.1).isNone).map λp=>((cE (bc w) p.1).getD p.1,p.1))))),⟨_,rfl,?_⟩,?_,?_⟩
  .funext b
   by_cases e1:b=pq
   .rw[e1,ee n1.symm,av,av];rfl
   .rw[ai e1]
    by_cases e2:b=J
    .rw[e2,d_,d_]
    .rw[ee e2,ee e2,ai e1]
  .rintro i d σ G' hd ⟨x10,rfl,rfl⟩
   rw[MZ]at hd;cases hq:(aA x w)[i]? with
   | none=>rw[hq]at hd;cases hd
   | some q=>
    rw[hq]at hd;cases hd;have hi:=(List.getElem?_eq_some_iff.mp hq).1;simp only[gN,Ny,Nn];generalize hL:(((aA x w).take i).filter λp=>(cE (aW w) p.1).isNone).map (λp=>((cE (bc w) p.1).getD p.1,p.1))=L;have ll:L.length<=65000:=by
     rw[<- hL,MH];have:=N8 (λp:Sl×Str=>(cE (aW w) p.1).isNone) ((aA x w).take i);rw[NI]at this;omega
    have pl:=eR L [];rw[Np]at pl;have tk:(((aA x w).take (i+1)).filter λp=>(cE (aW w) p.1).isNone).map (λp=>((cE (bc w) p.1).getD p.1,p.1))=L ++ (if (cE (aW w) q.1).isNone=true then [((cE (bc w) q.1).getD q.1,q.1)]else []):=by
     rw[Nz,hq,NV,No,hL];congr 1
     by_cases e:(cE (aW w) q.1).isNone=true
     .rw[if_pos e];simp[e]
     .rw[if_neg e];simp[e]
    have gk:gset (fB G7 J) pq (.dT hw (aN Sl.d (bf [] L))) pk=some (.dT hw (aN (λ_=>.bl true) (aW w))):=by rw[ai n2,ee (Ne.symm ne1)];exact f2
    have gt:gset (fB G7 J) pq (.dT hw (aN Sl.d (bf [] L))) pt=some (.dT hw (aN Sl.d (bc w))):=by rw[ai n3,ee (Ne.symm ne2)];exact f3'
    refine bB (cE (aW w) q.1).isNone (λK hK=>?_) ?_
    .show ∃r,cu hw _ (.ref pk) q.1.d r/\K (!r.isSome) _;refine⟨_,i7 zF hw q.1 gk,?_⟩;rw[Option.isSome_map];cases e:cE (aW w) q.1<;>(rw[e]at hK;exact hK)
    .by_cases e:(cE (aW w) q.1).isNone=true
     .rw[if_pos e];show jy _ _/\∃r,cu hw _ (.ref pt) q.1.d r/\kg hw (.ref pq) (val (r.getD q.1.d)) q.1.d _ _
      refine⟨?_,_,i7 zF hw q.1 gt,?_⟩
      .unfold jy;simp only[val,gt]
      .have ek:val (((cE (bc w) q.1).map Sl.d).getD q.1.d)=((cE (bc w) q.1).getD q.1).d:=by cases cE (bc w) q.1<;>rfl
       rw[ek];refine vM (f:=Sl.d) (w:=q.1) av (by omega) ⟨_,rfl,?_⟩
       rw[d9,tk,if_pos e,iY]
     .rw[if_neg e];refine⟨_,rfl,?_⟩;rw[tk,if_neg e,Ng]
  .rintro σ G' ⟨x10,rfl,rfl⟩
   rw[MH,Nu];dsimp only;have es:bf [] (((aA x w).filter λp=>(cE (aW w) p.1).isNone).map λp=>((cE (bc w) p.1).getD p.1,p.1))=aY x w:=rfl;rw[es];have g9:gset (gset (fB G7 J) pq (.dT hw (aN Sl.d (aY x w)))) J (.dT hw (aN D.str (aA x w))) pq=some (.dT hw (aN Sl.d (aY x w))):=by rw[ai n1.symm,av]
   have g5:gset (gset (fB G7 J) pq (.dT hw (aN Sl.d (aY x w)))) J (.dT hw (aN D.str (aA x w))) J=some (.dT hw (aN D.str (aA x w))):=av;have g8:gset (gset (fB G7 J) pq (.dT hw (aN Sl.d (aY x w)))) J (.dT hw (aN D.str (aA x w))) pw=some (.dT hw (aN D.str (eO w))):=by rw[ai ne4.symm,ai n4,ee ne4.symm];exact f4
   have gE:fZ G (gset (gset (fB G7 J) pq (.dT hw (aN Sl.d (aY x w)))) J (.dT hw (aN D.str (aA x w)))):=λa o ha=>by
    have h7:=TL a o ha
    by_cases e1:a=J
    .rw[e1]at h7 ⊢;rw[g5,<- h7,U]
    .rw[ai e1];have e2:a≠pq:=λz=>by rw[z,O]at h7;cases h7
     rw[ai e2,ee e1];exact h7
   generalize gset (gset (fB G7 J) pq (.dT hw (aN Sl.d (aY x w)))) J (.dT hw (aN D.str (aA x w)))=G9 at *
   clear U f2 f3' f4 TL O n1 n2 n3 n4 ne1 ne2 ne3 ne4 bl keys es;rw[ag];unfold bQ eU fA;simp only[ae,NU,ND,eJ];refine qk (λd=>(cE (aY x w) (HM d)).isSome) (λd=>.tup [d,((cE (aY x w) (HM d)).getD default).d]) (by rw[MH];omega) (λd hd P R hP hR=>?_) ?_
   .obtain⟨s,I,rfl⟩:=mem_map.mp hd;rw[Dj]at hP hR;refine⟨⟨by simp,rfl⟩,?_⟩
    show ∃r,cu hw G9 (.ref pq) s.d r/\(if r.isSome=true then _ else R G9)
    refine⟨_,i7 zF hw s g9,?_⟩;rw[Option.isSome_map];cases e:cE (aY x w) s with
    | none=>
     rw[e]at hR;simp only[Option.isSome_none,Bool.false_eq_true,if_false];exact hR rfl
    | some n=>
     rw[e]at hP;simp only[Option.isSome_some,if_true];have lk:=i7 zF hw s g9;rw[e]at lk;show ∃d,cu hw G9 (.ref pq) s.d (some d)/\_
     exact⟨n.d,lk,by show 2<=MN;omega,hP rfl _ rfl⟩
   .rw[BG];have eI:(row.filterMap λs=>(cE (aY x w) s).map λn=>(s,n))=fG x w row:=rfl;rw[eI];dsimp only[val];have lI:(fG x w row).length<=900000:=le_trans (List.length_filterMap_le _ _) To;have mem:∀p∈fG x w row,∃z,cE (aA x w) p.2=some z:=λp hp=>by
     unfold fG at hp;obtain⟨s,_,e⟩:=List.mem_filterMap.mp hp;cases e2:cE (aY x w) s with
     | none=>rw[e2]at e;cases e
     | some n=>
      rw[e2]at e;cases e;have m1:=w8 e2;unfold aY at m1;rcases uZ m1 with m2|m2
      .simp at m2
      .obtain⟨q,hq,e3⟩:=mem_map.mp m2;have hq':=(RX.mp hq).1;obtain⟨z,hz⟩:=za hq';injection e3 with e4 e5
       exact⟨z,by show cE (aA x w) n=some z;rw[<- e5];exact hz⟩
    unfold bg;simp only[NU,ND,Nn,Ny,eJ];refine gJ (λd=>match d with|.tup [a,b]=>.tup [a,b,.str ((cE (aA x w) (HM b)).getD (MI "")),.str ((cE (eO w) (HM b)).getD (MI ""))]|d=>d) (by rw[MH];omega) (λd hd P hP=>?_) ?_
    .obtain⟨p,hp,rfl⟩:=mem_map.mp hd;obtain⟨z,hz⟩:=mem p hp;refine⟨rfl,⟨by simp,rfl⟩,?_⟩
     have lk:=i7 zF hw p.2 g5;rw[hz]at lk;show ∃d,cu hw G9 (.ref J) p.2.d (some d)/\jy G9 _/\∃r,cu hw G9 (.ref pw) p.2.d r/\_
     refine⟨.str z,lk,?_,_,i7 zF hw p.2 g8,by show 4<=MN;omega,hP _ ?_⟩
     .unfold jy;simp only[val,g8]
     .show D.tup [p.1.d,p.2.d,.str z,val (((cE (eO w) p.2).map D.str).getD (.str (MI "")))]=D.tup [p.1.d,p.2.d,.str ((cE (aA x w) p.2).getD (MI "")),.str ((cE (eO w) p.2).getD (MI ""))];rw[hz];cases cE (eO w) p.2<;>rfl
    .have:=h' G9 gE;rw[Nr]at this;rw[Nr];exact this
 .exact h.elim
theorem mR(s:Sl)(n:Nat):pl (n+1) s.d:=by
 intro d hd;simp only[NC,NP,or_false]at hd;rcases hd with rfl|rfl|rfl<;>cases n<;>trivial
theorem Di(ss:List Sl)(n:Nat):∀d∈ss.map Sl.d,pl (n+1) d:=λd hd=>by
 obtain⟨s,_,rfl⟩:=mem_map.mp hd;exact mR s n
theorem C7{t u:ou}{σ:eV}{G:Gp}(I J:Bool)(h1:∀K:Bool->Gp->Prop,K I G->t σ G K)(h2:I=false->∀K:Bool->Gp->Prop,K J G->u σ G K):∀K:Bool->Gp->Prop,K (I || J) G->zA t u σ G K:=λK hK=>by
 unfold zA;refine h1 _ ?_;cases I with
 | true=>rw[if_pos rfl];exact hK
 | false=>rw[if_neg (by decide)];exact h2 rfl K hK
theorem HU{x:Str}{out:List Sk}(I:∀s∈out,s.act.many<=1000):(cO x.length out).length<=x.length+1000*out.length:=by
 have wl:=no x.length out (bq [aD] aD (fi x.length)) I;have J:out.foldl dg (bq [aD] aD (fi x.length))=aD::cO x.length out:=iW x.length out;have ol:(fi x.length).length=x.length:=b8 _ _ _;rw[J,cF,MU,MU,ol]at wl;omega
theorem xx{x:Str}{out:List Sk}{names:List Nm}(I:∀s∈out,s.act.many<=1000):(cH x out names).length<=x.length+1000*out.length:=by
 unfold cH fG;rw[MH];exact le_trans (List.length_filterMap_le _ _) (HU I)
def GZ:D->D
 | .tup (_::t)=>.tup t
 | d=>d
theorem BC(seats:List Seat):(seats.map Seat.d).map GZ=seats.map Seat.d3:=by rw[Nr];rfl
theorem xD(zF:Zz)(hw:HW):bE (ft zF hw) (rT zF hw) Ak0:=by
 intro ds G Q h;unfold ft at h;split at h
 .rename_i x Y ns;obtain⟨sks,base,names,J,h⟩:=h;have hs:=aj;unfold rT;simp only[bg,eU,fA,aK,af,au,ae,cZ,M5,Pn,OC,ON,List.replicate,NU,ND,MU,Np,Nat.reduceAdd,Nat.reduceSub,val,Ng];refine⟨sks,base,names,J,λout G1 U st mem=>?_⟩;obtain⟨_,hx,_,_,Z,sub,ok,_,_⟩:=J;have lo:out.length < 64:=by
   have:=fT (eX st) (ys:=base.map Sk.rw) λr O=>by
    obtain⟨s,I,rfl⟩:=mem_map.mp O;exact mem_map.mpr ⟨s,sub s ((mem s).mp I),rfl⟩
   rw[MH,MH]at this;omega
  have ls:=xx (x:=x) (names:=names) λs (I:s∈out)=>le_trans (kX s) (ok s ((mem s).mp I)).2;refine gJ GZ (by rw[MH];omega) (λd hd P L=>?_) ?_
  .obtain⟨s,_,rfl⟩:=mem_map.mp hd;have W:s.d=.tup [s.slot.d,s.name.d,.str s.sign,.str s.word]:=rfl;rw[W]at L ⊢;refine⟨⟨by simp[Nn,List.replicate],rfl⟩,?_⟩
   show _/\_
   refine⟨by unfold HT.sIx;simp,?_⟩
   exact L _ rfl
  .rw[BC];exact h out G1 U st mem
 .exact h.elim
theorem xF(zF:Zz)(hw:HW):bE (dM zF hw) (rW zF hw) Ae0:=by
 intro ds G Q h;unfold dM at h;split at h
 .rename_i p;obtain⟨⟨pen,num,time,act⟩,a,x,⟨rfl,I⟩,h⟩:=h;have hs:=aj;have J:zF.Z2∈zF.F:=by simp
  unfold aS Sl.d at I;dsimp only at I;unfold rW;walk_at "st";exact⟨by omega,by omega,h⟩
 .exact h.elim
theorem rM(zF:Zz)(hw:HW):bE (cj zF hw) (lX zF hw) Ae0:=by
 intro ds G Q h;unfold cj at h;split at h
 .rename_i p;obtain⟨⟨pen,num,time,act⟩,ns,⟨rfl,I⟩,h⟩:=h;have hs:=aj;have J:zF.Z3∈zF.F:=by simp
  unfold aS at I;dsimp only at I;unfold lX;walk_at "st";exact⟨by omega,by omega,h⟩
 .exact h.elim
theorem t9(zF:Zz)(hw:HW):bE (cG zF hw) (nJ zF hw) Ae0:=by
 intro ds G Q h;unfold cG at h;split at h
 .rename_i p;obtain⟨⟨pen,num,time,act⟩,ns,w,⟨rfl,I⟩,h⟩:=h;have hs:=aj;have J:zF.Z4∈zF.F:=by simp
  unfold aS at I;dsimp only at I;unfold nJ;walk_at "st";exact⟨by omega,by omega,h⟩
 .exact h.elim
theorem vV(zF:Zz)(hw:HW):bE (cX zF hw) (p7 zF hw) Ae0:=by
 intro ds G Q h;unfold cX at h;split at h
 .rename_i p;obtain⟨⟨pen,num,time,act⟩,ns,a,⟨rfl,I⟩,h⟩:=h;have hs:=aj;have L:zF.Z5∈zF.F:=by simp
  unfold aS at I;dsimp only at I;have J:a.d=.tup [.str a.pen,.int a.n,.int a.k]:=rfl;rw[J]at I;unfold p7;walk_at "st";exact⟨by omega,by omega,h⟩
 .exact h.elim
theorem wJ(zF:Zz)(hw:HW){σ:eV}{G:Gp}{p:MF}{i j:Nat}{vs:List D}{v:D}{Q:mf}(I:σ[i]?=some (some (.ref p)))(L:G p=some (.ins zF.Z6 ar vs))(J:vs[j]?=some v)(h:Q v G):jc zF.Z6 ar j (ae i) σ G Q:=by
 unfold jc ae;rw[I];dsimp only;rw[L];dsimp only
 first
 | (rw[J];exact⟨⟨rfl,rfl⟩,h⟩)
 | (refine⟨⟨rfl,rfl⟩,?_⟩;rw[J];exact h)
 | exact⟨⟨rfl,rfl⟩,v,J,h⟩
theorem AU{I:List aE->Int}{to ti te:bb}{E:Ends3}{σ:eV}{G:Gp}{o i v:D}(J:∀Q:mf,Q v G->te σ G Q)(ho:∀Q:mf,Q o G->to σ G Q)(hi:∀Q:mf,Q i G->ti σ G Q)(h:kg I (val o) (val i) (val v) G λL=>E.nx σ L):dG I to ti te E σ G:=J _ (ho _ (hi _ h))
theorem og(zF:Zz)(hw:HW){σ:eV}{G:Gp}{p:MF}{s:Sk}{i:Nat}{Q:mf}(I:σ[i]?=some (some (.ref p)))(J:G p=some (aS zF s))(h:Q (.tup [.str s.pen,.int s.num]) G):bp zF.F "name" (ae i) σ G Q:=by
 obtain⟨pen,num,time,act⟩:=s;unfold bp ae;rw[I];cases act<;>(simp only[aS]at J;simp only[J];refine⟨by simp,?_⟩;first|exact h)
theorem EI(zF:Zz)(hw:HW){σ:eV}{G:Gp}{p:MF}{s:Sk}{i:Nat}{Q:mf}(I:σ[i]?=some (some (.ref p)))(J:G p=some (aS zF s))(h:Q (.int s.time) G):bp zF.F "time" (ae i) σ G Q:=by
 obtain⟨pen,num,time,act⟩:=s;unfold bp ae;rw[I];cases act<;>(simp only[aS]at J;simp only[J];refine⟨by simp,?_⟩;first|exact h)
theorem Ef(zF:Zz)(hw:HW){σ:eV}{G:Gp}{p:MF}{s:Sk}{i:Nat}{Q:mf}(L:σ[i]?=some (some (.ref p)))(J:G p=some (aS zF s))(h:Q s.d G):
  eE [(zF.Z2,dM zF hw),(zF.Z3,cj zF hw),(zF.Z4,cG zF hw),(zF.Z5,cX zF hw)] "row" [] (ae i) au σ G Q:=by
 obtain⟨pen,num,time,act⟩:=s;unfold eE ae;rw[L];cases act with
 | put a x=>
  have I:=J;simp only[aS]at J;simp only[J];exact⟨by decide +kernel,dM zF hw,by simp,⟨_,a,x,⟨rfl,I⟩,h⟩⟩
 | strike ns=>
  have I:=J;simp only[aS]at J;simp only[J];exact⟨by decide +kernel,cj zF hw,by simp,⟨_,ns,⟨rfl,I⟩,h⟩⟩
 | dress ns w=>
  have I:=J;simp only[aS]at J;simp only[J];exact⟨by decide +kernel,cG zF hw,by simp,⟨_,ns,w,⟨rfl,I⟩,h⟩⟩
 | move ns a=>
  have I:=J;simp only[aS]at J;simp only[J];exact⟨by decide +kernel,cX zF hw,by simp,⟨_,ns,a,⟨rfl,I⟩,h⟩⟩
theorem tX(zF:Zz)(hw:HW):bE (c9 zF hw) (nF zF hw) ["at","length"]:=by
 intro ds G Q h;unfold c9 at h;split at h
 .obtain⟨⟨h1,h2⟩,h⟩:=h;unfold nF;walk_at "st";rw[decide_eq_true True.intro];exact True.intro
 .exact h.elim
theorem nt(zF:Zz)(hw:HW):bE (bL zF hw) (ix zF hw) AM0:=by
 intro ds G Q h;unfold bL at h;split at h
 .obtain⟨⟨h1,h2,J,I⟩,h⟩:=h;unfold ix;walk_at "st";rw[decide_eq_true True.intro];exact True.intro
 .exact h.elim
theorem nv(zF:Zz)(hw:HW):bE (bM zF hw) (iz zF hw) Ae0:=by
 intro ds G Q h;unfold bM at h;split at h
 .rename_i p;obtain⟨P,d,s,g,⟨⟨g1,g2,g3,g4⟩,ok⟩,h⟩:=h;have hs:=aj;have Y:=ok.ls;unfold iz;walk_at "st";refine⟨by rw[MH];omega,λi I G'=>I=(((P.sks.take i).filter λs=>!cA P s.nm).map Sk.nm).map Nm.d/\G'=G,⟨rfl,rfl⟩,λi I G' U=>by rw[U.2];exact g2,?_,?_⟩
  .rintro i dd I G' hd ⟨rfl,rfl⟩
   rw[MZ]at hd;cases hq:P.sks[i]? with
   | none=>rw[hq]at hd;cases hd
   | some k=>
    rw[hq]at hd;cases hd;obtain⟨w,J⟩:=ok.kn k (M_ hq);have tk:((P.sks.take (i+1)).filter λs=>!cA P s.nm)=((P.sks.take i).filter λs=>!cA P s.nm) ++ if (!cA P k.nm)=true then [k]else []:=by
     rw[Nz,hq,NV];congr 1
     by_cases z:(!cA P k.nm)=true
     .rw[if_pos z];exact List.filter_cons_of_pos z
     .rw[if_neg z];exact List.filter_cons_of_neg z
    have O:cA P k.nm=eK (.str w) (.str (MI "wiped")):=by unfold cA;rw[J];rfl
    have W:k.d=.tup [.tup [.str k.pen,.int k.num],.int k.time,k.act.d]:=rfl;rw[W];refine⟨⟨by simp[Nn,List.replicate],rfl⟩,?_⟩
    have Z:cx P.st [.inr k.pen,.inl k.num]=some (.str w):=J;clear ok;have L:(((P.sks.take (i+1)).filter λs=>!cA P s.nm).map Sk.nm).map Nm.d=(((P.sks.take i).filter λs=>!cA P s.nm).map Sk.nm).map Nm.d ++ if (!cA P k.nm)=true then [.tup [.str k.pen,.int k.num]]else []:=by
     rw[tk,No,No];congr 1;split<;>rfl
    clear tk;generalize (((P.sks.take i).filter λs=>!cA P s.nm).map Sk.nm).map Nm.d=A0 at *
    rw[O]at L;walk_at "st"
    by_cases z:(!eK (.str w) (.str (MI "wiped")))=true
    .rw[if_pos z,if_pos z]
    .rw[if_neg z,if_neg z,Ng]
  .rintro I G' ⟨rfl,rfl⟩
   rw[MH,Nu];exact h
 .exact h.elim
theorem nw(zF:Zz)(hw:HW):bE (bN zF hw) (iA zF hw) Ae0:=by
 intro ds G Q h;unfold bN at h;split at h
 .rename_i p;obtain⟨P,d,s,g,⟨⟨g1,g2,g3,I⟩,ok⟩,h⟩:=h;have hs:=aj;unfold iA;walk_at "st"
 .exact h.elim
theorem jD(zF:Zz)(hw:HW):bE (aQ zF hw) (fN zF hw) ["self","pen"]:=by
 intro ds G Q h;unfold aQ at h;split at h
 .rename_i p pen;obtain⟨P,d,s,g,⟨⟨g1,g2,g3,I⟩,gi⟩,h⟩:=h;have hs:=aj;unfold fN;unfold Pp.num at h;cases e:cx P.gr (.inr pen) with
  | none=>
   rw[e]at h;walk_at "st";exact⟨by omega,h⟩
  | some v=>
   obtain⟨m,rfl,_⟩:=gi _ _ e;rw[e]at h;walk_at "st";exact⟨by omega,h⟩
 .exact h.elim
theorem jC(zF:Zz)(hw:HW):bE (aP zF hw) (fM zF hw) Ae0:=by
 intro ds G Q h;unfold aP at h;split at h
 .rename_i p;obtain⟨P,d,s,g,⟨g1,g2,g3,I⟩,h⟩:=h;unfold fM;walk_at "st"
 .exact h.elim
theorem jF(zF:Zz)(hw:HW):bE (bn zF hw) (fP zF hw) Aj0:=by
 intro ds G Q h;unfold bn at h;split at h
 .rename_i p a b;obtain⟨P,d,s,g,w,⟨⟨g1,g2,g3,J⟩,I⟩,h⟩:=h;unfold fP;walk_at "st";exact iteF True.intro
 .exact h.elim
theorem qz(zF:Zz)(hw:HW):bE (cq zF hw) (j6 zF hw) Aj0:=by
 intro ds G Q h;unfold cq at h;split at h
 .rename_i p a b;obtain⟨P,d,s,g,w,⟨⟨g1,g2,g3,J⟩,I⟩,h⟩:=h;unfold j6;rw[ag];rw?;exact⟨P,d,s,g,w,⟨g1,g2,g3,J⟩,I⟩
 .exact h.elim
theorem jE(zF:Zz)(hw:HW):bE (bj zF hw) (fO zF hw) Aj0:=by
 intro ds G Q h;unfold bj at h;split at h
 .rename_i p a b;obtain⟨P,d,s,g,⟨⟨g1,g2,g3,J⟩,I⟩,h⟩:=h;unfold fO;walk_at "st";refine⟨P,d,s,g,_,⟨⟨g1,g2,g3,J⟩,I⟩,?_⟩;rw[bo];exact iteF True.intro
 .exact h.elim
theorem rN(zF:Zz)(hw:HW):bE (dq zF hw) (lY zF hw) Aj0:=by
 intro ds G Q h;unfold dq at h;split at h
 .rename_i p a b;obtain⟨P,d,s,g,⟨⟨g1,g2,g3,I⟩,L,U⟩,h⟩:=h;have hs:=aj;unfold lY;rw[ag];rw?;refine⟨P,d,s,g,⟨⟨g1,g2,g3,I⟩,L⟩,by omega,h _ (λx o J O=>?_) ⟨?_,?_,av,?_⟩⟩
  .rw[ai (λz=>J (by rw[z];simp))]
   exact O
  .rw[ai (λz=>by rw[z,g3]at g1;cases g1)]
   exact g1
  .rw[ai (λz=>by rw[z,g3]at g2;cases g2)]
   exact g2
  .rw[ai (λz=>by rw[z,g3]at I;cases I)]
   exact I
 .exact h.elim
theorem rO(zF:Zz)(hw:HW):bE (aO zF hw) (lZ zF hw) Ae0:=by
 intro ds G Q h;unfold aO at h;split at h
 .rename_i p;obtain⟨P,d,s,g,⟨⟨g1,g2,g3,O⟩,ok⟩,h⟩:=h;have hs:=aj;have U:=ok.lo;have o2:=ok.ls;have un:P.unw.length<=P.sks.length:=by
   unfold Pp.unw;rw[MH];exact N8 _ _
  have sk:∀k∈P.sks,1<=k.num/\k.wd<=1000:=λk I=>⟨(ok.sk k I).1,le_trans (ok.sk k I).2.1 (by decide)⟩
  unfold lZ;walk_at "st";refine⟨P,d,s,g,⟨⟨g1,g2,g3,O⟩,ok⟩,P.sks,P.sks,P.unw,⟨rfl,by omega,vz ok.ap,by omega,by omega,λk I=>I,sk,rfl,by omega⟩,λout G' L J mo=>h out G' L ⟨J,mo⟩⟩
 .exact h.elim
theorem qA(zF:Zz)(hw:HW):bE (bU zF hw) (j7 zF hw) Ae0:=by
 intro ds G Q h;unfold bU at h;split at h
 .rename_i p;obtain⟨P,d,s,g,⟨⟨g1,g2,g3,O⟩,ok⟩,h⟩:=h;have hs:=aj;have U:=ok.lo;have o2:=ok.ls;have un:P.unw.length<=P.sks.length:=by
   unfold Pp.unw;rw[MH];exact N8 _ _
  have sk:∀k∈P.sks,1<=k.num/\k.wd<=1000:=λk I=>⟨(ok.sk k I).1,le_trans (ok.sk k I).2.1 (by decide)⟩
  unfold j7;walk_at "st";refine⟨P,d,s,g,⟨⟨g1,g2,g3,O⟩,ok⟩,P.sks,P.sks,P.unw,⟨rfl,by omega,vz ok.ap,by omega,by omega,λk I=>I,sk,rfl,by omega⟩,λout G' L J mo=>h out G' L ⟨J,mo⟩⟩
 .exact h.elim
theorem rR(zF:Zz)(hw:HW):bE (ck zF hw) (l7 zF hw) ["self","stroke"]:=by
 intro ds G Q h;unfold ck at h;split at h
 .rename_i p a;obtain⟨P,d,s,g,k,⟨⟨g1,g2,g3,W⟩,ga,l1,l2,l3⟩,h⟩:=h;have hs:=aj;have npd:p≠d:=λz=>by rw[z,g2]at g1;cases g1
  have Z:p≠s:=λz=>by rw[z,g3]at g1;cases g1
  have npg:p≠g:=λz=>by rw[z,W]at g1;cases g1
  have nds:d≠s:=λz=>by rw[z,g3]at g2;cases g2
  have ndg:d≠g:=λz=>by rw[z,W]at g2;cases g2
  have Y:s≠g:=λz=>by rw[z,W]at g3;cases g3
  obtain⟨C,L,fs,eo⟩:=o7 zF k;have U:G a=some (.ins C L fs):=ga.trans (by rw[eo])
  have nad:a≠d:=λz=>by rw[z,g2]at U;cases U
  have nas:a≠s:=λz=>by rw[z,g3]at U;cases U
  have nag:a≠g:=λz=>by rw[z,W]at U;cases U
  unfold l7;rw[ag];unfold em gX;refine wJ zF hw (i:=0) rfl g1 rfl ?_;refine⟨⟨_,g2⟩,?_⟩;unfold af;refine Ef zF hw (i:=1) rfl ga ?_;unfold au;dsimp only;rw[g2];dsimp only;refine⟨by rw[MH];omega,?_⟩
  have e1:(P.sks.map Sk.d) ++ [val k.d]=(P.sks ++ [k]).map Sk.d:=by rw[No];rfl
  rw[e1];clear e1;have h1:gset G d (.lst ((P.sks ++ [k]).map Sk.d)) p=_:=(ai npd).trans g1;have h2:gset G d (.lst ((P.sks ++ [k]).map Sk.d)) d=_:=av;have h3:gset G d (.lst ((P.sks ++ [k]).map Sk.d)) s=_:=(ai nds.symm).trans g3;have h4:gset G d (.lst ((P.sks ++ [k]).map Sk.d)) g=_:=(ai ndg.symm).trans W;have ha:gset G d (.lst ((P.sks ++ [k]).map Sk.d)) a=_:=(ai nad).trans ga;have ho:AG [p,d,s,g] G (gset G d (.lst ((P.sks ++ [k]).map Sk.d))):=λx o I O=>(ai λz=>I (by rw[z];simp)).trans O
  generalize gset G d (.lst ((P.sks ++ [k]).map Sk.d))=G1 at *
  clear g1 g2 g3 W ga U;rw[ag];refine AU (v:=.str (MI "waits")) (o:=.ref s) (i:=.tup [.str k.pen,.int k.num]) (λQ h=>h) (λQ h=>wJ zF hw (i:=0) rfl h1 rfl h) (λQ h=>og zF hw (i:=1) rfl ha h) ?_;unfold kg;dsimp only[val];rw[h3];refine⟨rfl,k.nm.key,rfl,by omega,?_⟩
  have i1:gset G1 s (.dT hw (aT P.st k.nm.key (.str (MI "waits")))) p=_:=(ai Z).trans h1;have i2:gset G1 s (.dT hw (aT P.st k.nm.key (.str (MI "waits")))) d=_:=(ai nds).trans h2;have i3:gset G1 s (.dT hw (aT P.st k.nm.key (.str (MI "waits")))) s=_:=av;have i4:gset G1 s (.dT hw (aT P.st k.nm.key (.str (MI "waits")))) g=_:=(ai Y.symm).trans h4;have ia:gset G1 s (.dT hw (aT P.st k.nm.key (.str (MI "waits")))) a=_:=(ai nas).trans ha;have io:AG [p,d,s,g] G (gset G1 s (.dT hw (aT P.st k.nm.key (.str (MI "waits"))))):=λx o I O=>(ai λz=>I (by rw[z];simp)).trans (ho x o I O)
  generalize gset G1 s (.dT hw (aT P.st k.nm.key (.str (MI "waits"))))=G2 at *
  clear h1 h2 h3 h4 ha ho;rw[ag];refine AU (v:=.int k.num) (o:=.ref g) (i:=.str k.pen) (λQ h=>by unfold cz;exact og zF hw (i:=1) rfl ia h) (λQ h=>wJ zF hw (i:=0) rfl i1 rfl h) (λQ h=>by unfold cz;exact og zF hw (i:=1) rfl ia h) ?_
  unfold kg;dsimp only[val];rw[i4];refine⟨.inr k.pen,rfl,by omega,?_⟩
  have j1:gset G2 g (.dK (aT P.gr (.inr k.pen) (.int k.num))) p=_:=(ai npg).trans i1;have j2:gset G2 g (.dK (aT P.gr (.inr k.pen) (.int k.num))) d=_:=(ai ndg).trans i2;have j3:gset G2 g (.dK (aT P.gr (.inr k.pen) (.int k.num))) s=_:=(ai Y).trans i3;have j4:gset G2 g (.dK (aT P.gr (.inr k.pen) (.int k.num))) g=_:=av;have J:gset G2 g (.dK (aT P.gr (.inr k.pen) (.int k.num))) a=_:=(ai nag).trans ia;have jo:AG [p,d,s,g] G (gset G2 g (.dK (aT P.gr (.inr k.pen) (.int k.num)))):=λx o I O=>(ai λz=>I (by rw[z];simp)).trans (io x o I O)
  generalize gset G2 g (.dK (aT P.gr (.inr k.pen) (.int k.num)))=G3 at *
  clear i1 i2 i3 i4 ia io;rw[ag];unfold AV;refine EI zF hw (i:=1) (p:=a) (σ:=[some (.ref p),some (.ref a)]) rfl J ?_;show (match G3 p with|some (.ins C' L' ds)=>_|_=>False)
  rw[j1];refine⟨⟨rfl,rfl⟩,?_⟩;have npa:a≠p:=λz=>by
   rw[z,j1]at J;obtain⟨pen,num,time,act⟩:=k;cases act<;>(injection J with J;injection J with _ _ J;cases J)
  dsimp only;unfold bg;refine og zF hw (i:=1) (p:=a) (σ:=[some (.ref p),some (.ref a)]) rfl ((ai npa).trans J) ?_;exact h _ (λx o I O=>(ai λz=>I (by rw[z];simp)).trans (jo x o I O)) ⟨av,(ai npd.symm).trans j2,(ai Z.symm).trans j3,(ai npg.symm).trans j4⟩
 .exact h.elim
theorem mx(zF:Zz)(hw:HW):bE (bV zF hw) (gT zF hw) ["self","old"]:=by
 intro ds G Q h;unfold bV at h;split at h
 .rename_i p x;obtain⟨g1,h⟩:=h;have hs:=aj;unfold gT;rw[ag];rw?;rw[ag];rw?;refine⟨by omega,λd hd=>?_⟩
  have I:p≠d:=λz=>by rw[<- z,av]at hd;cases hd
  have hd0:G d=none:=by rwa[ai I.symm]at hd
  rw[ai I,av];dsimp only;refine⟨⟨rfl,rfl⟩,?_⟩;rw[ag];generalize O:gset (gset (gset G p _) d _) p _=G1;have a1:G1 p=some (.ins zF.Z6 ["old","drawn"] [.str x,.ref d]):=by rw[<- O];exact av
  have a2:G1 d=some (.lst []):=by rw[<- O,ai I.symm];exact av
  have a0:∀y o,y≠p->y≠d->G y=some o->G1 y=some o:=λy o h1 h2 hG=>by rw[<- O,ai h1,ai h2,ai h1];exact hG
  clear O;rw?;intro s J;have U:p≠s:=λz=>by rw[<- z,a1]at J;cases J
  have nds:d≠s:=λz=>by rw[<- z,a2]at J;cases J
  rw[ai U,a1];dsimp only;refine⟨⟨rfl,rfl⟩,?_⟩;rw[ag];generalize L:gset (gset G1 s _) p _=G2;have b1:G2 p=some (.ins zF.Z6 AF0 [.str x,.ref d,.ref s]):=by rw[<- L];exact av
  have b2:G2 d=some (.lst []):=by rw[<- L,ai I.symm,ai nds];exact a2
  have b3:G2 s=some (.dT hw []):=by rw[<- L,ai U.symm];exact av
  have b0:∀y o,y≠p->y≠d->y≠s->G y=some o->G2 y=some o:=λy o h1 h2 h3 hG=>by rw[<- L,ai h1,ai h3];exact a0 y o h1 h2 hG
  clear L a1 a2 a0 J;rw?;intro g Y;have Z:p≠g:=λz=>by rw[<- z,b1]at Y;cases Y
  have ndg:d≠g:=λz=>by rw[<- z,b2]at Y;cases Y
  have nsg:s≠g:=λz=>by rw[<- z,b3]at Y;cases Y
  rw[ai Z,b1];dsimp only;refine⟨⟨rfl,rfl⟩,?_⟩;walk_at "st";refine h d s g _ (λy o W hG=>?_) ⟨av,?_,?_,?_⟩
  .simp only[NC,NP,or_false,not_or]at W;rw[ai W.1,ai W.2.2.2];exact b0 y o W.1 W.2.1 W.2.2.1 hG
  .rw[ai I.symm,ai ndg];exact b2
  .rw[ai U.symm,ai nsg];exact b3
  .rw[ai Z.symm];exact av
 .exact h.elim
def Ma(G:Gp)(p:MF)(rs:List Rr)(i:Nat)(σ:eV)(G':Gp):Prop:=∃J I:Option D,σ=[some (.lst (rs.map Rr.d)),some (.ref p),some (.int (jh ((rs.take i).map Rr.e)).2),J,I]/\G'=gset G p (.lst ((jh ((rs.take i).map Rr.e)).1.map prD))
theorem rG(zF:Zz)(hw:HW):bE (cL zF hw) (lS zF hw) AC0:=by
 intro ds G Q h;unfold cL at h;split at h
 .obtain⟨I,⟨rfl,hl⟩,h⟩:=h;have hs:=aj;unfold lS;rw[ag];rw?;refine⟨by omega,λp hp=>?_⟩
  rw[ag];rw?;rw[ag];rw?;refine⟨Ma G p I,⟨_,_,rfl,rfl⟩,?_,?_⟩
  .rintro i d σ G' hd ⟨Z,Y,rfl,rfl⟩
   obtain⟨r,O,rfl⟩:=yR Rr.d 0 I i d hd;have hi:=(List.getElem?_eq_some_iff.mp O).1;have tk:(I.take (i+1)).map Rr.e=(I.take i).map Rr.e ++ [r.e]:=by rw[Nz,O];simp
   have lt:((I.take i).map Rr.e).length=i:=by simp;omega
   have J:=qV ((I.take i).map Rr.e);have sn:=Bw ((I.take i).map Rr.e) r.e;rw[<- tk,lt]at sn;rw[lt]at J;clear hd tk;obtain⟨nm,L,wd⟩:=r;have W:Rr.d ⟨nm,L,wd⟩=.tup [nm,.str L,.str wd]:=rfl;rw[W];clear W;simp only[n8,fb,n_,gN,Nat.zero_add,MU,Np,Ny,Nn,if_true];refine⟨trivial,?_⟩;refine bB (Rr.e ⟨nm,L,wd⟩) (λK hK=>?_) (Ca (λe=>?_) λe=>?_)
   .walk_at "st";exact hK
   .rw[if_pos e]at sn;unfold Ma;rw[sn];walk_at "st";refine⟨by omega,by rw[MH];omega,_,_,⟨by simp,rfl,rfl⟩,?_⟩
    rw[No];rfl
   .rw[e,if_neg (by decide)]at sn
    simp only[cy];exact⟨_,_,by rw[sn],by rw[sn]⟩
  .rintro σ G' ⟨Z,Y,rfl,rfl⟩
   have U:(vh (I.map Rr.d)).length=I.length:=by rw[vh,fC,MH]
   rw[U,Nu];clear U;have wa:=CW I;have J:=qV (I.map Rr.e);rw[MH]at J;walk_at "st";refine⟨by omega,by rw[MH];omega,?_⟩
   rw[ve hp,MH];rw[<- wa,No]at h;exact h
 .exact h.elim
theorem rL(zF:Zz)(hw:HW):bE (aM zF hw) (lW zF hw) AB0:=by
 intro ds G Q h;unfold aM at h;split at h
 .rename_i c p;obtain⟨⟨h1,h2⟩,L⟩:=h;unfold lW;walk_at "st";have J:0<=(c+7919*p+1)*48271 % 2147483647:=Int.emod_nonneg _ (by decide)
  have I:(c+7919*p+1)*48271 % 2147483647 < 2147483647:=Int.emod_lt_of_pos _ (by decide)
  refine⟨.inl ⟨by decide,by decide⟩,.inr ⟨by decide,by decide⟩,by decide,⟨by decide,by decide⟩,.inl ⟨by omega,by omega⟩,by decide,L⟩
 .exact h.elim
theorem GJ{seats:List Seat}{i:Int}(h0:0<=i)(h1:i < seats.length):lD (seats.map Seat.d) i=some (seats[i.toNat]'(by omega)).d:=by
 have:=kK (ds:=seats.map Seat.d) (i:=i) h0 (by rw[MH];omega)
 rw[this,O2]
theorem tY(zF:Zz)(hw:HW):bE (c_ zF hw) (nG zF hw) ["seats","at"]:=by
 intro ds G Q h;unfold c_ at h;split at h
 .rename_i xs i;obtain⟨seats,⟨rfl,h0,h1⟩,h⟩:=h;have hs:=aj;unfold nG
  by_cases e:i=0
  .subst e;refine Dm (NX:=λ_ _=>False) (λ_ _ z=>z.elim) λNX J=>?_;refine bB true (λK hK=>?_) (iteT ?_)
   .walk_at "st"
   .exact h aD
  .refine Dm (NX:=λI G'=>I=[some (.lst (seats.map Seat.d)),some (.int i)]/\G'=G) (λI G' z=>?_) λNX J=>?_
   .obtain⟨rfl,rfl⟩:=z;have as:=GJ (seats:=seats) (i:=i - 1) (by omega) (by omega)
    have L:(seats[(i - 1).toNat]'(by omega)).d=.tup [(seats[(i - 1).toNat]'(by omega)).slot.d,(seats[(i - 1).toNat]'(by omega)).name.d,.str (seats[(i - 1).toNat]'(by omega)).sign,.str (seats[(i - 1).toNat]'(by omega)).word]:=rfl
    rw[L]at as;generalize seats[(i - 1).toNat]'(by omega)=st at as
    walk_at "st"
   .have O:eK (.int i) (.int 0)=false:=bC λz=>e (by injection z)
    refine bB false (λK hK=>?_) (iteF ?_)
    .walk_at "st"
    .exact J _ _ ⟨rfl,rfl⟩
 .exact h.elim
def Hi:D->D
 | .tup (_::d::_)=>d
 | d=>d
theorem B0(seats:List Seat):(seats.map Seat.d).map Hi=(seats.map Seat.name).map Sl.d:=by rw[Nr,Nr];rfl
theorem nr(zF:Zz)(hw:HW):bE (bK zF hw) (iw zF hw) Aw0:=by
 intro ds G Q h;unfold bK at h;split at h
 .rename_i xs i j;obtain⟨seats,⟨rfl,h0,h1,h2,O⟩,h⟩:=h;have hs:=aj;unfold iw;walk_at "st";have L:L3.cutD (seats.map Seat.d) (some i) (some j)=((seats.drop i.toNat).take (j - i).toNat).map Seat.d:=by
   rw[yU h0 (by omega),Qq,QV]
   congr 1;omega
  rw[L];refine gJ Hi (by rw[MH];exact le_trans (List.length_take_le' _ _) (by rw[O1];omega)) (λd hd P I=>?_) ?_
  .obtain⟨s,_,rfl⟩:=mem_map.mp hd;have J:s.d=.tup [s.slot.d,s.name.d,.str s.sign,.str s.word]:=rfl;rw[J]at I ⊢;refine⟨⟨by simp[Nn,List.replicate],rfl⟩,?_⟩
   exact I _ rfl
  .rw[B0];exact h
 .exact h.elim
theorem gZ.off{C:MF}{I:List aE->Int}{G:Gp}{p d s g a:MF}{P:Pp}{o:GO}(h:gZ C I G p d s g P)(U:G a=none):gZ C I (gset G a o) p d s g P:=by
 have ne:∀{b:MF} {u:GO},G b=some u->b≠a:=λJ z=>by rw[z,U]at J;cases J
 obtain⟨h1,h2,O,L⟩:=h;exact⟨(ai (ne h1)).trans h1,(ai (ne h2)).trans h2,(ai (ne O)).trans O,(ai (ne L)).trans L⟩
theorem gZ.ext{C:MF}{I:List aE->Int}{G G':Gp}{p d s g:MF}{P:Pp}(h:gZ C I G p d s g P)(e:fZ G G'):gZ C I G' p d s g P:=⟨e _ _ h.1,e _ _ h.2.1,e _ _ h.2.2.1,e _ _ h.2.2.2⟩
theorem Pp.ok.le{P:Pp}{n m:Nat}(h:P.ok n)(I:n<=m):P.ok m:=⟨h.lo,le_trans h.ls I,le_trans h.lt I,le_trans h.lg I,h.sk,h.ap,h.kn,h.gi,h.gm⟩
theorem Fv{P:Pp}{out:List Sk}(J:Srt P out):out.length<=P.sks.length:=by
 have:=fT (eX J.1) (ys:=P.sks.map Sk.rw) λr L=>by
  obtain⟨s,I,rfl⟩:=mem_map.mp L;exact mem_map.mpr ⟨s,(J.2 s).mp I,rfl⟩
 rwa[MH,MH]at this
theorem gO{P:Pp}{out:List Sk}(ok:P.ok 50)(J:Srt P out):(P.seats out).length<=60000:=by
 have h1:=xx (x:=P.old) (out:=out) (names:=P.unw) λs I=>le_trans (kX s) (le_trans (ok.sk s ((J.2 s).mp I)).2.1 (by decide))
 have h2:=Fv J;have O:=ok.ls;have L:=ok.lo;unfold Pp.seats;omega
theorem z_{G G1 G':Gp}{a p d s g:MF}{o:GO}(e:fZ G G1)(I:G1 a=none)(h:AG [p,d,s,g] (gset G1 a o) G'):AG [p,d,s,g] G G':=λx u L J=>h x u L ((ai λz=>by rw[<- z,e x u J]at I;cases I).trans (e x u J))
theorem oY(zF:Zz)(hw:HW):bE (b7 zF hw) (jv zF hw) ["self","pen","at","to","seats"]:=by
 intro ds G Q h;unfold b7 at h;split at h
 .rename_i p pen i j;obtain⟨P,d,s,g,⟨⟨g1,g2,g3,W⟩,ok⟩,h⟩:=h;have hs:=aj;have I:P.ok 50:=ok.le (by decide)
  have ls:=ok.ls;have lt:=ok.lt;have lg:=ok.lg;have gi:=ok.gi;unfold jv;rw[ag];rw?;refine⟨P,d,s,g,⟨⟨g1,g2,g3,W⟩,I⟩,λout G1 J O=>?_⟩;obtain⟨⟨c1,c2,c3,Y⟩,h⟩:=h out O;have k1:=J _ _ g1;have k2:=J _ _ g2;have k3:=J _ _ g3;have Z:=J _ _ W;rw[ag];rw?;have sb:=gO I O;have L:gZ zF.Z6 hw G1 p d s g P:=⟨k1,k2,k3,Z⟩;refine⟨⟨by rw[MH];exact c2,by rw[MH];exact Y⟩,P,d,s,g,⟨L,gi⟩,P,d,s,g,L,P.seats out,⟨rfl,by omega,Y,by omega⟩,λa U=>⟨pen,_,rfl,P,d,s,g,⟨pen,P.num pen,P.time+1,.strike ((((P.seats out).drop i.toNat).take (j - i).toNat).map Seat.name)⟩,⟨L.off U,?_⟩,λG' of pt=>h G' (z_ J U of) pt⟩⟩
  exact⟨rfl,by omega,by omega,by omega⟩
 .exact h.elim
theorem t7(zF:Zz)(hw:HW):bE (da zF hw) (nI zF hw) ["self","pen","at","signs","seats"]:=by
 intro ds G Q h;unfold da at h;split at h
 .rename_i p pen i w;obtain⟨P,d,s,g,⟨⟨g1,g2,g3,W⟩,ok⟩,h⟩:=h;have hs:=aj;have I:P.ok 50:=ok.le (by decide)
  have ls:=ok.ls;have lt:=ok.lt;have lg:=ok.lg;have gi:=ok.gi;unfold nI;rw[ag];rw?;refine⟨P,d,s,g,⟨⟨g1,g2,g3,W⟩,I⟩,λout G1 J O=>?_⟩;obtain⟨⟨c1,Y⟩,h⟩:=h out O;have k1:=J _ _ g1;have k2:=J _ _ g2;have k3:=J _ _ g3;have Z:=J _ _ W;rw[ag];rw?;have sb:=gO I O;have L:gZ zF.Z6 hw G1 p d s g P:=⟨k1,k2,k3,Z⟩;refine⟨by rw[MH];exact Y,P,d,s,g,⟨L,gi⟩,P,d,s,g,L,P.seats out,⟨rfl,Y⟩,λb a U=>⟨pen,_,b,rfl,rfl,P,d,s,g,⟨pen,P.num pen,P.time+1,.put b w⟩,⟨L.off U,?_⟩,λG' of pt=>h b G' (z_ J U of) pt⟩⟩
  exact⟨rfl,by omega,by omega,by omega⟩
 .exact h.elim
theorem rP(zF:Zz)(hw:HW):bE (du zF hw) (l5 zF hw) ["self","pen","at"]:=by
 intro ds G Q h;unfold du at h;split at h
 .rename_i p pen i;obtain⟨P,d,s,g,⟨⟨g1,g2,g3,I⟩,ok⟩,h⟩:=h;unfold l5;walk_at "st";exact⟨P,d,s,g,⟨⟨g1,g2,g3,I⟩,ok⟩,h⟩
 .exact h.elim
theorem rQ(zF:Zz)(hw:HW):bE (dw zF hw) (l6 zF hw) Ax0:=by
 intro ds G Q h;unfold dw at h;split at h
 .rename_i p pen i j m;obtain⟨P,d,s,g,⟨⟨g1,g2,g3,W⟩,ok⟩,h⟩:=h;have hs:=aj;have I:P.ok 50:=ok.le (by decide)
  have ls:=ok.ls;have lt:=ok.lt;have lg:=ok.lg;have gi:=ok.gi;unfold l6;rw[ag];rw?;refine⟨P,d,s,g,⟨⟨g1,g2,g3,W⟩,I⟩,λout G1 J O=>?_⟩;obtain⟨⟨c1,c2,c3,Z,c5,Y⟩,h⟩:=h out O;have k1:=J _ _ g1;have k2:=J _ _ g2;have k3:=J _ _ g3;have k4:=J _ _ W;rw[ag];rw?;have sb:=gO I O;have L:gZ zF.Z6 hw G1 p d s g P:=⟨k1,k2,k3,k4⟩;refine⟨⟨by rw[MH];exact c2,by rw[MH];exact Z⟩,?_⟩
  rw[ag];rw?;refine⟨by rw[MH];exact Y,?_⟩
  rw[ag];rw?;refine⟨P.seats out,⟨rfl,by omega,Z,by omega⟩,P,d,s,g,⟨L,gi⟩,P,d,s,g,L,P.seats out,⟨rfl,Y⟩,λb a U=>⟨pen,_,b,rfl,rfl,P,d,s,g,⟨pen,P.num pen,P.time+1,.move ((((P.seats out).drop i.toNat).take (j - i).toNat).map Seat.name) b⟩,⟨L.off U,?_⟩,λG' of pt=>h b G' (z_ J U of) pt⟩⟩
  exact⟨rfl,by omega,by omega,by omega⟩
 .exact h.elim
theorem gV:∀(es:List Bool) (s n:Nat),(cV s n es).map (·.2)=aI n es ++ [n+es.length]
 | [],_,_=>rfl
 | true::t,s,n=>by
  have I:=gV t (n+1) (n+1);simp only[cV,aI,M5,I,MU,OC];congr 3;omega
 | false::t,s,n=>by
  have I:=gV t s (n+1);simp only[cV,aI,I,MU];congr 2;omega
theorem qY:∀(es:List Bool) (n:Nat),∀x∈aI n es,n<=x/\x < n+es.length
 | [],_,x,h=>by simp[aI]at h
 | true::t,n,x,h=>by
  simp only[aI,NC]at h;rcases h with h|h
  .subst h;simp
  .have:=qY t (n+1) x h;simp only[MU];omega
 | false::t,n,x,h=>by
  simp only[aI]at h;have:=qY t (n+1) x h;simp only[MU];omega
theorem Fp{rs:List Rr}{i:Nat}(h:i < (aI 0 (rs.map Rr.e)).length):∃a:Nat,(r9 rs)[i]?=some (a,(aI 0 (rs.map Rr.e)).getD i 0):=by
 have e:=gV (rs.map Rr.e) 0 0;have h2:((cV 0 0 (rs.map Rr.e)).map (·.2))[i]?=(aI 0 (rs.map Rr.e) ++ [0+(rs.map Rr.e).length])[i]?:=by rw[e]
 rw[MZ,List.getElem?_append_left h,MO h]at h2;unfold r9;cases q:(cV 0 0 (rs.map Rr.e))[i]? with
 | none=>rw[q]at h2;cases h2
 | some p=>
  rw[q]at h2;refine⟨p.1,?_⟩;have I:p.2=(aI 0 (rs.map Rr.e))[i]:=by injection h2
  rw[MX,MO h,Option.getD_some,<- I]
theorem xq(rs:List Rr):(r9 rs).length=(aI 0 (rs.map Rr.e)).length+1:=by
 have:=congrArg List.length (gV (rs.map Rr.e) 0 0);rw[MH,Nt]at this;exact this
theorem Ho(seats:List Seat):seats.map Seat.d3=(seats.map Seat.rr).map Rr.d:=by rw[Nr];rfl
theorem srt_uniq{P:Pp}{a b:List Sk}(O:Srt P a)(L:Srt P b):a=b:=rh (g_ O.1 L.1 λr=>by
 constructor
 .intro J;obtain⟨s,I,rfl⟩:=mem_map.mp J;exact mem_map.mpr ⟨s,(L.2 s).mpr ((O.2 s).mp I),rfl⟩
 .intro J;obtain⟨s,I,rfl⟩:=mem_map.mp J;exact mem_map.mpr ⟨s,(O.2 s).mpr ((L.2 s).mp I),rfl⟩)
theorem Dx(zF:Zz)(hw:HW):bE (kR zF hw) (AY zF hw) Ar0:=by
 intro ds G Q h;unfold kR at h;split at h
 .rename_i p pen n;obtain⟨P,d,s,g,⟨W,ok⟩,h⟩:=h;have hs:=aj;have L:P.ok 50:=ok.le (by decide)
  have g1:=W.1;unfold AY;rw[ag];rw?;refine⟨P,d,s,g,⟨W,L⟩,λout G1 Y U=>?_⟩;obtain⟨⟨c1,c2⟩,h⟩:=h out U;have sb:=gO L U;refine⟨(P.seats out).map Seat.rr,⟨Ho _,by rw[MH];omega⟩,?_⟩
  have tl:=xq ((P.seats out).map Seat.rr);have J:n.toNat < (de (P.seats out)).length:=by omega
  obtain⟨b,ta⟩:=Fp (rs:=(P.seats out).map Seat.rr) (i:=n.toNat) J;have Z:(de (P.seats out)).getD n.toNat 0 < (P.seats out).length:=by
   have hm:(de (P.seats out)).getD n.toNat 0∈de (P.seats out):=by
    rw[MX,MO J];exact OQ J
   have:=(qY _ 0 _ hm).2
   simpa using this
  have fold:aI 0 (((P.seats out).map Seat.rr).map Rr.e)=de (P.seats out):=rfl;rw[fold]at ta tl;clear fold;generalize r9 ((P.seats out).map Seat.rr)=told at *
  generalize (de (P.seats out)).getD n.toNat 0=I at *
  have k1:=Y _ _ g1;have at1:lD (told.map prD) n=some (.tup [.int b,.int I]):=by
   have:=kK (ds:=told.map prD) (i:=n) c1 (by rw[MH];omega)
   rw[this,O2];obtain⟨hl,he⟩:=List.getElem?_eq_some_iff.mp ta;rw[he];rfl
  rw[ag];refine bB false (λK hK=>?_) (iteF ?_)
  .walk_at "st";rw[decide_eq_true (by rw[MH];omega)]
   exact hK
  simp only[cy];rw[ag];rw?;refine⟨P,d,s,g,⟨W.ext Y,ok⟩,λo2 O=>?_⟩;rw[srt_uniq O U];refine⟨⟨by omega,by omega,by omega,by omega⟩,λG' of pt=>?_⟩
  have e1:((((P.seats out).drop (I:Int).toNat).take ((I:Int)+1 - (I:Int)).toNat).map Seat.name)=[((P.seats out)[I]'(Z)).name]:=by
   have a1:((I:Int)+1 - (I:Int)).toNat=1:=by omega
   rw[a1,Int.toNat_natCast,List.drop_eq_getElem_cons Z,List.take_succ_cons,List.take_zero];rfl
  rw[e1]at pt;exact h G' _ (MO Z) (λx u hx hG=>of x u hx (Y x u hG)) pt
 .exact h.elim
theorem BJ(zF:Zz)(hw:HW)(Sj:MF):LW (ik zF hw Sj) (AW zF hw Sj) Ar0:=by
 intro EQ ds G Q h;unfold ik at h;split at h
 .rename_i p pen n;obtain⟨P,d,s,g,⟨L,ok⟩,h⟩:=h;have hs:=aj;have I:P.ok 50:=ok.le (by decide)
  have g1:=L.1;unfold AW;rw[ag];rw?;refine⟨P,d,s,g,⟨L,I⟩,λout G1 U J=>?_⟩;obtain⟨W,h⟩:=h out J;have O:=gO I J;refine⟨(P.seats out).map Seat.rr,⟨Ho _,by rw[MH];omega⟩,?_⟩
  have tl:=xq ((P.seats out).map Seat.rr);have fold:aI 0 (((P.seats out).map Seat.rr).map Rr.e)=de (P.seats out):=rfl;rw[fold]at tl;clear fold;generalize r9 ((P.seats out).map Seat.rr)=told at *
  rw[ag];refine bB true (λK hK=>?_) (iteT ?_)
  .walk_at "st"
   by_cases z:0<=n
   .rw[if_pos z,decide_eq_false (by rw[MH];omega)]
    exact hK
   .rw[if_neg z];trivial
  .unfold zK;walk_at "st"
 .exact h.elim
theorem n6:∀{ss W:List Sl} {b:Sl},W.Nodup->b∈W->ss.Nodup->(∀x∈ss,x∉W)->(bq W b ss).Nodup
 | [],W,b,L,_,_,_=>L
 | x::t,W,b,L,I,nd,U=>by
  rw[Oj]at nd;unfold bq;refine n6 (sP L (U x MW) I) ((dY I x).mpr (.inr rfl)) nd.2 λy O J=>?_;rcases (dY I y).mp J with z|z
  .exact U y (MQ _ O) z
  .exact nd.1 (z ▸ O)
theorem zC{W:List Sl}{s:Sk}(I:W.Nodup)(J:∀x∈made s,x∉W):(dg W s).Nodup:=by
 unfold dg;split
 .exact n6 I (by assumption) (dU _ _ _) J
 .exact I
theorem uV{n:Nat}:∀(out done:List Sk) (W:List Sl),zg done W->W.Nodup->((done ++ out).map Sk.rw).Pairwise g6->(∀s∈out,1<=s.num)->(out.foldl dg W).Nodup
 | [],done,W,_,I,_,_=>I
 | s::t,done,W,L,I,ap,ok=>by
  have J:∀r∈done,¬ (r.pen=s.pen/\r.num=s.num):=λr U z=>by
   rw[No,List.pairwise_append]at ap;exact ap.2.2 r.rw (mem_map.mpr ⟨r,U,rfl⟩) s.rw (by simp) z
  refine uV (n:=n) t (done ++ [s]) (dg W s) (vg L) (zC I (yN L (ok s MW) J)) (by simpa using ap) λx O=>ok x (MQ _ O)
theorem Ge{P:Pp}{n:Nat}(ok:P.ok n)(pen:Str):1<=P.num pen:=by
 unfold Pp.num;split
 .rename_i m e;obtain⟨J,I,h⟩:=ok.gi _ _ e;cases I;omega
 .exact Int.le_refl _
theorem Ac{P:Pp}{pen:Str}{m:Int}(h:cx P.gr (.inr pen)=some (.int m)):P.num pen=m+1:=by
 unfold Pp.num;rw[h]
theorem z9{P:Pp}{n:Nat}{pen:Str}{k:Sk}(ok:P.ok n)(nx:P.next pen k)(wd:k.wd<=60):(P.add k).ok (n+1):=by
 obtain⟨rfl,e2,e3⟩:=nx;have np:=Ge ok k.pen;refine⟨ok.lo,?_,?_,?_,λs hs=>?_,?_,λs hs=>?_,λq v Z=>?_,λs hs=>?_⟩
 .show (P.sks ++ [k]).length<=n+1;rw[Nt];exact Nat.succ_le_succ ok.ls
 .exact le_trans (eQ _ _ _) (Nat.succ_le_succ ok.lt)
 .exact le_trans (eQ _ _ _) (Nat.succ_le_succ ok.lg)
 .rcases Qi.mp hs with h|h
  .obtain⟨h1,h2,h3⟩:=ok.sk s h;exact⟨h1,h2,by show s.time<=k.time;omega⟩
  .rw[Pt.mp h];exact⟨by omega,wd,Int.le_refl _⟩
 .show ((P.sks ++ [k]).map Sk.rw).Pairwise g6;rw[No,List.pairwise_append];refine⟨ok.ap,List.pairwise_singleton _ _,λa ha b O=>?_⟩;obtain⟨s,hs,rfl⟩:=mem_map.mp ha;rw[M5,Pn,Pt]at O;subst O
  rintro⟨Y,W⟩
  obtain⟨m,J,le⟩:=ok.gm s hs;have L:s.pen=k.pen:=Y;have U:s.num=k.num:=W;rw[L]at J;have:=Ac J;omega
 .show ∃w:Str,cx (aT P.st k.nm.key (.str (MI "waits"))) s.nm.key=some (.str w);rw[cw];split
  .exact⟨_,rfl⟩
  .rename_i ne;rcases Qi.mp hs with h|h
   .exact ok.kn s h
   .exact absurd (by rw[Pt.mp h]) ne
 .have I:cx (aT P.gr (.inr k.pen) (.int k.num)) q=some v:=Z;rw[cw]at I;split at I
  .cases I;exact⟨_,rfl,by omega⟩
  .exact ok.gi _ _ I
 .show ∃m:Int,cx (aT P.gr (.inr k.pen) (.int k.num)) (.inr s.pen)=some (.int m)/\s.num<=m;rw[cw];split
  .rename_i z;refine⟨_,rfl,?_⟩;rcases Qi.mp hs with h|h
   .obtain⟨m,J,le⟩:=ok.gm s h;rw[z]at J;have:=Ac J;omega
   .rw[Pt.mp h];exact Int.le_refl _
  .rename_i ne;rcases Qi.mp hs with h|h
   .exact ok.gm s h
   .exact absurd (by rw[Pt.mp h]) ne
section
variable{α:Type}
def LX(m:List (Sl×α)):Prop:=∀k v I,(k,v)∈m->(k,I)∈m->v=I
theorem wY:∀(m l:List (Sl×α)) (k:Sl),(cE (bf l m) k=cE l k/\∀p∈m,p.1≠k)\/∃v,(k,v)∈m/\cE (bf l m) k=some v
 | [],l,k=>.inl ⟨rfl,λp I=>by simp at I⟩
 | p::r,l,k=>by
  have e:bf l (p::r)=bf (iZ l p.1 p.2) r:=rfl;rw[e];rcases wY r (iZ l p.1 p.2) k with ⟨h1,h2⟩|⟨v,h1,h2⟩
  .by_cases z:p.1=k
   .refine .inr ⟨p.2,by rw[<- z];exact MW,?_⟩
    rw[h1,qT,if_pos z.symm]
   .refine .inl ⟨by rw[h1,qT,if_neg (λy=>z y.symm)],λq hq=>?_⟩
    rcases NC.mp hq with y|y
    .rw[y];exact z
    .exact h2 q y
  .exact .inr ⟨v,MQ _ h1,h2⟩
theorem Jp{m:List (Sl×α)}(h:LX m)(k:Sl)(v:α):cE (bf [] m) k=some v↔(k,v)∈m:=by
 rcases wY m [] k with ⟨h1,h2⟩|⟨u,h1,h2⟩
 .rw[h1];exact⟨λz=>by simp[cE]at z,λz=>absurd rfl (h2 _ z)⟩
 .rw[h2];constructor
  .intro z;cases z;exact h1
  .intro z;rw[h k u v h1 z]
theorem KD{m:List (Sl×α)}(k:Sl):(cE (bf [] m) k).isSome=true↔∃v,(k,v)∈m:=by
 rcases wY m [] k with ⟨h1,h2⟩|⟨u,h1,h2⟩
 .rw[h1];exact⟨λz=>by simp[cE]at z,λ⟨v,z⟩=>absurd rfl (h2 _ z)⟩
 .rw[h2];exact⟨λ_=>⟨u,h1⟩,λ_=>rfl⟩
theorem Ep{l:List (Sl×α)}{k:Sl}:k∈l.map (·.1)↔(cE l k).isSome=true:=by
 constructor
 .intro h;obtain⟨p,J,rfl⟩:=mem_map.mp h;obtain⟨v,I⟩:=za J;rw[I];rfl
 .intro h;cases e:cE l k with
  | none=>rw[e]at h;cases h
  | some v=>exact mem_map.mpr ⟨_,w8 e,rfl⟩
end
theorem Hh{p:Str}{m:Int}{l j:Nat}{n:Sl}(h:(bJ p m l)[j]?=some n):n=⟨p,m,(j:Int)+1⟩/\j < l:=by
 unfold bJ at h;rw[MZ]at h;have I:j < l:=by
  cases e:(List.range l)[j]? with
  | none=>rw[e]at h;cases h
  | some k=>
   have:=(List.getElem?_eq_some_iff.mp e).1;rwa[List.length_range]at this
 rw[List.getElem?_range I]at h;cases h;exact⟨rfl,I⟩
theorem Gc{J:Type}{p:Str}{m:Int}{l:Nat}{vs:List J}{n:Sl}{v:J}(h:(n,v)∈(bJ p m l).zip vs):∃j:Nat,n=⟨p,m,(j:Int)+1⟩/\vs[j]?=some v/\j < l:=by
 obtain⟨j,I⟩:=List.mem_iff_getElem?.mp h;rw[List.getElem?_zip_eq_some]at I;obtain⟨h1,h2⟩:=Hh I.1;exact⟨j,h1,I.2,h2⟩
theorem Fi{J:Type}{p:Str}{m:Int}{l:Nat}{vs:List J}{n:Sl}{v:J}(h:(v,n)∈vs.zip (bJ p m l)):∃j:Nat,n=⟨p,m,(j:Int)+1⟩/\vs[j]?=some v/\j < l:=by
 obtain⟨j,I⟩:=List.mem_iff_getElem?.mp h;rw[List.getElem?_zip_eq_some]at I;obtain⟨h1,h2⟩:=Hh I.2;exact⟨j,h1,I.1,h2⟩
theorem Ab{p:Str}{m:Int}{l j:Nat}(h:j < l):(⟨p,m,(j:Int)+1⟩:Sl)∈bJ p m l:=mem_map.mpr ⟨j,mem_range.mpr h,rfl⟩
theorem Cw{s:Sk}{n:Sl}{v:Str}(h:(n,v)∈ef s):∃a x,s.act=.put a x/\∃j:Nat,n=⟨s.pen,s.num,(j:Int)+1⟩/\(zE x)[j]?=some v/\n∈made s/\(⟨s.pen,s.num,1⟩:Sl)∈made s:=by
 unfold ef at h;cases e:s.act with
 | put a x=>
  rw[e]at h;obtain⟨j,h1,h2,I⟩:=Gc (show (n,v)∈(bJ s.pen s.num s.act.many).zip (zE x)from h)
  refine⟨a,x,rfl,j,h1,h2,?_,?_⟩
  .rw[h1];exact Ab I
  .have:=Ab (p:=s.pen) (m:=s.num) (j:=0) (Nat.lt_of_le_of_lt (NH _) I);have J:((0:Nat):Int)+1=1:=rfl;rw[J]at this;exact this
 | _=>rw[e]at h;simp at h
theorem C9{s:Sk}{n t:Sl}(h:(n,t)∈gv s):∃ns b,s.act=.move ns b/\∃j:Nat,t=⟨s.pen,s.num,(j:Int)+1⟩/\ns[j]?=some n/\t∈made s:=by
 unfold gv at h;cases e:s.act with
 | move ns b=>
  rw[e]at h;obtain⟨j,h1,h2,I⟩:=Fi (show (n,t)∈ns.zip (bJ s.pen s.num s.act.many)from h)
  refine⟨ns,b,rfl,j,h1,h2,?_⟩;rw[h1];exact Ab I
 | _=>rw[e]at h;simp at h
def xb(o:List Sk):Prop:=∀a∈o,∀b∈o,a.pen=b.pen->a.num=b.num->a=b
section
variable{x:Str}{out sks:List Sk}{names:List Nm}
theorem xp{row:List Sl}{s:Sk}:s∈bF out names row↔(s∈out/\s.nm∈names)/\gF row s=true:=by
 unfold bF;rw[RX,RX,decide_eq_true_eq]
def pQ(w:List Sk)(n:Sl):Sl:=(cE (bc w) n).getD n
def ot(x:Str)(w:List Sk)(n:Sl):Prop:=(cE (aA x w) n).isSome=true/\(cE (aW w) n).isNone=true
theorem BB{w:List Sk}{n:Sl}(h:ot x w n):n∈fi x.length\/∃s∈w,∃a y,s.act=.put a y/\n∈made s:=by
 obtain⟨h,_⟩:=h;unfold aA at h;rw[KD]at h;obtain⟨v,I⟩:=h;rcases Qi.mp I with z|z
 .exact .inl (Qh z).1
 .obtain⟨s,hs,L⟩:=List.mem_flatMap.mp z;obtain⟨a,y,O,_,_,_,J,_⟩:=Cw L;exact .inr ⟨s,hs,a,y,O,J⟩
theorem oG{w:List Sk}{n t:Sl}(h:cE (bc w) n=some t):∃s∈w,∃ns b,s.act=.move ns b/\∃j:Nat,t=⟨s.pen,s.num,(j:Int)+1⟩/\ns[j]?=some n/\t∈made s:=by
 have I:=w8 h;unfold bc at I;rcases uZ I with z|z
 .simp at z
 .obtain⟨s,hs,J⟩:=List.mem_flatMap.mp z;exact⟨s,hs,C9 J⟩
theorem uN{w:List Sk}(pos:∀s∈w,1<=s.num)(un:xb w){n t:Sl}{m:Sl}(h:cE (bc w) n=some t)(W:ot x w m):t≠m:=λz=>by
 obtain⟨s,hs,ns,b,Y,j,U,_,_⟩:=oG h;rcases BB W with y|⟨s',J,a,v,I,L⟩
 .have:=(cI y).2.1;rw[<- z,U]at this;have h1:=pos s hs;have:s.num=0:=this;omega
 .obtain⟨O,p2,_⟩:=cI L;rw[<- z,U]at O p2;have:=un s hs s' J O p2;subst this;rw[Y]at I;cases I
theorem FA{w:List Sk}(pos:∀s∈w,1<=s.num)(un:xb w){n m:Sl}(hn:ot x w n)(hm:ot x w m)(h:pQ w n=pQ w m):n=m:=by
 unfold pQ at h;cases J:cE (bc w) n with
 | none=>
  cases I:cE (bc w) m with
  | none=>rw[J,I]at h;exact h
  | some t=>
   rw[J,I]at h;exact absurd h.symm (uN pos un I hn)
 | some t=>
  cases I:cE (bc w) m with
  | none=>
   rw[J,I]at h;exact absurd h (uN pos un J hm)
  | some Z=>
   rw[J,I]at h;have h:t=Z:=h;obtain⟨s,hs,ns,b,ea,j,Y,ej,_⟩:=oG J;obtain⟨s',U,ns',b',O,j',W,L,_⟩:=oG I;rw[h,W]at Y;injection Y with p1 p2 p3
   have:=un s' U s hs p1 p2;subst this;rw[ea]at O;cases O;have:j=j':=by omega
   subst this;rw[ej]at L;cases L;rfl
theorem iQ{w:List Sk}(pos:∀s∈w,1<=s.num)(un:xb w)(t n:Sl):cE (aY x w) t=some n↔ot x w n/\pQ w n=t:=by
 have mem:∀t n,(t,n)∈((aA x w).filter λp=>(cE (aW w) p.1).isNone).map (λp=>((cE (bc w) p.1).getD p.1,p.1))↔ot x w n/\pQ w n=t:=λt n=>by
  rw[mem_map];constructor
  .rintro⟨p,I,e⟩
   obtain⟨h1,h2⟩:=RX.mp I;injection e with U O
   subst O;exact⟨⟨Ep.mp (mem_map.mpr ⟨p,h1,rfl⟩),h2⟩,U⟩
  .rintro⟨⟨h1,h2⟩,L⟩
   obtain⟨p,I,rfl⟩:=mem_map.mp (Ep.mpr h1);exact⟨p,RX.mpr ⟨I,h2⟩,by rw[<- L];rfl⟩
 unfold aY;rw[Jp (λk v J h h'=>?_),mem];obtain⟨a1,a2⟩:=(mem k v).mp h;obtain⟨Y,W⟩:=(mem k J).mp h';exact FA pos un a1 Y (a2.trans W.symm)
theorem xV(pos:∀s∈out,1<=s.num)(un:xb out)(nd:(cO x.length out).Nodup):((cH x out names).map Seat.name).Nodup:=by
 have L:∀s∈bF out names (cO x.length out),s∈out:=λs hs=>(xp.mp hs).1.1;have pos':∀s∈bF out names (cO x.length out),1<=s.num:=λs hs=>pos s (L s hs);have I:xb (bF out names (cO x.length out)):=λa Z b Y=>un a (L a Z) b (L b Y);unfold cH fG List.Nodup;rw[Nr,O_,List.pairwise_filterMap];refine List.Pairwise.imp ?_ nd;intro a b O p J q hq z;cases W:cE (aY x (bF out names (cO x.length out))) a with
 | none=>rw[W]at J;cases J
 | some n=>
  cases U:cE (aY x (bF out names (cO x.length out))) b with
  | none=>rw[U]at hq;cases hq
  | some m=>
   rw[W]at J;rw[U]at hq;cases J;cases hq;have z:n=m:=z;subst z;exact O (((iQ pos' I _ _).mp W).2.symm.trans ((iQ pos' I _ _).mp U).2)
end
theorem yQ{α:Type}{P:α->Bool}:∀(L:List α) (i j m:Nat),i<=j->(∀t a,L[t]?=some a->(P a=true↔(t < i\/j<=t)))->
  (L.take m).filter P=L.take (min i m) ++ (L.drop j).take (m - j)/\(L.drop m).filter P=(L.drop m).take (i - m) ++ L.drop (max j m)
 | [],i,j,m,_,_=>by simp
 | a::t,i,j,m,hij,F=>by
  have h0:=F 0 a rfl;have Y:∀s b,t[s]?=some b->(P b=true↔(s < i - 1\/j - 1<=s)):=λs b hb=>by
   rw[F (s+1) b hb];omega
  have U:=λZ=>yQ t (i - 1) (j - 1) Z (by omega) Y
  rcases Nat.eq_zero_or_pos j with W|W
  .have hi:i=0:=by omega
   subst W hi;have J:P a=true:=h0.mpr (.inr (le_refl _));cases m with
   | zero=>
    obtain⟨_,I⟩:=U 0;simp at I ⊢;exact⟨J,I⟩
   | succ m=>
    obtain⟨O,I⟩:=U m;simp at O I ⊢;simp only[J,true_and];exact⟨O,I⟩
  .obtain⟨j,rfl⟩:∃j',j=j'+1:=⟨j - 1,by omega⟩
   rcases Nat.eq_zero_or_pos i with hi|hi
   .subst hi;have J:P a=false:=by
     cases e:P a with
     | false=>rfl
     | true=>have:=h0.mp e;omega
    cases m with
    | zero=>
     obtain⟨_,I⟩:=U 0;simp at I ⊢;simp[J,I]
    | succ m=>
     obtain⟨O,I⟩:=U m;simp at O I ⊢;simp[J,O,I,Nat.add_max_add_right]
   .obtain⟨i,rfl⟩:∃i',i=i'+1:=⟨i - 1,by omega⟩
    have J:P a=true:=h0.mpr (.inl (by omega))
    cases m with
    | zero=>
     obtain⟨_,I⟩:=U 0;simp at I ⊢;simp[J,I]
    | succ m=>
     obtain⟨O,I⟩:=U m;simp at O I ⊢;simp[J,O,I,Nat.add_max_add_right,Nat.add_min_add_right]
theorem sY{row:List Sl}{f g:Sl->Option (Sl×Sl)}{P:Sl×Sl->Bool}(h:∀s∈row,f s=(g s).filter P):row.filterMap f=(row.filterMap g).filter P:=by
 induction row with
 | nil=>rfl
 | cons a t J=>
  have e:=h a MW;have I:=J λs hs=>h s (MQ _ hs);rw[NJ,NJ,e,I];cases g a with
  | none=>rfl
  | some p=>
   by_cases z:P p=true
   .rw[Option.filter_some_pos z,List.filter_cons_of_pos z]
   .rw[Option.filter_some_neg (by simpa using z),List.filter_cons_of_neg z]
theorem pw_or{α:Type}{R:α->α->Prop}:∀{l:List α},l.Pairwise R->∀{a b:α},a∈l->b∈l->a≠b->R a b\/R b a
 | [],_,_,_,h,_,_=>by cases h
 | c::t,p,a,b,L,J,ne=>by
  obtain⟨I,p2⟩:=List.pairwise_cons.mp p;rcases NC.mp L with q|q
  .rcases NC.mp J with r|r
   .exact absurd (q.trans r.symm) ne
   .rw[q];exact .inl (I b r)
  .rcases NC.mp J with r|r
   .rw[r];exact .inr (I a q)
   .exact pw_or p2 q r ne
section
variable{x:Str}{out:List Sk}{names:List Nm}{k:Sk}{n0:Sl}
theorem A9(I:k.act=.strike [n0]):made k=[]:=by unfold made;rw[I];rfl
theorem Dv(I:k.act=.strike [n0])(m:Nat):cO m (out ++ [k])=cO m out:=by
 have h:=oR m out k;rw[iW,iW]at h;have q:=BD (rest:=cO m out) (A9 I);rw[<- h]at q;exact q
theorem Gz{ns:List Nm}(h:∀s∈out,s.nm≠k.nm):(out.filter λs=>decide (s.nm∈ns ++ [k.nm]))=out.filter λs=>decide (s.nm∈ns):=
 List.filter_congr λs hs=>by
  by_cases z:s.nm∈ns
  .rw[decide_eq_true z,decide_eq_true (Nc _ z)]
  .rw[decide_eq_false z,decide_eq_false λy=>(Qi.mp y).elim z λy=>h s hs (Pt.mp y)]
theorem Fk(I:k.act=.strike [n0])(h:∀s∈out,s.nm≠k.nm)(row:List Sl):bF (out ++ [k]) (names ++ [k.nm]) row=bF out names row ++ [k]:=by
 unfold bF;rw[NV,NV,Gz h,List.filter_cons_of_pos (by simp),PH,List.filter_cons_of_pos (by unfold gF;rw[A9 I];rfl),PH]
theorem Fl(I:k.nm∉names)(row:List Sl):bF (out ++ [k]) names row=bF out names row:=by
 unfold bF;rw[NV,List.filter_cons_of_neg (by simpa using I),PH,Ng]
variable{w:List Sk}
theorem Ht(I:k.act=.strike [n0]):aA x (w ++ [k])=aA x w:=by
 unfold aA;rw[OS,Pa,PZ,show ef k=[]from by unfold ef;rw[I],Ng,Ng]
theorem JE(I:k.act=.strike [n0]):bc (w ++ [k])=bc w:=by
 unfold bc;rw[OS,Pa,PZ,show gv k=[]from by unfold gv;rw[I],Ng,Ng]
theorem JB(I:k.act=.strike [n0]):eO (w ++ [k])=eO w:=by
 unfold eO;rw[OS,Pa,PZ,show jO k=[]from by unfold jO;rw[I],Ng,Ng]
theorem JO(I:k.act=.strike [n0]):aW (w ++ [k])=iZ (aW w) n0 ():=by
 unfold aW;rw[OS,Pa,PZ,show fL k=[(n0,())]from by unfold fL;rw[I];rfl,Ng,iY]
theorem C8(I:k.act=.strike [n0])(n:Sl):ot x (w ++ [k]) n↔ot x w n/\n≠n0:=by
 unfold ot;rw[Ht I,JO I,qT]
 by_cases z:n=n0
 .rw[if_pos z];simp[z]
 .rw[if_neg z];simp[z]
theorem HP(I:k.act=.strike [n0])(n:Sl):pQ (w ++ [k]) n=pQ w n:=by unfold pQ;rw[JE I]
theorem Km(pos:∀s∈w ++ [k],1<=s.num)(un:xb (w ++ [k]))(L:k.act=.strike [n0])(row:List Sl):fG x (w ++ [k]) row=(fG x w row).filter λp=>decide (p.2≠n0):=by
 have pos':∀s∈w,1<=s.num:=λs hs=>pos s (Nc _ hs);have I:xb w:=λa U b O=>un a (Nc _ U) b (Nc _ O);refine sY λs _=>?_;have key:∀m,cE (aY x (w ++ [k])) s=some m↔cE (aY x w) s=some m/\m≠n0:=λm=>by
  rw[iQ pos un,iQ pos' I,C8 L,HP L];exact⟨λ⟨⟨a,b⟩,c⟩=>⟨⟨a,c⟩,b⟩,λ⟨⟨a,c⟩,b⟩=>⟨⟨a,b⟩,c⟩⟩
 cases e:cE (aY x w) s with
 | none=>
  cases J:cE (aY x (w ++ [k])) s with
  | none=>rfl
  | some m=>rw[((key m).mp J).1]at e;cases e
 | some n=>
  by_cases z:n=n0
  .rw[Option.map_some,Option.filter_some_neg (by simpa using z)]
   cases J:cE (aY x (w ++ [k])) s with
   | none=>rfl
   | some m=>
    obtain⟨a,b⟩:=(key m).mp J;rw[e]at a;cases a;exact absurd z b
  .rw[(key n).mpr ⟨e,z⟩,Option.map_some,Option.filter_some_pos (by simpa using z)]
theorem Dn(pos:∀s∈out ++ [k],1<=s.num)(un:xb (out ++ [k]))(ap:∀s∈out,s.nm≠k.nm)(nd:(cO x.length out).Nodup)(U:k.act=.strike [n0]){e:Nat}{sd:Seat}(J:(cH x out names)[e]?=some sd)(hn:sd.name=n0):
  cH x (out ++ [k]) (names ++ [k.nm])=(cH x out names).take e ++ (cH x out names).drop (e+1):=by
 have hw:∀s∈bF out names (cO x.length out) ++ [k],s∈out ++ [k]:=λs hs=>by
  rcases Qi.mp hs with q|q
  .exact Nc _ (xp.mp q).1.1
  .exact Nl _ q
 have W:=xV (names:=names) (x:=x) (λs hs=>pos s (Nc _ hs)) (λa I b Z=>un a (Nc _ I) b (Nc _ Z)) nd;unfold cH at J W ⊢;rw[Dv U,Fk U ap,Km (λs hs=>pos s (hw s hs)) (λa I b Z=>un a (hw a I) b (hw b Z)) U,Ht U,JB U];generalize bF out names (cO x.length out)=w at *
 rw[<- Qq,<- QV,<- No];congr 1;rw[Nr]at W;rw[MZ]at J;generalize fG x w (cO x.length out)=L at *
 cases O:L[e]? with
 | none=>rw[O]at J;cases J
 | some p=>
  rw[O]at J;cases J;have hp:p.2=n0:=hn;have F:=(yQ (P:=λq:Sl×Sl=>decide (q.2≠n0)) L e (e+1) 0 (P_ e) λt a I=>?_).2
  .rw[Qb,Nat.sub_zero,Nat.max_zero]at F;exact F
  .rw[decide_eq_true_iff];have Y:(L.map λq=>q.2).Nodup:=W;constructor
   .intro z;have:t≠e:=λy=>by rw[y,O]at I;cases I;exact z hp
    omega
   .intro z y;have l1:=(List.getElem?_eq_some_iff.mp I).1;have l2:=(List.getElem?_eq_some_iff.mp O).1;have e1:(L.map λq=>q.2)[t]?=some n0:=by rw[MZ,I];exact congrArg some y
    have e2:(L.map λq=>q.2)[e]?=some n0:=by rw[MZ,O];exact congrArg some hp
    have:t=e:=(List.getElem?_inj (by rw[MH];exact l1) Y).mp (e1.trans e2.symm)
    omega
end
section
variable{P:Pp}{pen:Str}{k:Sk}{out o2:List Sk}{n0:Sl}
theorem qM(ok:P.ok 49)(nx:P.next pen k):∀s∈P.sks,s.nm≠k.nm:=λs hs z=>by
 obtain⟨m,h1,h2⟩:=ok.gm s hs;have I:s.pen=k.pen:=congrArg Prod.fst z;have J:s.num=k.num:=congrArg Prod.snd z;rw[I,nx.1]at h1;have:=Ac h1;have:=nx.2.1;omega
theorem AS(ok:P.ok 49)(nx:P.next pen k)(I:Srt P out):Srt (P.add k) (out ++ [k]):=by
 refine⟨?_,λs=>?_⟩
 .show ((out ++ [k]).map Sk.rw).Pairwise _;rw[No,List.pairwise_append];refine⟨I.1,List.pairwise_singleton _ _,λa U b O=>?_⟩;obtain⟨s,hs,rfl⟩:=mem_map.mp U;rw[M5,Pn,Pt]at O;subst O;have t:=(ok.sk s ((I.2 s).mp hs)).2.2;have W:=nx.2.2;show Rw.lt s.rw k.rw=true
  unfold Rw.lt;have L:s.rw.time=s.time:=rfl;have J:k.rw.time=k.time:=rfl;rw[if_neg (by rw[L,J];omega)]
  exact decide_eq_true (by rw[L,J];omega)
 .show s∈out ++ [k]↔s∈P.sks ++ [k];rw[Qi,Qi,I.2 s]
theorem E2(ok:P.ok 49)(nx:P.next pen k){v:Str}{s:Sk}(hs:s∈P.sks):cx (aT P.st k.nm.key (.str v)) s.nm.key=cx P.st s.nm.key:=by
 rw[cw,if_neg λz=>qM ok nx s hs ?_];have L:[Sum.inr s.pen,Sum.inl s.num]=[Sum.inr k.pen,Sum.inl k.num]:=z;injection L with J I
 injection I with I _
 injection J with J
 injection I with I
 exact Prod.ext J I
theorem Fn(ok:P.ok 49)(nx:P.next pen k):(P.add k).unw=P.unw ++ [k.nm]:=by
 show ((P.sks ++ [k]).filter λs=>!cA (P.add k) s.nm).map Sk.nm=_
 have J:(P.sks.filter λs=>!cA (P.add k) s.nm)=P.sks.filter λs=>!cA P s.nm:=List.filter_congr λs hs=>by
  show (!eK ((cx (aT P.st k.nm.key _) s.nm.key).getD .non) _)=(!eK ((cx P.st s.nm.key).getD .non) _)
  rw[E2 ok nx hs]
 have I:(!cA (P.add k) k.nm)=true:=by
  show (!eK ((cx (aT P.st k.nm.key (.str (MI "waits"))) k.nm.key).getD .non) _)=true
  rw[cw,if_pos rfl,Option.getD_some,ml (by decide +kernel)]
  rfl
 rw[NV,J,List.filter_cons_of_pos (p:=λs:Sk=>!cA (P.add k) s.nm) (a:=k) I,PH,No];rfl
theorem C1(ok:P.ok 49)(nx:P.next pen k):((P.add k).wipe k.nm.key).unw=P.unw:=by
 show ((P.sks ++ [k]).filter λs=>!cA ((P.add k).wipe k.nm.key) s.nm).map Sk.nm=_
 have U:(P.sks.filter λs=>!cA ((P.add k).wipe k.nm.key) s.nm)=P.sks.filter λs=>!cA P s.nm:=List.filter_congr λs hs=>by
  show (!eK ((cx (aT (aT P.st k.nm.key _) k.nm.key _) s.nm.key).getD .non) _)=(!eK ((cx P.st s.nm.key).getD .non) _)
  have:=qM ok nx s hs;rw[cw,if_neg λz=>?_,E2 ok nx hs];have L:[Sum.inr s.pen,Sum.inl s.num]=[Sum.inr k.pen,Sum.inl k.num]:=z;injection L with J I
  injection I with I _
  injection J with J
  injection I with I
  exact this (Prod.ext J I)
 have O:¬ (!cA ((P.add k).wipe k.nm.key) k.nm)=true:=by
  show ¬ (!eK ((cx (aT (aT P.st k.nm.key (.str (MI "waits"))) k.nm.key (.str (MI "wiped"))) k.nm.key).getD .non) _)=true
  rw[cw,if_pos rfl,Option.getD_some,bo];decide
 rw[NV,U,List.filter_cons_of_neg (p:=λs:Sk=>!cA ((P.add k).wipe k.nm.key) s.nm) (a:=k) O,PH,Ng];rfl
theorem AQ{n:Nat}(ok:P.ok n)(I:Srt P out):xb out:=λa L b J h1 h2=>by
 have ap:=ok.ap;rw[O_]at ap
 by_cases z:a=b
 .exact z
 .rcases pw_or ap ((I.2 a).mp L) ((I.2 b).mp J) z with q|q
  .exact absurd ⟨h1,h2⟩ q
  .exact absurd ⟨h1.symm,h2.symm⟩ q
theorem HS{n:Nat}(ok:P.ok n)(I:Srt P out)(m:Nat):(cO m out).Nodup:=by
 have ap:(out.map Sk.rw).Pairwise g6:=vH (λa U b O h1 h2=>by
  obtain⟨a,L,rfl⟩:=mem_map.mp U;obtain⟨b,J,rfl⟩:=mem_map.mp O;rw[AQ ok I a L b J h1 h2]) I.1
 have h1:=uV (n:=m) out [] _ (sR m) (by rw[cF,Oj];exact⟨λz=>by have:=(cI z).2.2;exact absurd this (by decide),dU _ _ _⟩) (by simpa using ap) λs hs=>(ok.sk s ((I.2 s).mp hs)).1
 have h2:(lh m out).Nodup:=h1;rw[iW]at h2;exact (Oj.mp h2).2
theorem Al(ok:P.ok 49)(nx:P.next pen k)(U:k.act=.strike [n0])(L:Srt P out)(I:Srt (P.add k) o2){e:Nat}{O:Seat}(W:(P.seats out)[e]?=some O)(hn:O.name=n0):(P.add k).seats o2=(P.seats out).take e ++ (P.seats out).drop (e+1):=by
 have es:=srt_uniq I (AS ok nx L);subst es;have J:(P.add k).ok 50:=z9 ok nx (by unfold Sk.wd;rw[U];exact (by decide:1<=60))
 show cH P.old (out ++ [k]) (P.add k).unw=_
 rw[Fn ok nx];exact Dn (λs hs=>(J.sk s ((I.2 s).mp hs)).1) (AQ J I) (λs hs=>qM ok nx s ((L.2 s).mp hs)) (HS ok L _) U W hn
theorem zq(ok:P.ok 49)(nx:P.next pen k)(O:k.act=.strike [n0])(J:Srt P out)(I:Srt ((P.add k).wipe k.nm.key) o2):((P.add k).wipe k.nm.key).seats o2=P.seats out:=by
 have es:=srt_uniq (P:=P.add k) I (AS ok nx J);subst es;show cH P.old (out ++ [k]) ((P.add k).wipe k.nm.key).unw=cH P.old out P.unw
 have L:k.nm∉P.unw:=λz=>by
  unfold Pp.unw at z;obtain⟨s,hs,e⟩:=mem_map.mp z;exact qM ok nx s (RX.mp hs).1 e
 unfold cH;rw[C1 ok nx,Dv O,Fl L]
end
theorem Ct{k:Nat}{g:tx}{te:bb}{σ:eV}{ds:List D}{G1:Gp}{Q:mf}(R:Str->Prop)(Y:ds.length<=MN)
  (Z:∀d∈ds,∀P:mf,(∀w,R w->P (.str w) G1)->g d (List.replicate k none ++ σ) G1 λJ G2=>(k<=J.length/\J.drop k=σ)/\te J G2 P) (hq:∀ps:List Str,ps.length=ds.length->(∀w∈ps,R w)->Q (.fl (ps.map D.str)) G1):tJ k g ji te σ ds G1 Q:=by
 refine⟨Y,λi I G'=>G'=G1/\∃ps:List Str,ps.length=i/\I=ps.map D.str/\∀w∈ps,R w,⟨rfl,[],rfl,rfl,by simp⟩,λi d I G' hd ⟨O,ps,h1,h2,U⟩=>?_,λI G' ⟨O,ps,h1,h2,U⟩=>?_⟩
 .subst O;exact Z d (M_ hd) (λy G4=>G4=G'/\∃ps:List Str,ps.length=i+1/\I ++ [val y]=ps.map D.str/\∀w∈ps,R w) λw hw=>⟨rfl,ps ++ [w],by rw[Nt,h1];rfl,by rw[h2,No];rfl,λW L=>by
   rcases Qi.mp L with z|z
   .exact U W z
   .rw[Pt.mp z];exact hw⟩
 .subst O h2;exact hq ps h1 U
theorem u5:∀ps:List Str,(∀w∈ps,∃c:Nat,w=⟨#[c]⟩)->∃I:List Nat,I.length=ps.length/\ps=I.map λc=>(⟨#[c]⟩:Str)
 | [],_=>⟨[],rfl,rfl⟩
 | w::r,h=>by
  obtain⟨c,rfl⟩:=h w MW;obtain⟨I,l,e⟩:=u5 r λw hw=>h w (MQ _ hw);exact⟨c::I,by simp[l],by rw[e];rfl⟩
theorem Er(ps:List Str)(h:∀w∈ps,∃c:Nat,w=⟨#[c]⟩):(ps.map (·.length)).sum+ps.length*(MI "").length=ps.length/\(QX (MI "") ps).length=ps.length:=by
 obtain⟨I,L,rfl⟩:=u5 ps h;have J:(((I.map λc=>(⟨#[c]⟩:Str)).map (·.length)).sum)=I.length:=by
  rw[Nr];have:((λx:Str=>x.length) ∘ λc:Nat=>(⟨#[c]⟩:Str))=λ_=>1:=by funext k;rfl
  rw[this,List.map_const'];simp
 have h0:(MI "").length=0:=by decide +kernel
 rw[J,h0,MH,Nat.mul_zero,GD,Ak,E4];exact⟨rfl,rfl⟩
theorem JQ(s:Sk)(n:Nat):pl (n+5) s.d:=by
 have sl:∀ns:List Sl,pl (n+3) (.tup (ns.map Sl.d)):=λns=>Di ns (n+1);have st:∀(m:Nat) (x:Str),pl m (.str x):=λm x=>by cases m<;>trivial
 have it:∀(m:Nat) (x:Int),pl m (.int x):=λm x=>by cases m<;>trivial
 obtain⟨pen,num,time,act⟩:=s;intro d hd;simp only[NC,NP,or_false]at hd;rcases hd with rfl|rfl|rfl
 .intro d hd;simp only[NC,NP,or_false]at hd;rcases hd with rfl|rfl
  .exact st _ _
  .exact it _ _
 .exact it _ _
 .cases act with
  | put a x=>
   intro d hd;simp only[NC,NP,or_false]at hd;rcases hd with rfl|rfl|rfl
   .exact st _ _
   .exact mR a (n+2)
   .exact st _ _
  | strike ns=>
   intro d hd;simp only[NC,NP,or_false]at hd;rcases hd with rfl|rfl
   .exact st _ _
   .exact sl ns
  | dress ns w=>
   intro d hd;simp only[NC,NP,or_false]at hd;rcases hd with rfl|rfl|rfl
   .exact st _ _
   .exact sl ns
   .exact st _ _
  | move ns a=>
   intro d hd;simp only[NC,NP,or_false]at hd;rcases hd with rfl|rfl|rfl
   .exact st _ _
   .exact sl ns
   .exact mR a (n+2)
theorem HN(ss:List Sk)(n:Nat):∀d∈ss.map Sk.d,pl (n+5) d:=λd hd=>by
 obtain⟨s,_,rfl⟩:=mem_map.mp hd;exact JQ s n
theorem il(l:List Seat):pl 8 (.lst (l.map Seat.d3)):=λd hd=>by
 obtain⟨s,_,rfl⟩:=mem_map.mp hd;intro e I;simp only[NC,NP,or_false]at I;rcases I with rfl|rfl|rfl
 .exact mR _ 5
 .exact trivial
 .exact trivial
theorem fZ.none{G G':Gp}{a:MF}(e:fZ G G')(h:G' a=none):G a=none:=by
 cases q:G a with
 | none=>rfl
 | some o=>rw[e _ _ q]at h;cases h
theorem FD{t:ou}{a I:bH}{E:Ends3}{σ:eV}{G:Gp}{b:Bool}(J:∀K:Bool->Gp->Prop,(∀G',fZ G G'->K b G')->t σ G K)(h:∀G',fZ G G'->(if b=true then a E σ G' else I E σ G')):kS t a I E σ G:=J _ h
theorem rJ(zF:Zz)(hw:HW):bE (cN zF hw) (lU zF hw) Ao0:=by
 intro ds G Q h;unfold cN at h;split at h
 .rename_i c m;obtain⟨⟨W,U⟩,h⟩:=h;have hs:=aj;have Y:(MI "abc\nx\n").length=6:=by decide +kernel
  unfold lU;rw?;refine⟨⟨by omega,by omega⟩,Ct (λw=>∃c:Nat,w=⟨#[c]⟩) (by rw[dB];omega) (λd hd P L=>?_) λps J I=>?_⟩
  .obtain⟨i,hi⟩:=List.mem_iff_getElem?.mp hd;obtain⟨hi,rfl⟩:=rX hi;rw?;have O:=qe (a:=drawn c (40+(0+(i:Int)))) (b:=6) (by decide)
   refine⟨by simp,by omega,by decide,by omega,?_⟩
   rw[Dg O.1 (by omega)]
   exact L _ ⟨_,rfl⟩
  .obtain⟨j1,Z⟩:=Er ps I;rw[dB]at J;exact⟨ps,rfl,by omega,h _ (by omega)⟩
 .exact h.elim
theorem rK(zF:Zz)(hw:HW):bE (dm zF hw) (lV zF hw) Al0:=by
 intro ds G Q h;unfold dm at h;split at h
 .rename_i p pen c;obtain⟨P,d,s,g,⟨W,ok⟩,h⟩:=h;have hs:=aj;have U:P.ok 50:=ok.le (by decide)
  have g0:=W.1;unfold lV;rw[ag];rw?;refine⟨P,d,s,g,⟨W,U⟩,λout G1 hE O=>?_⟩;have sb:=gO U O;have J:=W.ext hE;have g1:=J.1;have fin:∀k G',AG [p,d,s,g] G1 G'->gZ zF.Z6 hw G' p d s g (P.add k)->P.next pen k->k.wd<=60->Q (.tup [.str pen,.int (P.num pen)]) G':=λk G' of pt nx wd=>h k G' nx wd (λx u Z hG=>of x u Z (hE x u hG)) pt;clear h W g0;rw[MH];generalize Y:((P.seats out).length:Int)=M at *
  rw[ag];rw?;refine⟨by decide,by decide,?_⟩
  generalize drawn c 3 % 4=L;rw[ag];rw?;refine⟨by decide,by omega,?_⟩
  have a0:=Int.emod_nonneg (drawn c 4) (b:=M+1) (by omega)
  have a1:=Int.emod_lt_of_pos (drawn c 4) (b:=M+1) (by omega)
  generalize drawn c 4 % (M+1)=at_ at *
  rw[ag];refine bB (eK (.int L) (.int 0) || eK (.int M) (.int 0)) (C7 _ _ (λK hK=>by walk_at "st") λ_ K hK=>by walk_at "st") (Ca (λ_=>?_) λe0=>?_)
  .rw?;exact⟨P,d,s,g,⟨J,ok⟩,λo2 I=>by rw[srt_uniq I O,Y];exact⟨by omega,λa G' of pt=>fin _ G' of pt ⟨rfl,rfl,rfl⟩ (by show (MI "\n").length<=60;decide +kernel)⟩⟩
  simp only[cy];rw[ag];refine bB (eK (.int L) (.int 1)) (λK hK=>by walk_at "st") (Ca (λ_=>?_) λ_=>?_)
  .rw?;exact⟨by decide,by decide,by omega,λx Z=>⟨P,d,s,g,⟨J,ok⟩,λo2 I=>by rw[srt_uniq I O,Y];exact⟨by omega,λa G' of pt=>fin _ G' of pt ⟨rfl,rfl,rfl⟩ (by show x.length<=60;omega)⟩⟩⟩
  simp only[cy];have m0:M≠0:=λz=>by rw[z,bo,Bool.or_true]at e0;cases e0
  rw[ag];rw?;refine⟨by omega,?_⟩
  have b0:=Int.emod_nonneg at_ (b:=M) (by omega)
  have b1:=Int.emod_lt_of_pos at_ (b:=M) (by omega)
  generalize at_ % M=i at *
  rw[ag];rw?;have k1:0 < (if M - i < 6 then M - i else 6)/\(if M - i < 6 then M - i else 6)<=M - i/\(if M - i < 6 then M - i else 6)<=6:=by split<;>omega
  generalize (if M - i < 6 then M - i else 6)=K at *
  refine⟨by decide,k1.1,?_⟩
  have r0:=Int.emod_nonneg (drawn c 5) (b:=K) (by omega)
  have r1:=Int.emod_lt_of_pos (drawn c 5) (b:=K) (by omega)
  generalize drawn c 5 % K=r at *
  have Tw:(((((P.seats out).drop i.toNat).take (i+1+r - i).toNat).map Seat.name)).length<=60:=by
   rw[MH,NI];omega
  rw[ag];refine bB (eK (.int L) (.int 2)) (λK hK=>by walk_at "st") (Ca (λ_=>?_) λ_=>?_)
  .rw?;exact⟨P,d,s,g,⟨J,ok⟩,λo2 I=>by rw[srt_uniq I O,Y];exact⟨by omega,λG' of pt=>fin _ G' of pt ⟨rfl,rfl,rfl⟩ Tw⟩⟩
  simp only[cy];rw?;have q0:=Int.emod_nonneg (drawn c 6) (b:=M+1) (by omega)
  have q1:=Int.emod_lt_of_pos (drawn c 6) (b:=M+1) (by omega)
  exact⟨by decide,by omega,P,d,s,g,⟨J,ok⟩,λo2 I=>by rw[srt_uniq I O,Y];exact⟨by omega,λa G' of pt=>fin _ G' of pt ⟨rfl,rfl,rfl⟩ Tw⟩⟩
 .exact h.elim
theorem oV(zF:Zz)(hw:HW)(Sm Sj Sn So:MF):∀ds G Q,cD zF hw ds G Q->js zF hw Sm Sj Sn So { nx:=λ_ G'=>Q .non G',rt:=Q } (cZ An0 ds) G:=by
 intro ds G Q h;unfold cD at h;split at h
 .rename_i p pen n;obtain⟨P,d,s,g,⟨U,ok,Z⟩,h⟩:=h;have hs:=aj;have I:P.ok 50:=ok.le (by decide)
  have g0:=U.1;unfold js;rw[ag];rw?;refine⟨P,d,s,g,⟨U,I.ls⟩,?_⟩;rw[ag];rw?;refine⟨P,d,s,g,⟨U,I⟩,λout G1 hE so=>?_⟩;have L:=U.ext hE;have g1:=L.1;rw[ag];unfold HQ ik Ends3.un;rw?;refine⟨P,d,s,g,⟨L,ok⟩,λo2 Y=>⟨Z o2 Y,λG2 O=>⟨n,rfl,λx hx=>?_⟩⟩⟩;have J:=L.ext O;have g2:=J.1;have p1:pl 8 (.lst (P.sks.map Sk.d)):=HN P.sks 2;have p2:=il (P.seats out);rw[ag];rw?;refine⟨P,d,s,g,⟨J,I.ls⟩,p1,p1,?_⟩;rw[bo,if_pos rfl];refine⟨P,d,s,g,⟨J,I⟩,λo3 G3 hE3 W=>?_⟩;rw[srt_uniq W so,bo];exact⟨p2,p2,h _ ((hE.trans O).trans hE3)⟩
 .exact h.elim
theorem Jc(l:List Nat)(a b:Option Int):(⟨(mK l a b).toArray⟩:Str).length<=l.length:=by
 show (mK l a b).toArray.size<=l.length
 rw[M1];exact kH l a b
theorem Gd{P:Pp}(k:Sk)(pen:Str):(P.add k).num pen=if pen=k.pen then k.num+1 else P.num pen:=by
 unfold Pp.num;show (match cx (aT P.gr (.inr k.pen) (.int k.num)) (.inr pen) with|some (.int m)=>m+1|_=>1)=_
 rw[cw]
 by_cases h:pen=k.pen
 .rw[if_pos h,if_pos (by rw[h])]
 .rw[if_neg h,if_neg (λe=>h (by injection e))]
  all_goals
   cases cx P.gr (.inr pen) with
   | none=>rfl
   | some v=>cases v<;>rfl
theorem AO{P:Pp}{n:Nat}{key:List aE}{w:Str}(ok:P.ok n)(h:cx P.st key=some (.str w)):(P.wipe key).ok n:=
 ⟨ok.lo,ok.ls,by show (aT P.st key _).length<=n;rw[j8,if_pos (by rw[h];rfl)];exact ok.lt,ok.lg,ok.sk,ok.ap,λs hs=>by
  show ∃w:Str,cx (aT P.st key _) s.nm.key=some (.str w)
  rw[cw];split
  .exact⟨_,rfl⟩
  .exact ok.kn s hs,ok.gi,ok.gm⟩
theorem mj(b:Bool):∀(es:List Bool) (n:Nat),aI n (es ++ [b])=aI n es ++ (if b=true then [n+es.length]else [])
 | [],n=>by cases b<;>rfl
 | true::t,n=>by
  show n::aI (n+1) (t ++ [b])=n::(aI (n+1) t ++ _)
  rw[mj b t (n+1),MU,Nat.add_assoc,Nat.add_comm 1]
 | false::t,n=>by
  show aI (n+1) (t ++ [b])=aI (n+1) t ++ _
  rw[mj b t (n+1),MU,Nat.add_assoc,Nat.add_comm 1]
theorem qy(zF:Zz)(hw:HW):bE (cT zF hw) (j5 zF hw) Ad0:=by
 intro ds G Q h;unfold cT at h;split at h
 .rename_i p pen n q wb;obtain⟨P,d,s,g,cnt,⟨pa,ok,Z,qg,cl,ca⟩,h⟩:=h;have hs:=aj;have ok':P.ok 50:=ok.le (by decide)
  have g0:=pa.1;unfold j5;rw[ag];rw?;refine⟨P,d,s,g,⟨pa,ok'⟩,λout G1 hE so=>?_⟩;have sb:=gO ok' so;have I:=pa.ext hE;have g1:=I.1;have gq1:=hE _ _ Z;rw[ag];rw?;rw[MH,Int.toNat_natCast];have hp:q≠p:=λz=>by rw[z,g0]at Z;cases Z
  have hd':q≠d:=λz=>by rw[z,pa.2.1]at Z;cases Z
  have hs':q≠s:=λz=>by rw[z,pa.2.2.1]at Z;cases Z
  have hq:q∉[p,d,s,g]:=by simp only[NC,NP,or_false,not_or];exact⟨hp,hd',hs',qg⟩
  have tl:∀i:Nat,∀st:Seat,(P.seats out)[i]?=some st->(aI 0 ((((P.seats out).map Seat.rr).map Rr.e).take (i+1))).map (λ(k:Nat)=>D.int k)=(aI 0 ((((P.seats out).map Seat.rr).map Rr.e).take i)).map (λ(k:Nat)=>D.int k) ++ (if eK (.str st.sign) (.str (MI "\n"))=true then [D.int (i:Int)]else []):=λi st hi=>by
   have li:i < (((P.seats out).map Seat.rr).map Rr.e).length:=by rw[MH,MH];exact (List.getElem?_eq_some_iff.mp hi).1
   have ei:(((P.seats out).map Seat.rr).map Rr.e)[i]?=some (eK (.str st.sign) (.str (MI "\n"))):=by rw[MZ,MZ,hi];rfl
   rw[Nz,ei,Option.toList_some,mj,No,NI,Nat.min_eq_left (le_of_lt li)];congr 1;split<;>simp
  refine⟨⟨by omega,by omega⟩,by rw[dB];omega,λi Y G'=>Y=(aI 0 ((((P.seats out).map Seat.rr).map Rr.e).take i)).map (λ(k:Nat)=>D.int k)/\G'=G1,⟨rfl,rfl⟩,?_,?_⟩
  .rintro i dd Y G' hd ⟨rfl,rfl⟩
   obtain⟨hi,rfl⟩:=rX hd;have gi:=MO hi;have e1:=kK (ds:=(P.seats out).map Seat.d3) (i:=0+(i:Int)) (by omega) (by rw[MH];omega)
   have e2:=tl i _ gi;dsimp only;rw[e2];generalize (aI 0 ((((P.seats out).map Seat.rr).map Rr.e).take i)).map (λ(k:Nat)=>D.int k)=Y at *
   generalize hst:(P.seats out)[i]=st at *
   have e3:lD ((P.seats out).map Seat.d3) (0+(i:Int))=some (.tup [st.name.d,.str st.sign,.str st.word]):=by
    rw[e1,O2,<- hst];simp[Seat.d3]
   clear e1 e2 tl hd;walk_at "st";refine⟨rfl,?_⟩;split<;>rename_i z
   .rw[Int.zero_add]
   .rw[Ng]
  .rintro Y G' ⟨rfl,rfl⟩
   rw[dB,List.take_of_length_le (by simp)]
   have fold:aI 0 (((P.seats out).map Seat.rr).map Rr.e)=de (P.seats out):=rfl;rw[fold];clear tl;have lE:((de (P.seats out)).map λ(k:Nat)=>D.int k).length=(de (P.seats out)).length:=MH _;rw[ag]
   by_cases U:0<=n/\n < ((de (P.seats out)).length:Int)
   .refine bB false (λK hK=>?_) (iteF ?_)
    .walk_at "st";exact hK
    simp only[cy];rw[ag];rw?;refine⟨P,d,s,g,⟨I,ok⟩,λo2 so2=>?_⟩;rw[srt_uniq so2 so];refine⟨U.2,λG2 sd hsd of pt=>?_⟩;have gq2:=of q _ hq gq1;rw[ag];rw?;refine⟨by omega,?_⟩
    rw[Int.sub_add_cancel];generalize hk:(⟨pen,P.num pen,P.time+1,.strike [sd.name]⟩:Sk)=k at *
    have nx:P.next pen k:=by rw[<- hk];exact⟨rfl,rfl,rfl⟩
    have ea:k.act=.strike [sd.name]:=by rw[<- hk]
    have kn:k.nm=(pen,P.num pen):=by rw[<- hk];rfl
    have wd:k.wd<=60:=by unfold Sk.wd;rw[ea];exact (by decide:1<=60)
    have ok2:(P.add k).ok 50:=z9 ok nx wd;clear hk;have O:gZ zF.Z6 hw (gset G2 q (.dK (aT cnt (.inr pen) (.int (P.num pen))))) p d s g (P.add k):=⟨(ai hp.symm).trans pt.1,(ai hd'.symm).trans pt.2.1,(ai hs'.symm).trans pt.2.2.1,(ai qg.symm).trans pt.2.2.2⟩;have gq3:gset G2 q (.dK (aT cnt (.inr pen) (.int (P.num pen)))) q=some (.dK (aT cnt (.inr pen) (.int (P.num pen)))):=av;have ca3:cx (aT cnt (.inr pen) (.int (P.num pen))) (.inr pen)=some (.int (P.num pen)):=by rw[cw,if_pos rfl]
    have J:cx (P.add k).st [.inr pen,.inl (P.num pen)]=some (.str (MI "waits")):=by
     show cx (aT P.st k.nm.key _) _=_
     rw[kn,cw];exact if_pos rfl
    have fin:∀(G':Gp) (P':Pp),gZ zF.Z6 hw G' p d s g P'->G' q=some (.dK (aT cnt (.inr pen) (.int (P.num pen))))->(P'=P.add k\/P'=(P.add k).wipe k.nm.key)->Q (.bl true) G':=λG' P' a b c=>h G' P' _ a b (.inr ⟨k,nx,wd,c,rfl⟩);generalize gset G2 q (.dK (aT cnt (.inr pen) (.int (P.num pen))))=G3 at *
    generalize aT cnt (.inr pen) (.int (P.num pen))=TM at *
    have g3:=O.1;clear h ca of pt Z gq1 gq2 g0 g1 pa I hE;have hel:(de (P.seats out)).getD n.toNat 0 < (P.seats out).length:=(List.getElem?_eq_some_iff.mp hsd).1;have at1:lD ((de (P.seats out)).map λ(k:Nat)=>D.int k) n=some (.int (((de (P.seats out)).getD n.toNat 0:Nat):Int)):=by
     rw[kK U.1 (by omega),O2,MX,MO (by omega)]
     rfl
    generalize (de (P.seats out)).getD n.toNat 0=e at *
    rw[ag];refine bB false (C7 false false (λK hK=>?_) λ_ K hK=>?_) (iteF ?_)
    .walk_at "st";refine⟨by omega,λd hd=>?_⟩
     rcases NC.mp hd with rfl|hd
     .trivial
     .rw[Pt.mp hd];trivial
    .walk_at "st";exact⟨P.add k,d,s,g,_,⟨O,J⟩,by rw[bo];exact hK⟩
    simp only[cy];rw[ag];refine FD (b:=false) (λK hK=>?_) λG4 W=>iteF ?_
    .walk_at "st";refine⟨P.add k,d,s,g,⟨O,ok2⟩,λo3 G4 W so3=>?_⟩;have c1:cutD ((P.seats out).map Seat.d3) none (some (e:Int))=((P.seats out).take e).map Seat.d3:=by rw[wQ (by omega),Int.toNat_natCast,Qq]
     have c2:cutD ((P.seats out).map Seat.d3) (some ((e:Int)+1)) none=((P.seats out).drop (e+1)).map Seat.d3:=by rw[Cq (by omega),show ((e:Int)+1).toNat=e+1 from by omega,QV]
     rw[Al ok nx ea so so3 hsd rfl,c1,c2,<- No,bo];exact⟨by simp only[MH,NI,O1];omega,il _,il _,hK G4 W⟩
    simp only[cy];have pt4:=O.ext W;have gq4:=W _ _ gq3;have g4:=pt4.1;rw[ag];refine bB wb (λK hK=>by walk_at "st") ?_
    cases wb with
    | false=>
     refine iteF ?_;simp only[cy];rw?;exact fin G4 _ pt4 gq4 (.inl rfl)
    | true=>
     refine iteT ?_;rw[ag];rw?;have kk:([.inr pen,.inl (P.num pen)]:List aE)=k.nm.key:=by rw[kn];rfl
     refine⟨P.add k,d,s,g,⟨pt4,J,ok2.lt⟩,λG5 of5 L=>?_⟩;rw[kk]at L J;rw[L.1];refine⟨⟨rfl,rfl⟩,(P.add k).wipe k.nm.key,d,s,g,⟨L,AO ok2 J⟩,λo5 G6 hE6 so5=>?_⟩;rw[zq ok nx ea so so5,bo];exact⟨il _,il _,fin G6 _ (L.ext hE6) (hE6 _ _ (of5 q _ hq gq4)) (.inr rfl)⟩
   .refine bB true (λK hK=>?_) (iteT ?_)
    .walk_at "st";split
     .rename_i z;rw[decide_eq_false λy=>U ⟨z,y⟩];exact hK
     .trivial
    rw?;exact⟨P,d,s,g,⟨I,ok,λo2 so2=>by rw[srt_uniq so2 so];exact U⟩,λG' hE'=>h G' P cnt (I.ext hE') (hE' _ _ gq1) (.inl ⟨rfl,rfl⟩)⟩
 .exact h.elim
theorem uJ{P P':Pp}{pen:Str}{cnt I:List (aE×D)}{i:Nat}{pens:List Str}(ok:P.ok i)(t:Turn P pen cnt P' I)(cl:cnt.length<=3)(ca:∀w∈pens,cx cnt (.inr w)=some (.int (P.num w - 1)))(U:pen∈pens):
  P'.ok (i+1)/\I.length<=3/\∀w∈pens,cx I (.inr w)=some (.int (P'.num w - 1)):=by
 rcases t with ⟨rfl,rfl⟩|⟨k,nx,wd,O,rfl⟩
 .exact⟨ok.le (P_ i),cl,ca⟩
 .have J:=z9 ok nx wd;have num:∀w,P'.num w=(P.add k).num w:=λw=>by rcases O with rfl|rfl<;>rfl
  refine⟨?_,by rw[j8,if_pos (by rw[ca pen U];rfl)];exact cl,λw L=>?_⟩
  .rcases O with rfl|rfl
   .exact J
   .exact AO (w:=MI "waits") J (by show cx (aT P.st k.nm.key _) k.nm.key=_;rw[cw];exact if_pos rfl)
  .rw[num,Gd,cw]
   by_cases e:w=pen
   .subst e;rw[if_pos rfl,if_pos nx.1.symm,nx.2.1,Int.add_sub_cancel]
   .rw[if_neg (λz=>e (Sum.inr.inj z)),if_neg (λz=>e (z.trans nx.1)),ca w L]
theorem FF(zF:Zz)(hw:HW):bE (vJ zF hw) (DA zF hw) Ac0:=by
 intro ds G Q h;unfold vJ at h;split at h
 .obtain⟨ns,rfl,hn,h⟩:=h;have hs:=aj;unfold DA;rw[ag];rw?;refine⟨ns.take 1,by rw[wQ (by decide),<- Qq];rfl,?_⟩
  generalize (ns.take 1).sum=c;rw[ag];rw?;refine⟨⟨by decide,by decide⟩,by decide,by omega,λx hx p hp d s g G1 of U=>?_⟩
  have g1:=U.1;rw[ag];rw?;have l1:(MI "ann").length=3:=by decide +kernel
  have l2:(MI "bob").length=3:=by decide +kernel
  have l3:(⟨(mK (MI "bob").cps.toList none (some (1+c % 3))).toArray⟩:Str).length<=3:=le_trans (Jc _ _ _) (by rw[Array.length_toList];exact PY l2)
  refine⟨by decide,by omega,by omega,by omega,?_⟩
  generalize MI "ann" ++ (⟨(mK (MI "bob").cps.toList none (some (1+c % 3))).toArray⟩:Str)=w3;have lp:[MI "ann",MI "bob",w3].length=3:=rfl;have ep:[D.str (MI "ann"),D.str (MI "bob"),D.str w3]=[MI "ann",MI "bob",w3].map D.str:=rfl;rw[ep];generalize [MI "ann",MI "bob",w3]=pens at lp ⊢;clear ep l1 l2 l3;rw[ag];rw?;intro q hq0;have qn:∀a o,G1 a=some o->a≠q:=λa o e z=>by rw[z,hq0]at e;cases e
  have paq:∀cnt,gZ zF.Z6 hw (gset G1 q (.dK cnt)) p d s g ⟨x,[],[],[],0⟩:=λcnt=>⟨(ai (qn _ _ U.1)).trans U.1,(ai (qn _ _ U.2.1)).trans U.2.1,(ai (qn _ _ U.2.2.1)).trans U.2.2.1,(ai (qn _ _ U.2.2.2)).trans U.2.2.2⟩;have qg:q≠g:=(qn _ _ U.2.2.2).symm;rw[ag];rw?;refine⟨λi J G'=>∃(u:Option D) (cnt:List (aE×D)),J=[some (.lst (ns.map D.int)),some (.int c),some (.ref p),some (.lst (pens.map D.str)),some (.ref q),u,none,none]/\G'=gset G1 q (.dK cnt)/\cnt.length<=i/\∀j < i,∀w,pens[j]?=some w->cx cnt (.inr w)=some (.int 0),⟨none,[],rfl,rfl,le_refl _,λj hj=>absurd hj (Nat.not_lt_zero j)⟩,?_,?_⟩
  .rintro i dd J G' hd ⟨u,cnt,rfl,rfl,cl,ca⟩
   rw[MZ]at hd;cases O:pens[i]? with
   | none=>rw[O]at hd;cases hd
   | some w=>
    rw[O]at hd;cases hd;have hi:i < 3:=by rw[<- lp];exact (List.getElem?_eq_some_iff.mp O).1
    have W:gset G1 q (.dK cnt) q=some (.dK cnt):=av;rw?;refine⟨by omega,_,_,rfl,rfl,by rw[j8];split<;>omega,λj hj w' hw'=>?_⟩
    rw[cw];split
    .rfl
    .rename_i ne;rcases Nat.lt_succ_iff_lt_or_eq.mp hj with z|z
     .exact ca j z w' hw'
     .rw[z,O]at hw';cases hw';exact absurd rfl ne
  .rintro J G' ⟨u,cnt,rfl,rfl,cl,ca⟩
   rw[MH,lp]at cl ca;dsimp only;rw[ag];rw?;have cell:∀i dd,(cutD (ns.map D.int) (some 1) (some 26))[i]?=some dd->∃z:Int,dd=.int z/\i < 25:=λi dd hd=>by
    rw[yU (by decide) (by decide),<- QV,<- Qq,MZ]at hd
    cases e:((ns.drop (1:Int).toNat).take ((26:Int).toNat - (1:Int).toNat))[i]? with
    | none=>rw[e]at hd;cases hd
    | some z=>
     rw[e]at hd;cases hd;have:=(List.getElem?_eq_some_iff.mp e).1;rw[NI]at this;exact⟨z,rfl,M9 this (Nat.min_le_left _ _)⟩
   have ok0:Pp.ok ⟨x,[],[],[],0⟩ 0:=⟨by show x.length<=40;omega,le_refl _,le_refl _,le_refl _,(λ_ h=>by cases h),List.Pairwise.nil,(λ_ h=>by cases h),(λ_ _ h=>by cases h),(λ_ h=>by cases h)⟩
   refine⟨λi J G'=>∃(P:Pp) (cnt:List (aE×D)) (x1 x5 x6 x7:Option D),J=[some (.lst (ns.map D.int)),x1,some (.ref p),some (.lst (pens.map D.str)),some (.ref q),x5,x6,x7]/\gZ zF.Z6 hw G' p d s g P/\P.ok i/\G' q=some (.dK cnt)/\cnt.length<=3/\∀w∈pens,cx cnt (.inr w)=some (.int (P.num w - 1)),⟨_,cnt,_,_,_,_,rfl,paq cnt,ok0,av,cl,λw O=>?_⟩,?_,?_⟩
   .obtain⟨j,hj⟩:=List.mem_iff_getElem?.mp O;rw[ca j (by rw[<- lp];exact (List.getElem?_eq_some_iff.mp hj).1) w hj]
    rfl
   .rintro i dd J G' hd ⟨P,Z,x1,x5,x6,x7,rfl,I,ok,W,cl',Y⟩
    obtain⟨z,rfl,hi⟩:=cell i dd hd;clear hd cell ok0 ca cl of paq qn g1 U hq0 hp;have okA:P.ok 49:=ok.le (by omega)
    have okB:P.ok 50:=ok.le (by omega)
    have g0:=I.1;have b3:=qe (a:=drawn z 1) (b:=3) (by decide)
    have at1:=Jq (f:=D.str) (xs:=pens) b3.1 (by omega)
    rw?;rw[ag];rw?;have wm:pens.getD (drawn z 1 % 3).toNat default∈pens:=EC (by omega)
    generalize pens.getD (drawn z 1 % 3).toNat default=w at wm at1 ⊢;have ca1:=Y w wm;refine⟨by decide,by decide,by decide,by decide,Ca (λ_=>?_) λ_=>?_⟩
    .rw[ag];rw?;refine⟨P,d,s,g,⟨I,okB⟩,λout G2 hE so=>?_⟩;have sb:=gO okB so;refine qk (λd=>match d with|.tup [_,.str y,_]=>eK (.str y) (.str (MI "\n"))|_=>false) id (by rw[MH];omega) (λdd hd K R h1 h2=>?_) ?_
     .obtain⟨st,hst,rfl⟩:=mem_map.mp hd;have e0:Seat.d3 st=.tup [st.name.d,.str st.sign,.str st.word]:=rfl;rw[e0]at h1 h2 ⊢;dsimp only at h1 h2;walk_at "st";refine⟨rfl,?_⟩;split<;>rename_i y
      .exact h1 y _ rfl
      .exact h2 (by simpa using y)
     .rw[List.map_id];dsimp only;have fl:(List.filter (λd=>match d with|.tup [_,.str y,_]=>eK (.str y) (.str (MI "\n"))|_=>false) ((P.seats out).map Seat.d3)).length<=60000:=le_trans (N8 _ _) (by rw[MH];exact sb)
      generalize List.filter (λd=>match d with|.tup [_,.str y,_]=>eK (.str y) (.str (MI "\n"))|_=>false) ((P.seats out).map Seat.d3)=L at fl ⊢
      have pa2:=I.ext hE;have gq2:=hE _ _ W;rw[ag];rw?;refine⟨by decide,by omega,by decide,by decide,P,d,s,g,Z,⟨pa2,okA,rfl,qg,by omega,ca1⟩,λG3 P' TM pa3 gq3 tn=>?_⟩
      obtain⟨t1,t2,t3⟩:=uJ ok tn cl' Y wm;exact⟨P',TM,_,_,_,_,⟨rfl,rfl,rfl,rfl⟩,pa3,t1,gq3,t2,t3⟩
    .refine⟨P,d,s,g,⟨I,okA⟩,λk G3 nx wd of pt=>?_⟩;have q1:q≠p:=λy=>by rw[y,I.1]at W;cases W
     have q2:q≠d:=λy=>by rw[y,I.2.1]at W;cases W
     have q3:q≠s:=λy=>by rw[y,I.2.2.1]at W;cases W
     have gq3:=of q _ (by simp only[NC,NP,or_false,not_or];exact⟨q1,q2,q3,qg⟩) W
     rw[gq3];dsimp only;refine⟨_,ca1.symm,?_⟩;dsimp only;rw[Int.sub_add_cancel];obtain⟨t1,t2,t3⟩:=uJ ok (P':=P.add k) (.inr ⟨k,nx,wd,.inl rfl,rfl⟩) cl' Y wm;exact⟨by omega,P.add k,_,_,_,_,_,⟨rfl,rfl,rfl,rfl⟩,⟨(ai q1.symm).trans pt.1,(ai q2.symm).trans pt.2.1,(ai q3.symm).trans pt.2.2.1,(ai qg.symm).trans pt.2.2.2⟩,t1,rfl,t2,t3⟩
   .rintro J G' ⟨P,Z,x1,x5,x6,x7,rfl,I,ok,W,cl',Y⟩
    dsimp only;rw?
 .exact h.elim
section
variable{zF:Zz}{hw:List aE->Int}
theorem sD:bA (aM zF hw) 2:=λ_ _ _ h=>by unfold aM at h;walk_at "l"
theorem sB:bA (cN zF hw) 2:=λ_ _ _ h=>by unfold cN at h;walk_at "l"
theorem sy:bA (cL zF hw) 1:=λ_ _ _ h=>by unfold cL at h;walk_at "l"
theorem sA:bA (cM zF hw) 3:=λ_ _ _ h=>by unfold cM at h;walk_at "l"
theorem sx:bA (cg zF hw) 2:=λ_ _ _ h=>by unfold cg at h;walk_at "l"
theorem uh:bA (c8 zF hw) 1:=λ_ _ _ h=>by unfold c8 at h;walk_at "l"
theorem mE:bA (ba zF hw) 1:=λ_ _ _ h=>by unfold ba at h;walk_at "l"
theorem wC:bA (dL zF hw) 1:=λ_ _ _ h=>by unfold dL at h;walk_at "l"
theorem lA:bA (aR zF hw) 3:=λ_ _ _ h=>by unfold aR at h;walk_at "l"
theorem ph:bA (bZ zF hw) 5:=λ_ _ _ h=>by unfold bZ at h;walk_at "l"
theorem lB:bA (bh zF hw) 4:=λ_ _ _ h=>by unfold bh at h;walk_at "l"
theorem mH:bA (bW zF hw) 5:=λ_ _ _ h=>by unfold bW at h;walk_at "l"
theorem nW:bA (bO zF hw) 5:=λ_ _ _ h=>by unfold bO at h;walk_at "l"
theorem ug:bA (c7 zF hw) 1:=λ_ _ _ h=>by unfold c7 at h;walk_at "l"
theorem x_:bA (fw zF hw) 1:=λ_ _ _ h=>by unfold fw at h;walk_at "l"
theorem pf:bA (ay zF hw) 1:=λ_ _ _ h=>by unfold ay at h;walk_at "l"
theorem um:bA (bu zF hw) 1:=λ_ _ _ h=>by unfold bu at h;walk_at "l"
theorem sK:bA (bd zF hw) 1:=λ_ _ _ h=>by unfold bd at h;walk_at "l"
theorem wB:bA (eP zF hw) 2:=λ_ _ _ h=>by unfold eP at h;walk_at "l"
theorem Ai:bA (fu zF hw) 1:=λ_ _ _ h=>by unfold fu at h;walk_at "l"
theorem ui:bA (d6 zF hw) 2:=λ_ _ _ h=>by unfold d6 at h;walk_at "l"
theorem uj:bA (d7 zF hw) 3:=λ_ _ _ h=>by unfold d7 at h;walk_at "l"
theorem nQ:bA (cm zF hw) 2:=λ_ _ _ h=>by unfold cm at h;walk_at "l"
theorem mF:bA (ak zF hw) 1:=λ_ _ _ h=>by unfold ak at h;walk_at "l"
theorem pc:bA (cC zF hw) 1:=λ_ _ _ h=>by unfold cC at h;walk_at "l"
theorem qE:bA (cS zF hw) 1:=λ_ _ _ h=>by unfold cS at h;walk_at "l"
theorem sv:bA (dk zF hw) 1:=λ_ _ _ h=>by unfold dk at h;walk_at "l"
theorem Ah:bA (fq zF hw) 3:=λ_ _ _ h=>by unfold fq at h;walk_at "l"
theorem x9:bA (ft zF hw) 3:=λ_ _ _ h=>by unfold ft at h;walk_at "l"
theorem nU:bA (bM zF hw) 1:=λ_ _ _ h=>by unfold bM at h;walk_at "l"
theorem sG:bA (aO zF hw) 1:=λ_ _ _ h=>by unfold aO at h;walk_at "l"
theorem nT:bA (bL zF hw) 3:=λ_ _ _ h=>by unfold bL at h;walk_at "l"
theorem nR:bA (bK zF hw) 3:=λ_ _ _ h=>by unfold bK at h;walk_at "l"
theorem qH:bA (bU zF hw) 1:=λ_ _ _ h=>by unfold bU at h;walk_at "l"
theorem yA:bA (dM zF hw) 1:=λ_ _ _ h=>by unfold dM at h;walk_at "l"
theorem sE:bA (cj zF hw) 1:=λ_ _ _ h=>by unfold cj at h;walk_at "l"
theorem uq:bA (cG zF hw) 1:=λ_ _ _ h=>by unfold cG at h;walk_at "l"
theorem wD:bA (cX zF hw) 1:=λ_ _ _ h=>by unfold cX at h;walk_at "l"
theorem sJ:bA (ck zF hw) 2:=λ_ _ _ h=>by unfold ck at h;walk_at "l"
theorem jH:bA (aQ zF hw) 2:=λ_ _ _ h=>by unfold aQ at h;walk_at "l"
theorem jG:bA (aP zF hw) 1:=λ_ _ _ h=>by unfold aP at h;walk_at "l"
theorem pi:bA (b7 zF hw) 4:=λ_ _ _ h=>by unfold b7 at h;walk_at "l"
theorem El:bA (kR zF hw) 3:=λ_ _ _ h=>by unfold kR at h;walk_at "l"
theorem nV:bA (bN zF hw) 1:=λ_ _ _ h=>by unfold bN at h;walk_at "l"
theorem pd:bA (cD zF hw) 3:=λ_ _ _ h=>by unfold cD at h;walk_at "l"
theorem jJ:bA (bn zF hw) 2:=λ_ _ _ h=>by unfold bn at h;walk_at "l"
theorem qG:bA (cq zF hw) 2:=λ_ _ _ h=>by unfold cq at h;walk_at "l"
theorem jI:bA (bj zF hw) 2:=λ_ _ _ h=>by unfold bj at h;walk_at "l"
theorem sF:bA (dq zF hw) 2:=λ_ _ _ h=>by unfold dq at h;walk_at "l"
theorem qF:bA (cT zF hw) 5:=λ_ _ _ h=>by unfold cT at h;walk_at "l"
theorem uk:bA (c9 zF hw) 2:=λ_ _ _ h=>by unfold c9 at h;walk_at "l"
theorem ul:bA (c_ zF hw) 2:=λ_ _ _ h=>by unfold c_ at h;walk_at "l"
theorem uo:bA (da zF hw) 4:=λ_ _ _ h=>by unfold da at h;walk_at "l"
theorem sH:bA (du zF hw) 3:=λ_ _ _ h=>by unfold du at h;walk_at "l"
theorem sI:bA (dw zF hw) 5:=λ_ _ _ h=>by unfold dw at h;walk_at "l"
theorem sC:bA (dm zF hw) 3:=λ_ _ _ h=>by unfold dm at h;walk_at "l"
theorem mG:bA (bV zF hw) 2:=λ_ _ _ h=>by unfold bV at h;walk_at "l"
theorem Gn:bA (vJ zF hw) 1:=λ_ _ _ h=>by unfold vJ at h;walk_at "l"
end
section
variable{zF:Zz}{hw:List aE->Int}{Sj:MF}
theorem B4:LZ (ik zF hw Sj) 3:=λ_ _ _ _ h=>by unfold ik at h;walk_at "l"
end
structure Tx(K:Pj)(mg:Str->Option MC)(zF:Zz)(Sm:MF)(Sj:MF)(Sn:MF)(So:MF):Prop where
 fa_anchor:∀C∈zF.F,Cls K C/\cB K C "anchor"
 fa_name:∀C∈zF.F,Cls K C/\cB K C "name"
 fa_names:∀C∈zF.F,Cls K C/\cB K C "names"
 fa_signs:∀C∈zF.F,Cls K C/\cB K C "signs"
 fa_time:∀C∈zF.F,Cls K C/\cB K C "time"
 fa_word:∀C∈zF.F,Cls K C/\cB K C "word"
 cl_Stroke:Cls K zF.Z1
 cl_Put:Cls K zF.Z2
 cl_Strike:Cls K zF.Z3
 cl_Dress:Cls K zF.Z4
 cl_Move:Cls K zF.Z5
 cl_Paper:Cls K zF.Z6
 na_Paper_old:cB K zF.Z6 "old"
 na_Paper_drawn:cB K zF.Z6 "drawn"
 na_Paper_states:cB K zF.Z6 "states"
 na_Paper_greatest:cB K zF.Z6 "greatest"
 na_Paper_time:cB K zF.Z6 "time"
 b_all:mg "all"=none
 b_dict:mg "dict"=none
 b_enumerate:mg "enumerate"=none
 b_isinstance:mg "isinstance"=none
 b_len:mg "len"=none
 b_list:mg "list"=none
 b_min:mg "min"=none
 b_range:mg "range"=none
 b_sorted:mg "sorted"=none
 b_sum:mg "sum"=none
 b_tuple:mg "tuple"=none
 b_zip:mg "zip"=none
 k_PARAGRAPH_END:jg K mg "PARAGRAPH_END" k_PARAGRAPH_END
 k_START:jg K mg "START" k_START
 k_WAITS:jg K mg "WAITS" k_WAITS
 k_WIPED:jg K mg "WIPED" k_WIPED
 xm_QuillError:mg "QuillError"=some (.ref Sm)
 xm_OutOfPlace:mg "OutOfPlace"=some (.ref Sj)
 xm_NoStroke:mg "NoStroke"=some (.ref Sn)
 xm_Decided:mg "Decided"=some (.ref So)
 xa_OutOfPlace:XAsk K Sj "at"
 xe_OutOfPlace_QuillError:PySem.W.exmOne K (.ref Sj) (.ref Sm)=some true
 xk_OutOfPlace:ST K (.ref Sj) (.ref Sj)=some true
 xm_Dress:mg "Dress"=some (.ref zF.Z4)
 ik_Dress:∀p∈([(zF.Z1,false),(zF.Z2,false),(zF.Z3,false),(zF.Z4,true),(zF.Z5,false)]:List (MF×Bool)),InsAsk K p.1/\ST K (.ref p.1) (.ref zF.Z4)=some p.2
 xm_Move:mg "Move"=some (.ref zF.Z5)
 ik_Move:∀p∈([(zF.Z1,false),(zF.Z2,false),(zF.Z3,false),(zF.Z4,false),(zF.Z5,true)]:List (MF×Bool)),InsAsk K p.1/\ST K (.ref p.1) (.ref zF.Z5)=some p.2
 xm_Put:mg "Put"=some (.ref zF.Z2)
 ik_Put:∀p∈([(zF.Z1,false),(zF.Z2,true),(zF.Z3,false),(zF.Z4,false),(zF.Z5,false)]:List (MF×Bool)),InsAsk K p.1/\ST K (.ref p.1) (.ref zF.Z2)=some p.2
 xm_Strike:mg "Strike"=some (.ref zF.Z3)
 ik_Strike:∀p∈([(zF.Z1,false),(zF.Z2,false),(zF.Z3,true),(zF.Z4,false),(zF.Z5,false)]:List (MF×Bool)),InsAsk K p.1/\ST K (.ref p.1) (.ref zF.Z3)=some p.2
theorem Lh{α:Type}:∀{us:List α},us.length=1->∃I,us=[I]
 | [I],_=>⟨I,rfl⟩
theorem JC{α:Type}:∀{us:List α},us.length=2->∃I a1,us=[I,a1]
 | [I,a1],_=>⟨I,a1,rfl⟩
theorem Lg{α:Type}:∀{us:List α},us.length=3->∃I a1 a2,us=[I,a1,a2]
 | [I,a1,a2],_=>⟨I,a1,a2,rfl⟩
theorem Lf{α:Type}:∀{us:List α},us.length=4->∃I a1 a2 a3,us=[I,a1,a2,a3]
 | [I,a1,a2,a3],_=>⟨I,a1,a2,a3,rfl⟩
theorem Le{α:Type}:∀{us:List α},us.length=5->∃I a1 a2 a3 a4,us=[I,a1,a2,a3,a4]
 | [I,a1,a2,a3,a4],_=>⟨I,a1,a2,a3,a4,rfl⟩
local macro_rules | `(tactic| walk_at "b") => `(tactic| (intro _ _ _ _ _ _ us hl; first | (obtain ⟨_, e⟩ := Lh hl; subst e; rfl) | (obtain ⟨_, _, e⟩ := JC hl; subst e; rfl) | (obtain ⟨_, _, _, e⟩ := Lg hl; subst e; rfl) | (obtain ⟨_, _, _, _, e⟩ := Lf hl; subst e; rfl) | (obtain ⟨_, _, _, _, _, e⟩ := Le hl; subst e; rfl)))
structure Ev(K:Pj)(h:MY)(mg:Str->Option MC)(Z1 Z2 Z3 Z4 Z5 Z6 Sm Sj Sn So e0f e0N ka1:MF)(ks1:Array (Option MC))(S5 e0q:Str)(Tg e0bm SK:List MC)(Tc Ti:Bool)(S0:List Str)(SL:Option Bool)(Ta S_ S9 S8 S7:Option MC)(e0cls:ClassData)(S4 S6 Te S2 SV Tf:MC)(S3 Th Td:Option MF)(S1:Array (Option MC))(kt0:Tok)(SI:Tok)(SH:Tok)(SG:Tok)(kt2:Tok)(kt3:Tok)(kz1:Nat):Prop where
 X:K.In h
 G:h.Ns MT mg
 y0:Tm K MT "Stroke"=some (some (.ref Z1))
 y1:Tm K MT "Put"=some (some (.ref Z2))
 y2:Tm K MT "Strike"=some (some (.ref Z3))
 y3:Tm K MT "Dress"=some (some (.ref Z4))
 y4:Tm K MT "Move"=some (some (.ref Z5))
 y5:Tm K MT "Paper"=some (some (.ref Z6))
 y6:Tm K MT "QuillError"=some (some (.ref Sm))
 y7:Tm K MT "OutOfPlace"=some (some (.ref Sj))
 y8:Tm K MT "NoStroke"=some (some (.ref Sn))
 y9:Tm K MT "Decided"=some (some (.ref So))
 ya:K.lookup Sj=some (Rv S5 e0q Sj e0N Tg e0bm Tc S0 SK Ti SL Td Ta S_ S9 S8 S7 "ValueError.__new__")
 yb:tailIn K L2.veMro e0bm=true
 yc:e0bm.contains (.type "BaseException")=true
 yd:Ql K (.ref Sj) "__init__"=some (some (.ref e0f))
 ye:Ui K (.ref e0f)=some (.type "function")
 yf:QG K (.ref Sj)=true
 yg:Ql K (.ref Sj) "__setattr__"=some (some (.builtin "object.__setattr__"))
 yh:PySem.W.clsIn K Sj=some e0cls
 yi:e0cls.hasDict=true
 yj:∀x,PySem.refuseLoop (.ref x) "__setattr__" e0cls.mro=pure ()
 yk:e0cls.mro.contains (.type "object")=true
 yl:e0cls.mro.isEmpty=false
 ym:Uc K Sj "at"=some none
 yn:K.lookup e0f=some ⟨S4,S3,.func (Ub "__init__" "OutOfPlace.__init__" (fc bI) (cQ bI) (ah bI) .none S6 Te S2 Th SV Tf),S1⟩
 yo:RZ K SV "OutOfPlace.__init__"=true
 yp:Ql K (.ref Sj) "__getattribute__"=some (some (.builtin "BaseException.__getattribute__"))
 yq:Ql K (.ref Sj) "__getattr__"=some none
 yr:T_ K Sj (.type "BaseException")=some true
 ys:Ue K Sj=true
 yt:Ql K (.ref Sj) "__class__"=some (some (.builtin "object.__class__"))
 yu:QE K (.builtin "object.__class__") "__get__"=some (some (.builtin "getset_descriptor.__get__"))
 yv:Uf K (.builtin "object.__class__")=some true
 yw:T_ K Sj (.type "object")=some true
 yx:Ql K (.ref Sj) "at"=some none
 yy:PySem.W.exmOne K (.ref Sj) (.ref Sm)=some true
 yz:ST K (.ref Sj) (.ref Sj)=some true
 y00:QE K (.builtin "object.__class__") "__get__"=some (some (.builtin "getset_descriptor.__get__"))
 y01:Uf K (.builtin "object.__class__")=some true
 y02:Ql K (.ref Z1) "__class__"=some (some (.builtin "object.__class__"))
 y03:T_ K Z1 (.type "object")=some true
 y04:ST K (.ref Z1) (.ref Z4)=some false
 y05:ST K (.ref Z1) (.ref Z5)=some false
 y06:ST K (.ref Z1) (.ref Z2)=some false
 y07:ST K (.ref Z1) (.ref Z3)=some false
 y08:Ql K (.ref Z2) "__class__"=some (some (.builtin "object.__class__"))
 y09:T_ K Z2 (.type "object")=some true
 y0a:ST K (.ref Z2) (.ref Z4)=some false
 y0b:ST K (.ref Z2) (.ref Z5)=some false
 y0c:ST K (.ref Z2) (.ref Z2)=some true
 y0d:ST K (.ref Z2) (.ref Z3)=some false
 y0e:Ql K (.ref Z3) "__class__"=some (some (.builtin "object.__class__"))
 y0f:T_ K Z3 (.type "object")=some true
 y0g:ST K (.ref Z3) (.ref Z4)=some false
 y0h:ST K (.ref Z3) (.ref Z5)=some false
 y0i:ST K (.ref Z3) (.ref Z2)=some false
 y0j:ST K (.ref Z3) (.ref Z3)=some true
 y0k:Ql K (.ref Z4) "__class__"=some (some (.builtin "object.__class__"))
 y0l:T_ K Z4 (.type "object")=some true
 y0m:ST K (.ref Z4) (.ref Z4)=some true
 y0n:ST K (.ref Z4) (.ref Z5)=some false
 y0o:ST K (.ref Z4) (.ref Z2)=some false
 y0p:ST K (.ref Z4) (.ref Z3)=some false
 y0q:Ql K (.ref Z5) "__class__"=some (some (.builtin "object.__class__"))
 y0r:T_ K Z5 (.type "object")=some true
 y0s:ST K (.ref Z5) (.ref Z4)=some false
 y0t:ST K (.ref Z5) (.ref Z5)=some true
 y0u:ST K (.ref Z5) (.ref Z2)=some false
 y0v:ST K (.ref Z5) (.ref Z3)=some false
 y0w:Cls K Z1
 y0x:Ua K Z1=true
 y0y:QG K (.ref Z1)=true
 y0z:Ql K (.ref Z1) "anchor"=some none
 y10:Ql K (.ref Z1) "name"=some none
 y11:Ql K (.ref Z1) "names"=some none
 y12:Ql K (.ref Z1) "signs"=some none
 y13:Ql K (.ref Z1) "time"=some none
 y14:Ql K (.ref Z1) "word"=some none
 y15:Cls K Z2
 y16:Ua K Z2=true
 y17:QG K (.ref Z2)=true
 y18:Ql K (.ref Z2) "anchor"=some none
 y19:Ql K (.ref Z2) "name"=some none
 y1a:Ql K (.ref Z2) "names"=some none
 y1b:Ql K (.ref Z2) "signs"=some none
 y1c:Ql K (.ref Z2) "time"=some none
 y1d:Ql K (.ref Z2) "word"=some none
 y1e:Cls K Z3
 y1f:Ua K Z3=true
 y1g:QG K (.ref Z3)=true
 y1h:Ql K (.ref Z3) "anchor"=some none
 y1i:Ql K (.ref Z3) "name"=some none
 y1j:Ql K (.ref Z3) "names"=some none
 y1k:Ql K (.ref Z3) "signs"=some none
 y1l:Ql K (.ref Z3) "time"=some none
 y1m:Ql K (.ref Z3) "word"=some none
 y1n:Cls K Z4
 y1o:Ua K Z4=true
 y1p:QG K (.ref Z4)=true
 y1q:Ql K (.ref Z4) "anchor"=some none
 y1r:Ql K (.ref Z4) "name"=some none
 y1s:Ql K (.ref Z4) "names"=some none
 y1t:Ql K (.ref Z4) "signs"=some none
 y1u:Ql K (.ref Z4) "time"=some none
 y1v:Ql K (.ref Z4) "word"=some none
 y1w:Cls K Z5
 y1x:Ua K Z5=true
 y1y:QG K (.ref Z5)=true
 y1z:Ql K (.ref Z5) "anchor"=some none
 y20:Ql K (.ref Z5) "name"=some none
 y21:Ql K (.ref Z5) "names"=some none
 y22:Ql K (.ref Z5) "signs"=some none
 y23:Ql K (.ref Z5) "time"=some none
 y24:Ql K (.ref Z5) "word"=some none
 y25:Cls K Z6
 y26:Ua K Z6=true
 y27:QG K (.ref Z6)=true
 y28:Ql K (.ref Z6) "old"=some none
 y29:Ql K (.ref Z6) "drawn"=some none
 y2a:Ql K (.ref Z6) "states"=some none
 y2b:Ql K (.ref Z6) "greatest"=some none
 y2c:Ql K (.ref Z6) "time"=some none
 y2d:Tm K MT "all"=some none
 y2e:Tm K MT "dict"=some none
 y2f:Tm K MT "enumerate"=some none
 y2g:Tm K MT "isinstance"=some none
 y2h:Tm K MT "len"=some none
 y2i:Tm K MT "list"=some none
 y2j:Tm K MT "min"=some none
 y2k:Tm K MT "range"=some none
 y2l:Tm K MT "sorted"=some none
 y2m:Tm K MT "sum"=some none
 y2n:Tm K MT "tuple"=some none
 y2o:Tm K MT "zip"=some none
 y2p:Tm K MT "PARAGRAPH_END"=some (some (.str "\n" kt0))
 y2q:Tm K MT "START"=some (some (.ref ka1))
 y2r:K.lookup ka1=some ⟨.type "tuple",none,.seq #[.str "" SI,.int 0 SH,.int 0 SG] kz1,ks1⟩
 y2s:Tm K MT "WAITS"=some (some (.str "waits" kt2))
 y2t:Tm K MT "WIPED"=some (some (.str "wiped" kt3))
 y2u:FnG K "_law_drawn" m8
 y2v:FnG K "_law_signs" m6
 y2w:FnG K "paragraphs" m4
 y2x:FnG K "lay_behind" m5
 y2y:FnG K "slots_made" mZ
 y2z:FnG K "old_slots" pS
 y30:FnG K "place_in_order" im
 y31:FnG K "in_order" rA
 y32:MtG K Z1 "__init__" "Stroke.__init__" eZ
 y33:CfG K Z1 "__init__" "Stroke.__init__" eZ
 y34:MtG K Z2 "__init__" "Put.__init__" jY
 y35:MtG K Z3 "__init__" "Strike.__init__" gP
 y36:MtG K Z4 "__init__" "Dress.__init__" iq
 y37:MtG K Z5 "__init__" "Move.__init__" jq
 y38:FnG K "stroke_of" pR
 y39:FnG K "chained" uT
 y3a:MtG K Z4 "slots" "Stroke.slots" dO
 y3b:MtG K Z3 "slots" "Stroke.slots" dO
 y3c:MtG K Z1 "slots" "Stroke.slots" dO
 y3d:MtG K Z2 "slots" "Put.slots" pX
 y3e:MtG K Z5 "slots" "Move.slots" nk
 y3f:FnG K "slots_of" rq
 y3g:FnG K "marked" xA
 y3h:FnG K "is_placed" pT
 y3i:FnG K "effective" pU
 y3j:FnG K "signs_brought" jk
 y3k:MtG K Z4 "touched" "Stroke.touched" bP
 y3l:MtG K Z5 "touched" "Stroke.touched" bP
 y3m:MtG K Z2 "touched" "Stroke.touched" bP
 y3n:MtG K Z3 "touched" "Stroke.touched" bP
 y3o:MtG K Z1 "touched" "Stroke.touched" bP
 y3p:FnG K "signs_struck" jW
 y3q:FnG K "slots_taken" lL
 y3r:FnG K "words_worn" mY
 y3s:FnG K "seated" xz
 y3t:FnG K "reading" uR
 y3u:MtG K Z6 "unwiped" "Paper.unwiped" jn
 y3v:MtG K Z6 "view" "Paper.view" ng
 y3w:FnG K "check_stretch" jm
 y3x:FnG K "names_between" jl
 y3y:MtG K Z6 "seats" "Paper.seats" lO
 y3z:MtG K Z2 "row" "Put.row" uU
 y40:MtG K Z3 "row" "Strike.row" m9
 y41:MtG K Z4 "row" "Dress.row" pZ
 y42:MtG K Z5 "row" "Move.row" rB
 y43:MtG K Z6 "draw" "Paper.draw" nj
 y44:MtG K Z6 "coming_name" "Paper.coming_name" f7
 y45:MtG K Z6 "coming_time" "Paper.coming_time" f6
 y46:MtG K Z6 "strike" "Paper.strike" jZ
 y47:FnG K "join" Do
 y48:MtG K Z6 "strokes" "Paper.strokes" jp
 y49:FnG K "_law_refused" jX
 y4a:MtG K Z6 "check_known" "Paper.check_known" f9
 y4b:MtG K Z6 "state" "Paper.state" lN
 y4c:MtG K Z6 "check_waits" "Paper.check_waits" f8
 y4d:MtG K Z6 "wipe" "Paper.wipe" m_
 y4e:FnG K "_law_joined" lM
 y4f:FnG K "check_gap" pV
 y4g:FnG K "anchor_at" pW
 y4h:MtG K Z6 "put" "Paper.put" pY
 y4i:MtG K Z6 "part" "Paper.part" nh
 y4j:MtG K Z6 "move" "Paper.move" ni
 y4k:FnG K "_law_other" m7
 y4l:MtG K Z6 "__init__" "Paper.__init__" ip
 y4m:FnG K "law" uS
section
variable{P:MR}{w:M4}{base:MY}{K:Pj}{h:MY}{mg:Str->Option MC}{Z1 Z2 Z3 Z4 Z5 Z6 Sm Sj Sn So e0f e0N ka1:MF}{ks1:Array (Option MC)}{S5 e0q:Str}{Tg e0bm SK:List MC}{Tc Ti:Bool}{S0:List Str}{SL:Option Bool}{Ta S_ S9 S8 S7:Option MC}{e0cls:ClassData}{S4 S6 Te S2 SV Tf:MC}{S3 Th Td:Option MF}{S1:Array (Option MC)}{kt0:Tok}{SI:Tok}{SH:Tok}{SG:Tok}{kt2:Tok}{kt3:Tok}{kz1:Nat}(E:Ev K h mg Z1 Z2 Z3 Z4 Z5 Z6 Sm Sj Sn So e0f e0N ka1 ks1 S5 e0q Tg e0bm SK Tc Ti S0 SL Ta S_ S9 S8 S7 e0cls S4 S6 Te S2 SV Tf S3 Th Td S1 kt0 SI SH SG kt2 kt3 kz1)
def Ev.z(_:Ev K h mg Z1 Z2 Z3 Z4 Z5 Z6 Sm Sj Sn So e0f e0N ka1 ks1 S5 e0q Tg e0bm SK Tc Ti S0 SL Ta S_ S9 S8 S7 e0cls S4 S6 Te S2 SV Tf S3 Th Td S1 kt0 SI SH SG kt2 kt3 kz1):Zz:=⟨Z1,Z2,Z3,Z4,Z5,Z6⟩
include E
theorem Ms:Tx K mg E.z Sm Sj Sn So:=⟨(all_cons ⟨E.y0w,E.y0z⟩ (all_cons ⟨E.y15,E.y18⟩ (all_cons ⟨E.y1e,E.y1h⟩ (all_cons ⟨E.y1n,E.y1q⟩ (all_cons ⟨E.y1w,E.y1z⟩ (λ_ h=>nomatch h)))))),(all_cons ⟨E.y0w,E.y10⟩ (all_cons ⟨E.y15,E.y19⟩ (all_cons ⟨E.y1e,E.y1i⟩ (all_cons ⟨E.y1n,E.y1r⟩ (all_cons ⟨E.y1w,E.y20⟩ (λ_ h=>nomatch h)))))),(all_cons ⟨E.y0w,E.y11⟩ (all_cons ⟨E.y15,E.y1a⟩ (all_cons ⟨E.y1e,E.y1j⟩ (all_cons ⟨E.y1n,E.y1s⟩ (all_cons ⟨E.y1w,E.y21⟩ (λ_ h=>nomatch h)))))),(all_cons ⟨E.y0w,E.y12⟩ (all_cons ⟨E.y15,E.y1b⟩ (all_cons ⟨E.y1e,E.y1k⟩ (all_cons ⟨E.y1n,E.y1t⟩ (all_cons ⟨E.y1w,E.y22⟩ (λ_ h=>nomatch h)))))),(all_cons ⟨E.y0w,E.y13⟩ (all_cons ⟨E.y15,E.y1c⟩ (all_cons ⟨E.y1e,E.y1l⟩ (all_cons ⟨E.y1n,E.y1u⟩ (all_cons ⟨E.y1w,E.y23⟩ (λ_ h=>nomatch h)))))),(all_cons ⟨E.y0w,E.y14⟩ (all_cons ⟨E.y15,E.y1d⟩ (all_cons ⟨E.y1e,E.y1m⟩ (all_cons ⟨E.y1n,E.y1v⟩ (all_cons ⟨E.y1w,E.y24⟩ (λ_ h=>nomatch h)))))),E.y0w,E.y15,E.y1e,E.y1n,E.y1w,E.y25,E.y28,E.y29,E.y2a,E.y2b,E.y2c,N_ E.X E.G E.y2d,N_ E.X E.G E.y2e,N_ E.X E.G E.y2f,N_ E.X E.G E.y2g,N_ E.X E.G E.y2h,N_ E.X E.G E.y2i,N_ E.X E.G E.y2j,N_ E.X E.G E.y2k,N_ E.X E.G E.y2l,N_ E.X E.G E.y2m,N_ E.X E.G E.y2n,N_ E.X E.G E.y2o,pH (Ty E.X E.G E.y2p),Cs (vs:=[.str "",.int 0,.int 0]) (Ty E.X E.G E.y2q) E.y2r (by show 3<=MN;decide) (.cons ⟨_,rfl⟩ (.cons ⟨_,rfl⟩ (.cons ⟨_,rfl⟩ .nil))) λ_=>(RDs.cons iX (RDs.cons dC (RDs.cons dC RDs.nil))),pH (Ty E.X E.G E.y2s),pH (Ty E.X E.G E.y2t),Ty E.X E.G E.y6,Ty E.X E.G E.y7,Ty E.X E.G E.y8,Ty E.X E.G E.y9,⟨⟨E.yp,E.yq,E.yr,E.ys⟩,E.yt,E.yu,E.yv,E.yw,E.yx⟩,E.yy,E.yz,Ty E.X E.G E.y3,(all_cons ⟨⟨E.y0w,E.y02,E.y00,E.y01,E.y03⟩,E.y04⟩ (all_cons ⟨⟨E.y15,E.y08,E.y00,E.y01,E.y09⟩,E.y0a⟩ (all_cons ⟨⟨E.y1e,E.y0e,E.y00,E.y01,E.y0f⟩,E.y0g⟩ (all_cons ⟨⟨E.y1n,E.y0k,E.y00,E.y01,E.y0l⟩,E.y0m⟩ (all_cons ⟨⟨E.y1w,E.y0q,E.y00,E.y01,E.y0r⟩,E.y0s⟩ (λ_ h=>nomatch h)))))),Ty E.X E.G E.y4,(all_cons ⟨⟨E.y0w,E.y02,E.y00,E.y01,E.y03⟩,E.y05⟩ (all_cons ⟨⟨E.y15,E.y08,E.y00,E.y01,E.y09⟩,E.y0b⟩ (all_cons ⟨⟨E.y1e,E.y0e,E.y00,E.y01,E.y0f⟩,E.y0h⟩ (all_cons ⟨⟨E.y1n,E.y0k,E.y00,E.y01,E.y0l⟩,E.y0n⟩ (all_cons ⟨⟨E.y1w,E.y0q,E.y00,E.y01,E.y0r⟩,E.y0t⟩ (λ_ h=>nomatch h)))))),Ty E.X E.G E.y1,(all_cons ⟨⟨E.y0w,E.y02,E.y00,E.y01,E.y03⟩,E.y06⟩ (all_cons ⟨⟨E.y15,E.y08,E.y00,E.y01,E.y09⟩,E.y0c⟩ (all_cons ⟨⟨E.y1e,E.y0e,E.y00,E.y01,E.y0f⟩,E.y0i⟩ (all_cons ⟨⟨E.y1n,E.y0k,E.y00,E.y01,E.y0l⟩,E.y0o⟩ (all_cons ⟨⟨E.y1w,E.y0q,E.y00,E.y01,E.y0r⟩,E.y0u⟩ (λ_ h=>nomatch h)))))),Ty E.X E.G E.y2,(all_cons ⟨⟨E.y0w,E.y02,E.y00,E.y01,E.y03⟩,E.y07⟩ (all_cons ⟨⟨E.y15,E.y08,E.y00,E.y01,E.y09⟩,E.y0d⟩ (all_cons ⟨⟨E.y1e,E.y0e,E.y00,E.y01,E.y0f⟩,E.y0j⟩ (all_cons ⟨⟨E.y1n,E.y0k,E.y00,E.y01,E.y0l⟩,E.y0p⟩ (all_cons ⟨⟨E.y1w,E.y0q,E.y00,E.y01,E.y0r⟩,E.y0v⟩ (λ_ h=>nomatch h))))))⟩
variable(T:Tx K mg E.z Sm Sj Sn So)
include T
def bT:=oC P w base E.X E.G E.y2u 101 lK sD (rL E.z (aJ P w)) λI u v=>(am (aZ (i:=2) lK.nd rfl (by walk_at "i") (cr gu (cr CQ (cr eg (cr eg (aq 0) (cr CQ az (aq 1))) az) az) az))
   (aw (aL (cr gu (cr CQ (aq 2) (cr eg (cr GY (aq 2) az) az)) az))))
def oB:=oC P w base E.X E.G E.y2v 102 tM sB (rJ E.z (aJ P w)) λI u v=>(aw (aL (Is fk (aa (hZ (T:=["_law_k"]) (M:=Ao0) (bY rfl (by kernel_rfl)) (λcl C s₀ H₀ J=>⟨(a_ (i:=0) qC rfl (by walk_at "i")),jP,(d8 fk (cr gu (aH (bT E) I.m (by rfl) (aa (aq 1) (aa (cr eg az (aq 0)) al))) az))⟩) (yI (by rfl) T.b_range (aa (aq 1) al))) al))))
def oz:=oC P w base E.X E.G E.y2w 0 dz sy (rG E.z (aJ P w)) λI u v=>(am (Hc (i:=1) dz.nd rfl (by walk_at "i") (xR al))
   (am (aZ (i:=2) dz.nd rfl (by walk_at "i") az)
   (am (iC Ni rfl (IT (by rfl) T.b_enumerate (aa (aq 0) al)) (Bf (n:=2) rfl (kC (a_ (i:=3) dz.nd rfl (by walk_at "i")) (kC (a_ (i:=4) dz.nd rfl (by walk_at "i")) Bg))) (aw (fh (cv (lf u) (d8 (aq 4) az) (dS (by rfl) T.k_PARAGRAPH_END) (cf _)) (am (dP (nL (aq 1) (aa (fj (aa (aq 2) (aa (aq 3) al))) al)))
   (aw (aZ (i:=2) dz.nd rfl (by walk_at "i") (cr eg (aq 3) az)))) cP)))
   (am (dP (nL (aq 1) (aa (fj (aa (aq 2) (aa (bG b_len (by rfl) T.b_len PySem.boot_len (aa (aq 0) al)) al))) al)))
   (aw (xJ (i:=1) rfl (by first|exact Or.inl rfl|exact Or.inr (Or.inl rfl))))))))
def oA:=oC P w base E.X E.G E.y2x 0 fJ sA (rH E.z (aJ P w)) λI u v=>(am (aZ (i:=3) fJ.nd rfl (by walk_at "i") (aq 1))
   (aw (iC Ni rfl (eT (aq 2)) (a_ (i:=4) fJ.nd rfl (by walk_at "i")) (am (e7 u (aq 0) (aq 4) (l9 u (aq 0) (aq 3)))
   (am (e7 u (aq 0) (aq 3) (aq 4))
   (aw (aZ (i:=3) fJ.nd rfl (by walk_at "i") (aq 4))))))))
def jf:=oC P w base E.X E.G E.y2y 0 tL sx (rF E.z (aJ P w)) λI u v=>(aw (aL (hZ (T:=["k"]) (M:=Au0) (bY rfl (by kernel_rfl)) (λcl C s₀ H₀ J=>⟨(a_ (i:=0) qB rfl (by walk_at "i")),jP,(cr eg (aq 1) (fj (aa (aq 0) al)))⟩) (Ew (by rfl) T.b_range (aa az (aa (cr eg (aq 1) az) al))))))
def qp:=oC P w base E.X E.G E.y2z 1 vN uh (tU E.z (aJ P w)) λI u v=>(aw (aL (aH (jf E T) I.m (by rfl) (aa (gW xo (dS (by rfl) T.k_START) o8 (h8 az)) (aa (bG b_len (by rfl) T.b_len PySem.boot_len (aa (aq 0) al)) al)))))
def pN:=oC P w base E.X E.G E.y30 0 mS mE (ms E.z (aJ P w)) λI u v=>(aw (aL (fj (aa (d8 (aq 0) az) (aa (d8 (aq 0) az) al)))))
def tG:=oC P w base E.X E.G E.y31 3 jR wC (vU E.z (aJ P w)) λI u v=>(am (aZ (i:=1) jR.nd rfl (by walk_at "i") o6)
   (am (HX Ni rfl (aq 0) (a_ (i:=2) jR.nd rfl (by walk_at "i")) (aw (e7 u (aq 1) (d8 (aq 2) az) (aq 2))))
   (aw (aL (F0 (pN E) I.m rfl (by rfl) (by rfl) T.b_sorted (aq 1))))))
def df:=Mx P w base E.X E.G E.y0 E.y33 λF=>Ee 0 F mq lA (lq E.z (aJ P w)) λI u v=>(am (gB T.fa_name (aq 0) (aq 1))
   (am (gB T.fa_time (aq 0) (aq 2))
   (am (gB T.fa_anchor (aq 0) (dS (by rfl) T.k_START))
   (aw (gB T.fa_names (aq 0) (fj al))))))
def Hw:=Kk P w base E.X E.G E.y1 E.y16 E.y17 E.y34 λF=>Ee 1 F qw ph (oX E.z (aJ P w)) λI u v=>(am (dP (kW (df E T) I.m (by rfl) (aa (aq 0) (aa (aq 1) (aa (aq 2) al)))))
   (am (gB T.fa_anchor (aq 0) (aq 3))
   (aw (gB T.fa_signs (aq 0) (aq 4)))))
def zf:=Kk P w base E.X E.G E.y2 E.y1f E.y1g E.y35 λF=>Ee 1 F mr lB (lr E.z (aJ P w)) λI u v=>(am (dP (kW (df E T) I.m (by rfl) (aa (aq 0) (aa (aq 1) (aa (aq 2) al)))))
   (aw (gB T.fa_names (aq 0) (aq 3))))
def GS:=Kk P w base E.X E.G E.y3 E.y1o E.y1p E.y36 λF=>Ee 1 F mX mH (my E.z (aJ P w)) λI u v=>(am (dP (kW (df E T) I.m (by rfl) (aa (aq 0) (aa (aq 1) (aa (aq 2) al)))))
   (am (gB T.fa_names (aq 0) (aq 3))
   (aw (gB T.fa_word (aq 0) (aq 4)))))
def E8:=Kk P w base E.X E.G E.y4 E.y1x E.y1y E.y37 λF=>Ee 1 F oP nW (nz E.z (aJ P w)) λI u v=>(am (dP (kW (df E T) I.m (by rfl) (aa (aq 0) (aa (aq 1) (aa (aq 2) al)))))
   (am (gB T.fa_names (aq 0) (aq 3))
   (aw (gB T.fa_anchor (aq 0) (aq 4)))))
def qo:=oC P w base E.X E.G E.y38 3 gc ug (tT E.z (aJ P w)) λI u v=>(am (aZ (i:=1) gc.nd rfl (by walk_at "i") (d8 (aq 0) az))
   (am (aZ (i:=2) gc.nd rfl (by walk_at "i") (d8 (aq 0) az))
   (am (aZ (i:=3) gc.nd rfl (by walk_at "i") (d8 (aq 0) az))
   (am (fh (cv (lf u) (d8 (aq 3) az) fk (cf _)) (aw (aL (ke (Hw E T) I.m (by rfl) (aa (aq 1) (aa (aq 2) (aa (d8 (aq 3) az) (aa (d8 (aq 3) az) al))))))) cP)
   (am (fh (cv (lf u) (d8 (aq 3) az) fk (cf _)) (aw (aL (ke (zf E T) I.m (by rfl) (aa (aq 1) (aa (aq 2) (aa (d8 (aq 3) az) al)))))) cP)
   (am (fh (cv (lf u) (d8 (aq 3) az) fk (cf _)) (aw (aL (ke (GS E T) I.m (by rfl) (aa (aq 1) (aa (aq 2) (aa (d8 (aq 3) az) (aa (d8 (aq 3) az) al))))))) cP)
   (aw (aL (ke (E8 E T) I.m (by rfl) (aa (aq 1) (aa (aq 2) (aa (d8 (aq 3) az) (aa (d8 (aq 3) az) al)))))))))))))
def CJ:=oC P w base E.X E.G E.y39 0 iS x_ (xE E.z (aJ P w)) λI u v=>(am (Hc (i:=1) iS.nd rfl (by walk_at "i") (xR al))
   (am (aZ (i:=2) iS.nd rfl (by walk_at "i") (l9 u (aq 0) (dS (by rfl) T.k_START)))
   (am (FI Ni (D6 CP (aq 2) D7 (cf _)) (am (dP (nL (aq 1) (aa (aq 2) al)))
   (aw (aZ (i:=2) iS.nd rfl (by walk_at "i") (l9 u (aq 0) (aq 2))))))
   (aw (xJ (i:=1) rfl (by first|exact Or.inl rfl|exact Or.inr (Or.inl rfl)))))))
theorem fX:∀{f:MF} {fd:NL},Fun3 K "slots" "Stroke.slots" dO f fd->FnOk P w K mg base pO 1 f fd Ae0 (b9 K (ay E.z (aJ P w))):=λF=>Ee 0 F qv pf (oW E.z (aJ P w)) λI u v=>(aw (aL (xR al)))
def fg:=Gh P w base T.cl_Dress E.y3a λF=>(fX E T) F
def eM:=Gh P w base T.cl_Strike E.y3b λF=>(fX E T) F
def eL:=Gh P w base T.cl_Stroke E.y3c λF=>(fX E T) F
def gn:=uf P w base mg T.cl_Put E.y3d 1 vR um (tZ E.z (aJ P w)) λI u v=>(aw (aL (aH (jf E T) I.m (by rfl) (aa (bv T.fa_name (aq 0)) (aa (bG b_len (by rfl) T.b_len PySem.boot_len (aa (bv T.fa_signs (aq 0)) al)) al)))))
def fK:=uf P w base mg T.cl_Move E.y3e 1 tS sK (rS E.z (aJ P w)) λI u v=>(aw (aL (aH (jf E T) I.m (by rfl) (aa (bv T.fa_name (aq 0)) (aa (bG b_len (by rfl) T.b_len PySem.boot_len (aa (bv T.fa_names (aq 0)) al)) al)))))
def AK:=oC P w base E.X E.G E.y3f 4 jQ wB (vT E.z (aJ P w)) λI u v=>(am (aZ (i:=2) jQ.nd rfl (by walk_at "i") (F3 u (dS (by rfl) T.k_START) D7))
   (am (dP (aH (oA E) I.m (by rfl) (aa (aq 2) (aa (dS (by rfl) T.k_START) (aa (aH (qp E T) I.m (by rfl) (aa (aq 0) al)) al)))))
   (am (iC Ni rfl (eT (hZ (T:=AG0) (M:=Am0) (bY rfl (by kernel_rfl)) (λcl C s₀ H₀ J=>⟨(a_ (i:=0) ue rfl (by walk_at "i")),jP,(aH (qo E T) I.m (by rfl) (aa (aq 0) al))⟩) (eT (aH (tG E T) I.m (by rfl) (aa (aq 1) al))))) (a_ (i:=3) jQ.nd rfl (by walk_at "i")) (aw (fh (zY u (bv T.fa_anchor (aq 3)) (aq 2)) (aw (dP (aH (oA E) I.m (by rfl) (aa (aq 2) (aa (bv T.fa_anchor (aq 3)) (aa (fR (k:=2) (all_cons ⟨_,(by decide),(eL E T)⟩ (all_cons ⟨_,(by decide),(gn E T)⟩ (all_cons ⟨_,(by decide),(eM E T)⟩ (all_cons ⟨_,(by decide),(fg E T)⟩ (all_cons ⟨_,(by decide),(fK E T)⟩ (λ_ h=>nomatch h)))))) I.m (aq 3)) al)))))) cP)))
   (aw (aL (aH (CJ E T) I.m (by rfl) (aa (aq 2) al)))))))
def zi:=oC P w base E.X E.G E.y3g 0 BI Ai (zN E.z (aJ P w)) λI u v=>(aw (aL (F2 u rfl (by rfl) T.b_dict (hZ (T:=["key"]) (M:=["keys"]) (bY rfl (by kernel_rfl)) (λcl C s₀ H₀ J=>⟨(a_ (i:=0) xU rfl (by walk_at "i")),jP,(fj (aa (aq 0) (aa wn al)))⟩) (eT (aq 0))))))
def zj:=oC P w base E.X E.G E.y3h 2 vO ui (tV E.z (aJ P w)) λI u v=>(aw (aL (bG (Jn rfl) (by rfl) T.b_all PyProof.Rows.boot_all (aa (hZ (T:=["slot"]) (M:=Av0) (bY rfl (by kernel_rfl)) (λcl C s₀ H₀ J=>⟨(a_ (i:=0) se rfl (by walk_at "i")),jP,(Kb u (aq 0) (aq 2))⟩) (eT (fR (k:=2) (all_cons ⟨_,(by decide),(eL E T)⟩ (all_cons ⟨_,(by decide),(gn E T)⟩ (all_cons ⟨_,(by decide),(eM E T)⟩ (all_cons ⟨_,(by decide),(fg E T)⟩ (all_cons ⟨_,(by decide),(fK E T)⟩ (λ_ h=>nomatch h)))))) I.m (aq 0)))) al))))
def zk:=oC P w base E.X E.G E.y3i 4 iR uj (tW E.z (aJ P w)) λI u v=>(am (aZ (i:=3) iR.nd rfl (by walk_at "i") (aH (zi E T) I.m (by rfl) (aa (aq 1) al)))
   (am (zR (T:=AG0) (M:=Af0) (i:=4) (bY rfl (by kernel_rfl)) iR.nd rfl rfl (λcl C s₀ H₀ J=>⟨(a_ (i:=0) si rfl (by walk_at "i")),(oF (zY u (d8 (aq 0) az) (aq 4))),(aH (qo E T) I.m (by rfl) (aa (aq 0) al))⟩) (eT (aH (tG E T) I.m (by rfl) (aa (aq 0) al))))
   (aw (aL (hZ (T:=["stroke"]) (M:=Af0) (bY rfl (by kernel_rfl)) (λcl C s₀ H₀ J=>⟨(a_ (i:=0) sf rfl (by walk_at "i")),(oF (fQ (aH (zj E T) I.m (by rfl) (aa (aq 0) (aa (aq 3) al))))),(aq 0)⟩) (eT (aq 4)))))))
def qL:=oC P w base E.X E.G E.y3j 2 cU nQ (nq E.z (aJ P w)) λI u v=>(am (aZ (i:=2) cU.nd rfl (by walk_at "i") (F1 u rfl (by rfl) T.b_dict (by rfl) T.b_zip (aa (aH (qp E T) I.m (by rfl) (aa (aq 0) al)) (aa (aq 0) al))))
   (am (iC Ni rfl (eT (aq 1)) (a_ (i:=3) cU.nd rfl (by walk_at "i")) (aw (fh (fQ (bG (Bn T.ik_Put) (by rfl) T.b_isinstance O7 (aa (aq 3) (aa (wj (by rfl) T.xm_Put) al)))) (aw (iC Ni rfl (Hn (by rfl) T.b_zip (aa (fR (k:=2) (all_cons ⟨_,(by decide),(eL E T)⟩ (all_cons ⟨_,(by decide),(gn E T)⟩ (all_cons ⟨_,(by decide),(eM E T)⟩ (all_cons ⟨_,(by decide),(fg E T)⟩ (all_cons ⟨_,(by decide),(fK E T)⟩ (λ_ h=>nomatch h)))))) I.m (aq 3)) (aa (bv T.fa_signs (aq 3)) al))) (Bf (n:=2) rfl (kC (a_ (i:=4) cU.nd rfl (by walk_at "i")) (kC (a_ (i:=5) cU.nd rfl (by walk_at "i")) Bg))) (aw (e7 u (aq 2) (aq 4) (aq 5))))) cP)))
   (aw (aL (aq 2)))))
theorem cK:∀{f:MF} {fd:NL},Fun3 K "touched" "Stroke.touched" bP f fd->FnOk P w K mg base pO 1 f fd Ae0 (b9 K (ak E.z (aJ P w))):=λF=>Ee 0 F mU mF (mv E.z (aJ P w)) λI u v=>(aw (aL (iF b_list (by rfl) T.b_list PyProof.Rows.boot_list (aa (bv T.fa_names (aq 0)) al))))
def fF:=Gh P w base T.cl_Dress E.y3k λF=>(cK E T) F
def fY:=Gh P w base T.cl_Move E.y3l λF=>(cK E T) F
def gK:=Gh P w base T.cl_Put E.y3m λF=>(cK E T) F
def ff:=Gh P w base T.cl_Strike E.y3n λF=>(cK E T) F
def fe:=Gh P w base T.cl_Stroke E.y3o λF=>(cK E T) F
def tF:=oC P w base E.X E.G E.y3p 1 eF pc (oU E.z (aJ P w)) λI u v=>(am (aZ (i:=1) eF.nd rfl (by walk_at "i") o6)
   (am (iC Ni rfl (eT (aq 0)) (a_ (i:=2) eF.nd rfl (by walk_at "i")) (aw (fh (fQ (bG (Bn T.ik_Strike) (by rfl) T.b_isinstance O7 (aa (aq 2) (aa (wj (by rfl) T.xm_Strike) al)))) (aw (iC Ni rfl (eT (fR (k:=1) (all_cons ⟨_,(by decide),(fe E T)⟩ (all_cons ⟨_,(by decide),(gK E T)⟩ (all_cons ⟨_,(by decide),(ff E T)⟩ (all_cons ⟨_,(by decide),(fF E T)⟩ (all_cons ⟨_,(by decide),(fY E T)⟩ (λ_ h=>nomatch h)))))) I.m (aq 2))) (a_ (i:=3) eF.nd rfl (by walk_at "i")) (aw (e7 u (aq 1) (aq 3) wn)))) cP)))
   (aw (aL (aq 1)))))
def uF:=oC P w base E.X E.G E.y3q 2 dN qE (qx E.z (aJ P w)) λI u v=>(am (aZ (i:=1) dN.nd rfl (by walk_at "i") o6)
   (am (iC Ni rfl (eT (aq 0)) (a_ (i:=2) dN.nd rfl (by walk_at "i")) (aw (fh (fQ (bG (Bn T.ik_Move) (by rfl) T.b_isinstance O7 (aa (aq 2) (aa (wj (by rfl) T.xm_Move) al)))) (aw (iC Ni rfl (Hn (by rfl) T.b_zip (aa (fR (k:=1) (all_cons ⟨_,(by decide),(fe E T)⟩ (all_cons ⟨_,(by decide),(gK E T)⟩ (all_cons ⟨_,(by decide),(ff E T)⟩ (all_cons ⟨_,(by decide),(fF E T)⟩ (all_cons ⟨_,(by decide),(fY E T)⟩ (λ_ h=>nomatch h)))))) I.m (aq 2)) (aa (fR (k:=2) (all_cons ⟨_,(by decide),(eL E T)⟩ (all_cons ⟨_,(by decide),(gn E T)⟩ (all_cons ⟨_,(by decide),(eM E T)⟩ (all_cons ⟨_,(by decide),(fg E T)⟩ (all_cons ⟨_,(by decide),(fK E T)⟩ (λ_ h=>nomatch h)))))) I.m (aq 2)) al))) (Bf (n:=2) rfl (kC (a_ (i:=3) dN.nd rfl (by walk_at "i")) (kC (a_ (i:=4) dN.nd rfl (by walk_at "i")) Bg))) (aw (e7 u (aq 1) (aq 3) (aq 4))))) cP)))
   (aw (aL (aq 1)))))
def xg:=oC P w base E.X E.G E.y3r 1 fH sv (rE E.z (aJ P w)) λI u v=>(am (aZ (i:=1) fH.nd rfl (by walk_at "i") o6)
   (am (iC Ni rfl (eT (aq 0)) (a_ (i:=2) fH.nd rfl (by walk_at "i")) (aw (fh (fQ (bG (Bn T.ik_Dress) (by rfl) T.b_isinstance O7 (aa (aq 2) (aa (wj (by rfl) T.xm_Dress) al)))) (aw (iC Ni rfl (eT (fR (k:=1) (all_cons ⟨_,(by decide),(fe E T)⟩ (all_cons ⟨_,(by decide),(gK E T)⟩ (all_cons ⟨_,(by decide),(ff E T)⟩ (all_cons ⟨_,(by decide),(fF E T)⟩ (all_cons ⟨_,(by decide),(fY E T)⟩ (λ_ h=>nomatch h)))))) I.m (aq 2))) (a_ (i:=3) fH.nd rfl (by walk_at "i")) (aw (e7 u (aq 1) (aq 3) (bv T.fa_word (aq 2)))))) cP)))
   (aw (aL (aq 1)))))
def zh:=oC P w base E.X E.G E.y3s 5 dy Ah (zM E.z (aJ P w)) λI u v=>(am (aZ (i:=3) dy.nd rfl (by walk_at "i") (aH (AK E T) I.m (by rfl) (aa (aq 0) (aa (aq 1) al))))
   (am (aZ (i:=4) dy.nd rfl (by walk_at "i") (aH (zk E T) I.m (by rfl) (aa (aq 1) (aa (aq 2) (aa (aH (zi E T) I.m (by rfl) (aa (aq 3) al)) al)))))
   (am (aZ (i:=5) dy.nd rfl (by walk_at "i") (aH (qL E T) I.m (by rfl) (aa (aq 0) (aa (aq 4) al))))
   (am (aZ (i:=6) dy.nd rfl (by walk_at "i") (aH (tF E T) I.m (by rfl) (aa (aq 4) al)))
   (am (aZ (i:=7) dy.nd rfl (by walk_at "i") (aH (uF E T) I.m (by rfl) (aa (aq 4) al)))
   (am (aZ (i:=8) dy.nd rfl (by walk_at "i") (aH (xg E T) I.m (by rfl) (aa (aq 4) al)))
   (am (aZ (i:=9) dy.nd rfl (by walk_at "i") o6)
   (am (HY Ni rfl (aq 5) (a_ (i:=10) dy.nd rfl (by walk_at "i")) (aw (fh (u4 u (aq 10) (aq 6)) (aw (e7 u (aq 9) (we u (aq 7) (aq 10) (aq 10)) (aq 10))) cP)))
   (am (zR (T:=["slot"]) (M:=Ab0) (i:=11) (bY rfl (by kernel_rfl)) dy.nd rfl rfl (λcl C s₀ H₀ J=>⟨(a_ (i:=0) xT rfl (by walk_at "i")),(oF (zY u (aq 0) (aq 10))),(fj (aa (aq 0) (aa (l9 u (aq 10) (aq 0)) al)))⟩) (eT (aq 3)))
   (aw (aL (hZ (T:=["slot","name"]) (M:=Ai0) (bY rfl (by kernel_rfl)) (λcl C s₀ H₀ J=>⟨(Bf (n:=2) rfl (kC (a_ (i:=0) p8 rfl (by walk_at "i")) (kC (a_ (i:=1) p8 rfl (by walk_at "i")) Bg))),jP,(fj (aa (aq 0) (aa (aq 1) (aa (l9 u (aq 7) (aq 1)) (aa (we u (aq 10) (aq 1) fk) al)))))⟩) (eT (aq 11))))))))))))))
def CI:=oC P w base E.X E.G E.y3t 6 zH x9 (xD E.z (aJ P w)) λI u v=>(aw (aL (hZ (T:=["seat"]) (M:=Ak0) (bY rfl (by kernel_rfl)) (λcl C s₀ H₀ J=>⟨(a_ (i:=0) wu rfl (by walk_at "i")),jP,(gW xo (aq 0) (h8 az) o8)⟩) (eT (aH (zh E T) I.m (by rfl) (aa (aq 0) (aa (aq 1) (aa (aq 2) al))))))))
def iM:=uf P w base mg T.cl_Paper E.y3u 0 oN nU (nv E.z (aJ P w)) λI u v=>(aw (aL (F4 (T:=AG0) (M:=Ae0) (bY rfl (by kernel_rfl)) (λcl C s₀ H₀ J=>⟨(a_ (i:=0) mC rfl (by walk_at "i")),(oF (cv (Bu u) (l9 u (gG T.cl_Paper T.na_Paper_states dh (aq 1)) (d8 (aq 0) az)) (dS (by rfl) T.k_WIPED) (cf _))),(d8 (aq 0) az)⟩) (gG T.cl_Paper T.na_Paper_drawn dZ (aq 0)))))
def bS:=uf P w base mg T.cl_Paper E.y3v 7 tP sG (rO E.z (aJ P w)) λI u v=>(aw (aL (aH (CI E T) I.m (by rfl) (aa (gG T.cl_Paper T.na_Paper_old on (aq 0)) (aa (gG T.cl_Paper T.na_Paper_drawn dZ (aq 0)) (aa (ce (iM E T) iG I.m (aq 0)) al))))))
def jB:=oC P w base E.X E.G E.y3w 0 oM nT (nt E.z (aJ P w)) λI u v=>(am (fh (j_ (iE zp CS az (aq 0) (aq 2))) (aw kU) cP)
   (aw (fh (j_ (iE CS zp (aq 0) (aq 1) (aq 2))) (aw kU) cP)))
def jA:=oC P w base E.X E.G E.y3x 0 oK nR (nr E.z (aJ P w)) λI u v=>(aw (aL (iF b_tuple (by rfl) T.b_tuple PyProof.Rows.boot_tuple (aa (hZ (T:=["seat"]) (M:=Aw0) (bY rfl (by kernel_rfl)) (λcl C s₀ H₀ J=>⟨(a_ (i:=0) mB rfl (by walk_at "i")),jP,(d8 (aq 0) az)⟩) (eT (gW xo (aq 0) (h8 (aq 1)) (h8 (aq 2))))) al))))
def gL:=uf P w base mg T.cl_Paper E.y3y 6 rp qH (qA E.z (aJ P w)) λI u v=>(aw (aL (aH (zh E T) I.m (by rfl) (aa (gG T.cl_Paper T.na_Paper_old on (aq 0)) (aa (gG T.cl_Paper T.na_Paper_drawn dZ (aq 0)) (aa (ce (iM E T) iG I.m (aq 0)) al))))))
def AH:=uf P w base mg T.cl_Put E.y3z 0 zI yA (xF E.z (aJ P w)) λI u v=>(aw (aL (fj (aa (bv T.fa_name (aq 0)) (aa (bv T.fa_time (aq 0)) (aa (fj (aa fk (aa (bv T.fa_anchor (aq 0)) (aa (bv T.fa_signs (aq 0)) al)))) al))))))
def uz:=uf P w base mg T.cl_Strike E.y40 0 tN sE (rM E.z (aJ P w)) λI u v=>(aw (aL (fj (aa (bv T.fa_name (aq 0)) (aa (bv T.fa_time (aq 0)) (aa (fj (aa fk (aa (bv T.fa_names (aq 0)) al))) al))))))
def xf:=uf P w base mg T.cl_Dress E.y41 0 vS uq (t9 E.z (aJ P w)) λI u v=>(aw (aL (fj (aa (bv T.fa_name (aq 0)) (aa (bv T.fa_time (aq 0)) (aa (fj (aa fk (aa (bv T.fa_names (aq 0)) (aa (bv T.fa_word (aq 0)) al)))) al))))))
def ze:=uf P w base mg T.cl_Move E.y42 0 xy wD (vV E.z (aJ P w)) λI u v=>(aw (aL (fj (aa (bv T.fa_name (aq 0)) (aa (bv T.fa_time (aq 0)) (aa (fj (aa fk (aa (bv T.fa_names (aq 0)) (aa (bv T.fa_anchor (aq 0)) al)))) al))))))
def ie:=uf P w base mg T.cl_Paper E.y43 1 tR sJ (rR E.z (aJ P w)) λI u v=>(am (dP (nL (gG T.cl_Paper T.na_Paper_drawn dZ (aq 0)) (aa (fR (k:=1) (all_cons ⟨_,(by decide),(AH E T)⟩ (all_cons ⟨_,(by decide),(uz E T)⟩ (all_cons ⟨_,(by decide),(xf E T)⟩ (all_cons ⟨_,(by decide),(ze E T)⟩ (λ_ h=>nomatch h))))) I.m (aq 1)) al)))
   (am (e7 u (gG T.cl_Paper T.na_Paper_states dh (aq 0)) (bv T.fa_name (aq 1)) (dS (by rfl) T.k_WAITS))
   (am (e7 u (gG T.cl_Paper T.na_Paper_greatest gY (aq 0)) (d8 (bv T.fa_name (aq 1)) az) (d8 (bv T.fa_name (aq 1)) az))
   (am (J1 T.cl_Paper T.na_Paper_time me (by decide) (aq 0) (bv T.fa_time (aq 1)))
   (aw (aL (bv T.fa_name (aq 1))))))))
def d5:=uf P w base mg T.cl_Paper E.y44 0 jT jH (jD E.z (aJ P w)) λI u v=>(aw (aL (fj (aa (aq 1) (aa (cr eg (we u (gG T.cl_Paper T.na_Paper_greatest gY (aq 0)) (aq 1) az) az) al)))))
def d4:=uf P w base mg T.cl_Paper E.y45 0 jS jG (jC E.z (aJ P w)) λI u v=>(aw (aL (cr eg (gG T.cl_Paper T.na_Paper_time me (aq 0)) az)))
def jz:=uf P w base mg T.cl_Paper E.y46 7 jj pi (oY E.z (aJ P w)) λI u v=>(am (aZ (i:=4) jj.nd rfl (by walk_at "i") (ce (gL E T) gH I.m (aq 0)))
   (am (dP (aH (jB E) I.m (by rfl) (aa (aq 2) (aa (aq 3) (aa (bG b_len (by rfl) T.b_len PySem.boot_len (aa (aq 4) al)) al)))))
   (aw (aL (dR (ie E T) h9 I.m (aq 0) (aa (ke (zf E T) I.m (by rfl) (aa (dR (d5 E T) dX I.m (aq 0) (aa (aq 1) al)) (aa (ce (d4 E T) dW I.m (aq 0)) (aa (aH (jA E T) I.m (by rfl) (aa (aq 4) (aa (aq 2) (aa (aq 3) al)))) al)))) al))))))
def Jw:=oC P w base E.X E.G E.y47 8 mT El (Dx E.z (aJ P w)) λI u v=>(am (aZ (i:=3) mT.nd rfl (by walk_at "i") (aH (oz E T) I.m (by rfl) (aa (ce (bS E T) bR I.m (aq 0)) al)))
   (am (fh (j_ (iE zp CS az (aq 2) (cr xn (bG b_len (by rfl) T.b_len PySem.boot_len (aa (aq 3) al)) az))) (aw kU) cP)
   (am (aZ (i:=4) mT.nd rfl (by walk_at "i") (d8 (d8 (aq 3) (aq 2)) az))
   (aw (aL (dR (jz E T) jx I.m (aq 0) (aa (aq 1) (aa (aq 4) (aa (cr eg (aq 4) az) al)))))))))
def iN:=uf P w base mg T.cl_Paper E.y48 0 oO nV (nw E.z (aJ P w)) λI u v=>(aw (aL (iF b_list (by rfl) T.b_list PyProof.Rows.boot_list (aa (gG T.cl_Paper T.na_Paper_drawn dZ (aq 0)) al))))
theorem Me:L2.XMk K Sj e0f "at":=⟨⟨_,_,_,_,_,_,_,_,_,_,_,_,_,_,_,_,E.ya,E.yb,E.yc⟩,E.yd,E.ye,E.yf,E.yg,⟨_,E.yh,E.yi,E.yj,E.yk,E.yl⟩,E.ym⟩
theorem uH:ErX P w K mg base 1 "OutOfPlace" Sj "at":=⟨_,_,_,(Me E T),Ty E.X E.G E.y7,Gw (i9 (st:=bI) E.yn E.yo) iT (Me E T) rfl (Or.inl rfl) (Or.inl rfl),(.all λus I=>by obtain⟨_,_,rfl⟩:=JC (us:=us) I;rfl)⟩
def GU:=LL P w base E.X E.G E.y47 101 mT B4 (BJ E.z (aJ P w) Sj) λI u v=>(CT (Lb (aZ (i:=3) mT.nd rfl (by walk_at "i") (aH (oz E T) I.m (by rfl) (aa (ce (bS E T) bR I.m (aq 0)) al))))
   (CT (Ld (j_ (iE zp CS az (aq 2) (cr xn (bG b_len (by rfl) T.b_len PySem.boot_len (aa (aq 3) al)) az))) (JA (Fj Jb (uH E T) I.m (by rfl) (aa (aq 2) al))) (GX cP))
   (GX DG)))
def tH:=oC P w base E.X E.G E.y49 102 eG pd (oV E.z (aJ P w) Sm Sj Sn So) λI u v=>(am (aZ (i:=3) eG.nd rfl (by walk_at "i") (iF b_list (by rfl) T.b_list PyProof.Rows.boot_list (aa (ce (iN E T) iH I.m (aq 0)) al)))
   (am (aZ (i:=4) eG.nd rfl (by walk_at "i") (iF b_list (by rfl) T.b_list PyProof.Rows.boot_list (aa (ce (bS E T) bR I.m (aq 0)) al)))
   (am (J0 (ok:=λC a=>C=Sj/\a="at") (GU E T) I.m (by rfl) (aa (aq 0) (aa (aq 1) (aa (aq 2) al))) rfl rfl eG.nd (i:=5) rfl rfl (by rfl) T.xm_QuillError (λC a h=>by obtain⟨rfl,rfl⟩:=h;exact T.xe_OutOfPlace_QuillError)
   (λC a z x o dx od h J=>by obtain⟨rfl,rfl⟩:=h;exact (am (fh (PW.pt (HB (j_ (fQ (bG (KB J T.xa_OutOfPlace (.inl ⟨_,rfl⟩) T.xk_OutOfPlace) (by rfl) T.b_isinstance O7 (aa (aq 5) (aa (Iu (by rfl) T.xm_OutOfPlace) al))))) (CY (cv (Bu u) (J9 J T.xa_OutOfPlace (aq 5)) (aq 2) (cf _))))) (aw (aL wn)) cP)
   (aw (aL (Kd (wg (lf u) (ce (iN E T) iH I.mrk (aq 0)) (aq 3) (cf _)) (Ka (wg (lf u) (ce (bS E T) bR I.mrk (aq 0)) (aq 4) (cf _)))))))))
   (aw (aL wn)))))
def kO:=uf P w base mg T.cl_Paper E.y4a 0 jV jJ (jF E.z (aJ P w)) λI u v=>(aw (fh (u4 u (aq 1) (gG T.cl_Paper T.na_Paper_states dh (aq 0))) (aw kU) cP))
def kM:=uf P w base mg T.cl_Paper E.y4b 1 rm qG (qz E.z (aJ P w)) λI u v=>(am (dP (dR (kO E T) ko I.m (aq 0) (aa (aq 1) al)))
   (aw (aL (l9 u (gG T.cl_Paper T.na_Paper_states dh (aq 0)) (aq 1)))))
def kN:=uf P w base mg T.cl_Paper E.y4c 2 jU jI (jE E.z (aJ P w)) λI u v=>(aw (fh (cv (Bu u) (dR (kM E T) kj I.m (aq 0) (aa (aq 1) al)) (dS (by rfl) T.k_WAITS) (cf _)) (aw kU) cP))
def uA:=uf P w base mg T.cl_Paper E.y4d 3 tO sF (rN E.z (aJ P w)) λI u v=>(am (dP (dR (kN E T) km I.m (aq 0) (aa (aq 1) al)))
   (aw (e7 u (gG T.cl_Paper T.na_Paper_states dh (aq 0)) (aq 1) (dS (by rfl) T.k_WIPED))))
def uG:=oC P w base E.X E.G E.y4e 103 eY qF (qy E.z (aJ P w)) λI u v=>(am (aZ (i:=5) eY.nd rfl (by walk_at "i") (iF b_list (by rfl) T.b_list PyProof.Rows.boot_list (aa (ce (bS E T) bR I.m (aq 0)) al)))
   (am (zR (T:=["_law_at"]) (M:=Ad0) (i:=6) (bY rfl (by kernel_rfl)) eY.nd rfl rfl (λcl C s₀ H₀ J=>⟨(a_ (i:=0) o9 rfl (by walk_at "i")),(oF (cv (lf u) (d8 (d8 (aq 6) (aq 0)) az) fk (cf _))),(aq 0)⟩) (yI (by rfl) T.b_range (aa (bG b_len (by rfl) T.b_len PySem.boot_len (aa (aq 5) al)) al)))
   (am (fh (j_ (iE zp CS az (aq 2) (bG b_len (by rfl) T.b_len PySem.boot_len (aa (aq 6) al)))) (aw (aL (aH (tH E T) I.m (by rfl) (aa (aq 0) (aa (aq 1) (aa (aq 2) al)))))) cP)
   (am (aZ (i:=7) eY.nd rfl (by walk_at "i") (aH (Jw E T) I.m (by rfl) (aa (aq 0) (aa (aq 1) (aa (aq 2) al)))))
   (am (e7 u (aq 3) (aq 1) (cr eg (l9 u (aq 3) (aq 1)) az))
   (am (fh (PW.pt (HB (cv (Bu u) (aq 7) (fj (aa (aq 1) (aa (l9 u (aq 3) (aq 1)) al))) (cf _)) (CY (cv (Bu u) (dR (kM E T) kj I.m (aq 0) (aa (aq 7) al)) fk (cf _))))) (aw (aL wn)) cP)
   (am (fh (cv (Bu u) (ce (bS E T) bR I.m (aq 0)) (cr eg (gW xo (aq 5) o8 (h8 (d8 (aq 6) (aq 2)))) (gW xo (aq 5) (h8 (cr eg (d8 (aq 6) (aq 2)) az)) o8)) (cf _)) (aw (aL wn)) cP)
   (am (fh (fQ (aq 4)) (am (dP (dR (uA E T) t_ I.m (aq 0) (aa (aq 7) al)))
   (aw (aL (wg (lf u) (ce (bS E T) bR I.m (aq 0)) (aq 5) (cf _))))) cP)
   (aw (aL wn))))))))))
def qr:=oC P w base E.X E.G E.y4f 0 vP uk (tX E.z (aJ P w)) λI u v=>(aw (fh (j_ (iE zp zp az (aq 0) (aq 1))) (aw kU) cP))
def qt:=oC P w base E.X E.G E.y4g 0 vQ ul (tY E.z (aJ P w)) λI u v=>(am (fh (cv (lf u) (aq 1) az (cf _)) (aw (aL (dS (by rfl) T.k_START))) cP)
   (aw (aL (d8 (d8 (aq 0) (cr xn (aq 1) az)) az))))
def ow:=uf P w base mg T.cl_Paper E.y4h 7 mV uo (t7 E.z (aJ P w)) λI u v=>(am (aZ (i:=4) mV.nd rfl (by walk_at "i") (ce (gL E T) gH I.m (aq 0)))
   (am (dP (aH (qr E) I.m (by rfl) (aa (aq 2) (aa (bG b_len (by rfl) T.b_len PySem.boot_len (aa (aq 4) al)) al))))
   (aw (aL (dR (ie E T) h9 I.m (aq 0) (aa (ke (Hw E T) I.m (by rfl) (aa (dR (d5 E T) dX I.m (aq 0) (aa (aq 1) al)) (aa (ce (d4 E T) dW I.m (aq 0)) (aa (aH (qt E T) I.m (by rfl) (aa (aq 4) (aa (aq 2) al))) (aa (aq 3) al))))) al))))))
def uB:=uf P w base mg T.cl_Paper E.y4i 8 tQ sH (rP E.z (aJ P w)) λI u v=>(aw (aL (dR (ow E T) nM I.m (aq 0) (aa (aq 1) (aa (aq 2) (aa fk al))))))
def uC:=uf P w base mg T.cl_Paper E.y4j 7 hU sI (rQ E.z (aJ P w)) λI u v=>(am (aZ (i:=5) hU.nd rfl (by walk_at "i") (ce (gL E T) gH I.m (aq 0)))
   (am (dP (aH (jB E) I.m (by rfl) (aa (aq 2) (aa (aq 3) (aa (bG b_len (by rfl) T.b_len PySem.boot_len (aa (aq 5) al)) al)))))
   (am (dP (aH (qr E) I.m (by rfl) (aa (aq 4) (aa (bG b_len (by rfl) T.b_len PySem.boot_len (aa (aq 5) al)) al))))
   (am (aZ (i:=6) hU.nd rfl (by walk_at "i") (aH (jA E T) I.m (by rfl) (aa (aq 5) (aa (aq 2) (aa (aq 3) al)))))
   (aw (aL (dR (ie E T) h9 I.m (aq 0) (aa (ke (E8 E T) I.m (by rfl) (aa (dR (d5 E T) dX I.m (aq 0) (aa (aq 1) al)) (aa (ce (d4 E T) dW I.m (aq 0)) (aa (aq 6) (aa (aH (qt E T) I.m (by rfl) (aa (aq 5) (aa (aq 4) al))) al))))) al))))))))
def xh:=oC P w base E.X E.G E.y4k 103 dA sC (rK E.z (aJ P w)) λI u v=>(am (aZ (i:=3) dA.nd rfl (by walk_at "i") (bG b_len (by rfl) T.b_len PySem.boot_len (aa (ce (bS E T) bR I.m (aq 0)) al)))
   (am (aZ (i:=4) dA.nd rfl (by walk_at "i") (cr gu (aH (bT E) I.m (by rfl) (aa (aq 2) (aa az al))) az))
   (am (aZ (i:=5) dA.nd rfl (by walk_at "i") (cr gu (aH (bT E) I.m (by rfl) (aa (aq 2) (aa az al))) (cr eg (aq 3) az)))
   (am (fh (PW.pt (HB (cv (lf u) (aq 4) az (cf _)) (CY (cv (lf u) (aq 3) az (cf _))))) (aw (aL (dR (uB E T) uc I.m (aq 0) (aa (aq 1) (aa (aq 5) al))))) cP)
   (am (fh (cv (lf u) (aq 4) az (cf _)) (aw (aL (dR (ow E T) nM I.m (aq 0) (aa (aq 1) (aa (aq 5) (aa (aH (oB E T) I.m (by rfl) (aa (aq 2) (aa (cr eg az (cr gu (aH (bT E) I.m (by rfl) (aa (aq 2) (aa az al))) az)) al))) al)))))) cP)
   (am (aZ (i:=5) dA.nd rfl (by walk_at "i") (cr gu (aq 5) (aq 3)))
   (am (aZ (i:=6) dA.nd rfl (by walk_at "i") (cr eg (cr eg (aq 5) az) (cr gu (aH (bT E) I.m (by rfl) (aa (aq 2) (aa az al))) (bG (b_min rfl) (by rfl) T.b_min boot_min (aa az (aa (cr xn (aq 3) (aq 5)) al))))))
   (am (fh (cv (lf u) (aq 4) az (cf _)) (aw (aL (dR (jz E T) jx I.m (aq 0) (aa (aq 1) (aa (aq 5) (aa (aq 6) al)))))) cP)
   (aw (aL (dR (uC E T) ud I.m (aq 0) (aa (aq 1) (aa (aq 5) (aa (aq 6) (aa (cr gu (aH (bT E) I.m (by rfl) (aa (aq 2) (aa az al))) (cr eg (aq 3) az)) al)))))))))))))))
def GR:=Kk P w base E.X E.G E.y5 E.y26 E.y27 E.y4l λF=>Ee 0 F mW mG (mx E.z (aJ P w)) λI u v=>(am (rZ (L:=[]) T.cl_Paper T.na_Paper_old (by decide +kernel) (by decide) (aq 0) (aq 1))
   (am (rZ (L:=["old"]) T.cl_Paper T.na_Paper_drawn (by decide +kernel) (by decide) (aq 0) (Ir (xR al)))
   (am (rZ (L:=["old","drawn"]) T.cl_Paper T.na_Paper_states (by decide +kernel) (by decide) (aq 0) o6)
   (am (rZ (L:=AF0) T.cl_Paper T.na_Paper_greatest (by decide +kernel) (by decide) (aq 0) D8)
   (aw (rZ (L:=["old","drawn","states","greatest"]) T.cl_Paper T.na_Paper_time (by decide +kernel) (by decide) (aq 0) az))))))
omit T
theorem all_mk{fa:MF}(J:mg "law"=some (.ref fa)):
  ∃fd:NL,(∀(s:MD) (v:MC),QQ s fd ⟨[v],[]⟩ [("_law_script",v)])/\∀base:MY,K.In base->base.Ns MT mg->FnOk P w K mg base pO 105 fa fd ["_law_script"] (b9 K vK):=by
 have T:=Ms E;obtain⟨f,a,⟨⟨_,_,an,_,kV,dc,pm,cd,ct,l,c⟩⟩,_⟩:=E.y4m.ex;have e:=J.symm.trans (Ty E.X E.G a);cases e;have F:=i9 (st:=uS) l c;refine⟨Ub "law" "law" (fc uS) (cQ uS) (ah uS) .none kV dc pm an cd ct,λs v=>.of_eq rfl,λbase _ _=>?_⟩;exact Ee 104 F hJ (@Gn E.z (aJ P w)) (FF E.z (aJ P w)) λI u v=>(am (aZ (i:=1) hJ.nd rfl (by walk_at "i") (bG (b_sum rfl) (by rfl) T.b_sum boot_sum (aa (gW xo (aq 0) o8 (h8 az)) al)))
   (am (aZ (i:=2) hJ.nd rfl (by walk_at "i") (ke (GR E T) I.m (by rfl) (aa (aH (oB E T) I.m (by rfl) (aa (cr GY (aq 1) az) (aa (cr gu (aq 1) az) al))) al)))
   (am (aZ (i:=3) hJ.nd rfl (by walk_at "i") (xR (aa fk (aa fk (aa (cr eg fk (gW xo fk o8 (h8 (cr eg az (cr gu (aq 1) az))))) al)))))
   (am (aZ (i:=4) hJ.nd rfl (by walk_at "i") D8)
   (am (iC Ni rfl (eT (aq 3)) (a_ (i:=5) hJ.nd rfl (by walk_at "i")) (aw (e7 u (aq 4) (aq 5) az)))
   (am (iC Ni rfl (eT (gW xo (aq 0) (h8 az) (h8 az))) (a_ (i:=1) hJ.nd rfl (by walk_at "i")) (am (aZ (i:=5) hJ.nd rfl (by walk_at "i") (d8 (aq 3) (cr gu (aH (bT E) I.m (by rfl) (aa (aq 1) (aa az al))) az)))
   (aw (fh (cv (lf u) (cr gu (aH (bT E) I.m (by rfl) (aa (aq 1) (aa az al))) az) az (cf _)) (am (aZ (i:=6) hJ.nd rfl (by walk_at "i") (bG b_len (by rfl) T.b_len PySem.boot_len (aa (hZ (T:=["_law_row"]) (M:=Ac0) (bY rfl (by kernel_rfl)) (λcl C s₀ H₀ L=>⟨(a_ (i:=0) Ed rfl (by walk_at "i")),(oF (cv (lf u) (d8 (aq 0) az) fk (cf _))),(aq 0)⟩) (eT (ce (bS E T) bR I.m (aq 2)))) al)))
   (am (aZ (i:=7) hJ.nd rfl (by walk_at "i") (cr xn (cr gu (aH (bT E) I.m (by rfl) (aa (aq 1) (aa az al))) (cr eg (aq 6) az)) az))
   (aw (fh (j_ (fQ (aH (uG E T) I.m (by rfl) (aa (aq 2) (aa (aq 5) (aa (aq 7) (aa (aq 4) (aa (wg (lf u) (cr gu (aH (bT E) I.m (by rfl) (aa (aq 1) (aa az al))) az) az (cf _)) al)))))))) (aw (aL wn)) cP)))) (aw (fh (D6 CP (aH (xh E T) I.m (by rfl) (aa (aq 2) (aa (aq 5) (aa (aq 1) al)))) D7 (cf _)) (aw (e7 u (aq 4) (aq 5) (cr eg (l9 u (aq 4) (aq 5)) az))) cP))))))
   (aw (aL wn))))))))
end
end RQ
open PySem PySem.W PyProof.Rows
namespace PySem.W.Fast
local macro_rules|`(include $x $[$y]*)=>return Lean.mkNullNode (←((y.toList.map fun i=>i.getId.toString)++[("o",List.range' 43 846),("tree",[47,70,92,114,164,221,264,293,322,372,450,474,674,759,847,888]),("sts",[49,71,93,115,165,222,265,294,323,373,451,475,851]),("heap",[39,46,889]),("env",[41]),("view",[39])].flatMap fun(p,l)=>l.map fun i=>s!"tw{(x.getId.str s!"{p}_{i}").hash}").toArray.mapM fun i=>`(command|noncomputable def $(Lean.mkIdent (.mkSimple i)):ident:=0))
include PySem.Challenge.cw_redquill_k44_joined_holds tw4060201098576704340 tw10068578288608056645
end PySem.W.Fast
set_option maxRecDepth 100000 in
set_option maxHeartbeats 0 in
theorem PySem.Challenge.cw_redquill_k44_joined_holds : PySem.Challenge.rw_redquill_k44_joined.Holds := by
 w_on;o_law;k_head;(case hw=>w_witness2)
 k_fill
 refine L3.walk3 (l:=PySem.Challenge.rw_redquill_k44_joined) (k:=105) (x:="_law_script") rfl rfl ⟨λ_=>rfl,by decide,by decide⟩ (λw h Y=>PySem.W.kIn_of Y) ?F
 case F=>
  intro w mg fa h KX G hmg;refine' RQ.all_mk (.mk KX G ..) hmg
  all_goals (first | k_is | kernel_rfl | (intro _; kernel_rfl) | (refine' L3.fnG_mk ?a ?l ?c ?k; (case a => k_is); (case l => k_is); (case c => k_is); (case k => k_is)) | (refine' L3.mtG_mk ?a ?i ?l ?c ?k; (case a => k_is); (case i => k_is); (case l => k_is); (case c => k_is); (case k => k_is)) | (refine' L2.Cls.mk ?a ?b ?c ?d; (case a => k_is); (case b => k_is); (case c => k_is); (case d => k_is)) | (refine' L3.mtD_mk ?a ?i ?l ?c ?k ?d; (case a => k_is); (case i => k_is); (case l => k_is); (case c => k_is); (case k => k_is); (case d => k_is)) | (refine' L3.cfG_mk ?g ?r ?a ?l ?c ?k; (case g => k_is); (case r => k_is); (case a => k_is); (case l => k_is); (case c => k_is); (case k => k_is)) | skip)
