import PyProof.Rows.All
import Wide.All
import OpenK.AllK
import Wide.FinOn
import Lean
import PyProof.EqAt
import PyProof.EqKinds
import PyProof.TupleCall
import PySem.Challenge.RW_redquill_k73_held_as_a_paper
set_option Elab.async false
set_option linter.all false
set_option maxRecDepth 100000
set_option maxHeartbeats 4000000
open PySem renaming wpAny_bind->NN,Value->NO,Shared->NP,wpAny_pure->NQ,Addr->NR,sizeLine->NY,wpAny->NZ,model->N4,starEach->N5,Program->N_,mainGlobals->Oa,Around->Oc,Heap->Of,World->Og,Expr->Oj,Stmt->Op,compareOp->Oy,wpAny_newObj_type->OE,wpAny_holding->OH,tupleKind_room_in1->OJ,sysModules->OK,cLine->OL,wpAny_passesOwn->OM,wpAny_mono->ON,wpAny_call_entry->OQ,wpAny_callSpecial?_slot->OR,behindInMarks->OT,foldedSetIterable->OU,sizeLine_eq->OV,backTo->OW,wpAny_setField_rec->OX,tupleKind->OY,FuncData->O4,wpAny_field->O6,binaryOp->Pd,bootBuiltins->Ph,attributeBase->Pk,wpAny_typeNameOfWhole_valiter->Po,wpAny_typeNameOfWhole_keyiter->Pq,sliceBounds->Pr,keywordEach->Ps,pyNext->Pu,assignEach->Pw,builtinLookup_eq_fast->PF,wpAny_truthy_bool->PH,wpAny_dictEntries->PJ,wpAny_seqItems->PL,strIterType->PM,rawInt->PN,swapsWith->PQ,wpAny_typeNameOf_valiter->PZ,wpAny_typeNameOf_keyiter->P0,wpAny_attempt->P4,wpAny_dictEpoch->P9,letOwnedTupleGo->Qa,wpAny_Call_Name_kw->Qb,IsPair->Qd,Scope->Qk,codeAny->Qo,backToKw->Qq,atKey->Qr,wpAny_execs_nil->Qs,typeLookup_type->Qt,standAt->Qw,getMethod->QB,typeLookup->QD,pyIter->QE,getattributeRaised->QH,NameKind->QJ,wpAny_pyIter_list->QL,Paired->QR,wpAny_isInstance->QT,getItem->QX,codeAny_mono->QZ,IsPart->Q0,CmpOp->Q5,wpAny_notOrdered_dict->Q6,wpAny_isOneOf_valiter->Q7,wpAny_updateSeq_pair->Q8,wpAny_setField->Q9,wpAny_letGo->Q_,wpAny_fieldsOf->Ra,firstArgMember->Rf,storedH->Rj,callerA->Rl,PassesOwn->Rm,Keyword->Rn,wpAny_standAt->Rp,wpAny_onRaise->Rq,wpAny_rule->Rt,wpAny_typeOf->Rv,wpAny_pyIter_slot->Rx,valueAt->Ry,getAttr?->RC,call_meetsIn->RF,callWith->RH,subscripted->RP,wpAny_specialOf->RX,relabel->RY,BindsTo->R0,wpAny_newTuple->R1,typeIs_str->R4,isSubtype_stop->R8,SetTable->Sa,wpAny_comprehension_free->Sd,plainId_quiet->Se,wpAny_getItem_str_slice->Sh,partValue->Si,meetsH_dict_get_default->Sm,bindL->Sq,bindC->Sr,wpAny_pyNext_list_item->Sw,isTrue->SA,concat_meets->SB,Result->SC,wpAny_pyNext_list_end->SH,wpAny_isTrue_Compare1->SI,wpAny_isOneOf_keyiter->SJ,setField->SL,seqIndex_of->SM,loadIfAlive->SN,GenState->SS,Draws->SU,codeAny_forLoop_any->SX,wpAny_setItem_heap->SY,wpAny_getItem_heap->SZ,wpAny_dictSet_heap->S0,wpAny_call->S1,wpAny_Name->S2,sub_AttributeError->S3,sliceRange->S4,closureFor->S8,call_meets->S9,builtinsNs->S_,wpAny_pyIter_enum->Td,wpAny_assign_Name->Te,setItem->Th
open List renaming length_map->NS,getElem?_eq_getElem->NV,mem_cons_of_mem->N0,mem_cons_self->N3,size_toArray->N6,getElem?_map->N8,mem_of_getElem?->N9,length_cons->Ob,map_cons->Od,getD_eq_getElem?_getD->Oe,set_cons_zero->Oh,map_append->Ol,take_add_one->Om,length_append->On,take_length->Oo,map_map->Ot,length_take->Ou,getElem?_cons_succ->Ov,find?_cons->Ow,mem_append_right->Ox,mem_cons->Oz,set_cons_succ->OA,length_nil->OB,getElem?_cons_zero->OC,not_mem_nil->OF,getElem?_eq_none->OI,append_nil->OO,drop_eq_getElem_cons->OS,map_congr_left->O0,lookup_cons->O7,length_drop->O8,length_filter_le->O_,filterMap_cons->Pc,mem_of_mem_take->Pg,nodup_cons->Pi,nil_append->Pj,take_append_drop->Pl,append_assoc->Px,getElem?_set_ne->PB,cons_append->PP,reverse_cons->PR,length_singleton->PV,zip_cons_cons->PY,filter_append->P5,mem_append_left->P_,forIn_cons->Qc,length_reverse->Qg,getElem_of_mem->Qi,flatMap_append->Qj,getElem_mem->Qp,pairwise_map->Qx,map_nil->Qy,length_range->Qz,drop_zero->QC,of_mem_zip->QF,length_zip->QG,forIn_nil->QU,foldl_cons->QY,map_take->Rc,map_drop->Re,drop_length->Rg,countP_cons->Rh,any_cons->Ri,mem_singleton->Rs,nodup_nil->RM,mem_append->S5
open PySem.Heap renaming get?_push_of_some->NT,get?_push_size->NW,lt_size->N7,size_push->Pf,get?_update_other->Py,SameBut->Pz,get?_update_self->Ql,get?_push_ne->RI
open PySem.Str renaming ofString->NU,length->Pe,append->R_
open PySem.PassesOwn renaming never->Oi
open Nat renaming ne_of_lt->Oq,lt_of_lt_of_le->Os,zero_le->OD,lt_or_ge->Pm,lt_succ_self->PU,le_succ->QM,ne_of_gt->Rb,succ_pos->Rz,sub_zero->RA,sub_self->RB
open PySem.Builtin.SmallTypes renaming nextOf->OG,ownedTupleIsFree->O9,ownedTupleHandOut->Ro
open PySem.Calls renaming spliced_cons->OP,spliced_nil->O1,callWith_builtin->Q1,Name_function_global->Sb,evalArgs_plain->SV
open PySem.W renaming kitOne->OZ,mg_none_of->Pa,kas_rev->PK,kas_tail3->Qe,emptyDict->Qf,kas_desc->Qh,kia_one->Qn,methodCall_KW->QO,kas_descPart->QV,instObj->QW,kas_place->Rk,callWith_K->Ru,plainGet_of->RT,kas_bin->RZ,plainGet->R6,mroIn->R7,Frag->Sf,methodObj->Sj,kas_count->Sn,hasDictIn->So,keepIn->Sz,kas_sort->SO,lookIn->S6,codeIn->S7,KasT->Tc,takesIn->Tf,takerIn->Tg,findIn->ST,nsIn->Tm,mg_of->Ty,makesIn->Uo,fnOf->Up,specialIn->Uq,isFn->Ur
open PySem.Obj renaming mapSeq->O2,data_mapFields->QI,mapFields->QS,isFreed_of_fields->SK,cls_mapFields->Ti
open PySem.Builtin.Dict_items renaming ownsTuple->O3
open PySem.Builtin.Str renaming strSliceIndices->O5
open PySem.F renaming slot_dict_valueiterator_next->Pn,slot_dict_keyiterator_next->PD,slot_zip_next->Q4,args_dict_valueiterator_next_1->RJ,entry_dict_valueiterator_next->RL,args_dict_keyiterator_next_1->RN,entry_dict_keyiterator_next->RW,slot_dict_values_iter->Ss,args_zip_next_1->Tk
open PyProof.Rows renaming seqObj->Pt,boot_isinstance->Qu,AllBare->QN,listUpdate_at->QP,envOfC->QQ,get?_update_seq->Q2,subscriptTail->Rr,Call_->RK,mirror_perm->RU,size_push'->R5,Subscript_->R9,subscriptTail_builtinR->Sx,listItems_at->Sy,IntsAre->SD,bubble_size->SQ,boot_range->Ta
open PySem.Builtin.Slice renaming slicePlaces->PX,sliceAdjust->QK,sliceApplied->Sc
open PySem.Paired renaming length->P6,snoc->RV
open PySem.Builtin.Tuple renaming tupleExact->P8
open PySem.Builtin.Dict renaming showsAll->Qm,updateFrom->Sv,pairItems->SF
open PySem.Heap.SameBut renaming update->Qv,refl->Tj
open PySem.Builtin.List renaming listExtendWith->QA,listSameRef->Sg,listUpdate->Su
open PySem.Code renaming isFrame->SE
open PySem.Around renaming under->SG,under_plainId->SW
open PySem.Txt renaming join->SR
noncomputable section
open List (mem_filter mem_range mem_filterMap mem_map)
open Nat (le_trans le_of_lt le_refl)
abbrev Aa0:List PySem.Str:=["_law_script","_law_old","_law_new","_law_pen_here","_law_paper","_law_rows","_law_again","_law_name"]
abbrev Ab0:List PySem.Str:=["name","time","anchor","names"]
abbrev Ac0:List PySem.Str:=["old","strokes","standing","row","working","brought","struck","taken","worn","sitting","name","seats"]
abbrev Ad0:List PySem.Str:=["self"]
abbrev Ae0:List PySem.Str:=["_law_cell","_law_some","_law_first","_law_size","_law_wide","_law_start"]
abbrev Af0:List PySem.Str:=["strokes","standing","in_row","stands","chosen"]
abbrev Ag0:List PySem.Str:=["name","time","anchor","names","signs"]
abbrev Ah0:List PySem.Str:=["name","time","anchor","names","word"]
abbrev Ai0:List PySem.Str:=["old","strokes","standing","row","working","brought","struck","taken","worn","sitting","-name","seats"]
abbrev Aj0:List PySem.Str:=["_law_script","_law_old","_law_new","_law_pen_here","_law_paper","_law_rows","_law_again","-_law_name"]
abbrev Ak0:List PySem.Str:=["self","name"]
abbrev Al0:List PySem.Str:=["old","strokes","standing"]
abbrev Am0:List PySem.Str:=["old","strokes","following","stroke"]
abbrev An0:List PySem.Str:=["_law_one","_law_cell","_law_number","_law_k","_law_turn","_law_at"]
abbrev Ao0:List PySem.Str:=["_law_rows","_law_many","_law_name","_law_time","_law_act"]
abbrev Ap0:List PySem.Str:=["old","new","pen","paper","i","j","kept","kept_new","end"]
abbrev Aq0:List PySem.Str:=["self","name","time","anchor","signs"]
abbrev Ar0:List PySem.Str:=["self","name","time","names","anchor"]
abbrev As0:List PySem.Str:=["self","name","time","names","word"]
abbrev At0:List PySem.Str:=["above","sign","other","row","j","other_sign","price"]
abbrev Au0:List PySem.Str:=["one","other"]
abbrev Av0:List PySem.Str:=["old","strokes","brought","stroke","name","sign"]
abbrev Aw0:List PySem.Str:=["one","other","table","i","j","backwards","step"]
abbrev Ax0:List PySem.Str:=["row"]
abbrev Ay0:List PySem.Str:=["_law_number","_law_word","_law_rest","_law_k"]
abbrev Az0:List PySem.Str:=["name","how_many"]
abbrev AA0:List PySem.Str:=["stroke","in_row"]
abbrev AB0:List PySem.Str:=["seats","at","to"]
abbrev AC0:List PySem.Str:=["table","one","other","i","j"]
abbrev AD0:List PySem.Str:=["following","anchor","slots","behind","slot"]
abbrev AE0:List PySem.Str:=["self","name","time","names"]
abbrev AF0:List PySem.Str:=["strokes","taken","stroke","name","slot"]
abbrev AG0:List PySem.Str:=["self","state"]
abbrev AH0:List PySem.Str:=["_law_name","_law_sign","_law_word"]
abbrev AI0:List PySem.Str:=["name","time","anchor"]
abbrev AJ0:List PySem.Str:=["strokes","struck","stroke","name"]
abbrev AK0:List PySem.Str:=["_law_cell","_law_k","_law_number"]
abbrev AL0:List PySem.Str:=["_law_script","_law_k"]
abbrev AM0:List PySem.Str:=["old","drawn","states"]
abbrev AR0:List PySem.Str:=["self","name","time"]
abbrev AT0:List PySem.Str:=["at","to","length"]
local macro_rules | `(tactic| walk_at "j") => `(tactic| exact ⟨rfl, rfl, rfl, by decide +kernel, rfl, by decide +kernel, by decide +kernel⟩)
local macro_rules | `(tactic| walk_at "l") => `(tactic| (split at $(Lean.mkIdent `h):ident <;> first | rfl | exact False.elim $(Lean.mkIdent `h)))
local macro_rules | `(tactic| walk_at "o") => `(tactic| first | assumption | exact le_trans (by decide) $(Lean.mkIdent `hs) | exact le_of_lt (by assumption) | exact le_trans (by assumption) (by assumption) | exact Os (by assumption) (by assumption) | exact Nat.lt_of_le_of_lt (by assumption) (by assumption) | exact le_trans (by assumption) (le_trans (by decide) $(Lean.mkIdent `hs)) | lia | omega)
namespace L2
open PySem PySem.Spec PyProof.Rows
abbrev aD:=Sum Int Str
def wS:aD->NO->Bool
 | .inl k,v=>Value.isInt k v
 | .inr x,v=>Value.isStrOf x v
def M5(w:Og):aD->Int
 | .inl k=>hashInt k
 | .inr x=>hashStr w x
theorem df:∀ {k:aD} {v:NO},wS k v=true->(∃ i t,k=Sum.inl i/\v=Value.int i t)\/(∃ x t,k=Sum.inr x/\v=Value.str x t)
 | .inl i,v,h=>by
  obtain⟨t,e⟩:=Value.isInt_shape (k:=i) (v:=v) h;exact .inl ⟨i,t,rfl,e⟩
 | .inr x,v,h=>by
  obtain⟨t,e⟩:=Value.isStrOf_shape (x:=x) (v:=v) h;exact .inr ⟨x,t,rfl,e⟩
theorem DE(i:Int)(t:Tok):wS (.inl i) (.int i t)=true:=by simp[wS,Value.isInt]
theorem DD(x:Str)(t:Tok):wS (.inr x) (.str x t)=true:=by simp[wS,Value.isStrOf]
theorem KG(a b:Int):decide ((Sum.inl a:aD)=Sum.inl b)=(a == b):=by
 by_cases e:a=b
 ·subst e;simp
 ·have h:¬ (Sum.inl a:aD)=Sum.inl b:=fun q=>e (Sum.inl.inj q);rw[decide_eq_false h];exact (beq_eq_false_iff_ne.mpr e).symm
theorem KC(a b:Str):decide ((Sum.inr a:aD)=Sum.inr b)=decide (a=b):=by
 by_cases e:a=b
 ·subst e;simp
 ·have h:¬ (Sum.inr a:aD)=Sum.inr b:=fun q=>e (Sum.inr.inj q);rw[decide_eq_false h,decide_eq_false e]
theorem KF(a:Int)(b:Str):decide ((Sum.inl a:aD)=Sum.inr b)=false:=decide_eq_false (fun q=>nomatch q)
theorem KD(a:Str)(b:Int):decide ((Sum.inr a:aD)=Sum.inl b)=false:=decide_eq_false (fun q=>nomatch q)
def bj(prog:N_)(w:Og):PySem.KeyKind prog w aD where
 is:=wS
 hash:=M5 w
 inj:=fun v a b ha hb=>by
  rcases df ha with ⟨i,t,rfl,rfl⟩|⟨x,t,rfl,rfl⟩
  ·rcases df hb with ⟨j,u,rfl,e⟩|⟨y,u,rfl,e⟩
   ·injection e with e1 _;rw[e1]
   ·exact nomatch e
  ·rcases df hb with ⟨j,u,rfl,e⟩|⟨y,u,rfl,e⟩
   ·exact nomatch e
   ·injection e with e1 _;rw[e1]
 byValue:=fun k v h=>by
  rcases df h with ⟨i,t,rfl,rfl⟩|⟨x,t,rfl,rfl⟩<;>rfl
 pyHash:=fun hv h=>by
  rcases df hv with ⟨i,t,rfl,rfl⟩|⟨x,t,rfl,rfl⟩
  ·exact wpAny_pyHash_int h
  ·exact wpAny_pyHash_str h
 eqBool:=fun hu hv h=>by
  rcases df hu with ⟨i,t,rfl,rfl⟩|⟨x,t,rfl,rfl⟩
  ·rcases df hv with ⟨j,u,rfl,rfl⟩|⟨y,u,rfl,rfl⟩
   ·rw[KG]at h;exact wpAny_eqBool_int h
   ·rw[KF]at h;exact SeqAt.EqAt.int_str i t y u _ _ _ _ h
  ·rcases df hv with ⟨j,u,rfl,rfl⟩|⟨y,u,rfl,rfl⟩
   ·rw[KD]at h;exact SeqAt.EqAt.str_int x t j u _ _ _ _ h
   ·rw[KC]at h;exact wpAny_eqBool_str h
 «strs»:=fun k x t v h=>by
  rcases df h with ⟨i,u,rfl,e⟩|⟨y,u,rfl,e⟩
  ·exact nomatch e
  ·injection e with e1 _
   subst e1;cases v<;>rfl
theorem zQ(prog:N_)(w:Og)(i:Int)(t:Tok):(bj prog w).is (.inl i) (.int i t)=true:=DE i t
theorem zP(prog:N_)(w:Og)(x:Str)(t:Tok):(bj prog w).is (.inr x) (.str x t)=true:=DD x t
inductive V where
 | non|bl (b:Bool)|int (i:Int)|str (x:Str)|byt (b:Array UInt8)|flt (b:UInt64)|ref (a:NR)|ty (n:String)
 deriving DecidableEq
def aF:V->NO->Prop
 | .non,u=>u=Value.none
 | .bl b,u=>u=Value.bool b
 | .int i,u=>∃ t,u=Value.int i t
 | .str x,u=>∃ t,u=Value.str x t
 | .byt b,u=>∃ t,u=Value.bytes b t
 | .flt b,u=>∃ t,u=Value.float b t
 | .ref a,u=>u=Value.ref a
 | .ty n,u=>u=Value.type n
abbrev Vals:List V->List NO->Prop:=QR aF
theorem Vals.length{xs:List V}{us:List NO}(r:Vals xs us):xs.length=us.length:=P6 r
theorem Vals.get:∀ {xs:List V} {us:List NO} {i:Nat} {x:V},Vals xs us->xs[i]?=some x->∃ u,us[i]?=some u/\aF x u
 | _,_,_,_,.nil,e=>by simp at e
 | _,_,0,_,.cons r _,e=>by simp at e;subst e;exact⟨_,rfl,r⟩
 | _,_,i+1,x,.cons _ t,e=>by
  obtain⟨u,h1,h2⟩:=Vals.get (i:=i) (x:=x) t (by simpa using e)
  exact⟨u,by simpa using h1,h2⟩
theorem Vals.set{x:V}{u:NO}(r:aF x u):∀ {xs:List V} {us:List NO} (i:Nat),Vals xs us->Vals (xs.set i x) (us.set i u)
 | _,_,_,.nil=>.nil
 | _,_,0,.cons _ t=>.cons r t
 | _,_,i+1,.cons q t=>.cons q (Vals.set r i t)
theorem Vals.append:∀ {xs ys:List V} {us ws:List NO},Vals xs us->Vals ys ws->Vals (xs ++ ys) (us ++ ws)
 | _,_,_,_,.nil,s=>s
 | _,_,_,_,.cons r t,s=>.cons r (Vals.append t s)
theorem Vals.take:∀ {xs:List V} {us:List NO} (n:Nat),Vals xs us->Vals (xs.take n) (us.take n)
 | _,_,0,_=>.nil
 | _,_,_+1,.nil=>.nil
 | _,_,n+1,.cons r t=>.cons r (Vals.take n t)
theorem Vals.drop:∀ {xs:List V} {us:List NO} (n:Nat),Vals xs us->Vals (xs.drop n) (us.drop n)
 | _,_,0,r=>r
 | _,_,_+1,.nil=>.nil
 | _,_,n+1,.cons _ t=>Vals.drop n t
def kY:Option V->Option NO->Prop
 | some v,some u=>aF v u
 | none,none=>True
 | _,_=>False
def KV{κ:Type}:List (κ×V)->List (κ×NO)->Prop:=QR fun (p:κ×V) (q:κ×NO)=>p.1=q.1/\aF p.2 q.2
def kV:aD->V
 | .inl i=>.int i
 | .inr x=>.str x
inductive HO where
 | lst (xs:List V)
 | tup (xs:List V)
 | dK (kvs:List (aD×V))|dT (kvs:List (List aD×V))
 | set (S:Int->Bool) (n:Nat)
 | ins (C dx:NR) (fs:List (Str×V))
 | own (x:NR)
 | xd (fs:List (Str×V))
 | met (f x:NR)
 | rng (lo hi:Int)
 | frz (o:Obj) (u:HO)
 | tbl (ps:Array NO)
 | ext (φ:Of->Prop)
abbrev Hp:=NR->Option HO
def bq(H:Hp)(a:NR)(o:HO):Hp:=fun b=>if b=a then some o else H b
theorem aN{H:Hp}{a:NR}{o:HO}:bq H a o a=some o:=by unfold bq;rw[if_pos rfl]
theorem aA{H:Hp}{a b:NR}{o:HO}(h:b≠a):bq H a o b=H b:=by unfold bq;rw[if_neg h]
theorem L9{H:Hp}{a b:NR}{o u:HO}(h:H a=some o)(h':H b=some u)(d:o≠u):a≠b:=by
 intro e;subst e;rw[h]at h';exact d (Option.some.inj h')
theorem b_{H:Hp}{a b:NR}{o:HO}(h:H a=some o)(h':H b=none):a≠b:=by
 intro e;subst e;rw[h]at h';cases h'
section
variable(P:N_)(w:Og)
def vh(h:Of)(a:NR)(items:Array NO):Prop:=∃ o,h.get? a=some o/\(o.cls=.type "tuple"/\o.dict=none)/\∃ n,o.data=.seq items n
def cf(H:Hp)(h:Of)(a:NR):HO->Prop
 | .lst xs=>xs.length<=NY/\∃ (its:List NO) (n:Nat),Vals xs its/\h.get? a=some { cls:=.type "list",data:=.seq its.toArray n }
 | .tup xs=>xs.length<=NY/\∃ its:List NO,Vals xs its/\vh h a its.toArray
 | .dK kvs=>kvs.length<=NY/\(a == OK)=false/\∃ vs,KV kvs vs/\h.DictOf (bj P w) a vs
 | .dT kvs=>kvs.length<=NY/\(a == OK)=false/\∃ xs:List (List aD×NR×NO),
   QR (fun (p:List aD×V) (q:List aD×NR×NO)=>p.1=q.1/\H q.2.1=some (.tup (p.1.map kV))/\aF p.2 q.2.2) kvs xs/\
   ∃ o es ep,h.get? a=some o/\o.ExactDict/\o.data=.dict es ep/\es.toList=xs.map (entryOfKey (OY (bj P w)))/\(xs.map (·.1)).Nodup
 | .set S n=>h.SetOf (intKind P w) a S n
 | .ins C dx fs=>H dx=some (.own a)/\fs.length<=1000/\dx≠a/\h.get? a=some (QW C dx)/\
   ∃ mA,h.Ns1 dx mA/\(∀ f,kY (fs.lookup f) (mA f))/\PySem.Within mA (fs.map (·.1))
 | .own _=>∃ o,h.get? a=some o
 | .xd fs=>∃ mA,h.Ns1 a mA/\∀ f,kY (fs.lookup f) (mA f)
 | .rng lo hi=>∃ t u v,h.get? a=some { cls:=.type "range",data:=.fields #[.int lo t,.int hi u,.int 1 v] }
 | .frz o u=>h.get? a=some o/\cf H h a u
 | .tbl ps=>h.get? a=some { cls:=.none,data:=.fields ps }
 | .met f x=>h.get? a=some (Sj (.ref f) (.ref x))
 | .ext φ=>φ h/\(∃ o,h.get? a=some o)/\∀ h1 h2:Of,φ h1->(∀ o,h1.get? a=some o->h2.get? a=some o)->φ h2
theorem vh.new(h:Of)(items:Array NO):vh (h.push { cls:=.type "tuple",data:=.seq items }) h.objs.size items:=⟨_,NW _ rfl,⟨rfl,rfl⟩,_,rfl⟩
theorem vh.tup{h:Of}{a:NR}{items:Array NO}(x:vh h a items):IsTup h a items:=let ⟨o,e,c,d⟩:=x;⟨o,e,c.1,d⟩
def oB(H:Hp)(h:Of):Prop:=∀ a o,H a=some o->cf P w H h a o
end
section
variable{P:N_}{w:Og}{H H':Hp}{h h':Of}{a:NR}{o:HO}
theorem cf.lt(x:cf P w H h a o):a < h.objs.size:=by
 cases o with
 | lst xs=>obtain⟨_,_,_,_,e⟩:=x;exact N7 e
 | tup xs=>obtain⟨_,_,_,p⟩:=x;exact p.tup.lt
 | dK kvs=>obtain⟨_,_,_,_,o,_,_,e,_⟩:=x;exact N7 e
 | dT kvs=>obtain⟨_,_,_,_,o,_,_,e,_⟩:=x;exact N7 e
 | set S n=>obtain⟨o,_,_,_,e,_⟩:=x;exact N7 e
 | ins C dx fs=>obtain⟨_,_,_,e,_⟩:=x;exact N7 e
 | own y=>obtain⟨_,e⟩:=x;exact N7 e
 | xd fs=>obtain⟨_,⟨_,_,_,e,_⟩,_⟩:=x;exact N7 e
 | rng lo hi=>obtain⟨_,_,_,e⟩:=x;exact N7 e
 | frz ob u=>obtain⟨e,_⟩:=x;exact N7 e
 | tbl ps=>exact N7 (show h.get? a=some _ from x)
 | met f y=>exact N7 (show h.get? a=some _ from x)
 | ext φ=>obtain⟨_,⟨_,e⟩,_⟩:=x;exact N7 e
theorem Paired.mapP{α β:Type}{F G:α->β->Prop}:∀ {l₁:List α} {l₂:List β},QR F l₁ l₂->(∀ a b,F a b->G a b)->QR G l₁ l₂
 | _,_,.nil,_=>.nil
 | _,_,.cons r t,f=>.cons (f _ _ r) (Paired.mapP t f)
theorem cf.stay(x:cf P w H h a o)(k:∀ b u,(b=a\/H b=some (.own a))->h.get? b=some u->h'.get? b=some u)
  (ho:∀ b,H b=some (.own a)->H' b=some (.own a)) (ht:∀ b xs,H b=some (.tup xs)->H' b=some (.tup xs)):cf P w H' h' a o:=by
 induction o with
 | lst xs=>obtain⟨z,its,n,r,e⟩:=x;exact⟨z,its,n,r,k _ _ (.inl rfl) e⟩
 | tup xs=>obtain⟨z,its,r,ob,e,c⟩:=x;exact⟨z,its,r,ob,k _ _ (.inl rfl) e,c⟩
 | dK kvs=>obtain⟨z,y,vs,r,ob,es,ep,e,c⟩:=x;exact⟨z,y,vs,r,ob,es,ep,k _ _ (.inl rfl) e,c⟩
 | dT kvs=>
  obtain⟨z,y,xs,r,ob,es,ep,e,c⟩:=x;exact⟨z,y,xs,Paired.mapP r fun p q z=>⟨z.1,ht _ _ z.2.1,z.2.2⟩,ob,es,ep,k _ _ (.inl rfl) e,c⟩
 | set S n=>obtain⟨ob,es,ep,t,e,c⟩:=x;exact⟨ob,es,ep,t,k _ _ (.inl rfl) e,c⟩
 | ins C dx fs=>
  obtain⟨d,z,ne,e,mA,⟨od,es,ep,e2,c⟩,r⟩:=x;exact⟨ho _ d,z,ne,k _ _ (.inl rfl) e,mA,⟨od,es,ep,k _ _ (.inr d) e2,c⟩,r⟩
 | own y=>obtain⟨ob,e⟩:=x;exact⟨ob,k _ _ (.inl rfl) e⟩
 | xd fs=>obtain⟨mA,⟨od,es,ep,e,c⟩,r⟩:=x;exact⟨mA,⟨od,es,ep,k _ _ (.inl rfl) e,c⟩,r⟩
 | rng lo hi=>obtain⟨t,u,v,e⟩:=x;exact⟨t,u,v,k _ _ (.inl rfl) e⟩
 | frz ob u ih=>obtain⟨e,q⟩:=x;exact⟨k _ _ (.inl rfl) e,ih q⟩
 | tbl ps=>
  have e:h.get? a=some { cls:=.none,data:=.fields ps }:=x;show h'.get? a=some { cls:=.none,data:=.fields ps }
  exact k a _ (.inl rfl) e
 | met f y=>
  have e:h.get? a=some (Sj (.ref f) (.ref y)):=x;show h'.get? a=some (Sj (.ref f) (.ref y))
  exact k a _ (.inl rfl) e
 | ext φ=>obtain⟨p,⟨o,e⟩,st⟩:=x;exact⟨st _ _ p fun o q=>k _ _ (.inl rfl) q,⟨o,k _ _ (.inl rfl) e⟩,st⟩
theorem oB.lt(x:oB P w H h)(e:H a=some o):a < h.objs.size:=(x a o e).lt
theorem oB.fresh(x:oB P w H h)(e:h.objs.size<=a):H a=none:=by
 cases q:H a with
 | none=>rfl
 | some u=>exact absurd (Os (x.lt q) e) (Nat.lt_irrefl _)
theorem oB.kept(x:oB P w H h)(k:∀ b u,h.get? b=some u->h'.get? b=some u):oB P w H h':=fun a o e=>
 (x a o e).stay (fun b u _ q=>k b u q) (fun _ q=>q) fun _ _ q=>q
theorem oB.laid(x:oB P w H h)(k:∀ b u,h.get? b=some u->h'.get? b=some u)(hp:h.objs.size<=a)(new:cf P w (bq H a o) h' a o):oB P w (bq H a o) h':=fun b u e=>by
 have hn:=x.fresh hp
 by_cases hb:b=a
 ·subst hb;rw[aN]at e;cases e;exact new
 ·rw[aA hb]at e;exact (x b u e).stay (fun c v _ q=>k c v q) (fun c q=>by rw[aA (b_ q hn)];exact q) fun c xs q=>by rw[aA (b_ q hn)];exact q
end
def Rd(H:Hp)(a:NR)(u:HO):Prop:=H a=some u\/∃ o,H a=some (.frz o u)
theorem Rd.of{H:Hp}{a:NR}{u:HO}(h:H a=some u):Rd H a u:=.inl h
theorem Rd.ok{P:N_}{w:Og}{H:Hp}{h:Of}{a:NR}{u:HO}(r:Rd H a u)(x:oB P w H h):cf P w H h a u:=by
 rcases r with r|⟨o,r⟩
 ·exact x a u r
 ·obtain⟨_,q⟩:=x a _ r;exact q
def GN:Option HO->Prop
 | some (.lst _)=>True
 | some (.dK _)=>True
 | some (.dT _)=>True
 | some (.set _ _)=>True
 | some (.ins _ _ _)=>True
 | some (.ext _)=>True
 | _=>False
section
variable{P:N_}{w:Og}{H:Hp}{h h':Of}{x e:NR}{o':HO}
theorem oB.write(ok:oB P w H h)(mu:GN (H x))(he:e=x\/H e=some (.own x))(k:∀ b u,b≠e->h.get? b=some u->h'.get? b=some u)(heo:∃ u,h'.get? e=some u)
  (new:cf P w (bq H x o') h' x o'):oB P w (bq H x o') h':=fun b u q=>by
 have T2:∀ c y,H c=some (.own y)->c≠x:=fun c y r z=>by subst z;rw[r]at mu;exact mu
 have Uc:∀ c xs,H c=some (.tup xs)->c≠x:=fun c xs r z=>by subst z;rw[r]at mu;exact mu
 by_cases hb:b=x
 ·subst hb;rw[aN]at q;cases q;exact new
 ·rw[aA hb]at q
  by_cases hbe:b=e
  ·have q':H b=some (.own x):=by
    rcases he with z|z
    ·exact absurd (hbe.trans z) hb
    ·rw[hbe];exact z
   rw[q]at q';cases q';obtain⟨v,hv⟩:=heo;exact⟨v,by rw[hbe];exact hv⟩
  ·refine (ok b u q).stay (fun c v hc r=>k c v ?_ r) (fun c r=>by rw[aA (T2 c b r)];exact r) fun c xs r=>by rw[aA (Uc c xs r)];exact r
   rcases hc with rfl|hc
   ·exact hbe
   ·rintro rfl
    rcases he with z|z
    ·exact T2 c b hc z
    ·rw[hc]at z;cases z;exact hb rfl
end
structure Un(fs ex:List NR)(H H':Hp)(h h':Of):Prop where
 keep:∀ b o,h.get? b=some o->H b=none->b∉fs->b∉ex->h'.get? b=some o
 slot:∀ b o,h.get? b=some o->H b=none->b∈fs->b∉ex->∃ sl,h'.get? b=some { o with slots:=sl }
 free:∀ b o,h.get? b=some o->H b=none->b∉ex->H' b=none
 there:∀ b o,h.get? b=some o->b∉ex->∃ o',h'.get? b=some o'
 tups:∀ b xs,H b=some (.tup xs)->H' b=some (.tup xs)
 frzs:∀ b o u,H b=some (.frz o u)->H' b=some (.frz o u)
 tbls:∀ b ps,H b=some (.tbl ps)->∃ more,H' b=some (.tbl (ps ++ more))
section
variable{fs fs' ex ex':List NR}{H H1 H2:Hp}{h h1 h2 h':Of}{a x e:NR}{o:HO}
theorem Un.any(u:Un fs ex H H1 h h1){b:NR}{ob:Obj}(q:h.get? b=some ob)(n:H b=none)(hx:b∉ex):∃ sl,h1.get? b=some { ob with slots:=sl }:=by
 by_cases hb:b∈fs
 ·exact u.slot b ob q n hb hx
 ·exact⟨ob.slots,u.keep b ob q n hb hx⟩
theorem Un.trans(a:Un fs ex H H1 h h1)(b:Un fs ex H1 H2 h1 h2):Un fs ex H H2 h h2 where
 keep:=fun c ob q n hc hx=>b.keep c ob (a.keep c ob q n hc hx) (a.free c ob q n hx) hc hx
 slot:=fun c ob q n hc hx=>by
  obtain⟨sl,e1⟩:=a.slot c ob q n hc hx;obtain⟨sl',e2⟩:=b.slot c _ e1 (a.free c ob q n hx) hc hx;exact⟨sl',e2⟩
 free:=fun c ob q n hx=>by
  obtain⟨o',e1⟩:=a.there c ob q hx;exact b.free c o' e1 (a.free c ob q n hx) hx
 there:=fun c ob q hx=>by
  obtain⟨o',e1⟩:=a.there c ob q hx;exact b.there c o' e1 hx
 tups:=fun c xs q=>b.tups c xs (a.tups c xs q)
 frzs:=fun c ob xs q=>b.frzs c ob xs (a.frzs c ob xs q)
 tbls:=fun c ps q=>by
  obtain⟨m1,e1⟩:=a.tbls c ps q;obtain⟨m2,e2⟩:=b.tbls c _ e1;exact⟨m1 ++ m2,by rw[e2,Array.append_assoc]⟩
theorem Un.kept(k:∀ b u,h.get? b=some u->h'.get? b=some u):Un fs ex H H h h':=
 ⟨fun b ob q _ _ _=>k b ob q,fun b ob q _ _ _=>⟨ob.slots,k b ob q⟩,fun _ _ _ n _=>n,fun b ob q _=>⟨ob,k b ob q⟩,fun _ _ q=>q,fun _ _ _ q=>q,fun _ ps q=>⟨#[],by rw[q];simp⟩⟩
theorem Un.refl:Un fs ex H H h h:=Un.kept fun _ _ q=>q
theorem Un.laid(k:∀ b u,h.get? b=some u->h'.get? b=some u)(hp:h.objs.size<=a)(hn:H a=none):Un fs ex H (bq H a o) h h' where
 keep:=fun b u q _ _ _=>k b u q
 slot:=fun b u q _ _ _=>⟨u.slots,k b u q⟩
 free:=fun b u q n _=>by rw[aA (Oq (Os (N7 q) hp))];exact n
 there:=fun b u q _=>⟨u,k b u q⟩
 tups:=fun b xs q=>by rw[aA (b_ q hn)];exact q
 frzs:=fun b u xs q=>by rw[aA (b_ q hn)];exact q
 tbls:=fun b ps q=>⟨#[],by rw[aA (b_ q hn),q];simp⟩
theorem Un.write(mu:GN (H x))(he:e=x\/H e=some (.own x))(k:∀ b u,b≠e->h.get? b=some u->h'.get? b=some u)(heo:∃ u,h'.get? e=some u):Un fs ex H (bq H x o) h h':=by
 have hx:∀ b,H b=none->b≠x:=fun b n z=>by subst z;rw[n]at mu;exact mu
 have hb:∀ b,H b=none->b≠e:=fun b n z=>by
  subst z;rcases he with r|r
  ·exact hx b n r
  ·rw[n]at r;cases r
 have hm:∀ b u,H b=some u->¬ GN (some u)->b≠x:=fun b u q nm z=>by subst z;rw[q]at mu;exact nm mu
 refine⟨fun b u q n _ _=>k b u (hb b n) q,fun b u q n _ _=>⟨u.slots,k b u (hb b n) q⟩,fun b u q n _=>by rw[aA (hx b n)];exact n,fun b u q _=>?_,
  fun b xs q=>by rw[aA (hm b _ q fun z=>z)];exact q,fun b u xs q=>by rw[aA (hm b _ q fun z=>z)];exact q,fun b ps q=>⟨#[],by rw[aA (hm b _ q fun z=>z),q];simp⟩⟩
 by_cases hbe:b=e
 ·subst hbe;exact heo
 ·exact⟨u,k b u hbe q⟩
theorem Un.mono(u:Un fs ex H H1 h h1)(hs:∀ b∈fs,b∈fs')(hx:∀ b∈ex,b∈ex'):Un fs' ex' H H1 h h1:=
 ⟨fun b ob q n hb he=>u.keep b ob q n (fun z=>hb (hs b z)) fun z=>he (hx b z),fun _ _ q n _ he=>u.any q n fun z=>he (hx _ z),fun b ob q n he=>u.free b ob q n fun z=>he (hx b z),fun b ob q he=>u.there b ob q fun z=>he (hx b z),u.tups,u.frzs,u.tbls⟩
end
def MA(h:Of)(H:Hp):List NR:=(List.range h.objs.size).filter fun a=>(H a).isSome
def yB(h:Of)(H:Hp):Of:=PySem.W.hideAll h (MA h H)
theorem DK(h:Of)(H:Hp):(yB h H).objs.size=h.objs.size:=PySem.W.hideAll_size _ _
theorem F2{h:Of}{H:Hp}{b:NR}{o:Obj}(e:h.get? b=some o)(n:H b=none):(yB h H).get? b=some o:=
 PySem.W.hideAll_get _ e fun hm=>by
  have q:(H b).isSome=true:=(mem_filter.mp hm).2;rw[n]at q;simp at q
theorem H_{h:Of}{H:Hp}{b:NR}{o:Obj}(e:(yB h H).get? b=some o):h.get? b=some o/\H b=none:=by
 have e':h.get? b=some o:=PySem.W.of_hideAll (MA h H) e;refine⟨e',?_⟩;cases q:H b with
 | none=>rfl
 | some x=>
  have hm:b∈MA h H:=mem_filter.mpr ⟨mem_range.mpr (N7 e'),by simp[q]⟩
  have z:(yB h H).get? b=none:=PySem.W.hideAll_none (MA h H) hm;rw[z]at e;cases e
def IP(g h:Of)(L:NR):List (NR×Obj):=(List.range h.objs.size).filterMap fun a=>if a=L\/(g.get? a).isSome=true then none else (h.get? a).map fun o=>(a,o)
def dZ(g h:Of)(L d:NR):List (NR×Obj):=(IP g h L).filter fun p=>decide (p.1≠d)
structure Mod(K:Sf)(mg:Str->Option NO)(base:Of):Prop where
 kin:K.In base
 glob:base.Ns Oa mg
 blt:∃ mb,base.Ns S_ mb/\∀ x:Str,x≠"__name__"->mb x=Ph x
 nolimit:base.NoLimit
structure Cx where
 prog:N_
 w:Og
 K:Sf
 mg:Str->Option NO
 base:Of
 A:Oc
 N:List Str
 s₀:NP
 H₀:Hp
 env:Env
 outer:List Env
 stack:List Env
 ex:List NR
 fn:Str->Bool
 calm:Bool
 pn:List (NR×Obj)
 xe:NO->NP->Prop
def Eg(l:List Env):List NR:=l.filterMap (·.frame)
abbrev Cx.fs(X:Cx):List NR:=Eg X.outer
def Mq(sc:Qk)(x:Str):Prop:=sc.names.lookup x=some .local\/sc.names.lookup x=some .cell\/sc.names.lookup x=some .free
def Lh(sc:Qk)(x:Str):Prop:=sc.names.lookup x=some .local\/sc.names.lookup x=some .cell
def Ng(env:Env)(h:Of)(m:Str->Option NO)(x:Str)(u:NO):Prop:=
 (env.kindOf x=some .local/\m x=some u)\/((env.kindOf x=some .cell\/env.kindOf x=some .free)/\∃ c,env.cells.lookup x=some c/\h.IsCell c (some u))
structure Cx.Ok(X:Cx):Prop where
 mod:Mod X.K X.mg X.base
 kind:X.env.scope.kind=.function
 glob:X.env.globals=Oa
 blt:X.env.builtins=S_
 above:X.s₀.heap.objs.size<=X.env.locals
 inj:∀ x y c,X.env.cells.lookup x=some c->X.env.cells.lookup y=some c->x=y
 has:∀ x,(X.env.kindOf x=some .cell\/X.env.kindOf x=some .free)->∃ c,X.env.cells.lookup x=some c
 cab:∀ x c,X.fn x=true->X.env.cells.lookup x=some c->X.s₀.heap.objs.size<=c
 hd:X.calm=true->X.A.handled=none
 frames:X.A.frames=some X.stack
 stk:X.stack=X.outer\/(X.stack=X.env::X.outer/\X.env.frame=some X.env.locals)
 exf:∀ b∈X.ex,b≠X.env.locals/\∀ x c,X.env.cells.lookup x=some c->c≠b
 bs:∀ b o,X.base.get? b=some o->X.s₀.heap.get? b=some o/\X.H₀ b=none
 bsz:X.base.objs.size<=X.s₀.heap.objs.size
 noex:∀ b o,X.base.get? b=some o->b∉X.ex
 exfs:∀ b∈X.ex,b∉X.fs
 funs:X.s₀.heap.FunFrames X.base X.outer
 frf:∀ b∈X.fs,X.H₀ b=none
structure Inv(X:Cx)(pins:List (NR×Obj))(σ:List (Option V))(H:Hp)(s:NP):Prop where
 ok:X.Ok
 os:s.os=X.s₀.os
 bare:QN s.gens
 base:Un X.fs X.ex X.H₀ H X.s₀.heap s.heap
 loc:∃ m,s.heap.Ns X.env.locals m/\∀ (i:Nat) (x:Str) (v:V),X.N[i]?=some x->σ[i]?=some (some v)->Mq X.env.scope x->∃ u,aF v u/\Ng X.env s.heap m x u
 cell:∀ x c,X.env.cells.lookup x=some c->∃ v,s.heap.IsCell c v
 free:H X.env.locals=none
 freeC:∀ x c,X.env.cells.lookup x=some c->H c=none
 pin:∀ p∈X.pn ++ pins,s.heap.get? p.1=some p.2/\H p.1=none/\p.1≠X.env.locals/\p.1∉X.fs/\∀ v,p.2.data≠.cell v
 hok:oB X.prog X.w H s.heap
 len:σ.length=X.N.length
section
variable{X:Cx}{pins:List (NR×Obj)}{σ:List (Option V)}{H H':Hp}{s:NP}{h':Of}
theorem Cx.Ok.nofr(ok:X.Ok){b:NR}{o:Obj}(e:X.base.get? b=some o):b∉X.fs:=fun hb=>by
 have:=(ok.funs.mem hb).1;rw[e]at this;cases this
theorem Inv.bs(I:Inv X pins σ H s):∀ b o,X.base.get? b=some o->s.heap.get? b=some o/\H b=none:=fun b o e=>
 ⟨I.base.keep b o (I.ok.bs b o e).1 (I.ok.bs b o e).2 (I.ok.nofr e) (I.ok.noex b o e),I.base.free b o (I.ok.bs b o e).1 (I.ok.bs b o e).2 (I.ok.noex b o e)⟩
theorem Inv.bk(I:Inv X pins σ H s):∀ b o,X.base.get? b=some o->s.heap.get? b=some o:=fun b o e=>(I.bs b o e).1
theorem Inv.mod(I:Inv X pins σ H s):Mod X.K X.mg X.base:=I.ok.mod
theorem Inv.kIn(I:Inv X pins σ H s):X.K.In s.heap:=I.ok.mod.kin.keeps I.bk
theorem Inv.fr(I:Inv X pins σ H s):∃ m,Fr X.base X.env.locals s.heap m:=
 let ⟨m,hn,_⟩:=I.loc
 ⟨m,hn,I.bk,le_trans I.ok.bsz I.ok.above⟩
theorem Inv.lt(I:Inv X pins σ H s):X.env.locals < s.heap.objs.size:=let ⟨_,hn,_⟩:=I.loc;hn.lt
theorem Inv.sz(I:Inv X pins σ H s):X.s₀.heap.objs.size<=s.heap.objs.size:=le_trans I.ok.above (le_of_lt I.lt)
theorem Inv.nofs(I:Inv X pins σ H s){a:NR}(h:s.heap.objs.size<=a):a∉X.fs:=fun hb=>by
 obtain⟨_,o,ho,_⟩:=I.ok.funs.mem hb;exact absurd (Os (N7 ho) (le_trans I.sz h)) (Nat.lt_irrefl _)
theorem Inv.cne(I:Inv X pins σ H s):∀ x c,X.env.cells.lookup x=some c->c≠X.env.locals:=fun x c e z=>by
 obtain⟨v,o,ho,hd⟩:=I.cell x c e;obtain⟨m,⟨o',es,ep,ho',hd',_⟩,_⟩:=I.loc;rw[z,ho']at ho;cases ho;rw[hd']at hd;cases hd
theorem Inv.funs(I:Inv X pins σ H s):s.heap.FunFrames X.base X.outer:=by
 have all:∀ (l:List Env),(∀ b∈Eg l,b∈X.fs)->X.s₀.heap.FunFrames X.base l->s.heap.FunFrames X.base l:=by
  intro l
  induction l with
  | nil=>intro _ _;trivial
  | cons env r ih=>
   intro hs hl;obtain⟨hk,⟨L,o,hf,hn,ho,hd⟩,hr⟩:=hl;have hL:L∈X.fs:=hs L (by unfold Eg;rw[Pc,hf];exact N3)
   obtain⟨sl,e⟩:=I.base.slot L o ho (I.ok.frf L hL) hL fun z=>I.ok.exfs L z hL;exact⟨hk,⟨L,_,hf,hn,e,hd⟩,ih (fun b hb=>hs b (by unfold Eg;rw[Pc,hf];exact N0 _ hb)) hr⟩
 exact all X.outer (fun _ hb=>hb) I.ok.funs
theorem Inv.stack(I:Inv X pins σ H s):s.heap.FunFrames X.base X.stack:=by
 rcases I.ok.stk with e|⟨e,hf⟩
 ·rw[e];exact I.funs
 ·rw[e];obtain⟨m,hn,_⟩:=I.loc;refine .cons (by rw[I.ok.kind];decide) hf hn ?_ I.funs
  exact Heap.get?_none_of_le (le_trans I.ok.bsz I.ok.above)
theorem Inv.stkSub(I:Inv X pins σ H s):∀ b∈Eg X.stack,b∈X.env.locals::X.fs:=fun b hb=>by
 rcases I.ok.stk with e|⟨e,hf⟩
 ·rw[e]at hb;exact N0 _ hb
 ·rw[e]at hb;unfold Eg at hb;rw[Pc,hf]at hb;exact hb
theorem Inv.stkFree(I:Inv X pins σ H s):∀ b∈Eg X.stack,H b=none:=fun b hb=>by
 rcases Oz.mp (I.stkSub b hb)with e|hb
 ·rw[e];exact I.free
 ·obtain⟨_,o,ho,_⟩:=I.ok.funs.mem hb;exact I.base.free b o ho (I.ok.frf b hb) fun z=>I.ok.exfs b z hb
theorem Inv.step{g':Array SS}{t':Nat}{d':Drawn}{ch:List NR}(I:Inv X pins σ H s)
  (hch:∀ b∈ch,(b∈X.ex\/X.s₀.heap.objs.size<=b)/\b≠X.env.locals/\(∀ x c,X.env.cells.lookup x=some c->c≠b)/\∀ p∈X.pn ++ pins,p.1≠b)
  (keep:∀ b o,b≠X.env.locals->b∉X.fs->b∉ch->s.heap.get? b=some o->H b=none->h'.get? b=some o)
  (slot:∀ b o,b≠X.env.locals->b∈X.fs->b∉ch->s.heap.get? b=some o->H b=none->∃ sl,h'.get? b=some { o with slots:=sl }) (free:∀ b o,b∉ch->s.heap.get? b=some o->H b=none->H' b=none)
  (there:∀ b o,b∉ch->s.heap.get? b=some o->∃ o',h'.get? b=some o')
  (tups:∀ b xs,H b=some (.tup xs)->H' b=some (.tup xs)) (frzs:∀ b o u,H b=some (.frz o u)->H' b=some (.frz o u)) (tbls:∀ b ps,H b=some (.tbl ps)->∃ more,H' b=some (.tbl (ps ++ more)))
  (ns:∀ m,s.heap.Ns X.env.locals m->h'.Ns X.env.locals m) (hok:oB X.prog X.w H' h') (hg:QN g'):
  Inv X pins σ H' { s with heap:=h',gens:=g',drawn:=d',toks:=t' }:=by
 have neL:∀ b o,X.s₀.heap.get? b=some o->b≠X.env.locals:=fun b o e=>Oq (Os (N7 e) I.ok.above);have neC:∀ b o,X.s₀.heap.get? b=some o->b∉X.ex->b∉ch:=fun b o e hx hb=>by
  rcases (hch b hb).1 with z|z
  ·exact hx z
  ·exact absurd (Os (N7 e) z) (Nat.lt_irrefl _)
 have cellK:∀ x c,X.env.cells.lookup x=some c->∀ v,s.heap.IsCell c v->h'.IsCell c v:=fun x c e v zz=>by
  obtain⟨o,ho,hd⟩:=zz;have nch:c∉ch:=fun z=>(hch c z).2.2.1 x c e rfl
  by_cases hc:c∈X.fs
  ·obtain⟨sl,q⟩:=slot c o (I.cne x c e) hc nch ho (I.freeC x c e);exact⟨_,q,hd⟩
  ·exact⟨o,keep c o (I.cne x c e) hc nch ho (I.freeC x c e),hd⟩
 refine⟨I.ok,I.os,hg,⟨fun b o e n hb hx=>?_,fun b o e n hb hx=>?_,fun b o e n hx=>?_,fun b o e hx=>?_,fun b xs e=>tups b xs (I.base.tups b xs e),fun b o xs e=>frzs b o xs (I.base.frzs b o xs e),fun b ps e=>?_⟩,?_,fun x c e=>?_,?_,fun x c e=>?_,fun p hp=>?_,hok,I.len⟩
 ·exact keep b o (neL b o e) hb (neC b o e hx) (I.base.keep b o e n hb hx) (I.base.free b o e n hx)
 ·obtain⟨sl,e1⟩:=I.base.slot b o e n hb hx;obtain⟨sl',e2⟩:=slot b _ (neL b o e) hb (neC b o e hx) e1 (I.base.free b o e n hx);exact⟨sl',e2⟩
 ·obtain⟨o',e1⟩:=I.base.there b o e hx;exact free b o' (neC b o e hx) e1 (I.base.free b o e n hx)
 ·obtain⟨o',e1⟩:=I.base.there b o e hx;exact there b o' (neC b o e hx) e1
 ·obtain⟨m1,e1⟩:=I.base.tbls b ps e;obtain⟨m2,e2⟩:=tbls b _ e1;exact⟨m1 ++ m2,by rw[e2,Array.append_assoc]⟩
 ·obtain⟨m,hn,hl⟩:=I.loc;refine⟨m,ns m hn,fun i x v e1 e2 e3=>?_⟩;obtain⟨u,r,l⟩:=hl i x v e1 e2 e3;refine⟨u,r,?_⟩;rcases l with l|⟨k,c,e,z⟩
  ·exact .inl l
  ·exact .inr ⟨k,c,e,cellK x c e _ z⟩
 ·obtain⟨v,z⟩:=I.cell x c e;exact⟨v,cellK x c e v z⟩
 ·obtain⟨m,⟨o,_,_,ho,_⟩,_⟩:=I.loc;exact free _ o (fun z=>(hch _ z).2.1 rfl) ho I.free
 ·obtain⟨v,o,ho,hd⟩:=I.cell x c e;exact free c o (fun z=>(hch c z).2.2.1 x c e rfl) ho (I.freeC x c e)
 ·obtain⟨e,n,ne,nf,d⟩:=I.pin p hp;have nch:p.1∉ch:=fun z=>(hch p.1 z).2.2.2 p hp rfl;exact⟨keep p.1 p.2 ne nf nch e n,free p.1 p.2 nch e n,ne,nf,d⟩
theorem Inv.un{t':Nat}(I:Inv X pins σ H s)(u:Un X.fs [] H H' s.heap h')(hok:oB X.prog X.w H' h'):Inv X pins σ H' { s with heap:=h',toks:=t' }:=by
 obtain⟨m,⟨o,es,ep,ho,r⟩,_⟩:=id I.loc;obtain⟨sl,hL⟩:=u.any ho I.free (by simp)
 exact I.step (g':=s.gens) (d':=s.drawn) (ch:=[]) (fun _ z=>nomatch z) (fun b o _ hb _ e n=>u.keep b o e n hb (by simp)) (fun b o _ hb _ e n=>u.slot b o e n hb (by simp)) (fun b o _ e n=>u.free b o e n (by simp)) (fun b o _ e=>u.there b o e (by simp)) u.tups u.frzs u.tbls (fun m' hm=>by
  obtain⟨o',es',ep',ho',r'⟩:=hm;rw[ho]at ho';cases ho';exact⟨_,es',ep',hL,r'⟩) hok I.bare
theorem Inv.call{g':Array SS}{t':Nat}{d':Drawn}{ch:List NR}(I:Inv X pins σ H s)(u:Un (Eg X.stack) ch H H' s.heap h')(hok:oB X.prog X.w H' h')(hg:QN g')
  (hch:∀ b∈ch,(b∈X.ex\/X.s₀.heap.objs.size<=b)/\b≠X.env.locals/\(∀ x c,X.env.cells.lookup x=some c->c≠b)/\∀ p∈X.pn ++ pins,p.1≠b):
  Inv X pins σ H' { s with heap:=h',gens:=g',drawn:=d',toks:=t' }:=by
 obtain⟨m,⟨o,es,ep,ho,r⟩,_⟩:=id I.loc;obtain⟨sl,hL⟩:=u.any ho I.free fun z=>(hch _ z).2.1 rfl;exact I.step (ch:=ch) hch (fun b o hL hb hc e n=>u.keep b o e n (fun z=>(Oz.mp (I.stkSub b z)).elim hL hb) hc) (fun b o _ _ hc e n=>u.any e n hc) (fun b o hc e n=>u.free b o e n hc) (fun b o hc e=>u.there b o e hc) u.tups u.frzs u.tbls (fun m' hm=>by
  obtain⟨o',es',ep',ho',r'⟩:=hm;rw[ho]at ho';cases ho';exact⟨_,es',ep',hL,r'⟩) hok hg
theorem Inv.turned{t':Nat}{it:NR}(I:Inv X pins σ H s)(k:∀ b o,b≠it->s.heap.get? b=some o->h'.get? b=some o)(hn:H it=none)(hL:it≠X.env.locals)
  (h1:it∈X.ex\/X.s₀.heap.objs.size<=it) (h2:∀ x c,X.env.cells.lookup x=some c->c≠it) (h3:∀ p∈X.pn ++ pins,p.1≠it):Inv X pins σ H { s with heap:=h',toks:=t' }:=by
 have nit:∀ b u,H b=some u->b≠it:=fun b u e z=>by rw[z,hn]at e;cases e
 refine I.step (g':=s.gens) (d':=s.drawn) (ch:=[it]) (fun b hb=>?_) (fun b o _ _ hc e _=>k b o (fun z=>hc (by simp[z])) e) (fun b o _ _ hc e _=>⟨o.slots,k b o (fun z=>hc (by simp[z])) e⟩) (fun _ _ _ _ n=>n)
  (fun b o hc e=>⟨o,k b o (fun z=>hc (by simp[z])) e⟩) (fun _ _ e=>e) (fun _ _ _ e=>e) (fun b ps e=>⟨#[],by rw[e];simp⟩) (fun m hm=>?_) (fun b u e=>?_) I.bare
 ·have e:b=it:=by simpa using hb
  subst e;exact⟨h1,hL,h2,h3⟩
 ·obtain⟨o,es,ep,ho,r⟩:=hm;exact⟨o,es,ep,k _ o (Ne.symm hL) ho,r⟩
 ·refine (I.hok b u e).stay (fun c v hc q=>k c v ?_ q) (fun _ q=>q) fun _ _ q=>q;rcases hc with z|z
  ·rw[z];exact nit b u e
  ·exact nit c _ z
theorem Inv.tok(I:Inv X pins σ H s)(t:Nat):Inv X pins σ H { s with toks:=t }:=I.un (h':=s.heap) (t':=t) Un.refl I.hok
theorem Inv.kept{t':Nat}(I:Inv X pins σ H s)(k:∀ b u,s.heap.get? b=some u->h'.get? b=some u):Inv X pins σ H { s with heap:=h',toks:=t' }:=I.un (Un.kept k) (I.hok.kept k)
theorem Inv.laid{a:NR}{o:HO}{t':Nat}(I:Inv X pins σ H s)(k:∀ b u,s.heap.get? b=some u->h'.get? b=some u)(hp:s.heap.objs.size<=a)(new:cf X.prog X.w (bq H a o) h' a o):
  Inv X pins σ (bq H a o) { s with heap:=h',toks:=t' }:=I.un (Un.laid k hp (I.hok.fresh hp)) (I.hok.laid k hp new)
theorem Inv.write{x e:NR}{o:HO}{t':Nat}(I:Inv X pins σ H s)(mu:GN (H x))(he:e=x\/H e=some (.own x))(k:∀ b u,b≠e->s.heap.get? b=some u->h'.get? b=some u)(heo:∃ u,h'.get? e=some u)
  (new:cf X.prog X.w (bq H x o) h' x o):Inv X pins σ (bq H x o) { s with heap:=h',toks:=t' }:=I.un (Un.write mu he k heo) (I.hok.write mu he k heo new)
theorem Inv.pins_of{To:List (NR×Obj)}(I:Inv X pins σ H s)(h:∀ p∈To,s.heap.get? p.1=some p.2/\H p.1=none/\p.1≠X.env.locals/\p.1∉X.fs/\∀ v,p.2.data≠.cell v):Inv X To σ H s:=
 ⟨I.ok,I.os,I.bare,I.base,I.loc,I.cell,I.free,I.freeC,fun p hp=>(S5.mp hp).elim (fun z=>I.pin p (P_ _ z)) (h p),I.hok,I.len⟩
theorem zL{N:List Str}(hN:N.Nodup){i j:Nat}{x:Str}(a:N[i]?=some x)(b:N[j]?=some x):i=j:=by
 obtain⟨h1,e1⟩:=List.getElem?_eq_some_iff.mp a;obtain⟨h2,e2⟩:=List.getElem?_eq_some_iff.mp b;exact (List.getElem_inj hN).mp (e1.trans e2.symm)
theorem ww{M:Model}{A:Oc}{E:NO->NP->Prop}{i:Nat}{x:Str}{v:V}{u:NO}{Q:Unit->NP->Prop}(I:Inv X pins σ H s)(hN:X.N.Nodup)(hi:X.N[i]?=some x)(hx:Lh X.env.scope x)(r:aF v u)
  (h:∀ s',Inv X pins (σ.set i (some v)) H s'->(∃ a,Pz a s.heap s'.heap/\(a=X.env.locals\/X.env.cells.lookup x=some a))->Q () s') (hf:X.fn x=true\/X.env.scope.names.lookup x=some .local:=by first|exact .inl rfl|exact .inr rfl|assumption):NZ M A (storeName X.env x u) Q E s:=by
 obtain⟨m,hn,hl⟩:=id I.loc;have Ul:(X.env.scope.kind == .class || (X.env.scope.kind == .module && X.env.locals != X.env.globals))=false:=by rw[I.ok.kind];rfl
 have hiσ:i < σ.length:=by rw[I.len];exact (List.getElem?_eq_some_iff.mp hi).1
 have cne:=I.cne;have tracked:∀ {a:NR} {h':Of},(∃ o,s.heap.get? a=some o/\H a=none)->Pz a s.heap h'->oB X.prog X.w H h':=fun {a h'} ha hs b ob e=>by
  obtain⟨_,_,Tw⟩:=ha;refine (I.hok b ob e).stay (fun c w' hc q=>(hs.2 c ?_).trans q) (fun _ q=>q) fun _ _ q=>q
  rintro rfl
  rcases hc with rfl|hc
  ·rw[Tw]at e;cases e
  ·rw[Tw]at hc;cases hc
 rcases hx with hk|hk
 ·refine wpAny_storeName_local hk hn (fun h' hn' hs=>?_) Ul;obtain⟨oL,_,_,hoL,_⟩:=id hn;refine h _ ⟨I.ok,I.os,I.bare,⟨fun b o e n hb hx=>?_,fun b o e n hb hx=>?_,I.base.free,fun b o e hx=>?_,I.base.tups,I.base.frzs,I.base.tbls⟩,⟨_,hn',fun j y v' e1 e2 e3=>?_⟩,fun y c e=>?_,I.free,I.freeC,fun p hp=>?_,tracked ⟨oL,hoL,I.free⟩ hs,by simpa using I.len⟩ ⟨_,hs,.inl rfl⟩
  ·exact (hs.2 b (Oq (Os (N7 e) I.ok.above))).trans (I.base.keep b o e n hb hx)
  ·obtain⟨sl,e1⟩:=I.base.slot b o e n hb hx;exact⟨sl,(hs.2 b (Oq (Os (N7 e) I.ok.above))).trans e1⟩
  ·obtain⟨o',e1⟩:=I.base.there b o e hx;exact⟨o',(hs.2 b (Oq (Os (N7 e) I.ok.above))).trans e1⟩
  ·by_cases hj:j=i
   ·subst hj;rw[hi]at e1;cases e1;rw[List.getElem?_set_self hiσ]at e2;cases e2;exact⟨u,r,.inl ⟨hk,by simp⟩⟩
   ·rw[PB (Ne.symm hj)]at e2;obtain⟨u',r',q⟩:=hl j y v' e1 e2 e3;refine⟨u',r',?_⟩;rcases q with ⟨k,e⟩|⟨k,c,e,z⟩
    ·refine .inl ⟨k,?_⟩;have:y≠x:=fun e=>hj (zL hN e1 (e ▸ hi));simp[this,e]
    ·exact .inr ⟨k,c,e,z.sameBut hs (cne y c e)⟩
  ·obtain⟨w',z⟩:=I.cell y c e;exact⟨w',z.sameBut hs (cne y c e)⟩
  ·obtain⟨e,n,ne,nf,d⟩:=I.pin p hp;exact⟨(hs.2 p.1 ne).trans e,n,ne,nf,d⟩
 ·have hfn:X.fn x=true:=by
   rcases hf with z|z
   ·exact z
   ·rw[z]at hk;cases hk
  obtain⟨c,hc⟩:=I.ok.has x (.inl hk);obtain⟨w',z⟩:=I.cell x c hc;refine wpAny_storeName_cell I.ok.kind hk hc z (fun h' hc' hs=>?_);obtain⟨oc,hoc,hocd⟩:=id z;refine h { s with heap:=h' } ⟨I.ok,I.os,I.bare,⟨fun b o e n hb hx=>?_,fun b o e n hb hx=>?_,I.base.free,fun b o e hx=>?_,I.base.tups,I.base.frzs,I.base.tbls⟩,⟨m,hn.sameBut hs (Ne.symm (cne x c hc)),fun j y v' e1 e2 e3=>?_⟩,fun y c' e=>?_,I.free,I.freeC,fun p hp=>?_,tracked ⟨oc,hoc,I.freeC x c hc⟩ hs,by simpa using I.len⟩ ⟨c,hs,.inr hc⟩
  ·exact (hs.2 b (Oq (Os (N7 e) (I.ok.cab x c hfn hc)))).trans (I.base.keep b o e n hb hx)
  ·obtain⟨sl,e1⟩:=I.base.slot b o e n hb hx;exact⟨sl,(hs.2 b (Oq (Os (N7 e) (I.ok.cab x c hfn hc)))).trans e1⟩
  ·obtain⟨o',e1⟩:=I.base.there b o e hx;exact⟨o',(hs.2 b (Oq (Os (N7 e) (I.ok.cab x c hfn hc)))).trans e1⟩
  ·by_cases hj:j=i
   ·subst hj;rw[hi]at e1;cases e1;rw[List.getElem?_set_self hiσ]at e2;cases e2;exact⟨u,r,.inr ⟨.inl hk,c,hc,hc'⟩⟩
   ·rw[PB (Ne.symm hj)]at e2;obtain⟨u',r',q⟩:=hl j y v' e1 e2 e3;refine⟨u',r',?_⟩;rcases q with q|⟨k,c',e,z'⟩
    ·exact .inl q
    ·refine .inr ⟨k,c',e,z'.sameBut hs ?_⟩
     rintro rfl
     exact hj (zL hN e1 (I.ok.inj _ _ _ e hc ▸ hi))
  ·by_cases hcc:c'=c
   ·subst hcc;exact⟨_,hc'⟩
   ·obtain⟨w2,z2⟩:=I.cell y c' e;exact⟨w2,z2.sameBut hs hcc⟩
  ·obtain⟨e,n,ne,nf,d⟩:=I.pin p hp;refine⟨(hs.2 p.1 ?_).trans e,n,ne,nf,d⟩;intro q;rw[q,hoc]at e;have q':oc=p.2:=Option.some.inj e;exact d w' (by rw[<- q'];exact hocd)
theorem zg{M:Model}{A:Oc}{E:NO->NP->Prop}{i:Nat}{x:Str}{v:V}{u:NO}{Q:Unit->NP->Prop}(I:Inv X pins σ H s)(hN:X.N.Nodup)(hi:X.N[i]?=some x)(hx:Lh X.env.scope x)(r:aF v u)
  (h:∀ s',Inv X pins (σ.set i (some v)) H s'->Q () s') (hf:X.fn x=true\/X.env.scope.names.lookup x=some .local:=by first|exact .inl rfl|exact .inr rfl|assumption):NZ M A (storeName X.env x u) Q E s:=
 ww I hN hi hx r (fun s' I' _=>h s' I') hf
theorem Inv.call'{s':NP}{ch:List NR}(I:Inv X pins σ H s)(ho:s'.os=s.os)(u:Un (Eg X.stack) ch H H' s.heap s'.heap)(hok:oB X.prog X.w H' s'.heap)(hg:QN s'.gens)
  (hch:∀ b∈ch,(b∈X.ex\/X.s₀.heap.objs.size<=b)/\b≠X.env.locals/\(∀ x c,X.env.cells.lookup x=some c->c≠b)/\∀ p∈X.pn ++ pins,p.1≠b):Inv X pins σ H' s':=by
 obtain⟨h',g',d',t',o'⟩:=s';have e:o'=s.os:=ho;subst e;exact I.call (g':=g') (t':=t') (d':=d') u hok hg hch
end
abbrev XK:=NO->Option NR->Hp->Prop
abbrev St:=List (Option V)
abbrev VK:=V->Hp->Prop
abbrev TE:=St->Hp->VK->Prop
abbrev TT:=St->Hp->(Bool->Hp->Prop)->Prop
abbrev TA:=St->Hp->(List V->Hp->Prop)->Prop
structure Ends where
 nx:St->Hp->Prop
 rt:VK
 bk:St->Hp->Prop:=fun _ _=>False
 ct:St->Hp->Prop:=fun _ _=>False
abbrev TS:=Ends->St->Hp->Prop
def EP(X:Cx)(pins:List (NR×Obj))(σ:St)(Q:VK)(u:NO)(s':NP):Prop:=∃ v H',Inv X pins σ H' s'/\aF v u/\Q v H'
def TP(X:Cx)(pins:List (NR×Obj))(σ:St)(Q:Bool->Hp->Prop)(b:Bool)(s':NP):Prop:=∃ H',Inv X pins σ H' s'/\Q b H'
def AP(X:Cx)(pins:List (NR×Obj))(σ:St)(Q:List V->Hp->Prop)(us:List NO)(s':NP):Prop:=∃ vs H',Inv X pins σ H' s'/\Vals vs us/\Q vs H'
def SP(X:Cx)(pins:List (NR×Obj))(D:Ends)(f:Flow)(s':NP):Prop:=
 match f with
 | .next=>∃ σ' H',Inv X pins σ' H' s'/\D.nx σ' H'
 | .brk=>∃ σ' H',Inv X pins σ' H' s'/\D.bk σ' H'
 | .cont=>∃ σ' H',Inv X pins σ' H' s'/\D.ct σ' H'
 | .ret u=>∃ v σ' H',Inv X pins σ' H' s'/\aF v u/\D.rt v H'
def PE(X:Cx)(e:Oj)(t:TE):Prop:=
 ∀ (pins:List (NR×Obj)) (s:NP) (σ:St) (H:Hp) (Q:VK),Inv X pins σ H s->t σ H Q->NZ (N4 X.prog X.w) X.A (eval e X.env) (EP X pins σ Q) X.xe s
def PT(X:Cx)(e:Oj)(t:TT):Prop:=
 ∀ (pins:List (NR×Obj)) (s:NP) (σ:St) (H:Hp) (Q:Bool->Hp->Prop),Inv X pins σ H s->t σ H Q->NZ (N4 X.prog X.w) X.A (SA e X.env (eval e X.env)) (TP X pins σ Q) X.xe s
def PW(X:Cx)(e:Oj)(t:TT):Prop:=
 ∀ (whole:Sem NO) (pins:List (NR×Obj)) (s:NP) (σ:St) (H:Hp) (Q:Bool->Hp->Prop),Inv X pins σ H s->t σ H Q->NZ (N4 X.prog X.w) X.A (SA e X.env whole) (TP X pins σ Q) X.xe s
theorem PW.pt{X:Cx}{e:Oj}{t:TT}(h:PW X e t):PT X e t:=h _
def PA(X:Cx)(es:List Oj)(t:TA):Prop:=
 ∀ (pos:Pos) (pins:List (NR×Obj)) (s:NP) (σ:St) (H:Hp) (Q:List V->Hp->Prop),Inv X pins σ H s->t σ H Q->NZ (N4 X.prog X.w) X.A (spliced (OW pos (N5 es X.env))) (AP X pins σ Q) X.xe s
def PS(X:Cx)(st:Op)(t:TS):Prop:=
 ∀ (pins:List (NR×Obj)) (s:NP) (σ:St) (H:Hp) (D:Ends),Inv X pins σ H s->t D σ H->NZ (N4 X.prog X.w) X.A (exec st X.env) (SP X pins D) X.xe s
def rE(X:Cx)(st:List Op)(t:TS):Prop:=
 ∀ (pins:List (NR×Obj)) (s:NP) (σ:St) (H:Hp) (D:Ends),Inv X pins σ H s->t D σ H->NZ (N4 X.prog X.w) X.A (execs st X.env) (SP X pins D) X.xe s
theorem cz{α:Type}{t:Sem α}{Q Q':α->NP->Prop}{M:Model}{A:Oc}{E:NO->NP->Prop}{s:NP}(h:NZ M A t Q E s)(hQ:∀ a s,Q a s->Q' a s):NZ M A t Q' E s:=ON h hQ fun _ _ x=>x
section
variable{X:Cx}
def MJ(i:Nat):TE:=fun σ H Q=>∃ v,σ[i]?=some (some v)/\Q v H
def tC(v:V):TE:=fun _ H Q=>Q v H
theorem Fn{i:Nat}{x:Str}{pos:Pos}(hN:X.N[i]?=some x)(hv:Mq X.env.scope x)(hd:(x == ("__debug__":Str))=false:=by decide)(hcd:(x == ("__classdict__":Str))=false:=by decide):PE X (.Name x pos) (MJ i):=by
 intro pins s σ H Q I h;obtain⟨v,e,h⟩:=h;obtain⟨m,hn,hl⟩:=I.loc;obtain⟨u,r,l⟩:=hl i x v hN e hv;have fin:EP X pins σ Q u s:=⟨v,H,I,r,h⟩;rcases l with ⟨hk,hm⟩|⟨hk,c,hc,Tz⟩
 ·exact S2 (wpAny_loadName_local I.ok.kind hk hn hm fin) hd
 ·rcases hk with hk|hk
  ·exact S2 (wpAny_loadName_cell I.ok.kind hk hc Tz fin) hd
  ·exact S2 (wpAny_loadName_free I.ok.kind hk hc Tz fin hcd) hd
theorem Kb{i j pos}:PE X (.Constant (.int i) j pos) (tC (.int i)):=fun _ _ _ H _ I h=>wpAny_Constant_int ⟨.int i,H,I.tok _,⟨_,rfl⟩,h⟩
theorem LY{b j pos}:PE X (.Constant (.bool b) j pos) (tC (.bl b)):=fun _ _ _ H _ I h=>Constant_bool ⟨.bl b,H,I,rfl,h⟩
theorem J_{j pos}:PE X (.Constant .none j pos) (tC .non):=fun _ _ _ H _ I h=>Constant_none ⟨.non,H,I,rfl,h⟩
theorem J9{x j pos}:PE X (.Constant (.str x) j pos) (tC (.str x)):=fun _ _ _ H _ I h=>Calls.Constant_str ⟨.str x,H,I.tok _,⟨_,rfl⟩,h⟩
def Gl(X:Cx)(x:Str):Prop:=X.env.kindOf x=some .globalImplicit
theorem tj{E:NO->NP->Prop}{pins:List (NR×Obj)}{s:NP}{σ:St}{H:Hp}{x:Str}{u:NO}{pos:Pos}{Q:NO->NP->Prop}(I:Inv X pins σ H s)(hg:Gl X x)(hm:X.mg x=some u)(h:Q u s)
  (hd:(x == ("__debug__":Str))=false:=by decide):NZ (N4 X.prog X.w) X.A (eval (.Name x pos) X.env) Q E s:=
 Sb I.ok.kind hg (Calls.loadGlobal_global (by rw[I.ok.glob];exact I.mod.glob.keeps I.bk) hm h) hd
theorem fE{E:NO->NP->Prop}{pins:List (NR×Obj)}{s:NP}{σ:St}{H:Hp}{x:Str}{u:NO}{pos:Pos}{Q:NO->NP->Prop}(I:Inv X pins σ H s)(hg:Gl X x)(hm:X.mg x=none)(hv:Ph x=some u)(h:Q u s)
  (hn:x≠"__name__":=by decide) (hd:(x == ("__debug__":Str))=false:=by decide):NZ (N4 X.prog X.w) X.A (eval (.Name x pos) X.env) Q E s:=by
 obtain⟨mb,h1,h2⟩:=I.mod.blt;exact Sb I.ok.kind hg (Calls.loadGlobal_builtin (by rw[I.ok.glob];exact I.mod.glob.keeps I.bk) hm (by rw[I.ok.blt];exact h1.keeps I.bk) ((h2 x hn).trans hv) h) hd
theorem Cq{x:Str}{v:V}{u:NO}{pos:Pos}(hg:Gl X x)(hm:X.mg x=some u)(r:aF v u)(hd:(x == ("__debug__":Str))=false:=by decide):PE X (.Name x pos) (tC v):=
 fun _ _ _ H _ I h=>tj I hg hm ⟨v,H,I,r,h⟩ hd
variable{a b:Oj}{ta tb:TE}{pos:Pos}
def PC(X:Cx)(op:Q5)(a b:Oj)(t:TE):Prop:=
 ∀ (pins:List (NR×Obj)) (s:NP) (σ:St) (H:Hp) (Q:VK),Inv X pins σ H s->t σ H Q->
  NZ (N4 X.prog X.w) X.A (eval a X.env) (fun v s₁=>NZ (N4 X.prog X.w) X.A (eval b X.env) (fun u s₂=>NZ (N4 X.prog X.w) X.A (Oy op v u) (EP X pins σ Q) X.xe s₂) X.xe s₁) X.xe s
def tB(t:TE):TT:=fun σ H Q=>t σ H fun x H1=>∃ c,x=.bl c/\Q c H1
theorem Kc{op:Q5}{t:TE}(h:PC X op a b t)(h1:OT op b=false:=by first|exact nobehind _ (by decide) (by decide)|rfl):PE X (.Compare a [op] [b] pos) t:=fun pins s σ H Q I hw=>wpAny_Compare1 (h pins s σ H Q I hw) h1
theorem Fc{op:Q5}{t:TE}(h:PC X op a b t)(h1:OT op b=false:=by first|exact nobehind _ (by decide) (by decide)|rfl):PT X (.Compare a [op] [b] pos) (tB t):=by
 intro pins s σ H Q I hw;refine SI (cz (h pins s σ H _ I hw) fun v s1 h1=>cz h1 fun u s2 h2=>cz h2 fun c s3 zz=>?_) h1;obtain⟨x,H1,I1,r1,q1⟩:=zz;obtain⟨d,rfl,q⟩:=q1;cases r1;exact PH ⟨H1,I1,q⟩
variable{tA tB':TT}{dZ:List Oj}
def MT(t u:TT):TT:=fun σ H Q=>t σ H fun c H1=>if c=true then u σ H1 Q else Q false H1
def Nw(t u:TT):TT:=fun σ H Q=>t σ H fun c H1=>if c=true then Q true H1 else u σ H1 Q
def MN(t:TT):TT:=fun σ H Q=>t σ H fun c H1=>Q (!c) H1
theorem Hv(ha:PT X a tA):PW X (.BoolOp .And [a] pos) tA:=by
 intro wh pins s σ H Q I h;refine isTrue_and (cz (ha pins s σ H Q I h) fun c s1 e=>?_);cases c with
 | true=>exact isTrue_and_nil e
 | false=>exact e
theorem JY(ha:PT X a tA):PW X (.BoolOp .Or [a] pos) tA:=by
 intro wh pins s σ H Q I h;refine isTrue_or (cz (ha pins s σ H Q I h) fun c s1 e=>?_);cases c with
 | false=>exact isTrue_or_nil e
 | true=>exact e
theorem JZ(ha:PT X a tA)(hb:PW X (.BoolOp .And (b::dZ) pos) tB'):PW X (.BoolOp .And (a::b::dZ) pos) (MT tA tB'):=by
 intro wh pins s σ H Q I h;refine isTrue_and (cz (ha pins s σ H _ I h) fun c s1 zz=>?_);obtain⟨H1,I1,q1⟩:=zz;cases c with
 | true=>exact hb wh pins s1 σ H1 Q I1 q1
 | false=>exact⟨H1,I1,q1⟩
theorem LK(ha:PT X a tA)(hb:PW X (.BoolOp .Or (b::dZ) pos) tB'):PW X (.BoolOp .Or (a::b::dZ) pos) (Nw tA tB'):=by
 intro wh pins s σ H Q I h;refine isTrue_or (cz (ha pins s σ H _ I h) fun c s1 zz=>?_);obtain⟨H1,I1,q1⟩:=zz;cases c with
 | true=>exact⟨H1,I1,q1⟩
 | false=>exact hb wh pins s1 σ H1 Q I1 q1
theorem J1(ha:PT X a tA):PT X (.UnaryOp .Not a pos) (MN tA):=by
 intro pins s σ H Q I h;exact isTrue_not (ha pins s σ H (fun c H1=>Q (!c) H1) I h)
def Nx(t:TT)(ta tb:TE):TE:=fun σ H Q=>t σ H fun c H1=>if c=true then ta σ H1 Q else tb σ H1 Q
theorem Fq{c:Oj}(hc:PT X c tA)(ha:PE X a ta)(hb:PE X b tb):PE X (.IfExp c a b pos) (Nx tA ta tb):=by
 intro pins s σ H Q I h;refine wpAny_IfExp (cz (hc pins s σ H _ I h) fun d s1 zz=>?_);obtain⟨H1,I1,q1⟩:=zz;cases d with
 | true=>exact ha pins s1 σ H1 Q I1 q1
 | false=>exact hb pins s1 σ H1 Q I1 q1
end
def jw(K:Sf)(H:Hp)(a:NR)(xs:List V):Prop:=
 Rd H a (.lst xs)\/
  ∃ (o:Obj) (its:Array NO) (n:Nat),K.lookup a=some o/\o.cls=.type "list"/\o.dict=none/\o.data=.seq its n/\its.size<=NY/\Vals xs its.toList
def kL(K:Sf)(H:Hp)(a:NR)(xs:List V):Prop:=
 Rd H a (.tup xs)\/
  ∃ (o:Obj) (its:Array NO) (n:Nat),K.lookup a=some o/\(o.cls=.type "tuple"/\o.dict=none)/\o.data=.seq its n/\its.size<=NY/\Vals xs its.toList
def Nc:NO->Option V
 | .none=>some .non
 | .bool b=>some (.bl b)
 | .int i _=>some (.int i)
 | .str x _=>some (.str x)
 | .bytes b _=>some (.byt b)
 | .float b _=>some (.flt b)
 | .ref a=>some (.ref a)
 | .type n=>some (.ty n)
 | _=>none
theorem aF.abs{x:V}{u:NO}(r:aF x u):Nc u=some x:=by
 cases x with
 | non=>cases r;rfl
 | bl _=>cases r;rfl
 | int _=>obtain⟨t,rfl⟩:=r;rfl
 | str _=>obtain⟨t,rfl⟩:=r;rfl
 | byt _=>obtain⟨t,rfl⟩:=r;rfl
 | flt _=>obtain⟨t,rfl⟩:=r;rfl
 | ref _=>cases r;rfl
 | ty _=>cases r;rfl
theorem aF.inj{x y:V}{u:NO}(r:aF x u)(q:aF y u):x=y:=Option.some.inj (r.abs.symm.trans q.abs)
theorem Vals.inj:∀ {xs ys:List V} {us:List NO},Vals xs us->Vals ys us->xs=ys
 | _,_,_,.nil,.nil=>rfl
 | _,_,_,.cons r t,.cons r' t'=>by rw[r.inj r',Vals.inj t t']
section
variable{X:Cx}{pins:List (NR×Obj)}{σ:St}{H:Hp}{s:NP}{a:NR}{xs ys:List V}
theorem jw.of{K:Sf}(h:H a=some (.lst xs)):jw K H a xs:=.inl (.inl h)
theorem kL.of{K:Sf}(h:H a=some (.tup xs)):kL K H a xs:=.inl (.inl h)
theorem Inv.list(I:Inv X pins σ H s)(h:jw X.K H a xs):∃ its:List NO,Vals xs its/\PlainL s.heap a its.toArray/\xs.length<=NY:=by
 rcases h with h|⟨o,its,n,hk,hc,hd,hs,hz,r⟩
 ·obtain⟨z,its,n,r,e⟩:=h.ok I.hok;exact⟨its,r,⟨_,n,e,rfl,rfl,rfl⟩,z⟩
 ·refine⟨its.toList,r,⟨o,n,I.kIn a o hk,hc,hd,by simpa using hs⟩,?_⟩
  have e:=r.length;simp only[Array.length_toList]at e;omega
theorem Inv.tuple(I:Inv X pins σ H s)(h:kL X.K H a xs):∃ its:List NO,Vals xs its/\IsTup s.heap a its.toArray/\xs.length<=NY:=by
 rcases h with h|⟨o,its,n,hk,hc,hs,hz,r⟩
 ·obtain⟨z,its,r,p⟩:=h.ok I.hok;exact⟨its,r,p.tup,z⟩
 ·refine⟨its.toList,r,⟨o,I.kIn a o hk,hc.1,n,by simpa using hs⟩,?_⟩
  have e:=r.length;simp only[Array.length_toList]at e;omega
theorem Inv.list_inj(I:Inv X pins σ H s)(h:jw X.K H a xs)(h':jw X.K H a ys):xs=ys:=by
 obtain⟨its,r,⟨o,n,e,_,_,d⟩,_⟩:=I.list h;obtain⟨its',r',⟨o',n',e',_,_,d'⟩,_⟩:=I.list h';rw[e]at e';cases e';rw[d]at d';injection d' with d1 _
 have:its=its':=by simpa using congrArg Array.toList d1
 subst this;exact r.inj r'
theorem Inv.tuple_inj(I:Inv X pins σ H s)(h:kL X.K H a xs)(h':kL X.K H a ys):xs=ys:=by
 obtain⟨its,r,⟨o,e,_,n,d⟩,_⟩:=I.tuple h;obtain⟨its',r',⟨o',e',_,n',d'⟩,_⟩:=I.tuple h';rw[e]at e';cases e';rw[d]at d';injection d' with d1 _
 have:its=its':=by simpa using congrArg Array.toList d1
 subst this;exact r.inj r'
end
abbrev Cx.wish(X:Cx)(E:NO->NP->Prop):Cx:={ X with xe:=E }
abbrev Cx.nox(X:Cx):Cx:=X.wish fun _ _=>False
theorem Cx.Ok.wish{X:Cx}(ok:X.Ok)(E:NO->NP->Prop):(X.wish E).Ok:=
 ⟨ok.mod,ok.kind,ok.glob,ok.blt,ok.above,ok.inj,ok.has,ok.cab,ok.hd,ok.frames,ok.stk,ok.exf,ok.bs,ok.bsz,ok.noex,ok.exfs,ok.funs,ok.frf⟩
theorem Cx.Ok.unwish{X:Cx}{E:NO->NP->Prop}(ok:(X.wish E).Ok):X.Ok:=
 ⟨ok.mod,ok.kind,ok.glob,ok.blt,ok.above,ok.inj,ok.has,ok.cab,ok.hd,ok.frames,ok.stk,ok.exf,ok.bs,ok.bsz,ok.noex,ok.exfs,ok.funs,ok.frf⟩
section
variable{X:Cx}{pins:List (NR×Obj)}{σ:St}{H:Hp}{s:NP}{E:NO->NP->Prop}
theorem Inv.wish(I:Inv X pins σ H s)(E:NO->NP->Prop):Inv (X.wish E) pins σ H s:=⟨I.ok.wish E,I.os,I.bare,I.base,I.loc,I.cell,I.free,I.freeC,I.pin,I.hok,I.len⟩
theorem Inv.unwish(I:Inv (X.wish E) pins σ H s):Inv X pins σ H s:=⟨I.ok.unwish,I.os,I.bare,I.base,I.loc,I.cell,I.free,I.freeC,I.pin,I.hok,I.len⟩
theorem SP.unwish{D:Ends}{f:Flow}{s':NP}(h:SP (X.wish E) pins D f s'):SP X pins D f s':=by
 cases f with
 | next=>obtain⟨σ',H',I,q⟩:=h;exact⟨σ',H',I.unwish,q⟩
 | brk=>obtain⟨σ',H',I,q⟩:=h;exact⟨σ',H',I.unwish,q⟩
 | cont=>obtain⟨σ',H',I,q⟩:=h;exact⟨σ',H',I.unwish,q⟩
 | ret u=>obtain⟨v,σ',H',I,r,q⟩:=h;exact⟨v,σ',H',I.unwish,r,q⟩
theorem rE.nox{st:List Op}{t:TS}(h:rE X.nox st t):rE X st t:=fun pins s σ H D I hw=>
 ON (h pins s σ H D (I.wish _) hw) (fun _ _ q=>q.unwish) fun _ _ z=>False.elim z
end
section
variable{X:Cx}{st:Op}{dZ:List Op}{t u:TS}{e:Oj}{te:TE}{pos:Pos}
def Lu:TS:=fun D σ H=>D.nx σ H
def ML(t u:TS):TS:=fun D σ H=>t { D with nx:=u D } σ H
theorem HA:rE X [] Lu:=fun _ _ σ H _ I h=>Qs ⟨σ,H,I,h⟩
theorem Fe(h1:PS X st t)(h2:rE X dZ u):rE X (st::dZ) (ML t u):=by
 intro pins s σ H D I h;refine wpAny_execs_cons (cz (h1 pins s σ H { D with nx:=u D } I h) fun f s1 q=>?_)
 cases f with
 | next=>
  obtain⟨σ',H',I',q⟩:=q;exact h2 pins s1 σ' H' D I' q
 | ret v=>exact q
 | brk=>exact q
 | cont=>exact q
theorem Hz(h1:PS X st t):rE X [st] t:=by
 intro pins s σ H D I h;refine wpAny_execs_cons (cz (h1 pins s σ H D I h) fun f s1 q=>?_);cases f with
 | next=>exact Qs q
 | ret v=>exact q
 | brk=>exact q
 | cont=>exact q
theorem Inv.quiet{pins:List (NR×Obj)}{σ:St}{H:Hp}{s:NP}(I:Inv X pins σ H s):interactive X.env=false:=by simp[interactive,I.ok.kind]
def Lv(te:TE):TS:=fun D σ H=>te σ H fun _ H1=>D.nx σ H1
theorem HB(he:PE X e te)(hs:PQ e none pos.line X.env=pure false:=by rfl):PS X (.Expr e pos) (Lv te):=by
 intro pins s σ H D I h;exact wpAny_Expr_any (cz (he pins s σ H _ I h) fun v s1 ⟨x,H1,I1,r1,q1⟩=>⟨σ,H1,I1,q1⟩) I.quiet hs
def MM(te:TE):TS:=fun D σ H=>te σ H D.rt
theorem Fh(he:PE X e te):PS X (.Return (some e) pos) (MM te):=by
 intro pins s σ H D I h;exact wpAny_Return_some (cz (he pins s σ H _ I h) fun v s1 ⟨x,H1,I1,r1,q1⟩=>⟨x,σ,H1,I1,r1,q1⟩)
def MP(c:TT)(t u:TS):TS:=fun D σ H=>c σ H fun b H1=>if b=true then t D σ H1 else u D σ H1
theorem LL{c:Oj}{a b:List Op}{tc:TT}(hc:PT X c tc)(ha:rE X a t)(hb:rE X b u):PS X (.If c a b pos) (MP tc t u):=by
 intro pins s σ H D I h;refine wpAny_If (cz (hc pins s σ H _ I h) fun d s1 zz=>?_);obtain⟨H1,I1,q1⟩:=zz;cases d with
 | true=>exact ha pins s1 σ H1 D I1 q1
 | false=>exact hb pins s1 σ H1 D I1 q1
def JO:TS:=fun _ _ _=>False
theorem Fi:PS X st JO:=fun _ _ _ _ _ _ h=>h.elim
end
abbrev TG:=V->St->Hp->(St->Hp->Prop)->Prop
abbrev IR:=List V->St->Hp->(St->Hp->Prop)->Prop
def PG(X:Cx)(target:Oj)(t:TG):Prop:=
 ∀ (pins:List (NR×Obj)) (s:NP) (σ:St) (H:Hp) (v:V) (u:NO) (Q:St->Hp->Prop),Inv X pins σ H s->aF v u->t v σ H Q->
  NZ (N4 X.prog X.w) X.A (assign target X.env u) (fun _ s'=>∃ σ' H',Inv X pins σ' H' s'/\Q σ' H') X.xe s
def GL(X:Cx)(ts:List Oj)(t:IR):Prop:=
 ∀ (pins:List (NR×Obj)) (s:NP) (σ:St) (H:Hp) (vs:List V) (us:List NO) (Q:St->Hp->Prop),Inv X pins σ H s->Vals vs us->t vs σ H Q->
  NZ (N4 X.prog X.w) X.A (assignInOrder ((Pw ts X.env).map (·.2)) us) (fun _ s'=>∃ σ' H',Inv X pins σ' H' s'/\Q σ' H') X.xe s
abbrev IQ:=V->V->V->Hp->(Hp->Prop)->Prop
def Lf(X:Cx)(t:IQ):Prop:=
 ∀ (pins:List (NR×Obj)) (s:NP) (σ:St) (H:Hp) (o i v:V) (ov iv u:NO) (Q:Hp->Prop),Inv X pins σ H s->aF o ov->aF i iv->aF v u->t o i v H Q->
  NZ (N4 X.prog X.w) X.A (Th ov iv u) (fun _ s'=>∃ H',Inv X pins σ H' s'/\Q H') X.xe s
section
variable{X:Cx}{pos:Pos}
def Af(i:Nat):TG:=fun v σ H Q=>Q (σ.set i (some v)) H
theorem HI{i:Nat}{x:Str}(hN:X.N.Nodup)(hi:X.N[i]?=some x)(hx:Lh X.env.scope x)(hf:X.fn x=true\/X.env.scope.names.lookup x=some .local:=by first|exact .inl rfl|exact .inr rfl|assumption):PG X (.Name x pos) (Af i):=by
 intro pins s σ H v u Q I r h;exact Te (zg I hN hi hx r (fun s' I'=>⟨_,H,I',h⟩) hf)
def M9:IR:=fun vs σ H Q=>vs=[]/\Q σ H
def Mf(t:TG)(u:IR):IR:=fun vs σ H Q=>∃ v r,vs=v::r/\t v σ H fun σ' H'=>u r σ' H' Q
theorem HH:GL X [] M9:=by
 intro pins s σ H vs us Q I r h;obtain⟨e,h⟩:=h;subst e;cases r;exact assignInOrder_nil ⟨σ,H,I,h⟩
theorem Fm{e:Oj}{es:List Oj}{t:TG}{u:IR}(h1:PG X e t)(h2:GL X es u)
  (hs:(Pw (e::es) X.env).map (·.2)=assign e X.env::(Pw es X.env).map (·.2):=by rfl):GL X (e::es) (Mf t u):=by
 intro pins s σ H vs us Q I r h;obtain⟨v,vr,e1,h⟩:=h;subst e1;cases r with
 | cons r rr=>
  rw[hs];refine assignInOrder_cons (cz (h1 pins s σ H _ _ _ I r h) fun _ s1 zz=>?_);obtain⟨σ1,H1,I1,q1⟩:=zz;exact h2 pins s1 σ1 H1 _ _ Q I1 rr q1
def M7(K:Sf)(n:Nat)(t:IR):TG:=fun v σ H Q=>∃ a xs,v=.ref a/\kL K H a xs/\xs.length=n/\t xs σ H Q
theorem J6{es:List Oj}{k:Nat}{t:IR}{n:Nat}(hc:X.calm=true)(h:GL X es t)
  (hn:(Pw es X.env).length=n:=by rfl) (hst:(Pw es X.env).findIdx? (·.1)=none:=by rfl):PG X (.Tuple es k pos) (M7 X.K n t):=by
 intro pins s σ H v u Q I r hw;obtain⟨a,xs,e1,hq,hl,hw⟩:=hw;subst e1;cases r;obtain⟨its,rv,ht,hz⟩:=I.tuple hq;refine assign_Tuple_tuple (I.ok.hd hc) ht (by simp[hn,<- hl,rv.length]) hst fun h' hx=>?_
 have I1:Inv X pins σ H { s with heap:=h' }:=I.kept (t':=s.toks) fun b o e=>hx b o (Oq (N7 e)) e
 exact h pins _ σ H xs _ Q I1 (by simpa using rv) hw
def M8(to ti:TE)(t:IQ):TG:=fun v σ H Q=>to σ H fun o H1=>ti σ H1 fun i H2=>t o i v H2 fun H3=>Q σ H3
theorem J7{o i:Oj}{to ti:TE}{t:IQ}(ho:PE X o to)(hi:PE X i ti)(hs:Lf X t)
  (ha:∀ v,assign (.Subscript o i pos) X.env v=(do
   let ov <- holding [v] (eval o X.env)
   let iv <- holding [v,ov] (eval i X.env)
   Qw pos
   holding [v,ov,iv] (Th ov iv v)
   release [v,ov,iv] []):=by intro _;rfl):PG X (.Subscript o i pos) (M8 to ti t):=by
 intro pins s σ H v u Q I r h;rw[ha];refine NN (OH (cz (ho pins s σ H _ I h) fun ov s1 zz=>?_));obtain⟨x,H1,I1,r1,q1⟩:=zz;refine NN (OH (cz (hi pins s1 σ H1 _ I1 q1) fun iv s2 zz=>?_));obtain⟨y,H2,I2,r2,q2⟩:=zz;refine NN (Rp (NN (OH (cz (hs pins s2 σ H2 x y v ov iv u _ I2 r1 r2 r q2) fun _ s3 zz=>?_))));obtain⟨H3,I3,q3⟩:=zz;exact wpAny_release ⟨σ,H3,I3,q3⟩
def JQ(te:TE)(g:TG):TS:=fun D σ H=>te σ H fun x H1=>g x σ H1 D.nx
theorem J2{tg e:Oj}{te:TE}{g:TG}(he:PE X e te)(hg:PG X tg g)(hs:swapsWithSole [tg] e pos.line X.env=pure false:=by rfl)(hw:swappedStores [tg] e X.env=pure none:=by rfl)
  (h1:(Pw [tg] X.env).map (·.2)=[assign tg X.env]:=by rfl):PS X (.Assign [tg] e pos) (JQ te g):=by
 intro pins s σ H D I h;refine wpAny_Assign_stores (cz (he pins s σ H _ I h) fun v s1 zz=>?_) hs hw;obtain⟨x,H1,I1,r1,q1⟩:=zz;rw[h1];exact cz (hg pins s1 σ H1 x v _ I1 r1 q1) fun _ s2 q=>q
theorem Fg{i:Nat}{x:Str}{e:Oj}{te:TE}{pos':Pos}(hN:X.N.Nodup)(hi:X.N[i]?=some x)(hx:Lh X.env.scope x)(he:PE X e te)(hs:PQ e (some (.Name x pos')) pos.line X.env=pure false:=by rfl)(hf:X.fn x=true\/X.env.scope.names.lookup x=some .local:=by first|exact .inl rfl|exact .inr rfl|assumption):
  PS X (.Assign [.Name x pos'] e pos) (JQ te (Af i)):=by
 intro pins s σ H D I h;refine wpAny_Assign_Name (cz (he pins s σ H _ I h) fun v s1 zz=>?_) hs;obtain⟨y,H1,I1,r1,q1⟩:=zz;exact zg I1 hN hi hx r1 (fun s2 I2=>⟨_,H1,I2,q1⟩) hf
def JN(c:TT)(tb:TS):TS:=fun D σ H=>∃ W:Nat->St->Hp->Prop,(∃ m,W m σ H)/\∀ m σ H,W m σ H->
 c σ H fun b H1=>if b=true then ∃ N:St->Hp->Prop,(∀ σ' H',N σ' H'->∃ m',m' < m/\W m' σ' H')/\tb { D with nx:=N,ct:=N,bk:=D.nx } σ H1 else D.nx σ H1
theorem Ff{c:Oj}{body:List Op}{tc:TT}{tb:TS}(hp:Rm (N4 X.prog X.w) X.A X.env X.xe)(hc:PT X c tc)(hb:rE X body tb):PS X (.While c body [] pos) (JN tc tb):=by
 intro pins s σ H D I h;obtain⟨W,⟨m0,w0⟩,turn⟩:=h;refine wpAny_While (codeAny_whileLoop (fun n s'=>∃ σ' H',Inv X pins σ' H' s'/\W n σ' H') ?_ m0 ⟨σ,H,I,w0⟩)
 rintro n s1 ⟨σ1,H1,I1,w1⟩
 refine OM hp (cz (hc pins s1 σ1 H1 _ I1 (turn n σ1 H1 w1)) fun b s2 zz=>?_);obtain⟨H2,I2,q2⟩:=zz;cases b with
 | true=>
  obtain⟨N,hN,q2⟩:=q2;rw[if_pos rfl];refine OM hp (cz (hb pins s2 σ1 H2 _ I2 q2) fun f s3 q3=>?_);cases f with
  | next=>
   obtain⟨σ3,H3,I3,n3⟩:=q3;obtain⟨m',hm,w3⟩:=hN σ3 H3 n3;exact⟨m',hm,σ3,H3,I3,w3⟩
  | cont=>
   obtain⟨σ3,H3,I3,n3⟩:=q3;obtain⟨m',hm,w3⟩:=hN σ3 H3 n3;exact⟨m',hm,σ3,H3,I3,w3⟩
  | brk=>exact q3
  | ret v=>exact q3
 | false=>
  rw[if_neg Bool.false_ne_true];exact Qs ⟨σ1,H2,I2,q2⟩
end
structure It where
 go:Nat->Hp->Prop
 yld:Nat->Hp->V->Hp->Prop
 stop:Nat->Hp->Prop
def rF(X:Cx)(pins:List (NR×Obj))(H:Hp)(b:NR):Prop:=
 H b=none/\b≠X.env.locals/\b∉X.fs/\(b∈X.ex\/X.s₀.heap.objs.size<=b)/\(∀ x c,X.env.cells.lookup x=some c->c≠b)/\∀ p∈X.pn ++ pins,p.1≠b
theorem Inv.fpOk{X:Cx}{pins:List (NR×Obj)}{σ:St}{H H':Hp}{s:NP}{b:NR}(I:Inv X pins σ H s)(hb:s.heap.objs.size<=b)(hn:H' b=none):rF X pins H' b:=by
 refine⟨hn,Rb (Os I.lt hb),I.nofs hb,.inr (le_trans I.sz hb),fun x c e z=>?_,fun p hp z=>?_⟩
 ·obtain⟨v,q⟩:=I.cell x c e;exact absurd (Os q.lt (by rw[z];exact hb)) (Nat.lt_irrefl _)
 ·exact absurd (Os (N7 (I.pin p hp).1) (by rw[z];exact hb)) (Nat.lt_irrefl _)
structure Turn(P:N_)(w:Og)(K:Sf)(tg:Oj)(J:It)(fp:List NR)(it:NR)(tn:Nat->Of->Prop):Prop where
 mem:it∈fp
 obj:∀ i h,tn i h->∀ b∈fp,∃ o,h.get? b=some o/\∀ v,o.data≠.cell v
 keep:∀ i h h',tn i h->(∀ b∈fp,∀ o,h.get? b=some o->h'.get? b=some o)->tn i h'
 item:∀ (X:Cx),X.prog=P->X.w=w->X.K=K->X.calm=true->∀ (i:Nat) (pins:List (NR×Obj)) (s:NP) (σ:St) (H:Hp) (E:NO->NP->Prop),Inv X pins σ H s->(∀ b∈fp,rF X pins H b)->tn i s.heap->J.go i H->
  NZ (N4 P w) X.A (Pu (.ref it)) (fun r s1=>∃ u,r=some u/\
   NZ (N4 P w) X.A (Qa tg (.ref it) u) (fun _ s2=>∃ x H',Inv X pins σ H' s2/\aF x u/\J.yld i H x H'/\tn (i+1) s2.heap/\∀ b∈fp,H' b=none) E s1) E s
 done:∀ (X:Cx),X.prog=P->X.w=w->X.K=K->X.calm=true->∀ (i:Nat) (pins:List (NR×Obj)) (s:NP) (σ:St) (H:Hp) (E:NO->NP->Prop),Inv X pins σ H s->(∀ b∈fp,rF X pins H b)->tn i s.heap->J.stop i H->
  NZ (N4 P w) X.A (Pu (.ref it)) (fun r s1=>r=none/\Inv X pins σ H s1) E s
 self:∀ (A:Oc) (i:Nat) (s:NP) (Q:NO->NP->Prop) (E:NO->NP->Prop),tn i s.heap->Q (.ref it) s->NZ (N4 P w) A (QE (.ref it)) Q E s
abbrev TI:=St->Hp->(It->Hp->Prop)->Prop
def JA(X:Cx)(pins:List (NR×Obj))(σ:St)(tg:Oj)(R:It->Hp->Prop)(itv:NO)(s2:NP):Prop:=
 ∃ (it:NR) (fp:List NR) (tn:Nat->Of->Prop) (J:It) (H':Hp),itv=.ref it/\Inv X pins σ H' s2/\Turn X.prog X.w X.K tg J fp it tn/\tn 0 s2.heap/\(∀ b∈fp,rF X pins H' b)/\R J H'
def PI(X:Cx)(tg iter:Oj)(wi:TI):Prop:=
 ∀ (pins:List (NR×Obj)) (s:NP) (σ:St) (H:Hp) (R:It->Hp->Prop),Inv X pins σ H s->wi σ H R->
  NZ (N4 X.prog X.w) X.A (eval iter X.env) (fun v s1=>NZ (N4 X.prog X.w) X.A (QE v) (JA X pins σ tg R) X.xe s1) X.xe s
theorem Ae{M:Model}{A:Oc}{E:NO->NP->Prop}{s:NP}{tg:Oj}{it:NR}{u:NO}{o:Obj}{n:String}{vs:Array NO}{Q:Unit->NP->Prop}(ho:s.heap.get? it=some o)(hc:o.cls=.type n)(hd:o.data=.fields vs)
  (hn:["enumerate","zip","dict_itemiterator","dict_reverseitemiterator","odict_iterator","itertools.zip_longest","itertools.pairwise"].contains n=false) (hQ:Q () s):NZ M A (Qa tg (.ref it) u) Q E s:=by
 unfold Qa;cases tg<;>first
  | exact NQ hQ
  | (cases u<;>first
    | exact NQ hQ
    | (refine NN (wpAny_load ho ?_)
       rw[hc,hd];show NZ M A (if (["enumerate","zip","dict_itemiterator","dict_reverseitemiterator","odict_iterator","itertools.zip_longest","itertools.pairwise"].contains n && vs[0]? == some (PN _))=true then _ else _) Q E s
       rw[if_neg (by intro h;rw[hn,Bool.false_and]at h;cases h)]
       exact NQ hQ))
def Mw(K:Sf)(a:NR):It:=
 ⟨fun i H=>∃ xs x,jw K H a xs/\xs[i]?=some x,fun i H x H'=>H'=H/\∀ xs,jw K H a xs->xs[i]?=some x,fun i H=>∃ xs,jw K H a xs/\xs.length<=i⟩
def Nh(K:Sf)(a:NR):It:=
 ⟨fun i H=>∃ xs x,kL K H a xs/\xs[i]?=some x,fun i H x H'=>H'=H/\∀ xs,kL K H a xs->xs[i]?=some x,fun i H=>∃ xs,kL K H a xs/\xs.length<=i⟩
def Mv(lo:Int)(n:Nat):It:=⟨fun i _=>i < n,fun i H x H'=>H'=H/\x=.int (lo+i),fun i _=>n<=i⟩
theorem C3{P:N_}{w:Og}{K:Sf}{tg:Oj}(a it:NR):Turn P w K tg (Mw K a) [it] it (fun i h=>h.IsListIter it a i) where
 mem:=by simp
 obj:=fun i h st b hb=>by
  have e:b=it:=by simpa using hb
  subst e;obtain⟨o,e,c,d⟩:=st;exact⟨o,e,fun v z=>by rw[d]at z;cases z⟩
 keep:=fun i h h' st k=>st.at fun o e=>k it (by simp) o e
 item:=by
  intro X hP hw hK hc i pins s σ H E I hf st hg;subst hP hw hK;obtain⟨xs,x,hq,hx⟩:=hg;obtain⟨its,rv,p,hz⟩:=I.list hq;obtain⟨u,hu,ru⟩:=rv.get hx;obtain⟨f0,f1,f2,f3,f4,f5⟩:=hf it (by simp)
  refine Sw st p.isList (x:=u) (by simpa using hu) fun h' st' sb=>?_
  have I1:Inv X pins σ H { s with heap:=h' }:=I.turned (t':=s.toks) (fun b o hb e=>(sb.2 b hb).trans e) f0 f1 f3 f4 f5
  obtain⟨o,e,c,d⟩:=id st';exact⟨u,rfl,Ae (s:={ s with heap:=h' }) e c d (by decide) ⟨x,H,I1,ru,⟨rfl,fun ys hy=>by rw[I.list_inj hy hq];exact hx⟩,st',fun b hb=>(hf b hb).1⟩⟩
 done:=by
  intro X hP hw hK hc i pins s σ H E I hf st hg;subst hP hw hK;obtain⟨xs,hq,hx⟩:=hg;obtain⟨its,rv,p,hz⟩:=I.list hq;obtain⟨f0,f1,f2,f3,f4,f5⟩:=hf it (by simp)
  have hl:=rv.length;exact SH (I.ok.hd hc) st p.isList (by simp;omega) fun h' eb=>⟨rfl,I.turned (t':=s.toks) (fun b o hb e=>eb b o hb e) f0 f1 f3 f4 f5⟩
 self:=fun _ _ _ _ _ st h=>wpAny_pyIter_listiter st h
theorem AT{P:N_}{w:Og}{K:Sf}{tg:Oj}(a it:NR):Turn P w K tg (Nh K a) [it] it (fun i h=>h.IsTupleIter it a i) where
 mem:=by simp
 obj:=fun i h st b hb=>by
  have e:b=it:=by simpa using hb
  subst e;obtain⟨o,e,c,d⟩:=st;exact⟨o,e,fun v z=>by rw[d]at z;cases z⟩
 keep:=fun i h h' st k=>st.at fun o e=>k it (by simp) o e
 item:=by
  intro X hP hw hK hc i pins s σ H E I hf st hg;subst hP hw hK;obtain⟨xs,x,hq,hx⟩:=hg;obtain⟨its,rv,p,hz⟩:=I.tuple hq;obtain⟨u,hu,ru⟩:=rv.get hx;obtain⟨f0,f1,f2,f3,f4,f5⟩:=hf it (by simp)
  refine wpAny_pyNext_tuple_item st (show s.heap.IsTuple a its.toArray from p) (x:=u) (by simpa using hu) fun h' st' sb=>?_
  have I1:Inv X pins σ H { s with heap:=h' }:=I.turned (t':=s.toks) (fun b o hb e=>(sb.2 b hb).trans e) f0 f1 f3 f4 f5
  obtain⟨o,e,c,d⟩:=id st';exact⟨u,rfl,Ae (s:={ s with heap:=h' }) e c d (by decide) ⟨x,H,I1,ru,⟨rfl,fun ys hy=>by rw[I.tuple_inj hy hq];exact hx⟩,st',fun b hb=>(hf b hb).1⟩⟩
 done:=by
  intro X hP hw hK hc i pins s σ H E I hf st hg;subst hP hw hK;obtain⟨xs,hq,hx⟩:=hg;obtain⟨its,rv,p,hz⟩:=I.tuple hq;obtain⟨f0,f1,f2,f3,f4,f5⟩:=hf it (by simp)
  have hl:=rv.length;exact wpAny_pyNext_tuple_end (I.ok.hd hc) st (show s.heap.IsTuple a its.toArray from p) (by simp;omega) fun h' eb=>⟨rfl,I.turned (t':=s.toks) (fun b o hb e=>eb b o hb e) f0 f1 f3 f4 f5⟩
 self:=fun _ _ _ _ _ st h=>wpAny_pyIter_tupleiter st h
theorem AU{P:N_}{w:Og}{K:Sf}{tg:Oj}(it:NR)(lo:Int)(n:Nat):Turn P w K tg (Mv lo n) [it] it (fun i h=>IsRangeIter h it (lo+(i:Nat)*1) ((n:Int) - (i:Nat)) 1) where
 mem:=by simp
 obj:=fun i h st b hb=>by
  have e:b=it:=by simpa using hb
  subst e;exact⟨_,st,fun v z=>by
   have z':Data.fields _=Data.cell v:=z;cases z'⟩
 keep:=fun i h h' st k=>k it (by simp) _ st
 item:=by
  intro X hP hw hK hc i pins s σ H E I hf st hg;subst hP hw hK;obtain⟨f0,f1,f2,f3,f4,f5⟩:=hf it (by simp)
  have W:=Walks.range (prog:=X.prog) (w:=X.w) (I.ok.hd hc) it lo 1 n;refine W.item i s _ _ hg st fun v h' tk hv st' kk=>?_;obtain⟨t,rfl⟩:=hv;have I1:Inv X pins σ H { s with heap:=h',toks:=tk }:=I.turned (fun b o hb e=>kk b o (by simpa using hb) e) f0 f1 f3 f4 f5
  refine⟨_,rfl,Ae (s:={ s with heap:=h',toks:=tk }) (n:="range_iterator") st' rfl rfl (by decide) ⟨.int (lo+i),H,I1,⟨t,?_⟩,⟨rfl,rfl⟩,st',fun b hb=>(hf b hb).1⟩⟩
  rw[Int.mul_one]
 done:=by
  intro X hP hw hK hc i pins s σ H E I hf st hg;subst hP hw hK;obtain⟨f0,f1,f2,f3,f4,f5⟩:=hf it (by simp)
  exact wpAny_pyNext_range_end (I.ok.hd hc) st (by have:n<=i:=hg;omega) fun h' eb=>⟨rfl,I.turned (t':=s.toks) (fun b o hb e=>eb b o hb e) f0 f1 f3 f4 f5⟩
 self:=fun _ _ _ _ _ st h=>wpAny_pyIter_rangeiter st h
section
variable{X:Cx}{tg:Oj}
theorem zD{pins:List (NR×Obj)}{σ:St}{H:Hp}{s:NP}{R:It->Hp->Prop}{E:NO->NP->Prop}{lo hi:Int}{t u v:Tok}{tk:Nat}(I:Inv X pins σ H s)(h1:-(2 ^ 62)<=lo)(h2:lo < 2 ^ 62)(h3:-(2 ^ 62)<=hi)(h4:hi < 2 ^ 62)
  (q:R (Mv lo (hi - lo).toNat) H):NZ (N4 X.prog X.w) X.A (QE (.ref s.heap.objs.size)) (JA X pins σ tg R) E { s with heap:=s.heap.push { cls:=.type "range",data:=.fields #[.int lo t,.int hi u,.int 1 v] },toks:=tk }:=by
 refine wpAny_pyIter_range (IsRange.new ..) (small_one h1 h2 h3 h4) ?_;have I1:Inv X pins σ H { s with heap:=s.heap.push { cls:=.type "range",data:=.fields #[.int lo t,.int hi u,.int 1 v] },toks:=tk }:=I.kept fun b o e=>NT _ e
 refine⟨(s.heap.push { cls:=.type "range",data:=.fields #[.int lo t,.int hi u,.int 1 v] }).objs.size,[(s.heap.push { cls:=.type "range",data:=.fields #[.int lo t,.int hi u,.int 1 v] }).objs.size],_,_,H,rfl,
  I1.kept (t':=tk) fun b o e=>NT _ e,AU _ lo (hi - lo).toNat,?_,fun b hb=>?_,q⟩
 ·have e1:lo+((0:Nat):Int)*1=lo:=by simp
  have e2:(((hi - lo).toNat:Nat):Int) - ((0:Nat):Int)=Builtin.Range.rangeSize lo hi 1:=by rw[rangeSize_one];split<;>omega
  show IsRangeIter _ _ (lo+((0:Nat):Int)*1) ((((hi - lo).toNat:Nat):Int) - ((0:Nat):Int)) 1
  rw[e1,e2];exact NW _ rfl
 ·have e:b=(s.heap.push { cls:=.type "range",data:=.fields #[.int lo t,.int hi u,.int 1 v] }).objs.size:=by simpa using hb
  subst e;exact I1.fpOk (le_refl _) (I1.hok.fresh (le_refl _))
def Md(ta:TA):TI:=fun σ H R=>ta σ H fun vs H1=>∃ j:Int,vs=[.int j]/\-(2 ^ 62)<=j/\j < 2 ^ 62/\R (Mv 0 j.toNat) H1
def Mc(ta:TA):TI:=fun σ H R=>ta σ H fun vs H1=>∃ i j:Int,vs=[.int i,.int j]/\(-(2 ^ 62)<=i/\i < 2 ^ 62/\-(2 ^ 62)<=j/\j < 2 ^ 62)/\R (Mv i (j - i).toNat) H1
theorem Dm{a:Oj}{ta:TA}{p pos:Pos}(hg:Gl X "range")(hm:X.mg "range"=none)(ha:PA X [a] ta)(hs:N5 [a] X.env=[(false,eval a X.env)]:=by rfl):PI X tg (.Call (.Name "range" p) [a] [] pos) (Md ta):=by
 intro pins s σ H R I h;refine RK (fE I hg hm Ta (PyProof.Rows.callWith_type1 (cz (ha pos pins s σ H _ I h) fun us s1 ⟨vs,H1,I1,r1,q1⟩=>?_) hs rfl));obtain⟨j,e,q1,q2,q⟩:=q1;subst e;cases r1 with
 | cons r rr=>
  cases rr;obtain⟨t,rfl⟩:=r;exact call_range_1 (zD I1 (by walk_at "o") (by walk_at "o") q1 q2 (by simpa using q))
theorem Dl{a b:Oj}{ta:TA}{p pos:Pos}(hg:Gl X "range")(hm:X.mg "range"=none)(ha:PA X [a,b] ta)(hs:N5 [a,b] X.env=[(false,eval a X.env),(false,eval b X.env)]:=by rfl)(hs2:N5 [b] X.env=[(false,eval b X.env)]:=by rfl):
  PI X tg (.Call (.Name "range" p) [a,b] [] pos) (Mc ta):=by
 intro pins s σ H R I h;refine RK (fE I hg hm Ta (PyProof.Rows.callWith_type1 (cz (ha pos pins s σ H _ I h) fun us s1 ⟨vs,H1,I1,r1,q1⟩=>?_) (by rw[hs,hs2]) (by rw[hs2];rfl)))
 obtain⟨i,j,e,⟨q1,q2,q3,q4⟩,q⟩:=q1;subst e;cases r1 with
 | cons r rr=>
  cases rr with
  | cons r' rr=>
   cases rr;obtain⟨t,rfl⟩:=r;obtain⟨t',rfl⟩:=r';exact call_range_2 (zD I1 q1 q2 q3 q4 q)
def MQ(wi:TI)(g:TG)(tb:TS):TS:=fun D σ H=>wi σ H fun J H1=>∃ W:Nat->Nat->St->Hp->Prop,(∃ m,W 0 m σ H1)/\∀ i m σ H,W i m σ H->
 (J.stop i H/\D.nx σ H)\/(J.go i H/\∃ N:St->Hp->Prop,(∀ σ' H',N σ' H'->∃ m',m' < m/\W (i+1) m' σ' H')/\∀ x H',J.yld i H x H'->g x σ H' fun σ2 H2=>tb { D with nx:=N,ct:=N,bk:=D.nx } σ2 H2)
def qL(fp:List NR)(h:Of):List (NR×Obj):=fp.filterMap fun b=>(h.get? b).map fun o=>(b,o)
theorem ix{fp:List NR}{h:Of}{b:NR}{o:Obj}(hb:b∈fp)(e:h.get? b=some o):(b,o)∈qL fp h:=mem_filterMap.mpr ⟨b,hb,by rw[e];rfl⟩
theorem Dq{fp:List NR}{h:Of}{p:NR×Obj}(hp:p∈qL fp h):p.1∈fp/\h.get? p.1=some p.2:=by
 obtain⟨b,hb,e⟩:=mem_filterMap.mp hp;cases q:h.get? b with
 | none=>rw[q]at e;cases e
 | some o=>
  rw[q]at e;have e':(b,o)=p:=Option.some.inj e;subst e';exact⟨hb,q⟩
theorem Inv.pinned{pins:List (NR×Obj)}{σ:St}{H:Hp}{s:NP}{fp:List NR}(I:Inv X pins σ H s)(hf:∀ b∈fp,rF X pins H b)(ho:∀ b∈fp,∃ o,s.heap.get? b=some o/\∀ v,o.data≠.cell v):Inv X (pins ++ qL fp s.heap) σ H s:=
 I.pins_of fun p hp=>(S5.mp hp).elim (fun z=>I.pin p (Ox _ z)) fun z=>by
  obtain⟨hb,e⟩:=Dq z;obtain⟨f0,f1,f2,_⟩:=hf p.1 hb;obtain⟨o,e',d⟩:=ho p.1 hb;rw[e]at e';cases e';exact⟨e,f0,f1,f2,d⟩
theorem Inv.unpinned{pins pl:List (NR×Obj)}{σ:St}{H:Hp}{s:NP}(I:Inv X (pins ++ pl) σ H s):Inv X pins σ H s:=I.pins_of fun p hp=>I.pin p (Ox _ (P_ _ hp))
theorem Fj{iter:Oj}{body:List Op}{wi:TI}{g:TG}{tb:TS}{pos:Pos}(hp:Rm (N4 X.prog X.w) X.A X.env X.xe)(hc:X.calm=true)(hi:PI X tg iter wi)(hg:PG X tg g)(hb:rE X body tb)
  (hs:∀ x,OU iter X.env x=pure x:=by intro _;rfl):PS X (.For tg iter body [] pos) (MQ wi g tb):=by
 intro pins s σ H D I h;refine wpAny_For (cz (hi pins s σ H _ I h) fun v s1 h1=>cz h1 fun itv s2 h2=>?_) hs;obtain⟨it,fp,tn,J,H2,e,I2,T,st2,f2,W,⟨m0,w0⟩,turn⟩:=h2;subst e;have TU:∀ {H':Hp},(∀ b∈fp,H' b=none)->∀ b∈fp,rF X pins H' b:=fun hn b hb=>⟨hn b hb,(f2 b hb).2⟩;refine SX (fun n s'=>∃ i σ' H',Inv X pins σ' H' s'/\tn i s'.heap/\(∀ b∈fp,H' b=none)/\W i n σ' H') ?_ m0 ⟨0,σ,H2,I2,st2,fun b hb=>(f2 b hb).1,w0⟩
 rintro n s3 ⟨i,σ3,H3,I3,st3,fr3,w3⟩
 rcases turn i n σ3 H3 w3 with ⟨stop,qn⟩|⟨go,N,hN,step⟩
 ·refine OM hp (cz (T.done X rfl rfl rfl hc i pins s3 σ3 H3 X.xe I3 (TU fr3) st3 stop) fun r s4 zz=>?_);obtain⟨hr,I4⟩:=zz;subst hr;exact Qs ⟨σ3,H3,I4,qn⟩
 ·refine OM hp (cz (T.item X rfl rfl rfl hc i pins s3 σ3 H3 X.xe I3 (TU fr3) st3 go) fun r s4 zz=>?_);obtain⟨u,hr,h4⟩:=zz;subst hr;refine OM hp (cz h4 fun _ s5 zz=>?_);obtain⟨x,H5,I5,r5,y5,st5,fr5⟩:=zz;have I5':=I5.pinned (TU fr5) (T.obj _ _ st5);refine OM hp (cz (hg _ s5 σ3 H5 x u _ I5' r5 (step x H5 y5)) fun _ s6 zz=>?_);obtain⟨σ6,H6,I6,q6⟩:=zz;refine OM hp (cz (hb _ s6 σ6 H6 _ I6 q6) fun f s7 q7=>?_);have again:∀ {σ7:St} {H7:Hp},Inv X (pins ++ qL fp s5.heap) σ7 H7 s7->N σ7 H7->∃ m,m < n/\∃ i σ' H',Inv X pins σ' H' s7/\tn i s7.heap/\(∀ b∈fp,H' b=none)/\W i m σ' H':=fun {σ7 H7} I7 n7=>by
   obtain⟨m',hm,w7⟩:=hN σ7 H7 n7;refine⟨m',hm,i+1,σ7,H7,I7.unpinned,T.keep _ _ _ st5 fun b hb o e=>(I7.pin (b,o) (Ox _ (Ox _ (ix hb e)))).1,fun b hb=>?_,w7⟩;obtain⟨o,e,d⟩:=T.obj _ _ st5 b hb;exact (I7.pin (b,o) (Ox _ (Ox _ (ix hb e)))).2.1
  cases f with
  | next=>obtain⟨σ7,H7,I7,n7⟩:=q7;exact again I7 n7
  | cont=>obtain⟨σ7,H7,I7,n7⟩:=q7;exact again I7 n7
  | brk=>obtain⟨σ7,H7,I7,q7⟩:=q7;exact⟨σ7,H7,I7.unpinned,q7⟩
  | ret v=>obtain⟨x7,σ7,H7,I7,r7,q7⟩:=q7;exact⟨x7,σ7,H7,I7.unpinned,r7,q7⟩
end
abbrev R2:=V->V->Hp->VK->Prop
def ig(X:Cx)(f:NO->NO->Sem NO)(r:R2):Prop:=
 ∀ (pins:List (NR×Obj)) (s:NP) (σ:St) (H:Hp) (x y:V) (v u:NO) (Q:VK),Inv X pins σ H s->aF x v->aF y u->r x y H Q->
  NZ (N4 X.prog X.w) X.A (f v u) (EP X pins σ Q) X.xe s
def Nd(X:Cx)(f:NO->Sem NO)(r:V->Hp->VK->Prop):Prop:=
 ∀ (pins:List (NR×Obj)) (s:NP) (σ:St) (H:Hp) (x:V) (v:NO) (Q:VK),Inv X pins σ H s->aF x v->r x H Q->
  NZ (N4 X.prog X.w) X.A (f v) (EP X pins σ Q) X.xe s
def eV(X:Cx)(f:NO)(r:List V->Hp->VK->Prop):Prop:=
 ∀ (pins:List (NR×Obj)) (s:NP) (σ:St) (H:Hp) (xs:List V) (us:List NO) (Q:VK),Inv X pins σ H s->Vals xs us->r xs H Q->
  NZ (N4 X.prog X.w) X.A (call f us) (EP X pins σ Q) X.xe s
def Nf(X:Cx)(r:V->Hp->(Bool->Hp->Prop)->Prop):Prop:=
 ∀ (pins:List (NR×Obj)) (s:NP) (σ:St) (H:Hp) (x:V) (v:NO) (Q:Bool->Hp->Prop),Inv X pins σ H s->aF x v->r x H Q->
  NZ (N4 X.prog X.w) X.A (truthy v) (TP X pins σ Q) X.xe s
def Ll(r:R2)(ta tb:TE):TE:=fun σ H Q=>ta σ H fun x H1=>tb σ H1 fun y H2=>r x y H2 Q
def Nu(r:V->Hp->VK->Prop)(ta:TE):TE:=fun σ H Q=>ta σ H fun x H1=>r x H1 Q
def rI(C:Int->Int->Prop)(g:Int->Int->V):R2:=fun x y H Q=>∃ i j,x=.int i/\y=.int j/\C i j/\Q (g i j) H
def Ji(g:Int->Int->V):R2:=fun x y H Q=>∃ i j,x=.int i/\y=.int j/\Q (g i j) H
def rU(g:Int->V):V->Hp->VK->Prop:=fun x H Q=>∃ i,x=.int i/\Q (g i) H
section
variable{X:Cx}{a b c:Oj}{ta tb tc:TE}{pos:Pos}
theorem K8(ha:PE X a ta)(hb:PE X b tb){pins:List (NR×Obj)}{s:NP}{σ:St}{H:Hp}{R:V->V->Hp->Prop}(I:Inv X pins σ H s)
  (h:ta σ H fun x H1=>tb σ H1 fun y H2=>R x y H2) {Q:NO->NP->Prop} {f:NO->NO->Sem NO}
  (hf:∀ v u s2 x y H2,Inv X pins σ H2 s2->aF x v->aF y u->R x y H2->NZ (N4 X.prog X.w) X.A (f v u) Q X.xe s2):
  NZ (N4 X.prog X.w) X.A (eval a X.env) (fun v s₁=>NZ (N4 X.prog X.w) X.A (eval b X.env) (fun u s₂=>NZ (N4 X.prog X.w) X.A (f v u) Q X.xe s₂) X.xe s₁) X.xe s:=by
 refine cz (ha pins s σ H _ I h) fun v s1 zz=>?_;obtain⟨x,H1,I1,r1,q1⟩:=zz;refine cz (hb pins s1 σ H1 _ I1 q1) fun u s2 zz=>?_;obtain⟨y,H2,I2,r2,q2⟩:=zz;exact hf v u s2 x y H2 I2 r1 r2 q2
theorem LV{op:Operator}{r:R2}(ho:ig X (Pd op) r)(ha:PE X a ta)(hb:PE X b tb):PE X (.BinOp a op b pos) (Ll r ta tb):=by
 intro pins s σ H Q I h;exact wpAny_BinOp (K8 ha hb I h fun v u s2 x y H2 I2 rx ry q=>ho pins s2 σ H2 x y v u Q I2 rx ry q)
theorem LU{op:UnaryOp}{r:V->Hp->VK->Prop}(ho:Nd X (unaryOp op) r)(ha:PE X a ta):PE X (.UnaryOp op a pos) (Nu r ta):=by
 intro pins s σ H Q I h;exact UnaryOp_ (cz (ha pins s σ H _ I h) fun v s1 ⟨x,H1,I1,r1,q1⟩=>ho pins s1 σ H1 x v Q I1 r1 q1)
theorem M0{f:NO->NO->Sem NO}{C:Int->Int->Prop}{g:Int->Int->Int}
  (rule:∀ (i j:Int) (t u:Tok) (s:NP) (Q:NO->NP->Prop) (E:NO->NP->Prop),C i j->Q (.int (g i j) s.toks) { s with toks:=s.toks+1 }->NZ (N4 X.prog X.w) X.A (f (.int i t) (.int j u)) Q E s):
  ig X f (rI C fun i j=>.int (g i j)):=by
 intro pins s σ H x y v u Q I rx ry h;obtain⟨i,j,rfl,rfl,hc,q⟩:=h;obtain⟨t,rfl⟩:=rx;obtain⟨t',rfl⟩:=ry;exact rule i j t t' s _ _ hc ⟨.int (g i j),H,I.tok _,⟨_,rfl⟩,q⟩
theorem L7{f:NO->NO->Sem NO}{g:Int->Int->Int}
  (rule:∀ (i j:Int) (t u:Tok) (s:NP) (Q:NO->NP->Prop) (E:NO->NP->Prop),Q (.int (g i j) s.toks) { s with toks:=s.toks+1 }->NZ (N4 X.prog X.w) X.A (f (.int i t) (.int j u)) Q E s):
  ig X f (Ji fun i j=>.int (g i j)):=by
 intro pins s σ H x y v u Q I rx ry h;obtain⟨i,j,rfl,rfl,q⟩:=h;obtain⟨t,rfl⟩:=rx;obtain⟨t',rfl⟩:=ry;exact rule i j t t' s _ _ ⟨.int (g i j),H,I.tok _,⟨_,rfl⟩,q⟩
theorem Ko{f:NO->NO->Sem NO}{g:Int->Int->Bool}
  (rule:∀ (i j:Int) (t u:Tok) (s:NP) (Q:NO->NP->Prop) (E:NO->NP->Prop),Q (.bool (g i j)) s->NZ (N4 X.prog X.w) X.A (f (.int i t) (.int j u)) Q E s):
  ig X f (Ji fun i j=>.bl (g i j)):=by
 intro pins s σ H x y v u Q I rx ry h;obtain⟨i,j,rfl,rfl,q⟩:=h;obtain⟨t,rfl⟩:=rx;obtain⟨t',rfl⟩:=ry;exact rule i j t t' s _ _ ⟨.bl (g i j),H,I,rfl,q⟩
def IZ(i j:Int):Prop:=0 < j/\j < 1073741824
def Nk(i j:Int):Prop:=0<=j/\j<=1000000/\i.natAbs < 2 ^ 64
def IY(i j:Int):Prop:=(-(2 ^ 64) < i/\i < 2 ^ 64)\/(-(2 ^ 64) < j/\j < 2 ^ 64)
theorem IY.ok{i j:Int}(h:IY i j):IntMulOk i j:=by
 rcases h with ⟨h1,h2⟩|⟨h1,h2⟩
 ·exact .of_left (intBits_le_64 h1 h2)
 ·exact .of_right (intBits_le_64 h1 h2)
theorem Kn:ig X (Pd .Add) (Ji fun i j=>.int (i+j)):=L7 fun _ _ _ _ _ _ _ q=>add_int q
theorem Kk:ig X (Pd .Sub) (Ji fun i j=>.int (i - j)):=L7 fun _ _ _ _ _ _ _ q=>sub_int q
theorem Kl:ig X (Pd .Mult) (rI IY fun i j=>.int (i*j)):=M0 fun _ _ _ _ _ _ _ hc q=>mul_int q hc.ok
theorem HV:ig X (Pd .FloorDiv) (rI IZ fun i j=>.int (i / j)):=M0 fun i j _ _ _ _ _ hc q=>by
 have h1:(0:Int) < j:=hc.1;have h2:j < 1073741824:=hc.2;exact floordiv_int (by walk_at "o") (by rw[Int.fdiv_eq_ediv_of_nonneg i (by walk_at "o")];exact q) (.inl (PyProof.noPylong_small (by walk_at "o")))
theorem Km:ig X (Pd .Mod) (rI (fun _ j=>0 < j) fun i j=>.int (i % j)):=M0 fun i j _ _ _ _ _ hc q=>by
 have h1:(0:Int) < j:=hc;exact mod_int' (by walk_at "o") (by rw[Int.fmod_eq_emod_of_nonneg i (by walk_at "o")];exact q)
theorem Nt{f:NO->Sem NO}{g:Int->Int}
  (rule:∀ (i:Int) (t:Tok) (s:NP) (Q:NO->NP->Prop) (E:NO->NP->Prop),Q (.int (g i) s.toks) { s with toks:=s.toks+1 }->NZ (N4 X.prog X.w) X.A (f (.int i t)) Q E s):
  Nd X f (rU fun i=>.int (g i)):=by
 intro pins s σ H x v Q I rx h;obtain⟨i,rfl,q⟩:=h;obtain⟨t,rfl⟩:=rx;exact rule i t s _ _ ⟨.int (g i),H,I.tok _,⟨_,rfl⟩,q⟩
theorem JJ:Nd X (unaryOp .USub) (rU fun i=>.int (-i)):=Nt fun _ _ _ _ _ q=>neg_int q
theorem L4:ig X (Oy .Lt) (Ji fun i j=>.bl (decide (i < j))):=Ko fun _ _ _ _ _ _ _ q=>lt_int q
theorem L5:ig X (Oy .LtE) (Ji fun i j=>.bl (decide (i<=j))):=Ko fun _ _ _ _ _ _ _ q=>le_int q
theorem L6:ig X (Oy .Gt) (Ji fun i j=>.bl (decide (j < i))):=Ko fun _ _ _ _ _ _ _ q=>gt_int q
theorem ig.or{f:NO->NO->Sem NO}{r r':R2}(h:ig X f r)(h':ig X f r'):ig X f (fun x y H Q=>r x y H Q\/r' x y H Q):=by
 intro pins s σ H x y v u Q I rx ry q;rcases q with q|q
 ·exact h pins s σ H x y v u Q I rx ry q
 ·exact h' pins s σ H x y v u Q I rx ry q
theorem ba(b:Oj){op:Q5}(h:op≠.In:=by decide)(h2:op≠.NotIn:=by decide):OT op b=false:=by
 have e1:(op == CmpOp.In)=false:=by cases op<;>first|rfl|exact absurd rfl h
 have e2:(op == CmpOp.NotIn)=false:=by cases op<;>first|rfl|exact absurd rfl h2
 cases b<;>simp[OT,e1,e2]
theorem HL{op:Q5}{r:R2}(ho:ig X (Oy op) r)(ha:PE X a ta)(hb:PE X b tb)(hm:OT op b=false):PE X (.Compare a [op] [b] pos) (Ll r ta tb):=by
 intro pins s σ H Q I h;exact wpAny_Compare1 (K8 ha hb I h fun v u s2 x y H2 I2 rx ry q=>ho pins s2 σ H2 x y v u Q I2 rx ry q) hm
def EB(t:TE):TT:=fun σ H Q=>t σ H fun x H'=>∃ k,x=.bl k/\Q k H'
theorem Co{op:Q5}{r:R2}(ho:ig X (Oy op) r)(ha:PE X a ta)(hb:PE X b tb)(hm:OT op b=false):PT X (.Compare a [op] [b] pos) (EB (Ll r ta tb)):=by
 intro pins s σ H Q I h;refine SI (cz (ha pins s σ H _ I h) fun v s1 zz=>?_) hm;obtain⟨x,H1,I1,r1,q1⟩:=zz;refine cz (hb pins s1 σ H1 _ I1 q1) fun u s2 zz=>?_;obtain⟨y,H2,I2,r2,q2⟩:=zz;refine cz (ho pins s2 σ H2 x y v u _ I2 r1 r2 q2) fun c s3 zz=>?_;obtain⟨z,H3,I3,r3,k,e,q3⟩:=zz;subst e;cases r3;exact PH ⟨H3,I3,q3⟩
def ED(r r':R2)(ta tb tc:TE):TE:=fun σ H Q=>ta σ H fun x H1=>tb σ H1 fun y H2=>r x y H2 fun z H3=>∃ k,z=.bl k/\
 (if k=true then tc σ H3 fun w' H4=>r' y w' H4 Q else Q (.bl false) H3)
theorem Fd{op op':Q5}{r r':R2}(ho:ig X (Oy op) r)(ho':ig X (Oy op') r')(ha:PE X a ta)(hb:PE X b tb)(hc:PE X c tc)
  (hm:lastMarks [op,op'] [b,c]=false:=by with_unfolding_all rfl):PT X (.Compare a [op,op'] [b,c] pos) (EB (ED r r' ta tb tc)):=by
 intro pins s σ H Q I h;refine isTrue_chain (cz (ha pins s σ H _ I h) fun v s1 ⟨x,H1,I1,r1,q1⟩=>test_link (cz (hb pins s1 σ H1 _ I1 q1) fun u s2 zz=>?_)) hm;obtain⟨y,H2,I2,r2,q2⟩:=zz;refine cz (ho pins s2 σ H2 x y v u _ I2 r1 r2 q2) fun d s3 zz=>?_;obtain⟨z,H3,I3,r3,k,e,q3⟩:=zz;subst e;cases r3;refine PH ?_;cases k with
 | false=>
  obtain⟨k',e',q'⟩:=q3;cases e';exact ite_ff ⟨H3,I3,q'⟩
 | true=>
  refine ite_tt (test_last (cz (hc pins s3 σ H3 _ I3 q3) fun w' s4 zz=>?_));obtain⟨z',H4,I4,r4,q4⟩:=zz;refine cz (ho' pins s4 σ H4 y z' u w' _ I4 r2 r4 q4) fun d' s5 zz=>?_;obtain⟨z2,H5,I5,r5,k2,e2,q5⟩:=zz;subst e2;cases r5;exact PH ⟨H5,I5,q5⟩
def Mr(K:Sf)(x:V)(H:Hp)(k:Bool):Prop:=
 match x with
 | .non=>k=false
 | .bl b=>k=b
 | .int i=>k=(i != 0)
 | .str y=>y.length<=NY/\k=((y.length:Int) != 0)
 | .byt y=>y.size<=NY/\k=((y.size:Int) != 0)
 | .ref p=>(∃ xs,jw K H p xs/\k=!xs.isEmpty)\/(∃ xs,kL K H p xs/\k=!xs.isEmpty)\/∃ kvs,H p=some (.dK kvs)/\k=!kvs.isEmpty
 | _=>False
theorem BF{κ:Type}{kvs:List (κ×V)}{vs:List (κ×NO)}(r:KV kvs vs):(!vs.isEmpty)=!kvs.isEmpty:=by
 cases r<;>rfl
theorem uM{xs:List V}{its:List NO}(r:Vals xs its):(!its.toArray.isEmpty)=!xs.isEmpty:=by
 cases r<;>simp
theorem lV:(NY:Nat) < 2 ^ 63:=by rw[OV];decide
theorem JM:Nf X (fun x H Q=>∃ k,Mr X.K x H k/\Q k H):=by
 intro pins s σ H x v Q I rx h;obtain⟨k,e,q⟩:=h;have hl:=lV;have hs:NY=16777216:=OV;cases x with
 | non=>
  cases rx;have e':k=false:=e;subst e';exact truthy_none ⟨H,I,q⟩
 | bl b=>
  cases rx;have e':k=b:=e;subst e';exact PH ⟨H,I,q⟩
 | int i=>
  obtain⟨t,rfl⟩:=rx;have e':k=(i != 0):=e;subst e';exact PySem.P.truthy_int ⟨H,I,q⟩
 | str y=>
  obtain⟨t,rfl⟩:=rx;obtain⟨hy,e'⟩:y.length<=NY/\k=((y.length:Int) != 0):=e;subst e';exact PySem.P.truthy_str (by walk_at "o") ⟨H,I.tok _,q⟩
 | byt y=>
  obtain⟨t,rfl⟩:=rx;obtain⟨hy,e'⟩:y.size<=NY/\k=((y.size:Int) != 0):=e;subst e';exact PySem.W.truthy_bytes (by walk_at "o") ⟨H,I.tok _,q⟩
 | ref p=>
  cases rx;have e':(∃ xs,jw X.K H p xs/\k=!xs.isEmpty)\/(∃ xs,kL X.K H p xs/\k=!xs.isEmpty)\/∃ kvs,H p=some (.dK kvs)/\k=!kvs.isEmpty:=e;rcases e' with ⟨xs,hx,e'⟩|⟨xs,hx,e'⟩|⟨kvs,hx,e'⟩
  ·subst e';obtain⟨its,r,pl,hz⟩:=I.list hx;have hlen:=r.length;exact wpAny_truthy_list pl.isList (by simp only[N6];omega) ⟨H,I.tok _,by rw[uM r];exact q⟩
  ·subst e';obtain⟨its,r,pl,hz⟩:=I.tuple hx;have hlen:=r.length;exact truthy_tuple pl (by simp only[N6];omega) ⟨H,I.tok _,by rw[uM r];exact q⟩
  ·subst e';obtain⟨hz,hS,vs,r,m⟩:kvs.length<=NY/\(p == OK)=false/\∃ vs,KV kvs vs/\s.heap.DictOf (bj X.prog X.w) p vs:=I.hok p _ hx;have hlen:kvs.length=vs.length:=P6 r;exact wpAny_truthy_dict hS m (by walk_at "o") ⟨H,I.tok _,by rw[BF r];exact q⟩
 | _=>exact (show False from e).elim
theorem Fb(ha:PE X a ta)(he:∀ whole,SA a X.env whole=(do let v <- whole;Qw a.pos;holding [v] (truthy v))):
  PT X a (fun σ H Q=>ta σ H fun x H'=>∃ k,Mr X.K x H' k/\Q k H'):=by
 intro pins s σ H Q I h;exact isTrue_plain (cz (ha pins s σ H _ I h) fun v s1 ⟨x,H1,I1,r1,q1⟩=>JM pins s1 σ H1 x v Q I1 r1 q1) (he _)
theorem Bq:ig X (Pd .Add) (fun x y H Q=>∃ i j,x=.str i/\y=.str j/\i.length+j.length<=NY/\Q (.str (i ++ j)) H):=by
 intro pins s σ H x y v u Q I rx ry h;obtain⟨i,j,rfl,rfl,hz,q⟩:=h;obtain⟨t,rfl⟩:=rx;obtain⟨t',rfl⟩:=ry;exact add_str (fun t' tk=>⟨.str (i ++ j),H,I.tok _,⟨_,rfl⟩,q⟩) hz
theorem rJ{x:V}{us:List NO}(r:Vals [x] us):∃ u,us=[u]/\aF x u:=by
 cases r with
 | cons r1 r2=>cases r2;exact⟨_,rfl,r1⟩
theorem Jb{x y:V}{us:List NO}(r:Vals [x,y] us):∃ u w',us=[u,w']/\aF x u/\aF y w':=by
 cases r with
 | cons r1 r2=>
  cases r2 with
  | cons r3 r4=>cases r4;exact⟨_,_,rfl,r1,r3⟩
theorem D6(hc:X.calm=true):eV X (.builtin "min") (fun xs H Q=>∃ i j,xs=[.int i,.int j]/\Q (.int (if j < i then j else i)) H):=by
 intro pins s σ H xs us Q I r h;obtain⟨i,j,rfl,q⟩:=h;obtain⟨u,w',rfl,⟨t,rfl⟩,⟨t',rfl⟩⟩:=Jb r;refine min_two_ints (I.ok.hd hc) fun h' tk k=>⟨_,H,I.kept k,?_,q⟩
 by_cases hj:j < i
 ·rw[if_pos hj,if_pos hj];exact⟨_,rfl⟩
 ·rw[if_neg hj,if_neg hj];exact⟨_,rfl⟩
end
structure ObjM(h:Of)(x dx C:NR)(mA:Str->Option NO):Prop where
 obj:h.get? x=some (QW C dx)
 ns:h.Ns1 dx mA
 ne:dx≠x
theorem Dy{h:Of}{dx:NR}{mA:Str->Option NO}(n:h.Ns1 dx mA):∃ od,h.get? dx=some od/\∀ name,S6 name od=some (mA name):=by
 obtain⟨o,es,ep,ho,hd,hk,_,hm⟩:=n;refine⟨o,ho,fun name=>?_⟩;have e:=hm name;unfold nsFind findBy at e;rw[<- Array.find?_toList]at e;unfold S6;rw[hd];dsimp only;split
 ·rename_i y q;rw[q]at e;exact congrArg some e
 ·rename_i q;rw[q]at e;have a:es.toList.any (·.refKey)=false:=by
   rw[List.any_eq_false];intro y hy;obtain⟨z,t,hkey⟩:=hk y (Array.mem_toList_iff.mp hy);simp[DictEntry.refKey,hkey]
  have a':¬ es.toList.any (·.refKey)=true:=by rw[a];exact Bool.false_ne_true
  rw[if_neg a'];exact congrArg some e
theorem ObjM.look{h:Of}{x dx C:NR}{mA:Str->Option NO}(I:ObjM h x dx C mA):∃ od,PySem.W.InstAt h x (QW C dx) C (some od)/\∀ name,S6 name od=some (mA name):=
 let ⟨od,ho,hl⟩:=Dy I.ns
 ⟨od,⟨I.obj,rfl,rfl,ho⟩,hl⟩
section
variable{prog:N_}{w:Og}{A:Oc}{E:NO->NP->Prop}{s:NP}{K:Sf}{x dx C f:NR}{mA:Str->Option NO}{name:Str}{v:NO}
theorem Ix{expr:Bool}{Q:NO->NP->Prop}(X:K.In s.heap)(I:ObjM s.heap x dx C mA)(hg:R6 K C name=true)(hh:So K C=true)
  (ha:ST K (.ref C) name=some none) (hv:mA name=some v) (hv':PySem.W.handedIn v=true) (h:Q v { s with toks:=s.toks+1 }):
  NZ (N4 prog w) A (getAttr (.ref x) name expr) Q E s:=by
 obtain⟨od,J,hl⟩:=I.look;exact PySem.W.get_value X J (RT hg).1 (PySem.W.findObj_own hh ha rfl (by rw[hl,hv])) hv' h
theorem F3{pl:Sem Bool}{Q:NO×List NO->NP->Prop}(X:K.In s.heap)(I:ObjM s.heap x dx C mA)(hg:R6 K C name=true)
  (hf:ST K (.ref C) name=some (some (.ref f))) (ht:Ur K (.ref f)=true) (hv:mA name=none) (h:Q (.ref f,[.ref x]) s):
  NZ (N4 prog w) A (QB (.ref x) name pl) Q E s:=by
 obtain⟨od,J,hl⟩:=I.look;exact PySem.W.method_fn X J (RT hg).1 (RT hg).2 hf (beq_iff_eq.mp ht) (by show (S6 name od).map (·.isSome)=some false;rw[hl,hv];rfl) h
theorem Ho{ns:List Str}{Q:Unit->NP->Prop}(X:K.In s.heap)(I:ObjM s.heap x dx C mA)
  (hs:ST K (.ref C) "__setattr__"=some (some (.builtin "object.__setattr__"))) (hp:PySem.W.plainOver K C=true) (ht:Tg K C name=some none) (hh:So K C=true)
  (hw:PySem.Within mA ns) (hsz:ns.length<=NY)
  (h:∀ h',ObjM h' x dx C (fun y=>if y=name then some v else mA y)->Pz dx s.heap h'->Q () { s with heap:=h',toks:=s.toks+2 }):
  NZ (N4 prog w) A (setAttr (.ref x) name v) Q E s:=by
 obtain⟨od,J,hl⟩:=I.look;refine PySem.W.set_plain X J hs (PySem.W.osa_open (s:={ s with toks:=s.toks+1 }) (r:=none) X J hp ht fun b=>?_)
 obtain⟨cd,hc,hd'⟩:=PySem.W.any_some hh;have hx:s.heap.get? x=some ⟨.ref C,some dx,.plain,#[]⟩:=I.obj;refine NN (NQ (NN (NN (wpAny_loadPart hx (NN (PySem.W.Looks.here (s:={ s with toks:=s.toks+1 }) (PySem.W.looks_clsIn X hc) ?_))))))
 rw[hd'];refine NQ (a:=some dx) (NN (NQ (NN ?_)));refine wpAny_nsSet1 (s:={ s with toks:=s.toks+1 }) I.ns fun h' hn2 hs2=>?_
 obtain⟨oD,esD,epD,hoD,hdD,hcD⟩:=hn2.count (PySem.Within.cons name v hw);refine NN (wpAny_lookBehind hoD (by rw[hdD];exact pastItsLine_dict (le_trans hcD (by rw[Ob];omega))) ?_)
 exact NQ (h _ ⟨(hs2.2 _ (Ne.symm I.ne)).trans I.obj,hn2,I.ne⟩ hs2)
theorem FJ{R:SC->NP->Prop}{vs:List NO}{kw:List (Str×NO)}(X:K.In s.heap)(hm:Uo K C=true)
  (hi:ST K (.ref C) "__init__"=some (some (.ref f))) (hf:PySem.W.typeIn K (.ref f)=some (.type "function"))
  (h:Qo (N4 prog w) (A.under (.builtin "type.__call__" ⟨.ref C::vs,kw⟩)) (.call (.ref f) ⟨.ref (s.heap.objs.size+1)::vs,kw⟩) (PySem.W.InitBack (s.heap.objs.size+1) R)
   { s with heap:=(s.heap.push Qf).push (QW C s.heap.objs.size) }):
  Qo (N4 prog w) A (.call (.ref C) ⟨vs,kw⟩) R s:=by
 obtain⟨hh,g,d,t,os⟩:=s;exact PySem.W.make_core (PySem.W.makes_of X hm) (PySem.W.looks_findIn X hi) (fun self=>PySem.W.bind_fn X self hf) (.inl rfl) h
end
def fA(f:Str)(v:V):List (Str×V)->List (Str×V)
 | []=>[(f,v)]
 | (g,x)::r=>if g=f then (g,v)::r else (g,x)::fA f v r
theorem sd(f g:Str)(v:V):∀ fs:List (Str×V),(fA f v fs).lookup g=if g=f then some v else fs.lookup g
 | []=>by
  show List.lookup g [(f,v)]=_
  by_cases h:g=f
  ·have hb:(g == f)=true:=beq_iff_eq.mpr h;simp only[List.lookup,hb,if_pos h]
  ·have hb:(g == f)=false:=beq_eq_false_iff_ne.mpr h;simp only[List.lookup,hb,if_neg h]
 | (k,x)::r=>by
  have ih:=sd f g v r;rw[show fA f v ((k,x)::r)=(if k=f then (k,v)::r else (k,x)::fA f v r)from rfl]
  by_cases hk:k=f
  ·rw[if_pos hk]
   by_cases h:g=k
   ·have hb:(g == k)=true:=beq_iff_eq.mpr h;simp only[List.lookup,hb,if_pos (h.trans hk)]
   ·have hb:(g == k)=false:=beq_eq_false_iff_ne.mpr h;simp only[List.lookup,hb,if_neg (fun e:g=f=>h (e.trans hk.symm))]
  ·rw[if_neg hk]
   by_cases h:g=k
   ·have hb:(g == k)=true:=beq_iff_eq.mpr h;simp only[List.lookup,hb,if_neg (fun e:g=f=>hk (h.symm.trans e))]
   ·have hb:(g == k)=false:=beq_eq_false_iff_ne.mpr h;simp only[List.lookup,hb];exact ih
theorem qZ(f:Str)(v:V):∀ fs:List (Str×V),f∈(fA f v fs).map (·.1)/\∀ g,g∈fs.map (·.1)->g∈(fA f v fs).map (·.1)
 | []=>⟨by simp[fA],fun g h=>by simp at h⟩
 | (k,x)::r=>by
  obtain⟨i1,i2⟩:=qZ f v r;rw[show fA f v ((k,x)::r)=(if k=f then (k,v)::r else (k,x)::fA f v r)from rfl]
  by_cases hk:k=f
  ·rw[if_pos hk];subst hk;exact⟨by simp,fun g h=>by simpa using h⟩
  ·rw[if_neg hk];refine⟨?_,fun g h=>?_⟩
   ·rw[Od];exact N0 _ i1
   ·rw[Od]at h ⊢;rcases Oz.mp h with e|e
    ·exact Oz.mpr (.inl e)
    ·exact N0 _ (i2 g e)
theorem si(f:Str)(v:V):∀ fs:List (Str×V),(fA f v fs).length<=fs.length+1
 | []=>by simp[fA]
 | (k,x)::r=>by
  have ih:=si f v r;rw[show fA f v ((k,x)::r)=(if k=f then (k,v)::r else (k,x)::fA f v r)from rfl]
  by_cases hk:k=f
  ·rw[if_pos hk,Ob,Ob];omega
  ·rw[if_neg hk,Ob,Ob];omega
theorem kY.some_of{v:V}{o:Option NO}(r:kY (some v) o):∃ u,o=some u/\aF v u:=by
 cases o with
 | none=>exact (show False from r).elim
 | some u=>exact⟨u,rfl,r⟩
theorem kY.none_of{o:Option NO}(r:kY none o):o=none:=by
 cases o with
 | none=>rfl
 | some u=>exact (show False from r).elim
theorem DM{v:V}{u:NO}(r:aF v u):PySem.W.handedIn u=true:=by
 cases v with
 | non=>cases (show u=Value.none from r);rfl
 | bl b=>cases (show u=Value.bool b from r);rfl
 | int i=>obtain⟨t,e⟩:=(show ∃ t,u=Value.int i t from r);cases e;rfl
 | str x=>obtain⟨t,e⟩:=(show ∃ t,u=Value.str x t from r);cases e;rfl
 | byt b=>obtain⟨t,e⟩:=(show ∃ t,u=Value.bytes b t from r);cases e;rfl
 | flt b=>obtain⟨t,e⟩:=(show ∃ t,u=Value.float b t from r);cases e;rfl
 | ref a=>cases (show u=Value.ref a from r);rfl
 | ty n=>cases (show u=Value.type n from r);rfl
section
variable{P:N_}{w:Og}{H H':Hp}{h h':Of}{a C dx:NR}{fs fs':List (Str×V)}
theorem tq(hok:oB P w H h)(e:H a=some (.ins C dx fs)):∃ mA,ObjM h a dx C mA/\(∀ f,kY (fs.lookup f) (mA f))/\PySem.Within mA (fs.map (·.1))/\fs.length<=1000/\H dx=some (.own a):=by
 obtain⟨d,z,ne,ob,mA,n,r,q⟩:=(show cf P w H h a (.ins C dx fs)from hok a _ e)
 exact⟨mA,⟨ob,n,ne⟩,r,q,z,d⟩
end
structure Cls(K:Sf)(C:NR):Prop where
 pg:R6 K C Str.empty=true
 hd:So K C=true
 po:PySem.W.plainOver K C=true
 sa:ST K (.ref C) "__setattr__"=some (some (.builtin "object.__setattr__"))
theorem Cls.get{K:Sf}{C:NR}(c:Cls K C)(f:Str):R6 K C f=true:=c.pg
def cY(K:Sf)(C:NR)(f:Str):Prop:=ST K (.ref C) f=some none
theorem cY.taker{K:Sf}{C:NR}{f:Str}(n:cY K C f):Tg K C f=some none:=by
 unfold Tg;rw[show ST K (.ref C) f=some none from n]
 rfl
structure Meth(K:Sf)(C:NR)(m:Str)(f:NR):Prop where
 at_:ST K (.ref C) m=some (some (.ref f))
 fn:Ur K (.ref f)=true
 kp:Sz K (.ref f)=true
section
variable{X:Cx}{pins:List (NR×Obj)}{σ:St}{H:Hp}{s:NP}{a C dx:NR}{fs:List (Str×V)}{f:Str}{v:V}{A:Oc}{E:NO->NP->Prop}
theorem BI{b:Bool}{Q:NO->NP->Prop}(I:Inv X pins σ H s)(e:H a=some (.ins C dx fs))(c:Cls X.K C)(n:cY X.K C f)(l:fs.lookup f=some v)
  (h:∀ u s',Inv X pins σ H s'->aF v u->Q u s'):NZ (N4 X.prog X.w) A (getAttr (.ref a) f b) Q E s:=by
 obtain⟨mA,O,r,_,_,_⟩:=tq I.hok e;obtain⟨u,hu,ru⟩:=kY.some_of (v:=v) (o:=mA f) (by rw[<- l];exact r f)
 exact Ix I.kIn O (c.get f) c.hd n hu (DM ru) (h u _ (I.tok _) ru)
theorem ou{m:Str}{g:NR}{pl:Sem Bool}{Q:NO×List NO->NP->Prop}(I:Inv X pins σ H s)(e:H a=some (.ins C dx fs))(c:Cls X.K C)(k:Meth X.K C m g)(l:fs.lookup m=none)
  (h:Q (.ref g,[.ref a]) s):NZ (N4 X.prog X.w) A (QB (.ref a) m pl) Q E s:=by
 obtain⟨mA,O,r,_,_,_⟩:=tq I.hok e;have hn:mA m=none:=kY.none_of (by rw[<- l];exact r m)
 exact F3 I.kIn O (c.get m) k.at_ k.fn hn h
theorem A7{y:V}{u:NO}{Q:Unit->NP->Prop}(I:Inv X pins σ H s)(e:H a=some (.ins C dx fs))(c:Cls X.K C)(n:cY X.K C f)(hl:fs.length < 1000)(ry:aF y u)
  (h:∀ s',Inv X pins σ (bq H a (.ins C dx (fA f y fs))) s'->Q () s'):NZ (N4 X.prog X.w) A (setAttr (.ref a) f u) Q E s:=by
 obtain⟨mA,O,r,wi,_,ho⟩:=tq I.hok e;have hz:(fs.map (·.1)).length<=NY:=by rw[NS,OV];omega
 refine Ho I.kIn O c.sa c.po n.taker c.hd wi hz fun h' O' sb=>h _ ?_;have hd:∃ o,h'.get? dx=some o:=let ⟨o,_,_,e',_⟩:=O'.ns;⟨o,e'⟩;refine I.write (x:=a) (e:=dx) (by rw[e];exact True.intro) (.inr ho) (fun b q hb z=>(sb.2 b hb).trans z) hd ?_
 refine⟨by rw[aA O.ne];exact ho,?_,O.ne,O'.obj,_,O'.ns,fun g=>?_,fun g hg=>?_⟩
 ·have:=si f y fs;omega
 ·show kY ((fA f y fs).lookup g) (if g=f then some u else mA g)
  rw[sd]
  by_cases q:g=f
  ·rw[if_pos q,if_pos q];exact ry
  ·rw[if_neg q,if_neg q];exact r g
 ·by_cases q:g=f
  ·rw[q];exact (qZ f y fs).1
  ·refine (qZ f y fs).2 g (wi g fun z=>hg ?_);show (if g=f then some u else mA g)=none
   rw[if_neg q];exact z
theorem Inv.made(I:Inv X pins σ H s):Inv X pins σ (bq (bq H s.heap.objs.size (.own (s.heap.objs.size+1))) (s.heap.objs.size+1) (.ins C s.heap.objs.size []))
  { s with heap:=(s.heap.push Qf).push (QW C s.heap.objs.size) }:=by
 have e1:(s.heap.push Qf).get? s.heap.objs.size=some Qf:=NW s.heap rfl;have e2:((s.heap.push Qf).push (QW C s.heap.objs.size)).get? (s.heap.objs.size+1)=some (QW C s.heap.objs.size):=by
  have:=NW (s.heap.push Qf) (o:=QW C s.heap.objs.size) rfl;rwa[Pf]at this
 have e3:(s.heap.push Qf).Ns s.heap.objs.size (fun _=>none):=⟨Qf,#[],_,e1,rfl,(fun e he=>absurd he (by simp)),fun _=>rfl⟩
 have I1:=I.laid (a:=s.heap.objs.size) (o:=.own (s.heap.objs.size+1)) (h':=s.heap.push Qf) (t':=s.toks) (fun b u q=>NT _ q) (le_refl _) ⟨_,e1⟩;refine I1.laid (a:=s.heap.objs.size+1) (o:=.ins C s.heap.objs.size []) (t':=s.toks) (fun b u q=>NT _ q) (Nat.le_of_eq (Pf _ _)) ?_;have ne:s.heap.objs.size≠s.heap.objs.size+1:=Oq (PU _);refine⟨by rw[aA ne,aN],OD _,ne,e2,fun _=>none,(Heap.Ns1.of_empty e3).at fun o q=>NT _ q,fun _=>True.intro,fun y hy=>absurd rfl hy⟩
theorem IK{prog:N_}{w:Og}{env:Env}{e:Oj}{f:Str}{pos:Pos}{s:NP}{Q:NO->NP->Prop}(hb:Pk e f env (eval e env)=eval e env)
  (h:NZ (N4 prog w) A (eval e env) (fun o s₁=>NZ (N4 prog w) A (getAttr o f true) Q E s₁) E s):NZ (N4 prog w) A (eval (.Attribute e f pos) env) Q E s:=
 Attribute_any_ h (by rw[arm_eval_Attribute,hb])
end
def MR(K:Sf)(ta:TE)(f:Str):TE:=fun σ H Q=>ta σ H fun x H1=>∃ a C dx fs v,x=.ref a/\H1 a=some (.ins C dx fs)/\Cls K C/\cY K C f/\fs.lookup f=some v/\Q v H1
def MW(K:Sf)(ta tv:TE)(f:Str):TS:=fun D σ H=>tv σ H fun y H1=>ta σ H1 fun x H2=>∃ a C dx fs,x=.ref a/\H2 a=some (.ins C dx fs)/\Cls K C/\cY K C f/\fs.length < 1000/\
 D.nx σ (bq H2 a (.ins C dx (fA f y fs)))
section
variable{X:Cx}{o e value:Oj}{f:Str}{pos pos' tpos:Pos}{ta tv:TE}
theorem Fs(he:PE X e ta)(hb:Pk e f X.env (eval e X.env)=eval e X.env):PE X (.Attribute e f pos) (MR X.K ta f):=by
 intro pins s σ H Q I h;refine IK hb (cz (he pins s σ H _ I h) fun u s1 zz=>?_);obtain⟨x,H1,I1,rx,a,C,dx,fs,v,ex,ea,c,n,l,q⟩:=zz;subst ex;obtain rfl:u=Value.ref a:=rx;exact BI I1 ea c n l fun u' s2 I2 ru=>⟨v,H1,I2,ru,q⟩
theorem Bk(ha:PE X o ta)(hv:PE X value tv)(hs:PQ value (some (.Attribute o f pos')) pos.line X.env=pure false):PS X (.Assign [.Attribute o f pos'] value pos) (MW X.K ta tv f):=by
 intro pins s σ H D I h;refine plainObj_wpAny_Assign_Attribute (cz (hv pins s σ H _ I h) fun u s1 zz=>?_) hs;obtain⟨y,H1,I1,ry,q⟩:=zz;refine cz (ha pins s1 σ H1 _ I1 q) fun ov s2 zz=>?_;obtain⟨x,H2,I2,rx,a,C,dx,fs,ex,ea,c,n,l,q2⟩:=zz;subst ex;obtain rfl:ov=Value.ref a:=rx;exact A7 I2 ea c n l ry fun s3 I3=>⟨σ,_,I3,q2⟩
end
section
variable{X:Cx}{pins:List (NR×Obj)}{σ:St}{H:Hp}{s:NP}{A:Oc}{E:NO->NP->Prop}{Q:NO->NP->Prop}{c:NO}{b:Bool}
inductive TyOf(K:Sf)(H:Hp):V->NO->Prop where
 | non:TyOf K H .non (.type "NoneType")
 | bl (x:Bool):TyOf K H (.bl x) (.type "bool")
 | int (i:Int):TyOf K H (.int i) (.type "int")
 | str (x:Str):TyOf K H (.str x) (.type "str")
 | flt (x:UInt64):TyOf K H (.flt x) (.type "float")
 | lst {a:NR} {xs:List V} (e:H a=some (.lst xs)):TyOf K H (.ref a) (.type "list")
 | frz {a:NR} {o:Obj} {xs:List V} (e:H a=some (.frz o (.lst xs))):TyOf K H (.ref a) (.type "list")
 | tup {a:NR} {xs:List V} (e:H a=some (.tup xs)):TyOf K H (.ref a) (.type "tuple")
 | dK {a:NR} {kvs:List (aD×V)} (e:H a=some (.dK kvs)):TyOf K H (.ref a) (.type "dict")
 | dT {a:NR} {kvs:List (List aD×V)} (e:H a=some (.dT kvs)):TyOf K H (.ref a) (.type "dict")
 | ins {a C dx:NR} {fs:List (Str×V)} (e:H a=some (.ins C dx fs)) (cl:Cls K C) (ha:ST K (.ref C) "__class__"=some (some (.builtin "object.__class__")))
   (hn:Uq K (.builtin "object.__class__") "__get__"=some (some (.builtin "getset_descriptor.__get__"))) (htk:Tf K (.builtin "object.__class__")=some true)
   (hm:R7 K C (.type "object")=some true):TyOf K H (.ref a) (.ref C)
theorem DI{x:V}{u t:NO}(I:Inv X pins σ H s)(rx:aF x u)(ty:TyOf X.K H x t)(e:OZ X.K t c=some b)(h:∀ tk,Q (.bool b) { s with toks:=tk }):
  NZ (N4 X.prog X.w) A (call (.builtin "isinstance") [u,c]) Q E s:=by
 cases ty with
 | non=>cases (show u=Value.none from rx);exact Qn PySem.W.kitx_none I.kIn True.intro e (fun z=>nomatch z) h
 | bl y=>cases (show u=Value.bool y from rx);exact Qn PySem.W.kitx_bool I.kIn True.intro e (fun z=>nomatch z) h
 | int i=>obtain⟨t,q⟩:=(show ∃ t,u=Value.int i t from rx);cases q;exact Qn PySem.W.kitx_int I.kIn True.intro e (fun z=>nomatch z) h
 | str y=>obtain⟨t,q⟩:=(show ∃ t,u=Value.str y t from rx);cases q;exact Qn PySem.W.kitx_str I.kIn True.intro e (fun z=>nomatch z) h
 | flt y=>obtain⟨t,q⟩:=(show ∃ t,u=Value.float y t from rx);cases q;exact Qn PySem.W.kitx_float I.kIn True.intro e (fun z=>nomatch z) h
 | @lst a xs ea=>
  cases (show u=Value.ref a from rx)
  obtain⟨_,_,n,_,h1⟩:=(show cf X.prog X.w H s.heap a (.lst xs)from I.hok a _ ea)
  exact Qn PySem.W.kitx_list I.kIn ⟨_,h1,rfl⟩ e (fun z=>nomatch z) h
 | @frz a ob xs ea=>
  cases (show u=Value.ref a from rx)
  obtain⟨_,_,_,n,_,h1⟩:=(show cf X.prog X.w H s.heap a (.frz ob (.lst xs))from I.hok a _ ea)
  exact Qn PySem.W.kitx_list I.kIn ⟨_,h1,rfl⟩ e (fun z=>nomatch z) h
 | @tup a xs ea=>
  cases (show u=Value.ref a from rx)
  obtain⟨_,_,_,p⟩:=(show cf X.prog X.w H s.heap a (.tup xs)from I.hok a _ ea)
  obtain⟨o,h1,h2,_⟩:=p;exact Qn PySem.W.kitx_tuple I.kIn ⟨o,h1,h2.1⟩ e (fun z=>nomatch z) h
 | @dK a kvs ea=>
  cases (show u=Value.ref a from rx)
  obtain⟨_,_,vs,_,p⟩:=(show cf X.prog X.w H s.heap a (.dK kvs)from I.hok a _ ea)
  obtain⟨o,es,ep,h1,h2,_⟩:=p;exact Qn PySem.W.kitx_dict I.kIn ⟨o,h1,h2.1⟩ e (fun z=>nomatch z) h
 | @dT a kvs ea=>
  cases (show u=Value.ref a from rx)
  obtain⟨_,_,xs,_,o,es,ep,h1,h2,_⟩:=(show cf X.prog X.w H s.heap a (.dT kvs)from I.hok a _ ea)
  exact Qn PySem.W.kitx_dict I.kIn ⟨o,h1,h2.1⟩ e (fun z=>nomatch z) h
 | @ins a C dx fs ea cl ha hn htk hm=>
  cases (show u=Value.ref a from rx)
  obtain⟨mA,O,_⟩:=tq I.hok ea;obtain⟨od,J,_⟩:=O.look;exact Qn (PySem.W.kitx_own (cl.get _) cl.hd ha hn htk hm) I.kIn J e (fun z=>nomatch z) h
end
structure Room(k:Nat)(A:Oc):Prop where
 hd:A.handled=none
 dp:A.depth+3*k+5 < recursionLimit
 un:A.units+16*k+200 < OL
theorem Room.mono{j k:Nat}{A:Oc}(r:Room k A)(h:j<=k):Room j A:=⟨r.hd,by have:=r.dp;omega,by have:=r.un;omega⟩
theorem Room.deeper{k:Nat}{A:Oc}(r:Room (k+1) A)(env:Env):Room k (A.deeper env):=
 ⟨r.hd,by have:=r.dp;show A.depth+1+3*k+5 < _;omega,by have:=r.un;show A.units+3+16*k+200 < _;omega⟩
theorem Room.in1{k:Nat}{A:Oc}(r:Room (k+1) A):Room k A.in1:=
 ⟨r.hd,by have:=r.dp;show A.depth+3*k+5 < _;omega,by have:=r.un;show A.units+1+16*k+200 < _;omega⟩
theorem Bw{A:Oc}{C:NR}{us:List NO}{kw:List (Str×NO)}:(A.under (.builtin "type.__call__" ⟨.ref C::us,kw⟩)).depth=A.depth+1:=by
 first|rfl|simp[SG,Code.weight,Code.isCreation,Code.isGuard,Code.isCaller,Code.frames,SE,guardIds]
theorem Bv{A:Oc}{C:NR}{us:List NO}{kw:List (Str×NO)}:(A.under (.builtin "type.__call__" ⟨.ref C::us,kw⟩)).units=A.units+1:=by
 first|rfl|simp[SG,Code.cUnits,Code.frames,SE]
theorem Room.make{k:Nat}{A:Oc}(r:Room (k+1) A)(C:NR)(us:List NO)(kw:List (Str×NO)):Room k (A.under (.builtin "type.__call__" ⟨.ref C::us,kw⟩)):=
 ⟨r.hd,by have:=r.dp;rw[Bw];omega,by have:=r.un;rw[Bv];omega⟩
theorem Room.depth{k:Nat}{A:Oc}(r:Room k A):A.depth < recursionLimit:=by have:=r.dp;omega
theorem Room.units{k:Nat}{A:Oc}(r:Room k A):A.units+64 < OL:=by have:=r.un;omega
def Ls:TA:=fun _ H Q=>Q [] H
def Lw(ta:TE)(tr:TA):TA:=fun σ H Q=>ta σ H fun x H1=>tr σ H1 fun xs H2=>Q (x::xs) H2
section
variable{X:Cx}{e:Oj}{es:List Oj}{te:TE}{t:TA}{pos:Pos}
theorem Kd:PA X [] Ls:=fun _ _ _ _ H Q I h=>O1 ⟨[],H,I,.nil,h⟩
theorem HN(ha:PE X e te)(hr:PA X es t)(hs:N5 (e::es) X.env=(false,eval e X.env)::N5 es X.env:=by rfl):PA X (e::es) (Lw te t):=by
 intro pos pins s σ H Q I h;rw[hs];show NZ _ _ (spliced ((false,eval e X.env)::OW pos (N5 es X.env))) _ _ s
 refine OP (cz (ha pins s σ H _ I h) fun u s1 zz=>?_);obtain⟨x,H1,I1,r1,q1⟩:=zz;exact cz (hr pos pins s1 σ H1 _ I1 q1) fun us s2 ⟨xs,H2,I2,r2,q2⟩=>⟨x::xs,H2,I2,.cons r1 r2,q2⟩
def MK(t:TA):TE:=fun σ H Q=>t σ H fun xs H1=>xs.length<=NY/\∀ p,H1 p=none->Q (.ref p) (bq H1 p (.tup xs))
def MO(t:TA):TE:=fun σ H Q=>t σ H fun xs H1=>xs.length<=NY/\∀ p,H1 p=none->Q (.ref p) (bq H1 p (.lst xs))
theorem J8{x1}(h:PA X es t):PE X (.Tuple es x1 pos) (MK t):=by
 intro pins s σ H Q I hq;refine wpAny_Tuple_spliced (cz (h pos pins s σ H _ I hq) fun us s1 ⟨xs,H1,I1,r,z,q⟩=>⟨by rw[<- r.length];exact z,?_⟩)
 have hf:H1 s1.heap.objs.size=none:=I1.hok.fresh (le_refl _);refine⟨.ref s1.heap.objs.size,bq H1 s1.heap.objs.size (.tup xs),I1.laid (t':=s1.toks) (fun b u e=>NT _ e) (le_refl _) ?_,rfl,q _ hf⟩;exact⟨z,us,r,vh.new _ _⟩
theorem Ka(h:PA X es t):PE X (.List es pos) (MO t):=by
 intro pins s σ H Q I hq;refine wpAny_List_spliced (cz (h pos pins s σ H _ I hq) fun us s1 ⟨xs,H1,I1,r,z,q⟩=>⟨by rw[<- r.length];exact z,?_⟩)
 have hf:H1 s1.heap.objs.size=none:=I1.hok.fresh (le_refl _);refine⟨.ref s1.heap.objs.size,bq H1 s1.heap.objs.size (.lst xs),I1.laid (t':=s1.toks) (fun b u e=>NT _ e) (le_refl _) ?_,rfl,q _ hf⟩;exact⟨z,us,0,r,NW _ rfl⟩
end
abbrev Sp:=List V->Hp->VK->XK->Prop
abbrev Ej:=List Env->Hp->NP->XK->NO->NP->Prop
structure Env0(P:N_)(w:Og)(K:Sf)(mg:Str->Option NO)(base:Of)(A:Oc)(outer:List Env)(s:NP)(H:Hp):Prop where
 frames:A.frames=some outer
 mod:Mod K mg base
 bs:∀ b o,base.get? b=some o->s.heap.get? b=some o/\H b=none
 bsz:base.objs.size<=s.heap.objs.size
 funs:s.heap.FunFrames base outer
 frf:∀ b∈Eg outer,H b=none
 hok:oB P w H s.heap
 bare:QN s.gens
def CE(outer:List Env)(P:N_)(w:Og)(H:Hp)(s:NP)(Q:VK)(u:NO)(s':NP):Prop:=
 ∃ v H',s'.os=s.os/\QN s'.gens/\Un (Eg outer) [] H H' s.heap s'.heap/\oB P w H' s'.heap/\aF v u/\Q v H'
def CR(CX:Ej)(outer:List Env)(P:N_)(w:Og)(H:Hp)(s:NP)(Q:VK)(E:XK)(r:SC)(s':NP):Prop:=
 match r with
 | .ok (.ret u)=>CE outer P w H s Q u s'
 | .ok _=>False
 | .error e=>CX outer H s E e s'
structure FnOk(P:N_)(w:Og)(K:Sf)(mg:Str->Option NO)(base:Of)(CX:Ej)(k:Nat)(f:NR)(fd:O4)(ps:List Str)(sp:Sp):Prop where
 len:∀ vs H Q E,sp vs H Q E->vs.length=ps.length
 run:∀ (A:Oc) (outer:List Env) (s:NP) (H:Hp) (args:Args) (us:List NO) (vs:List V) (Q:VK) (E:XK),Room k A->Env0 P w K mg base A outer s H->R0 s fd args (ps.zip us)->Vals vs us->sp vs H Q E->
  Qo (N4 P w) A (.call (.ref f) args) (CR CX outer P w H s Q E) s
theorem FnOk.mono{P:N_}{w:Og}{K:Sf}{mg:Str->Option NO}{base:Of}{CX:Ej}{j k:Nat}{f:NR}{fd:O4}{ps:List Str}{sp:Sp}(F:FnOk P w K mg base CX j f fd ps sp)(h:j<=k):
  FnOk P w K mg base CX k f fd ps sp:=⟨F.len,fun A outer s H args us vs Q E hr=>F.run A outer s H args us vs Q E (hr.mono h)⟩
theorem Env0.make{P:N_}{w:Og}{K:Sf}{mg:Str->Option NO}{base:Of}{A:Oc}{outer:List Env}{s:NP}{H:Hp}(e:Env0 P w K mg base A outer s H)(C:NR)(us:List NO)(kw:List (Str×NO)):
  Env0 P w K mg base (A.under (.builtin "type.__call__" ⟨.ref C::us,kw⟩)) outer s H:=⟨by first|exact e.frames|(simpa[SG,Code.envs,SE,pushEnvs]using e.frames),e.mod,e.bs,e.bsz,e.funs,e.frf,e.hok,e.bare⟩
theorem Env0.in1{P:N_}{w:Og}{K:Sf}{mg:Str->Option NO}{base:Of}{A:Oc}{outer:List Env}{s:NP}{H:Hp}(e:Env0 P w K mg base A outer s H):
  Env0 P w K mg base A.in1 outer s H:=⟨e.frames,e.mod,e.bs,e.bsz,e.funs,e.frf,e.hok,e.bare⟩
section
variable{X:Cx}{pins:List (NR×Obj)}{σ:St}{H:Hp}{s s':NP}
theorem Inv.env0(I:Inv X pins σ H s):Env0 X.prog X.w X.K X.mg X.base X.A X.stack s H:=
 ⟨I.ok.frames,I.ok.mod,I.bs,le_trans I.ok.bsz I.sz,I.stack,I.stkFree,I.hok,I.bare⟩
theorem Inv.after{Q:VK}{u:NO}(I:Inv X pins σ H s)(h:CE X.stack X.prog X.w H s Q u s'):EP X pins σ Q u s':=by
 obtain⟨v,H',os,bare,un,hok,r,q⟩:=h;obtain⟨hh,g,d,t,os'⟩:=s';obtain rfl:os'=s.os:=os;exact⟨v,H',I.call (h':=hh) (g':=g) (d':=d) (t':=t) (ch:=[]) un hok bare (fun b z=>absurd z (by simp)),r,q⟩
end
def Je(sp:Sp)(dvs:List V)(E:XK)(t:TA):TE:=fun σ H Q=>t σ H fun vs H1=>sp (vs ++ dvs) H1 Q E
def EC(C:NR)(m:Str)(sp:Sp)(dvs:List V)(E:XK)(ta:TE)(t:TA):TE:=fun σ H Q=>ta σ H fun x H1=>∃ a dx fs,x=.ref a/\H1 a=some (.ins C dx fs)/\fs.lookup m=none/\
 t σ H1 fun vs H2=>sp (x::(vs ++ dvs)) H2 Q E
def Jd(C:NR)(sp:Sp)(dvs:List V)(E:XK)(t:TA):TE:=fun σ H Q=>t σ H fun vs H1=>∀ x dx,H1 x=none->H1 dx=none->dx≠x->
 sp (.ref x::(vs ++ dvs)) (bq (bq H1 dx (.own x)) x (.ins C dx [])) (fun v H2=>v=.non/\Q (.ref x) H2) E
def gJ(K:Sf)(fd:O4)(ps:List Str)(ds:List NO):Prop:=
 ∀ (s:NP) (us:List NO),K.In s.heap->(us ++ ds).length=ps.length->R0 s fd ⟨us,[]⟩ (ps.zip (us ++ ds))
theorem gJ.all{K:Sf}{fd:O4}{ps:List Str}(h:∀ us:List NO,us.length=ps.length->bindArgs fd ⟨us,[]⟩=pure (ps.zip us)):gJ K fd ps []:=fun s us _ hl=>by
 rw[OO]at hl ⊢;exact .of_eq (h us hl)
def oA(CX:Ej)(X:Cx)(E:XK):Prop:=∀ (pins:List (NR×Obj)) (σ:St) (H:Hp) (s:NP) (e:NO) (s':NP),Inv X pins σ H s->CX X.stack H s E e s'->X.xe e s'
section
variable{X:Cx}{CX:Ej}{k:Nat}{f C:NR}{fd:O4}{ps:List Str}{sp:Sp}{dvs:List V}{ds:List NO}{E:XK}{x m:Str}{p pos apos:Pos}{e o:Oj}{es:List Oj}{ta:TE}{t:TA}
theorem tT{pins:List (NR×Obj)}{σ:St}{H:Hp}{s:NP}{Q:VK}{us:List NO}{vs:List V}(F:FnOk X.prog X.w X.K X.mg X.base CX k f fd ps sp)(hr:Room k X.A)(hb:gJ X.K fd ps ds)(hd:Vals dvs ds)(hx:oA CX X E)
  (I:Inv X pins σ H s) (r:Vals vs us) (h:sp (vs ++ dvs) H Q E):NZ (N4 X.prog X.w) X.A (call (.ref f) us) (EP X pins σ Q) X.xe s:=by
 have r2:Vals (vs ++ dvs) (us ++ ds):=r.append hd;have hl:(us ++ ds).length=ps.length:=by rw[<- r2.length];exact F.len _ _ _ _ h
 refine S1 (QZ (F.run X.A X.stack s H ⟨us,[]⟩ (us ++ ds) (vs ++ dvs) Q E hr I.env0 (hb s us I.kIn hl) r2 h) fun r s' hq=>?_);cases r with
 | error e=>exact hx pins σ H s e s' I hq
 | ok fl=>
  cases fl with
  | ret u=>exact I.after hq
  | next=>exact False.elim hq
  | brk=>exact False.elim hq
  | cont=>exact False.elim hq
theorem HM(F:FnOk X.prog X.w X.K X.mg X.base CX k f fd ps sp)(hr:Room k X.A)(hg:Gl X x)(hm:X.mg x=some (.ref f))(hk:Sz X.K (.ref f)=true)(hb:gJ X.K fd ps ds)(hd:Vals dvs ds)(hx:oA CX X E)
  (ha:PA X (e::es) t) (hdb:(x == ("__debug__":Str))=false:=by decide) (he:N5 (e::es) X.env=(false,eval e X.env)::N5 es X.env:=by rfl) (hpl:(OW pos (N5 es X.env)).any (·.1)=false:=by rfl):
  PE X (.Call (.Name x p) (e::es) [] pos) (Je sp dvs E t):=by
 intro pins s σ H Q I h;refine Qb (tj I hg hm ?_ hdb);refine Ru (h₀:=X.base) I.ok.mod.kin hk (cz (ha pos pins s σ H _ I h) fun us s1 ⟨vs,H1,I1,r,q⟩=>⟨I1.kIn,?_⟩) he hpl;exact tT F hr hb hd hx I1 r q
theorem HJ{pl:Sem Bool}(he:PE X o ta)(c:Cls X.K C)(hm:Meth X.K C m f)(F:FnOk X.prog X.w X.K X.mg X.base CX k f fd ps sp)(hr:Room k X.A)(hb:gJ X.K fd ps ds)(hd:Vals dvs ds)(hx:oA CX X E)(ha:PA X (e::es) t)
  (hst:N5 (e::es) X.env=(false,eval e X.env)::N5 es X.env:=by rfl) (hpl:(OW pos (N5 es X.env)).any (·.1)=false:=by rfl)
  (ht:eval (.Call (.Attribute o m apos) (e::es) [] pos) X.env=(do
   let ov <- eval o X.env
   Qw apos.atName
   let (f,first) <- holding [ov] (QB ov m pl)
   RH pos f first (OW pos (N5 (e::es) X.env)) (Qq pos (Ps [] X.env))):=by rfl):
  PE X (.Call (.Attribute o m apos) (e::es) [] pos) (EC C m sp dvs E ta t):=by
 intro pins s σ H Q I h;refine QO (pl:=pl) (cz (he pins s σ H _ I h) fun u s1 zz=>?_) ht;obtain⟨x,H1,I1,rx,a,dx,fs,ex,ea,l,q⟩:=zz;subst ex;obtain rfl:u=Value.ref a:=rx;refine ou I1 ea c hm l ?_;refine Ru (first:=[.ref a]) (h₀:=X.base) I.ok.mod.kin hm.kp (cz (ha pos pins s1 σ H1 _ I1 q) fun us s2 ⟨vs,H2,I2,r,q2⟩=>⟨I2.kIn,?_⟩) hst hpl
 exact tT (us:=.ref a::us) (vs:=.ref a::vs) F hr hb hd hx I2 (.cons rfl r) q2
theorem Fp{pl:Sem Bool}(he:PE X o ta)(c:Cls X.K C)(hm:Meth X.K C m f)(F:FnOk X.prog X.w X.K X.mg X.base CX k f fd ps sp)(hr:Room k X.A)(hb:gJ X.K fd ps ds)(hd:Vals dvs ds)(hx:oA CX X E)
  (ht:eval (.Call (.Attribute o m apos) [] [] pos) X.env=(do
   let ov <- eval o X.env
   Qw apos.atName
   let (f,first) <- holding [ov] (QB ov m pl)
   RH pos f first (OW pos (N5 [] X.env)) (Qq pos (Ps [] X.env))):=by rfl):
  PE X (.Call (.Attribute o m apos) [] [] pos) (EC C m sp dvs E ta Ls):=by
 intro pins s σ H Q I h;refine QO (pl:=pl) (cz (he pins s σ H _ I h) fun u s1 zz=>?_) ht;obtain⟨x,H1,I1,rx,a,dx,fs,ex,ea,l,q⟩:=zz;subst ex;obtain rfl:u=Value.ref a:=rx;refine ou I1 ea c hm l ?_;exact PySem.W.callWith_K0 (first:=[.ref a]) I1.kIn hm.kp (tT (us:=[.ref a]) (vs:=[.ref a]) F hr hb hd hx I1 (.cons rfl .nil) q)
structure Mk(K:Sf)(C f:NR):Prop where
 makes:Uo K C=true
 init:ST K (.ref C) "__init__"=some (some (.ref f))
 fn:Ur K (.ref f)=true
 kp:Sz K (.ref C)=true
theorem EN{pins:List (NR×Obj)}{σ:St}{H:Hp}{s:NP}{Q:VK}{us:List NO}{vs:List V}(M:Mk X.K C f)(F:FnOk X.prog X.w X.K X.mg X.base CX k f fd ps sp)(hr:Room (k+1) X.A)(hb:gJ X.K fd ps ds)(hd:Vals dvs ds)
  (hx:oA CX X E) (I:Inv X pins σ H s) (r:Vals vs us)
  (h:∀ x dx,H x=none->H dx=none->dx≠x->sp (.ref x::(vs ++ dvs)) (bq (bq H dx (.own x)) x (.ins C dx [])) (fun v H2=>v=.non/\Q (.ref x) H2) E):
  NZ (N4 X.prog X.w) X.A (call (.ref C) us) (EP X pins σ Q) X.xe s:=by
 have hq:=h (s.heap.objs.size+1) s.heap.objs.size (I.hok.fresh (QM _)) (I.hok.fresh (le_refl _)) (Oq (PU _));have I2:=Inv.made (C:=C) I;have r2:Vals (V.ref (s.heap.objs.size+1)::(vs ++ dvs)) (Value.ref (s.heap.objs.size+1)::(us ++ ds)):=.cons rfl (r.append hd);have hl:(Value.ref (s.heap.objs.size+1)::us ++ ds).length=ps.length:=by
  have e:=r2.length;rw[F.len _ _ _ _ hq]at e;exact e.symm
 refine S1 (FJ (f:=f) I.kIn M.makes M.init (beq_iff_eq.mp M.fn) (QZ (F.run _ X.stack _ _ ⟨Value.ref (s.heap.objs.size+1)::us,[]⟩ (Value.ref (s.heap.objs.size+1)::(us ++ ds)) _ _ E (hr.make C us [])
  (I2.env0.make C us []) (hb _ (Value.ref (s.heap.objs.size+1)::us) I2.kIn hl) r2 hq) fun r s' hq'=>?_))
 cases r with
 | error e=>exact hx pins σ _ _ e s' I2 hq'
 | ok fl=>
  cases fl with
  | ret u=>
   obtain⟨v,H',I3,rv,ev,q3⟩:=I2.after hq';subst ev;exact⟨rv,⟨V.ref (s.heap.objs.size+1),H',I3,rfl,q3⟩⟩
  | next=>exact False.elim hq'
  | brk=>exact False.elim hq'
  | cont=>exact False.elim hq'
theorem HK(M:Mk X.K C f)(F:FnOk X.prog X.w X.K X.mg X.base CX k f fd ps sp)(hr:Room (k+1) X.A)(hg:Gl X x)(hm:X.mg x=some (.ref C))(hb:gJ X.K fd ps ds)(hd:Vals dvs ds)(hx:oA CX X E)
  (ha:PA X (e::es) t) (hdb:(x == ("__debug__":Str))=false:=by decide) (he:N5 (e::es) X.env=(false,eval e X.env)::N5 es X.env:=by rfl) (hpl:(OW pos (N5 es X.env)).any (·.1)=false:=by rfl):
  PE X (.Call (.Name x p) (e::es) [] pos) (Jd C sp dvs E t):=by
 intro pins s σ H Q I h;refine Qb (tj I hg hm ?_ hdb);refine Ru (h₀:=X.base) I.ok.mod.kin M.kp (cz (ha pos pins s σ H _ I h) fun us s1 ⟨vs,H1,I1,r,q⟩=>⟨I1.kIn,?_⟩) he hpl;exact EN M F hr hb hd hx I1 r q
end
structure FnScope(N P:List Str)(sc:Qk):Prop where
 kind:sc.kind=.function
 co:sc.isCoroutine=false
 gen:sc.isGenerator=false
 nd:N.Nodup
 pre:N.take P.length=P
 par:∀ x∈P,sc.names.lookup x=some .local\/sc.names.lookup x=some .cell
 nofree:∀ y∈sc.names,y.2≠.free
theorem xa{kindOf:Str->Option QJ}{x:Str}:∀ {binds:List (Str×NO)} {m:Str->Option NO},(∀ v,(x,v)∉binds)->Sq kindOf binds m x=m x
 | [],_,_=>rfl
 | (n,v)::r,m,h=>by
  unfold Sq;rw[xa fun w hw=>h w (N0 _ hw)];split
  ·have:x≠n:=by rintro rfl;exact h v N3
   simp[this]
  ·rfl
theorem xc{kindOf:Str->Option QJ}{x:Str}:∀ {binds:List (Str×NO)} {m:Str->Option NO},(∀ v,(x,v)∉binds)->Sr kindOf binds m x=m x
 | [],_,_=>rfl
 | (n,v)::r,m,h=>by
  unfold Sr;rw[xc fun w hw=>h w (N0 _ hw)];split
  ·rfl
  ·have:x≠n:=by rintro rfl;exact h v N3
   simp[this]
theorem xb{kindOf:Str->Option QJ}{x:Str}{v:NO}:∀ {P:List Str} {vs:List NO} {i:Nat} {m:Str->Option NO},P.Nodup->P[i]?=some x->vs[i]?=some v->kindOf x=some .local->
  Sq kindOf (P.zip vs) m x=some v
 | [],_,_,_,_,h,_,_=>by simp at h
 | _::_,[],_,_,_,_,h,_=>by simp at h
 | p::P,w::vs,0,m,nd,h1,h2,hk=>by
  simp at h1 h2;subst h1;subst h2;show Sq kindOf ((p,w)::P.zip vs) m p=_
  unfold Sq;rw[xa fun v hv=>(Pi.mp nd).1 (QF hv).1,if_pos hk];simp
 | p::P,w::vs,i+1,m,nd,h1,h2,hk=>by
  show Sq kindOf ((p,w)::P.zip vs) m x=_
  unfold Sq;exact xb (i:=i) (Pi.mp nd).2 (by simpa using h1) (by simpa using h2) hk
theorem xf{kindOf:Str->Option QJ}{x:Str}{v:NO}:∀ {P:List Str} {vs:List NO} {i:Nat} {m:Str->Option NO},P.Nodup->P[i]?=some x->vs[i]?=some v->kindOf x≠some .local->
  Sr kindOf (P.zip vs) m x=some v
 | [],_,_,_,_,h,_,_=>by simp at h
 | _::_,[],_,_,_,_,h,_=>by simp at h
 | p::P,w::vs,0,m,nd,h1,h2,hk=>by
  simp at h1 h2;subst h1;subst h2;show Sr kindOf ((p,w)::P.zip vs) m p=_
  unfold Sr;rw[xc fun v hv=>(Pi.mp nd).1 (QF hv).1,if_neg hk];simp
 | p::P,w::vs,i+1,m,nd,h1,h2,hk=>by
  show Sr kindOf ((p,w)::P.zip vs) m x=_
  unfold Sr;exact xf (i:=i) (Pi.mp nd).2 (by simpa using h1) (by simpa using h2) hk
def start(N:List Str)(vs:List V):St:=vs.map some ++ List.replicate (N.length - vs.length) none
def BO(CX:Ej)(P:N_)(w:Og)(K:Sf)(mg:Str->Option NO)(base:Of)(N:List Str)(qual:Str)(scope:Qk)(f:NR)(cd:NO)(A:Oc)(outer:List Env)(s:NP)(H:Hp)(E:XK):Cx where
 prog:=P
 w:=w
 K:=K
 mg:=mg
 base:=base
 A:=A.deeper (QQ qual scope s.heap.objs.size f cd)
 N:=N
 s₀:=s
 H₀:=H
 env:=QQ qual scope s.heap.objs.size f cd
 outer:=outer
 stack:=QQ qual scope s.heap.objs.size f cd::outer
 ex:=[]
 calm:=true
 fn:=fun _=>true
 pn:=[]
 xe:=fun e s'=>NZ (N4 P w) (A.deeper (QQ qual scope s.heap.objs.size f cd)) (leaving (QQ qual scope s.heap.objs.size f cd) e) (fun _ s''=>CX outer H s E e s'') (fun e' s''=>CX outer H s E e' s'') s'
theorem Au{sc:Qk}{n:Nat}{x:Str}(h:sc.names.lookup x=some .cell):∃ c,(cellsFrom n sc.names []).lookup x=some c:=by
 have q:=PySem.W.cellsFrom_some sc.names n [] (.inl h);exact Option.isSome_iff_exists.mp q
theorem DJ{CX:Ej}{P:N_}{w:Og}{K:Sf}{mg:Str->Option NO}{base:Of}{N ps:List Str}{qual:Str}{scope:Qk}{f:NR}{cd:NO}{A:Oc}{outer:List Env}{s s1:NP}{H:Hp}{E:XK}{us:List NO}{vs:List V}
  (S:FnScope N ps scope) (hd:A.handled=none) (e0:Env0 P w K mg base A outer s H) (hl:vs.length=ps.length) (r:Vals vs us)
  (x:InCallC s s.heap.objs.size (Sq (QQ qual scope s.heap.objs.size f cd).kindOf (ps.zip us) fun _=>none) (cellsFrom (s.heap.objs.size+1) scope.names []) (Sr (QQ qual scope s.heap.objs.size f cd).kindOf (ps.zip us) fun _=>none) s1):
  Inv (BO CX P w K mg base N qual scope f cd A outer s H E) [] (start N vs) H s1:=by
 have hpl:ps.length<=N.length:=by have:=congrArg List.length S.pre;rw[Ou]at this;omega
 obtain⟨h1,tk,rfl,hk⟩:=x.done;have noA:∀ b:NR,b∉(BO CX P w K mg base N qual scope f cd A outer s H E).ex:=fun b z=>absurd (show b∈([]:List NR)from z) (by simp)
 refine⟨⟨e0.mod,S.kind,rfl,rfl,le_refl _,fun y z c h1 h2=>?_,fun y hy=>?_,fun y c _ h=>?_,fun _=>hd,Around.frames_deeper e0.frames,.inr ⟨rfl,rfl⟩,fun b z=>absurd z (noA b),e0.bs,e0.bsz,fun b _ _=>noA b,fun b z=>absurd z (noA b),e0.funs,e0.frf⟩,
  rfl,e0.bare,Un.kept hk,⟨_,x.toInCall.ns,fun i y v h1 h2 h3=>?_⟩,fun y c h=>⟨_,x.cell y c h⟩,e0.hok.fresh (le_refl _),fun y c h=>?_,fun p hp=>absurd (show p∈([]:List (NR×Obj))from hp) (by simp),e0.hok.kept hk,?_⟩
 ·exact name_of_addr x.apart (PySem.mem_of_lookup h1) (PySem.mem_of_lookup h2)
 ·have hy:scope.names.lookup y=some .cell\/scope.names.lookup y=some .free:=hy;rcases hy with hy|hy
  ·exact Au hy
  ·exact absurd rfl (S.nofree _ (PySem.mem_of_lookup hy))
 ·exact le_of_lt (x.above y c (PySem.mem_of_lookup h))
 ·have hi:i < vs.length:=by
   unfold start at h2
   by_cases hi:i < vs.length
   ·exact hi
   ·rw[List.getElem?_append_right (by simpa using hi)]at h2
    rw[List.getElem?_replicate]at h2;split at h2<;>cases h2
  have ha:vs[i]?=some v:=by
   unfold start at h2;rw[List.getElem?_append_left (by simpa using hi),N8]at h2
   cases e:vs[i]? with
   | none=>rw[e]at h2;cases h2
   | some a=>rw[e]at h2;cases h2;rfl
  obtain⟨u,hu,rv⟩:=r.get ha;have hp:ps[i]?=some y:=by
   rw[<- S.pre,List.getElem?_take_of_lt (by walk_at "o")];exact h1
  have ndP:ps.Nodup:=by rw[<- S.pre];exact S.nd.sublist (List.take_sublist _ _)
  refine⟨u,rv,?_⟩;rcases S.par y (N9 hp)with k|k
  ·exact .inl ⟨k,xb ndP hp hu k⟩
  ·obtain⟨c,e⟩:=Au (n:=s.heap.objs.size+1) k;refine .inr ⟨.inl k,c,e,?_⟩;have q:=x.cell y c e;rw[xf ndP hp hu (by show scope.names.lookup y≠_;rw[k];decide)]at q
   exact q
 ·exact e0.hok.fresh (le_of_lt (x.above y c (PySem.mem_of_lookup h)))
 ·unfold start;show _=N.length
  rw[On,NS,List.length_replicate];omega
theorem Mh{CX:Ej}{P:N_}{w:Og}{K:Sf}{mg:Str->Option NO}{base:Of}{k:Nat}{f:NR}{name qual:Str}{params:Arguments}{body:List Op}{scope:Qk}{dV kV doc pm cdv ct oc:NO}{an od:Option NR}
  {osl:Array (Option NO)} {N ps:List Str} {sp:Sp} (lk:K.lookup f=some ⟨oc,od,.func (Up name qual params body scope dV kV doc pm an cdv ct),osl⟩) (hcd:S7 K cdv qual=true) (S:FnScope N ps scope)
  (len:∀ vs H Q E,sp vs H Q E->vs.length=ps.length)
  (TQ:∀ (A:Oc) (outer:List Env) (s:NP) (H:Hp) (vs:List V) (Q:VK) (E:XK),Room k (A.deeper (QQ qual scope s.heap.objs.size f cdv))->sp vs H Q E->
   ∃ t,rE (BO CX P w K mg base N qual scope f cdv A outer s H E) body t/\t { nx:=fun _ H'=>Q .non H',rt:=Q } (start N vs) H):
  FnOk P w K mg base CX (k+1) f (Up name qual params body scope dV kV doc pm an cdv ct) ps sp:=by
 refine⟨len,fun A outer s H args us vs Q E hr e0 hb r hsp=>?_⟩;have hl:=len _ _ _ _ hsp;have KX:K.In s.heap:=e0.mod.kin.keeps fun b o e=>(e0.bs b o e).1;have lim:s.heap.NoLimit:=e0.mod.nolimit.keeps fun b o e=>(e0.bs b o e).1;have T4:∀ y∈ps.zip us,scope.names.lookup y.1=some .local\/(scope.names.lookup y.1=some .cell/\((cellsFrom (s.heap.objs.size+1) scope.names []).lookup y.1).isSome=true):=fun⟨n,v⟩ hy=>by
  rcases S.par n (QF hy).1 with q|q
  ·exact .inl q
  ·exact .inr ⟨q,PySem.W.cellsFrom_some _ _ _ (.inl q)⟩
 refine codeAny_call_function hr.depth (KX _ _ lk) rfl S.co S.gen rfl (PySem.W.codeRec_of KX hcd) (hb _ _ _ _ ?_);refine wpAny_newFunctionEnv_cells S.kind T4 fun env he s1 x=>?_;subst he;refine⟨lim.keeps x.toInCall.keep,codeAny_func ?_⟩;obtain⟨t,ht,hq⟩:=TQ A outer s H vs Q E (hr.deeper _) hsp;have I:Inv (BO CX P w K mg base N qual scope f cdv A outer s H E) [] (start N vs) H s1:=DJ S hr.hd e0 hl r x;refine ON (ht [] s1 (start N vs) H _ I hq) (fun fl s' hs=>?_) fun e s' hs=>hs;have fin:∀ {σ':St} {H':Hp} {v:V} {u:NO},Inv (BO CX P w K mg base N qual scope f cdv A outer s H E) [] σ' H' s'->aF v u->Q v H'->CE outer P w H s Q u s':=
  fun {σ' H' v u} J rv q=>⟨v,H',J.os,J.bare,J.base,J.hok,rv,q⟩
 cases fl with
 | ret u=>
  obtain⟨v,σ',H',J,rv,q⟩:=hs;exact fin J rv q
 | next=>
  obtain⟨σ',H',J,q⟩:=hs;exact fin (v:=V.non) (u:=Value.none) J rfl q
 | brk=>
  obtain⟨_,_,_,q⟩:=hs;exact False.elim q
 | cont=>
  obtain⟨_,_,_,q⟩:=hs;exact False.elim q
section
variable{X:Cx}{x:Str}{p pos:Pos}{e:Oj}{es:List Oj}{t:TA}{id T:String}{r:List V->Hp->VK->Prop}
def MS(r:List V->Hp->VK->Prop)(t:TA):TE:=fun σ H Q=>t σ H fun vs H1=>r vs H1 Q
theorem Fu(hc:eV X (.builtin id) r)(hg:Gl X x)(hm:X.mg x=none)(hv:Ph x=some (.builtin id))(ha:PA X (e::es) t)(hn:x≠"__name__":=by decide)(hdb:(x == ("__debug__":Str))=false:=by decide)
  (he:N5 (e::es) X.env=(false,eval e X.env)::N5 es X.env:=by rfl) (hpl:(OW pos (N5 es X.env)).any (·.1)=false:=by rfl):PE X (.Call (.Name x p) (e::es) [] pos) (MS r t):=by
 intro pins s σ H Q I h;refine Qb (fE I hg hm hv ?_ hn hdb);exact PyProof.Rows.callWith_builtin1 (cz (ha pos pins s σ H _ I h) fun us s1 ⟨vs,H1,I1,r1,q1⟩=>hc pins s1 σ H1 vs us Q I1 r1 q1) he hpl
theorem Dn(hc:eV X (.type T) r)(hg:Gl X x)(hm:X.mg x=none)(hv:Ph x=some (.type T))(ha:PA X (e::es) t)(hn:x≠"__name__":=by decide)(hdb:(x == ("__debug__":Str))=false:=by decide)
  (he:N5 (e::es) X.env=(false,eval e X.env)::N5 es X.env:=by rfl) (hpl:(OW pos (N5 es X.env)).any (·.1)=false:=by rfl):PE X (.Call (.Name x p) (e::es) [] pos) (MS r t):=by
 intro pins s σ H Q I h;refine Qb (fE I hg hm hv ?_ hn hdb);exact PyProof.Rows.callWith_type1 (cz (ha pos pins s σ H _ I h) fun us s1 ⟨vs,H1,I1,r1,q1⟩=>hc pins s1 σ H1 vs us Q I1 r1 q1) he hpl
end
end L2
namespace HT
open PySem PyProof.Rows
section
open PySem.SeqAt
open PySem.AutoSeq1 (wpAny_loadPart')
open PySem.MeetsSeq PySem.MeetsSeq2 PySem.MeetsSeq3
end
section
variable{prog:N_}{w:Og}{A:Oc}{E:NO->NP->Prop}{s:NP}
theorem cat_tup{t b:NR}{vs ws:List NO}{Q:NO->NP->Prop}(ht:IsTup s.heap t vs.toArray)(hb:IsTup s.heap b ws.toArray)(hv:vs≠[])
  (h1:ws=[]->Q (.ref t) s) (h2:ws≠[]->Q (.ref s.heap.objs.size) { s with heap:=s.heap.push { cls:=.type "tuple",data:=.seq (vs ++ ws).toArray } })
  (hsz:vs.length+ws.length<=NY):NZ (N4 prog w) A (Pd .Add (.ref t) (.ref b)) Q E s:=by
 obtain⟨⟨cls,dd,data,sl⟩,ho,hc,n,hd⟩:=id ht;obtain⟨⟨cls2,dd2,data2,sl2⟩,ho2,hc2,n2,hd2⟩:=id hb;simp only at hc hd hc2 hd2;subst hc hd hc2 hd2;have e:vs.toArray ++ ws.toArray=(vs ++ ws).toArray:=by simp
 by_cases hw:ws=[]
 ·exact SB ⟨_,ho,rfl⟩ ⟨_,ho2,rfl⟩ noFill_tuple_add seq_tuple_add PySem.F.slot_tuple_add PySem.F.entry_tuple_add (PySem.F.args_tuple_add_2 _ _)
   (tuple_addW1 t b vs.toArray ws.toArray n n2 dd dd2 sl sl2 (by simpa using hv) (by simp[hw])) ⟨ho,ho2,h1 hw⟩
 ·refine SB ⟨_,ho,rfl⟩ ⟨_,ho2,rfl⟩ noFill_tuple_add seq_tuple_add PySem.F.slot_tuple_add PySem.F.entry_tuple_add (PySem.F.args_tuple_add_2 _ _)
   (tuple_addW2 t b vs.toArray ws.toArray n n2 dd dd2 sl sl2 (by simpa using hv) (by simpa using hw) (by rw[N6,N6];exact hsz)) ⟨ho,ho2,?_⟩
  rw[e];exact h2 hw
def sIx(n d:Nat):Option Int->Nat
 | none=>d
 | some v=>if v < 0 then (v+(n:Int)).toNat else min v.toNat n
theorem sIx_le(n d:Nat)(hd:d<=n)(o:Option Int):sIx n d o<=n:=by
 cases o with
 | none=>exact hd
 | some v=>
  show (if v < 0 then (v+(n:Int)).toNat else min v.toNat n)<=n
  by_cases hv:v < 0
  ·rw[if_pos hv];omega
  ·rw[if_neg hv];exact Nat.min_le_right _ _
theorem CP(v:Int)(n d:Nat):(if v < 0 then max (v+(n:Int)) 0 else min v (n:Int))=((sIx n d (some v):Nat):Int):=by
 show (if v < 0 then max (v+(n:Int)) 0 else min v (n:Int))=(((if v < 0 then (v+(n:Int)).toNat else min v.toNat n):Nat):Int)
 by_cases hv:v < 0
 ·simp only[if_pos hv];omega
 ·simp only[if_neg hv];omega
theorem BW(lo hi:Option Int)(n:Nat):QK lo hi 1 (n:Int)=(((sIx n 0 lo:Nat):Int),((sIx n n hi:Nat):Int)):=by
 have h1:¬ ((1:Int) < 0):=by walk_at "o"
 unfold QK;simp only[h1,if_false];refine Prod.ext ?_ ?_
 ·cases lo with
  | none=>rfl
  | some v=>exact CP v n 0
 ·cases hi with
  | none=>rfl
  | some v=>exact CP v n n
theorem Bl(i j:Nat):PX (i:Int) (j:Int) 1=j - i:=by
 unfold PX;have h1:(1:Int) > 0:=by walk_at "o"
 simp only[h1,if_true,Int.ediv_one];split<;>omega
theorem tI{v:NO}{o:Option Int}{Q:Option Int->NP->Prop}(p:Q0 v o)(h:Q o s):NZ (N4 prog w) A (Builtin.Slice.slicePartIndex v) Q E s:=by
 cases p with
 | none=>exact slicePart_none h
 | int i t=>exact slicePart_int h
theorem qv{sl:NR}{vl vu:NO}{lo hi:Option Int}{n:Nat}{Q:Int×Int×Nat->NP->Prop}(hs:s.heap.IsSliceOf sl vl vu .none)(pl:Q0 vl lo)(pu:Q0 vu hi)
  (h:Q (((sIx n 0 lo:Nat):Int),1,sIx n n hi - sIx n 0 lo) s):NZ (N4 prog w) A (Sc (.ref sl) (pure (n:Int))) Q E s:=by
 obtain⟨os,hos,hcs,hds⟩:=id hs;unfold Sc Builtin.Slice.sliceFields;refine NN (NN (O6 hos hds (x:=vl) rfl (NN (O6 hos hds (x:=vu) rfl (NN (O6 hos hds (x:=.none) rfl (NQ ?_)))))));refine NN (slicePart_none ?_);show NZ _ _ (if ((1:Int) == 0)=true then _ else _) _ _ s
 rw[if_neg (by decide)]
 refine NN (tI pl (NN (tI pu (NN (NQ ?_)))));show NZ _ _ (match QK lo hi 1 (n:Int) with|(lo,hi)=>pure (lo,(1:Int),PX lo hi 1)) _ _ s
 rw[BW lo hi n];show NZ _ _ (pure (((sIx n 0 lo:Nat):Int),(1:Int),PX ((sIx n 0 lo:Nat):Int) ((sIx n n hi:Nat):Int) 1)) _ _ s
 rw[Bl];exact NQ h
theorem Fk(xs:Array NO)(i k:Nat):((List.range k).filterMap fun (m:Nat)=>xs[((i:Int)+(m:Int)*1).toNat]?).toArray=((xs.toList.drop i).take k).toArray:=by
 have e:(fun (m:Nat)=>xs[((i:Int)+(m:Int)*1).toNat]?)=fun m=>xs[i+m]?:=by
  funext m;have:((i:Int)+(m:Int)*1).toNat=i+m:=by walk_at "o"
  rw[this]
 rw[e];have:=pick_run xs i k;rw[List.filterMap_map]at this;have e2:((fun x=>xs[x]?) ∘ fun x=>i+x)=fun m=>xs[i+m]?:=rfl;rw[e2]at this;rw[this]
theorem getItem_tuple_cut{t sl:NR}{items:Array NO}{vl vu:NO}{lo hi:Option Int}{Q:NO->NP->Prop}(ht:IsTup s.heap t items)(hs:s.heap.IsSliceOf sl vl vu .none)(pl:Q0 vl lo)(pu:Q0 vu hi)
  (hw:¬ (sIx items.size 0 lo=0/\sIx items.size items.size hi=items.size))
  (h:Q (.ref s.heap.objs.size) { s with heap:=s.heap.push { cls:=.type "tuple",data:=.seq ((items.toList.drop (sIx items.size 0 lo)).take (sIx items.size items.size hi - sIx items.size 0 lo)).toArray } })
  (hsz:items.size<=NY):NZ (N4 prog w) A (QX (.ref t) (.ref sl)) Q E s:=by
 have TJ:sizeOk (.seq ((items.toList.drop (sIx items.size 0 lo)).take (sIx items.size items.size hi - sIx items.size 0 lo)).toArray):=by
  show ((items.toList.drop (sIx items.size 0 lo)).take (sIx items.size items.size hi - sIx items.size 0 lo)).toArray.size<=NY
  rw[N6,Ou,O8,Array.length_toList];omega
 have hj:sIx items.size items.size hi<=items.size:=sIx_le _ _ (le_refl _) hi;obtain⟨os,hos,hcs,hds⟩:=id hs;have hTs:s.TypeIs (.ref sl) "slice":=⟨os,hos,hcs⟩;unfold QX
 try with_reducible refine OH ?_
 first|refine NN (NQ ?_)|skip
 refine NN (wpAny_sequenceKey ht.typeIs (by decide) ?_)
 refine NN (OR (name:=NU "__getitem__") ht.typeIs PyProof.Rows.slot_tuple_getitem
  (OQ PyProof.Rows.slot_tuple_getitem ht.typeIs entry_tuple_getitem ?_ (args_tuple_getitem _ _)))
 show NZ _ _ (Builtin.Tuple.tupleItemsOf (.ref t) >>= _) _ _ s
 refine NN (tupleItemsOf_ ht ?_);refine NN (Rv hTs ?_);rw[if_pos (by decide)]
 refine NN (qv hs pl pu ?_);have hno:¬ ((((sIx items.size 0 lo:Nat):Int) == 0 && (1:Int) == 1 && (sIx items.size items.size hi - sIx items.size 0 lo) == items.size)=true):=by
  intro q;rw[Bool.and_eq_true,Bool.and_eq_true]at q;have q1:((sIx items.size 0 lo:Nat):Int)=0:=eq_of_beq q.1.1;have q2:sIx items.size items.size hi - sIx items.size 0 lo=items.size:=eq_of_beq q.2;exact hw ⟨by walk_at "o",by walk_at "o"⟩
 show NZ _ _ (if (((sIx items.size 0 lo:Nat):Int) == 0 && (1:Int) == 1 && (sIx items.size items.size hi - sIx items.size 0 lo) == items.size)=true then _ else _) _ _ s
 rw[if_neg hno,Fk]
 first
  | exact NN (m:=P8 _) (OE (NQ ⟨_,rfl,NQ h⟩) TJ)
  | exact NN (m:=P8 _) (OE (NN (NQ (NQ ⟨_,rfl,NQ h⟩))) TJ)
  | exact NN (NN (m:=P8 _) (OE (NQ (NQ ⟨_,rfl,NQ h⟩)) TJ))
  | exact NN (NN (m:=P8 _) (OE (NQ ⟨_,rfl,NQ h⟩) TJ))
end
end HT
namespace L2
open PySem PySem.Spec PyProof.Rows
abbrev TO:=St->Hp->(Option Int->Hp->Prop)->Prop
def PO(X:Cx)(e:Option Oj)(t:TO):Prop:=
 ∀ (pins:List (NR×Obj)) (s:NP) (σ:St) (H:Hp) (Q:Option Int->Hp->Prop),Inv X pins σ H s->t σ H Q->
  NZ (N4 X.prog X.w) X.A (evalPart e X.env) (fun u s'=>∃ o H',Inv X pins σ H' s'/\Q0 u o/\Q o H') X.xe s
def Hd:TO:=fun _ H Q=>Q none H
def Lr(t:TE):TO:=fun σ H Q=>t σ H fun x H1=>∃ i,x=.int i/\Q (some i) H1
section
variable{X:Cx}{e:Oj}{te:TE}{lo hi:Option Oj}{tl th:TO}{pos p2:Pos}
theorem HF:PO X none Hd:=by
 intro pins s σ H Q I h;rw[evalPart_none];exact NQ ⟨none,H,I,.none,h⟩
theorem HE(h:PE X e te):PO X (some e) (Lr te):=by
 intro pins s σ H Q I hw;rw[evalPart_some];refine cz (h pins s σ H _ I hw) fun u s1 zz=>?_;obtain⟨x,H1,I1,r1,q1⟩:=zz;obtain⟨i,rfl,q⟩:=q1;obtain⟨t,rfl⟩:=r1;exact⟨some i,H1,I1,.int i t,q⟩
def D9(X:Cx)(r:V->Option Int->Option Int->Hp->VK->Prop):Prop:=
 ∀ (pins:List (NR×Obj)) (s:NP) (σ:St) (H:Hp) (x:V) (v vl vu:NO) (lo hi:Option Int) (sl:NR) (Q:VK),Inv X pins σ H s->aF x v->s.heap.IsSliceOf sl vl vu .none->Q0 vl lo->Q0 vu hi->r x lo hi H Q->
  ∃ T id,QD (.type T) "__getitem__"=pure (some (.builtin id))/\s.TypeIs v T/\NZ (N4 X.prog X.w) X.A (QX v (.ref sl)) (EP X pins σ Q) X.xe s
theorem D9.or{r r':V->Option Int->Option Int->Hp->VK->Prop}(h:D9 X r)(h':D9 X r'):D9 X (fun x lo hi H Q=>r x lo hi H Q\/r' x lo hi H Q):=by
 intro pins s σ H x v vl vu lo hi sl Q I rx hs pl pu q;rcases q with q|q
 ·exact h pins s σ H x v vl vu lo hi sl Q I rx hs pl pu q
 ·exact h' pins s σ H x v vl vu lo hi sl Q I rx hs pl pu q
def Nv(r:V->Option Int->Option Int->Hp->VK->Prop)(te:TE)(tl th:TO):TE:=fun σ H Q=>te σ H fun x H1=>tl σ H1 fun l H2=>th σ H2 fun u H3=>r x l u H3 Q
theorem Fo{r:V->Option Int->Option Int->Hp->VK->Prop}(hr:D9 X r)(he:PE X e te)(hl:PO X lo tl)(hu:PO X hi th):PE X (.Subscript e (.Slice lo hi none p2) pos) (Nv r te tl th):=by
 intro pins s σ H Q I h;refine R9 (cz (he pins s σ H _ I h) fun v s1 zz=>?_);obtain⟨x,H1,I1,r1,q1⟩:=zz;refine wpAny_Slice (cz (hl pins s1 σ H1 _ I1 q1) fun vl s2 zz=>?_);obtain⟨l,H2,I2,pl,q2⟩:=zz;refine cz (hu pins s2 σ H2 _ I2 q2) fun vu s3 zz=>?_;obtain⟨u,H3,I3,pu,q3⟩:=zz;rw[evalPart_none];refine NQ ?_;have I4:Inv X pins σ H3 { s3 with heap:=s3.heap.push { cls:=.type "slice",data:=.fields #[vl,vu,.none] } }:=I3.kept (t':=s3.toks) fun b ob q=>NT _ q
 obtain⟨T,id,hT,ht,hg⟩:=hr pins { s3 with heap:=s3.heap.push { cls:=.type "slice",data:=.fields #[vl,vu,.none] } } σ H3 x v vl vu l u s3.heap.objs.size Q I4 r1 (Heap.IsSliceOf.new ..) pl pu q3
 show NZ (N4 X.prog X.w) X.A (Rr e (.Slice lo hi none p2) v (.ref s3.heap.objs.size)) (EP X pins σ Q) X.xe { s3 with heap:=s3.heap.push { cls:=.type "slice",data:=.fields #[vl,vu,.none] } }
 exact tail_any (ops:=[.ref s3.heap.objs.size,v]) ht hT hg (by with_unfolding_all rfl)
def Ap(xs:List V)(lo hi:Option Int):List V:=(xs.drop (HT.sIx xs.length 0 lo)).take (HT.sIx xs.length xs.length hi - HT.sIx xs.length 0 lo)
theorem sx(xs:List V)(lo hi:Option Int):(Ap xs lo hi).length<=xs.length:=by
 unfold Ap;rw[Ou,O8];omega
def MX(K:Sf):V->Option Int->Option Int->Hp->VK->Prop:=fun x lo hi H Q=>∃ a xs,x=.ref a/\kL K H a xs/\
 ¬ (HT.sIx xs.length 0 lo=0/\HT.sIx xs.length xs.length hi=xs.length)/\∀ p,H p=none->Q (.ref p) (bq H p (.tup (Ap xs lo hi)))
theorem JR:D9 X (MX X.K):=by
 intro pins s σ H x v vl vu lo hi sl Q I rx hs pl pu h;obtain⟨a,xs,rfl,hx,hw,q⟩:=h;cases rx;obtain⟨its,r,ht,hz⟩:=I.tuple hx;have hlen:its.toArray.size=xs.length:=by rw[N6];exact r.length.symm
 refine⟨"tuple",_,PyProof.Rows.slot_tuple_getitem.lookup,ht.typeIs,?_⟩;refine HT.getItem_tuple_cut ht hs pl pu (by rw[hlen];exact hw) ?_ (by rw[hlen];exact hz)
 rw[hlen];refine⟨.ref s.heap.objs.size,_,I.laid (t':=s.toks) (o:=.tup (Ap xs lo hi)) (fun b ob q=>NT _ q) (le_refl _) ?_,rfl,q _ (I.hok.fresh (le_refl _))⟩;exact⟨le_trans (sx xs lo hi) hz,_,(r.drop (HT.sIx xs.length 0 lo)).take (HT.sIx xs.length xs.length hi - HT.sIx xs.length 0 lo),vh.new _ _⟩
def LG(K:Sf):R2:=fun x y H Q=>∃ a b xs ys,x=.ref a/\y=.ref b/\kL K H a xs/\kL K H b ys/\xs≠[]/\xs.length+ys.length<=NY/\
 (ys=[]->Q (.ref a) H)/\(ys≠[]->∀ p,H p=none->Q (.ref p) (bq H p (.tup (xs ++ ys))))
theorem Vals.nil_iff{xs:List V}{us:List NO}(r:Vals xs us):us=[]↔xs=[]:=by
 cases r with
 | nil=>simp
 | cons _ _=>simp
theorem HX:ig X (Pd .Add) (LG X.K):=by
 intro pins s σ H x y v u Q I rx ry h;obtain⟨a,b,xs,ys,rfl,rfl,ha,hb,hx,hz,q1,q2⟩:=h;cases rx;cases ry;obtain⟨its,r1,p1,_⟩:=I.tuple ha;obtain⟨its2,r2,p2,_⟩:=I.tuple hb;refine HT.cat_tup p1 p2 (fun z=>hx (r1.nil_iff.mp z)) (fun z=>⟨.ref a,H,I,rfl,q1 (r2.nil_iff.mp z)⟩) (fun z=>?_) (by rw[<- r1.length,<- r2.length];exact hz)
 refine⟨.ref s.heap.objs.size,_,I.laid (t':=s.toks) (o:=.tup (xs ++ ys)) (fun b ob q=>NT _ q) (le_refl _) ?_,rfl,q2 (fun w=>z (r2.nil_iff.mpr w)) _ (I.hok.fresh (le_refl _))⟩;exact⟨by rw[On];exact hz,_,r1.append r2,vh.new _ _⟩
end
def Is(n:Nat)(i:Int):Option Nat:=if 0<=i then (if i < n then some i.toNat else none)else if -(n:Int)<=i then some (i+n).toNat else none
def iG{α:Type}(xs:List α)(i:Int):Option α:=(Is xs.length i).bind fun j=>xs[j]?
theorem CG{n:Nat}{i:Int}{j:Nat}(h:Is n i=some j):seqIndex? i n=some j/\j < n/\-(n:Int)<=i/\i < n:=by
 unfold Is at h
 by_cases h0:0<=i
 ·rw[if_pos h0]at h
  by_cases h1:i < n
  ·rw[if_pos h1]at h;have e:i.toNat=j:=Option.some.inj h;exact⟨by rw[SM h0 h1,e],by walk_at "o",by walk_at "o",h1⟩
  ·rw[if_neg h1]at h;cases h
 ·rw[if_neg h0]at h
  by_cases h1:-(n:Int)<=i
  ·rw[if_pos h1]at h;have e:(i+n).toNat=j:=Option.some.inj h;exact⟨by rw[seqIndex_neg (by walk_at "o") h1,e],by walk_at "o",h1,by walk_at "o"⟩
  ·rw[if_neg h1]at h;cases h
theorem yP{α:Type}{xs:List α}{i:Int}{v:α}(h:iG xs i=some v):∃ j,seqIndex? i xs.length=some j/\xs[j]?=some v/\j < xs.length/\-(xs.length:Int)<=i/\i < xs.length:=by
 unfold iG at h;cases e:Is xs.length i with
 | none=>rw[e]at h;cases h
 | some j=>
  rw[e]at h;obtain⟨h1,h2,h3,h4⟩:=CG e;exact⟨j,h1,h,h2,h3,h4⟩
def CY(b:Oj):Prop:=∀ o i,RP b false o i=operate [o,i] (QX o i)
def Ea(X:Cx)(r:R2):Prop:=
 ∀ (value slice:Oj) (pins:List (NR×Obj)) (s:NP) (σ:St) (H:Hp) (x y:V) (v u:NO) (Q:VK),Inv X pins σ H s->aF x v->aF y u->r x y H Q->
  RP slice false v u=operate [v,u] (QX v u)->NZ (N4 X.prog X.w) X.A (Rr value slice v u) (EP X pins σ Q) X.xe s
def Ln(X:Cx)(id:String)(r:V->List V->Hp->VK->Prop):Prop:=
 ∀ (pins:List (NR×Obj)) (s:NP) (σ:St) (H:Hp) (x:V) (xs:List V) (v:NO) (us:List NO) (Q:VK),Inv X pins σ H s->aF x v->Vals xs us->r x xs H Q->
  NZ (N4 X.prog X.w) X.A (call (.builtin id) (v::us)) (EP X pins σ Q) X.xe s
section
variable{X:Cx}{a b:Oj}{ta tb:TE}{pos:Pos}
theorem Ea.or{r r':R2}(h:Ea X r)(h':Ea X r'):Ea X (fun x y H Q=>r x y H Q\/r' x y H Q):=by
 intro value slice pins s σ H x y v u Q I rx ry q hs;rcases q with q|q
 ·exact h value slice pins s σ H x y v u Q I rx ry q hs
 ·exact h' value slice pins s σ H x y v u Q I rx ry q hs
theorem Ln.or{id:String}{r r':V->List V->Hp->VK->Prop}(h:Ln X id r)(h':Ln X id r'):Ln X id (fun x xs H Q=>r x xs H Q\/r' x xs H Q):=by
 intro pins s σ H x xs v us Q I rx rs q;rcases q with q|q
 ·exact h pins s σ H x xs v us Q I rx rs q
 ·exact h' pins s σ H x xs v us Q I rx rs q
theorem LW{r:R2}(hr:Ea X r)(ha:PE X a ta)(hb:PE X b tb)(hs:CY b):PE X (.Subscript a b pos) (Ll r ta tb):=by
 intro pins s σ H Q I h;exact R9 (K8 ha hb I h fun v u s2 x y H2 I2 rx ry q=>hr a b pins s2 σ H2 x y v u Q I2 rx ry q (hs _ _))
def LF(K:Sf):R2:=fun x y H Q=>∃ p xs i v,x=.ref p/\y=.int i/\jw K H p xs/\iG xs i=some v/\Q v H
def LC(K:Sf):R2:=fun x y H Q=>∃ p xs i v,x=.ref p/\y=.int i/\kL K H p xs/\iG xs i=some v/\Q v H
def LD:R2:=fun x y H Q=>∃ z i c,x=.str z/\y=.int i/\z.length<=NY/\iG z.cps.toList i=some c/\Q (.str ⟨#[c]⟩) H
theorem Ir:Ea X (LF X.K):=by
 intro value slice pins s σ H x y v u Q I rx ry h hs;obtain⟨p,xs,i,z,rfl,rfl,hq,he,q⟩:=h;cases rx;obtain⟨t,rfl⟩:=ry;obtain⟨its,r,pl,hz⟩:=I.list hq;obtain⟨j,h1,h2,h3,h4,h5⟩:=yP he;obtain⟨w,ew,rw'⟩:=r.get h2;have hl:=r.length;have hn:=lV;have fin:EP X pins σ Q w s:=⟨z,H,I,rw',q⟩
 by_cases h0:0<=i
 ·have hj:i.toNat=j:=by
   rw[SM h0 h5]at h1;exact Option.some.inj h1
  exact item_listR pl.isList h0 (by walk_at "o") (by rw[hj];simpa using ew) fin hs
 ·have hj:(i+(its.toArray.size:Int)).toNat=j:=by
   rw[seqIndex_neg (by walk_at "o") h4]at h1
   rw[N6,<- hl];exact Option.some.inj h1
  exact Sx (x:=w) pl.isList.typeIs slot_list_getitem.lookup
   (wpAny_getItem_list_neg (Q:=fun r s'=>r=w/\EP X pins σ Q r s') pl.isList (by walk_at "o") (by rw[N6]<;>omega) (by walk_at "o") (by rw[hj];simpa using ew) ⟨rfl,fin⟩) hs
theorem KL:Ea X (LC X.K):=by
 intro value slice pins s σ H x y v u Q I rx ry h hs;obtain⟨p,xs,i,z,rfl,rfl,hq,he,q⟩:=h;cases rx;obtain⟨t,rfl⟩:=ry;obtain⟨its,r,pl,hz⟩:=I.tuple hq;obtain⟨j,h1,h2,h3,h4,h5⟩:=yP he;obtain⟨w,ew,rw'⟩:=r.get h2;have hl:=r.length;have hn:=lV;have fin:EP X pins σ Q w s:=⟨z,H,I,rw',q⟩;exact Sx (x:=w) pl.typeIs slot_tuple_getitem.lookup
  (getItem_tuple (j:=j) (Q:=fun r s'=>r=w/\EP X pins σ Q r s') pl (by walk_at "o") (by walk_at "o") (by rw[N6,<- hl];exact h1) (by simpa using ew) ⟨rfl,fin⟩) hs
theorem KM:Ea X LD:=by
 intro value slice pins s σ H x y v u Q I rx ry h hs;obtain⟨z,i,c,rfl,rfl,hz,he,q⟩:=h;obtain⟨t,rfl⟩:=rx;obtain⟨t',rfl⟩:=ry;obtain⟨j,h1,h2,h3,h4,h5⟩:=yP he;have hl:z.cps.toList.length=z.length:=by simp[Pe]
 rw[hl]at h1 h4 h5;have hn:=lV;exact tail_any (R4 s z t) slot_str_getitem.lookup (getItem_str (c:=c) (by
  have e1:decide (i < -(2 ^ 63:Int))=false:=decide_eq_false (by walk_at "o")
  have e2:decide (i>=2 ^ 63)=false:=decide_eq_false (by walk_at "o")
  rw[e1,e2,Bool.or_false]) (by rw[h1];simpa using h2) ⟨.str ⟨#[c]⟩,H,I.tok _,⟨_,rfl⟩,q⟩) hs
def Nz(K:Sf):R2:=fun x y H Q=>LF K x y H Q\/LC K x y H Q\/LD x y H Q
theorem KN:Ea X (Nz X.K):=Ir.or (KL.or KM)
theorem Bu(its:List NO)(n j:Nat)(u:NO):O2 (·.setIfInBounds j u) { cls:=.type "list",data:=.seq its.toArray n }={ cls:=.type "list",data:=.seq (its.set j u).toArray n }:=by
 simp[O2]
theorem Inv.lst{pins:List (NR×Obj)}{σ:St}{H:Hp}{s:NP}{p:NR}{xs:List V}(I:Inv X pins σ H s)(h:H p=some (.lst xs)):
  ∃ (its:List NO) (n:Nat),Vals xs its/\s.heap.get? p=some { cls:=.type "list",data:=.seq its.toArray n }/\xs.length<=NY:=by
 obtain⟨z,its,n,r,e⟩:=I.hok p _ h;exact⟨its,n,r,e,z⟩
theorem Inv.lstUpd{pins:List (NR×Obj)}{σ:St}{H:Hp}{s:NP}{p:NR}{xs ys:List V}{its its':List NO}{n n':Nat}{f:Obj->Obj}(I:Inv X pins σ H s)(h:H p=some (.lst xs))
  (ho:s.heap.get? p=some { cls:=.type "list",data:=.seq its.toArray n }) (hf:f { cls:=.type "list",data:=.seq its.toArray n }={ cls:=.type "list",data:=.seq its'.toArray n' }) (r:Vals ys its') (hz:ys.length<=NY) (t:Nat):
  Inv X pins σ (bq H p (.lst ys)) { s with heap:=s.heap.update p f,toks:=t }:=by
 have e:(s.heap.update p f).get? p=some { cls:=.type "list",data:=.seq its'.toArray n' }:=by
  rw[Ql f ho (by rw[hf]<;>rfl),hf]
 refine I.write (x:=p) (e:=p) (by rw[h];trivial) (.inl rfl) (fun b u hb q=>(Py _ _ (Ne.symm hb)).trans q) ⟨_,e⟩ ?_
 exact⟨hz,its',n',r,e⟩
def LB:V->V->V->Hp->(Hp->Prop)->Prop:=fun o i v H Q=>∃ p xs k j,o=.ref p/\i=.int k/\H p=some (.lst xs)/\Is xs.length k=some j/\Q (bq H p (.lst (xs.set j v)))
theorem EJ:Lf X LB:=by
 intro pins s σ H o i v ov iv u Q I ro ri rv h;obtain⟨p,xs,k,j,rfl,rfl,hp,hj,q⟩:=h;cases ro;obtain⟨t,rfl⟩:=ri;obtain⟨its,n,r,ho,hz⟩:=I.lst hp;obtain⟨h1,h2,h3,h4⟩:=CG hj;have hl:=r.length;have hn:=lV;have I':Inv X pins σ (bq H p (.lst (xs.set j v))) { s with heap:=s.heap.update p (O2 (·.setIfInBounds j u)) }:=
  I.lstUpd hp ho (Bu its n j u) (r.set rv j) (by rw[List.length_set];exact hz) s.toks
 by_cases h0:0<=k
 ·have hk:k.toNat=j:=by
   rw[SM h0 h4]at h1;exact Option.some.inj h1
  exact PySem.W.ki_setAt ho h0 (by walk_at "o") (by rw[N6,<- hl];exact h4) (by rw[hk];exact⟨_,I',q⟩)
 ·have hk:(k+(its.toArray.size:Int)).toNat=j:=by
   rw[seqIndex_neg (by walk_at "o") h3]at h1
   rw[N6,<- hl];exact Option.some.inj h1
  exact PySem.W.ki_setBack ho (by walk_at "o") (by rw[N6,<- hl];exact h3) (by walk_at "o") (by rw[hk];exact⟨_,I',q⟩)
theorem xy(lo hi:Option Int)(n:Nat):(Pr lo hi none n).1=((HT.sIx n 0 lo:Nat):Int)/\(Pr lo hi none n).2.1=((HT.sIx n n hi:Nat):Int)/\(Pr lo hi none n).2.2=1:=by
 refine⟨?_,?_,rfl⟩
 ·cases lo with
  | none=>simp[Pr,HT.sIx]
  | some i=>
   simp only[Pr,HT.sIx,Option.getD_none,show (1:Int) > 0 by decide,if_true]
   by_cases h:i < 0
   ·simp only[h,if_true]<;>omega
   ·simp only[h,if_false]<;>omega
 ·cases hi with
  | none=>simp[Pr,HT.sIx]
  | some i=>
   simp only[Pr,HT.sIx,Option.getD_none,show (1:Int) > 0 by decide,if_true]
   by_cases h:i < 0
   ·simp only[h,if_true]<;>omega
   ·simp only[h,if_false]<;>omega
theorem vC(its:List NO)(lo hi:Option Int):slicePick its.toArray lo hi none=((its.drop (HT.sIx its.length 0 lo)).take (HT.sIx its.length its.length hi - HT.sIx its.length 0 lo)).toArray:=by
 obtain⟨h1,h2,h3⟩:=xy lo hi its.toArray.size;unfold slicePick;rw[h1,h2,h3];simp only[sliceRange_one,pick_run,N6]<;>rfl
def MY(K:Sf):V->Option Int->Option Int->Hp->VK->Prop:=fun x lo hi H Q=>∃ a xs,x=.ref a/\jw K H a xs/\∀ p,H p=none->Q (.ref p) (bq H p (.lst (Ap xs lo hi)))
theorem Hn:D9 X (MY X.K):=by
 intro pins s σ H x v vl vu lo hi sl Q I rx hs pl pu h;obtain⟨a,xs,rfl,hx,q⟩:=h;cases rx;obtain⟨its,r,ht,hz⟩:=I.list hx;have hlen:=r.length;refine⟨"list",_,slot_list_getitem.lookup,ht.isList.typeIs,?_⟩;refine wpAny_getItem_list_slice ht.isList hs pl pu .none (by simp) ?_ (by rw[N6]<;>omega)
 rw[vC,<- hlen];refine⟨.ref s.heap.objs.size,_,I.laid (t':=s.toks) (o:=.lst (Ap xs lo hi)) (fun b ob q=>NT _ q) (le_refl _) ?_,rfl,q _ (I.hok.fresh (le_refl _))⟩;exact⟨le_trans (sx xs lo hi) hz,_,0,(r.drop (HT.sIx xs.length 0 lo)).take (HT.sIx xs.length xs.length hi - HT.sIx xs.length 0 lo),NW _ rfl⟩
theorem yN:eV X (.builtin "len") (fun xs H Q=>∃ p ys,xs=[.ref p]/\(jw X.K H p ys\/kL X.K H p ys)/\Q (.int ys.length) H):=by
 intro pins s σ H xs us Q I r h;obtain⟨p,ys,rfl,hq,q⟩:=h;obtain⟨u,rfl,rx⟩:=rJ r;cases rx;have hn:=lV;rcases hq with hq|hq
 ·obtain⟨its,r',pl,hz⟩:=I.list hq;have hlen:=r'.length;exact Calls.call_len_list pl.isList (by simp only[N6]<;>omega) ⟨.int ys.length,H,I.tok _,⟨s.toks+1,by rw[N6,hlen]⟩,q⟩
 ·obtain⟨its,r',pl,hz⟩:=I.tuple hq;have hlen:=r'.length;exact len_tuple pl (by simp only[N6]<;>omega) ⟨.int ys.length,H,I.tok _,⟨s.toks+1,by rw[N6,hlen]⟩,q⟩
theorem yM:eV X (.builtin "len") (fun xs H Q=>∃ z,xs=[.str z]/\z.length<=NY/\Q (.int z.length) H):=by
 intro pins s σ H xs us Q I r h;obtain⟨z,rfl,hz,q⟩:=h;obtain⟨u,rfl,t,rfl⟩:=rJ r;have hn:=lV;exact len_str (by walk_at "o") ⟨.int z.length,H,I.tok _,⟨_,rfl⟩,q⟩
theorem eV.or{f:NO}{r r':List V->Hp->VK->Prop}(h:eV X f r)(h':eV X f r'):eV X f (fun xs H Q=>r xs H Q\/r' xs H Q):=by
 intro pins s σ H xs us Q I rs q;rcases q with q|q
 ·exact h pins s σ H xs us Q I rs q
 ·exact h' pins s σ H xs us Q I rs q
theorem yL:eV X (.type "list") (fun xs H Q=>∃ p ys,xs=[.ref p]/\(jw X.K H p ys\/kL X.K H p ys)/\∀ l,H l=none->Q (.ref l) (bq H l (.lst ys))):=by
 intro pins s σ H xs us Q I r h;obtain⟨p,ys,rfl,hq,q⟩:=h;obtain⟨u,rfl,rx⟩:=rJ r;cases rx;have fin:∀ (its:List NO),Vals ys its->ys.length<=NY->∀ (h':Of) (c':Nat),(∀ b o',s.heap.get? b=some o'->h'.get? b=some o')->
   h'.get? s.heap.objs.size=some { cls:=.type "list",dict:=none,data:=.seq its.toArray c',slots:=#[] }->EP X pins σ Q (.ref s.heap.objs.size) { s with heap:=h' }:=fun its r' hz h' c' kp e=>
  ⟨.ref s.heap.objs.size,_,I.laid (t':=s.toks) kp (le_refl _) (show cf X.prog X.w _ h' _ (.lst ys)from ⟨hz,its,c',r',e⟩),rfl,q _ (I.hok.fresh (le_refl _))⟩
 rcases hq with hq|hq
 ·obtain⟨its,r',pl,hz⟩:=I.list hq;have hlen:=r'.length;obtain⟨o,ho,hc,n,hd⟩:=pl.isList;exact call_list_seq p (.inl rfl) ho hc hd (fun h' c' kp e=>fin its r' hz h' c' kp e) (by simp only[N6]<;>omega)
 ·obtain⟨its,r',pl,hz⟩:=I.tuple hq;have hlen:=r'.length;obtain⟨o,ho,hc,n,hd⟩:=pl;exact call_list_seq p (.inr rfl) ho hc hd (fun h' c' kp e=>fin its r' hz h' c' kp e) (by simp only[N6]<;>omega)
theorem we:eV X (.type "tuple") (fun xs H Q=>∃ p ys,xs=[.ref p]/\((jw X.K H p ys/\∀ l,H l=none->Q (.ref l) (bq H l (.tup ys)))\/(kL X.K H p ys/\Q (.ref p) H))):=by
 intro pins s σ H xs us Q I r h;obtain⟨p,ys,rfl,h⟩:=h;obtain⟨u,rfl,rx⟩:=rJ r;cases rx;rcases h with ⟨hq,q⟩|⟨hq,q⟩
 ·obtain⟨its,r',pl,hz⟩:=I.list hq;have hlen:=r'.length;refine call_tuple_list pl.isList (fun h' kp=>?_) (by simp only[N6]<;>omega)
  have I1:Inv X pins σ H { s with heap:=h' }:=I.kept (t':=s.toks) kp
  have I2:Inv X pins σ (bq H h'.objs.size (.tup ys)) { s with heap:=h'.push { cls:=.type "tuple",data:=.seq its.toArray } }:=
   I1.laid (t':=s.toks) (fun b o e=>NT _ e) (le_refl _) (show cf X.prog X.w _ _ _ (.tup ys)from ⟨hz,its,r',vh.new _ _⟩)
  exact⟨.ref h'.objs.size,_,I2,rfl,q _ (I1.hok.fresh (le_refl _))⟩
 ·obtain⟨its,r',pl,hz⟩:=I.tuple hq;exact call_tuple_same pl ⟨.ref p,H,I,rfl,q⟩
def No(K:Sf)(T:String)(x:V)(H:Hp):Prop:=match x with
 | .str _=>T="str"
 | .int _=>T="int"
 | .ref p=>(T="list"/\∃ xs,jw K H p xs)\/(T="tuple"/\∃ o,K.lookup p=some o/\o.cls=.type "tuple"/\o.dict=none)\/
   (T="dict"/\((∃ kvs,H p=some (.dK kvs))\/∃ kvs,H p=some (.dT kvs)))\/(T="set"/\∃ S n,H p=some (.set S n))
 | _=>False
theorem JK{pins:List (NR×Obj)}{σ:St}{H:Hp}{s:NP}{T:String}{x:V}{v:NO}(I:Inv X pins σ H s)(r:aF x v)(ty:No X.K T x H):
  s.TypeIs v T/\∀ a,v=.ref a->∃ ob,s.heap.get? a=some ob/\ob.dict=none:=by
 cases x with
 | str z=>
  obtain⟨t,rfl⟩:=r;cases (show T="str" from ty)
  exact⟨R4 s z t,fun _ e=>nomatch e⟩
 | int i=>
  obtain⟨t,rfl⟩:=r;cases (show T="int" from ty)
  exact⟨typeIs_int s i t,fun _ e=>nomatch e⟩
 | ref p=>
  cases r;rcases ty with ⟨rfl,xs,hq⟩|⟨rfl,o,hk,hc,hd⟩|⟨rfl,hk⟩|⟨rfl,S,n,hk⟩
  ·obtain⟨its,_,pl,_⟩:=I.list hq;refine⟨pl.isList.typeIs,fun a e=>?_⟩;cases e;obtain⟨o,n,e,c,hd,_⟩:=pl;exact⟨o,e,hd⟩
  ·refine⟨⟨o,I.kIn p o hk,hc⟩,fun a e=>?_⟩;cases e;exact⟨o,I.kIn _ o hk,hd⟩
  ·have z:∃ o,s.heap.get? p=some o/\o.ExactDict:=by
    rcases hk with ⟨kvs,hk⟩|⟨kvs,hk⟩
    ·obtain⟨_,_,_,_,o,_,_,e,ex,_⟩:=I.hok p _ hk;exact⟨o,e,ex⟩
    ·obtain⟨_,_,_,_,o,_,_,e,ex,_⟩:=I.hok p _ hk;exact⟨o,e,ex⟩
   obtain⟨o,e,ex⟩:=z;refine⟨⟨o,e,ex.1⟩,fun a e2=>?_⟩;cases e2;exact⟨o,e,ex.2.1⟩
  ·obtain⟨o,_,_,_,e,ex,_⟩:=I.hok p _ hk;refine⟨⟨o,e,ex.1⟩,fun a e2=>?_⟩;cases e2;exact⟨o,e,ex.2.1⟩
 | _=>exact False.elim ty
def Ny(K:Sf)(T:String)(r:V->List V->Hp->VK->Prop)(to:TE)(t:TA):TE:=fun σ H Q=>to σ H fun x H1=>No K T x H1/\t σ H1 fun xs H2=>r x xs H2 Q
variable{o e:Oj}{es:List Oj}{to:TE}{t:TA}{name:Str}{apos cpos:Pos}{T id:String}{r:V->List V->Hp->VK->Prop}
theorem Jj(pa:PlainAttrs T)(slot:Slot T name id)(hty:typeOf (.builtin id)=pure (.type "method_descriptor"))(hm:Ln X id r)(ho:PE X o to)(ha:PA X (e::es) t)
  (Tt:Pk o name X.env (eval o X.env)=eval o X.env:=by rfl)
  (TN:((OW cpos (N5 (e::es) X.env)).all (fun x=>!x.1) && (Qq cpos (Ps [] X.env)).all (fun x=>x.1.isSome)
   && decide ((e::es).length+([]:List Rn).length+(if ([]:List Rn).isEmpty then 0 else 1) < 30))=true:=by rfl)
  (Ts:(apos.endLine == cpos.line)=true:=by rfl) (hs:N5 (e::es) X.env=(false,eval e X.env)::N5 es X.env:=by rfl) (Tr:(OW cpos (N5 es X.env)).any (·.1)=false:=by rfl):
  PE X (.Call (.Attribute o name apos) (e::es) [] cpos) (Ny X.K T r to t):=by
 intro pins s σ H Q I h;refine wpAny_Call_method_late Tt TN Ts rfl (cz (ho pins s σ H _ I h) fun v s1 zz=>?_);obtain⟨x,H1,I1,r1,ty,q1⟩:=zz;obtain⟨h1,h2⟩:=JK I1 r1 ty;refine⟨T,id,pa,slot,hty,h1,h2,?_⟩;have hA:=ha cpos pins s1 σ H1 _ I1 q1;rw[hs]at hA ⊢;refine Q1 (by show (false || (OW cpos (N5 es X.env)).any (·.1))=false;rw[Tr]<;>rfl) (SV ?_)
 exact cz hA fun us s2 ⟨vs,H2,I2,r2,q2⟩=>hm pins s2 σ H2 x vs v us Q I2 r1 r2 q2
end
def NH(X:Cx)(id:String)(r:V->List V->Hp->VK->Prop):Prop:=
 ∀ (pins:List (NR×Obj)) (s:NP) (σ:St) (H:Hp) (x:V) (xs:List V) (v:NO) (us:List NO) (Q:VK),Inv X pins σ H s->aF x v->Vals xs us->r x xs H Q->
  NZ (N4 X.prog X.w) X.A (call (.builtin id) (v::us)) (EP X pins σ Q) X.xe s
theorem Vals.one:∀ {x:V} {us:List NO},Vals [x] us->∃ u,us=[u]/\aF x u
 | _,_,.cons r .nil=>⟨_,rfl,r⟩
theorem Vals.two:∀ {x y:V} {us:List NO},Vals [x,y] us->∃ u v,us=[u,v]/\aF x u/\aF y v
 | _,_,_,.cons r (.cons q .nil)=>⟨_,_,rfl,r,q⟩
theorem Vals.reverse{xs:List V}{us:List NO}(h:Vals xs us):Vals xs.reverse us.reverse:=by
 induction h with
 | nil=>exact .nil
 | cons r t ih=>rw[PR,PR];exact Vals.append ih (.cons r .nil)
section
variable{X:Cx}{pins:List (NR×Obj)}{σ:St}{H:Hp}{s:NP}{l b:NR}{xs ys zs:List V}
theorem Inv.lset{its its':List NO}{n:Nat}{f:Array NO->Array NO}{t':Nat}(I:Inv X pins σ H s)(hH:H l=some (.lst xs))
  (e:s.heap.get? l=some { cls:=.type "list",data:=.seq its.toArray n }) (hf:f its.toArray=its'.toArray) (hv:Vals ys its') (hz:ys.length<=NY):
  Inv X pins σ (bq H l (.lst ys)) { s with heap:=s.heap.update l (O2 f),toks:=t' }:=by
 have q:=PySem.IsL.update e f;rw[hf]at q;refine I.write (x:=l) (e:=l) (by rw[hH];exact trivial) (.inl rfl) (fun b' u hb hu=>(Py s.heap (O2 f) (Ne.symm hb)).trans hu) ⟨_,q⟩ ?_
 exact⟨hz,its',_,hv,q⟩
theorem Inv.lnew{its:List NO}{t':Nat}(I:Inv X pins σ H s)(hv:Vals ys its)(hz:ys.length<=NY):
  Inv X pins σ (bq H s.heap.objs.size (.lst ys)) { s with heap:=s.heap.push { cls:=.type "list",data:=.seq its.toArray },toks:=t' }:=
 I.laid (fun _ _ q=>NT _ q) (le_refl _) ⟨hz,its,0,hv,NW _ rfl⟩
theorem Inv.fresh(I:Inv X pins σ H s):H s.heap.objs.size=none:=I.hok.fresh (le_refl _)
theorem Inv.lstM(I:Inv X pins σ H s)(hH:H l=some (.lst xs)):xs.length<=NY/\∃ (its:List NO) (n:Nat),Vals xs its/\xs.length=its.length/\s.heap.get? l=some { cls:=.type "list",data:=.seq its.toArray n }:=by
 obtain⟨z,its,n,r,e⟩:=I.hok l _ hH;exact⟨z,its,n,r,r.length,e⟩
end
section
variable{X:Cx}
def rAppend:V->List V->Hp->VK->Prop:=fun x vs H Q=>∃ l xs y,x=.ref l/\vs=[y]/\H l=some (.lst xs)/\xs.length < NY/\Q .non (bq H l (.lst (xs ++ [y])))
theorem wP:NH X "list.append" rAppend:=by
 intro pins s σ H x vs v us Q I rx rv h;obtain⟨l,xs,y,rfl,rfl,hH,hz,q⟩:=h;cases rx;obtain⟨u,rfl,ru⟩:=rv.one;obtain⟨z,its,n,r,hl,e⟩:=I.lstM hH;refine S9 F.slot_list_append ⟨_,e,rfl⟩ F.entry_list_append (F.args_list_append_2 _ _) (PySem.list_append l its.toArray n u (by rw[N6];omega)) ⟨e,?_⟩
 refine⟨.non,_,I.lset (its':=its ++ [u]) hH e (by simp) (r.append (.cons ru .nil)) ?_,rfl,q⟩
 rw[On,PV];omega
end
end L2
namespace Att
open PySem PySem.W PySem.Calls PyProof.Rows
theorem sS{P:Params}{h:Of}:∀ (ns:List Int) (vs:List NO),WellAll P h vs (ns.map WData.int)->SD vs ns:=by
 intro ns
 induction ns with
 | nil=>
  intro vs w;rw[Qy]at w;cases w;exact .nil
 | cons n ns ih=>
  intro vs w;rw[Od]at w;cases w with
  | cons a b=>
   cases a;exact .cons _ _ (ih _ b)
theorem Dc{l:OpenLaw}{n:Nat}(hn:l.most=some n){P:Params}{h:Of}{args:List WData}{vals:List NO}
  (TR:l.row.toRowW.claim.pre args=true) (hwl:WellAll P h vals args):
  ∃ a vs ns,vals=[Value.ref a]/\args=[WData.list (ns.map WData.int)]/\h.get? a=some { cls:=.type "list",data:=.seq vs.toArray }/\SD vs ns/\ns.length<=n:=by
 have hsh:WShape.hasAll [] args [.list .int]=true:=(pre_splitW TR).1;have hc:l.pre.holds [] { args:=args }=true:=(pre_splitW TR).2;obtain⟨d,r,rfl,h1,h2⟩:=hasAllW_cons hsh;obtain rfl:=hasAllW_nil h2;obtain⟨xs,rfl,h3⟩:=hasW_list h1;obtain⟨ns,rfl⟩:=items_int h3;have hlen:ns.length<=n:=by
  unfold OpenLaw.pre at hc;have h4:(WTm.not (.lt (.lit (.int (n:Int))) (.len (.arg 0)))).holds [] { args:=[.list (ns.map .int)] }=true:=by
   have h4:=(holds_andW hc).1;rw[hn]at h4;exact h4
  have h5:=condW_of h4 (w_not (w_lt w_lit (w_len_list (w_arg rfl))));rw[NS]at h5;refine Nat.le_of_not_lt fun q=>?_;have q':(n:Int) < ((ns.length:Nat):Int):=by walk_at "o"
  first
   | (rw[decide_eq_true q']at h5;exact absurd h5 (by decide))
   | (simp at h5;omega)
 cases hwl with
 | cons w1 w2=>
  cases w2;cases w1 with
  | list ho hall=>exact⟨_,_,ns,rfl,rfl,ho,sS ns _ hall,hlen⟩
theorem Dk(l:OpenLaw)(args:List WData):l.row.toRowW.claim.post args (.bool true) args=true:=
 postW_of (r:=l.row.toRowW) (X:=(true == true))
  (show WShape.has [] (.bool true) .bool=true by first|rfl|decide|simp[WShape.has,WShape.arms,WShape.armsAll])
  (show (WTm.eq .res (.lit (.bool true))).value [] { args:=args,res:=some (.bool true),after:=args }=some (.bool (true == true))from w_eq_bool (w_res rfl) w_lit) rfl
theorem attach_call{l:OpenLaw}{n:Nat}{q:N_}{loose:List Str}{XP:(Str->Option NO)->Of->Prop}{YP:Og->Of->Prop}{d:DefRec}
  (hn:l.most=some n) (hdf:d.params.defaults=[])
  (call:∀ (w:Og) (s₀ s₁:NP) (mg mb:Str->Option NO) (fa:NR) (o:Obj) (pm cd doc:NO) (a:NR) (vs:List NO) (ns:List Int),
   Ground q loose [] XP w s₀ mg mb s₁.heap->YP w s₁.heap->
   s₁.heap.get? fa=some o->o.data=.func (docDef d.name d.params d.body d.scope pm cd doc)->s₁.heap.CodeRec cd d.name->mg d.name=some (.ref fa)->
   s₁.heap.get? a=some { cls:=.type "list",data:=.seq vs.toArray }->SD vs ns->ns.length<=n->s₁.gens=#[]->
   Qo (N4 l.prog w) Rl (.call (.ref fa) ⟨[.ref a],[]⟩) (fun r s'=>r=.ok (.ret (.bool true))/\OldK s₁.heap s'.heap/\s'.os=s₁.os/\QN s'.gens) s₁):
  WalkO q loose XP YP l.row.toRowW d [] (fun f vs=>PySem.call f vs):=by
 intro w s₀ s₁ mg mb G Y fa o pm cd doc dV kV ho hd hcd hD hmg hg args vals as TR hlay hrd hwl hlo;obtain rfl:dV=.none:=Dflts.none hD hdf;obtain rfl:kV=.none:=Dflts.noKw hD;obtain⟨a,vs,ns,rfl,rfl,Tu,hints,hlen⟩:=Dc hn TR hwl;refine enter_call (QZ (call w s₀ s₁ mg mb fa o pm cd doc a vs ns G Y ho (fd_plain hd) hcd hmg Tu hints hlen hg) fun r s' hq=>?_);obtain⟨rfl,h2,h3,h4⟩:=hq;exact⟨.inl ⟨.bool true,.bool true,[],rfl,fun _=>rfl,.bool true,Dk l _,fun _=>⟨List.Pairwise.nil,fun _ hm=>(nomatch hm)⟩⟩,h2,h3,h4⟩
end Att
namespace L2
open PySem PySem.Spec PyProof.Rows
theorem wu:∀ {vs:List NO} {ns:List Int},SD vs ns->Vals (ns.map V.int) vs
 | _,_,.nil=>.nil
 | _,_,.cons n t h=>.cons ⟨t,rfl⟩ (wu h)
def IT(H:Hp):Prop:=∀ b,H b=none\/∃ o xs,H b=some (.frz o (.lst xs))
theorem FT{P:N_}{w:Og}{K:Sf}{mg mb:Str->Option NO}{CX:Ej}{k:Nat}{fa a:NR}{fd:O4}{x:Str}{sp:Sp}{s₁:NP}{vs:List NO}{ns:List Int}
  (KX:K.In s₁.heap) (hns:s₁.heap.Ns Oa mg) (hb:s₁.heap.Ns S_ mb) (hbb:∀ x:Str,x≠"__name__"->mb x=Ph x) (Ui:s₁.heap.NoLimit) (hg:s₁.gens=#[])
  (ha:s₁.heap.get? a=some { cls:=.type "list",data:=.seq vs.toArray }) (hi:SD vs ns) (hl:ns.length<=NY) (hr:Room k Rl)
  (F:∀ base:Of,K.In base->base.Ns Oa mg->FnOk P w K mg base CX k fa fd [x] sp) (T7:∀ (s:NP) (u:NO),R0 s fd ⟨[u],[]⟩ [(x,u)])
  (hsp:∀ H:Hp,IT H->jw K H a (ns.map V.int)->sp [.ref a] H (fun v _=>v=.bl true) fun _ _ _=>False)
  (hCX:∀ H e s',CX [] H s₁ (fun _ _ _=>False) e s'->False):
  Qo (N4 P w) Rl (.call (.ref fa) ⟨[.ref a],[]⟩) (fun r s'=>r=.ok (.ret (.bool true))/\OldK s₁.heap s'.heap/\s'.os=s₁.os/\QN s'.gens) s₁:=by
 have rv:=wu hi;have Ud:=hi.length;have core:∀ H:Hp,IT H->jw K H a (ns.map V.int)->oB P w H s₁.heap->(∀ b,H b≠none->b=a)->(H a≠none->K.lookup a=none)->
   Qo (N4 P w) Rl (.call (.ref fa) ⟨[.ref a],[]⟩) (fun r s'=>r=.ok (.ret (.bool true))/\OldK s₁.heap s'.heap/\s'.os=s₁.os/\QN s'.gens) s₁:=by
  intro H hO hS hok hA hK;have TK:∀ {b:NR} {o:Obj},s₁.heap.get? b=some o->H b=none->(yB s₁.heap H).get? b=some o:=fun e n=>F2 e n;have noA:∀ {b:NR} {o:Obj} {es:Array DictEntry} {ep:Nat},s₁.heap.get? b=some o->o.data=.dict es ep->H b=none:=fun {b o es ep} e d=>by
   cases q:H b with
   | none=>rfl
   | some u=>
    have e':b=a:=hA b (by rw[q];simp)
    subst e';rw[ha]at e;cases e;have d':Data.seq vs.toArray _=Data.dict es ep:=d;cases d'
  have nsK:∀ {b:NR} {m:Str->Option NO},s₁.heap.Ns b m->(yB s₁.heap H).Ns b m:=fun {b m} ⟨o,es,ep,e,d,r⟩=>⟨o,es,ep,TK e (noA e d),d,r⟩;have hKb:K.In (yB s₁.heap H):=fun b o e=>TK (KX b o e) (by
   cases q:H b with
   | none=>rfl
   | some u=>
    have e':b=a:=hA b (by rw[q];simp)
    subst e';rw[hK (by rw[q];simp)]at e;cases e)
  have hM:Mod K mg (yB s₁.heap H):=⟨hKb,nsK hns,⟨mb,nsK hb,hbb⟩,let ⟨mc,h1,h2⟩:=Ui;⟨mc,nsK h1,h2⟩⟩;have e0:Env0 P w K mg (yB s₁.heap H) Rl [] s₁ H:=⟨rfl,hM,fun b o e=>H_ e,Nat.le_of_eq (DK _ _),trivial,fun b hb=>absurd (show b∈([]:List NR)from hb) (by simp),hok,.of_eq hg⟩
  refine QZ ((F _ hKb (nsK hns)).run Rl [] s₁ H ⟨[.ref a],[]⟩ [.ref a] [.ref a] _ _ hr e0 (T7 s₁ (.ref a)) (.cons rfl .nil) (hsp H hO hS)) fun r s' h=>?_;cases r with
  | error e=>exact (hCX H e s' h).elim
  | ok fl=>
   cases fl with
   | next=>exact False.elim h
   | brk=>exact False.elim h
   | cont=>exact False.elim h
   | ret u=>
    obtain⟨v,H',os,bare,un,hok',r',q⟩:=h;have q':v=.bl true:=q;subst q';obtain rfl:u=Value.bool true:=r';refine⟨rfl,OldK.of_keep fun b o e=>?_,os,bare⟩;cases q:H b with
    | none=>exact un.keep b o e q (by intro z;exact absurd (show b∈([]:List NR)from z) (by simp)) (by simp)
    | some u=>
     rcases hO b with z|⟨ob,xs,z⟩
     ·rw[q]at z;cases z
     ·have z2:=un.frzs b ob _ z;obtain⟨e1,_⟩:=hok b _ z;obtain⟨e2,_⟩:=hok' b _ z2;rw[e]at e1;cases e1;exact e2
 cases hk:K.lookup a with
 | some o=>
  have e:=KX a o hk;rw[ha]at e;cases e;refine core (fun _=>none) (fun _=>.inl rfl) (.inr ⟨_,vs.toArray,_,hk,rfl,rfl,rfl,by rw[N6,Ud];exact hl,by simpa using rv⟩) (fun b u z=>by have z':(none:Option HO)=some u:=z;cases z') (fun b z=>absurd rfl z) fun z=>absurd rfl z
 | none=>
  refine core (fun b=>if b=a then some (.frz { cls:=.type "list",data:=.seq vs.toArray } (.lst (ns.map V.int)))else none) (fun b=>?_) (.inl (.inr ⟨{ cls:=.type "list",data:=.seq vs.toArray },if_pos rfl⟩)) (fun b u z=>?_) (fun b z=>?_) fun _=>hk
  ·by_cases hb:b=a
   ·exact .inr ⟨_,_,if_pos hb⟩
   ·exact .inl (if_neg hb)
  ·by_cases hb:b=a
   ·have z':=(if_pos hb).symm.trans z;cases z';subst hb;exact⟨ha,by rw[NS];exact hl,vs,_,rv,ha⟩
   ·have z':=(if_neg hb).symm.trans z;cases z'
  ·by_cases hb:b=a
   ·exact hb
   ·exact absurd (if_neg hb) z
abbrev NL{K:Sf}{h:Of}(_:K.In h):Sf:=K
theorem walk_of{l:PySem.W.OpenLaw}{n k:Nat}{q:N_}{loose:List Str}{XP:(Str->Option NO)->Of->Prop}{YP:Og->Of->Prop}{d:DefRec}{K:Params->Sf}{CX:Og->Ej}{sp:Og->Sp}{x:Str}
  (hn:l.most=some n) (hn2:n<=NY) (hdf:d.params.defaults=[]) (hr:Room k Rl)
  (hY:∀ (w:Og) (h:Of),YP w h->(K w.params).In h)
  (F:∀ (w:Og) (mg:Str->Option NO) (fa:NR) (h:Of),(K w.params).In h->h.Ns Oa mg->mg d.name=some (.ref fa)->
   ∃ fd:O4,(∀ (s:NP) (u:NO),R0 s fd ⟨[u],[]⟩ [(x,u)])/\
    ∀ base:Of,(K w.params).In base->base.Ns Oa mg->FnOk l.prog w (K w.params) mg base (CX w) k fa fd [x] (sp w))
  (hsp:∀ (w:Og) (H:Hp) (a:NR) (ns:List Int),ns.length<=n->IT H->jw (K w.params) H a (ns.map V.int)->sp w [.ref a] H (fun v _=>v=.bl true) fun _ _ _=>False)
  (hCX:∀ (w:Og) (H:Hp) (s:NP) (e:NO) (s':NP),CX w [] H s (fun _ _ _=>False) e s'->False):
  PySem.W.WalkO q loose XP YP l.row.toRowW d [] (fun f vs=>PySem.call f vs):=by
 refine Att.attach_call hn hdf fun w s₀ s₁ mg mb fa o pm cd doc a vs ns G Y ho hd hcd hmg Tu hints hlen hg=>?_;have KX:=hY w _ Y;obtain⟨fd,hb,hF⟩:=F w mg fa _ KX G.T.g hmg;exact FT KX G.T.g G.T.b G.T.builtins G.T.nolimit hg Tu hints (le_trans hlen hn2) hr hF hb (fun H hO hS=>hsp w H a ns hlen hO hS) fun H e s'=>hCX w H s₁ e s'
def bc(s:Op)(j:Nat):Op:=match s with
 | .ClassDef _ _ _ body _ _ _ _ _ _ _=>body.getD j (.Pass ⟨0,0,0,0⟩)
 | _=>.Pass ⟨0,0,0,0⟩
def f_(s:Op):Arguments:=match s with
 | .FunctionDef _ a _ _ _ _ _ _ _ _=>a
 | _=>{ posonlyargs:=[],args:=[],vararg:=none,kwonlyargs:=[],kw_defaults:=[],kwarg:=none,defaults:=[] }
def fe(s:Op):List Op:=match s with
 | .FunctionDef _ _ b _ _ _ _ _ _ _=>b
 | _=>[]
def ai(s:Op):Qk:=match s with
 | .FunctionDef _ _ _ _ _ _ sc _ _ _=>sc
 | _=>{ kind:=.function,names:=[],isGenerator:=false,isCoroutine:=false }
abbrev vy:Ej:=fun _ _ _ _ _ _=>False
abbrev E0:XK:=fun _ _ _=>False
theorem wL{X:Cx}:oA vy X E0:=fun _ _ _ _ _ _ _ h=>h.elim
theorem iteF{A B:Prop}(h:B):if false=true then A else B:=by
 rw[if_neg Bool.false_ne_true];exact h
theorem iteT{A B:Prop}(h:A):if true=true then A else B:=by
 rw[if_pos rfl];exact h
def wj(H H':Hp):Prop:=∀ b o,H b=some o->H' b=some o
theorem wj.refl(H:Hp):wj H H:=fun _ _ h=>h
theorem wj.trans{H H1 H2:Hp}(a:wj H H1)(b:wj H1 H2):wj H H2:=fun c o h=>b c o (a c o h)
theorem wj.free{H H':Hp}(e:wj H H'){l:NR}(h:H' l=Option.none):H l=Option.none:=by
 cases q:H l with
 | none=>rfl
 | some o=>
  rw[e l o q]at h;cases h
theorem wj.seq{K:Sf}{H H':Hp}{a:NR}{xs:List V}(e:wj H H')(h:jw K H a xs):jw K H' a xs:=by
 rcases h with (h|⟨o,h⟩)|h
 ·exact .inl (.inl (e _ _ h))
 ·exact .inl (.inr ⟨o,e _ _ h⟩)
 ·exact .inr h
section
variable{κ:Type}[DecidableEq κ]
def mP(kvs:List (κ×V))(k:κ):Option V:=(kvs.find? fun kv=>decide (kv.1=k)).map (·.2)
def nX(kvs:List (κ×V))(k:κ)(v:V):List (κ×V):=
 if (kvs.any fun kv=>decide (kv.1=k))=true then kvs.map (fun kv=>if kv.1=k then (kv.1,v)else kv)else kvs ++ [(k,v)]
def Jx(kvs:List (κ×V))(k:κ):List (κ×V):=kvs.filter fun kv=>decide (kv.1≠k)
theorem oH{p:κ×V}{r:List (κ×V)}{k:κ}(e:p.1=k):mP (p::r) k=some p.2:=by simp[mP,Ow,e]
theorem oJ{p:κ×V}{r:List (κ×V)}{k:κ}(e:¬ p.1=k):mP (p::r) k=mP r k:=by simp[mP,Ow,e]
theorem tF(k:κ):∀ kvs:List (κ×V),(kvs.any fun kv=>decide (kv.1=k))=(mP kvs k).isSome
 | []=>rfl
 | p::r=>by
  rw[Ri]
  by_cases e:p.1=k
  ·simp only[oH e,decide_eq_true e,Bool.true_or,Option.isSome_some]
  ·rw[oJ e,decide_eq_false e,Bool.false_or];exact tF k r
theorem sf(kvs:List (κ×V))(k:κ)(v:V):(nX kvs k v).length<=kvs.length+1:=by
 unfold nX;split
 ·rw[NS];omega
 ·rw[On,Ob,OB];omega
theorem kY.isSome_eq{o:Option V}{u:Option NO}(r:kY o u):o.isSome=u.isSome:=by
 cases o with
 | none=>cases u with
  | none=>rfl
  | some _=>exact (show False from r).elim
 | some _=>cases u with
  | none=>exact (show False from r).elim
  | some _=>rfl
theorem kY.getD{o:Option V}{u:Option NO}{d:V}{d':NO}(r:kY o u)(rd:aF d d'):aF (o.getD d) (u.getD d'):=by
 cases o with
 | none=>cases u with
  | none=>exact rd
  | some _=>exact (show False from r).elim
 | some _=>cases u with
  | none=>exact (show False from r).elim
  | some _=>exact r
theorem KV.val{kvs:List (κ×V)}{vs:List (κ×NO)}(r:KV kvs vs)(k:κ):kY (mP kvs k) (Ry vs k):=by
 unfold KV at r
 induction r with
 | nil=>exact True.intro
 | @cons p q ps qs h t ih=>
  obtain⟨h1,h2⟩:=h
  by_cases e:p.1=k
  ·have e':q.1=k:=h1.symm.trans e;have b:Ry (q::qs) k=some q.2:=by simp[Ry,Ow,e']
   rw[oH e,b];exact h2
  ·have e':¬ q.1=k:=fun z=>e (h1.trans z);have b:Ry (q::qs) k=Ry qs k:=by simp[Ry,Ow,e']
   rw[oJ e,b];exact ih
theorem KV.any{kvs:List (κ×V)}{vs:List (κ×NO)}(r:KV kvs vs)(k:κ):(kvs.any fun kv=>decide (kv.1=k))=vs.any fun kv=>decide (kv.1=k):=by
 unfold KV at r
 induction r with
 | nil=>rfl
 | cons h t ih=>rw[Ri,Ri,ih,h.1]
theorem KV.repl{kvs:List (κ×V)}{vs:List (κ×NO)}(r:KV kvs vs)(k:κ){y:V}{u:NO}(ry:aF y u):
  KV (kvs.map fun kv=>if kv.1=k then (kv.1,y)else kv) (vs.map fun kv=>if kv.1=k then (kv.1,u)else kv):=by
 unfold KV at r ⊢
 induction r with
 | nil=>exact .nil
 | @cons p q ps qs h t ih=>
  rw[Od,Od];refine .cons ?_ ih;obtain⟨h1,h2⟩:=h
  by_cases e:p.1=k
  ·rw[if_pos e,if_pos (h1.symm.trans e)];exact⟨h1,ry⟩
  ·rw[if_neg e,if_neg (fun z=>e (h1.trans z))];exact⟨h1,h2⟩
theorem KV.put{kvs:List (κ×V)}{vs:List (κ×NO)}(r:KV kvs vs)(k:κ){y:V}{u:NO}(ry:aF y u):KV (nX kvs k y) (stored vs k u):=by
 unfold nX stored;rw[r.any k]
 by_cases e:(vs.any fun kv=>decide (kv.1=k))=true
 ·rw[if_pos e,if_pos e];exact r.repl k ry
 ·rw[if_neg e,if_neg e];exact RV r ⟨rfl,ry⟩
theorem KV.drop{kvs:List (κ×V)}{vs:List (κ×NO)}(r:KV kvs vs)(k:κ):KV (Jx kvs k) (without vs k):=by
 unfold KV at r ⊢;unfold Jx without
 induction r with
 | nil=>exact .nil
 | @cons p q ps qs h t ih=>
  obtain⟨h1,h2⟩:=h;rw[List.filter_cons,List.filter_cons]
  by_cases e:p.1=k
  ·have a:¬ decide (p.1≠k)=true:=by simp[e]
   have b:¬ decide (q.1≠k)=true:=by simp[h1.symm.trans e]
   rw[if_neg a,if_neg b];exact ih
  ·have e':¬ q.1=k:=fun z=>e (h1.trans z);have a:decide (p.1≠k)=true:=by simp[e]
   have b:decide (q.1≠k)=true:=by simp[e']
   rw[if_pos a,if_pos b];exact .cons ⟨h1,h2⟩ ih
theorem KV.keys{kvs:List (κ×V)}{vs:List (κ×NO)}(r:KV kvs vs):kvs.map (·.1)=vs.map (·.1):=by
 unfold KV at r
 induction r with
 | nil=>rfl
 | cons h t ih=>rw[Od,Od,ih,h.1]
theorem KV.length{kvs:List (κ×V)}{vs:List (κ×NO)}(r:KV kvs vs):kvs.length=vs.length:=P6 r
end
theorem wT{P:N_}{w:Og}{k:aD}{u:NO}(r:aF (kV k) u):(bj P w).is k u=true:=by
 cases k with
 | inl i=>obtain⟨t,e⟩:=(show ∃ t,u=Value.int i t from r);subst e;exact zQ P w i t
 | inr x=>obtain⟨t,e⟩:=(show ∃ t,u=Value.str x t from r);subst e;exact zP P w x t
theorem rh{P:N_}{w:Og}:∀ {ks:List aD} {us:List NO},Vals (ks.map kV) us->ItemsAre (bj P w) ks us
 | [],_,r=>by rw[Qy]at r;cases r;exact .nil
 | k::ks,_,r=>by
  rw[Od]at r;cases r with
  | cons h t=>exact .cons (wT h) (rh t)
abbrev KT(H:Hp):List (List aD×V)->List (List aD×NR×NO)->Prop:=QR fun p q=>p.1=q.1/\H q.2.1=some (.tup (p.1.map kV))/\aF p.2 q.2.2
theorem KT.val{H:Hp}{kvs:List (List aD×V)}{xs:List (List aD×NR×NO)}(r:KT H kvs xs)(k:List aD):kY (mP kvs k) ((Qr xs k).map (·.2)):=by
 induction r with
 | nil=>exact True.intro
 | @cons p q ps qs h t ih=>
  obtain⟨h1,_,h2⟩:=h
  by_cases e:p.1=k
  ·have e':q.1=k:=h1.symm.trans e;have b:Qr (q::qs) k=some q.2:=by simp[Qr,Ow,e']
   rw[oH e,b];exact h2
  ·have e':¬ q.1=k:=fun z=>e (h1.trans z);have b:Qr (q::qs) k=Qr qs k:=by simp[Qr,Ow,e']
   rw[oJ e,b];exact ih
theorem KT.repl{H:Hp}{kvs:List (List aD×V)}{xs:List (List aD×NR×NO)}(r:KT H kvs xs)(k:List aD){y:V}{u:NO}(ry:aF y u):
  KT H (kvs.map fun kv=>if kv.1=k then (kv.1,y)else kv) (xs.map (putAt k u)):=by
 induction r with
 | nil=>exact .nil
 | @cons p q ps qs h t ih=>
  rw[Od,Od];refine .cons ?_ ih;obtain⟨h1,h2,h3⟩:=h;unfold putAt
  by_cases e:p.1=k
  ·rw[if_pos e,if_pos (h1.symm.trans e)];exact⟨h1,h2,ry⟩
  ·rw[if_neg e,if_neg (fun z=>e (h1.trans z))];exact⟨h1,h2,h3⟩
theorem KT.put{H:Hp}{kvs:List (List aD×V)}{xs:List (List aD×NR×NO)}(r:KT H kvs xs)(k:List aD){b:NR}{y:V}{u:NO}(hb:H b=some (.tup (k.map kV)))(ry:aF y u):
  KT H (nX kvs k y) (Rj xs k b u):=by
 have e:(kvs.any fun kv=>decide (kv.1=k))=(Qr xs k).isSome:=by
  rw[tF,(r.val k).isSome_eq,Option.isSome_map]
 unfold nX Rj;rw[e]
 by_cases q:(Qr xs k).isSome=true
 ·rw[if_pos q,if_pos q];exact r.repl k ry
 ·rw[if_neg q,if_neg q];exact RV r ⟨rfl,hb,ry⟩
theorem KT.keeps{H H':Hp}{kvs:List (List aD×V)}{xs:List (List aD×NR×NO)}(r:KT H kvs xs)(ht:∀ b ys,H b=some (.tup ys)->H' b=some (.tup ys)):KT H' kvs xs:=
 Paired.mapP r fun _ _ z=>⟨z.1,ht _ _ z.2.1,z.2.2⟩
section
variable{P:N_}{w:Og}{H:Hp}{h:Of}{a:NR}
theorem Jh{u:HO}(ok:oB P w H h)(e:Rd H a u):cf P w H h a u:=e.ok ok
theorem wX{kvs:List (aD×V)}(ok:oB P w H h)(e:Rd H a (.dK kvs)):kvs.length<=NY/\(a == OK)=false/\∃ vs,KV kvs vs/\h.DictOf (bj P w) a vs:=
 show cf P w H h a (.dK kvs)from Jh ok e
theorem Mm{kvs:List (aD×V)}(ok:oB P w H h)(e:H a=some (.dK kvs)):kvs.length<=NY/\(a == OK)=false/\∃ vs,KV kvs vs/\h.DictOf (bj P w) a vs:=wX ok (.inl e)
theorem q_{ks:List aD}(ok:oB P w H h)(e:H a=some (.tup (ks.map kV))):(OY (bj P w)).is h ks a:=by
 obtain⟨_,its,r,o,h1,h2,n,h3⟩:=(show cf P w H h a (.tup (ks.map kV))from ok a _ e)
 exact⟨o,its.toArray,n,h1,h2.1,h3,by simpa using rh r⟩
theorem wV{kvs:List (List aD×V)}(ok:oB P w H h)(e:Rd H a (.dT kvs)):kvs.length<=NY/\(a == OK)=false/\
  ∃ xs,KT H kvs xs/\h.DictOfH (OY (bj P w)) a xs:=by
 obtain⟨z,y,xs,r,o,es,ep,h1,h2,h3,h4,h5⟩:=(show cf P w H h a (.dT kvs)from Jh ok e)
 refine⟨z,y,xs,r,o,es,ep,h1,h2,h3,h4,fun x hx=>?_,h5⟩;have all:∀ {l:List (List aD×V)} {m:List (List aD×NR×NO)},KT H l m->∀ x∈m,(OY (bj P w)).is h x.1 x.2.1:=by
  intro l m q
  induction q with
  | nil=>intro x hx;exact nomatch hx
  | @cons p q ps qs hq t ih=>
   intro x hx;rcases Oz.mp hx with e|hx
   ·subst e;exact q_ ok (by rw[<- hq.1];exact hq.2.1)
   ·exact ih x hx
 exact all r x hx
theorem Ml{kvs:List (List aD×V)}(ok:oB P w H h)(e:H a=some (.dT kvs)):kvs.length<=NY/\(a == OK)=false/\
  ∃ xs,KT H kvs xs/\h.DictOfH (OY (bj P w)) a xs:=wV ok (.inl e)
end
def vq(H:Hp)(a:NR)(y:V)(r:Option V):Prop:=
 (∃ kvs k,Rd H a (.dK kvs)/\y=kV k/\r=mP kvs k)\/∃ kvs k b,Rd H a (.dT kvs)/\y=.ref b/\H b=some (.tup (k.map kV))/\r=mP kvs k
def Ee(H:Hp)(a:NR)(y v:V)(H':Hp):Prop:=
 (∃ kvs k,H a=some (.dK kvs)/\y=kV k/\kvs.length < NY/\H'=bq H a (.dK (nX kvs k v)))\/
 ∃ kvs k b,H a=some (.dT kvs)/\y=.ref b/\H b=some (.tup (k.map kV))/\kvs.length < NY/\H'=bq H a (.dT (nX kvs k v))
theorem vq.k{H:Hp}{a:NR}{kvs:List (aD×V)}{k:aD}(e:H a=some (.dK kvs)):vq H a (kV k) (mP kvs k):=.inl ⟨kvs,k,.inl e,rfl,rfl⟩
theorem vq.t{H:Hp}{a b:NR}{kvs:List (List aD×V)}{k:List aD}(e:H a=some (.dT kvs))(eb:H b=some (.tup (k.map kV))):vq H a (.ref b) (mP kvs k):=.inr ⟨kvs,k,b,.inl e,rfl,eb,rfl⟩
theorem Ee.k{H:Hp}{a:NR}{kvs:List (aD×V)}{k:aD}{v:V}(e:H a=some (.dK kvs))(hl:kvs.length < NY):Ee H a (kV k) v (bq H a (.dK (nX kvs k v))):=.inl ⟨kvs,k,e,rfl,hl,rfl⟩
theorem Ee.t{H:Hp}{a b:NR}{kvs:List (List aD×V)}{k:List aD}{v:V}(e:H a=some (.dT kvs))(eb:H b=some (.tup (k.map kV)))(hl:kvs.length < NY):
  Ee H a (.ref b) v (bq H a (.dT (nX kvs k v))):=.inr ⟨kvs,k,b,e,rfl,eb,hl,rfl⟩
section
variable{X:Cx}{pins:List (NR×Obj)}{σ:St}{H:Hp}{s:NP}{a:NR}{y v:V}{u r:NO}{o:Option V}{A:Oc}{E:NO->NP->Prop}
theorem Inv.big(I:Inv X pins σ H s):OK < s.heap.objs.size:=by
 have h:Oa < s.heap.objs.size:=(I.mod.glob.keeps I.bk).lt;exact Nat.lt_trans (by decide) h
theorem DV{Q:NO->NP->Prop}(hu:A.units+1 < OL)(I:Inv X pins σ H s)(g:vq H a y (some v))(ry:aF y u)(h:∀ w' s',Inv X pins σ H s'->aF v w'->Q w' s'):
  NZ (N4 X.prog X.w) A (QX (.ref a) u) Q E s:=by
 rcases g with ⟨kvs,k,e,ey,l⟩|⟨kvs,k,b,e,ey,eb,l⟩
 ·subst ey;obtain⟨z,hd,vs,rel,dd⟩:=wX I.hok e;obtain⟨w',hw,rw'⟩:=kY.some_of (v:=v) (o:=Ry vs k) (by rw[l];exact rel.val k)
  exact wpAny_getItem_of (wT ry) dd.mapOf hw (h w' _ (I.tok _) rw')
 ·subst ey;cases (show u=Value.ref b from ry)
  obtain⟨z,hd,xs,rel,dd⟩:=wV I.hok e;obtain⟨w',hw,rw'⟩:=kY.some_of (v:=v) (o:=(Qr xs k).map (·.2)) (by rw[l];exact rel.val k)
  obtain⟨p,hp,hp2⟩:=Option.map_eq_some_iff.mp hw;refine SZ (OJ hu) (q_ I.hok eb) dd hp ?_;rw[hp2];exact h w' _ (I.tok _) rw'
theorem Nb{Q:NO->NP->Prop}(hu:A.units+1 < OL)(I:Inv X pins σ H s)(g:vq H a y o)(ry:aF y u)(h:∀ s',Inv X pins σ H s'->Q (.bool o.isSome) s'):
  NZ (N4 X.prog X.w) A (Oy .In u (.ref a)) Q E s:=by
 rcases g with ⟨kvs,k,e,ey,l⟩|⟨kvs,k,b,e,ey,eb,l⟩
 ·subst ey;obtain⟨z,hd,vs,rel,dd⟩:=wX I.hok e;refine wpAny_in_of (wT ry) hd dd.mapOf ?_;rw[<- (rel.val k).isSome_eq,<- l];exact h _ (I.tok _)
 ·subst ey;cases (show u=Value.ref b from ry)
  obtain⟨z,hd,xs,rel,dd⟩:=wV I.hok e;refine wpAny_in_heap (OJ hu) (q_ I.hok eb) hd dd ?_;have q:=(rel.val k).isSome_eq;rw[Option.isSome_map]at q;rw[<- q,<- l];exact h _ (I.tok _)
theorem IC{Q:NO->NP->Prop}(hu:A.units+1 < OL)(I:Inv X pins σ H s)(g:vq H a y o)(ry:aF y u)(h:∀ s',Inv X pins σ H s'->Q (.bool (!o.isSome)) s'):
  NZ (N4 X.prog X.w) A (Oy .NotIn u (.ref a)) Q E s:=by
 rcases g with ⟨kvs,k,e,ey,l⟩|⟨kvs,k,b,e,ey,eb,l⟩
 ·subst ey;obtain⟨z,hd,vs,rel,dd⟩:=wX I.hok e;refine wpAny_notIn_of (wT ry) hd dd.mapOf ?_;rw[<- (rel.val k).isSome_eq,<- l];exact h _ (I.tok _)
 ·subst ey;cases (show u=Value.ref b from ry)
  obtain⟨z,hd,xs,rel,dd⟩:=wV I.hok e;refine wpAny_notIn_heap (OJ hu) (q_ I.hok eb) hd dd ?_;have q:=(rel.val k).isSome_eq;rw[Option.isSome_map]at q;rw[<- q,<- l];exact h _ (I.tok _)
theorem tx{h':Of}{t':Nat}{ob:HO}(I:Inv X pins σ H s)(mu:GN (H a))(hs:Pz a s.heap h')(he:∃ q,h'.get? a=some q)(new:cf X.prog X.w (bq H a ob) h' a ob):
  Inv X pins σ (bq H a ob) { s with heap:=h',toks:=t' }:=
 I.write (x:=a) (e:=a) mu (.inl rfl) (fun b q hb z=>(hs.2 b hb).trans z) he new
theorem KW{P:N_}{w:Og}{H':Hp}{h':Of}{kvs:List (aD×V)}{vs:List (aD×NO)}(z:kvs.length<=NY)(hd:(a == OK)=false)(rel:KV kvs vs)(dd:h'.DictOf (bj P w) a vs):
  cf P w H' h' a (.dK kvs):=⟨z,hd,vs,rel,dd⟩
theorem DU{H':Hp}{Q:Unit->NP->Prop}(hu:A.units+1 < OL)(I:Inv X pins σ H s)(g:Ee H a y v H')(ry:aF y u)(rv:aF v r)(h:∀ s',Inv X pins σ H' s'->Q () s'):
  NZ (N4 X.prog X.w) A (Th (.ref a) u r) Q E s:=by
 rcases g with ⟨kvs,k,e,ey,l,eH⟩|⟨kvs,k,b,e,ey,eb,l,eH⟩
 ·subst ey eH;obtain⟨z,hd,vs,rel,dd⟩:=Mm I.hok e;have hz:vs.length<=NY:=by rw[<- rel.length];exact z
  have hl:(nX kvs k v).length<=NY:=by have:=sf kvs k v;omega
  refine wpAny_setItem_pairs (hsz:=hz) (wT ry) dd fun h' dd' hs=>h _ ?_;have he:∃ q,h'.get? a=some q:=let ⟨q,_,_,hq,_⟩:=dd';⟨q,hq⟩;exact tx I (by rw[e];exact True.intro) hs he (KW hl hd (rel.put k rv) dd')
 ·subst ey eH;cases (show u=Value.ref b from ry)
  obtain⟨z,hd,xs,rel,dd⟩:=Ml I.hok e;have hz:xs.length<=NY:=by rw[<- P6 rel];exact z
  have hl:(nX kvs k v).length<=NY:=by have:=sf kvs k v;omega
  refine SY (hsz:=hz) (OJ hu) (q_ I.hok eb) dd fun h' dd' hs=>h _ ?_;obtain⟨q,es,ep,hq,h2,h3,h4,_,h5⟩:=dd';refine tx I (by rw[e];exact True.intro) hs ⟨q,hq⟩ ⟨hl,hd,_,(rel.put k eb rv).keeps fun c ys ec=>?_,q,es,ep,hq,h2,h3,h4,h5⟩
  rw[aA (L9 ec e (fun z=>nomatch z))];exact ec
end
def Mu(i:Oj):Prop:=∀ ov iv,RP i false ov iv=operate [ov,iv] (QX ov iv)
theorem Hf{prog:N_}{w:Og}{A:Oc}{E:NO->NP->Prop}{s:NP}{env:Env}{value slice:Oj}{pos:Pos}{T id:String}{Q:NO->NP->Prop}
  (hl:QD (.type T) "__getitem__"=pure (some (.builtin id))) (hs:Mu slice)
  (h:NZ (N4 prog w) A (eval value env) (fun o s₁=>NZ (N4 prog w) A (eval slice env) (fun i s₂=>s₂.TypeIs o T/\NZ (N4 prog w) A (QX o i) Q E s₂) E s₁) E s):
  NZ (N4 prog w) A (eval (.Subscript value slice pos) env) Q E s:=by
 refine R9 (ON h (fun o s₁ h₁=>ON h₁ (fun i s₂ h₂=>?_) fun _ _ x=>x) fun _ _ x=>x);obtain⟨hT,h₂⟩:=h₂;unfold Rr;refine NN ?_;rw[getitemInPython_of_ne hT.not_modules];refine NN (RX hT hl ?_);have fin:NZ (N4 prog w) A (RP slice false o i) (fun r s₃=>NZ (N4 prog w) A (letTemporaryGo value o r >>= fun _=>pure r) Q E s₃) E s₂:=by
  rw[hs o i];exact wpAny_operating (ON h₂ (fun r s₃ h₃=>NN (wpAny_letTemporaryGo (NQ h₃))) fun _ _ x=>x)
 first
  | exact NQ (NN fin)
  | exact NN (NQ (NN fin))
  | exact NN fin
theorem Gd{P:N_}{w:Og}{H:Hp}(h:Of)(hb:OK < h.objs.size):cf P w H (h.push { cls:=.type "dict",data:=.dict #[] }) h.objs.size (.dK []):=
 ⟨OD _,beq_eq_false_iff_ne.mpr (Ne.symm (Oq hb)),[],.nil,Heap.DictOf.new h⟩
def JP:TE:=fun _ H Q=>∀ p,H p=none->Q (.ref p) (bq H p (.dK []))
section
variable{X:Cx}{pos:Pos}
theorem Ft:PE X (.Dict [] [] pos) JP:=fun pins s σ H Q I h=>
 wpAny_Dict_empty ⟨.ref s.heap.objs.size,_,I.laid (a:=s.heap.objs.size) (o:=.dK []) (t':=s.toks) (fun _ _ q=>NT _ q) (le_refl _) (Gd s.heap I.big),rfl,h _ (I.hok.fresh (le_refl _))⟩
end
structure M2(X:Cx)(o:Oj)(m:Str)(apos:Pos)(e f:Oj)(cpos:Pos):Prop where
 base:Pk o m X.env (eval o X.env)=eval o X.env
 few:((OW cpos (N5 [e,f] X.env)).all (fun x=>!x.1) && (Qq cpos (Ps [] X.env)).all (fun x=>x.1.isSome)
  && decide (([e,f]:List Oj).length+([]:List Rn).length+(if ([]:List Rn).isEmpty then 0 else 1) < 30))=true
 line:(apos.endLine == cpos.line)=true
 trees:OW cpos (N5 [e,f] X.env)=[(false,eval e X.env),(false,eval f X.env)]
def NJ(H:Hp)(a:NR):Prop:=(∃ kvs,Rd H a (.dK kvs))\/∃ kvs,Rd H a (.dT kvs)
theorem KP{X:Cx}{pins:List (NR×Obj)}{σ:St}{H:Hp}{s:NP}{a:NR}(I:Inv X pins σ H s)(d:NJ H a):
  s.TypeIs (.ref a) "dict"/\(∀ b,Value.ref a=.ref b->∃ ob,s.heap.get? b=some ob/\ob.dict=none)/\(a == OK)=false:=by
 rcases d with ⟨kvs,e⟩|⟨kvs,e⟩
 ·obtain⟨_,hd,vs,_,dd⟩:=wX I.hok e;refine⟨dd.typeIs,fun b q=>?_,hd⟩;cases q;obtain⟨ob,_,_,h1,h2,_⟩:=dd;exact⟨ob,h1,h2.2.1⟩
 ·obtain⟨_,hd,xs,_,dd⟩:=wV I.hok e;refine⟨dd.typeIs,fun b q=>?_,hd⟩;cases q;obtain⟨ob,_,_,h1,h2,_⟩:=dd;exact⟨ob,h1,h2.2.1⟩
section
variable{X:Cx}{pins:List (NR×Obj)}{σ:St}{H:Hp}{s:NP}{a:NR}{y d:V}{u r:NO}{o:Option V}{A:Oc}{E:NO->NP->Prop}
theorem KY{Q:NO->NP->Prop}(hu:A.units+1 < OL)(I:Inv X pins σ H s)(g:vq H a y o)(ry:aF y u)(rd:aF d r)(h:∀ w' s',Inv X pins σ H s'->aF (o.getD d) w'->Q w' s'):
  NZ (N4 X.prog X.w) A (call (.builtin "dict.get") [.ref a,u,r]) Q E s:=by
 rcases g with ⟨kvs,k,e,ey,l⟩|⟨kvs,k,b,e,ey,eb,l⟩
 ·subst ey;obtain⟨z,hd,vs,rel,dd⟩:=wX I.hok e;refine RF PySem.F.slot_dict_get dd.typeIs PySem.F.entry_dict_get (PySem.F.args_dict_get_3 _ _ _) (meets_dict_get_default (bj X.prog X.w) a (wT ry) hd r) ⟨_,dd.mapOf,h _ _ (I.tok _) ?_⟩;rw[l];exact (rel.val k).getD rd
 ·subst ey;cases (show u=Value.ref b from ry)
  obtain⟨z,hd,xs,rel,dd⟩:=wV I.hok e;refine RF PySem.F.slot_dict_get dd.typeIs PySem.F.entry_dict_get (PySem.F.args_dict_get_3 _ _ _) (Sm (OY (bj X.prog X.w)) a b hd r) ⟨OJ hu,k,xs,q_ I.hok eb,dd,h _ _ (I.tok _) ?_⟩;rw[l];exact (rel.val k).getD rd
end
end L2
namespace L3
open PySem PySem.Spec PyProof.Rows L2
abbrev St:=L2.St
inductive D where
 | non|bl (b:Bool)|int (i:Int)|str (x:Str)|tup (ds:List D)|lst (ds:List D)|fl (ds:List D)|ref (a:NR)|ty (n:String)
inductive GO where
 | lst (ds:List D)
 | ins (C:NR) (L:List Str) (ds:List D)
 | dK (kvs:List (aD×D))
 | dT (hw:List aD->Int) (kvs:List (List aD×D))
 | dF (ob:Obj) (hw:List aD->Int) (xs:List (List aD×NR×NO)) (kvs:List (List aD×D))
 | fx (ob:Obj)
abbrev Gp:=NR->Option GO
def gset(G:Gp)(a:NR)(o:GO):Gp:=fun b=>if b=a then some o else G b
def fF(G:Gp)(a:NR):Gp:=fun b=>if b=a then none else G b
theorem aw{G:Gp}{a:NR}{o:GO}:gset G a o a=some o:=by unfold gset;rw[if_pos rfl]
theorem am{G:Gp}{a b:NR}{o:GO}(h:b≠a):gset G a o b=G b:=by unfold gset;rw[if_neg h]
theorem dy{G:Gp}{a:NR}{o u:GO}:gset (gset G a o) a u=gset G a u:=by
 funext b;unfold gset;split<;>rfl
theorem dz{G:Gp}{a:NR}:fF G a a=none:=by unfold fF;rw[if_pos rfl]
theorem dP{G:Gp}{a b:NR}(h:b≠a):fF G a b=G b:=by unfold fF;rw[if_neg h]
def GP(K:Sf)(H:Hp)(a:NR)(xs:List V):Prop:=
 (∃ o,H a=some (.frz o (.lst xs)))\/
  ∃ (o:Obj) (its:Array NO) (n:Nat),K.lookup a=some o/\o.cls=.type "list"/\o.dict=none/\o.data=.seq its n/\its.size<=NY/\Vals xs its.toList
theorem GP.sq{K:Sf}{H:Hp}{a:NR}{xs:List V}(h:GP K H a xs):jw K H a xs:=by
 rcases h with ⟨o,e⟩|h
 ·exact .inl (.inr ⟨o,e⟩)
 ·exact .inr h
mutual
def RD(K:Sf)(H:Hp):D->V->Prop
 | .non,v=>v=.non
 | .bl b,v=>v=.bl b
 | .int i,v=>v=.int i
 | .str x,v=>v=.str x
 | .ref a,v=>v=.ref a
 | .ty n,v=>v=.ty n
 | .fl _,_=>False
 | .tup ds,v=>∃ a xs,v=.ref a/\kL K H a xs/\RDs K H ds xs
 | .lst ds,v=>∃ a xs,v=.ref a/\GP K H a xs/\RDs K H ds xs
def RDs(K:Sf)(H:Hp):List D->List V->Prop
 | [],xs=>xs=[]
 | d::ds,xs=>∃ x r,xs=x::r/\RD K H d x/\RDs K H ds r
end
structure Stb(K:Sf)(H H':Hp):Prop where
 t:∀ a xs,kL K H a xs->kL K H' a xs
 l:∀ a xs,GP K H a xs->GP K H' a xs
mutual
theorem RD.mono{K:Sf}{H H':Hp}(s:Stb K H H'):∀ (d:D) (v:V),RD K H d v->RD K H' d v
 | .non,v,h=>by simp only[RD]at h ⊢;exact h
 | .bl b,v,h=>by simp only[RD]at h ⊢;exact h
 | .int i,v,h=>by simp only[RD]at h ⊢;exact h
 | .str x,v,h=>by simp only[RD]at h ⊢;exact h
 | .ref a,v,h=>by simp only[RD]at h ⊢;exact h
 | .ty n,v,h=>by simp only[RD]at h ⊢;exact h
 | .fl _,v,h=>by simp only[RD]at h
 | .tup ds,v,h=>by
  simp only[RD]at h ⊢;obtain⟨a,xs,e,q,r⟩:=h;exact⟨a,xs,e,s.t _ _ q,RDs.mono s ds xs r⟩
 | .lst ds,v,h=>by
  simp only[RD]at h ⊢;obtain⟨a,xs,e,q,r⟩:=h;exact⟨a,xs,e,s.l _ _ q,RDs.mono s ds xs r⟩
theorem RDs.mono{K:Sf}{H H':Hp}(s:Stb K H H'):∀ (ds:List D) (xs:List V),RDs K H ds xs->RDs K H' ds xs
 | [],xs,h=>by simp only[RDs]at h ⊢;exact h
 | d::ds,xs,h=>by
  simp only[RDs]at h ⊢;obtain⟨x,r,e,h1,h2⟩:=h;exact⟨x,r,e,RD.mono s d x h1,RDs.mono s ds r h2⟩
end
section
variable{K:Sf}{H:Hp}
theorem RDs.nil:RDs K H [] []:=by simp only[RDs]
theorem RDs.cons{d:D}{x:V}{ds:List D}{xs:List V}(h:RD K H d x)(t:RDs K H ds xs):RDs K H (d::ds) (x::xs):=by
 simp only[RDs];exact⟨x,xs,rfl,h,t⟩
theorem RDs.inv_nil{xs:List V}(h:RDs K H [] xs):xs=[]:=by simpa only[RDs]using h
theorem RDs.inv_cons{d:D}{ds:List D}{xs:List V}(h:RDs K H (d::ds) xs):∃ x r,xs=x::r/\RD K H d x/\RDs K H ds r:=by simpa only[RDs]using h
theorem RDs.length:∀ {ds:List D} {xs:List V},RDs K H ds xs->ds.length=xs.length
 | [],xs,h=>by rw[h.inv_nil];rfl
 | d::ds,xs,h=>by
  obtain⟨x,r,e,_,h2⟩:=h.inv_cons;subst e;simp[RDs.length h2]
theorem RDs.get:∀ {ds:List D} {xs:List V} {i:Nat} {d:D},RDs K H ds xs->ds[i]?=some d->∃ x,xs[i]?=some x/\RD K H d x
 | [],xs,i,d,h,e=>by simp at e
 | c::ds,xs,0,d,h,e=>by
  obtain⟨x,r,e1,h1,h2⟩:=h.inv_cons;subst e1;simp at e;subst e;exact⟨x,rfl,h1⟩
 | c::ds,xs,i+1,d,h,e=>by
  obtain⟨x,r,e1,h1,h2⟩:=h.inv_cons;subst e1;obtain⟨y,q1,q2⟩:=RDs.get (i:=i) (d:=d) h2 (by simpa using e)
  exact⟨y,by simpa using q1,q2⟩
theorem RDs.append:∀ {ds es:List D} {xs ys:List V},RDs K H ds xs->RDs K H es ys->RDs K H (ds ++ es) (xs ++ ys)
 | [],es,xs,ys,h,h'=>by rw[h.inv_nil];exact h'
 | d::ds,es,xs,ys,h,h'=>by
  obtain⟨x,r,e,h1,h2⟩:=h.inv_cons;subst e;exact RDs.cons h1 (RDs.append h2 h')
theorem RDs.take:∀ {ds:List D} {xs:List V} (n:Nat),RDs K H ds xs->RDs K H (ds.take n) (xs.take n)
 | _,_,0,_=>by simp only[List.take_zero];exact RDs.nil
 | [],xs,n+1,h=>by rw[h.inv_nil];simp only[List.take_nil];exact RDs.nil
 | d::ds,xs,n+1,h=>by
  obtain⟨x,r,e,h1,h2⟩:=h.inv_cons;subst e;exact RDs.cons h1 (RDs.take n h2)
theorem RDs.drop:∀ {ds:List D} {xs:List V} (n:Nat),RDs K H ds xs->RDs K H (ds.drop n) (xs.drop n)
 | _,_,0,h=>by simpa only[QC]using h
 | [],xs,n+1,h=>by rw[h.inv_nil];simp only[List.drop_nil];exact RDs.nil
 | d::ds,xs,n+1,h=>by
  obtain⟨x,r,e,h1,h2⟩:=h.inv_cons;subst e;exact RDs.drop n h2
theorem RDs.set:∀ {ds:List D} {xs:List V} {d:D} {x:V} (n:Nat),RDs K H ds xs->RD K H d x->RDs K H (ds.set n d) (xs.set n x)
 | [],xs,d,x,n,h,_=>by rw[h.inv_nil];simp only[List.set_nil];exact RDs.nil
 | c::ds,xs,d,x,0,h,h'=>by
  obtain⟨y,r,e,h1,h2⟩:=h.inv_cons;subst e;exact RDs.cons h' h2
 | c::ds,xs,d,x,n+1,h,h'=>by
  obtain⟨y,r,e,h1,h2⟩:=h.inv_cons;subst e;exact RDs.cons h1 (RDs.set n h2 h')
theorem RDs.reverse:∀ {ds:List D} {xs:List V},RDs K H ds xs->RDs K H ds.reverse xs.reverse
 | [],xs,h=>by rw[h.inv_nil];exact RDs.nil
 | d::ds,xs,h=>by
  obtain⟨x,r,e,h1,h2⟩:=h.inv_cons;subst e;rw[PR,PR];exact RDs.append (RDs.reverse h2) (RDs.cons h1 RDs.nil)
theorem RDs.ints:∀ ns:List Int,RDs K H (ns.map D.int) (ns.map V.int)
 | []=>RDs.nil
 | n::r=>RDs.cons (by simp only[RD]) (RDs.ints r)
theorem RDs.strs:∀ ns:List Str,RDs K H (ns.map D.str) (ns.map V.str)
 | []=>RDs.nil
 | n::r=>RDs.cons (by simp only[RD]) (RDs.strs r)
theorem RDs.strs_inv:∀ (ns:List Str) {xs:List V},RDs K H (ns.map D.str) xs->xs=ns.map V.str
 | [],xs,h=>h.inv_nil
 | n::r,xs,h=>by
  obtain⟨x,t,e,h1,h2⟩:=RDs.inv_cons (d:=.str n) (ds:=r.map D.str) h;simp only[RD]at h1;subst e h1;rw[RDs.strs_inv r h2];rfl
end
def yX(hw:List aD->Int)(a:NR)(xs:List (List aD×NR×NO)):Of->Prop:=fun h=>(a == OK)=false/\∃ o es ep,h.get? a=some o/\o.ExactDict/\o.data=.dict es ep/\es.toList=xs.map fun x=>(⟨hw x.1,.ref x.2.1,x.2.2⟩:DictEntry)
def Nr(ob:Obj)(hw:List aD->Int)(a:NR)(xs:List (List aD×NR×NO)):Of->Prop:=fun h=>h.get? a=some ob/\yX hw a xs h
def qo(K:Sf)(H:Hp):List (List aD×D)->List (List aD×NR×NO)->Prop:=QR fun p q=>p.1=q.1/\kL K H q.2.1 (p.1.map kV)/\∃ v,RD K H p.2 v/\aF v q.2.2
def AC(K:Sf)(H:Hp):List (aD×D)->List (aD×V)->Prop:=QR fun p q=>p.1=q.1/\RD K H p.2 q.2
def RO(K:Sf)(H:Hp)(a:NR):GO->HO->Prop
 | .lst ds,.lst xs=>RDs K H ds xs
 | .ins C L ds,.ins C' _ gs=>C'=C/\gs.map (·.1)=L/\RDs K H ds (gs.map (·.2))
 | .dK kvs,.dK hs=>AC K H kvs hs
 | .dT hw kvs,.ext φ=>∃ xs,φ=yX hw a xs/\qo K H kvs xs/\(kvs.map (·.1)).Nodup/\kvs.length<=NY
 | .dF ob hw xs kvs,.ext φ=>φ=Nr ob hw a xs/\qo K H kvs xs/\(kvs.map (·.1)).Nodup/\kvs.length<=NY
 | .fx ob,.ext φ=>φ=fun h=>h.get? a=some ob
 | _,_=>False
def RG(K:Sf)(H:Hp)(G:Gp):Prop:=∀ a o,G a=some o->∃ h,H a=some h/\RO K H a o h
def Kp(G:Gp)(H:Hp)(G':Gp)(H':Hp):Prop:=∀ a h,H a=some h->G a=none->H' a=some h/\G' a=none
def Li(G:Gp)(H:Hp)(p:NR):Prop:=∀ h,H p=some h->G p≠none
section
variable{K:Sf}{H H' H1 H2:Hp}{G G' G1 G2:Gp}{p:NR}
theorem qo.mono(s:Stb K H H'){kvs:List (List aD×D)}{xs:List (List aD×NR×NO)}(r:qo K H kvs xs):qo K H' kvs xs:=Paired.mapP r fun _ _ zz=>by
 obtain⟨a,b,v,c,d⟩:=zz;exact (
  ⟨a,s.t _ _ b,v,RD.mono s _ _ c,d⟩)
theorem AC.mono(s:Stb K H H'){kvs:List (aD×D)}{xs:List (aD×V)}(r:AC K H kvs xs):AC K H' kvs xs:=Paired.mapP r fun _ _ zz=>by
 obtain⟨a,b⟩:=zz;exact (
  ⟨a,RD.mono s _ _ b⟩)
theorem RO.mono(s:Stb K H H'){a:NR}{o:GO}{h:HO}(r:RO K H a o h):RO K H' a o h:=by
 cases o<;>cases h<;>first
  | exact r.elim
  | exact RDs.mono s _ _ r
  | exact⟨r.1,r.2.1,RDs.mono s _ _ r.2.2⟩
  | exact AC.mono s r
  | (obtain⟨xs,e,q,n⟩:=r;exact⟨xs,e,q.mono s,n⟩)
  | exact⟨r.1,r.2.1.mono s,r.2.2⟩
  | exact r
theorem RG.none_of(rg:RG K H G){a:NR}{h:HO}(e:H a=some h)(n:∀ o,¬ RO K H a o h):G a=none:=by
 cases q:G a with
 | none=>rfl
 | some o=>
  obtain⟨h',e',r⟩:=rg a o q;rw[e]at e';cases e';exact absurd r (n o)
theorem RG.free(rg:RG K H G)(e:H p=none):G p=none:=by
 cases q:G p with
 | none=>rfl
 | some o=>
  obtain⟨h',e',r⟩:=rg p o q;rw[e]at e';cases e'
theorem Ku{a:NR}(o:GO)(xs:List V):¬ RO K H a o (.tup xs):=by cases o<;>exact id
theorem FC{a:NR}(o:GO)(ob:Obj)(u:HO):¬ RO K H a o (.frz ob u):=by cases o<;>exact id
theorem Kp.refl:Kp G H G H:=fun _ _ e n=>⟨e,n⟩
theorem Kp.trans(a:Kp G H G1 H1)(b:Kp G1 H1 G2 H2):Kp G H G2 H2:=fun x h e n=>b x h (a x h e n).1 (a x h e n).2
theorem Kp.stb(k:Kp G H G' H')(rg:RG K H G):Stb K H H' where
 t:=fun a xs q=>by
  rcases q with (q|⟨o,q⟩)|q
  ·exact .inl (.inl (k a _ q (rg.none_of q fun o=>Ku o xs)).1)
  ·exact .inl (.inr ⟨o,(k a _ q (rg.none_of q fun o'=>FC o' o _)).1⟩)
  ·exact .inr q
 l:=fun a xs q=>by
  rcases q with ⟨o,q⟩|q
  ·exact .inl ⟨o,(k a _ q (rg.none_of q fun o'=>FC o' o _)).1⟩
  ·exact .inr q
theorem Kp.fr(k:Kp G H G1 H1)(f:Li G1 H1 p):Li G H p:=fun h e n=>f h (k p h e n).1 (k p h e n).2
theorem mJ(e:H p=none):Li G H p:=fun h q=>by rw[e]at q;cases q
theorem Kp.laid{o:HO}(e:H p=none):Kp G H G (bq H p o):=fun a h q n=>⟨by rw[aA (b_ q e)];exact q,n⟩
theorem RG.laid{o:HO}(rg:RG K H G)(e:H p=none):RG K (bq H p o) G:=fun a o' q=>by
 obtain⟨h,e1,r⟩:=rg a o' q;exact⟨h,by rw[aA (b_ e1 e)];exact e1,r.mono ((Kp.laid (G:=G) e).stb rg)⟩
end
abbrev ff:=List (Option D)
def D_(K:Sf)(H:Hp):Option D->Option V->Prop
 | some d,some v=>RD K H d v
 | none,_=>True
 | some _,none=>False
def RS(K:Sf)(H:Hp)(σ:ff)(τ:St):Prop:=QR (D_ K H) σ τ
section
variable{K:Sf}{H H':Hp}
theorem D_.mono(s:Stb K H H'):∀ {a:Option D} {b:Option V},D_ K H a b->D_ K H' a b
 | some d,some v,r=>RD.mono s d v r
 | none,_,_=>trivial
 | some _,none,r=>r.elim
theorem RS.mono(s:Stb K H H'){σ:ff}{τ:St}(r:RS K H σ τ):RS K H' σ τ:=Paired.mapP r fun _ _ q=>q.mono s
theorem RS.get:∀ {σ:ff} {τ:St} {i:Nat} {d:D},RS K H σ τ->σ[i]?=some (some d)->∃ v,τ[i]?=some (some v)/\RD K H d v
 | _,_,_,_,.nil,e=>by simp at e
 | _,_,0,d,.cons (b:=b) r _,e=>by
  simp at e;subst e;cases b with
  | none=>exact r.elim
  | some v=>exact⟨v,rfl,r⟩
 | _,_,i+1,d,.cons _ t,e=>by
  obtain⟨v,h1,h2⟩:=RS.get (i:=i) (d:=d) t (by simpa using e)
  exact⟨v,by simpa using h1,h2⟩
theorem RS.set{d:D}{v:V}(r:RD K H d v):∀ {σ:ff} {τ:St} (i:Nat),RS K H σ τ->RS K H (σ.set i (some d)) (τ.set i (some v))
 | _,_,_,.nil=>.nil
 | _,_,0,.cons _ t=>.cons (show D_ K H (some d) (some v)from r) t
 | _,_,i+1,.cons q t=>.cons q (RS.set r i t)
theorem RS.length{σ:ff}{τ:St}(r:RS K H σ τ):σ.length=τ.length:=P6 r
end
def RE(K:Sf)(G:Gp)(H:Hp)(G':Gp)(H':Hp)(d:D)(v:V):Prop:=
 (∃ ds p xs,d=.fl ds/\v=.ref p/\H' p=some (.lst xs)/\G' p=none/\RDs K H' ds xs/\Li G H p)\/RD K H' d v
section
variable{K:Sf}{H H' H1 H2:Hp}{G G' G1 G2:Gp}{d:D}{v:V}
theorem RE.of(r:RD K H' d v):RE K G H G' H' d v:=.inr r
theorem RE.wait(r:RE K G H G1 H1 d v)(k:Kp G1 H1 G2 H2)(rg:RG K H1 G1):RE K G H G2 H2 d v:=by
 rcases r with ⟨ds,p,xs,e1,e2,e3,e4,e5,e6⟩|r
 ·exact .inl ⟨ds,p,xs,e1,e2,(k p _ e3 e4).1,(k p _ e3 e4).2,RDs.mono (k.stb rg) _ _ e5,e6⟩
 ·exact .inr (RD.mono (k.stb rg) _ _ r)
theorem RE.base(r:RE K G1 H1 G2 H2 d v)(k:Kp G H G1 H1):RE K G H G2 H2 d v:=by
 rcases r with ⟨ds,p,xs,e1,e2,e3,e4,e5,e6⟩|r
 ·exact .inl ⟨ds,p,xs,e1,e2,e3,e4,e5,k.fr e6⟩
 ·exact .inr r
theorem RE.rd(r:RE K G H G' H' d v)(h:∀ ds,d≠.fl ds):RD K H' d v:=by
 rcases r with ⟨ds,p,xs,e1,_⟩|r
 ·exact absurd e1 (h ds)
 ·exact r
theorem RE.int{i:Int}(r:RE K G H G' H' (.int i) v):v=.int i:=by
 have:=r.rd (by intro ds h;cases h);simpa only[RD]using this
theorem RE.str{i:Str}(r:RE K G H G' H' (.str i) v):v=.str i:=by
 have:=r.rd (by intro ds h;cases h);simpa only[RD]using this
theorem RE.bl{i:Bool}(r:RE K G H G' H' (.bl i) v):v=.bl i:=by
 have:=r.rd (by intro ds h;cases h);simpa only[RD]using this
theorem RE.non(r:RE K G H G' H' .non v):v=.non:=by
 have:=r.rd (by intro ds h;cases h);simpa only[RD]using this
theorem RE.ref{a:NR}(r:RE K G H G' H' (.ref a) v):v=.ref a:=by
 have:=r.rd (by intro ds h;cases h);simpa only[RD]using this
theorem RE.tup{ds:List D}(r:RE K G H G' H' (.tup ds) v):∃ a xs,v=.ref a/\kL K H' a xs/\RDs K H' ds xs:=by
 have:=r.rd (by intro ds h;cases h);simpa only[RD]using this
theorem RE.lst{ds:List D}(r:RE K G H G' H' (.lst ds) v):∃ a xs,v=.ref a/\GP K H' a xs/\RDs K H' ds xs:=by
 have:=r.rd (by intro ds h;cases h);simpa only[RD]using this
theorem RE.fl{ds:List D}(r:RE K G H G' H' (.fl ds) v):∃ p xs,v=.ref p/\H' p=some (.lst xs)/\G' p=none/\RDs K H' ds xs/\Li G H p:=by
 rcases r with ⟨ds',p,xs,e1,e2,e3,e4,e5,e6⟩|r
 ·cases e1;exact⟨p,xs,e2,e3,e4,e5,e6⟩
 ·simp only[RD]at r
theorem eE{i:Int}:RD K H (.int i) (.int i):=by simp only[RD]
theorem iT{i:Str}:RD K H (.str i) (.str i):=by simp only[RD]
theorem im{i:Bool}:RD K H (.bl i) (.bl i):=by simp only[RD]
theorem Bg:RD K H .non .non:=by simp only[RD]
theorem gM{a:NR}:RD K H (.ref a) (.ref a):=by simp only[RD]
theorem qJ{ds:List D}{xs:List V}{a:NR}(h:kL K H a xs)(r:RDs K H ds xs):RD K H (.tup ds) (.ref a):=by
 simp only[RD];exact⟨a,xs,rfl,h,r⟩
theorem qK{ds:List D}{xs:List V}{a:NR}(h:GP K H a xs)(r:RDs K H ds xs):RD K H (.lst ds) (.ref a):=by
 simp only[RD];exact⟨a,xs,rfl,h,r⟩
end
def wg(G:Gp):D->Option (List D)
 | .lst ds=>some ds
 | .fl ds=>some ds
 | .ref a=>match G a with
  | some (.lst ds)=>some ds
  | _=>none
 | _=>none
def Eh(G:Gp):D->Option (List D)
 | .tup ds=>some ds
 | d=>wg G d
section
variable{K:Sf}{H H':Hp}{G G':Gp}{d:D}{v:V}{ds:List D}
theorem mh(h:wg G' d=some ds)(r:RE K G H G' H' d v)(rg:RG K H' G'):∃ a xs,v=.ref a/\jw K H' a xs/\RDs K H' ds xs:=by
 cases d with
 | lst es=>
  obtain⟨a,xs,e,f,q⟩:=r.lst;simp only[wg,Option.some.injEq]at h;subst h;exact⟨a,xs,e,f.sq,q⟩
 | fl es=>
  obtain⟨a,xs,e,f,_,q,_⟩:=r.fl;simp only[wg,Option.some.injEq]at h;subst h;exact⟨a,xs,e,jw.of f,q⟩
 | ref a=>
  have e:=r.ref;simp only[wg]at h;cases q:G' a with
  | none=>rw[q]at h;cases h
  | some o=>
   rw[q]at h;cases o with
   | lst es=>
    simp only[Option.some.injEq]at h;subst h;obtain⟨ho,e1,e2⟩:=rg a _ q;cases ho with
    | lst xs=>exact⟨a,xs,e,jw.of e1,e2⟩
    | _=>exact e2.elim
   | _=>cases h
 | _=>simp[wg]at h
theorem vg(h:Eh G' d=some ds)(r:RE K G H G' H' d v)(rg:RG K H' G'):∃ a xs,v=.ref a/\(jw K H' a xs\/kL K H' a xs)/\RDs K H' ds xs:=by
 cases d with
 | tup es=>
  obtain⟨a,xs,e,f,q⟩:=r.tup;simp only[Eh,Option.some.injEq]at h;subst h;exact⟨a,xs,e,.inr f,q⟩
 | _=>
  obtain⟨a,xs,e,f,q⟩:=mh (by simpa only[Eh]using h) r rg
  exact⟨a,xs,e,.inl f,q⟩
theorem yE{xs:List V}{p:NR}(rg:RG K H G)(e:H p=none)(r:RDs K H ds xs):RE K G H G (bq H p (.lst xs)) (.fl ds) (.ref p):=
 .inl ⟨ds,p,xs,rfl,rfl,aN,rg.free e,RDs.mono ((Kp.laid (G:=G) e).stb rg) _ _ r,mJ e⟩
theorem mv{xs:List V}{p:NR}(rg:RG K H G)(e:H p=none)(r:RDs K H ds xs):RD K (bq H p (.tup xs)) (.tup ds) (.ref p):=
 qJ (kL.of aN) (RDs.mono ((Kp.laid (G:=G) e).stb rg) _ _ r)
end
end L3
namespace L2
open PySem PySem.Spec PyProof.Rows
section
variable{X:Cx}
theorem PE.imp{e:Oj}{t t':TE}(h:PE X e t)(i:∀ σ H Q,t' σ H Q->t σ H Q):PE X e t':=fun pins s σ H Q I q=>h pins s σ H Q I (i σ H Q q)
theorem PT.imp{e:Oj}{t t':TT}(h:PT X e t)(i:∀ σ H Q,t' σ H Q->t σ H Q):PT X e t':=fun pins s σ H Q I q=>h pins s σ H Q I (i σ H Q q)
theorem PW.imp{e:Oj}{t t':TT}(h:PW X e t)(i:∀ σ H Q,t' σ H Q->t σ H Q):PW X e t':=fun wh pins s σ H Q I q=>h wh pins s σ H Q I (i σ H Q q)
theorem PA.imp{es:List Oj}{t t':TA}(h:PA X es t)(i:∀ σ H Q,t' σ H Q->t σ H Q):PA X es t':=fun pos pins s σ H Q I q=>h pos pins s σ H Q I (i σ H Q q)
theorem PS.imp{e:Op}{t t':TS}(h:PS X e t)(i:∀ D σ H,t' D σ H->t D σ H):PS X e t':=fun pins s σ H D I q=>h pins s σ H D I (i D σ H q)
theorem rE.imp{e:List Op}{t t':TS}(h:rE X e t)(i:∀ D σ H,t' D σ H->t D σ H):rE X e t':=fun pins s σ H D I q=>h pins s σ H D I (i D σ H q)
theorem ig.imp{f:NO->NO->Sem NO}{r r':R2}(h:ig X f r)(i:∀ x y H Q,r' x y H Q->r x y H Q):ig X f r':=fun pins s σ H x y v u Q I rx ry q=>h pins s σ H x y v u Q I rx ry (i x y H Q q)
theorem eV.imp{f:NO}{r r':List V->Hp->VK->Prop}(h:eV X f r)(i:∀ xs H Q,r' xs H Q->r xs H Q):eV X f r':=fun pins s σ H xs us Q I r q=>h pins s σ H xs us Q I r (i xs H Q q)
theorem D9.imp{r r':V->Option Int->Option Int->Hp->VK->Prop}(h:D9 X r)(i:∀ x lo hi H Q,r' x lo hi H Q->r x lo hi H Q):D9 X r':=fun pins s σ H x v vl vu lo hi sl Q I rx hs pl pu q=>h pins s σ H x v vl vu lo hi sl Q I rx hs pl pu (i x lo hi H Q q)
theorem Ea.imp{r r':R2}(h:Ea X r)(i:∀ x y H Q,r' x y H Q->r x y H Q):Ea X r':=fun value slice pins s σ H x y v u Q I rx ry q hs=>h value slice pins s σ H x y v u Q I rx ry (i x y H Q q) hs
theorem Inv.freeze{pins:List (NR×Obj)}{σ:St}{H:Hp}{s:NP}{p:NR}{xs:List V}(I:Inv X pins σ H s)(e:H p=some (.lst xs)):∃ o,Inv X pins σ (bq H p (.frz o (.lst xs))) s:=by
 obtain⟨its,n,rv,ho,hz⟩:=I.lst e;have stay:∀ b,H b=none->(bq H p (.frz { cls:=.type "list",data:=.seq its.toArray n } (.lst xs))) b=none:=fun b hb=>by
  rw[aA (fun z=>by subst z;rw[hb]at e;cases e)];exact hb
 refine⟨{ cls:=.type "list",data:=.seq its.toArray n },⟨I.ok,I.os,I.bare,⟨I.base.keep,I.base.slot,fun b o h1 h2 h3=>stay b (I.base.free b o h1 h2 h3),I.base.there,fun b ys q=>?_,fun b o u q=>?_,fun b ps q=>?_⟩,I.loc,I.cell,stay _ I.free,fun x c hc=>stay c (I.freeC x c hc),fun q hq=>?_,fun b u q=>?_,I.len⟩⟩
 ·have q':=I.base.tups b ys q;rw[aA (fun z=>by subst z;rw[e]at q';cases q')];exact q'
 ·have q':=I.base.frzs b o u q;rw[aA (fun z=>by subst z;rw[e]at q';cases q')];exact q'
 ·obtain⟨more,q'⟩:=I.base.tbls b ps q;exact⟨more,by rw[aA (fun z=>by subst z;rw[e]at q';cases q')];exact q'⟩
 ·obtain⟨h1,h2,h3⟩:=I.pin q hq;exact⟨h1,stay _ h2,h3⟩
 ·by_cases hb:b=p
  ·subst hb;rw[aN]at q;cases q;exact⟨ho,hz,its,n,rv,ho⟩
  ·rw[aA hb]at q;refine (I.hok b u q).stay (fun _ _ _ z=>z) (fun c z=>?_) fun c ys z=>?_
   ·rw[aA (fun y=>by subst y;rw[e]at z;cases z)];exact z
   ·rw[aA (fun y=>by subst y;rw[e]at z;cases z)];exact z
def gh(t:TE):TE:=fun σ H Q=>t σ H fun v H1=>Q v H1\/∃ p xs,v=.ref p/\H1 p=some (.lst xs)/\∀ o,Q v (bq H1 p (.frz o (.lst xs)))
theorem LX{e:Oj}{t:TE}(h:PE X e t):PE X e (gh t):=fun pins s σ H Q I q=>
 cz (h pins s σ H _ I q) fun u s' zz=>by
  obtain⟨v,H',I',r,q'⟩:=zz;rcases q' with q'|⟨p,xs,rfl,e,q'⟩
  ·exact⟨v,H',I',r,q'⟩
  ·obtain⟨o,I2⟩:=I'.freeze e;exact⟨.ref p,_,I2,r,q' o⟩
end
end L2
namespace L3
open PySem PySem.Spec PyProof.Rows L2
abbrev m5:=D->Gp->Prop
abbrev bG:=ff->Gp->m5->Prop
abbrev qt:=ff->Gp->(Bool->Gp->Prop)->Prop
abbrev nH:=ff->Gp->(List D->Gp->Prop)->Prop
structure Ends3 where
 nx:ff->Gp->Prop
 rt:m5
 bk:ff->Gp->Prop:=fun _ _=>False
 ct:ff->Gp->Prop:=fun _ _=>False
abbrev ck:=Ends3->ff->Gp->Prop
def vm(K:Sf)(G:Gp)(H:Hp)(Q3:m5)(Q:VK):Prop:=∀ d G' v H',Q3 d G'->Kp G H G' H'->RG K H' G'->RE K G H G' H' d v->Q v H'
def aB(K:Sf)(t:bG):TE:=fun τ H Q=>∃ σ G Q3,RS K H σ τ/\RG K H G/\t σ G Q3/\vm K G H Q3 Q
def cU(K:Sf)(t:qt):TT:=fun τ H Q=>∃ σ G Q3,RS K H σ τ/\RG K H G/\t σ G Q3/\∀ b G' H',Q3 b G'->Kp G H G' H'->RG K H' G'->Q b H'
def eK(K:Sf)(t:nH):TA:=fun τ H Q=>∃ σ G Q3,RS K H σ τ/\RG K H G/\t σ G Q3/\∀ ds G' vs H',Q3 ds G'->Kp G H G' H'->RG K H' G'->RDs K H' ds vs->Q vs H'
structure EndsOk(K:Sf)(G:Gp)(H:Hp)(D3:Ends3)(D:Ends):Prop where
 nx:∀ σ G' τ H',D3.nx σ G'->Kp G H G' H'->RG K H' G'->RS K H' σ τ->D.nx τ H'
 rt:vm K G H D3.rt D.rt
 bk:∀ σ G' τ H',D3.bk σ G'->Kp G H G' H'->RG K H' G'->RS K H' σ τ->D.bk τ H'
 ct:∀ σ G' τ H',D3.ct σ G'->Kp G H G' H'->RG K H' G'->RS K H' σ τ->D.ct τ H'
def cB(K:Sf)(t:ck):TS:=fun D τ H=>∃ σ G D3,RS K H σ τ/\RG K H G/\t D3 σ G/\EndsOk K G H D3 D
theorem vm.base{K:Sf}{G G1:Gp}{H H1:Hp}{Q3:m5}{Q:VK}(f:vm K G H Q3 Q)(k:Kp G H G1 H1):vm K G1 H1 Q3 Q:=
 fun d G' v H' q k' rg re=>f d G' v H' q (k.trans k') rg (re.base k)
theorem EndsOk.base{K:Sf}{G G1:Gp}{H H1:Hp}{D3:Ends3}{D:Ends}(f:EndsOk K G H D3 D)(k:Kp G H G1 H1):EndsOk K G1 H1 D3 D:=
 ⟨fun σ G' τ H' q k'=>f.nx σ G' τ H' q (k.trans k'),f.rt.base k,fun σ G' τ H' q k'=>f.bk σ G' τ H' q (k.trans k'),fun σ G' τ H' q k'=>f.ct σ G' τ H' q (k.trans k')⟩
def val:D->D
 | .fl ds=>.lst ds
 | d=>d
def wR(K:Sf)(t:bG):TE:=fun τ H Q=>∃ σ G Q3,RS K H σ τ/\RG K H G/\t σ G Q3/\∀ d G' v H',Q3 d G'->Kp G H G' H'->RG K H' G'->RD K H' (val d) v->Q v H'
section
variable{X:Cx}{e:Oj}{t:bG}
theorem F5{K:Sf}{G G':Gp}{H H':Hp}{p:NR}{o:HO}(k:Kp G H G' H')(f:Li G H p):Kp G H G' (bq H' p o):=fun a h e n=>by
 have:a≠p:=fun z=>by subst z;exact f h e n
 exact⟨by rw[aA this];exact (k a h e n).1,(k a h e n).2⟩
theorem BJ{K:Sf}{G':Gp}{H':Hp}{p:NR}{xs:List V}{o:Obj}(rg:RG K H' G')(e:H' p=some (.lst xs))(n:G' p=none):RG K (bq H' p (.frz o (.lst xs))) G'/\Stb K H' (bq H' p (.frz o (.lst xs))):=by
 have st:Stb K H' (bq H' p (.frz o (.lst xs))):=by
  constructor
  ·intro a ys q;rcases q with (q|⟨ob,q⟩)|q
   ·exact .inl (.inl (by rw[aA (fun z=>by subst z;rw[e]at q;cases q)];exact q))
   ·exact .inl (.inr ⟨ob,by rw[aA (fun z=>by subst z;rw[e]at q;cases q)];exact q⟩)
   ·exact .inr q
  ·intro a ys q;rcases q with ⟨ob,q⟩|q
   ·exact .inl ⟨ob,by rw[aA (fun z=>by subst z;rw[e]at q;cases q)];exact q⟩
   ·exact .inr q
 refine⟨fun a o' q=>?_,st⟩;obtain⟨h,e1,r⟩:=rg a o' q;exact⟨h,by rw[aA (fun z=>by subst z;rw[n]at q;cases q)];exact e1,r.mono st⟩
theorem d4(h:PE X e (aB X.K t)):PE X e (wR X.K t):=(LX h).imp fun τ H Q zz=>by
 obtain⟨σ,G,Q3,rs,rg,ht,hk⟩:=zz;refine⟨σ,G,Q3,rs,rg,ht,fun d G' v H' q k rg' re=>?_⟩;cases d with
 | fl ds=>
  obtain⟨p,xs,rfl,e1,e2,e3,e4⟩:=re.fl;refine .inr ⟨p,xs,rfl,e1,fun o=>?_⟩;obtain⟨rg2,st⟩:=BJ (o:=o) rg' e1 e2;exact hk _ G' _ _ q (F5 (K:=X.K) k e4) rg2 (qK (.inl ⟨o,aN⟩) (RDs.mono st _ _ e3))
 | _=>exact .inl (hk _ G' v H' q k rg' (re.rd (by intro ds z;cases z)))
end
def cy:ck:=fun D σ G=>D.nx σ G
def sSeq(t u:ck):ck:=fun D σ G=>t { D with nx:=u D } σ G
section
variable{X:Cx}{st:Op}{dZ:List Op}{t u:ck}{e:Oj}{te:bG}{pos:Pos}
theorem cX:rE X [] (cB X.K cy):=HA.imp fun D τ H zz=>by
 obtain⟨σ,G,D3,rs,rg,h,k⟩:=zz;exact (
  k.nx σ G τ H h Kp.refl rg rs)
theorem aj(h1:PS X st (cB X.K t))(h2:rE X dZ (cB X.K u)):rE X (st::dZ) (cB X.K (sSeq t u)):=(Fe h1 h2).imp fun D τ H zz=>by
 obtain⟨σ,G,D3,rs,rg,h,k⟩:=zz;exact (
   ⟨σ,G,{ D3 with nx:=u D3 },rs,rg,h,⟨fun σ' G' τ' H' q k' rg' rs'=>⟨σ',G',D3,rs',rg',q,k.base k'⟩,k.rt,k.bk,k.ct⟩⟩)
theorem av(h1:PS X st (cB X.K t)):rE X [st] (cB X.K t):=Hz h1
def dE(te:bG):ck:=fun D σ G=>te σ G fun _ G'=>D.nx σ G'
theorem dM(he:PE X e (aB X.K te))(hs:PQ e none pos.line X.env=pure false:=by rfl):PS X (.Expr e pos) (cB X.K (dE te)):=(HB he hs).imp fun D τ H zz=>by
 obtain⟨σ,G,D3,rs,rg,h,k⟩:=zz;exact (
   ⟨σ,G,fun _ G'=>D3.nx σ G',rs,rg,h,fun d G' v H' q k' rg' _=>k.nx σ G' τ H' q k' rg' (rs.mono (k'.stb rg))⟩)
def bh(te:bG):ck:=fun D σ G=>te σ G D.rt
theorem aJ(he:PE X e (aB X.K te)):PS X (.Return (some e) pos) (cB X.K (bh te)):=(Fh he).imp fun D τ H zz=>by
 obtain⟨σ,G,D3,rs,rg,h,k⟩:=zz;exact (
  ⟨σ,G,D3.rt,rs,rg,h,k.rt⟩)
def EK:ck:=fun D _ G=>D.rt .non G
def Ba:ck:=fun D σ G=>D.bk σ G
def EL:ck:=fun D σ G=>D.ct σ G
def jH(c:qt)(t u:ck):ck:=fun D σ G=>c σ G fun b G'=>if b=true then t D σ G' else u D σ G'
theorem eX{c:Oj}{a b:List Op}{tc:qt}(hc:PT X c (cU X.K tc))(ha:rE X a (cB X.K t))(hb:rE X b (cB X.K u)):PS X (.If c a b pos) (cB X.K (jH tc t u)):=
 (LL hc ha hb).imp fun D τ H zz=>by
 obtain⟨σ,G,D3,rs,rg,h,k⟩:=zz;exact (
  ⟨σ,G,_,rs,rg,h,fun b G' H' q k' rg'=>by
    cases b with
    | true=>exact⟨σ,G',D3,rs.mono (k'.stb rg),rg',q,k.base k'⟩
    | false=>exact⟨σ,G',D3,rs.mono (k'.stb rg),rg',q,k.base k'⟩⟩)
def jG:ck:=fun _ _ _=>False
theorem pN:PS X st (cB X.K jG):=Fi.imp fun D τ H zz=>by
 obtain⟨σ,G,D3,rs,rg,h,k⟩:=zz;exact (
  h)
def bn(i:Nat)(te:bG):ck:=fun D σ G=>te σ G fun d G'=>D.nx (σ.set i (some (val d))) G'
theorem aM{i:Nat}{x:Str}{pos':Pos}(hN:X.N.Nodup)(hi:X.N[i]?=some x)(hx:Lh X.env.scope x)(he:PE X e (aB X.K te))(hs:PQ e (some (.Name x pos')) pos.line X.env=pure false:=by rfl)
  (hf:X.fn x=true\/X.env.scope.names.lookup x=some .local:=by first|exact .inl rfl|exact .inr rfl|assumption):PS X (.Assign [.Name x pos'] e pos) (cB X.K (bn i te)):=
 (Fg hN hi hx (d4 he) hs hf).imp fun D τ H zz=>by
 obtain⟨σ,G,D3,rs,rg,h,k⟩:=zz;exact (
  ⟨σ,G,_,rs,rg,h,fun d G' v H' q k' rg' rd=>k.nx _ G' _ H' q k' rg' ((rs.mono (k'.stb rg)).set rd i)⟩)
def zm(i:Nat)(te:bG):ck:=fun D σ G=>te σ G fun d G'=>∃ ds,d=.fl ds/\∀ p,G' p=none->D.nx (σ.set i (some (.ref p))) (gset G' p (.lst ds))
theorem Fw{K:Sf}{G:Gp}{H:Hp}{p:NR}{xs:List V}{ds:List D}(rg:RG K H G)(e:H p=some (.lst xs))(r:RDs K H ds xs):RG K H (gset G p (.lst ds)):=fun a o q=>by
 by_cases ha:a=p
 ·subst ha;rw[aw]at q;cases q;exact⟨_,e,r⟩
 ·rw[am ha]at q;exact rg a o q
theorem Fx{G G':Gp}{H H':Hp}{p:NR}{o:GO}(k:Kp G H G' H')(f:Li G H p):Kp G H (gset G' p o) H':=fun a h e n=>by
 have:a≠p:=fun z=>by subst z;exact f h e n
 exact⟨(k a h e n).1,by rw[am this];exact (k a h e n).2⟩
theorem Cm{i:Nat}{x:Str}{pos':Pos}(hN:X.N.Nodup)(hi:X.N[i]?=some x)(hx:Lh X.env.scope x)(he:PE X e (aB X.K te))(hs:PQ e (some (.Name x pos')) pos.line X.env=pure false:=by rfl)
  (hf:X.fn x=true\/X.env.scope.names.lookup x=some .local:=by first|exact .inl rfl|exact .inr rfl|assumption):PS X (.Assign [.Name x pos'] e pos) (cB X.K (zm i te)):=
 (Fg hN hi hx he hs hf).imp fun D τ H zz=>by
 obtain⟨σ,G,D3,rs,rg,h,k⟩:=zz;exact (
  ⟨σ,G,_,rs,rg,h,fun d G' v H' q k' rg' re=>by
    obtain⟨ds,rfl,q⟩:=q;obtain⟨p,xs,rfl,e1,e2,e3,e4⟩:=re.fl;exact k.nx _ _ _ H' (q p e2) (Fx k' e4) (Fw rg' e1 e3) ((rs.mono (k'.stb rg)).set gM i)⟩)
def e_(i:Nat):ck:=fun D σ G=>match σ[i]? with
 | some (some (.ref p))=>match G p with
  | some (.lst ds)=>D.rt (.fl ds) (fF G p)
  | _=>False
 | _=>False
theorem ug{i:Nat}{x:Str}{pos':Pos}(hN:X.N[i]?=some x)(hv:Mq X.env.scope x)(hd:(x == ("__debug__":Str))=false:=by decide)(hcd:(x == ("__classdict__":Str))=false:=by decide):
  PS X (.Return (some (.Name x pos')) pos) (cB X.K (e_ i)):=(Fh (Fn hN hv hd hcd)).imp fun D τ H zz=>by
 obtain⟨σ,G,D3,rs,rg,h,k⟩:=zz;unfold e_ at h;split at h
 ·rename_i p hp;split at h
  ·rename_i ds hg;obtain⟨v,e1,r⟩:=rs.get hp;simp only[RD]at r;subst r;obtain⟨ho,e2,ro⟩:=rg p _ hg;refine⟨_,e1,?_⟩;cases ho with
   | lst xs=>
    have rg2:RG X.K H (fF G p):=fun a o q=>by
     by_cases ha:a=p
     ·subst ha;rw[dz]at q;cases q
     ·rw[dP ha]at q;exact rg a o q
    refine k.rt _ _ _ H h (fun a ha e n=>⟨e,?_⟩) rg2 (.inl ⟨ds,p,xs,rfl,rfl,e2,dz,ro,fun h' _=>by rw[hg];exact fun z=>nomatch z⟩)
    by_cases hap:a=p
    ·subst hap;exact dz
    ·rw[dP hap];exact n
   | _=>exact ro.elim
  ·exact h.elim
 ·exact h.elim
end
def ae(i:Nat):bG:=fun σ G Q=>match σ[i]? with
 | some (some d)=>Q d G
 | _=>False
def eC(d:D):bG:=fun _ G Q=>Q d G
section
variable{X:Cx}{pos:Pos}{j:Nat}
theorem LZ{i:Nat}{x:Str}(hN:X.N[i]?=some x)(hv:Mq X.env.scope x)(hd:(x == ("__debug__":Str))=false:=by decide)(hcd:(x == ("__classdict__":Str))=false:=by decide):PE X (.Name x pos) (aB X.K (ae i)):=
 (Fn hN hv hd hcd).imp fun τ H Q zz=>by
  obtain⟨σ,G,Q3,rs,rg,h,k⟩:=zz;unfold ae at h;split at h
  ·rename_i d hp;obtain⟨v,e1,r⟩:=rs.get hp;exact⟨v,e1,k d G v H h Kp.refl rg (.of r)⟩
  ·exact h.elim
theorem al(i:Nat){x:Str}(hN:X.N[i]?=some x:=by rfl)(hv:Mq X.env.scope x:=by first|exact Or.inl rfl|exact Or.inr (Or.inl rfl)|exact Or.inr (Or.inr rfl))(hd:(x == ("__debug__":Str))=false:=by decide)
  (hcd:(x == ("__classdict__":Str))=false:=by decide):PE X (.Name x pos) (aB X.K (ae i)):=LZ hN hv hd hcd
theorem L1{e:Oj}{d:D}{v:V}(h:PE X e (tC v))(r:∀ H,RD X.K H d v):PE X e (aB X.K (eC d)):=h.imp fun τ H Q zz=>by
 obtain⟨σ,G,Q3,rs,rg,hq,k⟩:=zz;exact (
  k d G v H hq Kp.refl rg (.of (r H)))
theorem aq{i:Int}:PE X (.Constant (.int i) j pos) (aB X.K (eC (.int i))):=L1 Kb fun _=>eE
theorem Bo{b:Bool}:PE X (.Constant (.bool b) j pos) (aB X.K (eC (.bl b))):=L1 LY fun _=>im
theorem Jk:PE X (.Constant .none j pos) (aB X.K (eC .non)):=L1 J_ fun _=>Bg
theorem dU{x:Str}:PE X (.Constant (.str x) j pos) (aB X.K (eC (.str x))):=L1 J9 fun _=>iT
end
abbrev R3:=D->D->Gp->m5->Prop
def dO(K:Sf)(r3:R3):R2:=fun v u H Q=>∃ x y G0 H0 G Q3,RE K G0 H0 G H x v/\RE K G0 H0 G H y u/\RG K H G/\r3 x y G Q3/\vm K G H Q3 Q
def aW(r:R3)(ta tb:bG):bG:=fun σ G Q=>ta σ G fun x G1=>tb σ G1 fun y G2=>r x y G2 Q
section
variable{X:Cx}{a b c:Oj}{ta tb tc:bG}{pos:Pos}{r r':R3}
theorem two{K:Sf}{r2:R2}{Q:VK}{τ:St}{H:Hp}(hr:r2=dO K r)(h:aB K (aW r ta tb) τ H Q):Ll r2 (aB K ta) (aB K tb) τ H Q:=by
 subst hr;obtain⟨σ,G,Q3,rs,rg,h,k⟩:=h;refine⟨σ,G,fun x G1=>tb σ G1 fun y G2=>r x y G2 Q3,rs,rg,h,fun x G1 v H1 h1 k1 rg1 re1=>⟨σ,G1,fun y G2=>r x y G2 Q3,rs.mono (k1.stb rg),rg1,h1,fun y G2 u H2 h2 k2 rg2 re2=>?_⟩⟩;exact⟨x,y,G,H,G2,Q3,re1.wait k2 rg1,re2.base k1,rg2,h2,k.base (k1.trans k2)⟩
theorem aR{op:Operator}(ho:ig X (Pd op) (dO X.K r))(ha:PE X a (aB X.K ta))(hb:PE X b (aB X.K tb)):PE X (.BinOp a op b pos) (aB X.K (aW r ta tb)):=
 (LV ho ha hb).imp fun _ _ _ h=>two rfl h
def cj(t:bG):qt:=fun σ G Q=>t σ G fun d G'=>match d with
 | .bl b=>Q b G'
 | _=>False
theorem xq{K:Sf}{t:bG}{τ:St}{H:Hp}{Q:Bool->Hp->Prop}(h:cU K (cj t) τ H Q):EB (aB K t) τ H Q:=by
 obtain⟨σ,G,Q3,rs,rg,h,k⟩:=h;refine⟨σ,G,_,rs,rg,h,fun d G' v H' q k' rg' re=>?_⟩;cases d with
 | bl b=>exact⟨b,re.bl,k b G' H' q k' rg'⟩
 | _=>exact q.elim
theorem iU{op:Q5}(ho:ig X (Oy op) (dO X.K r))(ha:PE X a (aB X.K ta))(hb:PE X b (aB X.K tb))(hm:OT op b=false):PT X (.Compare a [op] [b] pos) (cU X.K (cj (aW r ta tb))):=
 (Co ho ha hb hm).imp fun _ _ _ h=>two rfl (xq h)
def me(r r':R3)(ta tb tc:bG):bG:=fun σ G Q=>ta σ G fun x G1=>tb σ G1 fun y G2=>r x y G2 fun z G3=>match z with
 | .bl k=>if k=true then tc σ G3 fun w G4=>r' y w G4 Q else Q (.bl false) G3
 | _=>False
theorem Mo{K:Sf}{Q:VK}{τ:St}{H:Hp}(h:aB K (me r r' ta tb tc) τ H Q):ED (dO K r) (dO K r') (aB K ta) (aB K tb) (aB K tc) τ H Q:=by
 obtain⟨σ,G,Q3,rs,rg,h,k⟩:=h;refine⟨σ,G,_,rs,rg,h,fun x G1 v H1 h1 k1 rg1 re1=>⟨σ,G1,_,rs.mono (k1.stb rg),rg1,h1,fun y G2 u H2 h2 k2 rg2 re2=>?_⟩⟩;refine⟨x,y,G,H,G2,_,re1.wait k2 rg1,re2.base k1,rg2,h2,fun z G3 w H3 h3 k3 rg3 re3=>?_⟩;have k13:=k1.trans (k2.trans k3);cases z with
 | bl kk=>
  refine⟨kk,re3.bl,?_⟩;cases kk with
  | true=>
   refine iteT ?_;refine⟨σ,G3,_,rs.mono (k13.stb rg),rg3,h3,fun w' G4 w4 H4 h4 k4 rg4 re4=>?_⟩;exact⟨y,w',G,H,G4,Q3,(re2.base k1).wait (k3.trans k4) rg2,re4.base k13,rg4,h4,k.base (k13.trans k4)⟩
  | false=>exact iteF (k _ G3 _ H3 h3 k13 rg3 (.of im))
 | _=>exact h3.elim
theorem ul{op op':Q5}(ho:ig X (Oy op) (dO X.K r))(ho':ig X (Oy op') (dO X.K r'))(ha:PE X a (aB X.K ta))(hb:PE X b (aB X.K tb))(hc:PE X c (aB X.K tc))
  (hm:lastMarks [op,op'] [b,c]=false:=by with_unfolding_all rfl):PT X (.Compare a [op,op'] [b,c] pos) (cU X.K (cj (me r r' ta tb tc))):=
 (Fd ho ho' ha hb hc hm).imp fun τ H Q h=>by
  obtain⟨σ,G,Q3,rs,rg,h,k⟩:=h;refine Mo (Q:=fun x H'=>∃ k,x=.bl k/\Q k H') ⟨σ,G,_,rs,rg,h,fun d G' v H' q k' rg' re=>?_⟩;cases d with
  | bl b=>exact⟨b,re.bl,k b G' H' q k' rg'⟩
  | _=>exact q.elim
def m7(t u:qt):qt:=fun σ G Q=>t σ G fun c G1=>if c=true then u σ G1 Q else Q false G1
def vB(t u:qt):qt:=fun σ G Q=>t σ G fun c G1=>if c=true then Q true G1 else u σ G1 Q
def rK(t:qt):qt:=fun σ G Q=>t σ G fun c G1=>Q (!c) G1
variable{tA tB:qt}{es:List Oj}
theorem AS(ha:PT X a (cU X.K tA)):PW X (.BoolOp .And [a] pos) (cU X.K tA):=Hv ha
theorem B5(ha:PT X a (cU X.K tA)):PW X (.BoolOp .Or [a] pos) (cU X.K tA):=JY ha
theorem B6(ha:PT X a (cU X.K tA))(hb:PW X (.BoolOp .And (b::es) pos) (cU X.K tB)):PW X (.BoolOp .And (a::b::es) pos) (cU X.K (m7 tA tB)):=(JZ ha hb).imp fun τ H Q zz=>by
 obtain⟨σ,G,Q3,rs,rg,h,k⟩:=zz;exact (
   ⟨σ,G,_,rs,rg,h,fun c G1 H1 q k1 rg1=>by
    cases c with
    | true=>exact iteT ⟨σ,G1,Q3,rs.mono (k1.stb rg),rg1,q,fun b' G' H' q' k' rg'=>k b' G' H' q' (k1.trans k') rg'⟩
    | false=>exact iteF (k false G1 H1 q k1 rg1)⟩)
theorem Ha(ha:PT X a (cU X.K tA))(hb:PW X (.BoolOp .Or (b::es) pos) (cU X.K tB)):PW X (.BoolOp .Or (a::b::es) pos) (cU X.K (vB tA tB)):=(LK ha hb).imp fun τ H Q zz=>by
 obtain⟨σ,G,Q3,rs,rg,h,k⟩:=zz;exact (
   ⟨σ,G,_,rs,rg,h,fun c G1 H1 q k1 rg1=>by
    cases c with
    | false=>exact iteF ⟨σ,G1,Q3,rs.mono (k1.stb rg),rg1,q,fun b' G' H' q' k' rg'=>k b' G' H' q' (k1.trans k') rg'⟩
    | true=>exact iteT (k true G1 H1 q k1 rg1)⟩)
theorem xN(ha:PT X a (cU X.K tA)):PT X (.UnaryOp .Not a pos) (cU X.K (rK tA)):=(J1 ha).imp fun τ H Q zz=>by
 obtain⟨σ,G,Q3,rs,rg,h,k⟩:=zz;exact (
  ⟨σ,G,_,rs,rg,h,fun c G1 H1 q k1 rg1=>k (!c) G1 H1 q k1 rg1⟩)
def KU(ta tb:bG):bG:=fun σ G Q=>ta σ G fun x G1=>match x with
 | .bl c=>if c=true then tb σ G1 Q else Q (.bl false) G1
 | _=>False
def Na(ta tb:bG):bG:=fun σ G Q=>ta σ G fun x G1=>match x with
 | .bl c=>if c=true then Q (.bl true) G1 else tb σ G1 Q
 | _=>False
def Gc(ta:bG):bG:=fun σ G Q=>ta σ G fun x G1=>match x with
 | .bl c=>Q (.bl (!c)) G1
 | _=>False
def Mj(c:qt)(ta tb:bG):bG:=fun σ G Q=>c σ G fun b G1=>if b=true then ta σ G1 Q else tb σ G1 Q
theorem MZ(hc:PT X c (cU X.K tA))(ha:PE X a (aB X.K ta))(hb:PE X b (aB X.K tb)):PE X (.IfExp c a b pos) (aB X.K (Mj tA ta tb)):=(Fq hc ha hb).imp fun τ H Q zz=>by
 obtain⟨σ,G,Q3,rs,rg,h,k⟩:=zz;exact (
   ⟨σ,G,_,rs,rg,h,fun x G1 H1 q k1 rg1=>by
    cases x with
    | true=>exact iteT ⟨σ,G1,Q3,rs.mono (k1.stb rg),rg1,q,k.base k1⟩
    | false=>exact iteF ⟨σ,G1,Q3,rs.mono (k1.stb rg),rg1,q,k.base k1⟩⟩)
def Ey(G:Gp):D->Option Bool
 | .non=>some false
 | .bl b=>some b
 | .int i=>some (i != 0)
 | .str y=>some ((y.length:Int) != 0)
 | d=>(Eh G d).map fun ds=>!ds.isEmpty
def sE(t:bG):qt:=fun σ G Q=>t σ G fun d G'=>match Ey G' d with
 | some b=>(match d with|.str y=>y.length<=NY|_=>True)/\Q b G'
 | none=>False
theorem jp(ha:PE X a (aB X.K ta))(he:∀ whole,SA a X.env whole=(do let v <- whole;Qw a.pos;holding [v] (truthy v)):=by intro _;rfl):PT X a (cU X.K (sE ta)):=
 (Fb ha he).imp fun τ H Q zz=>by
 obtain⟨σ,G,Q3,rs,rg,h,k⟩:=zz;exact (
  ⟨σ,G,_,rs,rg,h,fun d G' v H' q k' rg' re=>by
    cases d with
    | non=>rw[re.non];exact⟨false,rfl,k _ G' H' q.2 k' rg'⟩
    | bl b=>rw[re.bl];exact⟨b,rfl,k _ G' H' q.2 k' rg'⟩
    | int i=>rw[re.int];exact⟨_,rfl,k _ G' H' q.2 k' rg'⟩
    | str y=>rw[re.str];exact⟨_,⟨q.1,rfl⟩,k _ G' H' q.2 k' rg'⟩
    | ty n=>exact q.elim
    | _=>
     split at q
     ·rename_i b hb;simp only[Ey,Option.map_eq_some_iff]at hb;obtain⟨ds,hq,rfl⟩:=hb;obtain⟨a,xs,rfl,s,r⟩:=vg hq re rg';have el:(!ds.isEmpty)=!xs.isEmpty:=by
       have:=r.length;cases ds<;>cases xs<;>simp_all
      refine⟨!xs.isEmpty,?_,k _ G' H' (by rw[<- el];exact q.2) k' rg'⟩
      rcases s with s|s
      ·exact .inl ⟨xs,s,rfl⟩
      ·exact .inr (.inl ⟨xs,s,rfl⟩)
     ·exact q.elim⟩)
end
end L3
namespace L2
open PySem PySem.Spec PyProof.Rows
section
variable{X:Cx}
def LH(K:Sf):R2:=fun x y H Q=>∃ l b xs zs,x=.ref l/\y=.ref b/\jw K H l xs/\jw K H b zs/\xs.length+zs.length<=NY/\∀ p,H p=none->Q (.ref p) (bq H p (.lst (xs ++ zs)))
theorem HY:ig X (Pd .Add) (LH X.K):=by
 intro pins s σ H x y v u Q I rx ry h;obtain⟨l,b,xs,zs,rfl,rfl,hH,hB,hz,q⟩:=h;cases rx;cases ry;obtain⟨its,r,pl,z⟩:=I.list hH;obtain⟨its2,r2,pl2,z2⟩:=I.list hB;obtain⟨⟨cls,dd,data,sl⟩,ho,hc,n,hd⟩:=pl.isList;obtain⟨⟨cls2,dd2,data2,sl2⟩,ho2,hc2,n2,hd2⟩:=pl2.isList;simp only at hc hd hc2 hd2;subst hc hd hc2 hd2;have hl:=r.length;have hl2:=r2.length;have e:its.toArray ++ its2.toArray=(its ++ its2).toArray:=by simp
 refine SB ⟨_,ho,rfl⟩ ⟨_,ho2,rfl⟩ noFill_list_add seq_list_add PySem.F.slot_list_add PySem.F.entry_list_add (PySem.F.args_list_add_2 _ _) (list_addW l b its.toArray its2.toArray n n2 dd dd2 sl sl2 (by simp only[N6];omega)) ⟨ho,ho2,?_⟩
 rw[e];exact⟨.ref _,_,I.lnew (t':=s.toks) (r.append r2) (by rw[On];omega),rfl,q _ I.fresh⟩
end
end L2
namespace L3
open PySem PySem.Spec PyProof.Rows L2
section
variable{X:Cx}
def dW:R3:=fun x y G Q=>match x,y with
 | .int i,.int j=>Q (.int (i+j)) G
 | .str i,.str j=>i.length+j.length<=NY/\Q (.str (i ++ j)) G
 | .tup xs,.tup ys=>xs≠[]/\xs.length+ys.length<=NY/\Q (.tup (xs ++ ys)) G
 | x,y=>match wg G x,wg G y with
  | some xs,some ys=>xs.length+ys.length<=NY/\Q (.fl (xs ++ ys)) G
  | _,_=>False
theorem cE:ig X (Pd .Add) (dO X.K dW):=by
 refine ((Kn (X:=X)).or ((Bq (X:=X)).or ((HX (X:=X)).or (HY (X:=X))))).imp fun v u H Q zz=>?_;obtain⟨x,y,G0,H0,G,Q3,rx,ry,rg,h,k⟩:=zz;unfold dW at h;split at h
 ·rename_i i j;exact .inl ⟨i,j,rx.int,ry.int,k _ G _ H h Kp.refl rg (.of eE)⟩
 ·rename_i i j;exact .inr (.inl ⟨i,j,rx.str,ry.str,h.1,k _ G _ H h.2 Kp.refl rg (.of iT)⟩)
 ·rename_i ds es;obtain⟨a,xs,rfl,s1,r1⟩:=rx.tup;obtain⟨b,ys,rfl,s2,r2⟩:=ry.tup;have l1:=r1.length;have l2:=r2.length;refine .inr (.inr (.inl ⟨a,b,xs,ys,rfl,rfl,s1,s2,fun z=>h.1 ?_,by have:=h.2.1;omega,fun z=>?_,fun _ p hp=>?_⟩))
  ·subst z;exact List.length_eq_zero_iff.mp l1
  ·subst z;have:es=[]:=List.length_eq_zero_iff.mp l2;subst this;have hh:=h.2.2;rw[OO]at hh;exact k _ G _ H hh Kp.refl rg (.of (qJ s1 r1))
  ·exact k _ G _ _ h.2.2 (Kp.laid hp) (rg.laid hp) (.of (mv rg hp (r1.append r2)))
 ·split at h
  ·rename_i ds es hx hy;obtain⟨a,xs,rfl,s1,r1⟩:=mh hx rx rg;obtain⟨b,ys,rfl,s2,r2⟩:=mh hy ry rg;have l1:=r1.length;have l2:=r2.length;exact .inr (.inr (.inr ⟨a,b,xs,ys,rfl,rfl,s1,s2,by have:=h.1;omega,fun p hp=>k _ G _ _ h.2 (Kp.laid hp) (rg.laid hp) (yE rg hp (r1.append r2))⟩))
  ·exact h.elim
def oI(C:Int->Int->Prop)(g:Int->Int->D):R3:=fun x y G Q=>match x,y with
 | .int i,.int j=>C i j/\Q (g i j) G
 | _,_=>False
def GQ(g:Int->Int->D):R3:=fun x y G Q=>match x,y with
 | .int i,.int j=>Q (g i j) G
 | _,_=>False
theorem Nl{f:NO->NO->Sem NO}{C:Int->Int->Prop}{g:Int->Int->V}{g3:Int->Int->D}(h:ig X f (rI C g))(r:∀ i j H,RD X.K H (g3 i j) (g i j)):ig X f (dO X.K (oI C g3)):=
 h.imp fun v u H Q zz=>by
  obtain⟨x,y,G0,H0,G,Q3,rx,ry,rg,h,k⟩:=zz;unfold oI at h;split at h
  ·rename_i i j;exact⟨i,j,rx.int,ry.int,h.1,k _ G _ H h.2 Kp.refl rg (.of (r i j H))⟩
  ·exact h.elim
theorem GZ{f:NO->NO->Sem NO}{g:Int->Int->V}{g3:Int->Int->D}(h:ig X f (Ji g))(r:∀ i j H,RD X.K H (g3 i j) (g i j)):ig X f (dO X.K (GQ g3)):=
 h.imp fun v u H Q zz=>by
  obtain⟨x,y,G0,H0,G,Q3,rx,ry,rg,h,k⟩:=zz;unfold GQ at h;split at h
  ·rename_i i j;exact⟨i,j,rx.int,ry.int,k _ G _ H h Kp.refl rg (.of (r i j H))⟩
  ·exact h.elim
def n8:R3:=GQ fun i j=>.int (i - j)
theorem k0:ig X (Pd .Sub) (dO X.K n8):=GZ Kk fun _ _ _=>eE
def gP:R3:=oI (fun _ j=>0 < j) fun i j=>.int (i % j)
theorem eY:ig X (Pd .Mod) (dO X.K gP):=Nl Km fun _ _ _=>eE
def lQ:R3:=oI IZ fun i j=>.int (i / j)
theorem i7:ig X (Pd .FloorDiv) (dO X.K lQ):=Nl HV fun _ _ _=>eE
def Kr:R3:=oI Nk fun i j=>.int (i ^ j.toNat)
def Jm:R3:=GQ fun i j=>.bl (decide (i < j))
theorem GX:ig X (Oy .Lt) (dO X.K Jm):=GZ L4 fun _ _ _=>im
def Jn:R3:=GQ fun i j=>.bl (decide (i<=j))
theorem GY:ig X (Oy .LtE) (dO X.K Jn):=GZ L5 fun _ _ _=>im
def Cu:R3:=GQ fun i j=>.bl (decide (j < i))
theorem AR:ig X (Oy .Gt) (dO X.K Cu):=GZ L6 fun _ _ _=>im
def M3:R3:=GQ fun i j=>.bl (decide (j<=i))
def au:nH:=fun _ G Q=>Q [] G
def af(ta:bG)(tr:nH):nH:=fun σ G Q=>ta σ G fun x G1=>tr σ G1 fun xs G2=>Q (val x::xs) G2
variable{e:Oj}{es:List Oj}{te:bG}{t:nH}{pos:Pos}
theorem ao:PA X [] (eK X.K au):=Kd.imp fun τ H Q zz=>by
 obtain⟨σ,G,Q3,rs,rg,h,k⟩:=zz;exact (
  k [] G [] H h Kp.refl rg RDs.nil)
theorem aa(ha:PE X e (aB X.K te))(hr:PA X es (eK X.K t))(hs:N5 (e::es) X.env=(false,eval e X.env)::N5 es X.env:=by rfl):PA X (e::es) (eK X.K (af te t)):=
 (HN (d4 ha) hr hs).imp fun τ H Q zz=>by
 obtain⟨σ,G,Q3,rs,rg,h,k⟩:=zz;exact (
  ⟨σ,G,_,rs,rg,h,fun x G1 v H1 q k1 rg1 rd=>⟨σ,G1,_,rs.mono (k1.stb rg),rg1,q,fun ds G2 vs H2 q2 k2 rg2 rds=>
    k _ G2 _ H2 q2 (k1.trans k2) rg2 (RDs.cons (RD.mono (k2.stb rg1) _ _ rd) rds)⟩⟩)
def gR(t:nH):bG:=fun σ G Q=>t σ G fun ds G1=>ds.length<=NY/\Q (.tup ds) G1
def m3(t:nH):bG:=fun σ G Q=>t σ G fun ds G1=>ds.length<=NY/\Q (.fl ds) G1
theorem eZ{x1}(h:PA X es (eK X.K t)):PE X (.Tuple es x1 pos) (aB X.K (gR t)):=(J8 h).imp fun τ H Q zz=>by
 obtain⟨σ,G,Q3,rs,rg,h,k⟩:=zz;exact (
  ⟨σ,G,_,rs,rg,h,fun ds G1 vs H1 q k1 rg1 rds=>
   ⟨by rw[<- rds.length];exact q.1,fun p hp=>k _ G1 _ _ q.2 (k1.trans (Kp.laid hp)) (rg1.laid hp) (.of (mv rg1 hp rds))⟩⟩)
theorem kI(h:PA X es (eK X.K t)):PE X (.List es pos) (aB X.K (m3 t)):=(Ka h).imp fun τ H Q zz=>by
 obtain⟨σ,G,Q3,rs,rg,h,k⟩:=zz;exact (
  ⟨σ,G,_,rs,rg,h,fun ds G1 vs H1 q k1 rg1 rds=>
   ⟨by rw[<- rds.length];exact q.1,fun p hp=>k _ G1 _ _ q.2 (k1.trans (Kp.laid hp)) (rg1.laid hp) ((yE rg1 hp rds).base k1)⟩⟩)
def strAt(x:Str)(i:Int):Option D:=(iG x.cps.toList i).map fun c=>.str ⟨#[c]⟩
def fc:R3:=fun x y G Q=>match x,y with
 | .str z,.int i=>z.length<=NY/\match strAt z i with
  | some d=>Q d G
  | none=>False
 | x,.int i=>match Eh G x with
  | some ds=>match iG ds i with
   | some d=>Q d G
   | none=>False
  | none=>False
 | _,_=>False
theorem IM{K:Sf}{H:Hp}{ds:List D}{xs:List V}{i:Int}{d:D}(r:RDs K H ds xs)(h:iG ds i=some d):∃ v,iG xs i=some v/\RD K H d v:=by
 unfold iG at h ⊢;rw[<- r.length];cases e:Is ds.length i with
 | none=>rw[e]at h;cases h
 | some j=>
  rw[e]at h;exact r.get h
theorem MD:Ea X (dO X.K fc):=(KN (X:=X)).imp fun v u H Q zz=>by
 obtain⟨x,y,G0,H0,G,Q3,rx,ry,rg,h,k⟩:=zz;unfold fc at h;split at h
 ·rename_i z i;obtain⟨h1,h2⟩:=h;split at h2
  ·rename_i d hd;unfold strAt at hd;rw[Option.map_eq_some_iff]at hd;obtain⟨c,hc,rfl⟩:=hd;exact .inr (.inr ⟨z,i,c,rx.str,ry.int,h1,hc,k _ G _ H h2 Kp.refl rg (.of iT)⟩)
  ·exact h2.elim
 ·rename_i i _;split at h
  ·rename_i ds hds;split at h
   ·rename_i d hd;obtain⟨a,xs,rfl,s,r⟩:=vg hds rx rg;obtain⟨w,hw,rd⟩:=IM r hd;have fin:=k _ G _ H h Kp.refl rg (.of rd);rcases s with s|s
    ·exact .inl ⟨a,xs,i,w,rfl,ry.int,s,hw,fin⟩
    ·exact .inr (.inl ⟨a,xs,i,w,rfl,ry.int,s,hw,fin⟩)
   ·exact h.elim
  ·exact h.elim
 ·exact h.elim
variable{a b:Oj}{ta tb:bG}
theorem cg(ha:PE X a (aB X.K ta))(hb:PE X b (aB X.K tb))(hs:CY b:=by exact fun _ _=>rfl):PE X (.Subscript a b pos) (aB X.K (aW fc ta tb)):=(LW MD ha hb hs).imp fun _ _ _ h=>two rfl h
abbrev GR:=ff->Gp->(Option Int->Gp->Prop)->Prop
def se(K:Sf)(t:GR):TO:=fun τ H Q=>∃ σ G Q3,RS K H σ τ/\RG K H G/\t σ G Q3/\∀ o G' H',Q3 o G'->Kp G H G' H'->RG K H' G'->Q o H'
theorem PO.imp{e:Option Oj}{t t':TO}(h:PO X e t)(i:∀ σ H Q,t' σ H Q->t σ H Q):PO X e t':=fun pins s σ H Q I q=>h pins s σ H Q I (i σ H Q q)
def Dr:GR:=fun _ G Q=>Q none G
def hJ(t:bG):GR:=fun σ G Q=>t σ G fun x G1=>match x with
 | .int i=>Q (some i) G1
 | _=>False
theorem jV:PO X none (se X.K Dr):=PO.imp HF fun τ H Q zz=>by
 obtain⟨σ,G,Q3,rs,rg,h,k⟩:=zz;exact (
  k none G H h Kp.refl rg)
theorem gO(h:PE X e (aB X.K te)):PO X (some e) (se X.K (hJ te)):=PO.imp (HE h) fun τ H Q ⟨σ,G,Q3,rs,rg,h,k⟩=>⟨σ,G,_,rs,rg,h,fun d G1 v H1 q k1 rg1 re=>by
 cases d with
 | int i=>exact⟨i,re.int,k _ G1 H1 q k1 rg1⟩
 | _=>exact q.elim⟩
abbrev Mt:=D->Option Int->Option Int->Gp->m5->Prop
def FR(K:Sf)(r:Mt):V->Option Int->Option Int->Hp->VK->Prop:=fun v lo hi H Q=>∃ x G0 H0 G Q3,RE K G0 H0 G H x v/\RG K H G/\r x lo hi G Q3/\vm K G H Q3 Q
def DS(r:Mt)(te:bG)(tl th:GR):bG:=fun σ G Q=>te σ G fun x G1=>tl σ G1 fun l G2=>th σ G2 fun u G3=>r x l u G3 Q
theorem h_{r:Mt}{lo hi:Option Oj}{tl th:GR}{p2:Pos}(hr:D9 X (FR X.K r))(he:PE X e (aB X.K te))(hl:PO X lo (se X.K tl))(hu:PO X hi (se X.K th)):PE X (.Subscript e (.Slice lo hi none p2) pos) (aB X.K (DS r te tl th)):=
 (Fo hr he hl hu).imp fun τ H Q zz=>by
 obtain⟨σ,G,Q3,rs,rg,h,k⟩:=zz;exact (
  ⟨σ,G,_,rs,rg,h,fun x G1 v H1 q1 k1 rg1 re=>⟨σ,G1,_,rs.mono (k1.stb rg),rg1,q1,fun l G2 H2 q2 k2 rg2=>
    ⟨σ,G2,_,rs.mono ((k1.trans k2).stb rg),rg2,q2,fun u G3 H3 q3 k3 rg3=>⟨x,G,H,G3,Q3,re.wait (k2.trans k3) rg1,rg3,q3,k.base (k1.trans (k2.trans k3))⟩⟩⟩⟩)
def cutD(ds:List D)(lo hi:Option Int):List D:=(ds.drop (HT.sIx ds.length 0 lo)).take (HT.sIx ds.length ds.length hi - HT.sIx ds.length 0 lo)
theorem CM{K:Sf}{H:Hp}{ds:List D}{xs:List V}(r:RDs K H ds xs)(lo hi:Option Int):RDs K H (cutD ds lo hi) (Ap xs lo hi):=by
 unfold cutD Ap;rw[r.length];exact (r.drop _).take _
end
end L3
namespace L2
open PySem PySem.Spec PyProof.Rows
def Ni(xs:List V):It:=⟨fun i _=>i < xs.length,fun i H x H'=>H'=H/\xs[i]?=some x,fun i _=>i=xs.length⟩
def bm(x:Str):List V:=x.cps.toList.map fun c=>V.str ⟨#[c]⟩
theorem m8(x:Str):(bm x).length=x.cps.size:=by simp[bm]
theorem Ex{P:N_}{w:Og}{K:Sf}{tg:Oj}(it:NR)(x:Str)(t:Tok)(ty:String)(hty:ty="str_ascii_iterator"\/ty="str_iterator"):
  Turn P w K tg (Ni (bm x)) [it] it (fun i h=>h.IsStrIter it ty x t i) where
 mem:=by simp
 obj:=fun i h st b hb=>by
  have e:b=it:=by simpa using hb
  subst e;obtain⟨o,e,c,d⟩:=st;exact⟨o,e,fun v z=>by rw[d]at z;cases z⟩
 keep:=fun i h h' st k=>let ⟨o,ho,r⟩:=st;⟨o,k it (by simp) o ho,r⟩
 item:=by
  intro X hP hw hK hc i pins s σ H E I hf st hg;subst hP hw hK;obtain⟨f0,f1,f2,f3,f4,f5⟩:=hf it (by simp)
  have W:Walks X.prog X.w X.A it [it] [it] x.cps.size (SignAt x) (fun i h=>h.IsStrIter it ty x t i):=by
   rcases hty with rfl|rfl
   ·exact Walks.strAscii (I.ok.hd hc) it x t
   ·exact Walks.strWide (I.ok.hd hc) it x t
  refine W.item i s _ _ (by have:i < (bm x).length:=hg;rw[m8]at this;exact this) st fun v h' tk hv st' kk=>?_
  obtain⟨c,u,hc',rfl⟩:=hv;have I1:Inv X pins σ H { s with heap:=h',toks:=tk }:=I.turned (fun b o hb e=>kk b o (by simpa using hb) e) f0 f1 f3 f4 f5
  obtain⟨o,e,c1,d⟩:=id st';refine⟨_,rfl,Ae (s:={ s with heap:=h',toks:=tk }) e c1 d (by rcases hty with rfl|rfl<;>decide) ⟨.str ⟨#[c]⟩,H,I1,⟨u,rfl⟩,⟨rfl,?_⟩,st',fun b hb=>(hf b hb).1⟩⟩
  simp only[bm,N8,Array.getElem?_toList,hc',Option.map_some]
 done:=by
  intro X hP hw hK hc i pins s σ H E I hf st hg;subst hP hw hK;obtain⟨f0,f1,f2,f3,f4,f5⟩:=hf it (by simp)
  have W:Walks X.prog X.w X.A it [it] [it] x.cps.size (SignAt x) (fun i h=>h.IsStrIter it ty x t i):=by
   rcases hty with rfl|rfl
   ·exact Walks.strAscii (I.ok.hd hc) it x t
   ·exact Walks.strWide (I.ok.hd hc) it x t
  have e:i=x.cps.size:=by have:i=(bm x).length:=hg;rw[m8]at this;exact this
  subst e;exact W.done s _ _ st fun h' tk kk=>⟨rfl,I.turned (fun b o hb e=>kk b o (by simpa using hb) e) f0 f1 f3 f4 f5⟩
 self:=fun A i s Q E st h=>by
  rcases hty with rfl|rfl
  ·exact wpAny_pyIter_striter_ascii st h
  ·exact wpAny_pyIter_striter_wide st h
section
variable{X:Cx}{tg:Oj}
theorem BR{env:Env}:∀ (names:List (Str×QJ)) (sc:Qk),sc.names=names->(∀ x∈names,x.2=.free->∃ c,env.cells.lookup x.1=some c)->
  ∃ cl,S8 sc env=pure cl/\(∀ x c,cl.lookup x=some c->env.cells.lookup x=some c)/\(∀ x∈names,x.2=.free->∃ c,cl.lookup x.1=some c):=by
 have loop:∀ (names:List (Str×QJ)) (cs:List (Str×NR)),(∀ x∈names,x.2=.free->∃ c,env.cells.lookup x.1=some c)->(∀ x c,cs.lookup x=some c->env.cells.lookup x=some c)->
   ∃ cl,(forIn names cs fun (x:Str×QJ) (r:List (Str×NR))=>(match x with
    | (name,kind)=>if (kind == NameKind.free)=true then (do let a <- cellOf env name;pure (ForInStep.yield ((name,a)::r)))else pure (ForInStep.yield r):Sem (ForInStep (List (Str×NR)))))=(pure cl:Sem (List (Str×NR)))/\
    (∀ x c,cl.lookup x=some c->env.cells.lookup x=some c)/\(∀ x,(∃ c,cs.lookup x=some c)->∃ c,cl.lookup x=some c)/\(∀ x∈names,x.2=.free->∃ c,cl.lookup x.1=some c):=by
  intro names
  induction names with
  | nil=>intro cs _ h2;exact⟨cs,rfl,h2,fun _ z=>z,fun _ z=>nomatch z⟩
  | cons y r ih=>
   obtain⟨name,kind⟩:=y;intro cs h1 h2;cases hk:(kind == NameKind.free) with
   | false=>
    obtain⟨cl,e,a,b,c⟩:=ih cs (fun x hx=>h1 x (N0 _ hx)) h2;refine⟨cl,?_,a,b,fun x hx hf=>?_⟩
    ·rw[Qc];simp only[hk,Bool.false_eq_true,if_false];exact e
    ·rcases Oz.mp hx with rfl|hx
     ·rw[show kind=NameKind.free from hf]at hk;cases hk
     ·exact c x hx hf
   | true=>
    have hkf:kind=NameKind.free:=by simpa using hk
    obtain⟨ca,hca⟩:=h1 (name,kind) N3 hkf;have T6:env.cells.lookup name=some ca:=hca;have nx:∀ x c,((name,ca)::cs).lookup x=some c->env.cells.lookup x=some c:=fun x c hx=>by
     rw[O7]at hx;split at hx
     ·rename_i hb;have:x=name:=by simpa using hb
      cases hx;rw[this];exact T6
     ·exact h2 x c hx
    obtain⟨cl,e,a,b,c⟩:=ih ((name,ca)::cs) (fun x hx=>h1 x (N0 _ hx)) nx;refine⟨cl,?_,a,fun x ⟨c',hx⟩=>?_,fun x hx hf=>?_⟩
    ·rw[Qc];simp only[hk,if_true];unfold cellOf;rw[T6];exact e
    ·by_cases hxn:x=name
     ·exact b x ⟨ca,by rw[O7,hxn,beq_self_eq_true]⟩
     ·exact b x ⟨c',by rw[O7,show (x == name)=false by simpa using hxn];exact hx⟩
    ·rcases Oz.mp hx with rfl|hx
     ·exact b name ⟨ca,by rw[O7,beq_self_eq_true]⟩
     ·exact c x hx hf
 intro names sc hsc h;subst hsc;obtain⟨cl,e,a,_,c⟩:=loop sc.names [] h (fun x c z=>by simp at z)
 refine⟨cl,?_,a,c⟩;unfold S8;show (forIn sc.names [] _ >>= fun r=>pure r)=_
 refine Eq.trans ?_ (congrArg (fun m=>m >>= fun r=>(pure r:Sem (List (Str×NR)))) e);rfl
def bU(X:Cx)(N':List Str)(scope:Qk)(cl:List (Str×NR))(C:NR)(s₀:NP)(H₀:Hp)(fp:List NR):Cx:=
 { X with N:=N',s₀:=s₀,H₀:=H₀,env:=compEnvC scope cl C X.env,outer:=X.stack,ex:=fp,fn:=fun _=>false,pn:=[],xe:=fun _ _=>False }
end
section
variable{prog:N_}{w:Og}{A:Oc}{R:SC->NP->Prop}{s:NP}
theorem mf{elt target iter:Oj}{ifs:List Oj}{scope:Qk}{pos:Pos}{it acc:NO}{env:Env}(J:Nat->NP->Prop)
  (turn:∀ n s,J n s->NZ (N4 prog w) A (Pu it) (fun r s₁=>match r with
   | none=>R (.ok .next) s₁
   | some v=>NZ (N4 prog w) A (Qa target it v) (fun _ s₁'=>NZ (N4 prog w) A (assign target env v) (fun _ s₂=>
     NZ (N4 prog w) A (forIn ifs true fun c r=>if r=true then do let ok <- SA c env (eval c env);pure (ForInStep.yield ok)else pure (ForInStep.yield r)) (fun ok s₃=>
      if ok=true then NZ (N4 prog w) A (eval elt env) (fun x s₄=>
       NZ (N4 prog w) A (call (.builtin "list.append") [acc,x]) (fun _ s₅=>∃ m,m < n/\J m s₅) (fun _ _=>False) s₄) (fun _ _=>False) s₃
      else ∃ m,m < n/\J m s₃) (fun _ _=>False) s₂) (fun _ _=>False) s₁') (fun _ _=>False) s₁) (fun _ _=>False) s)
  (n:Nat) (h:J n s):Qo (N4 prog w) A (.compLoop (.ListComp elt [⟨target,iter,ifs,0⟩] scope pos) 0 it acc env) R s:=by
 refine codeAny_loop rfl J (fun n s hI=>?_) n h;show NZ _ A ((compTurn (.ListComp elt [⟨target,iter,ifs,0⟩] scope pos) 0 it acc env).onRaise (fun x=>do noteFrame x env;theTreesLotGoes x)) _ _ s
 refine wpAny_noted ?_;rw[compTurn_list];refine NN (Rp (NN (ON (turn n s hI) (fun r s₁ h₁=>?_) fun _ _ h'=>h'.elim)));cases r with
 | none=>exact NQ h₁
 | some v=>
  refine NN (ON h₁ (fun _ s₁' h₁'=>?_) fun _ _ h'=>h'.elim);refine NN (ON h₁' (fun _ s₂ h₂=>NN (ON h₂ (fun ok s₃ h₃=>?_) fun _ _ h'=>h'.elim)) fun _ _ h'=>h'.elim);cases ok with
  | false=>exact NQ ⟨rfl,h₃⟩
  | true=>exact NN (NN (ON h₃ (fun x s₄ h₄=>NN (ON h₄ (fun _ s₅ h₅=>NQ (NQ ⟨rfl,h₅⟩)) fun _ _ h'=>h'.elim)) fun _ _ h'=>h'.elim))
end
def GS(X:Cx)(ifs:List Oj)(tt:TT):Prop:=
 ∀ (pins:List (NR×Obj)) (s:NP) (σ:St) (H:Hp) (Q:Bool->Hp->Prop),Inv X pins σ H s->tt σ H Q->
  NZ (N4 X.prog X.w) X.A (forIn ifs true fun c r=>if r=true then do let ok <- SA c X.env (eval c X.env);pure (ForInStep.yield ok)else pure (ForInStep.yield r)) (TP X pins σ Q) X.xe s
theorem Hy{X:Cx}:GS X [] (fun _ H Q=>Q true H):=fun pins s σ H Q I h=>wpAny_tests_nil ⟨H,I,h⟩
theorem Hx{X:Cx}{c:Oj}{tt:TT}(h:PT X c tt):GS X [c] tt:=fun pins s σ H Q I q=>wpAny_tests_one (h pins s σ H Q I q)
def B9(ent:St->St)(wi:TI)(g:TG)(tt:TT)(te:TE):TE:=fun σ H Q=>wi σ H fun J H1=>∀ D,H1 D=none->∃ W:Nat->Nat->List V->St->Hp->Prop,(∃ m,W 0 m [] (ent σ) (bq H1 D (.lst [])))/\
 ∀ i m ys σ1 H2,W i m ys σ1 H2->H2 D=some (.lst ys)/\((J.stop i H2/\Q (.ref D) H2)\/(J.go i H2/\∃ N:List V->St->Hp->Prop,(∀ ys' σ' H',N ys' σ' H'->∃ m',m' < m/\W (i+1) m' ys' σ' H')/\
  ∀ x H',J.yld i H2 x H'->g x σ1 H' fun σ2 H3=>tt σ2 H3 fun b H4=>if b=true then te σ2 H4 fun y H5=>H5 D=some (.lst ys)/\ys.length < NY/\N (ys ++ [y]) σ2 (bq H5 D (.lst (ys ++ [y])))else N ys σ2 H4))
theorem h9{scope:Qk}{env:Env}(Tz:∀ y∈scope.names,y.2≠.cell){x:Str}(h:(RY scope env).names.lookup x=some .cell\/(RY scope env).names.lookup x=some .free):∃ y∈scope.names,y.1=x/\y.2=.free:=by
 have go:∀ (names:List (Str×QJ)),(∀ y∈names,y.2≠.cell)->∀ k,(names.map fun (n,k)=>if (k == .free && env.scope.kind == .function && env.kindOf n == some .cell)then (n,NameKind.cell)else (n,k)).lookup x=some k->(k=.cell\/k=.free)->∃ y∈names,y.1=x/\y.2=.free:=by
  intro names
  induction names with
  | nil=>intro _ k e _;simp at e
  | cons y r ih=>
   obtain⟨n,kd⟩:=y;intro hc k e hk;rw[Od,O7]at e;split at e
   ·rename_i hb;cases e;have nc:kd≠.cell:=hc (n,kd) N3;refine⟨(n,kd),N3,?_,?_⟩
    ·split at hb
     ·simpa using (eq_of_beq hb).symm
     ·simpa using (eq_of_beq hb).symm
    ·split at hk
     ·rename_i hq;simp only[Bool.and_eq_true]at hq
      simpa using hq.1.1
     ·rcases hk with hk|hk
      ·exact absurd hk nc
      ·exact hk
   ·obtain⟨y,hy,q⟩:=ih (fun y hy=>hc y (N0 _ hy)) k e hk;exact⟨y,N0 _ hy,q⟩
 rcases h with h|h
 ·exact go scope.names Tz _ h (.inl rfl)
 ·exact go scope.names Tz _ h (.inr rfl)
theorem ni{scope:Qk}{env:Env}{x:Str}(h:(RY scope env).names.lookup x=some .local):∃ y∈scope.names,y.1=x/\y.2=.local:=by
 have go:∀ (names:List (Str×QJ)),(names.map fun (n,k)=>if (k == .free && env.scope.kind == .function && env.kindOf n == some .cell)then (n,NameKind.cell)else (n,k)).lookup x=some .local->∃ y∈names,y.1=x/\y.2=.local:=by
  intro names
  induction names with
  | nil=>intro e;simp at e
  | cons y r ih=>
   obtain⟨n,kd⟩:=y;intro e;rw[Od,O7]at e;split at e
   ·rename_i hb;refine⟨(n,kd),N3,?_,?_⟩
    ·split at hb
     ·simpa using (eq_of_beq hb).symm
     ·simpa using (eq_of_beq hb).symm
    ·split at e
     ·cases e
     ·simpa using e
   ·obtain⟨y,hy,q⟩:=ih e;exact⟨y,N0 _ hy,q⟩
 exact go scope.names h
structure CompOk(X:Cx)(scope:Qk)(T M:List Str):Prop where
 calm:X.calm=true
 kind:scope.kind=.function
 cell:∀ y∈scope.names,y.2≠.cell
 names:∀ y∈scope.names,y.2=.local->scope.names.lookup y.1=some .local
 loc:∀ y∈scope.names,y.2=.local->y.1∈((".0":Str)::T)
 len:M.length=X.N.length
 sub:∀ (i:Nat) x,M[i]?=some x->X.N[i]?=some x\/∀ y∈scope.names,y.1≠x
 off:∀ x∈M,x∉((".0":Str)::T)
 free:∀ y∈scope.names,y.2=.free->X.env.kindOf y.1=some .cell\/X.env.kindOf y.1=some .free
def ent(T:List Str)(σ:St):St:=T.map (fun _=>none) ++ σ
section
variable{X:Cx}{pins:List (NR×Obj)}{σ:St}{H:Hp}{s:NP}
theorem Inv.block{scope:Qk}{T M:List Str}{fp:List NR}{h₁:Of}{tk:Nat}{cl:List (Str×NR)}(I:Inv X pins σ H s)(ok:CompOk X scope T M)(hf:∀ b∈fp,rF X pins H b)(ho:∀ b∈fp,∃ o,s.heap.get? b=some o)
  (hc1:∀ x c,cl.lookup x=some c->X.env.cells.lookup x=some c) (hc2:∀ x∈scope.names,x.2=.free->∃ c,cl.lookup x.1=some c)
  (hns:h₁.Ns s.heap.objs.size fun _=>none) (kp:∀ b o,s.heap.get? b=some o->h₁.get? b=some o):
  Inv (bU X (T ++ M) scope cl s.heap.objs.size s H fp) [] (ent T σ) H { s with heap:=h₁,toks:=tk }:=by
 have fpC:∀ b∈fp,b≠s.heap.objs.size:=fun b hb z=>by
  obtain⟨o,e⟩:=ho b hb;exact absurd (N7 e) (by rw[z];exact Nat.lt_irrefl _)
 have cellsOk:∀ x c,(bU X (T ++ M) scope cl s.heap.objs.size s H fp).env.cells.lookup x=some c->X.env.cells.lookup x=some c:=hc1;refine⟨⟨I.ok.mod,ok.kind,I.ok.glob,I.ok.blt,le_refl _,fun x y c h1 h2=>I.ok.inj x y c (hc1 x c h1) (hc1 y c h2),fun x hx=>?_,(fun x c h=>absurd h (by show ¬ (false=true);decide)),I.ok.hd,I.ok.frames,.inl rfl,fun b hb=>⟨fpC b hb,fun x c e=>(hf b hb).2.2.2.2.1 x c (hc1 x c e)⟩,I.bs,le_trans I.ok.bsz I.sz,fun b o e hb=>?_,fun b hb hs=>?_,I.stack,I.stkFree⟩,
  rfl,I.bare,Un.kept kp,⟨_,hns,fun i x v e1 e2 e3=>?_⟩,fun x c e=>?_,I.hok.fresh (le_refl _),fun x c e=>I.freeC x c (hc1 x c e),fun p hp=>absurd (show p∈([]:List (NR×Obj))from hp) (by simp),I.hok.kept kp,?_⟩
 ·obtain⟨y,hy,e,hfr⟩:=h9 ok.cell hx;rw[<- e];exact hc2 y hy hfr
 ·rcases (hf b hb).2.2.2.1 with z|z
  ·exact I.ok.noex b o e z
  ·exact absurd (Os (N7 e) (le_trans I.ok.bsz z)) (Nat.lt_irrefl _)
 ·rcases Oz.mp (I.stkSub b hs)with z|z
  ·exact (hf b hb).2.1 z
  ·exact (hf b hb).2.2.1 z
 ·-- a name that is known: it is drawn from around
  have hi:T.length<=i:=by
   refine Nat.le_of_not_lt fun hlt=>?_;unfold ent at e2;rw[List.getElem?_append_left (by simpa using hlt),N8]at e2
   cases q:T[i]? with
   | none=>rw[q]at e2;cases e2
   | some z=>rw[q]at e2;cases e2
  have e0':M[i - T.length]?=some x:=by
   have:=e1;show M[i - T.length]?=some x
   rw[<- List.getElem?_append_right hi];exact this
  have e1':X.N[i - T.length]?=some x:=by
   rcases ok.sub _ x e0' with z|z
   ·exact z
   ·exfalso;rcases e3 with e3|e3|e3
    ·obtain⟨y,hy,e,hl⟩:=ni e3;exact z y hy e
    ·obtain⟨y,hy,e,_⟩:=h9 ok.cell (.inl e3);exact z y hy e
    ·obtain⟨y,hy,e,_⟩:=h9 ok.cell (.inr e3);exact z y hy e
  have e2':σ[i - T.length]?=some (some v):=by
   unfold ent at e2;rw[List.getElem?_append_right (by simpa using hi),NS]at e2
   exact e2
  have Tw:(RY scope X.env).names.lookup x=some .cell\/(RY scope X.env).names.lookup x=some .free:=by
   rcases e3 with e3|e3|e3
   ·obtain⟨y,hy,e,hl⟩:=ni e3;exact absurd (by rw[<- e];exact ok.loc y hy hl) (ok.off x (N9 e0'))
   ·exact .inl e3
   ·exact .inr e3
  obtain⟨y,hy,e,hfr⟩:=h9 ok.cell Tw;subst e;have hk:=ok.free y hy hfr;obtain⟨m,hn,hl⟩:=I.loc;obtain⟨u,r,l⟩:=hl _ _ v e1' e2' (by rcases hk with hk|hk;exact .inr (.inl hk);exact .inr (.inr hk))
  refine⟨u,r,.inr ⟨Tw,?_⟩⟩;rcases l with ⟨l1,_⟩|⟨_,c,ec,z⟩
  ·rcases hk with hk|hk
   ·rw[hk]at l1;cases l1
   ·rw[hk]at l1;cases l1
  ·obtain⟨c',ec'⟩:=hc2 y hy hfr;have:=hc1 _ _ ec';rw[ec]at this;cases this;obtain⟨o,ho',hd⟩:=z;exact⟨c,ec',o,kp _ _ ho',hd⟩
 ·obtain⟨v,o,ho',hd⟩:=I.cell x c (hc1 x c e);exact⟨v,o,kp _ _ ho',hd⟩
 ·show (ent T σ).length=(T ++ M).length;unfold ent;rw[On,On,NS,I.len,ok.len]
end
section
variable{X:Cx}{elt tg iter:Oj}{ifs:List Oj}{scope:Qk}{T M:List Str}{pos:Pos}{wi:TI}{g:TG}{tt:TT}{te:TE}
theorem Aq{pins:List (NR×Obj)}{s2:NP}{σ:St}{H1:Hp}{Q:VK}{J:It}{it:NR}{fp:List NR}{tn:Nat->Of->Prop}{cl:List (Str×NR)}{RR:NO->NR->SC->NP->Prop}{E:NO->NP->Prop}(ok:CompOk X scope T M)
  (hin:∀ cl C s₀ H₀ fp,PG (bU X (T ++ M) scope cl C s₀ H₀ fp) tg g/\GS (bU X (T ++ M) scope cl C s₀ H₀ fp) ifs tt/\PE (bU X (T ++ M) scope cl C s₀ H₀ fp) elt te)
  (hc1:∀ x c,cl.lookup x=some c->X.env.cells.lookup x=some c) (hc2:∀ x∈scope.names,x.2=.free->∃ c,cl.lookup x.1=some c)
  (I2:Inv X pins σ H1 s2) (Tn:Turn X.prog X.w X.K tg J fp it tn) (st2:tn 0 s2.heap) (f2:∀ b∈fp,rF X pins H1 b)
  (h:∀ D,H1 D=none->∃ W:Nat->Nat->List V->St->Hp->Prop,(∃ m,W 0 m [] (ent T σ) (bq H1 D (.lst [])))/\
   ∀ i m ys σ1 H2,W i m ys σ1 H2->H2 D=some (.lst ys)/\((J.stop i H2/\Q (.ref D) H2)\/(J.go i H2/\∃ N:List V->St->Hp->Prop,(∀ ys' σ' H',N ys' σ' H'->∃ m',m' < m/\W (i+1) m' ys' σ' H')/\
    ∀ x H',J.yld i H2 x H'->g x σ1 H' fun σ2 H3=>tt σ2 H3 fun b H4=>if b=true then te σ2 H4 fun y H5=>H5 D=some (.lst ys)/\ys.length < NY/\N (ys ++ [y]) σ2 (bq H5 D (.lst (ys ++ [y])))else N ys σ2 H4)))
  (hRR:∀ D C H' s',Inv X pins σ H' s'->(∃ m,s'.heap.Ns C m)->H' C=none->C≠X.env.locals->X.s₀.heap.objs.size<=C->(∀ x c,X.env.cells.lookup x=some c->c≠C)->(∀ p∈X.pn ++ pins,p.1≠C)->Q (.ref D) H'->RR (.ref D) C (.ok .next) s'):
  NZ (N4 X.prog X.w) X.A (newList []) (fun acc s₃=>NZ (N4 X.prog X.w) X.A (newFunctionEnv scope X.env.globals cl [] X.env.qual none .none (some X.env)) (fun cenv s₄=>
   Qo (N4 X.prog X.w) X.A (.compStart (.ListComp elt [⟨tg,iter,ifs,0⟩] scope pos) 0 (.ref it) acc { cenv with scope:=RY scope X.env }) (RR acc cenv.locals) s₄) E s₃) E s2:=by
 refine OE ?_;have hD:H1 s2.heap.objs.size=none:=I2.hok.fresh (le_refl _);obtain⟨W,⟨m0,w0⟩,turn⟩:=h _ hD;have I3:Inv X pins σ (bq H1 s2.heap.objs.size (.lst [])) { s2 with heap:=s2.heap.push { cls:=.type "list",data:=.seq ([]:List NO).toArray } }:=I2.lnew (t':=s2.toks) .nil (OD _)
 have f3:∀ b∈fp,rF X pins (bq H1 s2.heap.objs.size (.lst [])) b:=fun b hb=>by
  have q:=f2 b hb;obtain⟨o,e,_⟩:=Tn.obj 0 _ st2 b hb;exact⟨by rw[aA (Oq (N7 e))];exact q.1,q.2⟩
 have st3:tn 0 (s2.heap.push { cls:=.type "list",data:=.seq ([]:List NO).toArray }):=Tn.keep _ _ _ st2 fun b _ o e=>NT _ e;generalize hs3:({ s2 with heap:=s2.heap.push { cls:=.type "list",data:=.seq ([]:List NO).toArray } }:NP)=s3 at I3 ⊢
 have T0:tn 0 s3.heap:=by rw[<- hs3];exact st3
 generalize hH3:bq H1 s2.heap.objs.size (.lst [])=H3 at I3 f3 w0;generalize hDD:s2.heap.objs.size=D at *
 refine wpAny_newFunctionEnv ok.cell (by intro y hy;simp at hy) (fun h₁ Uh hsb₁=>?_) ok.kind
 have kp:∀ b o,s3.heap.get? b=some o->h₁.get? b=some o:=fun b o e=>hsb₁.extBut b o (Oq (N7 e)) (NT _ e);have hns:h₁.Ns s3.heap.objs.size fun _=>none:=by simpa using Uh
 have I4:Inv (bU X (T ++ M) scope cl s3.heap.objs.size s3 H3 fp) [] (ent T σ) H3 { s3 with heap:=h₁,toks:=s3.toks+([]:List (Str×NO)).length }:=
  I3.block ok f3 (fun b hb=>let ⟨o,e,_⟩:=Tn.obj 0 _ T0 b hb;⟨o,e⟩) hc1 hc2 hns kp
 have st4:tn 0 h₁:=Tn.keep _ _ _ T0 fun b _ o e=>kp b o e;obtain⟨hG,hT,hE⟩:=hin cl s3.heap.objs.size s3 H3 fp;have back:∀ {To:List (NR×Obj)} {σ':St} {H':Hp} {s':NP},Inv (bU X (T ++ M) scope cl s3.heap.objs.size s3 H3 fp) To σ' H' s'->Inv X pins σ H' s':=fun {To σ' H' s'} I'=>
  I3.call' (ch:=fp) I'.os I'.base I'.hok I'.bare fun b hb=>let q:=f3 b hb;⟨q.2.2.2.1,q.2.1,q.2.2.2.2.1,q.2.2.2.2.2⟩
 have loop:∀ s4:NP,Inv (bU X (T ++ M) scope cl s3.heap.objs.size s3 H3 fp) [] (ent T σ) H3 s4->tn 0 s4.heap->
   Qo (N4 X.prog X.w) X.A (.compLoop (.ListComp elt [⟨tg,iter,ifs,0⟩] scope pos) 0 (.ref it) (.ref D) (compEnvC scope cl s3.heap.objs.size X.env)) (RR (.ref D) s3.heap.objs.size) s4:=by
  intro s4 I4 st4;have fpX:∀ {To:List (NR×Obj)} {H':Hp},To=[]->(∀ b∈fp,H' b=none)->∀ b∈fp,rF (bU X (T ++ M) scope cl s3.heap.objs.size s3 H3 fp) To H' b:=fun {To H'} ep hn b hb=>by
   subst ep;refine⟨hn b hb,(I4.ok.exf b hb).1,I4.ok.exfs b hb,.inl hb,(I4.ok.exf b hb).2,fun p hp=>absurd (show p∈([]:List (NR×Obj))from hp) (by simp)⟩
  refine mf (fun n s'=>∃ i ys σ' H',Inv (bU X (T ++ M) scope cl s3.heap.objs.size s3 H3 fp) [] σ' H' s'/\tn i s'.heap/\(∀ b∈fp,H' b=none)/\W i n ys σ' H') ?_ m0 ⟨0,[],ent T σ,H3,I4,st4,fun b hb=>(f3 b hb).1,w0⟩
  rintro n s5 ⟨i,ys,σ5,H5,I5,st5,fr5,w5⟩
  obtain⟨hDl,hstep⟩:=turn i n ys σ5 H5 w5;rcases hstep with ⟨stop,qn⟩|⟨go,N,hN,step⟩
  ·refine cz (Tn.done (bU X (T ++ M) scope cl s3.heap.objs.size s3 H3 fp) rfl rfl rfl ok.calm i [] s5 _ H5 _ I5 (fpX rfl fr5) st5 stop) fun r s6 zz=>?_;obtain⟨hr,I6⟩:=zz;subst hr;have I7:=back I6;obtain⟨m,hm,_⟩:=I6.loc;refine hRR D s3.heap.objs.size H5 s6 I7 ⟨m,hm⟩ I6.free ?_ ?_ ?_ ?_ qn
   ·exact Rb I3.lt
   ·exact I3.sz
   ·intro x c e z;obtain⟨v,q⟩:=I3.cell x c e;exact absurd q.lt (by rw[z];exact Nat.lt_irrefl _)
   ·intro p hp z;exact absurd (N7 (I3.pin p hp).1) (by rw[z];exact Nat.lt_irrefl _)
  ·refine cz (Tn.item (bU X (T ++ M) scope cl s3.heap.objs.size s3 H3 fp) rfl rfl rfl ok.calm i [] s5 _ H5 _ I5 (fpX rfl fr5) st5 go) fun r s6 zz=>?_;obtain⟨u,hr,h6⟩:=zz;subst hr;refine cz h6 fun _ s7 zz=>?_;obtain⟨x,H7,I7,r7,y7,st7,fr7⟩:=zz;have I7':=I7.pinned (fpX rfl fr7) (Tn.obj _ _ st7);refine cz (hG _ s7 _ H7 x u _ I7' r7 (step x H7 y7)) fun _ s8 zz=>?_;obtain⟨σ8,H8,I8,q8⟩:=zz;have again:∀ {s9:NP} {H9:Hp} {ys':List V},Inv (bU X (T ++ M) scope cl s3.heap.objs.size s3 H3 fp) ([] ++ qL fp s7.heap) σ8 H9 s9->N ys' σ8 H9->
     ∃ m,m < n/\∃ i ys σ' H',Inv (bU X (T ++ M) scope cl s3.heap.objs.size s3 H3 fp) [] σ' H' s9/\tn i s9.heap/\(∀ b∈fp,H' b=none)/\W i m ys σ' H':=fun {s9 H9 ys'} I9 n9=>by
    obtain⟨m',hm,w9⟩:=hN ys' σ8 H9 n9;refine⟨m',hm,i+1,ys',σ8,H9,I9.unpinned,Tn.keep _ _ _ st7 fun b hb o e=>(I9.pin (b,o) (Ox _ (Ox _ (ix hb e)))).1,fun b hb=>?_,w9⟩;obtain⟨o,e,d⟩:=Tn.obj _ _ st7 b hb;exact (I9.pin (b,o) (Ox _ (Ox _ (ix hb e)))).2.1
   refine cz (hT _ s8 σ8 H8 _ I8 q8) fun b s9 zz=>?_;obtain⟨H9,I9,q9⟩:=zz;cases b with
   | false=>exact again I9 q9
   | true=>
    refine cz (hE _ s9 σ8 H9 _ I9 q9) fun u10 s10 zz=>?_;obtain⟨y,H10,I10,r10,e10,l10,n10⟩:=zz;refine cz (wP (X:=bU X (T ++ M) scope cl s3.heap.objs.size s3 H3 fp) _ s10 σ8 H10 (.ref D) [y] (.ref D) [u10] (fun v H'=>v=.non/\H'=bq H10 D (.lst (ys ++ [y]))) I10 rfl (.cons r10 .nil) ⟨D,ys,y,rfl,rfl,e10,l10,rfl,rfl⟩) fun u11 s11 zz=>?_;obtain⟨z,H11,I11,r11,_,e11⟩:=zz;subst e11;exact again I11 n10
 exact codeAny_compStart_list (loop _ I4 st4) (Tn.self _ 0 _ _ _ st4 (loop _ I4 st4))
theorem CO(ok:CompOk X scope T M){pins:List (NR×Obj)}{σ:St}{H:Hp}{s:NP}(I:Inv X pins σ H s):∃ cl,S8 scope X.env=pure cl/\(∀ x c,cl.lookup x=some c->X.env.cells.lookup x=some c)/\(∀ x∈scope.names,x.2=.free->∃ c,cl.lookup x.1=some c):=
 BR scope.names scope rfl fun x hx hf=>I.ok.has x.1 (ok.free x hx hf)
theorem Cr(ok:CompOk X scope T M)
  (hin:∀ cl C s₀ H₀ fp,PG (bU X (T ++ M) scope cl C s₀ H₀ fp) tg g/\GS (bU X (T ++ M) scope cl C s₀ H₀ fp) ifs tt/\PE (bU X (T ++ M) scope cl C s₀ H₀ fp) elt te)
  (hi:PI X tg iter wi) (hs:∀ x,OU iter X.env x=pure x:=by intro _;rfl):PE X (.ListComp elt [⟨tg,iter,ifs,0⟩] scope pos) (B9 (ent T) wi g tt te):=by
 intro pins s σ H Q I h;obtain⟨cl,hcl,hc1,hc2⟩:=CO ok I;rw[eval_ListComp];refine Sd (use:=none) rfl hs hcl ok.kind ok.names (cz (hi pins s σ H _ I h) fun v s1 h1=>cz h1 fun itv s2 h2=>?_);obtain⟨it,fp,tn,J,H2,e,I2,Tn,st2,f2,hh⟩:=h2;subst e;refine Aq (Q:=Q) (RR:=fun acc C=>compPost (N4 X.prog X.w) X.A X.xe none (EP X pins σ Q) acc C) ok hin hc1 hc2 I2 Tn st2 f2 hh ?_;intro D C H' s' I' hm hn n1 n2 n3 n4 q;obtain⟨m,hm⟩:=hm;exact⟨m,hm,fun h' sb=>⟨.ref D,H',I'.turned (t':=s'.toks) (fun b o hb e=>(sb.2 b hb).trans e) hn (Ne.symm (Ne.symm n1)) (.inr n2) n3 n4,rfl,q⟩⟩
theorem HC{i:Nat}{x:Str}{px spos:Pos}(ok:CompOk X scope T M)(hN:X.N.Nodup)(hix:X.N[i]?=some x)(hx:X.env.scope.names.lookup x=some .local)
  (hin:∀ cl C s₀ H₀ fp,PG (bU X (T ++ M) scope cl C s₀ H₀ fp) tg g/\GS (bU X (T ++ M) scope cl C s₀ H₀ fp) ifs tt/\PE (bU X (T ++ M) scope cl C s₀ H₀ fp) elt te)
  (hi:PI X tg iter wi) (hsw:PQ (.ListComp elt [⟨tg,iter,ifs,0⟩] scope pos) (some (.Name x px)) spos.line X.env=pure true:=by rfl) (hs:∀ x,OU iter X.env x=pure x:=by intro _;rfl):
  PS X (.Assign [.Name x px] (.ListComp elt [⟨tg,iter,ifs,0⟩] scope pos) spos) (JQ (gh (B9 (ent T) wi g tt te)) (Af i)):=by
 intro pins s σ H D3 I h;obtain⟨cl,hcl,hc1,hc2⟩:=CO ok I;rw[exec_Assign_Name_used _ _ _ _ hsw];refine NN (Rp (NN ?_));show NZ _ X.A (do let _ <- comprehension (.ListComp elt [⟨tg,iter,ifs,0⟩] scope pos) scope X.env _ (newList []) false (eval iter X.env) (some (assign (.Name x px) X.env))) _ _ s
 refine NN (ON (Sd (use:=some (assign (.Name x px) X.env)) (Q:=fun _ s'=>SP X pins D3 .next s') rfl hs hcl ok.kind ok.names
  (cz (hi pins s σ H _ I h) fun v s1 h1=>cz h1 fun itv s2 h2=>?_)) (fun _ s' hq=>NQ (NQ hq)) fun _ _ e=>e)
 obtain⟨it,fp,tn,J,H2,e,I2,Tn,st2,f2,hh⟩:=h2;subst e;refine Aq (Q:=fun v H1=>Af i v σ H1 D3.nx\/∃ p xs,v=.ref p/\H1 p=some (.lst xs)/\∀ o,Af i v σ (bq H1 p (.frz o (.lst xs))) D3.nx) (RR:=fun acc C=>compPost (N4 X.prog X.w) X.A X.xe (some (assign (.Name x px) X.env)) (fun _ s'=>SP X pins D3 .next s') acc C) ok hin hc1 hc2 I2 Tn st2 f2 hh ?_;intro D C H' s' I' hm hn n1 n2 n3 n4 q;obtain⟨m,hm⟩:=hm;have fin:∀ {H'':Hp},Inv X pins σ H'' s'->H'' C=none->D3.nx (σ.set i (some (.ref D))) H''->
   NZ (N4 X.prog X.w) X.A (assign (.Name x px) X.env (.ref D)) (fun _ s''=>∃ m,s''.heap.Ns C m/\∀ h',Pz C s''.heap h'->SP X pins D3 .next { s'' with heap:=h' }) X.xe s':=fun {H''} J' hn' q'=>by
  refine Te (ww (v:=V.ref D) J' hN hix (.inl hx) rfl (fun s'' I'' ⟨a,sb,ha⟩=>?_) (.inr hx));have aC:C≠a:=by
   rcases ha with z|z
   ·rw[z];exact n1
   ·exact fun y=>n3 _ _ z y.symm
  refine⟨m,hm.sameBut sb aC,fun h' sb'=>⟨_,H'',I''.turned (t':=s''.toks) (fun b o hb e=>(sb'.2 b hb).trans e) hn' n1 (.inr n2) n3 n4,q'⟩⟩
 rcases q with q|⟨p,xs,ep,e1,q⟩
 ·exact fin I' hn q
 ·obtain⟨o,I''⟩:=I'.freeze e1;refine fin I'' ?_ (q o);rw[aA (fun z=>by subst z;rw[hn]at e1;cases e1)];exact hn
end
section
variable{X:Cx}{tg:Oj}
theorem PG.imp{e:Oj}{t t':TG}(h:PG X e t)(i:∀ v σ H Q,t' v σ H Q->t v σ H Q):PG X e t':=fun pins s σ H v u Q I r q=>h pins s σ H v u Q I r (i v σ H Q q)
theorem GL.imp{es:List Oj}{t t':IR}(h:GL X es t)(i:∀ vs σ H Q,t' vs σ H Q->t vs σ H Q):GL X es t':=fun pins s σ H v u Q I r q=>h pins s σ H v u Q I r (i v σ H Q q)
theorem PI.imp{e:Oj}{t t':TI}(h:PI X tg e t)(i:∀ σ H R,t' σ H R->t σ H R):PI X tg e t':=fun pins s σ H R I q=>h pins s σ H R I (i σ H R q)
variable{pins:List (NR×Obj)}{σ:St}{H:Hp}{s:NP}{R:It->Hp->Prop}{E:NO->NP->Prop}{a:NR}{xs:List V}
theorem rf(I:Inv X pins σ H s)(hq:jw X.K H a xs)(q:R (Mw X.K a) H):NZ (N4 X.prog X.w) X.A (QE (.ref a)) (JA X pins σ tg R) E s:=by
 obtain⟨its,rv,p,hz⟩:=I.list hq;refine QL p.isList ?_;refine⟨s.heap.objs.size,[s.heap.objs.size],_,_,H,rfl,I.kept (t':=s.toks) fun b o e=>NT _ e,C3 a _,⟨_,NW _ rfl,rfl,rfl⟩,fun b hb=>?_,q⟩;have e:b=s.heap.objs.size:=by simpa using hb
 subst e;exact I.fpOk (le_refl _) (I.hok.fresh (le_refl _))
theorem z_(I:Inv X pins σ H s)(hq:kL X.K H a xs)(q:R (Nh X.K a) H):NZ (N4 X.prog X.w) X.A (QE (.ref a)) (JA X pins σ tg R) E s:=by
 obtain⟨its,rv,p,hz⟩:=I.tuple hq;refine wpAny_pyIter_tuple (show s.heap.IsTuple a its.toArray from p) ?_
 refine⟨s.heap.objs.size,[s.heap.objs.size],_,_,H,rfl,I.kept (t':=s.toks) fun b o e=>NT _ e,AT a _,⟨_,NW _ rfl,rfl,rfl⟩,fun b hb=>?_,q⟩;have e:b=s.heap.objs.size:=by simpa using hb
 subst e;exact I.fpOk (le_refl _) (I.hok.fresh (le_refl _))
theorem Aa{z:Str}{t:Tok}(I:Inv X pins σ H s)(q:R (Ni (bm z)) H):NZ (N4 X.prog X.w) X.A (QE (.str z t)) (JA X pins σ tg R) E s:=by
 have fin:∀ (ty:String),(ty="str_ascii_iterator"\/ty="str_iterator")->JA X pins σ tg R (.ref s.heap.objs.size) { s with heap:=s.heap.push { cls:=.type ty,data:=.fields #[.str z t,.int 0 0] } }:=fun ty hty=>by
  refine⟨s.heap.objs.size,[s.heap.objs.size],_,_,H,rfl,I.kept (t':=s.toks) fun b o e=>NT _ e,Ex _ z t ty hty,⟨_,NW _ rfl,rfl,rfl⟩,fun b hb=>?_,q⟩;have e:b=s.heap.objs.size:=by simpa using hb
  subst e;exact I.fpOk (le_refl _) (I.hok.fresh (le_refl _))
 cases ha:z.cps.all (· < 128)
 ·exact wpAny_pyIter_wide ha (fin _ (.inr rfl))
 ·exact wpAny_pyIter_ascii ha (fin _ (.inl rfl))
end
end L2
namespace L3
open PySem PySem.Spec PyProof.Rows L2
abbrev vi:=D->ff->Gp->(ff->Gp->Prop)->Prop
abbrev D8:=List D->ff->Gp->(ff->Gp->Prop)->Prop
def jt(K:Sf)(g:vi):TG:=fun v τ H Q=>∃ d σ G Q3,RD K H d v/\RS K H σ τ/\RG K H G/\g d σ G Q3/\∀ σ' G' τ' H',Q3 σ' G'->Kp G H G' H'->RG K H' G'->RS K H' σ' τ'->Q τ' H'
def xX(K:Sf)(g:D8):IR:=fun vs τ H Q=>∃ ds σ G Q3,RDs K H ds vs/\RS K H σ τ/\RG K H G/\g ds σ G Q3/\∀ σ' G' τ' H',Q3 σ' G'->Kp G H G' H'->RG K H' G'->RS K H' σ' τ'->Q τ' H'
def gN(i:Nat):vi:=fun d σ G Q=>Q (σ.set i (some d)) G
def hX:D8:=fun ds σ G Q=>match ds with
 | []=>Q σ G
 | _=>False
def cr(t:vi)(u:D8):D8:=fun ds σ G Q=>match ds with
 | d::r=>t d σ G fun σ' G'=>u r σ' G' Q
 | []=>False
def hV(n:Nat)(t:D8):vi:=fun d σ G Q=>match d with
 | .tup ds=>ds.length=n/\t ds σ G Q
 | _=>False
section
variable{X:Cx}{pos:Pos}{e:Oj}{es:List Oj}{t:vi}{u:D8}
theorem aI{i:Nat}{x:Str}(hN:X.N.Nodup)(hi:X.N[i]?=some x)(hx:Lh X.env.scope x)(hf:X.fn x=true\/X.env.scope.names.lookup x=some .local:=by first|exact .inl rfl|exact .inr rfl|assumption):PG X (.Name x pos) (jt X.K (gN i)):=
 (HI hN hi hx hf).imp fun v τ H Q zz=>by
 obtain⟨d,σ,G,Q3,rd,rs,rg,h,k⟩:=zz;exact (
  k _ G _ H h Kp.refl rg (rs.set rd i))
theorem sn:GL X [] (xX X.K hX):=HH.imp fun vs τ H Q zz=>by
 obtain⟨ds,σ,G,Q3,rd,rs,rg,h,k⟩:=zz;cases ds with
 | nil=>exact⟨rd.inv_nil,k _ G _ H h Kp.refl rg rs⟩
 | cons _ _=>exact h.elim
theorem d5(h1:PG X e (jt X.K t))(h2:GL X es (xX X.K u))(hs:(Pw (e::es) X.env).map (·.2)=assign e X.env::(Pw es X.env).map (·.2):=by rfl):GL X (e::es) (xX X.K (cr t u)):=
 (Fm h1 h2 hs).imp fun vs τ H Q zz=>by
  obtain⟨ds,σ,G,Q3,rd,rs,rg,h,k⟩:=zz;cases ds with
  | nil=>exact h.elim
  | cons d r=>
   obtain⟨x,xs,e1,r1,r2⟩:=rd.inv_cons;refine⟨x,xs,e1,d,σ,G,_,r1,rs,rg,h,fun σ' G' τ' H' q k' rg' rs'=>⟨r,σ',G',Q3,RDs.mono (k'.stb rg) _ _ r2,rs',rg',q,fun σ2 G2 τ2 H2 q2 k2=>k σ2 G2 τ2 H2 q2 (k'.trans k2)⟩⟩
theorem sj{k:Nat}{n:Nat}(hc:X.calm=true)(h:GL X es (xX X.K u))(hn:(Pw es X.env).length=n:=by rfl)(hst:(Pw es X.env).findIdx? (·.1)=none:=by rfl):PG X (.Tuple es k pos) (jt X.K (hV n u)):=
 (J6 hc h hn hst).imp fun v τ H Q zz=>by
  obtain⟨d,σ,G,Q3,rd,rs,rg,h,k⟩:=zz;cases d with
  | tup ds=>
   simp only[RD]at rd;obtain⟨a,xs,e1,q,r⟩:=rd;exact⟨a,xs,e1,q,by rw[<- r.length];exact h.1,ds,σ,G,Q3,r,rs,rg,h.2,k⟩
  | _=>exact h.elim
end
abbrev GJ:=ff->Gp->(List D->Gp->Prop)->Prop
def wp(K:Sf)(G0:Gp)(H0:Hp)(ds:List D)(J:It):Prop:=∀ i G H,Kp G0 H0 G H->RG K H G->
 (i < ds.length->J.go i H/\∀ x H',J.yld i H x H'->Kp G H G H'/\RG K H' G/\∃ d,ds[i]?=some d/\RD K H' d x)/\(i=ds.length->J.stop i H)
def pV(K:Sf)(ti:GJ):TI:=fun τ H R=>∃ σ G Q3,RS K H σ τ/\RG K H G/\ti σ G Q3/\∀ ds G' J H',Q3 ds G'->Kp G H G' H'->RG K H' G'->wp K G' H' ds J->R J H'
def signs(x:Str):List D:=x.cps.toList.map fun c=>D.str ⟨#[c]⟩
theorem CH{K:Sf}{G0:Gp}{H0:Hp}{ds:List D}{xs:List V}(r:∀ H,RDs K H ds xs):wp K G0 H0 ds (Ni xs):=fun i G H _ rg=>by
 have hl:=(r H).length;refine⟨fun hi=>⟨(show i < xs.length by walk_at "o"),fun x H' y=>?_⟩,fun e=>(show i=xs.length by walk_at "o")⟩
 obtain⟨rfl,hx⟩:=y;refine⟨Kp.refl,rg,ds[i],by simp[hi],?_⟩
 obtain⟨y,e,q⟩:=(r H').get (i:=i) (d:=ds[i]) (by simp[hi])
 rw[hx]at e;cases e;exact q
theorem CI{K:Sf}{G0:Gp}{H0:Hp}{ds:List D}{xs:List V}{a:NR}(rg0:RG K H0 G0)(f:GP K H0 a xs)(r:RDs K H0 ds xs):wp K G0 H0 ds (Mw K a):=fun i G H k rg=>by
 have hl:=r.length;have f':=(k.stb rg0).l _ _ f;have r':=RDs.mono (k.stb rg0) _ _ r;refine⟨fun hi=>⟨⟨xs,xs[i]'(by walk_at "o"),f'.sq,by simp[show i < xs.length by walk_at "o"]⟩,fun x H' y=>?_⟩,fun e=>⟨xs,f'.sq,by walk_at "o"⟩⟩
 obtain⟨rfl,hx⟩:=y;refine⟨Kp.refl,rg,ds[i],by simp[hi],?_⟩
 obtain⟨y,e,q⟩:=r'.get (i:=i) (d:=ds[i]) (by simp[hi])
 rw[hx xs f'.sq]at e;cases e;exact q
theorem FX{K:Sf}{G0:Gp}{H0:Hp}{ds:List D}{xs:List V}{a:NR}(rg0:RG K H0 G0)(f:kL K H0 a xs)(r:RDs K H0 ds xs):wp K G0 H0 ds (Nh K a):=fun i G H k rg=>by
 have hl:=r.length;have f':=(k.stb rg0).t _ _ f;have r':=RDs.mono (k.stb rg0) _ _ r;refine⟨fun hi=>⟨⟨xs,xs[i]'(by walk_at "o"),f',by simp[show i < xs.length by walk_at "o"]⟩,fun x H' y=>?_⟩,fun e=>⟨xs,f',by walk_at "o"⟩⟩
 obtain⟨rfl,hx⟩:=y;refine⟨Kp.refl,rg,ds[i],by simp[hi],?_⟩
 obtain⟨y,e,q⟩:=r'.get (i:=i) (d:=ds[i]) (by simp[hi])
 rw[hx xs f']at e;cases e;exact q
def d9:D->Option (List D)
 | .lst ds=>some ds
 | .fl ds=>some ds
 | .tup ds=>some ds
 | .str x=>some (signs x)
 | _=>none
def eM(te:bG):GJ:=fun σ G Q=>te σ G fun d G'=>match d9 d with
 | some ds=>Q ds G'
 | none=>False
def dL(lo:Int)(n:Nat):List D:=(List.range n).map fun k=>D.int (lo+(k:Nat))
theorem Ab{K:Sf}{G0:Gp}{H0:Hp}{lo:Int}{n:Nat}:wp K G0 H0 (dL lo n) (Mv lo n):=fun i G H _ rg=>by
 have hl:(dL lo n).length=n:=by simp[dL]
 rw[hl];refine⟨fun hi=>⟨hi,fun x H' y=>?_⟩,fun e=>(show n<=i by walk_at "o")⟩
 obtain⟨rfl,rfl⟩:=y;exact⟨Kp.refl,rg,.int (lo+(i:Nat)),by simp[dL,hi],eE⟩
def KR(ta:nH):GJ:=fun σ G Q=>ta σ G fun ds G'=>match ds with
 | [.int j]=>(-(2 ^ 62)<=j/\j < 2 ^ 62)/\Q (dL 0 j.toNat) G'
 | _=>False
def Me(ta:nH):GJ:=fun σ G Q=>ta σ G fun ds G'=>match ds with
 | [.int i,.int j]=>(-(2 ^ 62)<=i/\i < 2 ^ 62/\-(2 ^ 62)<=j/\j < 2 ^ 62)/\Q (dL i (j - i).toNat) G'
 | _=>False
section
variable{X:Cx}{tg e:Oj}{te:bG}
theorem dG(h:PE X e (aB X.K te)):PI X tg e (pV X.K (eM te)):=by
 intro pins s τ H R I hq;obtain⟨σ,G,Q3,rs,rg,hq,k⟩:=hq;refine cz (d4 h pins s τ H (fun v H1=>∃ d G1,Kp G H G1 H1/\RG X.K H1 G1/\RD X.K H1 (val d) v/\(match d9 d with|some ds=>Q3 ds G1|none=>False)) I ⟨σ,G,_,rs,rg,hq,fun d G' v H' q k' rg' rd=>⟨d,G',k',rg',rd,q⟩⟩) fun u s1 zz=>?_
 obtain⟨v,H1,I1,r1,d,G1,k1,rg1,rd,q⟩:=zz;have seq:∀ {a:NR} {xs:List V} {ds:List D},GP X.K H1 a xs->RDs X.K H1 ds xs->Q3 ds G1->NZ (N4 X.prog X.w) X.A (QE (.ref a)) (JA X pins τ tg R) X.xe s1:=fun f r q=>rf I1 f.sq (k _ G1 _ H1 q k1 rg1 (CI rg1 f r));cases d with
 | lst ds=>
  simp only[val,RD]at rd;obtain⟨a,xs,rfl,f,r⟩:=rd;cases r1;exact seq f r q
 | fl ds=>
  simp only[val,RD]at rd;obtain⟨a,xs,rfl,f,r⟩:=rd;cases r1;exact seq f r q
 | tup ds=>
  simp only[val,RD]at rd;obtain⟨a,xs,rfl,f,r⟩:=rd;cases r1;exact z_ I1 f (k _ G1 _ H1 q k1 rg1 (FX rg1 f r))
 | str z=>
  simp only[val,RD]at rd;subst rd;obtain⟨t,rfl⟩:=r1;refine Aa I1 (k _ G1 _ H1 q k1 rg1 (CH fun H'=>?_));have:signs z=(z.cps.toList.map fun c=>(⟨#[c]⟩:Str)).map D.str:=by simp[signs]
  rw[this];have e2:bm z=(z.cps.toList.map fun c=>(⟨#[c]⟩:Str)).map V.str:=by simp[bm]
  rw[e2];exact RDs.strs _
 | _=>exact q.elim
theorem uQ{a:Oj}{ta:nH}{p pos:Pos}(hg:Gl X "range")(hm:X.mg "range"=none)(ha:PA X [a] (eK X.K ta))(hs:N5 [a] X.env=[(false,eval a X.env)]:=by rfl):PI X tg (.Call (.Name "range" p) [a] [] pos) (pV X.K (KR ta)):=
 (Dm hg hm ha hs).imp fun τ H R zz=>by
 obtain⟨σ,G,Q3,rs,rg,h,k⟩:=zz;exact (
  ⟨σ,G,_,rs,rg,h,fun ds G1 vs H1 q k1 rg1 rds=>by
    split at q
    ·rename_i j;obtain⟨x,r,e1,r1,r2⟩:=rds.inv_cons;have:=r2.inv_nil;simp only[RD]at r1;subst e1 this r1;exact⟨j,rfl,q.1.1,q.1.2,k _ G1 _ H1 q.2 k1 rg1 Ab⟩
    ·exact q.elim⟩)
theorem F1{a b:Oj}{ta:nH}{p pos:Pos}(hg:Gl X "range")(hm:X.mg "range"=none)(ha:PA X [a,b] (eK X.K ta))(hs:N5 [a,b] X.env=[(false,eval a X.env),(false,eval b X.env)]:=by rfl)(hs2:N5 [b] X.env=[(false,eval b X.env)]:=by rfl):
  PI X tg (.Call (.Name "range" p) [a,b] [] pos) (pV X.K (Me ta)):=
 (Dl hg hm ha hs hs2).imp fun τ H R zz=>by
 obtain⟨σ,G,Q3,rs,rg,h,k⟩:=zz;exact (
  ⟨σ,G,_,rs,rg,h,fun ds G1 vs H1 q k1 rg1 rds=>by
    split at q
    ·rename_i i j;obtain⟨x,r,e1,r1,r2⟩:=rds.inv_cons;obtain⟨x',r',e1',r1',r2'⟩:=r2.inv_cons;have:=r2'.inv_nil;simp only[RD]at r1 r1';subst e1 e1' this r1 r1';exact⟨i,j,rfl,q.1,k _ G1 _ H1 q.2 k1 rg1 Ab⟩
    ·exact q.elim⟩)
end
def ForIn(g:vi)(tb:ck)(E:Ends3)(σ:ff)(ds:List D)(G1:Gp):Prop:=∃ Pv:Nat->ff->Gp->Prop,Pv 0 σ G1/\
 (∀ (i:Nat) d σ' G',ds[i]?=some d->Pv i σ' G'->g d σ' G' fun σ2 G2=>tb { E with nx:=Pv (i+1),ct:=Pv (i+1),bk:=E.nx } σ2 G2)/\∀ σ' G',Pv ds.length σ' G'->E.nx σ' G'
def gL(ti:GJ)(g:vi)(tb:ck):ck:=fun D σ G=>ti σ G fun ds G1=>ForIn g tb D σ ds G1
theorem gv{X:Cx}{tg iter:Oj}{body:List Op}{ti:GJ}{g:vi}{tb:ck}{pos:Pos}(hp:Rm (N4 X.prog X.w) X.A X.env X.xe)(hc:X.calm=true)(hi:PI X tg iter (pV X.K ti))(hg:PG X tg (jt X.K g))(hb:rE X body (cB X.K tb))
  (hs:∀ x,OU iter X.env x=pure x:=by intro _;rfl):PS X (.For tg iter body [] pos) (cB X.K (gL ti g tb)):=
 (Fj hp hc hi hg hb hs).imp fun D τ H zz=>by
 obtain⟨σ,G,D3,rs,rg,h,k⟩:=zz;exact (
  ⟨σ,G,_,rs,rg,h,fun ds G1 J H1 q k1 rg1 it=>by
    obtain⟨Pv,p0,step,fin⟩:=q;refine⟨fun i m τ' H'=>m=ds.length - i/\i<=ds.length/\∃ σ' G',RS X.K H' σ' τ'/\RG X.K H' G'/\Pv i σ' G'/\Kp G1 H1 G' H',⟨ds.length,rfl,OD _,σ,G1,rs.mono (k1.stb rg),rg1,p0,Kp.refl⟩,?_⟩
    rintro i m τ' H' ⟨rfl,hi',σ',G',rs',rg',pv,k'⟩
    obtain⟨hgo,hstop⟩:=it i G' H' k' rg'
    by_cases hlt:i < ds.length
    ·obtain⟨go,yld⟩:=hgo hlt;refine .inr ⟨go,fun τ2 H2=>∃ σ2 G2,RS X.K H2 σ2 τ2/\RG X.K H2 G2/\Pv (i+1) σ2 G2/\Kp G1 H1 G2 H2,fun τ2 H2 ⟨σ2,G2,a,b,c,d⟩=>⟨ds.length - (i+1),by walk_at "o",rfl,hlt,σ2,G2,a,b,c,d⟩,fun x H2 y=>?_⟩
     obtain⟨ky,rgy,d,hd,rd⟩:=yld x H2 y;refine⟨d,σ',G',_,rd,rs'.mono (ky.stb rg'),rgy,step i d σ' G' hd pv,fun σ3 G3 τ3 H3 q3 k3 rg3 rs3=>?_⟩;have kk:Kp G1 H1 G3 H3:=k'.trans (ky.trans k3);have kG:Kp G H G3 H3:=k1.trans kk;refine⟨σ3,G3,_,rs3,rg3,q3,⟨fun σ4 G4 τ4 H4 q4 k4 rg4 rs4=>⟨σ4,G4,rs4,rg4,q4,kk.trans k4⟩,k.rt.base kG,fun σ4 G4 τ4 H4 q4 k4=>k.nx σ4 G4 τ4 H4 q4 (kG.trans k4),fun σ4 G4 τ4 H4 q4 k4 rg4 rs4=>⟨σ4,G4,rs4,rg4,q4,kk.trans k4⟩⟩⟩
    ·have e:i=ds.length:=by walk_at "o"
     refine .inl ⟨hstop e,k.nx σ' G' τ' H' (fin σ' G' (by rw[<- e];exact pv)) (k1.trans k') rg' rs'⟩⟩)
def fM:qt:=fun _ G Q=>Q true G
def vt(k:Nat)(g:vi)(tt:qt)(te:bG)(σ:ff)(ds:List D)(G1:Gp)(Q:m5):Prop:=ds.length<=NY/\∃ Pv:Nat->List D->Gp->Prop,Pv 0 [] G1/\
 (∀ (i:Nat) d acc G',ds[i]?=some d->Pv i acc G'->g d (List.replicate k none ++ σ) G' fun σ2 G2=>(k<=σ2.length/\σ2.drop k=σ)/\tt σ2 G2 fun b G3=>if b=true then te σ2 G3 fun y G4=>Pv (i+1) (acc ++ [val y]) G4 else Pv (i+1) acc G3)/\
 ∀ acc G',Pv ds.length acc G'->Q (.fl acc) G'
def dH(k:Nat)(ti:GJ)(g:vi)(tt:qt)(te:bG):bG:=fun σ G Q=>ti σ G fun ds G1=>vt k g tt te σ ds G1 Q
theorem gC{k:Nat}{g:vi}{te:bG}{σ:ff}{ds:List D}{G1:Gp}{Q:m5}(f:D->D)(hl:ds.length<=NY)
  (he:∀ d∈ds,∀ P:m5,(∀ y,val y=f d->P y G1)->g d (List.replicate k none ++ σ) G1 fun σ2 G2=>(k<=σ2.length/\σ2.drop k=σ)/\te σ2 G2 P) (hq:Q (.fl (ds.map f)) G1):vt k g fM te σ ds G1 Q:=by
 refine⟨hl,fun i acc G'=>acc=(ds.take i).map f/\G'=G1,⟨by simp,rfl⟩,fun i d acc G' hd ⟨ha,hG⟩=>?_,fun acc G' ⟨ha,hG⟩=>?_⟩
 ·subst hG;exact he d (N9 hd) (fun y G4=>acc ++ [val y]=(ds.take (i+1)).map f/\G4=G') fun y hy=>⟨by rw[ha,hy,Om,hd];simp,rfl⟩
 ·subst hG;rw[ha,Oo];exact hq
theorem Ar{k:Nat}{g:vi}{tt:qt}{te:bG}{σ:ff}{ds:List D}{G1:Gp}{Q:m5}(p:D->Bool)(f:D->D)(hl:ds.length<=NY)
  (he:∀ d∈ds,∀ (P:m5) (R:Gp->Prop),(p d=true->∀ y,val y=f d->P y G1)->(p d=false->R G1)->g d (List.replicate k none ++ σ) G1 fun σ2 G2=>(k<=σ2.length/\σ2.drop k=σ)/\tt σ2 G2 fun b G3=>if b=true then te σ2 G3 P else R G3)
  (hq:Q (.fl ((ds.filter p).map f)) G1):vt k g tt te σ ds G1 Q:=by
 refine⟨hl,fun i acc G'=>acc=((ds.take i).filter p).map f/\G'=G1,⟨by simp,rfl⟩,fun i d acc G' hd ⟨ha,hG⟩=>?_,fun acc G' ⟨ha,hG⟩=>?_⟩
 ·subst hG;have e:(ds.take (i+1)).filter p=(ds.take i).filter p ++ (if p d=true then [d]else []):=by
   rw[Om,hd,P5];cases hp:p d<;>simp[hp]
  refine he d (N9 hd) (fun y G4=>acc ++ [val y]=((ds.take (i+1)).filter p).map f/\G4=G') (fun G4=>acc=((ds.take (i+1)).filter p).map f/\G4=G') (fun hp y hy=>⟨?_,rfl⟩) fun hp=>⟨?_,rfl⟩
  ·rw[e,hp,ha,hy];simp
  ·rw[e,hp,ha];simp
 ·subst hG;rw[ha,Oo];exact hq
section
variable{X:Cx}{elt tg iter:Oj}{ifs:List Oj}{scope:Qk}{T M:List Str}{pos:Pos}{ti:GJ}{g:vi}{tt:qt}{te:bG}
theorem ES{K:Sf}{H:Hp}{σ:ff}{τ:St}(T:List Str)(r:RS K H σ τ):RS K H (List.replicate T.length none ++ σ) (ent T τ):=by
 unfold ent
 induction T with
 | nil=>exact r
 | cons a t ih=>exact .cons (show D_ K H none none from trivial) ih
theorem qD{K:Sf}{H:Hp}:∀ (k:Nat) {σ:ff} {τ:St},k<=σ.length->RS K H σ τ->RS K H (List.replicate k none ++ σ.drop k) τ
 | 0,_,_,_,r=>r
 | k+1,[],_,h,_=>absurd h (by simp)
 | k+1,a::t,_,h,.cons _ r=>.cons (show D_ K H none _ from trivial) (qD k (by simpa using h) r)
theorem w6{K:Sf}{τ:St}{H:Hp}{Q:VK}(h:aB K (dH T.length ti g tt te) τ H Q):
  B9 (ent T) (pV K ti) (jt K g) (cU K tt) (wR K te) τ H Q:=by
 obtain⟨σ,G,Q3,rs,rg,h,k⟩:=h;refine⟨σ,G,_,rs,rg,h,fun ds G1 J H1 q k1 rg1 it Da hD=>?_⟩;obtain⟨hsz,Pv,p0,step,fin⟩:=q;have kD:Kp G1 H1 G1 (bq H1 Da (.lst [])):=Kp.laid hD;have rgD:RG K (bq H1 Da (.lst [])) G1:=rg1.laid hD;have gD:G1 Da=none:=rg1.free hD;refine⟨fun i m ys τ2 H2=>m=ds.length - i/\i<=ds.length/\∃ acc G2,H2 Da=some (.lst ys)/\G2 Da=none/\RG K H2 G2/\RS K H2 (List.replicate T.length none ++ σ) τ2/\RDs K H2 acc ys/\acc.length<=i/\Pv i acc G2/\(∀ a h,a≠Da->H1 a=some h->G1 a=none->H2 a=some h/\G2 a=none),
  ⟨ds.length,rfl,OD _,[],G1,aN,gD,rgD,ES T (rs.mono ((k1.trans kD).stb rg)),RDs.nil,le_refl _,p0,fun a h ha e n=>⟨by rw[aA ha];exact e,n⟩⟩,?_⟩
 rintro i m ys τ2 H2 ⟨rfl,hi',acc,G2,eD,nD,rg2,rs2,ra,la,pv,k2⟩
 have k2':Kp G1 H1 G2 H2:=fun a h e n=>k2 a h (b_ e hD) e n;refine⟨eD,?_⟩;obtain⟨hgo,hstop⟩:=it i G2 H2 k2' rg2
 by_cases hlt:i < ds.length
 ·obtain⟨go,yld⟩:=hgo hlt;refine .inr ⟨go,fun ys' τ' H'=>∃ acc G',H' Da=some (.lst ys')/\G' Da=none/\RG K H' G'/\RS K H' (List.replicate T.length none ++ σ) τ'/\RDs K H' acc ys'/\acc.length<=i+1/\Pv (i+1) acc G'/\(∀ a h,a≠Da->H1 a=some h->G1 a=none->H' a=some h/\G' a=none),
   fun ys' τ' H' q'=>⟨ds.length - (i+1),by walk_at "o",rfl,hlt,q'⟩,fun x H3 y=>?_⟩
  obtain⟨ky,rgy,d,hd,rd⟩:=yld x H3 y;refine⟨d,List.replicate T.length none ++ σ,G2,_,rd,rs2.mono (ky.stb rg2),rgy,step i d acc G2 hd pv,fun σ4 G4 τ4 H4 q4 k4 rg4 rs4=>?_⟩;obtain⟨⟨hlen,hdrop⟩,q4⟩:=q4;have rs4':RS K H4 (List.replicate T.length none ++ σ) τ4:=by
   have:=qD T.length hlen rs4;rw[hdrop]at this;exact this
  refine⟨σ4,G4,_,rs4,rg4,q4,fun b G5 H5 q5 k5 rg5=>?_⟩;have e3:H3 Da=some (.lst ys):=(ky Da _ eD nD).1;have e4:=k4 Da _ e3 nD;have e5:=k5 Da _ e4.1 e4.2;have kk:∀ {G6:Gp} {H6:Hp},Kp G5 H5 G6 H6->∀ a h,a≠Da->H1 a=some h->G1 a=none->H6 a=some h/\G6 a=none:=fun k6 a h ha e n=>((((Kp.trans k2' ky).trans k4).trans k5).trans k6) a h e n;cases b with
  | false=>
   refine iteF ⟨acc,G5,e5.1,e5.2,rg5,rs4'.mono (k5.stb rg4),RDs.mono (((ky.trans k4).trans k5).stb rg2) _ _ ra,by walk_at "o",q5,kk Kp.refl⟩
  | true=>
   refine iteT ⟨σ4,G5,_,rs4.mono (k5.stb rg4),rg5,q5,fun yv G6 v H6 q6 k6 rg6 rd6=>?_⟩;have e6:=k6 Da _ e5.1 e5.2;have la':=ra.length;have st:Stb K H6 (bq H6 Da (.lst (ys ++ [v]))):=by
    constructor
    ·intro a zs q;rcases q with (q|⟨o,q⟩)|q
     ·exact .inl (.inl (by rw[aA (fun z=>by subst z;rw[e6.1]at q;cases q)];exact q))
     ·exact .inl (.inr ⟨o,by rw[aA (fun z=>by subst z;rw[e6.1]at q;cases q)];exact q⟩)
     ·exact .inr q
    ·intro a zs q;rcases q with ⟨o,q⟩|q
     ·exact .inl ⟨o,by rw[aA (fun z=>by subst z;rw[e6.1]at q;cases q)];exact q⟩
     ·exact .inr q
   refine⟨e6.1,by walk_at "o",acc ++ [val yv],G6,aN,e6.2,fun a o q=>?_,(rs4'.mono ((k5.trans k6).stb rg4)).mono st,?_,by simp;omega,q6,fun a h ha e n=>?_⟩
   ·obtain⟨h',q1,q2⟩:=rg6 a o q;exact⟨h',by rw[aA (fun z=>by subst z;rw[e6.2]at q;cases q)];exact q1,q2.mono st⟩
   ·exact RDs.append (RDs.mono st _ _ (RDs.mono ((((ky.trans k4).trans k5).trans k6).stb rg2) _ _ ra)) (RDs.cons (RD.mono st _ _ rd6) RDs.nil)
   ·rw[aA ha];exact kk k6 a h ha e n
 ·have e:i=ds.length:=by walk_at "o"
  refine .inl ⟨hstop e,k _ G2 _ H2 (fin acc G2 (by rw[<- e];exact pv)) (k1.trans k2') rg2 (.inl ⟨acc,Da,ys,rfl,rfl,eD,nD,ra,?_⟩)⟩
  exact k1.fr (mJ hD)
theorem gK:GS X [] (cU X.K fM):=fun pins s τ H Q I h=>by
 obtain⟨σ,G,Q3,rs,rg,h,k⟩:=h;exact Hy pins s τ H Q I (k true G H h Kp.refl rg)
theorem nK{c:Oj}{tc:qt}(h:PT X c (cU X.K tc)):GS X [c] (cU X.K tc):=Hx h
theorem fj(ok:CompOk X scope T M)
  (hin:∀ cl C s₀ H₀ fp,PG (bU X (T ++ M) scope cl C s₀ H₀ fp) tg (jt X.K g)/\GS (bU X (T ++ M) scope cl C s₀ H₀ fp) ifs (cU X.K tt)/\PE (bU X (T ++ M) scope cl C s₀ H₀ fp) elt (aB X.K te))
  (hi:PI X tg iter (pV X.K ti)) (hs:∀ x,OU iter X.env x=pure x:=by intro _;rfl):PE X (.ListComp elt [⟨tg,iter,ifs,0⟩] scope pos) (aB X.K (dH T.length ti g tt te)):=
 (Cr ok (fun cl C s₀ H₀ fp=>let ⟨a,b,c⟩:=hin cl C s₀ H₀ fp;⟨a,b,d4 c⟩) hi hs).imp fun _ _ _ h=>w6 h
theorem E8{i:Nat}{x:Str}{px spos:Pos}(ok:CompOk X scope T M)(hN:X.N.Nodup)(hix:X.N[i]?=some x)(hx:X.env.scope.names.lookup x=some .local)
  (hin:∀ cl C s₀ H₀ fp,PG (bU X (T ++ M) scope cl C s₀ H₀ fp) tg (jt X.K g)/\GS (bU X (T ++ M) scope cl C s₀ H₀ fp) ifs (cU X.K tt)/\PE (bU X (T ++ M) scope cl C s₀ H₀ fp) elt (aB X.K te))
  (hi:PI X tg iter (pV X.K ti)) (hsw:PQ (.ListComp elt [⟨tg,iter,ifs,0⟩] scope pos) (some (.Name x px)) spos.line X.env=pure true:=by rfl) (hs:∀ x,OU iter X.env x=pure x:=by intro _;rfl):
  PS X (.Assign [.Name x px] (.ListComp elt [⟨tg,iter,ifs,0⟩] scope pos) spos) (cB X.K (bn i (dH T.length ti g tt te))):=
 (HC ok hN hix hx (fun cl C s₀ H₀ fp=>let ⟨a,b,c⟩:=hin cl C s₀ H₀ fp;⟨a,b,d4 c⟩) hi hsw hs).imp fun D τ H zz=>by
  obtain⟨σ,G,D3,rs,rg,h,k⟩:=zz;refine w6 (Q:=fun v H1=>D.nx (τ.set i (some v)) H1\/∃ p xs,v=.ref p/\H1 p=some (.lst xs)/\∀ o,D.nx (τ.set i (some v)) (bq H1 p (.frz o (.lst xs)))) ⟨σ,G,_,rs,rg,h,fun d G' v H' q k' rg' re=>?_⟩;cases d with
  | fl ds=>
   obtain⟨p,xs,rfl,e1,e2,e3,e4⟩:=re.fl;refine .inr ⟨p,xs,rfl,e1,fun o=>?_⟩;obtain⟨rg2,st⟩:=BJ (o:=o) rg' e1 e2;exact k.nx _ G' _ _ q (F5 (K:=X.K) k' e4) rg2 (((rs.mono (k'.stb rg)).mono st).set (qK (.inl ⟨o,aN⟩) (RDs.mono st _ _ e3)) i)
  | _=>exact .inl (k.nx _ G' _ H' q k' rg' ((rs.mono (k'.stb rg)).set (re.rd (by intro ds z;cases z)) i))
end
open PySem.SeqAt
def d6(x y:D):Bool:=@decide (x=y) (Classical.propDecidable _)
theorem iO{x y:D}:d6 x y=true↔x=y:=by unfold d6;exact @decide_eq_true_iff _ (Classical.propDecidable _)
theorem bb(x:D):d6 x x=true:=iO.mpr rfl
theorem F_{x y:D}(h:x=y):d6 x y=true:=iO.mpr h
theorem bz{x y:D}(h:x≠y):d6 x y=false:=by
 cases e:d6 x y with
 | false=>rfl
 | true=>exact absurd (iO.mp e) h
theorem qj{x y:D}{b:Bool}(h:(b=true)↔x=y):d6 x y=b:=by
 cases b with
 | true=>exact F_ (h.mp rfl)
 | false=>exact bz fun e=>nomatch h.mpr e
def pl:Nat->D->Prop
 | _,.non=>True
 | _,.int _=>True
 | _,.str _=>True
 | n+1,.tup ds=>∀ d∈ds,pl n d
 | n+1,.lst ds=>∀ d∈ds,pl n d
 | _,_=>False
section
variable{X:Cx}{pins:List (NR×Obj)}{σ:St}{H:Hp}{s:NP}
theorem Cw(I:Inv X pins σ H s){a:NR}{xs ys:List V}(h1:kL X.K H a xs)(h2:jw X.K H a ys):False:=by
 obtain⟨_,_,⟨o,e,c,_⟩,_⟩:=I.tuple h1;obtain⟨_,_,p,_⟩:=I.list h2;obtain⟨o',e',c',_⟩:=p.isList;rw[e]at e';cases e';rw[c]at c';injection c' with z
 exact absurd z (by decide)
theorem E2(I:Inv X pins σ H s):∀ (n:Nat) {x y:D} {v:V},pl n x->pl n y->RD X.K H x v->RD X.K H y v->x=y:=by
 intro n
 induction n with
 | zero=>
  intro x y v px py rx ry;cases x<;>first|exact px.elim|(cases y<;>first|exact py.elim|(simp only[RD]at rx ry;subst rx;first|rfl|(cases ry;rfl)|cases ry))
 | succ n ih=>
  have seq:∀ {ds es:List D} {xs:List V},(∀ d∈ds,pl n d)->(∀ d∈es,pl n d)->RDs X.K H ds xs->RDs X.K H es xs->ds=es:=by
   intro ds
   induction ds with
   | nil=>
    intro es xs _ _ r1 r2;have:=r1.inv_nil;subst this;cases es with
    | nil=>rfl
    | cons e t=>have:=r2.length;simp at this
   | cons d t ihd=>
    intro es xs p1 p2 r1 r2;obtain⟨v,vs,e1,a1,b1⟩:=r1.inv_cons;subst e1;cases es with
    | nil=>have:=r2.length;simp at this
    | cons e u=>
     obtain⟨v',vs',e2,a2,b2⟩:=r2.inv_cons;cases e2;rw[ih (p1 d N3) (p2 e N3) a1 a2,ihd (fun z hz=>p1 z (N0 _ hz)) (fun z hz=>p2 z (N0 _ hz)) b1 b2]
  intro x y v px py rx ry;cases x with
  | tup ds=>
   simp only[RD]at rx;obtain⟨a,xs,rfl,s1,r1⟩:=rx;cases y with
   | tup es=>
    simp only[RD]at ry;obtain⟨b,ys,e,s2,r2⟩:=ry;cases e;have:=I.tuple_inj s1 s2;subst this;rw[seq px py r1 r2]
   | lst es=>
    simp only[RD]at ry;obtain⟨b,ys,e,s2,r2⟩:=ry;cases e;exact (Cw I s1 s2.sq).elim
   | _=>first|exact py.elim|(simp only[RD]at ry;cases ry)
  | lst ds=>
   simp only[RD]at rx;obtain⟨a,xs,rfl,s1,r1⟩:=rx;cases y with
   | lst es=>
    simp only[RD]at ry;obtain⟨b,ys,e,s2,r2⟩:=ry;cases e;have:=I.list_inj s1.sq s2.sq;subst this;rw[seq px py r1 r2]
   | tup es=>
    simp only[RD]at ry;obtain⟨b,ys,e,s2,r2⟩:=ry;cases e;exact (Cw I s2 s1.sq).elim
   | _=>first|exact py.elim|(simp only[RD]at ry;cases ry)
  | _=>first|exact px.elim|(cases y with
   | tup es=>simp only[RD]at rx ry;obtain⟨b,ys,e,_⟩:=ry;rw[rx]at e;cases e
   | lst es=>simp only[RD]at rx ry;obtain⟨b,ys,e,_⟩:=ry;rw[rx]at e;cases e
   | _=>first|exact py.elim|(simp only[RD]at rx ry;subst rx;first|rfl|(cases ry;rfl)|cases ry))
structure Cmp3(A:Oc)(s:NP)(v u:NO)(b:Bool):Prop where
 eq:EqAt A s v u b
 rc:RcAt A s v u b
 ne:RcNeAt A s v u (!b)
theorem yR{ds es:List D}(n:Nat)(hn:n=min ds.length es.length):((List.range n).all (fun j=>d6 (ds.getD j .non) (es.getD j .non)) && ds.length == es.length)=d6 (.tup ds) (.tup es):=by
 symm;refine qj ?_;rw[Bool.and_eq_true,List.all_eq_true,beq_iff_eq];constructor
 ·rintro⟨h1,h2⟩
  congr 1;refine List.ext_getElem h2 fun i hi hj=>?_;have:=iO.mp (h1 i (mem_range.mpr (by walk_at "o")))
  rw[Oe,Oe,NV hi,NV hj]at this
  simpa using this
 ·intro h;cases h;exact⟨fun i _=>bb _,rfl⟩
theorem Iz{ds es:List D}:d6 (.lst ds) (.lst es)=d6 (.tup ds) (.tup es):=qj (by rw[iO];constructor<;>(intro h;cases h;rfl))
theorem Vals.getV:∀ {xs:List V} {us:List NO} {i:Nat} {u:NO},Vals xs us->us[i]?=some u->∃ x,xs[i]?=some x/\aF x u
 | _,_,_,_,.nil,e=>by simp at e
 | _,_,0,_,.cons r _,e=>by simp at e;subst e;exact⟨_,rfl,r⟩
 | _,_,i+1,u,.cons _ t,e=>by
  obtain⟨x,h1,h2⟩:=Vals.getV (i:=i) (u:=u) t (by simpa using e)
  exact⟨x,by simpa using h1,h2⟩
theorem RDs.getV{K:Sf}{H:Hp}:∀ {ds:List D} {xs:List V} {i:Nat} {x:V},RDs K H ds xs->xs[i]?=some x->∃ d,ds[i]?=some d/\RD K H d x
 | [],xs,i,x,h,e=>by rw[h.inv_nil]at e;simp at e
 | d::ds,xs,i,x,h,e=>by
  obtain⟨y,r,e1,h1,h2⟩:=h.inv_cons;subst e1;cases i with
  | zero=>simp at e;subst e;exact⟨d,rfl,h1⟩
  | succ i=>
   obtain⟨z,q1,q2⟩:=RDs.getV (i:=i) (x:=x) h2 (by simpa using e)
   exact⟨z,by simpa using q1,q2⟩
def sc:D->Prop
 | .non=>True
 | .int _=>True
 | .str _=>True
 | _=>False
theorem K4{j:Int}{t:Tok}{A:Oc}:Cmp3 A s .none (.int j t) (d6 .non (.int j)):=by rw[bz (by intro z;cases z)];exact⟨EqAt.none_int _ _,RcAt.none_int _ _,RcNeAt.none_int _ _⟩
theorem K2{j:Str}{t:Tok}{A:Oc}:Cmp3 A s .none (.str j t) (d6 .non (.str j)):=by rw[bz (by intro z;cases z)];exact⟨EqAt.none_str _ _,RcAt.none_str _ _,RcNeAt.none_str _ _⟩
theorem K6{j:Int}{t:Tok}{A:Oc}:Cmp3 A s (.int j t) .none (d6 (.int j) .non):=by rw[bz (by intro z;cases z)];exact⟨EqAt.int_none _ _,RcAt.int_none _ _,RcNeAt.int_none _ _⟩
theorem K0{j:Str}{t:Tok}{A:Oc}:Cmp3 A s (.str j t) .none (d6 (.str j) .non):=by rw[bz (by intro z;cases z)];exact⟨EqAt.str_none _ _,RcAt.str_none _ _,RcNeAt.str_none _ _⟩
theorem K5{i:Int}{j:Str}{t u:Tok}{A:Oc}:Cmp3 A s (.int i t) (.str j u) (d6 (.int i) (.str j)):=by rw[bz (by intro z;cases z)];exact⟨EqAt.int_str _ _ _ _,RcAt.int_str _ _ _ _,RcNeAt.int_str _ _ _ _⟩
theorem K1{i:Str}{j:Int}{t u:Tok}{A:Oc}:Cmp3 A s (.str i t) (.int j u) (d6 (.str i) (.int j)):=by rw[bz (by intro z;cases z)];exact⟨EqAt.str_int _ _ _ _,RcAt.str_int _ _ _ _,RcNeAt.str_int _ _ _ _⟩
theorem K7{i j:Int}{t u:Tok}{A:Oc}:Cmp3 A s (.int i t) (.int j u) (d6 (.int i) (.int j)):=by
 have e:d6 (.int i) (.int j)=(i == j):=qj (by rw[beq_iff_eq];exact⟨fun z=>by rw[z],fun z=>by cases z;rfl⟩)
 rw[e];exact⟨EqAt.int_int _ _ _ _,RcAt.int_int _ _ _ _,RcNeAt.int_int _ _ _ _⟩
theorem KZ{i j:Str}{t u:Tok}{A:Oc}:Cmp3 A s (.str i t) (.str j u) (d6 (.str i) (.str j)):=by
 have e:d6 (.str i) (.str j)=(i == j):=qj (by rw[beq_iff_eq];exact⟨fun z=>by rw[z],fun z=>by cases z;rfl⟩)
 rw[e];exact⟨EqAt.str_str _ _ _ _,RcAt.str_str _ _ _ _,RcNeAt.str_str _ _ _ _⟩
theorem K3{A:Oc}:Cmp3 A s .none .none (d6 .non .non):=by rw[bb];exact⟨EqAt.same _,RcAt.none_none,RcNeAt.none_none⟩
theorem qw{K:Sf}{x:D}{v:V}{v':NO}(h:sc x)(r:RD K H x v)(l:aF v v'):(x=.non/\v'=.none)\/(∃ i t,x=.int i/\v'=.int i t)\/(∃ i t,x=.str i/\v'=.str i t):=by
 cases x with
 | non=>simp only[RD]at r;subst r;exact .inl ⟨rfl,l⟩
 | int i=>simp only[RD]at r;subst r;obtain⟨t,e⟩:=l;exact .inr (.inl ⟨i,t,rfl,e⟩)
 | str i=>simp only[RD]at r;subst r;obtain⟨t,e⟩:=l;exact .inr (.inr ⟨i,t,rfl,e⟩)
 | _=>exact h.elim
theorem Gm{K:Sf}{A:Oc}{x y:D}{v u:V}{v' u':NO}(h1:sc x)(h2:sc y)(rx:RD K H x v)(ry:RD K H y u)(lx:aF v v')(ly:aF u u'):Cmp3 A s v' u' (d6 x y):=by
 rcases qw h1 rx lx with ⟨rfl,rfl⟩|⟨i,t,rfl,rfl⟩|⟨i,t,rfl,rfl⟩
 ·rcases qw h2 ry ly with ⟨rfl,rfl⟩|⟨j,u,rfl,rfl⟩|⟨j,u,rfl,rfl⟩
  ·exact K3
  ·exact K4
  ·exact K2
 ·rcases qw h2 ry ly with ⟨rfl,rfl⟩|⟨j,u,rfl,rfl⟩|⟨j,u,rfl,rfl⟩
  ·exact K6
  ·exact K7
  ·exact K5
 ·rcases qw h2 ry ly with ⟨rfl,rfl⟩|⟨j,u,rfl,rfl⟩|⟨j,u,rfl,rfl⟩
  ·exact K0
  ·exact K1
  ·exact KZ
theorem wA{n:Nat}{x:D}(p:pl n x):sc x\/(∃ m ds,n=m+1/\x=.tup ds/\∀ d∈ds,pl m d)\/(∃ m ds,n=m+1/\x=.lst ds/\∀ d∈ds,pl m d):=by
 cases x with
 | non=>exact .inl trivial
 | int _=>exact .inl trivial
 | str _=>exact .inl trivial
 | tup ds=>cases n with
  | zero=>exact p.elim
  | succ m=>exact .inr (.inl ⟨m,ds,rfl,rfl,p⟩)
 | lst ds=>cases n with
  | zero=>exact p.elim
  | succ m=>exact .inr (.inr ⟨m,ds,rfl,rfl,p⟩)
 | bl _=>cases n<;>exact p.elim
 | fl _=>cases n<;>exact p.elim
 | ref _=>cases n<;>exact p.elim
 | ty _=>cases n<;>exact p.elim
theorem Gj{K:Sf}{A:Oc}{b:NR}{its:Array NO}{es:List D}(hu0:A.units < OL)(t2:s.heap.IsTuple b its){x:D}{v:V}{v':NO}(h:sc x)(rx:RD K H x v)(lx:aF v v'):Cmp3 A s v' (.ref b) (d6 x (.tup es))/\Cmp3 A s (.ref b) v' (d6 (.tup es) x):=by
 rcases qw h rx lx with ⟨rfl,rfl⟩|⟨i,t,rfl,rfl⟩|⟨i,t,rfl,rfl⟩
 ·rw[bz (by intro z;cases z),bz (by intro z;cases z)]
  exact⟨⟨EqAt.none_tuple t2 hu0,RcAt.none_tuple t2 hu0,RcNeAt.none_tuple t2 hu0⟩,⟨EqAt.tuple_none t2 hu0,RcAt.tuple_none t2 hu0,RcNeAt.tuple_none t2 hu0⟩⟩
 ·rw[bz (by intro z;cases z),bz (by intro z;cases z)]
  exact⟨⟨EqAt.int_tuple _ _ t2 hu0,RcAt.int_tuple _ _ t2 hu0,RcNeAt.int_tuple _ _ t2 hu0⟩,⟨EqAt.tuple_int _ _ t2 hu0,RcAt.tuple_int _ _ t2 hu0,RcNeAt.tuple_int _ _ t2 hu0⟩⟩
 ·rw[bz (by intro z;cases z),bz (by intro z;cases z)]
  exact⟨⟨EqAt.str_tuple _ _ t2 hu0,RcAt.str_tuple _ _ t2 hu0,RcNeAt.str_tuple _ _ t2 hu0⟩,⟨EqAt.tuple_str _ _ t2 hu0,RcAt.tuple_str _ _ t2 hu0,RcNeAt.tuple_str _ _ t2 hu0⟩⟩
theorem Gk{K:Sf}{A:Oc}{b:NR}{its:Array NO}{es:List D}(hu0:A.units < OL)(t2:s.heap.IsList b its){x:D}{v:V}{v':NO}(h:sc x)(rx:RD K H x v)(lx:aF v v'):Cmp3 A s v' (.ref b) (d6 x (.lst es))/\Cmp3 A s (.ref b) v' (d6 (.lst es) x):=by
 rcases qw h rx lx with ⟨rfl,rfl⟩|⟨i,t,rfl,rfl⟩|⟨i,t,rfl,rfl⟩
 ·rw[bz (by intro z;cases z),bz (by intro z;cases z)]
  exact⟨⟨EqAt.none_list t2 hu0,RcAt.none_list t2 hu0,RcNeAt.none_list t2 hu0⟩,⟨EqAt.list_none t2 hu0,RcAt.list_none t2 hu0,RcNeAt.list_none t2 hu0⟩⟩
 ·rw[bz (by intro z;cases z),bz (by intro z;cases z)]
  exact⟨⟨EqAt.int_list _ _ t2 hu0,RcAt.int_list _ _ t2 hu0,RcNeAt.int_list _ _ t2 hu0⟩,⟨EqAt.list_int _ _ t2 hu0,RcAt.list_int _ _ t2 hu0,RcNeAt.list_int _ _ t2 hu0⟩⟩
 ·rw[bz (by intro z;cases z),bz (by intro z;cases z)]
  exact⟨⟨EqAt.str_list _ _ t2 hu0,RcAt.str_list _ _ t2 hu0,RcNeAt.str_list _ _ t2 hu0⟩,⟨EqAt.list_str _ _ t2 hu0,RcAt.list_str _ _ t2 hu0,RcNeAt.list_str _ _ t2 hu0⟩⟩
theorem As(I:Inv X pins σ H s):∀ (n:Nat) {x y:D} {v u:V} {v' u':NO} {A:Oc},pl n x->pl n y->RD X.K H x v->RD X.K H y u->aF v v'->aF u u'->A.units+n < OL->Cmp3 A s v' u' (d6 x y):=by
 intro n
 induction n with
 | zero=>
  intro x y v u v' u' A px py rx ry lx ly hu;rcases wA px with h1|⟨m,_,e,_⟩|⟨m,_,e,_⟩
  ·rcases wA py with h2|⟨m,_,e,_⟩|⟨m,_,e,_⟩
   ·exact Gm h1 h2 rx ry lx ly
   ·cases e
   ·cases e
  ·cases e
  ·cases e
 | succ n ih=>
  intro x y v u v' u' A px py rx ry lx ly hu;have hu0:A.units < OL:=by walk_at "o"
  have hu1:A.in1.units+n < OL:=by show A.units+1+n < OL;omega
  have items:∀ {ds es:List D} {xs ys:List V} {its its2:List NO},(∀ d∈ds,pl n d)->(∀ d∈es,pl n d)->RDs X.K H ds xs->RDs X.K H es ys->Vals xs its->Vals ys its2->
    ∀ j (h1:j < its.toArray.size) (h2:j < its2.toArray.size),EqAt A.in1 s its.toArray[j] its2.toArray[j] (d6 (ds.getD j .non) (es.getD j .non)):=by
   intro ds es xs ys its its2 p1 p2 r1 r2 w1 w2 j h1 h2;obtain⟨x1,e1,q1⟩:=Vals.getV (i:=j) (u:=its.toArray[j]) w1 (by simp at h1;simp[h1])
   obtain⟨x2,e2,q2⟩:=Vals.getV (i:=j) (u:=its2.toArray[j]) w2 (by simp at h2;simp[h2])
   obtain⟨d1,f1,g1⟩:=RDs.getV r1 e1;obtain⟨d2,f2,g2⟩:=RDs.getV r2 e2;have:=(ih (A:=A.in1) (p1 d1 (N9 f1)) (p2 d2 (N9 f2)) g1 g2 q1 q2 hu1).eq;rw[Oe,Oe,f1,f2];exact this
  rcases wA px with h1|⟨m,ds,e1,rfl,p1⟩|⟨m,ds,e1,rfl,p1⟩
  ·rcases wA py with h2|⟨m,es,e2,rfl,p2⟩|⟨m,es,e2,rfl,p2⟩
   ·exact Gm h1 h2 rx ry lx ly
   ·simp only[RD]at ry;obtain⟨b,ys,rfl,s2,r2⟩:=ry;cases ly;obtain⟨its2,w2,t2,z2⟩:=I.tuple s2;exact (Gj hu0 t2 h1 rx lx).1
   ·simp only[RD]at ry;obtain⟨b,ys,rfl,s2,r2⟩:=ry;cases ly;obtain⟨its2,w2,t2,z2⟩:=I.list s2.sq;exact (Gk hu0 t2.isList h1 rx lx).1
  ·cases e1;simp only[RD]at rx;obtain⟨a,xs,rfl,s1,r1⟩:=rx;cases lx;obtain⟨its,w1,t1,z1⟩:=I.tuple s1;have l1:=w1.length;have l1':=r1.length;rcases wA py with h2|⟨m,es,e2,rfl,p2⟩|⟨m,es,e2,rfl,p2⟩
   ·exact (Gj hu0 t1 h2 ry ly).2
   ·cases e2;simp only[RD]at ry;obtain⟨b,ys,rfl,s2,r2⟩:=ry;cases ly;obtain⟨its2,w2,t2,z2⟩:=I.tuple s2;have l2:=w2.length;have l2':=r2.length;have he:=items p1 p2 r1 r2 w1 w2;have hsz:its.toArray.size=ds.length:=by simp only[N6];omega
    have TM:its2.toArray.size=es.length:=by simp only[N6];omega
    have rc:=RcAt.tuples (A:=A) t1 t2 hu0 he;have rn:=RcNeAt.tuples (A:=A) t1 t2 hu0 he;rw[hsz,TM,yR _ rfl]at rc;rw[hsz,TM,yR _ rfl]at rn;refine⟨?_,rc,rn⟩
    by_cases hab:a=b
    ·subst hab;have:D.tup ds=D.tup es:=E2 I (n+1) (v:=.ref a) px py (qJ s1 r1) (qJ s2 r2);rw[this,bb];exact EqAt.same _
    ·exact EqAt.of_refs hab rc
   ·simp only[RD]at ry;obtain⟨b,ys,rfl,s2,r2⟩:=ry;cases ly;obtain⟨its2,w2,t2,z2⟩:=I.list s2.sq;rw[bz (by intro z;cases z)]
    exact⟨EqAt.tuple_list t1 t2.isList hu0,RcAt.tuple_list t1 t2.isList hu0,RcNeAt.tuple_list t1 t2.isList hu0⟩
  ·cases e1;simp only[RD]at rx;obtain⟨a,xs,rfl,s1,r1⟩:=rx;cases lx;obtain⟨its,w1,t1,z1⟩:=I.list s1.sq;have l1:=w1.length;have l1':=r1.length;rcases wA py with h2|⟨m,es,e2,rfl,p2⟩|⟨m,es,e2,rfl,p2⟩
   ·exact (Gk hu0 t1.isList h2 ry ly).2
   ·simp only[RD]at ry;obtain⟨b,ys,rfl,s2,r2⟩:=ry;cases ly;obtain⟨its2,w2,t2,z2⟩:=I.tuple s2;rw[bz (by intro z;cases z)]
    exact⟨EqAt.list_tuple t1.isList t2 hu0,RcAt.list_tuple t1.isList t2 hu0,RcNeAt.list_tuple t1.isList t2 hu0⟩
   ·cases e2;simp only[RD]at ry;obtain⟨b,ys,rfl,s2,r2⟩:=ry;cases ly;obtain⟨its2,w2,t2,z2⟩:=I.list s2.sq;have l2:=w2.length;have l2':=r2.length;have he:=items p1 p2 r1 r2 w1 w2;have hsz:its.toArray.size=ds.length:=by simp only[N6];omega
    have TM:its2.toArray.size=es.length:=by simp only[N6];omega
    have rc:RcAt A s (.ref a) (.ref b) (d6 (.lst ds) (.lst es))/\RcNeAt A s (.ref a) (.ref b) (!d6 (.lst ds) (.lst es)):=by
     rw[Iz]
     by_cases hl:ds.length=es.length
     ·have rc:=RcAt.lists (A:=A) t1.isList t2.isList (by walk_at "o") hu0 he
      have rn:=RcNeAt.lists (A:=A) t1.isList t2.isList (by walk_at "o") hu0 he
      have e:=yR (ds:=ds) (es:=es) its.toArray.size (by walk_at "o")
      rw[hl,beq_self_eq_true,Bool.and_true]at e;rw[e]at rc rn;exact⟨rc,rn⟩
     ·rw[bz (by intro z;cases z;exact hl rfl)]
      exact⟨RcAt.lists_lengths t1.isList t2.isList (by rw[hsz,TM];simpa using hl) hu0,RcNeAt.lists_lengths t1.isList t2.isList (by rw[hsz,TM];simpa using hl) hu0⟩
    refine⟨?_,rc.1,rc.2⟩
    by_cases hab:a=b
    ·subst hab;have:D.lst ds=D.lst es:=E2 I (n+1) (v:=.ref a) px py (qK s1 r1) (qK s2 r2);rw[this,bb];exact EqAt.same _
    ·exact EqAt.of_refs hab rc.1
end
end L3
namespace L2
open PySem PySem.Spec PyProof.Rows
def gT(cs:List Nat)(lo hi:Option Int):List Nat:=(cs.drop (HT.sIx cs.length 0 lo)).take (HT.sIx cs.length cs.length hi - HT.sIx cs.length 0 lo)
theorem Fl(cs:Array Nat)(i k:Nat):(List.range k).filterMap (fun m=>cs[i+m]?)=(cs.toList.drop i).take k:=by
 induction k generalizing i with
 | zero=>simp
 | succ k ih=>
  rw[List.range_succ_eq_map,Pc,List.filterMap_map];have e:(fun m=>cs[i+m]?) ∘ Nat.succ=fun m=>cs[(i+1)+m]?:=by funext m;simp[Nat.succ_eq_add_one];congr 1;omega
  rw[e,ih (i+1)];cases h:cs.toList.drop i with
  | nil=>
   have hl:cs.toList.length<=i:=List.drop_eq_nil_iff.mp h;have h1:cs[i+0]?=none:=by simp at hl;simp[hl]
   have h2:cs.toList.drop (i+1)=[]:=List.drop_eq_nil_iff.mpr (by walk_at "o")
   rw[h1,h2];simp
  | cons c r=>
   have hlt:i < cs.toList.length:=by
    refine Nat.lt_of_not_le fun hle=>?_;rw[List.drop_eq_nil_iff.mpr hle]at h;cases h
   have h0:=OS hlt;rw[h]at h0;cases h0;have h1:cs[i+0]?=some cs.toList[i]:=by simp at hlt;simp[hlt]
   rw[h1,List.take_succ_cons]
theorem At(n:Nat)(o:Option Int)(d:Nat)(hd:d<=n):(match o with
  | none=>(d:Int)
  | some i=>max 0 (min (if i < 0 then i+(n:Int)else i) (n:Int)))=((HT.sIx n d o:Nat):Int):=by
 cases o with
 | none=>rfl
 | some i=>
  simp only[HT.sIx]
  by_cases h:i < 0
  ·simp only[h,if_true];omega
  ·simp only[h,if_false];omega
theorem uP(lo hi:Option Int)(n:Nat):O5 lo hi 1 n=(List.range (HT.sIx n n hi - HT.sIx n 0 lo)).map fun m=>HT.sIx n 0 lo+m:=by
 have h1:=At n lo 0 (OD _);have h2:=At n hi n (le_refl _);have e:O5 lo hi 1 n=S4 ((HT.sIx n 0 lo:Nat):Int) ((HT.sIx n n hi:Nat):Int) 1:=by
  rw[<- h1,<- h2];unfold O5;cases lo<;>cases hi<;>simp
 rw[e];unfold S4;simp only[show (1:Int) > 0 by decide,if_true]
 have c:(if ((HT.sIx n 0 lo:Nat):Int) < ((HT.sIx n n hi:Nat):Int)then (((HT.sIx n n hi:Nat):Int) - ((HT.sIx n 0 lo:Nat):Int)+1 - 1) / 1 else 0).toNat=HT.sIx n n hi - HT.sIx n 0 lo:=by
  rw[Int.ediv_one];split<;>omega
 rw[c];refine O0 fun k _=>?_;omega
theorem va(cs:List Nat)(lo hi:Option Int):(gT cs lo hi).length<=cs.length:=by
 unfold gT;rw[Ou,O8];omega
theorem C8(x:Str)(lo hi:Option Int):Txt.slice x lo hi=⟨(gT x.cps.toList lo hi).toArray⟩:=by
 have hn:x.length=x.cps.toList.length:=by simp[Pe]
 have key:(O5 lo hi 1 x.length).filterMap (x.cps[·]?)=gT x.cps.toList lo hi:=by
  rw[uP,List.filterMap_map];unfold gT;rw[<- hn,<- Fl];rfl
 unfold Txt.slice;split
 ·rename_i h;rw[Bool.and_eq_true]at h;have hl:(O5 lo hi 1 x.length).length=x.length:=by simpa using h.2
  rw[uP,NS,Qz]at hl;have b1:HT.sIx x.length x.length hi<=x.length:=HT.sIx_le _ _ (le_refl _) _;have h0:HT.sIx x.length 0 lo=0\/x.length=0:=by walk_at "o"
  have e:gT x.cps.toList lo hi=x.cps.toList:=by
   unfold gT;rw[<- hn];rcases h0 with h0|h0
   ·have h3:HT.sIx x.length x.length hi=x.length:=by walk_at "o"
    rw[h0,h3,QC,RA,hn,Oo]
   ·have:x.cps.toList=[]:=List.length_eq_zero_iff.mp (by walk_at "o")
    rw[this];simp
  rw[e]
 ·rw[key]
section
variable{X:Cx}
theorem Hg{ns:List Str}:∀ {us:List NO},Vals (ns.map V.str) us->StrsAre us ns:=by
 induction ns with
 | nil=>intro us r;cases r;exact .nil
 | cons n t ih=>
  intro us r;cases r with
  | cons a b=>
   obtain⟨tk,rfl⟩:=a;exact .cons n tk (ih b)
theorem Ib:Ln X "str.join" (fun x xs H Q=>∃ (z:Str) (a:NR) (ys:List Str),x=.str z/\xs=[.ref a]/\jw X.K H a (ys.map V.str)/\(ys.map (·.length)).sum+ys.length*z.length<=16777216/\Q (.str (SR z ys)) H):=by
 intro pins s σ H x xs v us Q I rx rs h;obtain⟨z,a,ys,rfl,rfl,hq,hl,q⟩:=h;obtain⟨t,rfl⟩:=rx;obtain⟨u,rfl,ru⟩:=rJ rs;cases ru;obtain⟨its,rv,p,hz⟩:=I.list hq;exact join_list p.isList (by simpa using Hg rv) hl fun t' k=>⟨.str _,H,I.tok k,⟨t',rfl⟩,q⟩
def zB(x:Str)(k:Nat):Str:=⟨(List.replicate k x.cps.toList).flatten.toArray⟩
theorem rp(x:Array Nat):∀ (k:Nat) (acc:List Nat),(List.replicate k x).foldl (· ++ ·) acc.toArray=(acc ++ (List.replicate k x.toList).flatten).toArray
 | 0,acc=>by simp
 | k+1,acc=>by
  rw[List.replicate_succ,QY,List.replicate_succ,List.flatten_cons];have:acc.toArray ++ x=(acc ++ x.toList).toArray:=by simp
  rw[this,rp x k];simp
theorem Bp:ig X (Pd .Mult) (fun x y H Q=>∃ z n,x=.str z/\y=.int n/\-(2 ^ 63)<=n/\n < 2 ^ 63/\z.length*n.toNat<=NY/\Q (.str (zB z n.toNat)) H):=by
 intro pins s σ H x y v u Q I rx ry h;obtain⟨z,n,rfl,rfl,h1,h2,hl,q⟩:=h;obtain⟨t,rfl⟩:=rx;obtain⟨t',rfl⟩:=ry;have hn:=lV;have len_rep:(zB z n.toNat).length=z.length*n.toNat:=by
  simp[zB,Pe,Nat.mul_comm]
 have bound:¬ n < 1->(z.length:Int)<=(2 ^ 63 - 1) / n:=fun h=>by
  rw[Int.le_ediv_iff_mul_le (by walk_at "o")]
  have e:(z.length:Int)*n=((z.length*n.toNat:Nat):Int):=by
   rw[Int.natCast_mul,Int.toNat_of_nonneg (by walk_at "o")]
  rw[e];omega
 refine PySem.P.mul_str (by rw[decide_eq_false (by walk_at "o"),decide_eq_false (by walk_at "o")];rfl) (fun h _=>by have:=bound h;omega) (fun h _=>?_) ?_
 ·unfold Builtin.Str.tooLong;exact decide_eq_false (by walk_at "o")
 ·have fin:∀ tk s',Inv X pins σ H s'->∀ w,w=zB z n.toNat->EP X pins σ Q (.str w tk) s':=fun tk s' I' w e=>⟨.str (zB z n.toNat),H,I',⟨tk,by rw[e]⟩,q⟩
  split
  ·rename_i hlt;have:n.toNat=0:=by walk_at "o"
   exact⟨by decide,fin _ _ (I.tok _) _ (by rw[this];rfl)⟩
  ·split
   ·rename_i hlt he;refine fin _ _ I _ ?_;rw[Bool.or_eq_true]at he;rcases he with he|he
    ·have:n=1:=by simpa using he
     subst this;simp[zB]
    ·have hz:z.length=0:=by simpa using he
     have hz':z.cps=#[]:=Array.eq_empty_of_size_eq_zero hz;cases z;simp only at hz';subst hz';simp[zB]
   ·refine⟨?_,fin _ _ (I.tok _) _ ?_⟩
    ·show (⟨_⟩:Str).length<=NY;have e:=rp z.cps n.toNat [];simp only[Pj]at e;rw[show (#[]:Array Nat)=[].toArray from rfl,e]
     exact le_trans (Nat.le_of_eq len_rep) hl
    ·have e:=rp z.cps n.toNat [];simp only[Pj]at e;rw[show (#[]:Array Nat)=[].toArray from rfl,e]
     rfl
theorem JS:D9 X (fun x lo hi H Q=>∃ z,x=.str z/\z.length<=NY/\Q (.str ⟨(gT z.cps.toList lo hi).toArray⟩) H):=by
 intro pins s σ H x v vl vu lo hi sl Q I rx hs pl pu h;obtain⟨z,rfl,hz,q⟩:=h;obtain⟨t,rfl⟩:=rx;refine⟨"str",_,PySem.F.slot_str_getitem.lookup,R4 _ _ _,?_⟩;have part:∀ {v:NO} {o:Option Int},Q0 v o->∃ p:Option (Int×Tok),v=Si p/\p.map (·.1)=o:=by
  intro v o h;cases h with
  | none=>exact⟨none,rfl,rfl⟩
  | int i t=>exact⟨some (i,t),rfl,rfl⟩
 obtain⟨pl',e1,f1⟩:=part pl;obtain⟨pu',e2,f2⟩:=part pu;subst e1 e2;refine Sh (l:=pl') (u:=pu') (st:=none) ?_ rfl ?_
 ·obtain⟨o,a,b,c⟩:=hs;exact⟨o,a,b,c⟩
 ·unfold sliceMade;subst f1 f2;have e:(if (((none:Option (Int×Tok)).map (·.1)).getD 1 == 1 && (slicePicked z pl' pu' none).length == z.length)=true then z else ⟨((slicePicked z pl' pu' none).filterMap (z.cps[·]?)).toArray⟩)=(⟨(gT z.cps.toList (pl'.map (·.1)) (pu'.map (·.1))).toArray⟩:Str):=by
   rw[<- C8];rfl
  refine post_val_or_str ⟨?_,fun t' k=>?_⟩
  ·rw[e];show (gT z.cps.toList (pl'.map (·.1)) (pu'.map (·.1))).toArray.size<=NY
   rw[N6];refine le_trans (va _ _ _) ?_
   simpa[Pe]using hz
  ·rw[e];exact⟨.str _,H,I.tok k,⟨t',rfl⟩,q⟩
end
end L2
namespace L3
open PySem PySem.Spec PyProof.Rows L2
def pU(K:Sf)(r3:R3):R2:=fun v u H Q=>∃ x y G Q3,RD K H x v/\RD K H y u/\RG K H G/\r3 x y G Q3/\vm K G H Q3 Q
def eU(r:R3)(ta tb:bG):bG:=fun σ G Q=>ta σ G fun x G1=>tb σ G1 fun y G2=>r (val x) (val y) G2 Q
section
variable{X:Cx}{a b c:Oj}{ta tb tc:bG}{pos:Pos}{r:R3}
theorem Lp{K:Sf}{Q:VK}{τ:St}{H:Hp}(h:aB K (eU r ta tb) τ H Q):Ll (pU K r) (wR K ta) (wR K tb) τ H Q:=by
 obtain⟨σ,G,Q3,rs,rg,h,k⟩:=h;refine⟨σ,G,_,rs,rg,h,fun x G1 v H1 h1 k1 rg1 re1=>⟨σ,G1,_,rs.mono (k1.stb rg),rg1,h1,fun y G2 u H2 h2 k2 rg2 re2=>?_⟩⟩;exact⟨val x,val y,G2,Q3,RD.mono (k2.stb rg1) _ _ re1,re2,rg2,h2,k.base (k1.trans k2)⟩
theorem Ki{op:Q5}(ho:ig X (Oy op) (pU X.K r))(ha:PE X a (aB X.K ta))(hb:PE X b (aB X.K tb))(hm:OT op b=false):PE X (.Compare a [op] [b] pos) (aB X.K (eU r ta tb)):=
 (HL ho (d4 ha) (d4 hb) hm).imp fun _ _ _ h=>Lp h
theorem bx{op:Q5}(ho:ig X (Oy op) (pU X.K r))(ha:PE X a (aB X.K ta))(hb:PE X b (aB X.K tb))(hm:OT op b=false):PT X (.Compare a [op] [b] pos) (cU X.K (cj (eU r ta tb))):=
 (Co ho (d4 ha) (d4 hb) hm).imp fun _ _ _ h=>Lp (xq h)
def vV:R3:=fun x y G Q=>match x,y with
 | .bl a,.bl b=>Q (.bl (a == b)) G
 | x,y=>pl 8 x/\pl 8 y/\Q (.bl (d6 x y)) G
def zK:R3:=fun x y G Q=>match x,y with
 | .bl a,.bl b=>Q (.bl (!(a == b))) G
 | x,y=>pl 8 x/\pl 8 y/\Q (.bl (!d6 x y)) G
theorem mO(hu:X.A.units+8 < OL):ig X (Oy .Eq) (pU X.K vV):=by
 rintro pins s σ H v u v' u' Q I rv ru ⟨x,y,G,Q3,rx,ry,rg,h,k⟩
 unfold vV at h;split at h
 ·rename_i a b;simp only[RD]at rx ry;subst rx ry;cases rv;cases ru;exact SeqAt.RcAt.bool_bool a b X.prog X.w X.xe _ ⟨.bl (a == b),H,I,rfl,k _ G _ H h Kp.refl rg (.of im)⟩
 ·obtain⟨p1,p2,q⟩:=h;exact (As I 8 p1 p2 rx ry rv ru hu).rc X.prog X.w X.xe _ ⟨.bl _,H,I,rfl,k _ G _ H q Kp.refl rg (.of im)⟩
theorem sD(hu:X.A.units+8 < OL):ig X (Oy .NotEq) (pU X.K zK):=by
 rintro pins s σ H v u v' u' Q I rv ru ⟨x,y,G,Q3,rx,ry,rg,h,k⟩
 unfold zK at h;split at h
 ·rename_i a b;simp only[RD]at rx ry;subst rx ry;cases rv;cases ru;exact SeqAt.RcNeAt.bool_bool a b X.prog X.w X.xe _ ⟨.bl (!(a == b)),H,I,rfl,k _ G _ H h Kp.refl rg (.of im)⟩
 ·obtain⟨p1,p2,q⟩:=h;exact (As I 8 p1 p2 rx ry rv ru hu).ne X.prog X.w X.xe _ ⟨.bl _,H,I,rfl,k _ G _ H q Kp.refl rg (.of im)⟩
abbrev c5:=List D->Gp->m5->Prop
def cD(K:Sf)(sp:c5):Sp:=fun vs H Q _=>∃ ds G Q3,RDs K H ds vs/\RG K H G/\sp ds G Q3/\vm K G H Q3 Q
def eW(N:List Str)(ds:List D):ff:=ds.map some ++ List.replicate (N.length - ds.length) none
theorem ER{K:Sf}{H:Hp}{N:List Str}{ds:List D}{vs:List V}(r:RDs K H ds vs):RS K H (eW N ds) (L2.start N vs):=by
 unfold eW L2.start;have hl:=r.length;rw[hl];have rep:∀ n:Nat,QR (D_ K H) (List.replicate n none) (List.replicate n none):=fun n=>by
  induction n with
  | zero=>exact .nil
  | succ n ih=>exact .cons (show D_ K H none none from trivial) ih
 have go:∀ {ds:List D} {vs:List V} {σ:ff} {τ:St},RDs K H ds vs->QR (D_ K H) σ τ->QR (D_ K H) (ds.map some ++ σ) (vs.map some ++ τ):=by
  intro ds
  induction ds with
  | nil=>intro vs σ τ r q;rw[r.inv_nil];exact q
  | cons d t ih=>
   intro vs σ τ r q;obtain⟨x,xs,e,h1,h2⟩:=r.inv_cons;subst e;exact .cons (show D_ K H (some d) (some x)from h1) (ih h2 q)
 exact go r (rep _)
variable{P:N_}{w:Og}{K:Sf}{mg:Str->Option NO}{base:Of}
structure Fn3(P:N_)(w:Og)(K:Sf)(mg:Str->Option NO)(base:Of)(k:Nat)(x:Str)(dds:List D)(sp:c5):Prop where
 ex:∃ f fd ps ds dvs,FnOk P w K mg base vy k f fd ps (cD K sp)/\mg x=some (.ref f)/\Sz K (.ref f)=true/\gJ K fd ps ds/\Vals dvs ds/\∀ H,RDs K H dds dvs
structure Mt3(P:N_)(w:Og)(K:Sf)(mg:Str->Option NO)(base:Of)(k:Nat)(C:NR)(m:Str)(dds:List D)(sp:c5):Prop where
 cl:Cls K C
 ex:∃ f fd ps ds dvs,FnOk P w K mg base vy k f fd ps (cD K sp)/\Meth K C m f/\gJ K fd ps ds/\Vals dvs ds/\∀ H,RDs K H dds dvs
structure Mk3(P:N_)(w:Og)(K:Sf)(mg:Str->Option NO)(base:Of)(k:Nat)(x:Str)(C:NR)(dds:List D)(sp:c5):Prop where
 ex:∃ f fd ps ds dvs,Mk K C f/\mg x=some (.ref C)/\FnOk P w K mg base vy k f fd ps (cD K sp)/\gJ K fd ps ds/\Vals dvs ds/\∀ H,RDs K H dds dvs
def aK(sp:c5)(dds:List D)(ta:nH):bG:=fun σ G Q=>ta σ G fun ds G1=>sp (ds ++ dds) G1 Q
def cR(C:NR)(L:List Str)(sp:c5)(dds:List D)(to:bG)(ta:nH):bG:=fun σ G Q=>to σ G fun x G1=>match x with
 | .ref a=>match G1 a with
  | some (.ins C' L' _)=>(C'=C/\L'=L)/\ta σ G1 fun ds G2=>sp (.ref a::(ds ++ dds)) G2 Q
  | _=>False
 | _=>False
def kJ(C:NR)(sp:c5)(dds:List D)(ta:nH):bG:=fun σ G Q=>ta σ G fun ds G1=>∀ a,G1 a=none->sp (.ref a::(ds ++ dds)) (gset G1 a (.ins C [] [])) fun d G2=>d=.non/\Q (.ref a) G2
variable{e o:Oj}{es:List Oj}{t:nH}{te to:bG}{k:Nat}{x m:Str}{p apos:Pos}{dds:List D}{sp:c5}{C:NR}
theorem D5{Q:VK}{τ:St}{H:Hp}{dvs:List V}(hd:∀ H,RDs K H dds dvs)(h:aB K (aK sp dds t) τ H Q)(E:XK):Je (cD K sp) dvs E (eK K t) τ H Q:=by
 obtain⟨σ,G,Q3,rs,rg,h,kk⟩:=h;exact⟨σ,G,_,rs,rg,h,fun ds G1 vs H1 q k1 rg1 rds=>⟨ds ++ dds,G1,Q3,rds.append (hd H1),rg1,q,kk.base k1⟩⟩
theorem aG(F:Fn3 X.prog X.w X.K X.mg X.base k x dds sp)(hr:Room k X.A)(hg:Gl X x)(ha:PA X (e::es) (eK X.K t))(hdb:(x == ("__debug__":Str))=false:=by decide)(he:N5 (e::es) X.env=(false,eval e X.env)::N5 es X.env:=by rfl)
  (hpl:(OW pos (N5 es X.env)).any (·.1)=false:=by rfl):PE X (.Call (.Name x p) (e::es) [] pos) (aB X.K (aK sp dds t)):=by
 obtain⟨f,fd,ps,ds,dvs,ok,hm,hk,hb,hv,hd⟩:=F.ex;exact (HM ok hr hg hm hk hb hv wL ha hdb he hpl).imp fun _ _ _ h=>D5 hd h E0
theorem qS{K:Sf}{gs:List (Str×V)}{L:List Str}{m:Str}(h:gs.map (·.1)=L)(n:m∉L):gs.lookup m=none:=by
 subst h
 induction gs with
 | nil=>rfl
 | cons g r ih=>
  obtain⟨y,v⟩:=g;rw[Od,Oz,not_or]at n;rw[O7,show (m == y)=false by simpa using n.1]
  exact ih n.2
theorem Du{Q:VK}{τ:St}{H:Hp}{dvs:List V}{L:List Str}(hL:m∉L)(hd:∀ H,RDs K H dds dvs)(h:aB K (cR C L sp dds to t) τ H Q)(E:XK):EC C m (cD K sp) dvs E (aB K to) (eK K t) τ H Q:=by
 obtain⟨σ,G,Q3,rs,rg,h,kk⟩:=h;refine⟨σ,G,_,rs,rg,h,fun d G1 v H1 q k1 rg1 re=>?_⟩;cases d with
 | ref a=>
  dsimp only at q;split at q
  ·rename_i C' L' ds hg;obtain⟨⟨rfl,rfl⟩,q⟩:=q;obtain⟨ho,e1,ro⟩:=rg1 a _ hg;cases ho with
   | ins C2 dx gs=>
    obtain⟨rfl,r2,r3⟩:=ro;refine⟨a,dx,gs,re.ref,e1,qS (K:=K) r2 hL,σ,G1,_,rs.mono (k1.stb rg),rg1,q,fun ds' G2 vs H2 q2 k2 rg2 rds=>?_⟩;rw[re.ref];exact⟨.ref a::(ds' ++ dds),G2,Q3,RDs.cons gM (rds.append (hd H2)),rg2,q2,kk.base (k1.trans k2)⟩
   | _=>exact ro.elim
  ·exact q.elim
 | _=>exact q.elim
theorem fU{pl:Sem Bool}{L:List Str}(F:Mt3 X.prog X.w X.K X.mg X.base k C m dds sp)(hL:m∉L)(hr:Room k X.A)(ho:PE X o (aB X.K to))(ha:PA X (e::es) (eK X.K t))
  (hst:N5 (e::es) X.env=(false,eval e X.env)::N5 es X.env:=by rfl) (hpl:(OW pos (N5 es X.env)).any (·.1)=false:=by rfl)
  (ht:eval (.Call (.Attribute o m apos) (e::es) [] pos) X.env=(do
   let ov <- eval o X.env
   Qw apos.atName
   let (f,first) <- holding [ov] (QB ov m pl)
   RH pos f first (OW pos (N5 (e::es) X.env)) (Qq pos (Ps [] X.env))):=by rfl):
  PE X (.Call (.Attribute o m apos) (e::es) [] pos) (aB X.K (cR C L sp dds to t)):=by
 obtain⟨f,fd,ps,ds,dvs,ok,hm,hb,hv,hd⟩:=F.ex;exact (HJ ho F.cl hm ok hr hb hv wL ha hst hpl ht).imp fun _ _ _ h=>Du hL hd h E0
theorem eQ{pl:Sem Bool}{L:List Str}(F:Mt3 X.prog X.w X.K X.mg X.base k C m dds sp)(hL:m∉L)(hr:Room k X.A)(ho:PE X o (aB X.K to))
  (ht:eval (.Call (.Attribute o m apos) [] [] pos) X.env=(do
   let ov <- eval o X.env
   Qw apos.atName
   let (f,first) <- holding [ov] (QB ov m pl)
   RH pos f first (OW pos (N5 [] X.env)) (Qq pos (Ps [] X.env))):=by rfl):
  PE X (.Call (.Attribute o m apos) [] [] pos) (aB X.K (cR C L sp dds to au)):=by
 obtain⟨f,fd,ps,ds,dvs,ok,hm,hb,hv,hd⟩:=F.ex;refine (Fp ho F.cl hm ok hr hb hv wL ht).imp fun τ H Q h=>?_;obtain⟨σ,G,Q3,rs,rg,h,kk⟩:=h;refine⟨σ,G,_,rs,rg,h,fun d G1 v H1 q k1 rg1 re=>?_⟩;cases d with
 | ref a=>
  dsimp only at q;split at q
  ·rename_i C' L' ds hg;obtain⟨⟨rfl,rfl⟩,q⟩:=q;obtain⟨ho,e1,ro⟩:=rg1 a _ hg;cases ho with
   | ins C2 dx gs=>
    obtain⟨rfl,r2,r3⟩:=ro;refine⟨a,dx,gs,re.ref,e1,qS (K:=X.K) r2 hL,?_⟩;rw[re.ref];exact⟨.ref a::([] ++ dds),G1,Q3,RDs.cons gM (hd H1),rg1,q,kk.base k1⟩
   | _=>exact ro.elim
  ·exact q.elim
 | _=>exact q.elim
theorem Dw{Q:VK}{τ:St}{H:Hp}{dvs:List V}(hd:∀ H,RDs K H dds dvs)(h:aB K (kJ C sp dds t) τ H Q)(E:XK):Jd C (cD K sp) dvs E (eK K t) τ H Q:=by
 obtain⟨σ,G,Q3,rs,rg,h,kk⟩:=h;refine⟨σ,G,_,rs,rg,h,fun ds G1 vs H1 q k1 rg1 rds a dx na nd ne=>?_⟩;have kd:Kp G1 H1 G1 (bq H1 dx (.own a)):=Kp.laid nd;have rgd:RG K (bq H1 dx (.own a)) G1:=rg1.laid nd;have na':bq H1 dx (.own a) a=none:=by rw[aA (Ne.symm ne)];exact na
 have ka:Kp G1 H1 (gset G1 a (.ins C [] [])) (bq (bq H1 dx (.own a)) a (.ins C dx [])):=fun b h' e n=>by
  have:b≠a:=b_ e na;exact⟨by rw[aA this,aA (b_ e nd)];exact e,by rw[am this];exact n⟩
 have st:Stb K H1 (bq (bq H1 dx (.own a)) a (.ins C dx [])):=ka.stb rg1;have rga:RG K (bq (bq H1 dx (.own a)) a (.ins C dx [])) (gset G1 a (.ins C [] [])):=fun b o q=>by
  by_cases hb:b=a
  ·subst hb;rw[aw]at q;cases q;exact⟨_,aN,rfl,rfl,RDs.nil⟩
  ·rw[am hb]at q;obtain⟨h',e1,r⟩:=rg1 b o q;exact⟨h',by rw[aA hb,aA (b_ e1 nd)];exact e1,r.mono st⟩
 refine⟨.ref a::(ds ++ dds),_,_,RDs.cons gM (RDs.append (RDs.mono st _ _ rds) (hd _)),rga,q a (rg1.free na),fun d G2 v H2 q2 k2 rg2 re=>?_⟩;obtain⟨rfl,q2⟩:=q2;exact⟨re.non,kk _ G2 _ H2 q2 (k1.trans (ka.trans k2)) rg2 (.of gM)⟩
theorem n6(F:Mk3 X.prog X.w X.K X.mg X.base k x C dds sp)(hr:Room (k+1) X.A)(hg:Gl X x)(ha:PA X (e::es) (eK X.K t))(hdb:(x == ("__debug__":Str))=false:=by decide)(he:N5 (e::es) X.env=(false,eval e X.env)::N5 es X.env:=by rfl)
  (hpl:(OW pos (N5 es X.env)).any (·.1)=false:=by rfl):PE X (.Call (.Name x p) (e::es) [] pos) (aB X.K (kJ C sp dds t)):=by
 obtain⟨f,fd,ps,ds,dvs,M,hm,ok,hb,hv,hd⟩:=F.ex;exact (HK M ok hr hg hm hb hv wL ha hdb he hpl).imp fun _ _ _ h=>Dw hd h E0
def ic(C:NR)(L:List Str)(i:Nat)(to:bG):bG:=fun σ G Q=>to σ G fun x G1=>match x with
 | .ref a=>match G1 a with
  | some (.ins C' L' ds)=>(C'=C/\L'=L)/\match ds[i]? with
   | some d=>Q d G1
   | none=>False
  | _=>False
 | _=>False
def wq(L:List Str)(f:Str)(i:Nat):Prop:=L[i]?=some f/\∀ j,j < i->L[j]?≠some f
theorem CD:∀ {gs:List (Str×V)} {f:Str} {i:Nat} {v:V},wq (gs.map (·.1)) f i->(gs.map (·.2))[i]?=some v->gs.lookup f=some v
 | [],f,i,v,h,e=>by simp at e
 | (g,u)::r,f,0,v,h,e=>by
  have:g=f:=by simpa using h.1
  subst this;simp at e;subst e;rw[O7,beq_self_eq_true]
 | (g,u)::r,f,i+1,v,h,e=>by
  have ne:g≠f:=fun z=>h.2 0 (Rz _) (by simp[z])
  rw[O7,show (f == g)=false by simpa using Ne.symm ne]
  exact CD (i:=i) ⟨by simpa using h.1,fun j hj z=>h.2 (j+1) (Nat.succ_lt_succ hj) (by simpa using z)⟩ (by simpa using e)
theorem E9:∀ {gs:List (Str×V)} {f:Str} {i:Nat} (v:V),wq (gs.map (·.1)) f i->(fA f v gs).map (·.1)=gs.map (·.1)/\(fA f v gs).map (·.2)=(gs.map (·.2)).set i v
 | [],f,i,v,h=>by have:=h.1;simp at this
 | (g,u)::r,f,0,v,h=>by
  have:g=f:=by simpa using h.1
  subst this;simp[fA]
 | (g,u)::r,f,i+1,v,h=>by
  have ne:g≠f:=fun z=>h.2 0 (Rz _) (by simp[z])
  have ih:=E9 (gs:=r) (i:=i) v ⟨by simpa using h.1,fun j hj z=>h.2 (j+1) (Nat.succ_lt_succ hj) (by simpa using z)⟩
  simp only[fA,if_neg ne,Od,OA,ih.1,ih.2,and_self]
theorem put_new:∀ {gs:List (Str×V)} {f:Str} (v:V),f∉gs.map (·.1)->fA f v gs=gs ++ [(f,v)]
 | [],f,v,h=>rfl
 | (g,u)::r,f,v,h=>by
  rw[Od,Oz,not_or]at h;simp only[fA,if_neg (Ne.symm h.1),put_new v h.2,PP]
theorem fN{f:Str}{L:List Str}{i:Nat}(cl:Cls X.K C)(na:cY X.K C f)(hi:wq L f i)(ho:PE X o (aB X.K to))(hb:Pk o f X.env (eval o X.env)=eval o X.env:=by rfl):PE X (.Attribute o f pos) (aB X.K (ic C L i to)):=
 (Fs ho hb).imp fun τ H Q zz=>by
 obtain⟨σ,G,Q3,rs,rg,h,kk⟩:=zz;exact (
  ⟨σ,G,_,rs,rg,h,fun d G1 v H1 q k1 rg1 re=>by
    cases d with
    | ref a=>
     dsimp only at q;split at q
     ·rename_i C' L' ds hg;obtain⟨⟨rfl,rfl⟩,q⟩:=q;split at q
      ·rename_i d hd;obtain⟨ho,e1,ro⟩:=rg1 a _ hg;cases ho with
       | ins C2 dx gs=>
        obtain⟨rfl,r2,r3⟩:=ro;subst r2;obtain⟨w,hw,rd⟩:=r3.get hd;exact⟨a,_,dx,gs,w,re.ref,e1,cl,na,CD hi hw,kk _ G1 _ H1 q k1 rg1 (.of rd)⟩
       | _=>exact ro.elim
      ·exact q.elim
     ·exact q.elim
    | _=>exact q.elim⟩)
def wG(C:NR)(L:List Str)(i:Nat)(to tv:bG):ck:=fun D σ G=>tv σ G fun d G1=>to σ G1 fun x G2=>match x with
 | .ref a=>match G2 a with
  | some (.ins C' L' ds)=>(C'=C/\L'=L)/\D.nx σ (gset G2 a (.ins C L (ds.set i (val d))))
  | _=>False
 | _=>False
def o_(C:NR)(L:List Str)(f:Str)(to tv:bG):ck:=fun D σ G=>tv σ G fun d G1=>to σ G1 fun x G2=>match x with
 | .ref a=>match G2 a with
  | some (.ins C' L' ds)=>(C'=C/\L'=L)/\D.nx σ (gset G2 a (.ins C (L ++ [f]) (ds ++ [val d])))
  | _=>False
 | _=>False
theorem Bj{H:Hp}{G:Gp}{a:NR}{C2 dx:NR}{gs gs':List (Str×V)}{L':List Str}{ds':List D}(rg:RG K H G)(e1:H a=some (.ins C2 dx gs))(r1:gs'.map (·.1)=L')(r2:RDs K H ds' (gs'.map (·.2)))(hg:G a≠none):
  Kp G H (gset G a (.ins C2 L' ds')) (bq H a (.ins C2 dx gs'))/\RG K (bq H a (.ins C2 dx gs')) (gset G a (.ins C2 L' ds')):=by
 have kp:Kp G H (gset G a (.ins C2 L' ds')) (bq H a (.ins C2 dx gs')):=fun b h e n=>by
  have:b≠a:=fun z=>by subst z;exact hg n
  exact⟨by rw[aA this];exact e,by rw[am this];exact n⟩
 have st:=kp.stb rg;refine⟨kp,fun b o q=>?_⟩
 by_cases hb:b=a
 ·subst hb;rw[aw]at q;cases q;exact⟨_,aN,rfl,r1,RDs.mono st _ _ r2⟩
 ·rw[am hb]at q;obtain⟨h',e2,r⟩:=rg b o q;exact⟨h',by rw[aA hb];exact e2,r.mono st⟩
theorem LJ{f:Str}{L:List Str}{i:Nat}{pos':Pos}(cl:Cls X.K C)(na:cY X.K C f)(hi:wq L f i)(hl:L.length < 1000)(ho:PE X o (aB X.K to))(hv:PE X e (aB X.K te))(hs:PQ e (some (.Attribute o f pos')) pos.line X.env=pure false:=by rfl):
  PS X (.Assign [.Attribute o f pos'] e pos) (cB X.K (wG C L i to te)):=
 (Bk ho (d4 hv) hs).imp fun D τ H zz=>by
 obtain⟨σ,G,D3,rs,rg,h,kk⟩:=zz;exact (
  ⟨σ,G,_,rs,rg,h,fun d G1 v H1 q1 k1 rg1 rd=>⟨σ,G1,_,rs.mono (k1.stb rg),rg1,q1,fun x G2 u H2 q2 k2 rg2 re=>by
    cases x with
    | ref a=>
     dsimp only at q2;split at q2
     ·rename_i C' L' ds hg;obtain⟨⟨rfl,rfl⟩,q2⟩:=q2;obtain⟨ho,e1,ro⟩:=rg2 a _ hg;cases ho with
      | ins C2 dx gs=>
       obtain⟨rfl,r2,r3⟩:=ro;subst r2;obtain⟨p1,p2⟩:=E9 (gs:=gs) v hi;have rd2:=RD.mono (k2.stb rg1) _ _ rd;obtain⟨kp,rg3⟩:=Bj (gs':=fA f v gs) (L':=gs.map (·.1)) (ds':=ds.set i (val d)) rg2 e1 p1 (by rw[p2];exact r3.set i rd2) (by rw[hg];exact fun z=>nomatch z)
       exact⟨a,_,dx,gs,re.ref,e1,cl,na,by simpa using hl,kk.nx _ _ _ _ q2 ((k1.trans k2).trans kp) rg3 (rs.mono ((((k1.trans k2).trans kp)).stb rg))⟩
      | _=>exact ro.elim
     ·exact q2.elim
    | _=>exact q2.elim⟩⟩)
theorem uh{f:Str}{L:List Str}{pos':Pos}(cl:Cls X.K C)(na:cY X.K C f)(hi:f∉L)(hl:L.length < 1000)(ho:PE X o (aB X.K to))(hv:PE X e (aB X.K te))(hs:PQ e (some (.Attribute o f pos')) pos.line X.env=pure false:=by rfl):
  PS X (.Assign [.Attribute o f pos'] e pos) (cB X.K (o_ C L f to te)):=
 (Bk ho (d4 hv) hs).imp fun D τ H zz=>by
 obtain⟨σ,G,D3,rs,rg,h,kk⟩:=zz;exact (
  ⟨σ,G,_,rs,rg,h,fun d G1 v H1 q1 k1 rg1 rd=>⟨σ,G1,_,rs.mono (k1.stb rg),rg1,q1,fun x G2 u H2 q2 k2 rg2 re=>by
    cases x with
    | ref a=>
     dsimp only at q2;split at q2
     ·rename_i C' L' ds hg;obtain⟨⟨rfl,rfl⟩,q2⟩:=q2;obtain⟨ho,e1,ro⟩:=rg2 a _ hg;cases ho with
      | ins C2 dx gs=>
       obtain⟨rfl,r2,r3⟩:=ro;subst r2;have rd2:=RD.mono (k2.stb rg1) _ _ rd;obtain⟨kp,rg3⟩:=Bj (gs':=fA f v gs) (L':=gs.map (·.1) ++ [f]) (ds':=ds ++ [val d]) rg2 e1 (by rw[put_new v hi];simp) (by rw[put_new v hi,Ol];exact r3.append (RDs.cons rd2 RDs.nil)) (by rw[hg];exact fun z=>nomatch z)
       exact⟨a,_,dx,gs,re.ref,e1,cl,na,by simpa using hl,kk.nx _ _ _ _ q2 ((k1.trans k2).trans kp) rg3 (rs.mono ((((k1.trans k2).trans kp)).stb rg))⟩
      | _=>exact ro.elim
     ·exact q2.elim
    | _=>exact q2.elim⟩⟩)
def JU(te:bG)(g:vi):ck:=fun D σ G=>te σ G fun d G'=>g (val d) σ G' D.nx
abbrev CW:=List D->Gp->m5->Prop
def pW(K:Sf)(r3:CW):List V->Hp->VK->Prop:=fun vs H Q=>∃ ds G Q3,RDs K H ds vs/\RG K H G/\r3 ds G Q3/\vm K G H Q3 Q
def eB(r:CW)(ta:nH):bG:=fun σ G Q=>ta σ G fun ds G1=>r ds G1 Q
variable{id T:String}{r3:CW}
theorem Jz{Q:VK}{τ:St}{H:Hp}(h:aB K (eB r3 t) τ H Q):MS (pW K r3) (eK K t) τ H Q:=by
 obtain⟨σ,G,Q3,rs,rg,h,kk⟩:=h;exact⟨σ,G,_,rs,rg,h,fun ds G1 vs H1 q k1 rg1 rds=>⟨ds,G1,Q3,rds,rg1,q,kk.base k1⟩⟩
theorem bE(hc:eV X (.builtin id) (pW X.K r3))(hg:Gl X x)(hm:X.mg x=none)(hv:Ph x=some (.builtin id))(ha:PA X (e::es) (eK X.K t))(hn:x≠"__name__":=by decide)(hdb:(x == ("__debug__":Str))=false:=by decide)
  (he:N5 (e::es) X.env=(false,eval e X.env)::N5 es X.env:=by rfl) (hpl:(OW pos (N5 es X.env)).any (·.1)=false:=by rfl):PE X (.Call (.Name x p) (e::es) [] pos) (aB X.K (eB r3 t)):=
 (Fu hc hg hm hv ha hn hdb he hpl).imp fun _ _ _ h=>Jz h
theorem uo(hc:eV X (.type T) (pW X.K r3))(hg:Gl X x)(hm:X.mg x=none)(hv:Ph x=some (.type T))(ha:PA X (e::es) (eK X.K t))(hn:x≠"__name__":=by decide)(hdb:(x == ("__debug__":Str))=false:=by decide)
  (he:N5 (e::es) X.env=(false,eval e X.env)::N5 es X.env:=by rfl) (hpl:(OW pos (N5 es X.env)).any (·.1)=false:=by rfl):PE X (.Call (.Name x p) (e::es) [] pos) (aB X.K (eB r3 t)):=
 (Dn hc hg hm hv ha hn hdb he hpl).imp fun _ _ _ h=>Jz h
def iC:CW:=fun ds G Q=>match ds with
 | [.str z]=>z.length<=NY/\Q (.int z.length) G
 | [d]=>match Eh G d with
  | some es=>Q (.int es.length) G
  | none=>False
 | _=>False
theorem fb{H:Hp}{d:D}{vs:List V}(r:RDs K H [d] vs):∃ v,vs=[v]/\RD K H d v:=by
 obtain⟨v,t,e,h1,h2⟩:=r.inv_cons;have:=h2.inv_nil;subst this;exact⟨v,e,h1⟩
theorem b_len:eV X (.builtin "len") (pW X.K iC):=((yM (X:=X)).or (yN (X:=X))).imp fun vs H Q zz=>by
 obtain⟨ds,G,Q3,rds,rg,h,kk⟩:=zz;unfold iC at h;split at h
 ·rename_i z;obtain⟨v,rfl,rd⟩:=fb rds;simp only[RD]at rd;subst rd;exact .inl ⟨z,rfl,h.1,kk _ G _ H h.2 Kp.refl rg (.of eE)⟩
 ·rename_i d _;obtain⟨v,rfl,rd⟩:=fb rds;split at h
  ·rename_i es he;obtain⟨a,xs,rfl,s,r⟩:=vg (G:=G) (H:=H) he (.of rd) rg;exact .inr ⟨a,xs,rfl,s,by rw[<- r.length];exact kk _ G _ H h Kp.refl rg (.of eE)⟩
  ·exact h.elim
 ·exact h.elim
def ve:CW:=fun ds G Q=>match ds with
 | [d]=>match Eh G d with
  | some es=>Q (.fl es) G
  | none=>False
 | _=>False
theorem b_list:eV X (.type "list") (pW X.K ve):=(yL (X:=X)).imp fun vs H Q zz=>by
 obtain⟨ds,G,Q3,rds,rg,h,kk⟩:=zz;unfold ve at h;split at h
 ·rename_i d;obtain⟨v,rfl,rd⟩:=fb rds;split at h
  ·rename_i es he;obtain⟨a,xs,rfl,s,r⟩:=vg (G:=G) (H:=H) he (.of rd) rg;exact⟨a,xs,rfl,s,fun p hp=>kk _ G _ _ h (Kp.laid hp) (rg.laid hp) (yE rg hp r)⟩
  ·exact h.elim
 ·exact h.elim
def rB:CW:=fun ds G Q=>match ds with
 | [d]=>match Eh G d with
  | some es=>Q (.tup es) G
  | none=>False
 | _=>False
theorem b_tuple:eV X (.type "tuple") (pW X.K rB):=(we (X:=X)).imp fun vs H Q zz=>by
 obtain⟨ds,G,Q3,rds,rg,h,kk⟩:=zz;unfold rB at h;split at h
 ·rename_i d;obtain⟨v,rfl,rd⟩:=fb rds;split at h
  ·rename_i es he;obtain⟨a,xs,rfl,s,r⟩:=vg (G:=G) (H:=H) he (.of rd) rg;refine⟨a,xs,rfl,?_⟩;rcases s with s|s
   ·exact .inl ⟨s,fun p hp=>kk _ G _ _ h (Kp.laid hp) (rg.laid hp) (.of (mv rg hp r))⟩
   ·exact .inr ⟨s,kk _ G _ H h Kp.refl rg (.of (qJ s r))⟩
  ·exact h.elim
 ·exact h.elim
def D7:CW:=fun ds G Q=>match ds with
 | [d]=>∃ ns:List Int,wg G d=some (ns.map D.int)/\Q (.int ns.sum) G
 | _=>False
def wf:CW:=fun ds G Q=>match ds with
 | [.int i,.int j]=>Q (.int (if j < i then j else i)) G
 | _=>False
def K_:CW:=fun ds G Q=>match ds with
 | [.int i,.int j]=>Q (.int (if j > i then j else i)) G
 | _=>False
theorem Ew{H:Hp}{i j:Int}{vs:List V}(r:RDs K H [.int i,.int j] vs):vs=[.int i,.int j]:=by
 obtain⟨v,t,e,h1,h2⟩:=r.inv_cons;obtain⟨u,e2,h3⟩:=fb h2;simp only[RD]at h1 h3;subst e e2 h1 h3;rfl
theorem b_min(hc:X.calm=true):eV X (.builtin "min") (pW X.K wf):=(D6 (X:=X) hc).imp fun vs H Q zz=>by
 obtain⟨ds,G,Q3,rds,rg,h,kk⟩:=zz;unfold wf at h;split at h
 ·rename_i i j;exact⟨i,j,Ew rds,kk _ G _ H h Kp.refl rg (.of eE)⟩
 ·exact h.elim
end
section
variable{X:Cx}
def xQ:R3:=fun x y G Q=>match x,y with
 | .int i,.int j=>IY i j/\Q (.int (i*j)) G
 | .str z,.int n=>(-(2 ^ 63)<=n/\n < 2 ^ 63/\z.length*n.toNat<=NY)/\Q (.str (zB z n.toNat)) G
 | _,_=>False
theorem B4:ig X (Pd .Mult) (dO X.K xQ):=((Kl (X:=X)).or (Bp (X:=X))).imp fun v u H Q zz=>by
 obtain⟨x,y,G0,H0,G,Q3,rx,ry,rg,h,k⟩:=zz;unfold xQ at h;split at h
 ·rename_i i j;exact .inl ⟨i,j,rx.int,ry.int,h.1,k _ G _ H h.2 Kp.refl rg (.of eE)⟩
 ·rename_i z n;exact .inr ⟨z,n,rx.str,ry.int,h.1.1,h.1.2.1,h.1.2.2,k _ G _ H h.2 Kp.refl rg (.of iT)⟩
 ·exact h.elim
def Ca:Mt:=fun x lo hi G Q=>match x with
 | .str z=>z.length<=NY/\Q (.str ⟨(gT z.cps.toList lo hi).toArray⟩) G
 | .tup ds=>¬ (HT.sIx ds.length 0 lo=0/\HT.sIx ds.length ds.length hi=ds.length)/\Q (.tup (cutD ds lo hi)) G
 | x=>match wg G x with
  | some ds=>Q (.fl (cutD ds lo hi)) G
  | none=>False
theorem xl:D9 X (FR X.K Ca):=((JS (X:=X)).or ((JR (X:=X)).or (Hn (X:=X)))).imp fun v lo hi H Q zz=>by
 obtain⟨x,G0,H0,G,Q3,rx,rg,h,k⟩:=zz;unfold Ca at h;split at h
 ·rename_i z;exact .inl ⟨z,rx.str,h.1,k _ G _ H h.2 Kp.refl rg (.of iT)⟩
 ·rename_i ds;obtain⟨a,xs,rfl,s,r⟩:=rx.tup;refine .inr (.inl ⟨a,xs,rfl,s,by rw[<- r.length];exact h.1,fun p hp=>k _ G _ _ h.2 (Kp.laid hp) (rg.laid hp) (.of (mv rg hp (CM r lo hi)))⟩)
 ·split at h
  ·rename_i ds hds;obtain⟨a,xs,rfl,s,r⟩:=mh hds rx rg;exact .inr (.inr ⟨a,xs,rfl,s,fun p hp=>k _ G _ _ h (Kp.laid hp) (rg.laid hp) (yE rg hp (CM r lo hi))⟩)
  ·exact h.elim
def sr(to:bG)(ta:nH):bG:=fun σ G Q=>to σ G fun x G1=>match x with
 | .str z=>ta σ G1 fun ds G2=>match ds with
  | [d]=>∃ ys:List Str,wg G2 d=some (ys.map D.str)/\(ys.map (·.length)).sum+ys.length*z.length<=16777216/\Q (.str (SR z ys)) G2
  | _=>False
 | _=>False
variable{o e:Oj}{es:List Oj}{to te:bG}{t:nH}{apos cpos pos p:Pos}
theorem Kg(ho:PE X o (aB X.K to))(ha:PA X [e] (eK X.K t))(Tt:Pk o "join" X.env (eval o X.env)=eval o X.env:=by rfl)
  (TN:((OW cpos (N5 [e] X.env)).all (fun x=>!x.1) && (Qq cpos (Ps [] X.env)).all (fun x=>x.1.isSome)
   && decide (([e]:List Oj).length+([]:List Rn).length+(if ([]:List Rn).isEmpty then 0 else 1) < 30))=true:=by rfl)
  (Ts:(apos.endLine == cpos.line)=true:=by rfl) (hs:N5 [e] X.env=(false,eval e X.env)::N5 [] X.env:=by rfl) (Tr:(OW cpos (N5 [] X.env)).any (·.1)=false:=by rfl):
  PE X (.Call (.Attribute o "join" apos) [e] [] cpos) (aB X.K (sr to t)):=
 (Jj PySem.F.plainAttrs_str PySem.F.slot_str_join PySem.F.type_str_join Ib ho ha Tt TN Ts hs Tr).imp fun τ H Q zz=>by
 obtain⟨σ,G,Q3,rs,rg,h,k⟩:=zz;exact (
  ⟨σ,G,_,rs,rg,h,fun d G1 v H1 q k1 rg1 re=>by
    cases d with
    | str z=>
     rw[re.str];refine⟨rfl,σ,G1,_,rs.mono (k1.stb rg),rg1,q,fun ds G2 vs H2 q2 k2 rg2 rds=>?_⟩;split at q2
     ·rename_i d;obtain⟨v2,rfl,rd⟩:=fb rds;obtain⟨ys,he,hl,q2⟩:=q2;obtain⟨a,xs,rfl,s,r⟩:=mh (G:=G2) (H:=H2) he (.of rd) rg2;rw[r.strs_inv ys]at s;exact⟨z,a,ys,rfl,rfl,s,hl,k _ G2 _ H2 q2 (k1.trans k2) rg2 (.of iT)⟩
     ·exact q2.elim
    | _=>exact q.elim⟩)
def fG(to:bG)(ta:nH):bG:=fun σ G Q=>to σ G fun x G1=>match x with
 | .ref a=>(∃ ds,G1 a=some (.lst ds))/\ta σ G1 fun es G2=>match es with
  | [d]=>match G2 a with
   | some (.lst ds)=>ds.length < NY/\Q .non (gset G2 a (.lst (ds ++ [d])))
   | _=>False
  | _=>False
 | _=>False
theorem Ik{K:Sf}{H:Hp}{G:Gp}{a:NR}{xs ys:List V}{ds':List D}(rg:RG K H G)(e1:H a=some (.lst xs))(r2:RDs K H ds' ys)(hg:G a≠none):
  Kp G H (gset G a (.lst ds')) (bq H a (.lst ys))/\RG K (bq H a (.lst ys)) (gset G a (.lst ds')):=by
 have kp:Kp G H (gset G a (.lst ds')) (bq H a (.lst ys)):=fun b h e n=>by
  have:b≠a:=fun z=>by subst z;exact hg n
  exact⟨by rw[aA this];exact e,by rw[am this];exact n⟩
 have st:=kp.stb rg;refine⟨kp,fun b o q=>?_⟩
 by_cases hb:b=a
 ·subst hb;rw[aw]at q;cases q;exact⟨_,aN,RDs.mono st _ _ r2⟩
 ·rw[am hb]at q;obtain⟨h',e2,r⟩:=rg b o q;exact⟨h',by rw[aA hb];exact e2,r.mono st⟩
theorem uy{K:Sf}{H:Hp}{G:Gp}{a:NR}{ds:List D}(rg:RG K H G)(e:G a=some (.lst ds)):∃ xs,H a=some (.lst xs)/\RDs K H ds xs:=by
 obtain⟨ho,e1,ro⟩:=rg a _ e;cases ho with
 | lst xs=>exact⟨xs,e1,ro⟩
 | _=>exact ro.elim
theorem lP(ho:PE X o (aB X.K to))(ha:PA X [e] (eK X.K t))(Tt:Pk o "append" X.env (eval o X.env)=eval o X.env:=by rfl)
  (TN:((OW cpos (N5 [e] X.env)).all (fun x=>!x.1) && (Qq cpos (Ps [] X.env)).all (fun x=>x.1.isSome)
   && decide (([e]:List Oj).length+([]:List Rn).length+(if ([]:List Rn).isEmpty then 0 else 1) < 30))=true:=by rfl)
  (Ts:(apos.endLine == cpos.line)=true:=by rfl) (hs:N5 [e] X.env=(false,eval e X.env)::N5 [] X.env:=by rfl) (Tr:(OW cpos (N5 [] X.env)).any (·.1)=false:=by rfl):
  PE X (.Call (.Attribute o "append" apos) [e] [] cpos) (aB X.K (fG to t)):=
 (Jj PySem.F.plainAttrs_list PySem.F.slot_list_append PySem.F.type_list_append wP ho ha Tt TN Ts hs Tr).imp fun τ H Q zz=>by
 obtain⟨σ,G,Q3,rs,rg,h,k⟩:=zz;exact (
  ⟨σ,G,_,rs,rg,h,fun d G1 v H1 q k1 rg1 re=>by
    cases d with
    | ref a=>
     rw[re.ref];obtain⟨⟨ds,hg⟩,q⟩:=q;obtain⟨xs,e1,r1⟩:=uy rg1 hg;refine⟨.inl ⟨rfl,xs,jw.of e1⟩,σ,G1,_,rs.mono (k1.stb rg),rg1,q,fun es G2 vs H2 q2 k2 rg2 rds=>?_⟩;split at q2
     ·rename_i d;obtain⟨v2,rfl,rd⟩:=fb rds;split at q2
      ·rename_i ds2 hg2;obtain⟨xs2,e2,r2⟩:=uy rg2 hg2;have rr:RDs X.K H2 (ds2 ++ [d]) (xs2 ++ [v2]):=r2.append (RDs.cons rd RDs.nil);obtain⟨kp,rg3⟩:=Ik rg2 e2 rr (by rw[hg2];exact fun z=>nomatch z)
       exact⟨a,xs2,v2,rfl,rfl,e2,by rw[<- r2.length];exact q2.1,k _ _ _ _ q2.2 ((k1.trans k2).trans kp) rg3 (.of Bg)⟩
      ·exact q2.elim
     ·exact q2.elim
    | _=>exact q.elim⟩)
def qa(G:Gp):D->Option String
 | .int _=>some "int"
 | .str _=>some "str"
 | .bl _=>some "bool"
 | .tup _=>some "tuple"
 | d=>(wg G d).map fun _=>"list"
def La:CW:=fun ds G Q=>match ds with
 | [d,.ty T]=>qa G d=some T/\Q (.bl true) G
 | _=>False
theorem Cs{x:Str}{d:D}{v:V}{u:NO}(hg:Gl X x)(hm:X.mg x=some u)(r:aF v u)(rd:∀ H,RD X.K H d v)(hd:(x == ("__debug__":Str))=false:=by decide):PE X (.Name x pos) (aB X.K (eC d)):=L1 (Cq hg hm r hd) rd
def yG(te:bG):bG:=fun σ G Q=>te σ G fun x G1=>match x with
 | .int i=>Q (.int (-i)) G1
 | _=>False
theorem Jl(he:PE X e (aB X.K te)):PE X (.UnaryOp .USub e pos) (aB X.K (yG te)):=(LU JJ he).imp fun τ H Q ⟨σ,G,Q3,rs,rg,h,k⟩=>⟨σ,G,_,rs,rg,h,fun d G1 v H1 q k1 rg1 re=>by
 cases d with
 | int i=>exact⟨i,re.int,k _ G1 _ H1 q k1 rg1 (.of eE)⟩
 | _=>exact q.elim⟩
end
theorem qe{L:List Str}{f:Str}{i:Nat}(h:L.findIdx? (· == f)=some i):wq L f i:=by
 rw[List.findIdx?_eq_some_iff_getElem]at h;obtain⟨hi,h1,h2⟩:=h;refine⟨?_,fun j hj e=>?_⟩
 ·rw[NV hi]
  simpa using h1
 ·have hj':j < L.length:=Nat.lt_trans hj hi;have:=h2 j hj;rw[NV hj']at e;simp only[Option.some.injEq]at e;rw[e]at this;simp at this
def CN(N:List Str)(osc scope:Qk)(T M:List Str):Bool:=
 decide (scope.kind=.function) && scope.names.all (fun y=>decide (y.2≠.cell) && (decide (y.2≠.local) || (decide (scope.names.lookup y.1=some .local) && ((".0":Str)::T).contains y.1)) &&
  (decide (y.2≠.free) || (decide (osc.names.lookup y.1=some .cell) || decide (osc.names.lookup y.1=some .free)))) && (M.all fun x=>!((".0":Str)::T).contains x) && decide (M.length=N.length) &&
  ((M.zip N).all fun p=>decide (p.1=p.2) || scope.names.all fun y=>decide (y.1≠p.1))
theorem bA{X:Cx}{scope:Qk}{T M:List Str}(hc:X.calm=true)(h:CN X.N X.env.scope scope T M=true):CompOk X scope T M:=by
 unfold CN at h;rw[Bool.and_eq_true,Bool.and_eq_true,Bool.and_eq_true]at h;obtain⟨⟨⟨h12,h3⟩,h4⟩,h5⟩:=h;have hlen:M.length=X.N.length:=of_decide_eq_true h4;simp only[Bool.and_eq_true,List.all_eq_true,Bool.or_eq_true,decide_eq_true_eq,Bool.not_eq_true',List.contains_eq_mem]at h12 h3 h5;obtain⟨h1,h2⟩:=h12;refine⟨hc,h1,fun y hy=>(h2 y hy).1.1,fun y hy hl=>?_,fun y hy hl=>?_,hlen,fun i x hx=>?_,fun x hx=>?_,fun y hy hf=>?_⟩
 ·rcases (h2 y hy).1.2 with z|z
  ·exact absurd hl z
  ·exact z.1
 ·rcases (h2 y hy).1.2 with z|z
  ·exact absurd hl z
  ·simpa using z.2
 ·have hi:i < M.length:=(List.getElem?_eq_some_iff.mp hx).1;have hi2:i < X.N.length:=by walk_at "o"
  have hm:(x,X.N[i])∈M.zip X.N:=by
   refine N9 (i:=i) ?_;rw[List.getElem?_zip_eq_some];exact⟨hx,NV hi2⟩
  rcases h5 _ hm with z|z
  ·left;rw[NV hi2];exact congrArg some (show x=X.N[i]from z).symm
  ·exact .inr fun y hy=>z y hy
 ·simpa using h3 x hx
 ·rcases (h2 y hy).2 with z|z
  ·exact absurd hf z
  ·exact z
structure Fun3(K:Sf)(x qual:Str)(st:Op)(f:NR)(fd:O4):Prop where
 ex:∃ (oc:NO) (od:Option NR) (dV kV doc pm:NO) (an:Option NR) (cdv ct:NO) (osl:Array (Option NO)),
  fd=Up x qual (f_ st) (fe st) (ai st) dV kV doc pm an cdv ct/\K.lookup f=some ⟨oc,od,.func fd,osl⟩/\S7 K cdv qual=true
section
variable{P:N_}{w:Og}{K:Sf}{mg:Str->Option NO}{base:Of}
theorem Fun3.ok3{x qual:Str}{st:Op}{f:NR}{fd:O4}{N ps:List Str}{k:Nat}{sp:c5}(F:Fun3 K x qual st f fd)(S:FnScope N ps (ai st))(len:∀ ds G Q,sp ds G Q->ds.length=ps.length)
  (TQ:∀ (cdv:NO) (A:Oc) (outer:List Env) (s:NP) (H:Hp) (E:XK),Room k (A.deeper (QQ qual (ai st) s.heap.objs.size f cdv))->
   ∃ t:ck,rE (BO vy P w K mg base N qual (ai st) f cdv A outer s H E).nox (fe st) (cB K t)/\∀ ds G Q,sp ds G Q->t { nx:=fun _ G'=>Q .non G',rt:=Q } (eW N ds) G):FnOk P w K mg base vy (k+1) f fd ps (cD K sp):=by
 obtain⟨oc,od,dV,kV,doc,pm,an,cdv,ct,osl,rfl,lk,hcd⟩:=F.ex;refine Mh lk hcd S (fun vs H Q E ⟨ds,G,Q3,rds,rg,h,kk⟩=>by rw[<- rds.length];exact len ds G Q3 h) fun A outer s H vs Q E hr hsp=>?_
 obtain⟨ds,G,Q3,rds,rg,h,kk⟩:=hsp;obtain⟨t,ht,hq⟩:=TQ cdv A outer s H E hr;refine⟨cB K t,ht.nox,eW N ds,G,{ nx:=fun _ G'=>Q3 .non G',rt:=Q3 },ER rds,rg,hq ds G Q3 h,⟨fun σ' G' τ' H' q k' rg' rs'=>kk _ G' _ H' q k' rg' (.of Bg),kk,fun _ _ _ _ q=>q.elim,fun _ _ _ _ q=>q.elim⟩⟩
theorem qg{x qual:Str}{st:Op}{f:NR}{oc:NO}{od an:Option NR}{osl:Array (Option NO)}{dV kV doc pm cdv ct:NO}(l:K.lookup f=some ⟨oc,od,.func (Up x qual (f_ st) (fe st) (ai st) dV kV doc pm an cdv ct),osl⟩)
  (c:S7 K cdv qual=true):Fun3 K x qual st f (Up x qual (f_ st) (fe st) (ai st) dV kV doc pm an cdv ct):=⟨⟨oc,od,dV,kV,doc,pm,an,cdv,ct,osl,rfl,l,c⟩⟩
end
theorem ag{t u:ck}{D:Ends3}{σ:ff}{G:Gp}:sSeq t u D σ G=t { D with nx:=u D } σ G:=rfl
theorem IG{ds:List D}{i:Int}(h:0<=i):cutD ds none (some i)=ds.take i.toNat:=by
 have:HT.sIx ds.length ds.length (some i)=min i.toNat ds.length:=by simp only[HT.sIx];rw[if_neg (by walk_at "o")]
 unfold cutD;rw[this];simp only[HT.sIx,QC,RA];rw[List.take_eq_take_iff];omega
theorem Gf{ds:List D}{i j:Int}(h:0<=i)(h2:0<=j):cutD ds (some i) (some j)=(ds.drop i.toNat).take (j.toNat - i.toNat):=by
 have e1:HT.sIx ds.length 0 (some i)=min i.toNat ds.length:=by simp only[HT.sIx];rw[if_neg (by walk_at "o")]
 have e2:HT.sIx ds.length ds.length (some j)=min j.toNat ds.length:=by simp only[HT.sIx];rw[if_neg (by walk_at "o")]
 unfold cutD;rw[e1,e2]
 by_cases hi:i.toNat<=ds.length
 ·rw[Nat.min_eq_left hi,List.take_eq_take_iff,O8]
  by_cases hj:j.toNat<=ds.length
  ·rw[Nat.min_eq_left hj]
  ·have hj':=Nat.le_of_not_le hj;rw[Nat.min_eq_right hj',Nat.min_self,Nat.min_eq_right (Nat.sub_le_sub_right hj' _)]
 ·rw[Nat.min_eq_right (Nat.le_of_not_le hi),Rg,List.drop_eq_nil_of_le (le_of_lt (Nat.lt_of_not_le hi))];simp
theorem IH{cs:List Nat}{i:Int}(h:0<=i):gT cs none (some i)=cs.take i.toNat:=by
 have:HT.sIx cs.length cs.length (some i)=min i.toNat cs.length:=by simp only[HT.sIx];rw[if_neg (by walk_at "o")]
 unfold gT;rw[this];simp only[HT.sIx,QC,RA];rw[List.take_eq_take_iff];omega
theorem DW{cs:List Nat}{i:Int}(h:0<=i):gT cs (some i) none=cs.drop i.toNat:=by
 have:HT.sIx cs.length 0 (some i)=min i.toNat cs.length:=by simp only[HT.sIx];rw[if_neg (by walk_at "o")]
 unfold gT;rw[this];simp only[HT.sIx];rw[List.take_of_length_le (by simp)]
 by_cases hi:i.toNat<=cs.length
 ·rw[Nat.min_eq_left hi]
 ·rw[Nat.min_eq_right (by walk_at "o"),Rg,List.drop_eq_nil_of_le (by walk_at "o")]
def S(cs:List Nat):Str:=⟨cs.toArray⟩
theorem GK{cs:List Nat}:(S cs).length=cs.length:=by simp[S,Pe]
theorem Ms(x:Str):S x.cps.toList=x:=by cases x;simp[S]
theorem AA{a b:List Nat}:S a ++ S b=S (a ++ b):=by
 show R_ (S a) (S b)=_
 simp[R_,S]
theorem cC(a b:Str):(a ++ b).length=a.length+b.length:=by
 show (R_ a b).length=_
 simp[R_,Pe]
theorem signs_length(x:Str):(signs x).length=x.length:=by simp[signs,Pe]
theorem Az{ds:List D}{i:Int}(h0:0<=i)(h:i < ds.length):iG ds i=some (ds[i.toNat]'(by walk_at "o")):=by
 unfold iG Is;rw[if_pos h0,if_pos h];simp[show i.toNat < ds.length by walk_at "o"]
theorem IB:(NU "")=S []:=by decide +kernel
theorem DG(ys:List Str):SR (S []) ys=S (ys.map (·.cps.toList)).flatten:=by
 rw[eq_of_beq (join_plain_closes (S []) ys)]
 induction ys with
 | nil=>rfl
 | cons y r ih=>
  cases r with
  | nil=>simp only[Str.join,Od,Qy,List.flatten_cons,List.flatten_nil,OO,Ms]
  | cons z r=>
   rw[Str.join,ih,Od,List.flatten_cons]
   conv=>lhs;rw[<- Ms y]
   rw[AA,AA,OO]
   all_goals first|rfl|simp
theorem BE(cs:List Nat):SR (S []) (cs.map fun c=>(⟨#[c]⟩:Str))=S cs:=by
 rw[DG];congr 1
 induction cs with
 | nil=>rfl
 | cons c r ih=>simp only[Od,List.flatten_cons,ih];rfl
theorem ah:1000000<=NY:=by decide
theorem f8(lo:Int)(n:Nat):(dL lo n).length=n:=by simp[dL]
theorem nW{lo:Int}{n i:Nat}{d:D}(h:(dL lo n)[i]?=some d):i < n/\d=.int (lo+(i:Nat)):=by
 have hl:i < (dL lo n).length:=(List.getElem?_eq_some_iff.mp h).1;rw[f8]at hl;refine⟨hl,?_⟩;rw[dL,N8,List.getElem?_range hl]at h
 simpa using h.symm
def xw:c5:=fun vs _ Q=>match vs with
 | [.lst ds]=>∃ ns:List Int,ds=ns.map D.int/\ns.length<=63/\∀ G',Q (.bl true) G'
 | _=>False
theorem DC{K:Sf}{H:Hp}{a:NR}{ns:List Int}(hl:ns.length<=63)(hO:IT H)(hS:jw K H a (ns.map V.int))(E:XK):cD K xw [.ref a] H (fun v _=>v=.bl true) E:=by
 have hF:GP K H a (ns.map V.int):=by
  rcases hS with (h|⟨o,h⟩)|h
  ·rcases hO a with e|⟨o,xs,e⟩
   ·rw[h]at e;cases e
   ·rw[h]at e;cases e
  ·exact .inl ⟨o,h⟩
  ·exact .inr h
 refine⟨[.lst (ns.map D.int)],fun _=>none,fun d _=>d=.bl true,RDs.cons (qK hF (RDs.ints ns)) RDs.nil,(fun b o q=>nomatch q),⟨ns,rfl,hl,fun _=>rfl⟩,fun d G' v H' q _ _ re=>?_⟩;subst q;exact re.bl
theorem walk3{l:PySem.W.OpenLaw}{q:N_}{loose:List Str}{XP:(Str->Option NO)->Of->Prop}{YP:Og->Of->Prop}{d:DefRec}{K:Params->Sf}{k:Nat}{x:Str}(hn:l.most=some 63)(hdf:d.params.defaults=[])(hr:Room k Rl)
  (hY:∀ (w:Og) (h:Of),YP w h->(K w.params).In h)
  (F:∀ (w:Og) (mg:Str->Option NO) (fa:NR) (h:Of),(K w.params).In h->h.Ns Oa mg->mg d.name=some (.ref fa)->
   ∃ fd:O4,(∀ (s:NP) (u:NO),R0 s fd ⟨[u],[]⟩ [(x,u)])/\∀ base:Of,(K w.params).In base->base.Ns Oa mg->FnOk l.prog w (K w.params) mg base vy k fa fd [x] (cD (K w.params) xw)):
  PySem.W.WalkO q loose XP YP l.row.toRowW d [] (fun f vs=>PySem.call f vs):=
 L2.walk_of (n:=63) (k:=k) (x:=x) (CX:=fun _=>vy) (sp:=fun w=>cD (K w.params) xw) hn (by decide) hdf hr hY F (fun _ _ _ _ hl hO hS=>DC hl hO hS _) fun _ _ _ _ _ z=>z
end L3
namespace L2
open PySem PySem.Spec PyProof.Rows
section
variable{X:Cx}
theorem LM{st:Op}{t:TS}(h:PS X st t):PS X st (fun D σ H=>∃ p xs,H p=some (.lst xs)/\∀ o,t D σ (bq H p (.frz o (.lst xs)))):=fun pins s σ H D I zz=>by
 obtain⟨p,xs,e,q⟩:=zz;obtain⟨o,I2⟩:=I.freeze e;exact h pins s σ _ D I2 (q o)
theorem PS.or{st:Op}{t t':TS}(h:PS X st t)(h':PS X st t'):PS X st (fun D σ H=>t D σ H\/t' D σ H):=fun pins s σ H D I q=>by
 rcases q with q|q
 ·exact h pins s σ H D I q
 ·exact h' pins s σ H D I q
end
end L2
namespace L3
open PySem PySem.Spec PyProof.Rows L2
def A_(i:Nat)(t:ck):ck:=fun D σ G=>match σ[i]? with
 | some (some (.ref p))=>match G p with
  | some (.lst ds)=>t D (σ.set i (some (.lst ds))) (fF G p)
  | _=>False
 | some (some (.lst _))=>t D σ G
 | _=>False
theorem rX{K:Sf}{H:Hp}:∀ {σ:ff} {τ:St} {i:Nat} {d:D} {v:V},RS K H σ τ->τ[i]?=some (some v)->RD K H d v->RS K H (σ.set i (some d)) τ
 | _,_,_,_,_,.nil,e,_=>by simp at e
 | _,_,0,d,v,.cons (b:=b) _ t,e,r=>by
  simp at e;subst e;exact .cons (show D_ K H (some d) (some v)from r) t
 | _,_,i+1,d,v,.cons q t,e,r=>.cons q (rX (i:=i) t (by simpa using e) r)
theorem LI{X:Cx}{st:Op}{t:ck}(i:Nat)(h:PS X st (cB X.K t)):PS X st (cB X.K (A_ i t)):=((LM h).or h).imp fun D τ H zz=>by
 obtain⟨σ,G,D3,rs,rg,q,k⟩:=zz;unfold A_ at q;split at q
 ·rename_i p hp;split at q
  ·rename_i ds hg;obtain⟨v,e1,r⟩:=rs.get hp;simp only[RD]at r;subst r;obtain⟨xs,e2,r2⟩:=(show ∃ xs,H p=some (.lst xs)/\RDs X.K H ds xs by
    obtain⟨ho,e1,ro⟩:=rg p _ hg;cases ho with
    | lst xs=>exact⟨xs,e1,ro⟩
    | _=>exact ro.elim)
   refine .inl ⟨p,xs,e2,fun o=>?_⟩;have rg2:RG X.K H (fF G p):=fun a o q=>by
    by_cases ha:a=p
    ·subst ha;rw[dz]at q;cases q
    ·rw[dP ha]at q;exact rg a o q
   obtain⟨rg3,st3⟩:=BJ (o:=o) rg2 e2 dz;have kp:Kp G H (fF G p) (bq H p (.frz o (.lst xs))):=fun a h e n=>by
    have:a≠p:=fun z=>by subst z;rw[hg]at n;cases n
    exact⟨by rw[aA this];exact e,by rw[dP this];exact n⟩
   exact⟨_,_,D3,rX (rs.mono st3) e1 (qK (.inl ⟨o,aN⟩) (RDs.mono st3 _ _ r2)),rg3,q,k.base kp⟩
  ·exact q.elim
 ·exact .inr ⟨σ,G,D3,rs,rg,q,k⟩
 ·exact q.elim
def KQ(ta:nH):GJ:=fun σ G Q=>ta σ G fun ds G'=>match ds with
 | [.lst es]=>Q es.reverse G'
 | _=>False
theorem GH{a:D}:iG [a] 0=some a:=rfl
theorem GG{a b:D}:iG [a,b] 0=some a:=rfl
theorem GF{a b:D}:iG [a,b] 1=some b:=rfl
theorem GE{a b c:D}:iG [a,b,c] 0=some a:=rfl
theorem GD{a b c:D}:iG [a,b,c] 1=some b:=rfl
theorem GC{a b c:D}:iG [a,b,c] 2=some c:=rfl
theorem GB{a b c d:D}:iG [a,b,c,d] 0=some a:=rfl
theorem GA{a b c d:D}:iG [a,b,c,d] 1=some b:=rfl
theorem Gz{a b c d:D}:iG [a,b,c,d] 2=some c:=rfl
theorem Gy{a b c d:D}:iG [a,b,c,d] 3=some d:=rfl
theorem Gx{a b c d e:D}:iG [a,b,c,d,e] 0=some a:=rfl
theorem Gw{a b c d e:D}:iG [a,b,c,d,e] 1=some b:=rfl
theorem Gv{a b c d e:D}:iG [a,b,c,d,e] 2=some c:=rfl
theorem Gu{a b c d e:D}:iG [a,b,c,d,e] 3=some d:=rfl
theorem Gs{a b c d e:D}:iG [a,b,c,d,e] 4=some e:=rfl
theorem bo{c:qt}{t u:ck}{E:Ends3}{σ:ff}{G:Gp}(b:Bool)(hc:∀ K:Bool->Gp->Prop,K b G->c σ G K)(h:if b=true then t E σ G else u E σ G):jH c t u E σ G:=hc _ h
theorem nN{t u:ck}{E:Ends3}{σ:ff}{G:Gp}{NX:ff->Gp->Prop}(h2:∀ σ' G',NX σ' G'->u E σ' G')(h1:∀ NX':ff->Gp->Prop,(∀ σ' G',NX σ' G'->NX' σ' G')->t { E with nx:=NX' } σ G):sSeq t u E σ G:=h1 (u E) h2
open PySem.SeqAt
def M4(x:D)(ds:List D):Bool:=ds.any fun d=>d6 d x
def Br:R3:=fun x y G Q=>match Eh G y with
 | some ds=>(pl 7 x/\∀ d∈ds,pl 7 d)/\Q (.bl (!M4 x ds)) G
 | none=>False
section
variable{κ:Type}[DecidableEq κ]
def cV(kvs:List (κ×D))(k:κ):Option D:=(kvs.find? fun kv=>decide (kv.1=k)).map (·.2)
def bS(kvs:List (κ×D))(k:κ)(v:D):List (κ×D):=
 if (kvs.any fun kv=>decide (kv.1=k))=true then kvs.map (fun kv=>if kv.1=k then (kv.1,v)else kv)else kvs ++ [(k,v)]
theorem ql(k:κ):∀ kvs:List (κ×D),(kvs.any fun kv=>decide (kv.1=k))=(cV kvs k).isSome
 | []=>rfl
 | p::r=>by
  by_cases e:p.1=k
  ·simp[cV,Ow,e]
  ·have ih:=ql k r;simp only[Ri,e,decide_false,Bool.false_or,ih];simp[cV,Ow,e]
theorem fq(kvs:List (κ×D))(k:κ)(v:D):(bS kvs k v).length<=kvs.length+1:=by
 unfold bS;split<;>simp
theorem Di(kvs:List (κ×D))(k:κ)(v:D):(bS kvs k v).map (·.1)=if k∈kvs.map (·.1)then kvs.map (·.1)else kvs.map (·.1) ++ [k]:=by
 unfold bS;have e:((kvs.any fun kv=>decide (kv.1=k))=true)↔k∈kvs.map (·.1):=by
  rw[List.any_eq_true,mem_map];constructor
  ·rintro⟨p,hp,q⟩;exact⟨p,hp,of_decide_eq_true q⟩
  ·rintro⟨p,hp,rfl⟩;exact⟨p,hp,decide_eq_true rfl⟩
 by_cases h:k∈kvs.map (·.1)
 ·rw[if_pos (e.mpr h),if_pos h,Ot];refine O0 fun p _=>?_;simp only[Function.comp_apply];split<;>rfl
 ·rw[if_neg (fun z=>h (e.mp z)),if_neg h];simp
theorem nY{kvs:List (κ×D)}(k:κ)(v:D)(h:(kvs.map (·.1)).Nodup):((bS kvs k v).map (·.1)).Nodup:=by
 rw[Di];split
 ·exact h
 ·rename_i hk;rw[List.nodup_append];refine⟨h,by simp,fun a ha b hb=>?_⟩
  have:b=k:=by simpa using hb
  subst this;exact fun z=>hk (z ▸ ha)
end
def FW:D->Option aD
 | .int i=>some (.inl i)
 | .str x=>some (.inr x)
 | _=>none
def kD:aD->D
 | .inl i=>.int i
 | .inr x=>.str x
def wb:List D->Option (List aD)
 | []=>some []
 | d::r=>match FW d,wb r with
  | some k,some ks=>some (k::ks)
  | _,_=>none
def lY:D->Option (List aD)
 | .tup ds=>wb ds
 | _=>none
theorem KJ(k:aD):FW (kD k)=some k:=by cases k<;>rfl
theorem CF:∀ ks:List aD,wb (ks.map kD)=some ks
 | []=>rfl
 | k::r=>by simp only[Od,wb,KJ,CF r]
section
variable{K:Sf}{H:Hp}
theorem BD{d:D}{k:aD}{v:V}(h:FW d=some k)(r:RD K H d v):v=kV k:=by
 cases d with
 | int i=>simp only[FW,Option.some.injEq]at h;subst h;simp only[RD]at r;exact r
 | str i=>simp only[FW,Option.some.injEq]at h;subst h;simp only[RD]at r;exact r
 | _=>simp[FW]at h
theorem zZ:∀ {ds:List D} {ks:List aD} {vs:List V},wb ds=some ks->RDs K H ds vs->vs=ks.map kV
 | [],ks,vs,h,r=>by
  simp only[wb,Option.some.injEq]at h;subst h;exact r.inv_nil
 | d::t,ks,vs,h,r=>by
  obtain⟨x,u,e,h1,h2⟩:=r.inv_cons;subst e;simp only[wb]at h;split at h
  ·rename_i k kr e1 e2;simp only[Option.some.injEq]at h;subst h;rw[BD e1 h1,zZ e2 h2];rfl
  ·cases h
theorem qc{d:D}{ks:List aD}{v:V}(h:lY d=some ks)(r:RD K H d v):∃ b,v=.ref b/\kL K H b (ks.map kV):=by
 cases d with
 | tup ds=>
  simp only[RD]at r;obtain⟨a,xs,e,q,rr⟩:=r;exact⟨a,e,by rw[<- zZ h rr];exact q⟩
 | _=>simp[lY]at h
theorem qo.keys{kvs:List (List aD×D)}{xs:List (List aD×NR×NO)}(r:qo K H kvs xs):kvs.map (·.1)=xs.map (·.1):=by
 unfold qo at r
 induction r with
 | nil=>rfl
 | cons h _ ih=>rw[Od,Od,h.1,ih]
theorem qo.val{kvs:List (List aD×D)}{xs:List (List aD×NR×NO)}(r:qo K H kvs xs)(k:List aD):
  (cV kvs k=none/\Qr xs k=none)\/∃ d b u v,cV kvs k=some d/\Qr xs k=some (b,u)/\RD K H d v/\aF v u:=by
 unfold qo at r
 induction r with
 | nil=>exact .inl ⟨rfl,rfl⟩
 | @cons p q ps qs h t ih=>
  obtain⟨h1,_,v,h2,h3⟩:=h
  by_cases e:p.1=k
  ·have e':q.1=k:=h1.symm.trans e;exact .inr ⟨p.2,q.2.1,q.2.2,v,by simp[cV,Ow,e],by simp[Qr,Ow,e'],h2,h3⟩
  ·have e':¬ q.1=k:=fun z=>e (h1.trans z);have a1:cV (p::ps) k=cV ps k:=by simp[cV,Ow,e]
   have a2:Qr (q::qs) k=Qr qs k:=by simp[Qr,Ow,e']
   rw[a1,a2];exact ih
theorem qo.put{kvs:List (List aD×D)}{xs:List (List aD×NR×NO)}(r:qo K H kvs xs)(k:List aD){b:NR}{d:D}{v:V}{u:NO}(hb:kL K H b (k.map kV))(hd:RD K H d v)(hu:aF v u):qo K H (bS kvs k d) (Rj xs k b u):=by
 have e:(kvs.any fun kv=>decide (kv.1=k))=(Qr xs k).isSome:=by
  rw[ql];rcases r.val k with ⟨a,b⟩|⟨_,_,_,_,a,b,_⟩<;>rw[a,b]<;>rfl
 unfold bS Rj;rw[e]
 by_cases q:(Qr xs k).isSome=true
 ·rw[if_pos q,if_pos q];unfold qo at r ⊢;clear e q
  induction r with
  | nil=>exact .nil
  | @cons p q ps qs h t ih=>
   rw[Od,Od];refine .cons ?_ ih;obtain⟨h1,h2,v',h3,h4⟩:=h;unfold putAt
   by_cases e:p.1=k
   ·rw[if_pos e,if_pos (h1.symm.trans e)];exact⟨h1,h2,v,hd,hu⟩
   ·rw[if_neg e,if_neg (fun z=>e (h1.trans z))];exact⟨h1,h2,v',h3,h4⟩
 ·rw[if_neg q,if_neg q];exact RV r ⟨rfl,hb,v,hd,hu⟩
theorem AC.val{kvs:List (aD×D)}{xs:List (aD×V)}(r:AC K H kvs xs)(k:aD):(cV kvs k=none/\mP xs k=none)\/∃ d v,cV kvs k=some d/\mP xs k=some v/\RD K H d v:=by
 unfold AC at r
 induction r with
 | nil=>exact .inl ⟨rfl,rfl⟩
 | @cons p q ps qs h t ih=>
  obtain⟨h1,h2⟩:=h
  by_cases e:p.1=k
  ·have e':q.1=k:=h1.symm.trans e;exact .inr ⟨p.2,q.2,by simp[cV,Ow,e],oH e',h2⟩
  ·have e':¬ q.1=k:=fun z=>e (h1.trans z);have a1:cV (p::ps) k=cV ps k:=by simp[cV,Ow,e]
   rw[a1,oJ e'];exact ih
theorem AC.put{kvs:List (aD×D)}{xs:List (aD×V)}(r:AC K H kvs xs)(k:aD){d:D}{v:V}(hd:RD K H d v):AC K H (bS kvs k d) (nX xs k v):=by
 have e:(kvs.any fun kv=>decide (kv.1=k))=(xs.any fun kv=>decide (kv.1=k)):=by
  rw[ql,tF];rcases r.val k with ⟨a,b⟩|⟨_,_,a,b,_⟩<;>rw[a,b]<;>rfl
 unfold bS nX;rw[e]
 by_cases q:(xs.any fun kv=>decide (kv.1=k))=true
 ·rw[if_pos q,if_pos q];unfold AC at r ⊢;clear e q
  induction r with
  | nil=>exact .nil
  | @cons p q ps qs h t ih=>
   rw[Od,Od];refine .cons ?_ ih;obtain⟨h1,h2⟩:=h
   by_cases e:p.1=k
   ·rw[if_pos e,if_pos (h1.symm.trans e)];exact⟨h1,hd⟩
   ·rw[if_neg e,if_neg (fun z=>e (h1.trans z))];exact⟨h1,h2⟩
 ·rw[if_neg q,if_neg q];exact RV r ⟨rfl,hd⟩
theorem AC.length{kvs:List (aD×D)}{xs:List (aD×V)}(r:AC K H kvs xs):kvs.length=xs.length:=P6 r
theorem qo.length{kvs:List (List aD×D)}{xs:List (List aD×NR×NO)}(r:qo K H kvs xs):kvs.length=xs.length:=P6 r
end
def aH(P:N_)(w:Og):List aD->Int:=tupleKeyHash (bj P w)
section
variable{X:Cx}{pins:List (NR×Obj)}{σ:St}{H:Hp}{s:NP}{a:NR}
theorem key_at(I:Inv X pins σ H s){b:NR}{ks:List aD}(h:kL X.K H b (ks.map kV)):(OY (bj X.prog X.w)).is s.heap ks b:=by
 obtain⟨its,r,⟨o,h1,h2,n,h3⟩,_⟩:=I.tuple h;exact⟨o,its.toArray,n,h1,h2,h3,by simpa using rh r⟩
theorem tu(I:Inv X pins σ H s){kvs:List (List aD×D)}{xs:List (List aD×NR×NO)}{φ:Of->Prop}(e:H a=some (.ext φ))(r:qo X.K H kvs xs)(nd:(kvs.map (·.1)).Nodup)(hφ:∀ h,φ h->yX (aH X.prog X.w) a xs h:=by exact fun _ z=>z):
  (a == OK)=false/\s.heap.DictOfH (OY (bj X.prog X.w)) a xs:=by
 obtain⟨hd,o,es,ep,h1,h2,h3,h4⟩:=hφ _ (show cf X.prog X.w H s.heap a (.ext φ)from I.hok a _ e).1
 refine⟨hd,o,es,ep,h1,h2,h3,h4,?_,by rw[<- r.keys];exact nd⟩
 unfold qo at r;clear h4 e nd hφ
 induction r with
 | nil=>intro x hx;exact nomatch hx
 | @cons p q ps qs hq t ih=>
  intro x hx;rcases Oz.mp hx with e|hx
  ·subst e;exact key_at I (by rw[<- hq.1];exact hq.2.1)
  ·exact ih x hx
theorem rq{P:N_}{w:Og}{H':Hp}{h:Of}{hw:List aD->Int}{xs:List (List aD×NR×NO)}(h1:yX hw a xs h):cf P w H' h a (.ext (yX hw a xs)):=by
 obtain⟨hd,o,es,ep,e,r⟩:=h1;exact⟨⟨hd,o,es,ep,e,r⟩,⟨o,e⟩,fun h1 h2 ⟨hd,o,es,ep,e,r⟩ k=>⟨hd,o,es,ep,k o e,r⟩⟩
end
section
variable{K:Sf}{H:Hp}{G:Gp}
theorem Iw{p:NR}{o:GO}{ho:HO}(rg:RG K H G)(e:H p=none)(ro:∀ H':Hp,Stb K H H'->RO K H' p o ho):Kp G H (gset G p o) (bq H p ho)/\RG K (bq H p ho) (gset G p o):=by
 have kp:Kp G H (gset G p o) (bq H p ho):=fun b h q n=>by
  have:b≠p:=b_ q e;exact⟨by rw[aA this];exact q,by rw[am this];exact n⟩
 refine⟨kp,fun b u q=>?_⟩
 by_cases hb:b=p
 ·subst hb;rw[aw]at q;cases q;exact⟨_,aN,ro _ (kp.stb rg)⟩
 ·rw[am hb]at q;obtain⟨h,q1,q2⟩:=rg b u q;exact⟨h,by rw[aA hb];exact q1,q2.mono (kp.stb rg)⟩
theorem yC{a:NR}{o:GO}{ho:HO}(rg:RG K H G)(hg:G a≠none)(ro:∀ H':Hp,Stb K H H'->RO K H' a o ho):Kp G H (gset G a o) (bq H a ho)/\RG K (bq H a ho) (gset G a o):=by
 have kp:Kp G H (gset G a o) (bq H a ho):=fun b h e n=>by
  have:b≠a:=fun z=>by subst z;exact hg n
  exact⟨by rw[aA this];exact e,by rw[am this];exact n⟩
 refine⟨kp,fun b u q=>?_⟩
 by_cases hb:b=a
 ·subst hb;rw[aw]at q;cases q;exact⟨_,aN,ro _ (kp.stb rg)⟩
 ·rw[am hb]at q;obtain⟨h,q1,q2⟩:=rg b u q;exact⟨h,by rw[aA hb];exact q1,q2.mono (kp.stb rg)⟩
end
def nF(hw:List aD->Int):bG:=fun _ G Q=>∀ p,G p=none->Q (.ref p) (gset G p (.dT hw []))
def Am:bG:=fun _ G Q=>∀ p,G p=none->Q (.ref p) (gset G p (.dK []))
section
variable{X:Cx}{pos:Pos}
theorem qQ:PE X (.Dict [] [] pos) (aB X.K (nF (aH X.prog X.w))):=fun pins s τ H Q I zz=>by
 obtain⟨σ,G,Q3,rs,rg,h,k⟩:=zz;have hf:H s.heap.objs.size=none:=I.hok.fresh (le_refl _);obtain⟨kp,rg2⟩:=Iw (o:=.dT (aH X.prog X.w) []) (ho:=.ext (yX (aH X.prog X.w) s.heap.objs.size [])) rg hf fun H' _=>⟨[],rfl,.nil,RM,OD _⟩;have hd:(s.heap.objs.size == OK)=false:=beq_eq_false_iff_ne.mpr (Ne.symm (Oq I.big));exact wpAny_Dict_empty ⟨.ref s.heap.objs.size,_,I.laid (a:=s.heap.objs.size) (t':=s.toks) (fun _ _ q=>NT _ q) (le_refl _) (rq ⟨hd,_,#[],0,NW _ rfl,⟨rfl,rfl,rfl⟩,rfl,rfl⟩),rfl,
  k _ _ _ _ (h _ (rg.free hf)) kp rg2 (.of gM)⟩
theorem Kh:PE X (.Dict [] [] pos) (aB X.K Am):=Ft.imp fun τ H Q ⟨σ,G,Q3,rs,rg,h,k⟩ p hp=>by
 obtain⟨kp,rg2⟩:=Iw (o:=.dK []) (ho:=.dK []) rg hp fun H' _=>(show AC X.K H' [] []from .nil)
 exact k _ _ _ _ (h _ (rg.free hp)) kp rg2 (.of gM)
end
def jq(hw:List aD->Int):D->D->D->Gp->(Gp->Prop)->Prop:=fun o i v G Q=>match o with
 | .ref a=>match G a with
  | some (.dT hw' kvs)=>hw'=hw/\∃ ks,lY i=some ks/\kvs.length < NY/\Q (gset G a (.dT hw (bS kvs ks v)))
  | some (.dK kvs)=>∃ k,FW i=some k/\kvs.length < NY/\Q (gset G a (.dK (bS kvs k v)))
  | some (.lst ds)=>match i with
   | .int j=>∃ m,Is ds.length j=some m/\Q (gset G a (.lst (ds.set m v)))
   | _=>False
  | _=>False
 | _=>False
def Im(K:Sf)(r:D->D->D->Gp->(Gp->Prop)->Prop):IQ:=fun o i v H Q=>∃ x y z G Q3,RD K H x o/\RD K H y i/\RD K H z v/\RG K H G/\r x y z G Q3/\∀ G' H',Q3 G'->Kp G H G' H'->RG K H' G'->Q H'
def eA(hw:List aD->Int)(to ti te:bG):ck:=fun E σ G=>te σ G fun v G1=>to σ G1 fun o G2=>ti σ G2 fun i G3=>jq hw (val o) (val i) (val v) G3 fun G4=>E.nx σ G4
section
variable{X:Cx}
theorem JE(hu:X.A.units+8 < OL):Lf X (Im X.K (jq (aH X.prog X.w))):=by
 rintro pins s σ H o i v ov iv u Q I ro ri rv ⟨x,y,z,G,Q3,rx,ry,rz,rg,h,k⟩
 unfold jq at h;split at h
 ·rename_i a;simp only[RD]at rx;subst rx;cases ro;split at h
  ·rename_i hw' kvs hg;obtain⟨rfl,ks,hk,hl,h⟩:=h;obtain⟨b,rfl,sq⟩:=qc hk ry;cases ri;obtain⟨ho,e,r⟩:=rg a _ hg;cases ho with
   | ext φ=>
    obtain⟨xs,rfl,rt,nd,_⟩:=r;obtain⟨hd,dd⟩:=tu I e rt nd;have hz:xs.length<=NY:=by rw[<- rt.length];omega
    refine SY (hsz:=hz) (OJ (show X.A.units+1 < OL by walk_at "o")) (key_at I sq) dd fun h' dd' hs=>?_
    obtain⟨q,es,ep,hq,h2,h3,h4,_,h5⟩:=dd';obtain⟨kp,rg2⟩:=yC (a:=a) (o:=.dT (aH X.prog X.w) (bS kvs ks z)) (ho:=.ext (yX (aH X.prog X.w) a (Rj xs ks b u))) rg (by rw[hg];exact fun z=>nomatch z)
     fun H' st=>⟨_,rfl,(rt.put ks sq rz rv).mono st,nY ks z nd,by have:=fq kvs ks z;omega⟩
    exact⟨_,tx I (by rw[e];exact True.intro) hs ⟨q,hq⟩ (rq ⟨hd,q,es,ep,hq,h2,h3,h4⟩),k _ _ h kp rg2⟩
   | _=>exact r.elim
  ·rename_i kvs hg;obtain⟨kk,hk,hl,h⟩:=h;have ei:=BD hk ry;subst ei;obtain⟨ho,e,r⟩:=rg a _ hg;cases ho with
   | dK xs=>
    have r':AC X.K H kvs xs:=r;obtain⟨kp,rg2⟩:=yC (a:=a) (o:=.dK (bS kvs kk z)) (ho:=.dK (nX xs kk v)) rg (by rw[hg];exact fun z=>nomatch z) fun H' st=>(r'.put kk rz).mono st
    exact DU (by walk_at "o") I (Ee.k e (by rw[<- r'.length];exact hl)) ri rv fun s' I'=>⟨_,I',k _ _ h kp rg2⟩
   | _=>exact r.elim
  ·rename_i ds hg;split at h
   ·rename_i j;obtain⟨m,hm,h⟩:=h;simp only[RD]at ry;subst ry;obtain⟨ho,e,r⟩:=rg a _ hg;cases ho with
    | lst xs=>
     have r':RDs X.K H ds xs:=r;obtain⟨kp,rg2⟩:=yC (a:=a) (o:=.lst (ds.set m z)) (ho:=.lst (xs.set m v)) rg (by rw[hg];exact fun z=>nomatch z) fun H' st=>RDs.mono st _ _ (r'.set m rz)
     exact EJ pins s σ H (.ref a) _ _ _ _ _ _ I rfl ri rv ⟨a,xs,j,m,rfl,rfl,e,by rw[<- r'.length];exact hm,k _ _ h kp rg2⟩
    | _=>exact r.elim
   ·exact h.elim
  ·exact h.elim
 ·exact h.elim
theorem ir{o i e:Oj}{to ti te:bG}{pos pos':Pos}(hu:X.A.units+8 < OL)(ho:PE X o (aB X.K to))(hi:PE X i (aB X.K ti))(he:PE X e (aB X.K te))
  (hs:swapsWithSole [.Subscript o i pos'] e pos.line X.env=pure false:=by rfl) (hw:swappedStores [.Subscript o i pos'] e X.env=pure none:=by rfl) (h1:(Pw [.Subscript o i pos'] X.env).map (·.2)=[assign (.Subscript o i pos') X.env]:=by rfl)
  (ha:∀ v,assign (.Subscript o i pos') X.env v=(do
   let ov <- holding [v] (eval o X.env)
   let iv <- holding [v,ov] (eval i X.env)
   Qw pos'
   holding [v,ov,iv] (Th ov iv v)
   release [v,ov,iv] []):=by intro _;rfl):PS X (.Assign [.Subscript o i pos'] e pos) (cB X.K (eA (aH X.prog X.w) to ti te)):=
 (J2 (d4 he) (J7 (d4 ho) (d4 hi) (JE hu) ha) hs hw h1).imp fun E τ H zz=>by
 obtain⟨σ,G,E3,rs,rg,h,k⟩:=zz;exact (
  ⟨σ,G,_,rs,rg,h,fun v G1 u H1 q1 k1 rg1 rd1=>
    ⟨σ,G1,_,rs.mono (k1.stb rg),rg1,q1,fun o G2 u2 H2 q2 k2 rg2 rd2=>⟨σ,G2,_,rs.mono ((k1.trans k2).stb rg),rg2,q2,fun i G3 u3 H3 q3 k3 rg3 rd3=>
     ⟨val o,val i,val v,G3,_,RD.mono (k3.stb rg2) _ _ rd2,rd3,RD.mono ((k2.trans k3).stb rg1) _ _ rd1,rg3,q3,fun G4 H4 q4 k4 rg4=>k.nx σ G4 τ H4 q4 (k1.trans (k2.trans (k3.trans k4))) rg4 (rs.mono ((k1.trans (k2.trans (k3.trans k4))).stb rg))⟩⟩⟩⟩)
end
def cF(hw:List aD->Int)(G:Gp)(o i:D)(r:Option D):Prop:=match o with
 | .ref a=>match G a with
  | some (.dT hw' kvs)=>hw'=hw/\∃ ks,lY i=some ks/\r=cV kvs ks
  | some (.dK kvs)=>∃ k,FW i=some k/\r=cV kvs k
  | some (.dF _ hw' _ kvs)=>hw'=hw/\∃ ks,lY i=some ks/\r=cV kvs ks
  | _=>False
 | _=>False
def hU(G:Gp)(o:D):Prop:=match o with
 | .ref a=>match G a with
  | some (.dT _ _)=>True
  | some (.dK _)=>True
  | some (.dF _ _ _ _)=>True
  | _=>False
 | _=>False
section
variable{X:Cx}{pins:List (NR×Obj)}{σ:St}{H:Hp}{s:NP}{G:Gp}{A:Oc}{E:NO->NP->Prop}{x y d z:D}{o i zv:V}{ov iv zu:NO}{r:Option D}
theorem cF.split(h:cF (aH X.prog X.w) G x y r)(I:Inv X pins σ H s)(rg:RG X.K H G)(rx:RD X.K H x o)(ro:aF o ov)(ry:RD X.K H y i)(ri:aF i iv):
  ∃ a,ov=.ref a/\((∃ hs k,H a=some (.dK hs)/\i=kV k/\((r=none/\mP hs k=none)\/∃ d v,r=some d/\mP hs k=some v/\RD X.K H d v))\/
   ∃ xs ks b,(a == OK)=false/\s.heap.DictOfH (OY (bj X.prog X.w)) a xs/\iv=.ref b/\(OY (bj X.prog X.w)).is s.heap ks b/\
    ((r=none/\Qr xs ks=none)\/∃ d b' u v,r=some d/\Qr xs ks=some (b',u)/\RD X.K H d v/\aF v u)):=by
 unfold cF at h;split at h
 ·rename_i a;simp only[RD]at rx;subst rx;cases ro;refine⟨a,rfl,?_⟩;split at h
  ·rename_i hw' kvs hg;obtain⟨rfl,ks,hk,rfl⟩:=h;obtain⟨b,rfl,sq⟩:=qc hk ry;cases ri;obtain⟨ho,e,q⟩:=rg a _ hg;cases ho with
   | ext φ=>
    obtain⟨xs,rfl,rt,nd,_⟩:=q;obtain⟨hd,dd⟩:=tu I e rt nd;exact .inr ⟨xs,ks,b,hd,dd,rfl,key_at I sq,rt.val ks⟩
   | _=>exact q.elim
  ·rename_i kvs hg;obtain⟨k,hk,rfl⟩:=h;obtain⟨ho,e,q⟩:=rg a _ hg;cases ho with
   | dK hs=>
    have q':AC X.K H kvs hs:=q;exact .inl ⟨hs,k,e,BD hk ry,q'.val k⟩
   | _=>exact q.elim
  ·rename_i ob hw' xs kvs hg;obtain⟨rfl,ks,hk,rfl⟩:=h;obtain⟨b,rfl,sq⟩:=qc hk ry;cases ri;obtain⟨ho,e,q⟩:=rg a _ hg;cases ho with
   | ext φ=>
    obtain⟨rfl,rt,nd,_⟩:=q;obtain⟨hd,dd⟩:=tu I e rt nd fun _ z=>z.2;exact .inr ⟨xs,ks,b,hd,dd,rfl,key_at I sq,rt.val ks⟩
   | _=>exact q.elim
  ·exact h.elim
 ·exact h.elim
theorem hU.at(h:hU G x)(I:Inv X pins σ H s)(rg:RG X.K H G)(rx:RD X.K H x o)(ro:aF o ov):
  s.TypeIs ov "dict"/\(∀ b,ov=.ref b->∃ ob,s.heap.get? b=some ob/\ob.dict=none):=by
 unfold hU at h;split at h
 ·rename_i a;simp only[RD]at rx;subst rx;cases ro;split at h
  ·rename_i hw' kvs hg;obtain⟨ho,e,q⟩:=rg a _ hg;cases ho with
   | ext φ=>
    obtain⟨xs,rfl,rt,nd,_⟩:=q;obtain⟨hd,ob,es,ep,h1,h2,h3,h4⟩:=(show cf X.prog X.w H s.heap a (.ext (yX hw' a xs))from I.hok a _ e).1
    refine⟨⟨ob,h1,h2.1⟩,fun b hb=>?_⟩;cases hb;exact⟨ob,h1,h2.2.1⟩
   | _=>exact q.elim
  ·rename_i kvs hg;obtain⟨ho,e,q⟩:=rg a _ hg;cases ho with
   | dK hs=>
    obtain⟨t1,t2,_⟩:=KP I (.inl ⟨hs,.inl e⟩);exact⟨t1,t2⟩
   | _=>exact q.elim
  ·rename_i ob hw' xs kvs hg;obtain⟨ho,e,q⟩:=rg a _ hg;cases ho with
   | ext φ=>
    obtain⟨rfl,rt,nd,_⟩:=q;obtain⟨_,hd,ob,es,ep,h1,h2,h3,h4⟩:=(show cf X.prog X.w H s.heap a (.ext (Nr _ hw' a xs))from I.hok a _ e).1
    exact⟨⟨ob,h1,h2.1⟩,fun b hb=>by cases hb;exact⟨ob,h1,h2.2.1⟩⟩
   | _=>exact q.elim
  ·exact h.elim
 ·exact h.elim
theorem cF.dct{hw:List aD->Int}(h:cF hw G x y r):hU G x:=by
 unfold cF at h;unfold hU;split at h
 ·split at h
  ·rename_i e;simp only[e]
  ·rename_i e;simp only[e]
  ·rename_i e;simp only[e]
  ·exact h.elim
 ·exact h.elim
theorem ID{Q:NO->NP->Prop}(hu:A.units+1 < OL)(I:Inv X pins σ H s)(rg:RG X.K H G)(h:cF (aH X.prog X.w) G x y (some d))(rx:RD X.K H x o)(ro:aF o ov)(ry:RD X.K H y i)(ri:aF i iv)
  (q:∀ v u s',Inv X pins σ H s'->RD X.K H d v->aF v u->Q u s'):NZ (N4 X.prog X.w) A (QX ov iv) Q E s:=by
 obtain⟨a,rfl,⟨hs,k,e,rfl,r⟩|⟨xs,ks,b,hd,dd,rfl,hk,r⟩⟩:=h.split I rg rx ro ry ri
 ·rcases r with ⟨z,_⟩|⟨d',v,e1,e2,rd⟩
  ·cases z
  ·cases e1;exact DV hu I (.inl ⟨hs,k,.inl e,rfl,e2.symm⟩) ri fun u s' I' rv=>q v u s' I' rd rv
 ·rcases r with ⟨z,_⟩|⟨d',b',u,v,e1,e2,rd,rv⟩
  ·cases z
  ·cases e1;exact SZ (OJ hu) hk dd e2 (q v u _ (I.tok _) rd rv)
theorem Jy{Q:NO->NP->Prop}(hu:A.units+1 < OL)(I:Inv X pins σ H s)(rg:RG X.K H G)(h:cF (aH X.prog X.w) G x y r)(rx:RD X.K H x o)(ro:aF o ov)(ry:RD X.K H y i)(ri:aF i iv)
  (q:∀ s',Inv X pins σ H s'->Q (.bool r.isSome) s'):NZ (N4 X.prog X.w) A (Oy .In iv ov) Q E s:=by
 obtain⟨a,rfl,⟨hs,k,e,rfl,l⟩|⟨xs,ks,b,hd,dd,rfl,hk,l⟩⟩:=h.split I rg rx ro ry ri
 ·refine Nb hu I (vq.k e) ri fun s' I'=>?_;rcases l with ⟨rfl,e2⟩|⟨d,v,rfl,e2,_⟩<;>rw[e2]<;>exact q s' I'
 ·refine wpAny_in_heap (OJ hu) hk hd dd ?_;rcases l with ⟨rfl,e2⟩|⟨d,b',u,v,rfl,e2,_⟩<;>rw[e2]<;>exact q _ (I.tok _)
theorem Ge{Q:NO->NP->Prop}(hu:A.units+1 < OL)(I:Inv X pins σ H s)(rg:RG X.K H G)(h:cF (aH X.prog X.w) G x y r)(rx:RD X.K H x o)(ro:aF o ov)(ry:RD X.K H y i)(ri:aF i iv)
  (q:∀ s',Inv X pins σ H s'->Q (.bool (!r.isSome)) s'):NZ (N4 X.prog X.w) A (Oy .NotIn iv ov) Q E s:=by
 obtain⟨a,rfl,⟨hs,k,e,rfl,l⟩|⟨xs,ks,b,hd,dd,rfl,hk,l⟩⟩:=h.split I rg rx ro ry ri
 ·refine IC hu I (vq.k e) ri fun s' I'=>?_;rcases l with ⟨rfl,e2⟩|⟨d,v,rfl,e2,_⟩<;>rw[e2]<;>exact q s' I'
 ·refine wpAny_notIn_heap (OJ hu) hk hd dd ?_;rcases l with ⟨rfl,e2⟩|⟨d,b',u,v,rfl,e2,_⟩<;>rw[e2]<;>exact q _ (I.tok _)
theorem IE{Q:NO->NP->Prop}(hu:A.units+1 < OL)(I:Inv X pins σ H s)(rg:RG X.K H G)(h:cF (aH X.prog X.w) G x y r)(rx:RD X.K H x o)(ro:aF o ov)(ry:RD X.K H y i)(ri:aF i iv)(rz:RD X.K H z zv)(rzu:aF zv zu)
  (q:∀ v u s',Inv X pins σ H s'->RD X.K H (r.getD z) v->aF v u->Q u s'):NZ (N4 X.prog X.w) A (call (.builtin "dict.get") [ov,iv,zu]) Q E s:=by
 obtain⟨a,rfl,⟨hs,k,e,rfl,l⟩|⟨xs,ks,b,hd,dd,rfl,hk,l⟩⟩:=h.split I rg rx ro ry ri
 ·refine KY hu I (vq.k e) ri rzu fun u s' I' rv=>?_;rcases l with ⟨rfl,e2⟩|⟨d,v,rfl,e2,rd⟩<;>rw[e2]at rv
  ·exact q _ u s' I' rz rv
  ·exact q _ u s' I' rd rv
 ·refine RF PySem.F.slot_dict_get dd.typeIs PySem.F.entry_dict_get (PySem.F.args_dict_get_3 _ _ _) (Sm (OY (bj X.prog X.w)) a b hd zu) ⟨OJ hu,ks,xs,hk,dd,?_⟩;rcases l with ⟨rfl,e2⟩|⟨d,b',u,v,rfl,e2,rd,rv⟩<;>rw[e2]
  ·exact q zv _ _ (I.tok _) rz rzu
  ·exact q v _ _ (I.tok _) rd rv
end
def sT(hw:List aD->Int)(to ti:bG):bG:=fun σ G Q=>to σ G fun x G1=>ti σ G1 fun y G2=>∃ d,cF hw G2 (val x) (val y) (some d)/\Q d G2
def u8(hw:List aD->Int)(ti to:bG):bG:=fun σ G Q=>ti σ G fun y G1=>to σ G1 fun x G2=>∃ r,cF hw G2 (val x) (val y) r/\Q (.bl r.isSome) G2
def f9(hw:List aD->Int)(ti to:bG):bG:=fun σ G Q=>ti σ G fun y G1=>to σ G1 fun x G2=>∃ r,cF hw G2 (val x) (val y) r/\Q (.bl (!r.isSome)) G2
def i5(hw:List aD->Int)(to ti tz:bG):bG:=fun σ G Q=>to σ G fun x G1=>hU G1 (val x)/\ti σ G1 fun y G2=>tz σ G2 fun z G3=>∃ r,cF hw G3 (val x) (val y) r/\Q (r.getD (val z)) G3
section
variable{X:Cx}{o i e f:Oj}{to ti tz:bG}{pos apos cpos:Pos}
theorem dN{t:bG}{e:Oj}(h:PE X e (aB X.K t)){pins:List (NR×Obj)}{s:NP}{τ:St}{H:Hp}{σ:ff}{G:Gp}{Q3:m5}(I:Inv X pins τ H s)(rs:RS X.K H σ τ)(rg:RG X.K H G)(ht:t σ G Q3):
  NZ (N4 X.prog X.w) X.A (eval e X.env) (EP X pins τ fun v H1=>∃ d G1,Q3 d G1/\Kp G H G1 H1/\RG X.K H1 G1/\RD X.K H1 (val d) v) X.xe s:=
 d4 h pins s τ H _ I ⟨σ,G,Q3,rs,rg,ht,fun d G' v H' q k rg' rd=>⟨d,G',q,k,rg',rd⟩⟩
theorem r8(hu:X.A.units+8 < OL)(ho:PE X o (aB X.K to))(hi:PE X i (aB X.K ti))(hs:Mu i:=by exact fun _ _=>rfl):PE X (.Subscript o i pos) (aB X.K (sT (aH X.prog X.w) to ti)):=by
 rintro pins s τ H Q I ⟨σ,G,Q3,rs,rg,h,k⟩
 refine Hf PySem.F.slot_dict_getitem.lookup hs (cz (dN ho I rs rg h) fun ov s1 zz=>?_);obtain⟨ox,H1,I1,rox,x,G1,q1,k1,rg1,rd1⟩:=zz;refine cz (dN hi I1 (rs.mono (k1.stb rg)) rg1 q1) fun iv s2 zz=>?_;obtain⟨iy,H2,I2,riy,y,G2,q2,k2,rg2,rd2⟩:=zz;obtain⟨d,l,q2⟩:=q2;have rx:=RD.mono (k2.stb rg1) _ _ rd1;exact⟨(l.dct.at I2 rg2 rx rox).1,ID (by walk_at "o") I2 rg2 l rx rox rd2 riy fun v u s3 I3 rd rv=>⟨v,H2,I3,rv,k _ G2 _ H2 q2 (k1.trans k2) rg2 (.of rd)⟩⟩
theorem L0(hu:X.A.units+8 < OL)(hi:PE X i (aB X.K ti))(ho:PE X o (aB X.K to))(hm:OT .In o=false:=by rfl):PE X (.Compare i [.In] [o] pos) (aB X.K (u8 (aH X.prog X.w) ti to)):=by
 refine Kc (op:=.In) (fun pins s τ H Q I zz=>?_) hm;obtain⟨σ,G,Q3,rs,rg,h,k⟩:=zz;refine cz (dN hi I rs rg h) fun iv s1 zz=>?_;obtain⟨iy,H1,I1,riy,y,G1,q1,k1,rg1,rd1⟩:=zz;refine cz (dN ho I1 (rs.mono (k1.stb rg)) rg1 q1) fun ov s2 zz=>?_;obtain⟨ox,H2,I2,rox,x,G2,q2,k2,rg2,rd2⟩:=zz;obtain⟨r,l,q2⟩:=q2;exact Jy (by walk_at "o") I2 rg2 l rd2 rox (RD.mono (k2.stb rg1) _ _ rd1) riy fun s3 I3=>⟨.bl r.isSome,H2,I3,rfl,k _ G2 _ H2 q2 (k1.trans k2) rg2 (.of im)⟩
theorem xO(hu:X.A.units+8 < OL)(ho:PE X o (aB X.K to))(he:PE X e (aB X.K ti))(hf:PE X f (aB X.K tz))(m:M2 X o "get" apos e f cpos:=by exact⟨rfl,rfl,rfl,rfl⟩):PE X (.Call (.Attribute o "get" apos) [e,f] [] cpos) (aB X.K (i5 (aH X.prog X.w) to ti tz)):=by
 rintro pins s τ H Q I ⟨σ,G,Q3,rs,rg,h,k⟩
 refine wpAny_Call_method m.base m.few m.line PySem.F.plainAttrs_dict PySem.F.slot_dict_get PySem.F.type_dict_get (cz (dN ho I rs rg h) fun ov s1 zz=>?_);obtain⟨ox,H1,I1,rox,x,G1,q1,k1,rg1,rd1⟩:=zz;obtain⟨t1,t2⟩:=q1.1.at I1 rg1 rd1 rox;refine⟨t1,t2,?_⟩;rw[m.trees];refine Q1 rfl (SV (OP (cz (dN he I1 (rs.mono (k1.stb rg)) rg1 q1.2) fun iv s2 ⟨iy,H2,I2,riy,y,G2,q2,k2,rg2,rd2⟩=>OP (cz (dN hf I2 (rs.mono ((k1.trans k2).stb rg)) rg2 q2) fun fv s3 zz=>?_))));obtain⟨fz,H3,I3,rfz,z,G3,q3,k3,rg3,rd3⟩:=zz;refine O1 ?_;obtain⟨r,l,q3⟩:=q3;exact IE (by walk_at "o") I3 rg3 l (RD.mono ((k2.trans k3).stb rg1) _ _ rd1) rox (RD.mono (k3.stb rg2) _ _ rd2) riy rd3 rfz fun v u s4 I4 rd rv=>⟨v,H3,I4,rv,k _ G3 _ H3 q3 (k1.trans (k2.trans k3)) rg3 (.of rd)⟩
end
end L3
namespace PySem.W
open PySem PyProof.Rows
def KasT.run{α:Type}(lt:Nat->Nat->Bool):Tc α->α
 | .ret a=>a
 | .ask i j k=>(k (lt i j)).run lt
theorem KasT.run_bind{α β:Type}(lt:Nat->Nat->Bool)(f:α->Tc β):∀ t:Tc α,(t.bind f).run lt=(f (t.run lt)).run lt
 | .ret _=>rfl
 | .ask i j k=>by
  show ((k (lt i j)).bind f).run lt=_
  rw[KasT.run_bind lt f (k (lt i j))];rfl
section
variable(r:Nat->Nat)
def m4(i j:Nat):Bool:=decide (r i < r j)
def RR(p:Array Nat)(i:Nat):Nat:=r (p.getD i 0)
def nJ(p:Array Nat)(n:Nat):Prop:=∀ i,i+1 < n->RR r p i<=RR r p (i+1)
def vp(p:Array Nat)(n:Nat):Prop:=∀ i,i+1 < n->RR r p (i+1)<=RR r p i
end
section
variable{r:Nat->Nat}{p:Array Nat}
theorem nJ.le{n:Nat}(h:nJ r p n){i j:Nat}(hij:i<=j)(hj:j < n):RR r p i<=RR r p j:=by
 induction j with
 | zero=>
      have:i=0:=by walk_at "o"
      subst this;exact le_refl _
 | succ j ih=>
  rcases Pm i (j+1)with h1|h1
  ·exact le_trans (ih (by walk_at "o") (by walk_at "o")) (h j hj)
  ·have:i=j+1:=by walk_at "o"
   subst this;exact le_refl _
theorem vp.le{n:Nat}(h:vp r p n){i j:Nat}(hij:i<=j)(hj:j < n):RR r p j<=RR r p i:=by
 induction j with
 | zero=>
      have:i=0:=by walk_at "o"
      subst this;exact le_refl _
 | succ j ih=>
  rcases Pm i (j+1)with h1|h1
  ·exact le_trans (h j hj) (ih (by walk_at "o") (by walk_at "o"))
  ·have:i=j+1:=by walk_at "o"
   subst this;exact le_refl _
theorem AB{p q:Array Nat}{i j:Nat}(h:p[i]?=q[j]?):RR r p i=RR r q j:=by
 unfold RR;rw[Array.getD_eq_getD_getElem?,Array.getD_eq_getD_getElem?,h]
theorem yS{i j:Nat}(hj:j<=p.size)(k:Nat):RR r (PK p i j) k=if i<=k/\k < j then RR r p (i+j - 1 - k)else RR r p k:=by
 have e:=getElem?_mirror_all (xs:=p) (i:=i) hj k;unfold PK;split
 ·rename_i h;rw[if_pos h]at e;exact AB e
 ·rename_i h;rw[if_neg h]at e;exact AB e
theorem il(i j:Nat):(PK p i j).size=p.size:=mirror_size _ _ _ _
theorem rC{i j:Nat}(hj:j<=p.size)(he:∀ k,i<=k->k < j->RR r p k=RR r p (j - 1))(k:Nat):RR r (PK p i j) k=RR r p k:=by
 rw[yS hj];split
 ·rename_i h;rw[he _ (by walk_at "o") (by walk_at "o"),he k h.1 h.2]
 ·rfl
theorem vc{i j:Nat}:m4 r i j=true↔r i < r j:=by unfold m4;exact decide_eq_true_iff
theorem jv{i j:Nat}:m4 r i j=false↔r j<=r i:=by unfold m4;rw[decide_eq_false_iff_not];omega
theorem BU:∀ (f n:Nat),1<=n->∃ m,(kas_asc p f n).run (m4 r)=m/\n<=m/\m<=n+f/\(∀ i,n<=i->i < m->RR r p (i - 1)<=RR r p i)/\(m < n+f->RR r p m < RR r p (m - 1))
 | 0,n,_=>⟨n,rfl,le_refl _,le_refl _,fun i h1 h2=>absurd h1 (by walk_at "o"),fun h=>absurd h (by walk_at "o")⟩
 | f+1,n,hn=>by
  show ∃ m,((fun c=>if c=true then KasT.ret n else kas_asc p f (n+1)) (m4 r (p.getD n 0) (p.getD (n - 1) 0))).run (m4 r)=m/\_
  cases e:m4 r (p.getD n 0) (p.getD (n - 1) 0) with
  | true=>exact⟨n,rfl,le_refl _,by walk_at "o",fun i h1 h2=>absurd h1 (by walk_at "o"),fun _=>vc.mp e⟩
  | false=>
   obtain⟨m,e1,h1,h2,h3,h4⟩:=BU f (n+1) (by walk_at "o")
   refine⟨m,e1,by walk_at "o",by walk_at "o",fun i h5 h6=>?_,fun h=>h4 (by walk_at "o")⟩
   rcases Pm n i with h7|h7
   ·exact h3 i h7 h6
   ·have:i=n:=by walk_at "o"
    subst this;exact jv.mp e
structure DSt(r:Nat->Nat)(p:Array Nat)(n q:Nat):Prop where
 hq:q+1<=n
 hn:n<=p.size
 dec:vp r p n
 eq:∀ k,n - (q+1)<=k->k < n->RR r p k=RR r p (n - 1)
theorem Fy{n:Nat}:∀ k,n+1 - (0+1)<=k->k < n+1->RR r p k=RR r p (n+1 - 1):=fun k h1 h2=>by
 have:k=n+1 - 1:=by walk_at "o"
 subst this;rfl
theorem yJ:∀ (f:Nat) (p:Array Nat) (n q:Nat),DSt r p n q->n+f<=p.size->∃ p' n' q',(Qh f p n q).run (m4 r)=(p',n',q')/\DSt r p' n' q'/\n<=n'/\n'<=n+f/\p'.size=p.size/\p'.Perm p
 | 0,p,n,q,h,_=>⟨p,n,q,rfl,h,le_refl _,le_refl _,rfl,Array.Perm.refl _⟩
 | f+1,p,n,q,h,hf=>by
  have hq:=h.hq;show ∃ p' n' q',((fun c=>if c=true then (if q > 0 then Qh f (PK p (n - (q+1)) n) (n+1) 0 else Qh f p (n+1) 0)
   else .ask (p.getD (n - 1) 0) (p.getD n 0) fun d=>if d=true then .ret (p,n,q)else Qh f p (n+1) (q+1)) (m4 r (p.getD n 0) (p.getD (n - 1) 0))).run (m4 r)=(p',n',q')/\_
  cases e:m4 r (p.getD n 0) (p.getD (n - 1) 0) with
  | true=>
   have lt:RR r p n < RR r p (n - 1):=vc.mp e;have next:∀ p1:Array Nat,p1.size=p.size->p1.Perm p->(∀ k,RR r p1 k=RR r p k)->∃ p' n' q',(Qh f p1 (n+1) 0).run (m4 r)=(p',n',q')/\DSt r p' n' q'/\n<=n'/\n'<=n+(f+1)/\p'.size=p.size/\p'.Perm p:=fun p1 hz hp hR=>by
    have hn:=h.hn;have dc:vp r p1 (n+1):=fun i hi=>by
     rw[hR,hR];rcases Pm (i+1) n with h7|h7
     ·exact h.dec i h7
     ·have e2:n=i+1:=by walk_at "o"
      have e3:i=n - 1:=by walk_at "o"
      rw[<- e2,e3];exact le_of_lt lt
    obtain⟨p',n',q',e1,h1,h2,h3,h4,h5⟩:=yJ f p1 (n+1) 0 ⟨by walk_at "o",by walk_at "o",dc,Fy⟩ (by walk_at "o")
    exact⟨p',n',q',e1,h1,by walk_at "o",by walk_at "o",by walk_at "o",h5.trans hp⟩
   show ∃ p' n' q',(if q > 0 then Qh f (PK p (n - (q+1)) n) (n+1) 0 else Qh f p (n+1) 0).run (m4 r)=(p',n',q')/\_
   by_cases hq0:q > 0
   ·rw[if_pos hq0];exact next _ (il _ _) (RU _ _ _ _) (rC (by walk_at "o") h.eq)
   ·rw[if_neg hq0];exact next p rfl (Array.Perm.refl _) fun _=>rfl
  | false=>
   have ge:RR r p (n - 1)<=RR r p n:=jv.mp e;show ∃ p' n' q',((fun d=>if d=true then KasT.ret (p,n,q)else Qh f p (n+1) (q+1)) (m4 r (p.getD (n - 1) 0) (p.getD n 0))).run (m4 r)=(p',n',q')/\_
   cases e2:m4 r (p.getD (n - 1) 0) (p.getD n 0) with
   | true=>exact⟨p,n,q,rfl,h,le_refl _,by walk_at "o",rfl,Array.Perm.refl _⟩
   | false=>
    have le:RR r p n<=RR r p (n - 1):=jv.mp e2;have dc:vp r p (n+1):=fun i hi=>by
     rcases Pm (i+1) n with h7|h7
     ·exact h.dec i h7
     ·have e2:n=i+1:=by walk_at "o"
      have e3:i=n - 1:=by walk_at "o"
      rw[<- e2,e3];exact le
    have eqq:∀ k,n+1 - (q+1+1)<=k->k < n+1->RR r p k=RR r p (n+1 - 1):=fun k h1 h2=>by
     show RR r p k=RR r p n
     rcases Pm k n with h7|h7
     ·rw[h.eq k (by walk_at "o") h7];omega
     ·have:k=n:=by walk_at "o"
      subst this;rfl
    obtain⟨p',n',q',e1,h1,h2,h3,h4,h5⟩:=yJ f p (n+1) (q+1) ⟨by walk_at "o",by walk_at "o",dc,eqq⟩ (by walk_at "o")
    exact⟨p',n',q',e1,h1,by walk_at "o",by walk_at "o",h4,h5⟩
theorem zc{n nrem:Nat}(h1:1<=n)(hn:n<=nrem)(hz:nrem<=p.size)(hd:vp r p n):∃ m p',(Qe n nrem p).run (m4 r)=(m,p')/\1<=m/\m<=nrem/\p'.size=p.size/\p'.Perm p/\nJ r p' m:=by
 unfold Qe;rw[KasT.run_bind];obtain⟨m,e,a1,a2,a3,_⟩:=BU (r:=r) (p:=PK p 0 n) (nrem - n) n h1;rw[e];refine⟨m,_,rfl,by walk_at "o",by walk_at "o",il _ _,RU _ _ _ _,fun i hi=>?_⟩
 rcases Pm (i+1) n with h7|h7
 ·rw[yS (by walk_at "o"),yS (by walk_at "o"),if_pos (by walk_at "o"),if_pos (by walk_at "o")]
  exact hd.le (by walk_at "o") (by walk_at "o")
 ·exact a3 (i+1) h7 hi
theorem su{n nrem:Nat}(h1:1<=n)(hn:n+1<=nrem)(hz:nrem<=p.size)(hd:vp r p (n+1)):∃ m p',(QV n nrem p).run (m4 r)=(m,p')/\1<=m/\m<=nrem/\p'.size=p.size/\p'.Perm p/\nJ r p' m:=by
 unfold QV;rw[KasT.run_bind];obtain⟨p1,n1,q1,e,d,a1,a2,a3,a4⟩:=yJ (r:=r) (nrem - (n+1)) p (n+1) 0 ⟨by walk_at "o",by walk_at "o",hd,Fy⟩ (by walk_at "o")
 rw[e];have hq:=d.hq
 by_cases hq0:q1 > 0
 ·show ∃ m p',(if q1 > 0 then Qe n1 nrem (PK p1 (n1 - (q1+1)) n1)else Qe n1 nrem p1).run (m4 r)=(m,p')/\_
  rw[if_pos hq0];have hR:=rC (r:=r) (p:=p1) (i:=n1 - (q1+1)) (j:=n1) d.hn d.eq;obtain⟨m,p',b1,b2,b3,b4,b5,b6⟩:=zc (r:=r) (p:=PK p1 (n1 - (q1+1)) n1) (n:=n1) (nrem:=nrem) (by walk_at "o") (by walk_at "o") (by rw[il];omega) (fun i hi=>by rw[hR,hR];exact d.dec i hi)
  exact⟨m,p',b1,b2,b3,by rw[b4,il,a3],(b5.trans (RU _ _ _ _)).trans a4,b6⟩
 ·show ∃ m p',(if q1 > 0 then Qe n1 nrem (PK p1 (n1 - (q1+1)) n1)else Qe n1 nrem p1).run (m4 r)=(m,p')/\_
  rw[if_neg hq0];obtain⟨m,p',b1,b2,b3,b4,b5,b6⟩:=zc (r:=r) (p:=p1) (n:=n1) (nrem:=nrem) (by walk_at "o") (by walk_at "o") (by walk_at "o") d.dec
  exact⟨m,p',b1,b2,b3,by rw[b4,a3],b5.trans a4,b6⟩
theorem Gh{nrem:Nat}(h1:1<=nrem)(hz:nrem<=p.size):∃ m p',(Sn nrem p).run (m4 r)=(m,p')/\1<=m/\m<=nrem/\p'.size=p.size/\p'.Perm p/\nJ r p' m:=by
 unfold Sn;rw[KasT.run_bind];obtain⟨n,e,a1,a2,a3,a4⟩:=BU (r:=r) (p:=p) (nrem - 1) 1 (le_refl _);rw[e];have adj:nJ r p n:=fun i hi=>a3 (i+1) (by walk_at "o") hi
 by_cases h2:n=nrem
 ·rw[if_pos (by simpa using h2)]
  exact⟨n,p,rfl,by walk_at "o",by walk_at "o",rfl,Array.Perm.refl _,adj⟩
 ·rw[if_neg (by simpa using h2)]
  have dn:RR r p n < RR r p (n - 1):=a4 (by walk_at "o")
  by_cases h3:n > 1
  ·rw[if_pos h3];show ∃ m p',((fun c=>if c=true then KasT.ret (n,p)else QV n nrem (PK p 0 n)) (m4 r (p.getD 0 0) (p.getD (n - 1) 0))).run (m4 r)=(m,p')/\_
   cases e2:m4 r (p.getD 0 0) (p.getD (n - 1) 0) with
   | true=>exact⟨n,p,rfl,by walk_at "o",by walk_at "o",rfl,Array.Perm.refl _,adj⟩
   | false=>
    have ge:RR r p (n - 1)<=RR r p 0:=jv.mp e2;have eq:∀ k,0<=k->k < n->RR r p k=RR r p (n - 1):=fun k _ hk=>by
     have:=adj.le (OD k) hk;have:=adj.le (show k<=n - 1 by walk_at "o") (by walk_at "o")
     omega
    have hR:=rC (r:=r) (p:=p) (i:=0) (j:=n) (by walk_at "o") eq
    obtain⟨m,p',b1,b2,b3,b4,b5,b6⟩:=su (r:=r) (p:=PK p 0 n) (n:=n) (nrem:=nrem) (by walk_at "o") (by walk_at "o") (by rw[il];omega) (fun i hi=>by
     rw[hR,hR];rcases Pm (i+1) n with h7|h7
     ·rw[eq i (by walk_at "o") (by walk_at "o"),eq (i+1) (by walk_at "o") h7];exact le_refl _
     ·have e3:n=i+1:=by walk_at "o"
      have e4:i=n - 1:=by walk_at "o"
      rw[<- e3,e4];exact le_of_lt dn)
    exact⟨m,p',b1,b2,b3,by rw[b4,il],b5.trans (RU _ _ _ _),b6⟩
  ·rw[if_neg h3];have e1:n=1:=by walk_at "o"
   subst e1;exact su (by walk_at "o") (by walk_at "o") hz (fun i hi=>by
    have:i=0:=by walk_at "o"
    subst this;exact le_of_lt dn)
theorem uj{k:Nat}(hs:nJ r p k):∀ (f l u:Nat),l<=u->u<=k->u - l<=f->(∀ i,i < l->RR r p i<=RR r p k)->(∀ i,u<=i->i < k->RR r p k < RR r p i)->
  ∃ m,(Rk p k f l u).run (m4 r)=m/\m<=k/\(∀ i,i < m->RR r p i<=RR r p k)/\(∀ i,m<=i->i < k->RR r p k < RR r p i)
 | 0,l,u,h1,h2,h3,h4,h5=>⟨l,rfl,by walk_at "o",h4,fun i a b=>h5 i (by walk_at "o") b⟩
 | f+1,l,u,h1,h2,h3,h4,h5=>by
  unfold Rk
  by_cases hlu:l>=u
  ·rw[if_pos hlu];exact⟨l,rfl,by walk_at "o",h4,fun i a b=>h5 i (by walk_at "o") b⟩
  ·rw[if_neg hlu];show ∃ m,((fun c=>if c=true then Rk p k f l ((l+u) / 2)else Rk p k f ((l+u) / 2+1) u) (m4 r (p.getD k 0) (p.getD ((l+u) / 2) 0))).run (m4 r)=m/\_
   cases e:m4 r (p.getD k 0) (p.getD ((l+u) / 2) 0) with
   | true=>
    have lt:RR r p k < RR r p ((l+u) / 2):=vc.mp e;exact uj hs f l ((l+u) / 2) (by walk_at "o") (by walk_at "o") (by walk_at "o") h4 fun i a b=>Os lt (hs.le a b)
   | false=>
    have ge:RR r p ((l+u) / 2)<=RR r p k:=jv.mp e;exact uj hs f ((l+u) / 2+1) u (by walk_at "o") h2 (by walk_at "o") (fun i a=>le_trans (hs.le (show i<=(l+u) / 2 by walk_at "o") (by walk_at "o")) ge) h5
theorem rD{src d:Nat}(hs:src < p.size)(hd:d<=src)(k:Nat):RR r (bubble p src d) k=if k=src - d then RR r p src else if src - d < k/\k<=src then RR r p (k - 1)else RR r p k:=by
 have e:=getElem?_bubble hs d hd k;split
 ·rename_i h;rw[if_pos h]at e;exact AB e
 ·rename_i h;rw[if_neg h]at e;split
  ·rename_i h2;rw[if_pos h2]at e;exact AB e
  ·rename_i h2;rw[if_neg h2]at e;exact AB e
theorem Go:∀ (f:Nat) (p:Array Nat) (k:Nat),k+f=p.size->nJ r p k->∃ p',(RZ f p k).run (m4 r)=p'/\p'.size=p.size/\p'.Perm p/\nJ r p' p.size
 | 0,p,k,h,a=>⟨p,rfl,rfl,Array.Perm.refl _,by rw[<- h];exact a⟩
 | f+1,p,k,h,a=>by
  unfold RZ;rw[KasT.run_bind];obtain⟨l,e,b1,b2,b3⟩:=uj (r:=r) a k 0 k (by walk_at "o") (le_refl _) (by walk_at "o") (fun i z=>absurd z (by walk_at "o")) (fun i x y=>absurd x (by walk_at "o"))
  rw[e];have hk:k < p.size:=by walk_at "o"
  obtain⟨p',c1,c2,c3,c4⟩:=Go f (bubble p k (k - l)) (k+1) (by rw[SQ];omega) (fun i hi=>by
   have e1:=rD (r:=r) hk (show k - l<=k by walk_at "o") i
   have e2:=rD (r:=r) hk (show k - l<=k by walk_at "o") (i+1)
   have ek:k - (k - l)=l:=by walk_at "o"
   rw[ek]at e1 e2;rw[e1,e2];rcases Nat.lt_trichotomy i l with hil|hil|hil
   ·rw[if_neg (by walk_at "o"),if_neg (by walk_at "o")]
    by_cases h2:i+1=l
    ·rw[if_pos h2];exact b2 i hil
    ·rw[if_neg h2,if_neg (by walk_at "o")];exact a i (by walk_at "o")
   ·rw[if_pos hil,if_neg (by walk_at "o"),if_pos (by walk_at "o")]
    have:i+1 - 1=i:=by walk_at "o"
    rw[this];exact le_of_lt (b3 i (by walk_at "o") (by walk_at "o"))
   ·rw[if_neg (by walk_at "o"),if_pos (by walk_at "o"),if_neg (by walk_at "o"),if_pos (by walk_at "o")]
    have:i+1 - 1=(i - 1)+1:=by walk_at "o"
    rw[this];exact a (i - 1) (by walk_at "o"))
  rw[SQ]at c2 c4;exact⟨p',c1,c2,c3.trans (bubble_perm _ _ _),c4⟩
theorem Hk(r:Nat->Nat)(n:Nat)(hn:1<=n):∃ p,(SO n).run (m4 r)=p/\p.toList.Perm (List.range n)/\nJ r p n:=by
 unfold SO;rw[KasT.run_bind];have hz:(List.toArray (List.range n)).size=n:=by simp
 obtain⟨m,p1,e,a1,a2,a3,a4,a5⟩:=Gh (r:=r) (p:=List.toArray (List.range n)) (nrem:=n) hn (by rw[hz];exact le_refl _)
 rw[e];have toL:∀ {p:Array Nat},p.Perm (List.toArray (List.range n))->p.toList.Perm (List.range n):=fun h=>by simpa using Array.perm_iff_toList_perm.mp h
 show ∃ p,(if m < n then RZ (n - max m 1) p1 (max m 1)else KasT.ret p1).run (m4 r)=p/\_
 by_cases h:m < n
 ·rw[if_pos h];obtain⟨p',b1,b2,b3,b4⟩:=Go (r:=r) (n - max m 1) p1 (max m 1) (by rw[a3,hz];omega) (by rw[show max m 1=m by walk_at "o"];exact a5)
  exact⟨p',b1,toL (b3.trans a4),by rw[a3,hz]at b4;exact b4⟩
 ·rw[if_neg h];have:m=n:=by walk_at "o"
  subst this;exact⟨p1,rfl,toL a4,a5⟩
end
section
variable{κ:Type}(blt:κ->κ->Bool)
structure SWO:Prop where
 irrefl:∀ a,blt a a=false
 trans:∀ a b c,blt a b=true->blt b c=true->blt a c=true
 neg:∀ a b c,blt a c=true->blt a b=true\/blt b c=true
def rankIn(ks:List κ)(a:κ):Nat:=ks.countP fun k=>blt k a
end
section
variable{κ:Type}{blt:κ->κ->Bool}
theorem wY{p q:κ->Bool}(ks:List κ)(h:∀ x,p x=true->q x=true):ks.countP p<=ks.countP q:=by
 induction ks with
 | nil=>exact le_refl _
 | cons x r ih=>
  rw[Rh,Rh];cases hp:p x with
  | false=>simp;split<;>omega
  | true=>rw[h x hp];simp;omega
theorem DX{p q:κ->Bool}{ks:List κ}(h:∀ x,p x=true->q x=true){y:κ}(hy:y∈ks)(h1:p y=false)(h2:q y=true):ks.countP p < ks.countP q:=by
 induction ks with
 | nil=>simp at hy
 | cons x r ih=>
  rw[Rh,Rh];rcases Oz.mp hy with rfl|hy
  ·have:=wY r h;rw[h1,h2];simp;omega
  ·have:=ih hy;cases hp:p x with
   | false=>simp;split<;>omega
   | true=>rw[h x hp];simp;omega
theorem rank_lt(o:SWO blt){ks:List κ}{a b:κ}(ha:a∈ks):blt a b=decide (rankIn blt ks a < rankIn blt ks b):=by
 cases e:blt a b with
 | true=>
  symm;rw[decide_eq_true_iff];exact DX (fun x hx=>o.trans _ _ _ hx e) ha (o.irrefl a) e
 | false=>
  symm;rw[decide_eq_false_iff_not,Nat.not_lt];refine wY ks fun x hx=>?_;rcases o.neg x a b hx with h|h
  ·exact h
  ·rw[e]at h;cases h
end
def KasT.allR{α:Type}(n:Nat)(P:α->Prop):Tc α->Prop
 | .ret a=>P a
 | .ask i j k=>i < n/\j < n/\∀ b,(k b).allR n P
theorem KasT.allR_mono{α:Type}{n:Nat}{P P':α->Prop}(h:∀ a,P a->P' a):∀ {t:Tc α},t.allR n P->t.allR n P'
 | .ret a,q=>h a q
 | .ask i j k,q=>⟨q.1,q.2.1,fun b=>KasT.allR_mono h (q.2.2 b)⟩
theorem KasT.allR_bind{α β:Type}{n:Nat}{P:α->Prop}{P':β->Prop}{f:α->Tc β}(h:∀ a,P a->(f a).allR n P'):∀ {t:Tc α},t.allR n P->(t.bind f).allR n P'
 | .ret a,q=>h a q
 | .ask i j k,q=>⟨q.1,q.2.1,fun b=>KasT.allR_bind h (q.2.2 b)⟩
theorem KasT.walked{α:Type}{n:Nat}{P:α->Prop}{lt:Nat->Nat->Bool}{J:NP->Prop}{cmp:Nat->Nat->(Bool->NP->Prop)->NP->Prop}{Q:α->NP->Prop}
  (hc:∀ i j C s,i < n->j < n->J s->(∀ s',J s'->C (lt i j) s')->cmp i j C s):∀ (t:Tc α) (s:NP),t.allR n P->J s->(∀ s',J s'->P (t.run lt)->Q (t.run lt) s')->t.kasWp cmp Q s
 | .ret a,s,q,j,h=>h s j q
 | .ask i j k,s,q,hj,h=>hc i j _ s q.1 q.2.1 hj fun s' hj'=>KasT.walked hc (k (lt i j)) s' (q.2.2 _) hj' h
structure EntN(n:Nat)(p:Array Nat):Prop where
 size:p.size=n
 ent:∀ i,p.getD i 0 < n
section
variable{N:Nat}{p:Array Nat}
theorem EntN.rev(e:EntN N p){i j:Nat}(hj:j<=N):EntN N (PK p i j):=by
 refine⟨by rw[il];exact e.size,fun k=>?_⟩
 have h:=yS (r:=id) (p:=p) (i:=i) (j:=j) (by rw[e.size];exact hj) k
 unfold RR at h;simp only[id]at h;rw[h];split<;>exact e.ent _
theorem EntN.bub(e:EntN N p){src d:Nat}(hs:src < N)(hd:d<=src):EntN N (bubble p src d):=by
 refine⟨by rw[SQ];exact e.size,fun k=>?_⟩
 have h:=rD (r:=id) (p:=p) (src:=src) (d:=d) (by rw[e.size];exact hs) hd k
 unfold RR at h;simp only[id]at h;rw[h];split
 ·exact e.ent _
 ·split<;>exact e.ent _
theorem BV(e:EntN N p):∀ (f n:Nat),(kas_asc p f n).allR N fun m=>n<=m/\m<=n+f
 | 0,n=>⟨le_refl _,le_refl _⟩
 | f+1,n=>⟨e.ent _,e.ent _,fun b=>by
   cases b with
   | true=>exact⟨le_refl _,by walk_at "o"⟩
   | false=>exact KasT.allR_mono (fun m h=>⟨by walk_at "o",by walk_at "o"⟩) (BV e f (n+1))⟩
theorem tw:∀ (f:Nat) (p:Array Nat) (n q:Nat),EntN N p->n+f<=N->(Qh f p n q).allR N fun r=>EntN N r.1/\n<=r.2.1/\r.2.1<=n+f
 | 0,p,n,q,e,_=>⟨e,le_refl _,le_refl _⟩
 | f+1,p,n,q,e,h=>⟨e.ent _,e.ent _,fun b=>by
   have mono:∀ {t:Tc (Array Nat×Nat×Nat)},(t.allR N fun r=>EntN N r.1/\n+1<=r.2.1/\r.2.1<=n+1+f)->t.allR N fun r=>EntN N r.1/\n<=r.2.1/\r.2.1<=n+(f+1):=fun h=>KasT.allR_mono (fun r z=>⟨z.1,by walk_at "o",by walk_at "o"⟩) h
   cases b with
   | true=>
    show KasT.allR N _ (if q > 0 then Qh f (PK p (n - (q+1)) n) (n+1) 0 else Qh f p (n+1) 0)
    split
    ·exact mono (tw f _ (n+1) 0 (e.rev (by walk_at "o")) (by walk_at "o"))
    ·exact mono (tw f _ (n+1) 0 e (by walk_at "o"))
   | false=>exact⟨e.ent _,e.ent _,fun d=>by
     cases d with
     | true=>exact⟨e,le_refl _,show n<=n+(f+1)by walk_at "o"⟩
     | false=>exact mono (tw f p (n+1) (q+1) e (by walk_at "o"))⟩⟩
theorem zd(e:EntN N p){n nrem:Nat}(hn:n<=N):(Qe n nrem p).allR N fun r=>EntN N r.2:=by
 unfold Qe;refine KasT.allR_bind (fun m _=>?_) (BV (e.rev (i:=0) hn) (nrem - n) n);exact (e.rev hn:EntN N (PK p 0 n))
theorem sv(e:EntN N p){n nrem:Nat}(hn:n+1<=nrem)(hz:nrem<=N):(QV n nrem p).allR N fun r=>EntN N r.2:=by
 unfold QV;refine KasT.allR_bind (fun r h=>?_) (tw (nrem - (n+1)) p (n+1) 0 e (by walk_at "o"))
 obtain⟨p1,n1,q1⟩:=r;obtain⟨h1,h2,h3⟩:=h;show KasT.allR N _ (if q1 > 0 then Qe n1 nrem (PK p1 (n1 - (q1+1)) n1)else Qe n1 nrem p1)
 have hn1:n1<=N:=by simp only at h3;omega
 split
 ·exact zd (h1.rev hn1) hn1
 ·exact zd h1 hn1
theorem Gi(e:EntN N p){nrem:Nat}(h1:1<=nrem)(hz:nrem<=N):(Sn nrem p).allR N fun r=>EntN N r.2:=by
 unfold Sn;refine KasT.allR_bind (fun n h=>?_) (BV e _ _)
 by_cases h2:n=nrem
 ·rw[if_pos (by simpa using h2)];exact e
 ·rw[if_neg (by simpa using h2)]
  by_cases h3:n > 1
  ·rw[if_pos h3];refine⟨e.ent _,e.ent _,fun b=>?_⟩;cases b with
   | true=>exact e
   | false=>exact sv (e.rev (by walk_at "o")) (by walk_at "o") hz
  ·rw[if_neg h3];exact sv e (by walk_at "o") hz
theorem uk(e:EntN N p)(k:Nat):∀ (f l u:Nat),(Rk p k f l u).allR N fun _=>True
 | 0,l,u=>trivial
 | f+1,l,u=>by
  unfold Rk;split
  ·exact trivial
  ·exact⟨e.ent _,e.ent _,fun b=>by
    cases b with
    | true=>exact uk e k f _ _
    | false=>exact uk e k f _ _⟩
theorem Gq:∀ (f:Nat) (p:Array Nat) (k:Nat),EntN N p->k+f<=N->(RZ f p k).allR N (EntN N)
 | 0,p,k,e,_=>e
 | f+1,p,k,e,h=>by
  unfold RZ;refine KasT.allR_bind (fun l _=>?_) (uk e k k 0 k);exact Gq f _ (k+1) (e.bub (by walk_at "o") (by walk_at "o")) (by walk_at "o")
theorem Hl{n:Nat}(hn:1<=n):(SO n).allR n (EntN n):=by
 have e:EntN n (List.toArray (List.range n)):=⟨by simp,fun i=>by
  rw[Array.getD_eq_getD_getElem?,List.getElem?_toArray];cases h:(List.range n)[i]? with
  | none=>exact hn
  | some x=>exact mem_range.mp (N9 h)⟩
 unfold SO;refine KasT.allR_bind (fun r h=>?_) (Gi e hn (le_refl _));obtain⟨m,p⟩:=r;show KasT.allR n _ (if m < n then RZ (n - max m 1) p (max m 1)else KasT.ret p)
 split
 ·exact Gq _ _ _ h (by walk_at "o")
 ·exact h
end
section
variable{α:Type}(blt:α->α->Bool)
structure STO:Prop where
 irrefl:∀ a,blt a a=false
 trans:∀ a b c,blt a b=true->blt b c=true->blt a c=true
 tot:∀ a b,blt a b=false->blt b a=false->a=b
def uA[DecidableEq α]:List α->List α->Bool
 | [],[]=>false
 | [],_::_=>true
 | _::_,[]=>false
 | a::r,b::t=>if a=b then uA r t else blt a b
end
section
variable{α:Type}{blt:α->α->Bool}
theorem STO.neg(o:STO blt)(a b c:α)(h:blt a c=true):blt a b=true\/blt b c=true:=by
 cases e:blt a b with
 | true=>exact .inl rfl
 | false=>
  cases e2:blt b c with
  | true=>exact .inr rfl
  | false=>
   cases e3:blt b a with
   | true=>have:=o.trans _ _ _ e3 h;rw[e2]at this;cases this
   | false=>
    have:=o.tot _ _ e e3;subst this;rw[h]at e2;cases e2
variable[DecidableEq α]
theorem mF(a b:α)(r t:List α):uA blt (a::r) (b::t)=if a=b then uA blt r t else blt a b:=rfl
theorem xY(o:STO blt):STO (uA blt) where
 irrefl:=by
  intro a
  induction a with
  | nil=>rfl
  | cons x r ih=>rw[mF,if_pos rfl,ih]
 trans:=by
  intro a
  induction a with
  | nil=>
   intro b c h1 h2;cases c with
   | nil=>cases b<;>cases h2
   | cons _ _=>rfl
  | cons x r ih=>
   intro b c h1 h2;cases b with
   | nil=>cases h1
   | cons y t=>
    cases c with
    | nil=>cases h2
    | cons z u=>
     rw[mF]at h1 h2 ⊢
     by_cases e1:x=y
     ·subst e1;rw[if_pos rfl]at h1
      by_cases e2:x=z
      ·subst e2;rw[if_pos rfl]at h2 ⊢;exact ih t u h1 h2
      ·rw[if_neg e2]at h2 ⊢;exact h2
     ·rw[if_neg e1]at h1
      by_cases e2:y=z
      ·subst e2;rw[if_neg e1];exact h1
      ·rw[if_neg e2]at h2;have h3:=o.trans _ _ _ h1 h2;rw[if_neg (fun e=>by subst e;rw[o.irrefl]at h3;cases h3)]
       exact h3
 tot:=by
  intro a
  induction a with
  | nil=>
   intro b h1 h2;cases b with
   | nil=>rfl
   | cons _ _=>cases h1
  | cons x r ih=>
   intro b h1 h2;cases b with
   | nil=>cases h2
   | cons y t=>
    rw[mF]at h1 h2
    by_cases e1:x=y
    ·subst e1;rw[if_pos rfl]at h1 h2;rw[ih t h1 h2]
    ·rw[if_neg e1]at h1;rw[if_neg (Ne.symm e1)]at h2;exact absurd (o.tot _ _ h1 h2) e1
end
def xV(a b:Nat):Bool:=decide (a < b)
theorem xU:STO xV:=⟨fun a=>by simp[xV],fun a b c h1 h2=>by simp only[xV,decide_eq_true_eq]at *;omega,fun a b h1 h2=>by simp only[xV,decide_eq_false_iff_not]at *;omega⟩
theorem pX:∀ a b:List Nat,uA xV a b=decide (a < b)
 | [],[]=>by simp[uA]
 | [],b::t=>by simp[uA]
 | a::r,[]=>by simp[uA]
 | a::r,b::t=>by
  rw[mF]
  by_cases e:a=b
  ·subst e;rw[if_pos rfl,pX r t];simp
  ·rw[if_neg e];simp[xV,List.cons_lt_cons_iff,e]
end PySem.W
namespace L3
open PySem PySem.Spec PyProof.Rows L2 PySem.SeqAt
open PySem.AutoSeq1 (wpAny_loadPart')
open PySem.MeetsSeq PySem.MeetsSeq2 PySem.MeetsSeq3
def d_(blt:D->D->Bool):List D->List D->Bool
 | [],[]=>false
 | [],_::_=>true
 | _::_,[]=>false
 | a::r,b::t=>if d6 a b=true then d_ blt r t else blt a b
def mV:Nat->D->D->Bool
 | _,.int a,.int b=>decide (a < b)
 | _,.str x,.str y=>decide (x.cps.toList < y.cps.toList)
 | n+1,.tup xs,.tup ys=>d_ (mV n) xs ys
 | _,_,_=>false
def Mn(n:Nat)(P:D->D->Prop):List D->List D->Prop
 | a::r,b::t=>(pl n a/\pl n b)/\(a≠b->P a b)/\Mn n P r t
 | _,_=>True
def Gg:Nat->D->D->Prop
 | _,.int _,.int _=>True
 | _,.str _,.str _=>True
 | n+1,.tup xs,.tup ys=>Mn n (Gg n) xs ys
 | _,_,_=>False
def IS(op:Q5)(A:Oc)(s:NP)(v u:NO)(b:Bool):Prop:=
 ∀ (prog:N_) (w:Og) (E:NO->NP->Prop) (Q:NO->NP->Prop),Q (.bool b) s->NZ (N4 prog w) A (richCompare op v u) Q E s
def xk(op:Q5)(fin:Bool)(A:Oc)(s:NP):List NO->List NO->Bool->Prop
 | v::vs,u::us,out=>∃ e,EqAt A s v u e/\(e=true->xk op fin A s vs us out)/\(e=false->IS op A s v u out)
 | _,_,out=>out=fin
theorem DA{op:Q5}{fin out:Bool}{A:Oc}{s:NP}:∀ {vs us:List NO},xk op fin A s vs us out->vs.zip us=[]->out=fin
 | [],_,h,_=>h
 | _::_,[],h,_=>h
 | _::_,_::_,_,e=>by rw[PY]at e;cases e
theorem AW(l b:NR)(items items2:Array NO)(n n2:Nat)(dd dd2:Option NR)(sl sl2:Array (Option NO))(out:Bool):
  Meets (Builtin.«tuple.__lt__» ⟨[.ref l,.ref b],[]⟩)
   (fun A R s=>s.heap.get? l=some { cls:=.type "tuple",dict:=dd,data:=.seq items n,slots:=sl }/\s.heap.get? b=some { cls:=.type "tuple",dict:=dd2,data:=.seq items2 n2,slots:=sl2 }/\
    xk .Lt (decide (items.size < items2.size)) A.in1 s items.toList items2.toList out/\R (.ok (.ret (.bool out))) s):=
 .of_wp fun prog w A R s h=>by
  obtain⟨hp,g,d,tk,os⟩:=s;obtain⟨hl,hb,hx,h⟩:=h;have f2:=AutoSeq1.sub_tuple_tuple
  wp_walk using wpAny_loadPart' hl,wpAny_loadPart' hb,wpAny_forIn_list _ (fun dZ b s'=>b.1=none/\s'=⟨hp,g,d,tk,os⟩/\∃ vs ws,dZ=vs.zip ws/\xk .Lt (decide (items.size < items2.size)) A.in1 ⟨hp,g,d,tk,os⟩ vs ws out) _
  case turn=>
   rintro⟨y,x⟩ dZ b s' ⟨hb',rfl,vs,ws,hz,lx⟩
   cases vs with
   | nil=>rw[List.zip_nil_left]at hz;cases hz
   | cons v vs=>
    cases ws with
    | nil=>rw[List.zip_nil_right]at hz;cases hz
    | cons u ws=>
     rw[PY]at hz;injection hz with hyx hrest
     injection hyx with hy hx'
     subst hy hx';obtain⟨e,he,l1,l2⟩:=lx;refine NN (he prog w _ _ ?_);cases e with
     | true=>
      wp_walk
      exact⟨rfl,rfl,_,_,hrest,l1 rfl⟩
     | false=>
      have hri:=l2 rfl prog w
      wp_walk using hri
      exact⟨_,rfl,by simpa using h⟩
  case fin=>
   rintro⟨b1,b2⟩ s' ⟨hb',rfl,vs,ws,hz,lx⟩
   simp only at hb';subst hb';have hv:=DA lx hz.symm;rw[hv]at h
   wp_walk
   exact⟨_,rfl,by simpa[Builtin.Tuple.tupleCompareSizes]using h⟩
  case h=>
   exact⟨rfl,rfl,items.toList,items2.toList,rfl,hx⟩
theorem FK{A:Oc}{s:NP}{l b:NR}{items items2:Array NO}{out:Bool}(hl:s.heap.IsTuple l items)(hb:s.heap.IsTuple b items2)(hu:A.units < OL)
  (hx:xk .Lt (decide (items.size < items2.size)) A.in1 s items.toList items2.toList out):IS .Lt A s (.ref l) (.ref b) out:=fun prog w E Q h=>by
 obtain⟨⟨cls,dd,data,sl⟩,ho,hc,n,hd⟩:=id hl;obtain⟨⟨cls2,dd2,data2,sl2⟩,ho2,hc2,n2,hd2⟩:=id hb;simp only at hc hd hc2 hd2;subst hc hd hc2 hd2;exact richCompare_meets_room (op:=.Lt) ⟨_,ho,rfl⟩ ⟨_,ho2,rfl⟩ PySem.F.slot_tuple_lt PySem.F.entry_tuple_lt (PySem.F.args_tuple_lt_2 _ _) (AW l b items items2 n n2 dd dd2 sl sl2 out)
  ⟨ho,ho2,hx,show Value.bool out≠Value.notImplemented/\Q (.bool out) s from ⟨(fun x=>nomatch x),h⟩⟩ hu
section
variable{X:Cx}{pins:List (NR×Obj)}{σ:St}{H:Hp}{s:NP}
theorem zU(I:Inv X pins σ H s){n:Nat}{A:Oc}(hu:A.units+n < OL){N1 N2:Nat}
  (ih:∀ {x y:D} {v u:V} {v' u':NO},Gg n x y->RD X.K H x v->RD X.K H y u->aF v v'->aF u u'->IS .Lt A s v' u' ( mV n x y)):
  ∀ {ds es:List D} {xs ys:List V} {us ws:List NO},Mn n (Gg n) ds es->RDs X.K H ds xs->RDs X.K H es ys->Vals xs us->Vals ys ws->ds.length+N2=es.length+N1->xk .Lt (decide (N1 < N2)) A s us ws ( d_ (mV n) ds es)
 | [],es,xs,ys,us,ws,_,r1,r2,w1,w2,hl=>by
  rw[r1.inv_nil]at w1;cases w1;show ( d_ (mV n) [] es)=decide (N1 < N2)
  cases es with
  | nil=>
   simp only[OB]at hl;have e1:N2=N1:=by walk_at "o"
   subst e1;simp[d_]
  | cons b t=>
   simp only[OB,Ob]at hl;have:N1 < N2:=by walk_at "o"
   simp[d_];omega
 | a::r,[],xs,ys,us,ws,_,r1,r2,w1,w2,hl=>by
  rw[r2.inv_nil]at w2;cases w2;obtain⟨x1,t1,e1,_,_⟩:=r1.inv_cons;subst e1;cases w1;show ( d_ (mV n) (a::r) [])=decide (N1 < N2)
  simp only[OB,Ob]at hl;have:N2 < N1:=by walk_at "o"
  simp[d_];omega
 | a::r,b::t,xs,ys,us,ws,⟨p,c,q⟩,r1,r2,w1,w2,hl=>by
  obtain⟨x1,t1,e1,g1,g2⟩:=r1.inv_cons;subst e1;obtain⟨x2,t2,e2,f1,f2⟩:=r2.inv_cons;subst e2;cases w1 with
  | cons k1 w1=>
  cases w2 with
  | cons k2 w2=>
   refine⟨d6 a b,(As I n p.1 p.2 g1 f1 k1 k2 hu).eq,fun e=>?_,fun e=>?_⟩
   ·rw[show d_ (mV n) (a::r) (b::t)=d_ (mV n) r t by simp[d_,e]]
    simp only[Ob]at hl;exact zU I hu ih q g2 f2 w1 w2 (by walk_at "o")
   ·rw[show d_ (mV n) (a::r) (b::t)=mV n a b by simp[d_,e]]
    exact ih (c fun z=>by rw[z,bb]at e;cases e) g1 f1 k1 k2
theorem Kj(I:Inv X pins σ H s):∀ (n:Nat) {x y:D} {v u:V} {v' u':NO} {A:Oc},Gg n x y->RD X.K H x v->RD X.K H y u->aF v v'->aF u u'->A.units+n < OL->IS .Lt A s v' u' ( mV n x y):=by
 intro n
 induction n with
 | zero=>
  intro x y v u v' u' A c rx ry lx ly hu;cases x<;>cases y<;>first|exact c.elim|skip
  ·simp only[RD]at rx ry;subst rx ry;obtain⟨t,rfl⟩:=lx;obtain⟨t',rfl⟩:=ly;intro prog w E Q h;exact (PyProof.Rows.lt_int h:NZ (N4 prog w) A (Oy .Lt (.int _ t) (.int _ t')) Q E s)
  ·simp only[RD]at rx ry;subst rx ry;obtain⟨t,rfl⟩:=lx;obtain⟨t',rfl⟩:=ly;intro prog w E Q h;exact (PySem.P.lt_str h:NZ (N4 prog w) A (Oy .Lt (.str _ t) (.str _ t')) Q E s)
 | succ n ih=>
  intro x y v u v' u' A c rx ry lx ly hu;cases x<;>cases y<;>first|exact c.elim|skip
  ·simp only[RD]at rx ry;subst rx ry;obtain⟨t,rfl⟩:=lx;obtain⟨t',rfl⟩:=ly;intro prog w E Q h;exact (PyProof.Rows.lt_int h:NZ (N4 prog w) A (Oy .Lt (.int _ t) (.int _ t')) Q E s)
  ·simp only[RD]at rx ry;subst rx ry;obtain⟨t,rfl⟩:=lx;obtain⟨t',rfl⟩:=ly;intro prog w E Q h;exact (PySem.P.lt_str h:NZ (N4 prog w) A (Oy .Lt (.str _ t) (.str _ t')) Q E s)
  ·rename_i ds es;simp only[RD]at rx ry;obtain⟨a,xs,rfl,s1,r1⟩:=rx;obtain⟨b,ys,rfl,s2,r2⟩:=ry;cases lx;cases ly;obtain⟨its,w1,t1,z1⟩:=I.tuple s1;obtain⟨its2,w2,t2,z2⟩:=I.tuple s2;have l1:=w1.length;have l1':=r1.length;have l2:=w2.length;have l2':=r2.length;refine FK t1 t2 (by walk_at "o") ?_
   exact zU I (A:=A.in1) (by show A.units+1+n < OL;omega) (fun c rx ry lx ly=>ih c rx ry lx ly (by show A.units+1+n < OL;omega)) c r1 r2 w1 w2 (by simp only[N6];omega)
end
def Kq:R3:=fun x y G Q=>Gg 4 x y/\Q (.bl (! mV 4 x y)) G
open PySem.W
def oC(h:Of)(d:NR)(vs:List NO)(ep:Nat):Prop:=∃ o es,h.get? d=some o/\o.ExactDict/\o.data=.dict es ep/\es.toList.map (·.val)=vs
section
variable{prog:N_}{w:Og}{A:Oc}{E:NO->NP->Prop}{s:NP}{d r it:NR}{vs:List NO}{ep i:Nat}
theorem oC.ty(x:oC s.heap d vs ep):s.TypeIs (.ref d) "dict":=let ⟨o,_,e,z,_⟩:=x;⟨o,e,z.1⟩
theorem oC.there{h:Of}(x:oC h d vs ep):d < h.objs.size:=let ⟨_,_,e,_⟩:=x;N7 e
theorem oC.stay{h h':Of}(x:oC h d vs ep)(k:∀ o,h.get? d=some o->h'.get? d=some o):oC h' d vs ep:=let ⟨o,es,e,z⟩:=x;⟨o,es,k o e,z⟩
theorem Bh(hs:(d == OK)=false):MeetsIn prog w (Builtin.«dict.values» ⟨[.ref d],[]⟩) (fun _ R s=>(∃ vs ep,oC s.heap d vs ep)/\
  R (.ok (.ret (.ref s.heap.objs.size))) { s with heap:=s.heap.push { cls:=.type "dict_values",data:=.fields #[.ref d] } }):=
 .of_wp fun A R s zz=>by
  obtain⟨⟨vs,ep,x⟩,q⟩:=zz;refine NN ?_;unfold Builtin.Dict.noArgs;refine NN (Q6 x.ty ?_);show NZ _ _ (pure d) _ _ s;refine NQ ?_
  show NZ _ _ (Qm d >>= _) _ _ s;unfold Qm
  rw[if_neg (fun z=>by rw[hs]at z;cases z)];refine NN (NQ ?_)
  exact NN (OE (NQ ⟨_,rfl,q⟩))
theorem E5{Q:NO->NP->Prop}(hr:s.heap.IsValuesView r d)(x:oC s.heap d vs ep)
  (q:Q (.ref s.heap.objs.size) { s with heap:=s.heap.push { cls:=.type "dict_valueiterator",data:=.fields #[.ref d,.int 0 0,.int vs.length 0,.int ep 0] } }):NZ (N4 prog w) A (QE (.ref r)) Q E s:=by
 obtain⟨ov,e1,c1,d1⟩:=id hr;obtain⟨o,es,e2,c2,d2,rfl⟩:=x;refine Rx hr.typeIs Ss (OQ Ss hr.typeIs F.entry_dict_values_iter ?_ (F.args_dict_values_iter_1 _));unfold Builtin.«dict_values.__iter__»;refine NN (NQ ?_);refine NN ?_;unfold Builtin.Dict_items.dictOf;refine NN (O6 e1 d1 (x:=.ref d) rfl (NQ ?_));refine NN ?_;unfold Builtin.Dict_items.newIterator;refine NN (PJ e2 d2 ?_);refine NN (P9 e2 d2 ?_);have own:O3 "dict_valueiterator"=false:=by decide
 simp only[own,Bool.false_eq_true,if_false];refine OE (NQ ⟨_,rfl,"dict_valueiterator",_,⟨_,NW _ rfl,rfl⟩,Pn.lookup,?_⟩)
 simpa[PN]using q
theorem E6{v:NO}{Q:Option NO->NP->Prop}(hi:s.heap.IsValIter it d i vs.length ep)(x:oC s.heap d vs ep)(hv:vs[i]?=some v)
  (q:∀ h',h'.IsValIter it d (i+1) vs.length ep->Pz it s.heap h'->Q (some v) { s with heap:=h' }):NZ (N4 prog w) A (Pu (.ref it)) Q E s:=by
 obtain⟨o,e1,c1,d1⟩:=id hi;obtain⟨od,es,e2,c2,d2,rfl⟩:=x;unfold Pu;refine NN (P4 (OR (name:=NU "__next__") hi.typeIs Pn (OQ Pn hi.typeIs RL ?_ (RJ _))));refine NN (NQ ?_);refine NN ?_;refine NN ?_
 first|refine NN (Po hi.typeIs (NQ ?_))|refine NN (PZ hi.typeIs (NQ ?_))
 refine NN (Ra e1 d1 ?_);have own:O3 "dict_valueiterator"=false:=by decide
 simp only[own,Bool.false_eq_true,if_false];show NZ _ _ (if (Value.ref d == Value.none)=true then _ else _) _ _ s;rw[if_neg (show ¬ ((Value.ref d == Value.none)=true)from Bool.false_ne_true)]
 refine NN (NQ ?_);refine NN (PJ e2 d2 ?_);have z:es.size=(es.toList.map (·.val)).length:=by simp
 rw[if_neg (by rw[z];simp)];refine NN (NQ ?_);refine NN (P9 e2 d2 ?_)
 rw[if_neg (by simp)];refine NQ ?_
 have lt:i < es.size:=by
  rw[z];rcases Pm i (es.toList.map (·.val)).length with h|h
  ·exact h
  ·rw[OI h]at hv;cases hv
 have val:es[i].val=v:=by
  rw[N8]at hv
  simpa[lt]using hv
 simp only[show ¬ ((i:Int) < 0)from by walk_at "o",if_false,Int.toNat_natCast,Array.getElem?_eq_getElem lt];refine NN ?_
 first|refine NN (Po hi.typeIs (NQ ?_))|refine NN (PZ hi.typeIs (NQ ?_))
 refine NN (Q7 hi.typeIs ?_);show NZ _ _ (SL (.ref it) 1 (PN ((i:Int)+1)) >>= _) _ _ s;refine NN (Q9 e1 d1 (by simp) ?_)
 have hi':(s.heap.update it (QS (·.setIfInBounds 1 (PN ((i:Int)+1))))).IsValIter it d (i+1) (es.toList.map (·.val)).length ep:=
  ⟨_,Ql _ e1 (SK (QI d1 _)),(Ti ..).trans c1,by rw[QI d1];simp[PN]⟩
 refine NN (OH ?_);refine NN (Q7 (s:={ s with heap:=s.heap.update it (QS (·.setIfInBounds 1 (PN ((i:Int)+1)))) }) hi'.typeIs ?_)
 refine NN (Q7 (s:={ s with heap:=s.heap.update it (QS (·.setIfInBounds 1 (PN ((i:Int)+1)))) }) hi'.typeIs ?_);show NZ _ _ (pure es[i].val) _ _ _
 exact NQ (NQ ⟨_,rfl,NQ (val ▸ q _ hi' (Qv ..))⟩)
theorem Ht{Q:Option NO->NP->Prop}(hh:A.handled=none)(hi:s.heap.IsValIter it d i vs.length ep)(x:oC s.heap d vs ep)(hv:vs[i]?=none)
  (q:∀ h',Heap.ExtBut it s.heap h'->Q none { s with heap:=h' }):NZ (N4 prog w) A (Pu (.ref it)) Q E s:=by
 obtain⟨o,e1,c1,d1⟩:=id hi;obtain⟨od,es,e2,c2,d2,rfl⟩:=x;unfold Pu;refine NN (P4 (OR (name:=NU "__next__") hi.typeIs Pn (OQ Pn hi.typeIs RL ?_ (RJ _))));refine NN (NQ ?_);refine NN ?_;refine NN ?_
 first|refine NN (Po hi.typeIs (NQ ?_))|refine NN (PZ hi.typeIs (NQ ?_))
 refine NN (Ra e1 d1 ?_);have own:O3 "dict_valueiterator"=false:=by decide
 simp only[own,Bool.false_eq_true,if_false];show NZ _ _ (if (Value.ref d == Value.none)=true then _ else _) _ _ s;rw[if_neg (show ¬ ((Value.ref d == Value.none)=true)from Bool.false_ne_true)]
 refine NN (NQ ?_);refine NN (PJ e2 d2 ?_);have z:es.size=(es.toList.map (·.val)).length:=by simp
 rw[if_neg (by rw[z];simp)];refine NN (NQ ?_);refine NN (P9 e2 d2 ?_)
 rw[if_neg (by simp)];refine NQ ?_
 have ge:es.size<=i:=by rw[z];simpa using hv
 simp only[show ¬ ((i:Int) < 0)from by walk_at "o",if_false,Int.toNat_natCast,Array.getElem?_eq_none ge];refine NN ?_
 first|refine NN (Po hi.typeIs (NQ ?_))|refine NN (PZ hi.typeIs (NQ ?_))
 show NZ _ _ (SL (.ref it) 0 .none >>= _) _ _ s;refine NN (Q9 e1 d1 (by simp) ?_)
 show NZ _ _ (newExc (.type "StopIteration") [] >>= _) _ _ _;refine NN ?_
 simp only[newExc,newTuple];refine NN (OE ?_ (by size_fits))
 refine NN (m:=Rf _ _) (wpAny_of_eq (a:=Value.none) (by first|rfl|(simp only[Rf];rfl)) ?_);refine OE ?_ (by size_fits)
 simp only[raiseNew];refine NN (wpAny_handled ?_);rw[show A.in1.handled=none from hh]
 refine NN (NQ (wpAny_throw ?_));refine NN (QT (T:="StopIteration") (b:=true) ⟨_,NW _ rfl,rfl⟩ R8 ?_);exact NQ (q _ (((Qv ..).extBut.push _).push _))
theorem E4(hh:A.handled=none)(hne:d≠it):Walks prog w A it [it,d] [it] vs.length (fun i v=>vs[i]?=some v) (fun i h=>h.IsValIter it d i vs.length ep/\oC h d vs ep) where
 sub:=fun b hb=>by rw[Rs.mp hb];exact N3
 frame:=fun _ _ _ t k=>⟨t.1.at fun o e=>k it N3 o e,t.2.stay fun o e=>k d (N0 _ N3) o e⟩
 item:=fun i s Q E hi t q=>by
  obtain⟨v,hv⟩:∃ v,vs[i]?=some v:=⟨vs[i],by simp[hi]⟩
  refine E6 t.1 t.2 hv fun h' a b=>?_;exact q v h' s.toks hv ⟨a,t.2.stay fun o e=>b.extBut d o hne e⟩ fun c o hc e=>b.extBut c o (fun z=>hc (by rw[z];exact N3)) e
 done:=fun s Q E t q=>Ht hh t.1 t.2 (by simp) fun h' b=>q h' s.toks fun c o hc e=>b c o (fun z=>hc (by rw[z];exact N3)) e
 self:=fun _ _ _ _ t q=>wpAny_pyIter_valiter t.1 q
theorem Hs:KdlSrc prog w "dict_values" r d vs.length (fun i v=>vs[i]?=some v) (fun h=>h.IsValuesView r d/\oC h d vs ep) where
 type:=fun _ x=>x.1.typeIs
 there:=fun _ x=>⟨let ⟨_,e,_⟩:=x.1;N7 e,x.2.there⟩
 keep:=fun _ _ x k=>⟨let ⟨o,e,z⟩:=x.1;⟨o,k r (.inl rfl) o e,z⟩,x.2.stay fun o e=>k d (.inr rfl) o e⟩
 notList:=by decide
 notTuple:=by decide
 hint:=fun _ _ _ _ x q=>kdl_hint_values x.1.typeIs q
 iter:=fun _ _ hh x=>⟨_,_,(fun _ _ q=>E5 x.1 x.2 q),E4 hh (Oq x.2.there),⟨⟨_,NW _ rfl,rfl,rfl⟩,x.2.stay fun o e=>NT _ e⟩⟩
end
def XO(a:NR)(o:Obj):HO:=.ext fun h=>h.get? a=some o
theorem I_{P:N_}{w:Og}{H:Hp}{h:Of}{a:NR}{o:Obj}(e:h.get? a=some o):cf P w H h a (XO a o):=⟨e,⟨o,e⟩,fun _ _ p k=>k _ p⟩
section
variable{X:Cx}{pins:List (NR×Obj)}{τ:St}{H H0:Hp}{s:NP}{G:Gp}{a:NR}{o:Obj}{u:HO}
theorem rj(I:Inv X pins τ H s)(e:H a=some (XO a o)):s.heap.get? a=some o:=(show cf X.prog X.w H s.heap a (XO a o)from I.hok a _ e).1
theorem wU{t':Nat}{h':Of}(I:Inv X pins τ H s)(ha:s.heap.objs.size=a)(hh:h'=s.heap.push o)(hf:o.isFreed=false:=by rfl):Inv X pins τ (bq H a (XO a o)) { s with heap:=h',toks:=t' }:=by
 subst ha hh;exact I.laid (fun _ _ e=>NT _ e) (le_refl _) (I_ (NW _ hf))
theorem uN{t':Nat}{o':Obj}{f:Obj->Obj}(I:Inv X pins τ H s)(e:H a=some (XO a o))(e':(s.heap.update a f).get? a=some o'):Inv X pins τ (bq H a (XO a o')) { s with heap:=s.heap.update a f,toks:=t' }:=
 I.write (x:=a) (e:=a) (by rw[e];exact trivial) (.inl rfl) (fun b u hb hu=>(Py s.heap f (Ne.symm hb)).trans hu) ⟨_,e'⟩ (I_ e')
theorem nM{K:Sf}(mu:GN (H a)):Stb K H (bq H a u) where
 t:=fun b xs q=>by
  rcases q with (q|⟨z,q⟩)|q
  ·exact .inl (.inl (by rw[aA (fun e=>by subst e;rw[q]at mu;exact mu)];exact q))
  ·exact .inl (.inr ⟨z,by rw[aA (fun e=>by subst e;rw[q]at mu;exact mu)];exact q⟩)
  ·exact .inr q
 l:=fun b xs q=>by
  rcases q with ⟨z,q⟩|q
  ·exact .inl ⟨z,by rw[aA (fun e=>by subst e;rw[q]at mu;exact mu)];exact q⟩
  ·exact .inr q
theorem Cj{K:Sf}(rg:RG K H G)(g:G a=none)(mu:GN (H a)):RG K (bq H a u) G:=fun b z q=>by
 obtain⟨h,e1,r⟩:=rg b z q;have hb:b≠a:=fun e=>by subst e;rw[q]at g;cases g
 exact⟨h,by rw[aA hb];exact e1,r.mono (nM mu)⟩
theorem z0(k:Kp G H0 G H)(n:H0 a=none):Kp G H0 G (bq H a u):=fun b h e g=>⟨by rw[aA (b_ e n)];exact (k b h e g).1,g⟩
theorem Iq{k:Nat}{f:NR}{fd:O4}{ps:List Str}{sp:c5}{d kd:D}{v:V}{x:NO}{A:Oc}{E:NO->NP->Prop}(F:FnOk X.prog X.w X.K X.mg X.base vy k f fd ps (cD X.K sp))(hb:gJ X.K fd ps [])(hr:Room k A)(hA:Env0 X.prog X.w X.K X.mg X.base A X.stack s H)
  (I:Inv X pins τ H s) (rg:RG X.K H G) (rd:RD X.K H d v) (rv:aF v x) (hs:sp [d] G fun z G'=>z=kd/\G'=G) (nf:∀ l,kd≠.fl l) {Q:NO->NP->Prop}
  (q:∀ u v' H' s',Inv X pins τ H' s'->Kp G H G H'->RG X.K H' G->RD X.K H' kd v'->aF v' u->Q u s'):NZ (N4 X.prog X.w) A (call (.ref f) [x]) Q E s:=by
 have sp1:cD X.K sp [v] H (fun v' H'=>Kp G H G H'/\RG X.K H' G/\RD X.K H' kd v') (fun _ _ _=>False):=
  ⟨[d],G,_,RDs.cons rd RDs.nil,rg,hs,fun z G' v' H' e k1 rg1 re=>by obtain⟨rfl,rfl⟩:=e;exact⟨k1,rg1,re.rd nf⟩⟩
 have r2:Vals [v] [x]:=.cons rv .nil;have hl:([x] ++ ([]:List NO)).length=ps.length:=by
  have:=F.len _ _ _ _ sp1
  simpa using this
 refine S1 (QZ (F.run A X.stack s H ⟨[x],[]⟩ ([x] ++ []) [v] _ _ hr hA (hb s [x] I.kIn hl) (by simpa using r2) sp1) fun r s' hq=>?_)
 cases r with
 | error e=>exact False.elim hq
 | ok fl=>
  cases fl with
  | ret u=>
   obtain⟨v',H',I',rv',k1,rg1,rd1⟩:=I.after hq;exact q u v' H' s' I' k1 rg1 rd1 rv'
  | next=>exact False.elim hq
  | brk=>exact False.elim hq
  | cont=>exact False.elim hq
end
theorem z9{X:Cx}{pins:List (NR×Obj)}{τ:St}{H0:Hp}{G:Gp}{k:Nat}{f:NR}{fd:O4}{ps:List Str}{sp:c5}{A:Oc}{E:NO->NP->Prop}(F:FnOk X.prog X.w X.K X.mg X.base vy k f fd ps (cD X.K sp))(hb:gJ X.K fd ps [])(hr:Room k A)
  (hA:∀ {s H},Inv X pins τ H s->Env0 X.prog X.w X.K X.mg X.base A X.stack s H) {S D0:NR} {oD:Obj} (nS:H0 S=none) (nD:H0 D0=none) (gS:G S=none) (gD:G D0=none) (hne:S≠D0)
  {body:NO->PUnit->Sem (ForInStep PUnit)}
  (hbd:∀ x s Q,NZ (N4 X.prog X.w) A (call (.ref f) [x]) (fun u s'=>NZ (N4 X.prog X.w) A (Su (.ref S) (·.push u)) (fun _=>Q (.yield ⟨⟩)) E s') (fun _ _=>False) s->NZ (N4 X.prog X.w) A (body x ⟨⟩) Q E s):
  ∀ {ds ks:List D} {vs:List V} {us:List NO},ks.length=ds.length->(∀ (i:Nat) d kd,ds[i]?=some d->ks[i]?=some kd->(sp [d] G fun z G'=>z=kd/\G'=G)/\∀ l,kd≠.fl l)->
   ∀ {H:Hp} {s:NP} {done:List D} {kv:List V} {ku:List NO} {n:Nat},Inv X pins τ H s->Kp G H0 G H->RG X.K H G->RDs X.K H ds vs->Vals vs us->H D0=some (XO D0 oD)->H S=some (XO S (Pt "list" ku.toArray n))->RDs X.K H done kv->Vals kv ku->ku.length+us.length < 64->
   ∀ {Q:PUnit->NP->Prop},(∀ H' s' kv' ku' n',Inv X pins τ H' s'->Kp G H0 G H'->RG X.K H' G->H' D0=some (XO D0 oD)->H' S=some (XO S (Pt "list" ku'.toArray n'))->RDs X.K H' (done ++ ks) kv'->Vals kv' ku'->Stb X.K H H'->Q ⟨⟩ s')->
   NZ (N4 X.prog X.w) A (forIn us PUnit.unit body) Q E s
 | [],ks,vs,us,hl,hk,H,s,done,kv,ku,n,I,kp,rg,rds,rv,eD,eS,rdk,rvk,hz,Q,q=>by
  rw[rds.inv_nil]at rv;cases rv;rw[QU];have:ks=[]:=List.length_eq_zero_iff.mp (by simpa using hl)
  subst this;exact NQ (q H s kv ku n I kp rg eD eS (by rw[OO];exact rdk) rvk ⟨fun _ _ z=>z,fun _ _ z=>z⟩)
 | d::ds,[],vs,us,hl,_,_,_,_,_,_,_,_,_,_,_,_,_,_,_,_,_,_,_=>by simp at hl
 | d::ds,kd::ks,vs,us,hl,hk,H,s,done,kv,ku,n,I,kp,rg,rds,rv,eD,eS,rdk,rvk,hz,Q,q=>by
  obtain⟨v,t,e,h1,h2⟩:=rds.inv_cons;subst e;cases rv with
  | @cons _ x _ us l rv=>
   rw[Qc];obtain⟨hs,nf⟩:=hk 0 d kd rfl rfl;refine NN (hbd x s _ (Iq F hb hr (hA I) I rg h1 l hs nf fun u v' H' s' I' k1 rg1 rd1 rv1=>?_));have eS':=(k1 S _ eS gS).1;have eD':=(k1 D0 _ eD gD).1;have st1:=k1.stb rg;have oS:=rj I' eS';simp only[Ob]at hz;refine QP oS rfl ?_ (by rw[N6,OV];omega) (by rw[Array.size_push,N6,OV];omega)
   have ea:ku.toArray.push u=(ku ++ [u]).toArray:=by simp
   have e2:=Q2 oS (·.push u);rw[ea]at e2;generalize (if ((ku ++ [u]).toArray.size == ku.toArray.size)=true then n else n+1)=n2 at e2
   have mu:GN (H' S):=by rw[eS'];exact trivial
   have I2:=uN (t':=s'.toks) I' eS' e2;have st2:Stb X.K H' (bq H' S (XO S (Pt "list" (ku ++ [u]).toArray n2))):=nM mu;refine z9 F hb hr hA nS nD gS gD hne hbd (ds:=ds) (ks:=ks) (by simpa using hl) (fun i d' kd' a b=>hk (i+1) d' kd' (by simpa using a) (by simpa using b)) I2 (z0 (kp.trans k1) nS) (Cj rg1 gS mu)
    (RDs.mono st2 _ _ (RDs.mono st1 _ _ h2)) rv (by rw[aA hne.symm];exact eD') aN (done:=done ++ [kd]) (kv:=kv ++ [v']) (RDs.append (RDs.mono st2 _ _ (RDs.mono st1 _ _ rdk)) (RDs.cons (RD.mono st2 _ _ rd1) RDs.nil)) (rvk.append (.cons rv1 .nil)) (by simp;omega)
    fun H3 s3 kv3 ku3 n3 I3 kp3 rg3 eD3 eS3 rd3 rv3 st3=>q H3 s3 kv3 ku3 n3 I3 kp3 rg3 eD3 eS3 (by simpa using rd3) rv3 ⟨fun b xs z=>st3.t _ _ (st2.t _ _ (st1.t _ _ z)),fun b xs z=>st3.l _ _ (st2.l _ _ (st1.l _ _ z))⟩
section
variable{X:Cx}{pins:List (NR×Obj)}{τ:St}{H H0:Hp}{s:NP}{G:Gp}
theorem Ju(I:L2.Inv X pins τ H s){n:Nat}{A:Oc}(hu:A.units+n < OL){b:Bool}{N1 N2:Nat}{Q:Bool->NP->Prop}:
  ∀ {ds es:List D} {xs ys:List V} {us ws:List NO} {i:Nat},(b && i == 0)=false->Mn n (Gg n) ds es->RDs X.K H ds xs->RDs X.K H es ys->Vals xs us->Vals ys ws->ds.length+N2=es.length+N1->Q (d_ (mV n) ds es) s->
   KatLex X.prog X.w A b (decide (N1 < N2)) Q (us.zip ws) i s
 | [],es,xs,ys,us,ws,i,hb,c,r1,r2,w1,w2,hl,q=>by
  rw[r1.inv_nil]at w1;cases w1;rw[List.zip_nil_left];refine kat_nil ?_;cases es with
  | nil=>
   simp only[OB]at hl;rw[decide_eq_false (by walk_at "o")]
   exact q
  | cons b t=>
   simp only[OB,Ob]at hl;rw[decide_eq_true (by walk_at "o")]
   exact q
 | a::r,[],xs,ys,us,ws,i,hb,c,r1,r2,w1,w2,hl,q=>by
  rw[r2.inv_nil]at w2;cases w2;rw[List.zip_nil_right];refine kat_nil ?_;simp only[OB,Ob]at hl;rw[decide_eq_false (by walk_at "o")]
  exact q
 | a::r,b'::t,xs,ys,us,ws,i,hb,⟨p,c,z⟩,r1,r2,w1,w2,hl,q=>by
  obtain⟨x1,t1,e1,g1,g2⟩:=r1.inv_cons;subst e1;obtain⟨x2,t2,e2,f1,f2⟩:=r2.inv_cons;subst e2;cases w1 with
  | cons k1 w1=>
  cases w2 with
  | cons k2 w2=>
   rw[PY];refine kat_cons ((As I n p.1 p.2 g1 f1 k1 k2 hu).eq X.prog X.w _ _ (kat_go (fun e=>kat_yes ?_) fun e=>kat_no ?_))
   ·rw[show d_ (mV n) (a::r) (b'::t)=d_ (mV n) r t by simp[d_,e]]at q
    simp only[Ob]at hl;exact Ju I hu (by simp) z g2 f2 w1 w2 (by walk_at "o") q
   ·rw[show d_ (mV n) (a::r) (b'::t)=mV n a b' by simp[d_,e]]at q
    rw[hb];refine kat_one _ _ ?_;exact (Kj I n (c fun y=>by rw[y,bb]at e;cases e) g1 f1 k1 k2 hu) X.prog X.w _ _ q
def DF(d:D):Prop:=∃ t r,d=.tup (.int t::r)
theorem Mp(I:L2.Inv X pins τ H s){A:Oc}(hu:A.units+4 < OL){kx ky:D}{v u:V}{v' u':NO}(cp:Gg 4 kx ky)(hx:DF kx)(hy:DF ky)(rx:RD X.K H kx v)(ry:RD X.K H ky u)(lx:aF v v')(ly:aF u u'){C:Bool->NP->Prop}{E:NO->NP->Prop}
  (q:C (mV 4 kx ky) s):NZ (N4 X.prog X.w) A (keyLt' (tuples' true) v' u') C E s:=by
 obtain⟨i,r,rfl⟩:=hx;obtain⟨j,t,rfl⟩:=hy;simp only[RD]at rx ry;obtain⟨a,xs,rfl,s1,r1⟩:=rx;obtain⟨b,ys,rfl,s2,r2⟩:=ry;cases lx;cases ly;obtain⟨its,w1,⟨o1,h1,c1,n1,d1⟩,z1⟩:=I.tuple s1;obtain⟨its2,w2,⟨o2,h2,c2,n2,d2⟩,z2⟩:=I.tuple s2;refine kat_lt h1 d1 h2 d2 ?_;have l1:=w1.length;have l1':=r1.length;have l2:=w2.length;have l2':=r2.length;obtain⟨x1,t1,e1,g1,g2⟩:=RDs.inv_cons (d:=.int i) (ds:=r) r1;subst e1;obtain⟨x2,t2,e2,f1,f2⟩:=RDs.inv_cons (d:=.int j) (ds:=t) r2;subst e2;simp only[RD]at g1 f1;subst g1 f1;cases w1 with
 | @cons _ u1 _ m1 k1 w1=>
 cases w2 with
 | @cons _ u2 _ m2 k2 w2=>
  obtain⟨tk,rfl⟩:=k1;obtain⟨tk',rfl⟩:=k2;obtain⟨p,c,z⟩:=(show Mn 3 (Gg 3) (.int i::r) (.int j::t)from cp)
  have q':C (d_ (mV 3) (.int i::r) (.int j::t)) s:=q;show KatLex _ _ _ _ _ _ ((_::m1).zip (_::m2)) 0 s
  rw[PY];refine kat_cons ((As I 3 (x:=.int i) (y:=.int j) (v:=.int i) (u:=.int j) p.1 p.2 eE eE ⟨tk,rfl⟩ ⟨tk',rfl⟩ (by walk_at "o")).eq X.prog X.w _ _ (kat_go (fun e=>kat_yes ?_) fun e=>kat_no ?_))
  ·rw[show d_ (mV 3) (.int i::r) (.int j::t)=d_ (mV 3) r t by simp[d_,e]]at q'
   simp only[Ob]at l1 l1' l2 l2';exact Ju I (by walk_at "o") (by simp) z g2 f2 w1 w2 (by simp only[N6,Ob];omega) q'
  ·rw[show d_ (mV 3) (.int i::r) (.int j::t)=mV 3 (.int i) (.int j)by simp[d_,e]]at q'
   show NZ _ _ (oneLt' true _ _) _ _ _
   exact oneLt_int q'
theorem KB(I:L2.Inv X pins τ H s){A:Oc}{E:NO->NP->Prop}{Q:SortKind->NP->Prop}{ks:List D}{kv:List V}{ku:List NO}(hk:∀ d∈ks,DF d)(r:RDs X.K H ks kv)(w:Vals kv ku)(hn:0 < ks.length)(q:Q (tuples' true) s):
  NZ (N4 X.prog X.w) A (keyKind' ku.toArray) Q E s:=by
 have go:∀ {ks:List D} {kv:List V} {ku:List NO},(∀ d∈ks,DF d)->RDs X.K H ks kv->Vals kv ku->∃ fs,KatTups s.heap ku fs/\fs.length=ks.length/\∀ v∈fs,∃ i t,v=Value.int i t:=by
  intro ks
  induction ks with
  | nil=>
   intro kv ku _ r w;rw[r.inv_nil]at w;cases w;exact⟨[],KatTups.nil,rfl,fun v hv=>by simp at hv⟩
  | cons d t ih=>
   intro kv ku hk r w;obtain⟨x1,t1,e1,g1,g2⟩:=r.inv_cons;subst e1;cases w with
   | cons k1 w=>
    obtain⟨fs,h1,h2,h3⟩:=ih (fun d hd=>hk d (N0 _ hd)) g2 w;obtain⟨i,rr,rfl⟩:=hk d N3;simp only[RD]at g1;obtain⟨a,xs,rfl,s1,r1⟩:=g1;cases k1;obtain⟨its,w1,⟨o1,e1,c1,n1,d1⟩,z1⟩:=I.tuple s1;obtain⟨y1,u1,e2,g3,_⟩:=RDs.inv_cons (d:=.int i) (ds:=rr) r1;subst e2;simp only[RD]at g3;subst g3;cases w1 with
    | cons k2 w1=>
     obtain⟨tk,rfl⟩:=k2;refine⟨.int i tk::fs,KatTups.cons e1 c1 d1 (by simp) h1,by simp[h2],fun v hv=>?_⟩
     rcases Oz.mp hv with rfl|hv
     ·exact⟨i,tk,rfl⟩
     ·exact h3 v hv
 obtain⟨fs,h1,h2,h3⟩:=go hk r w;refine kat_kind (T:=.type "int") h1 (by walk_at "o") (fun v hv=>?_) (by decide) ?_
 ·obtain⟨i,t,rfl⟩:=h3 v hv;exact Looks.of_pure rfl
 ·rw[show (Value.type "int" != Value.type "tuple")=true by decide]
  exact q
end
section
variable{X:Cx}{pins:List (NR×Obj)}{τ:St}{H H0:Hp}{s:NP}{G:Gp}{S D0:NR}{A:Oc}{E:NO->NP->Prop}{P:PySem.Fin->NP->Prop}
theorem zb(I:L2.Inv X pins τ H s)(rg:RG X.K H G)(kp:Kp G H0 G H)(nS:H0 S=none)(nD:H0 D0=none)(gS:G S=none)(gD:G D0=none)(hne:S≠D0){e1 n:Nat}{ku out:List NO}{ov:List V}{st:SortSt}
  (eD:H D0=some (XO D0 (Pt "list" #[] e1))) (eS:H S=some (XO S (Pt "list" ku.toArray n))) (hz:ku.length < 64) (ho:(arrOf st).map (·.2)=out.toArray) (hf:failedOf st=none) (hv:Vals ov out) (hl:out.length < 64)
  (q:∀ H' s',L2.Inv X pins τ H' s'->Kp G H0 G H'->RG X.K H' G->H' D0=some (.lst ov)->Stb X.K H H'->P (.done (.ret .none)) s'):NZ (N4 X.prog X.w) A (ksk_tail D0 false e1 (.ref S) st) P E s:=by
 unfold ksk_tail;dsimp only;rw[ho];simp only[Bool.false_eq_true,if_false];have oS:=rj I eS;have e2:=Q2 oS (fun _=>(#[]:Array NO));have mu:GN (H S):=by rw[eS];exact trivial
 have I1:=uN (t':=s.toks) I eS e2;have eD1:(bq H S (XO S (Pt "list" #[] (if ((#[]:Array NO).size == ku.toArray.size)=true then n else n+1)))) D0=some (XO D0 (Pt "list" #[] e1)):=by rw[aA hne.symm];exact eD
 have oD:=rj I1 eD1;have mu2:GN ((bq H S (XO S (Pt "list" #[] (if ((#[]:Array NO).size == ku.toArray.size)=true then n else n+1)))) D0):=by rw[eD1];exact trivial
 have e3:=Q2 oD (fun _=>out.toArray);refine NN (QP oS rfl ?_ (by rw[N6,OV];omega) (OD _))
 refine NN (Q_ ?_);refine NN (seqEpoch_at oD rfl ?_);refine NN (QP oD rfl ?_ (OD _) (by rw[N6,OV];omega))
 rw[hf];simp only[bne_self_eq_false,Bool.false_eq_true,if_false];have I2:=I1.write (x:=D0) (e:=D0) (o:=.lst ov) (t':=s.toks) mu2 (.inl rfl) (fun b u hb hu=>(Py _ (O2 fun _=>out.toArray) (Ne.symm hb)).trans hu) ⟨_,e3⟩ ⟨by rw[hv.length,OV];omega,out,_,hv,e3⟩
 refine NQ (q _ _ I2 (z0 (z0 kp nS) nD) (Cj (Cj rg gS mu) gD mu2) aN ?_);exact⟨fun b xs z=>(nM mu2).t _ _ ((nM mu).t _ _ z),fun b xs z=>(nM mu2).l _ _ ((nM mu).l _ _ z)⟩
theorem DN{vs:List V}{us:List NO}(w:Vals vs us)(i:Nat)(hi:i < vs.length):aF (vs.getD i .non) (us.getD i .none):=by
 have hl:=w.length;obtain⟨v,e,r⟩:=Vals.getV (i:=i) (u:=us[i]'(by walk_at "o")) w (by simp)
 rw[Oe,Oe,e,NV (by walk_at "o")]
 exact r
theorem zS{vs:List V}{us:List NO}(w:Vals vs us):∀ {p:List Nat},(∀ i∈p,i < vs.length)->Vals (p.map fun i=>vs.getD i .non) (p.map fun i=>us.getD i .none)
 | [],_=>.nil
 | i::r,h=>.cons (DN w i (h i N3)) (zS w fun j hj=>h j (N0 _ hj))
theorem F4{K:Sf}{ds:List D}{vs:List V}(r:RDs K H ds vs)(i:Nat)(hi:i < vs.length):RD K H (ds.getD i .non) (vs.getD i .non):=by
 obtain⟨d,e,q⟩:=RDs.getV (i:=i) r (NV hi);rw[Oe,Oe,e,NV hi];exact q
theorem CC{K:Sf}{ds:List D}{vs:List V}(r:RDs K H ds vs):∀ {p:List Nat},(∀ i∈p,i < vs.length)->RDs K H (p.map fun i=>ds.getD i .non) (p.map fun i=>vs.getD i .non)
 | [],_=>RDs.nil
 | i::t,h=>RDs.cons (F4 r i (h i N3)) (CC r fun j hj=>h j (N0 _ hj))
theorem range_getD{α:Type}(l:List α)(d:α):(List.range l.length).map (fun i=>l.getD i d)=l:=by
 refine List.ext_getElem (by simp) fun i h1 h2=>?_
 simp[h2]
theorem IA(I:L2.Inv X pins τ H s)(rg:RG X.K H G)(kp:Kp G H0 G H)(nS:H0 S=none)(nD:H0 D0=none)(gS:G S=none)(gD:G D0=none)(hne:S≠D0){e1 n:Nat}{ks:List D}{kv vs:List V}{ku us:List NO}
  (eD:H D0=some (XO D0 (Pt "list" #[] e1))) (eS:H S=some (XO S (Pt "list" ku.toArray n))) (rk:RDs X.K H ks kv) (wk:Vals kv ku) (wv:Vals vs us) (hl:ku.length=us.length) (hz:us.length < 64) (hu:A.units+4 < OL)
  (hk:∀ d∈ks,DF d) (hc:∀ a∈ks,∀ b∈ks,Gg 4 a b) (r:Nat->Nat) (hr:∀ i j a b,ks[i]?=some a->ks[j]?=some b->mV 4 a b=decide (r i < r j))
  (q:∀ (p:List Nat) H' s',p.Perm (List.range us.length)->(p.map r).Pairwise (·<=·)->L2.Inv X pins τ H' s'->Kp G H0 G H'->RG X.K H' G->H' D0=some (.lst (p.map fun i=>vs.getD i .non))->Stb X.K H H'->P (.done (.ret .none)) s'):
  NZ (N4 X.prog X.w) A (ksk_end D0 false us.toArray e1 (.ref S) ku.toArray) P E s:=by
 have lk:=wk.length;have lk':=rk.length;have lv:=wv.length;unfold ksk_end;dsimp only;simp only[Bool.false_eq_true,if_false]
 by_cases h2:us.length < 2
 ·have hs:us.toArray.size < 2:=by rw[N6];exact h2
  rw[if_pos hs,if_pos hs];refine NN (NQ ?_);refine NN (NQ ?_);refine zb I rg kp nS nD gS gD hne eD eS (by walk_at "o") (out:=us) (ov:=vs) (st:=SortSt.mk' general' (ku.toArray.zip us.toArray) #[] 7 none) ?_ rfl wv hz fun H' s' I' kp' rg' e' st'=>?_
  ·apply Array.toList_inj.mp;show ((ku.toArray.zip us.toArray).map (·.2)).toList=_
   rw[Array.toList_map,ksk_zip];simp[List.map_snd_zip,hl]
  ·refine q (List.range us.length) H' s' (List.Perm.refl _) ?_ I' kp' rg' (by rw[<- lv,range_getD];exact e') st'
   have:us.length=0\/us.length=1:=by walk_at "o"
   rcases this with e|e<;>rw[e]<;>simp[List.range_succ]
 ·have hs:¬ us.toArray.size < 2:=by rw[N6];exact h2
  rw[if_neg hs,if_neg hs];obtain⟨p,ep,hp,adj⟩:=Hk r us.length (by walk_at "o")
  refine NN (KB I hk rk wk (by walk_at "o") ?_)
  refine NN (ON (kat_run (Q:=fun st' s'=>∃ p':Array Nat,arrOf st'=p'.map (kas_item (ku.toArray.zip us.toArray))/\failedOf st'=none/\s'=s/\p'=p) hl (by walk_at "o") hz (G:=fun p' s'=>s'=s/\p'=p)
   (fun p' st' s' a1 a2 a3 a4=>⟨p',a2,a3,a4.1,a4.2⟩) ?_) ?_ fun _ _ x=>x)
  ·refine KasT.walked (lt:=m4 r) (J:=fun s'=>s'=s) (fun i j C s' hi hj e c=>?_) _ s (Hl (by walk_at "o")) rfl fun s' e _=>⟨e,ep⟩
   subst e;unfold kas_ask;obtain⟨v1,f1,g1⟩:=Vals.getV (i:=i) (u:=ku[i]'(by walk_at "o")) wk (by simp)
   obtain⟨v2,f2,g2⟩:=Vals.getV (i:=j) (u:=ku[j]'(by walk_at "o")) wk (by simp)
   obtain⟨d1,b1,c1⟩:=RDs.getV rk f1;obtain⟨d2,b2,c2⟩:=RDs.getV rk f2;have m1:=N9 b1;have m2:=N9 b2;rw[show ku.getD i Value.none=ku[i]'(by walk_at "o")by simp[show i < ku.length by walk_at "o"],show ku.getD j Value.none=ku[j]'(by walk_at "o")by simp[show j < ku.length by walk_at "o"]]
   refine Mp I hu (hc _ m1 _ m2) (hk _ m1) (hk _ m2) c1 c2 g1 g2 ?_;rw[hr i j d1 d2 b1 b2];exact c _ rfl
  ·rintro⟨⟨⟩,st'⟩ s' ⟨p',har,hf,rfl,rfl⟩
   dsimp only;have lp:p'.toList.length=us.length:=by rw[hp.length_eq,Qz]
   have inr:∀ i∈p'.toList,i < us.length:=fun i hi=>mem_range.mp (hp.mem_iff.mp hi);refine zb I rg kp nS nD gS gD hne eD eS (by walk_at "o") (out:=p'.toList.map fun i=>us.getD i Value.none) (ov:=p'.toList.map fun i=>vs.getD i .non) (kat_snds hl har) hf (zS wv fun i hi=>by rw[lv];exact inr i hi) (by rw[NS,lp];exact hz) fun H' s' I' kp' rg' e' st'=>?_
   refine q p'.toList H' s' hp ?_ I' kp' rg' e' st';rw[Qx,List.pairwise_iff_getElem];intro i j hi hj hij;have h:=adj.le (le_of_lt hij) (by walk_at "o")
   unfold RR at h;have gi:p'.getD i 0=p'.toList[i]:=by
    have:i < p'.size:=by simpa using hi
    simp[Array.getD,this]
   have gj:p'.getD j 0=p'.toList[j]:=by
    have:j < p'.size:=by simpa using hj
    simp[Array.getD,this]
   rw[gi,gj]at h;exact h
end
structure SortBy(sp:c5)(G:Gp)(ds:List D)(ks:List D)(r:Nat->Nat):Prop where
 few:ds.length < 64
 len:ks.length=ds.length
 key:∀ (i:Nat) d kd,ds[i]?=some d->ks[i]?=some kd->sp [d] G fun z G'=>z=kd/\G'=G
 ki:∀ d∈ks,DF d
 cp:∀ a∈ks,∀ b∈ks,Gg 4 a b
 lt:∀ i j a b,ks[i]?=some a->ks[j]?=some b->mV 4 a b=decide (r i < r j)
section
variable{X:Cx}{pins:List (NR×Obj)}{τ:St}{H H0:Hp}{s:NP}{G:Gp}{S D0:NR}{A:Oc}{E:NO->NP->Prop}{P:PySem.Fin->NP->Prop}
 {k:Nat} {f:NR} {fd:O4} {ps:List Str} {sp:c5} {ds ks:List D} {r:Nat->Nat} {vs:List V} {us:List NO}
theorem EY(F:FnOk X.prog X.w X.K X.mg X.base vy k f fd ps (cD X.K sp))(hb:gJ X.K fd ps [])(hr:Room k A)(hA:∀ {s H},L2.Inv X pins τ H s->Env0 X.prog X.w X.K X.mg X.base A X.stack s H)(sb:SortBy sp G ds ks r)(hu:A.units+4 < OL)
  (I:L2.Inv X pins τ H s) (rg:RG X.K H G) (kp:Kp G H0 G H) (nS:H0 S=none) (nD:H0 D0=none) (gS:G S=none) (gD:G D0=none) (hne:S≠D0) {e1:Nat}
  (eD:H D0=some (XO D0 (Pt "list" #[] e1))) (eS:H S=some (XO S (Pt "list" #[] 0))) (rd:RDs X.K H ds vs) (wv:Vals vs us)
  (q:∀ (p:List Nat) H' s',p.Perm (List.range ds.length)->(p.map r).Pairwise (·<=·)->L2.Inv X pins τ H' s'->Kp G H0 G H'->RG X.K H' G->H' D0=some (.lst (p.map fun i=>vs.getD i .non))->Stb X.K H H'->P (.done (.ret .none)) s'):
  NZ (N4 X.prog X.w) A (ksk_rest D0 (.ref f) false us.toArray e1 (.ref S)) P E s:=by
 have l1:=rd.length;have l2:=wv.length;have few:=sb.few;unfold ksk_rest;refine NN (Rt ?_)
 first
  | rw[List.forIn_toArray]
  | (rw[<- Array.forIn_toList];simp only[List.toList_toArray])
  | rw[<- Array.forIn_toList]
 refine NN (z9 F hb hr hA nS nD gS gD hne (fun x s' Q' h=>?_) sb.len (fun i d kd a b=>⟨sb.key i d kd a b,fun l e=>?_⟩) I kp rg rd wv eD (ku:=[]) (n:=0) (done:=[]) (kv:=[]) eS RDs.nil .nil (by simp only[OB];omega)
  fun H' s' kv' ku' n' I' kp' rg' eD' eS' rk wk st=>?_)
 ·refine NN (P4 (ON h (fun u s'' hu'=>?_) fun _ _ hF=>hF.elim));dsimp only;exact NN (ON hu' (fun _ s3 hq=>NQ hq) fun _ _ x=>x)
 ·obtain⟨t,rr,e2⟩:=sb.ki kd (N9 b);rw[e2]at e;cases e
 ·have l3:=rk.length;have l4:=wk.length;have sl:=sb.len;simp only[Pj]at rk l3;refine NN (Sy (rj I' eS') rfl ?_);refine IA I' rg' kp' nS nD gS gD hne eD' eS' rk wk wv (by walk_at "o") (by walk_at "o") hu sb.ki sb.cp r sb.lt fun p H'' s'' hp hs I'' Uf T_ e'' st''=>?_
  refine q p H'' s'' (by rw[show ds.length=us.length by walk_at "o"];exact hp) hs I'' Uf T_ e'' ⟨fun b xs z=>st''.t _ _ (st.t _ _ z),fun b xs z=>st''.l _ _ (st.l _ _ z)⟩
theorem Ez(F:FnOk X.prog X.w X.K X.mg X.base vy k f fd ps (cD X.K sp))(hb:gJ X.K fd ps [])(hr:Room k A)(hA:∀ {s H},L2.Inv X pins τ H s->Env0 X.prog X.w X.K X.mg X.base A X.stack s H)(sb:SortBy sp G ds ks r)(hu:A.units+4 < OL)
  (I:L2.Inv X pins τ H s) (rg:RG X.K H G) (kp:Kp G H0 G H) (h0:∀ a,H a=none->H0 a=none) (nD:H0 D0=none) (gD:G D0=none) {n:Nat}
  (eD:H D0=some (XO D0 (Pt "list" us.toArray n))) (rd:RDs X.K H ds vs) (wv:Vals vs us)
  (q:∀ (p:List Nat) H' s',p.Perm (List.range ds.length)->(p.map r).Pairwise (·<=·)->L2.Inv X pins τ H' s'->Kp G H0 G H'->RG X.K H' G->H' D0=some (.lst (p.map fun i=>vs.getD i .non))->Stb X.K H H'->P (.done (.ret .none)) s'):
  NZ (N4 X.prog X.w) A (ksk_tree D0 (.ref f) false) P E s:=by
 have l1:=rd.length;have l2:=wv.length;have few:=sb.few;have oD:=rj I eD;have mu:GN (H D0):=by rw[eD];exact trivial
 have e2:=Q2 oD (fun _=>(#[]:Array NO));generalize (if ((#[]:Array NO).size == us.toArray.size)=true then n else n+1)=e1 at e2
 have I1:=uN (t':=s.toks) I eD e2;unfold ksk_tree;refine NN (Sy oD rfl ?_);refine NN (QP oD rfl ?_ (by rw[N6,OV];omega) (OD _))
 refine NN (seqEpoch_at e2 rfl ?_);refine NN (R1 ?_ (by show us.length<=_;rw[OV];omega))
 refine NN (wpAny_newList ?_ (OD _));refine OH ?_;have I2:L2.Inv X pins τ _ { s with heap:=(s.heap.update D0 (O2 fun _=>#[])).push { cls:=.type "tuple",data:=.seq us.toArray } }:=I1.kept (t':=s.toks) fun b u e=>NT _ e
 have fS:=I2.fresh;have I3:=wU (t':=s.toks) (o:=Pt "list" #[] 0) I2 rfl rfl;have hS0:H ((s.heap.update D0 (O2 fun _=>(#[]:Array NO))).push { cls:=.type "tuple",data:=.seq us.toArray }).objs.size=none:=by
  by_cases e:((s.heap.update D0 (O2 fun _=>(#[]:Array NO))).push { cls:=.type "tuple",data:=.seq us.toArray }).objs.size=D0
  ·rw[e]at fS;rw[aN]at fS;cases fS
  ·rw[aA e]at fS;exact fS
 have hne:((s.heap.update D0 (O2 fun _=>(#[]:Array NO))).push { cls:=.type "tuple",data:=.seq us.toArray }).objs.size≠D0:=fun e=>by rw[e,eD]at hS0;cases hS0
 have rg1:RG X.K (bq H D0 (XO D0 (Pt "list" #[] e1))) G:=Cj rg gD mu;have st1:Stb X.K H (bq H D0 (XO D0 (Pt "list" #[] e1))):=nM mu;have st2:Stb X.K (bq H D0 (XO D0 (Pt "list" #[] e1))) (bq (bq H D0 (XO D0 (Pt "list" #[] e1))) ((s.heap.update D0 (O2 fun _=>(#[]:Array NO))).push { cls:=.type "tuple",data:=.seq us.toArray }).objs.size (XO ((s.heap.update D0 (O2 fun _=>(#[]:Array NO))).push { cls:=.type "tuple",data:=.seq us.toArray }).objs.size (Pt "list" #[] 0))):=(Kp.laid (G:=G) fS).stb rg1;refine EY F hb hr hA sb hu I3 (rg1.laid fS) (z0 (z0 kp nD) (h0 _ hS0)) (h0 _ hS0) nD (rg.free hS0) gD hne (by rw[aA hne.symm,aN]) aN (RDs.mono st2 _ _ (RDs.mono st1 _ _ rd)) wv fun p H' s' hp hs I' kp' rg' e' st'=>?_
 exact q p H' s' hp hs I' kp' rg' e' ⟨fun b xs z=>st'.t _ _ (st2.t _ _ (st1.t _ _ z)),fun b xs z=>st'.l _ _ (st2.l _ _ (st1.l _ _ z))⟩
theorem A5{d vw:NR}{Q:NO->NP->Prop}(F:FnOk X.prog X.w X.K X.mg X.base vy k f fd ps (cD X.K sp))(hb:gJ X.K fd ps [])(hr:Room (k+2) X.A)(sb:SortBy sp G ds ks r)(hu:X.A.units+8 < OL)(hh:X.A.handled=none)
  (I:L2.Inv X pins τ H s) (rg:RG X.K H G) {ep:Nat} (hv:s.heap.IsValuesView vw d) (dr:oC s.heap d us ep) (rd:RDs X.K H ds vs) (wv:Vals vs us)
  (q:∀ (p:List Nat) D0 H' s',p.Perm (List.range ds.length)->(p.map r).Pairwise (·<=·)->L2.Inv X pins τ H' s'->Kp G H G H'->RG X.K H' G->H D0=none->H' D0=some (.lst (p.map fun i=>vs.getD i .non))->RDs X.K H' (p.map fun i=>ds.getD i .non) (p.map fun i=>vs.getD i .non)->Q (.ref D0) s'):
  NZ (N4 X.prog X.w) X.A (call (.builtin "sorted") [.ref vw] [(NU "key",.ref f)]) Q E s:=by
 have l1:=rd.length;have l2:=wv.length;have few:=sb.few;refine call_function_entry_kw kind_sorted plain_sorted entry_sorted (ksk_s1 _ _) ?_;unfold Builtin.«sorted»;refine NN (m:=checkCount "sorted" 1 1 _) (NQ ?_);refine NN (kdu_collect (A:=X.A.in1) (Hs (r:=vw) (d:=d) (vs:=us) (ep:=ep)) hh ⟨hv,dr⟩ (by rw[OV];omega) fun h' tk acc hk hacc=>?_)
 have ea:acc.toList=us:=by
  refine List.ext_getElem? fun i=>?_;rcases Pm i acc.size with h|h
  ·have e:acc[i]?=some acc[i]:=by simp[h]
   have:=hacc.2 i _ e;rw[this];simp[h]
  ·rw[OI (by simpa using h),OI (by rw[<- hacc.1];exact h)]
 rw[ea];have I1:L2.Inv X pins τ H { s with heap:=h',toks:=tk }:=I.kept hk
 refine NN (wpAny_newList ?_ (by rw[OV];omega))
 have fD:=I1.fresh;have I2:=wU (t':=tk) (o:=Pt "list" us.toArray 0) I1 rfl rfl;have st:Stb X.K H (bq H h'.objs.size (XO h'.objs.size (Pt "list" us.toArray 0))):=(Kp.laid (G:=G) fD).stb rg;refine NN (OH (wpAny_call_entry_kw slot_list_sort ⟨_,rj I2 aN,rfl⟩ entry_list_sort ?_ (ksk_l1 _ _)));rw[ksk_t1];refine Ez F hb (hr.in1.in1) (fun J=>J.env0.in1.in1) sb (by show X.A.units+1+1+4 < OL;omega) I2 (rg.laid fD) (Kp.laid fD) (fun a e=>?_) fD (rg.free fD) aN (RDs.mono st _ _ rd) wv fun p H' s' hp hs I' kp' rg' e' st'=>⟨_,rfl,?_⟩
 ·by_cases h:a=h'.objs.size
  ·subst h;exact fD
  ·rw[aA h]at e;exact e
 ·refine NQ ⟨_,rfl,q p _ H' s' hp hs I' kp' rg' fD e' (CC (RDs.mono st' _ _ (RDs.mono st _ _ rd)) fun i hi=>?_)⟩;rw[<- l1];exact mem_range.mp (hp.mem_iff.mp hi)
end
def u0(sp:c5)(to:bG):bG:=fun σ G Q=>to σ G fun x G1=>match val x with
 | .ref a=>match G1 a with
  | some (.dT _ kvs)=>∃ ks r,SortBy sp G1 (kvs.map (·.2)) ks r/\∀ p:List Nat,p.Perm (List.range (kvs.map (·.2)).length)->(p.map r).Pairwise (·<=·)->Q (.fl (p.map fun i=>(kvs.map (·.2)).getD i .non)) G1
  | _=>False
 | _=>False
theorem EO{K:Sf}{H:Hp}{kvs:List (List aD×D)}{xs:List (List aD×NR×NO)}(r:qo K H kvs xs):∃ vs,RDs K H (kvs.map (·.2)) vs/\Vals vs (xs.map (·.2.2)):=by
 unfold qo at r
 induction r with
 | nil=>exact⟨[],RDs.nil,.nil⟩
 | cons h _ ih=>
  obtain⟨_,_,v,h1,h2⟩:=h;obtain⟨vs,a,b⟩:=ih;exact⟨v::vs,RDs.cons h1 a,.cons h2 b⟩
theorem HP{X:Cx}{k:Nat}{f:Str}{sp:c5}{o:Oj}{to:bG}{p0 apos cpos np Ue pos:Pos}(F:Fn3 X.prog X.w X.K X.mg X.base k f [] sp)(hr:Room (k+2) X.A)(hc:X.calm=true)(hgf:Gl X f)(hg:Gl X "sorted")(hm:X.mg "sorted"=none)(ho:PE X o (aB X.K to))
  (Tt:Pk o "values" X.env (eval o X.env)=eval o X.env:=by rfl) (Ts:(apos.endLine == cpos.line)=true:=by rfl) (hdf:(f == ("__debug__":Str))=false:=by decide):
  PE X (.Call (.Name "sorted" p0) [.Call (.Attribute o "values" apos) [] [] cpos] [⟨some "key",.Name f np,Ue⟩] pos) (aB X.K (u0 sp to)):=by
 obtain⟨fa,fd,ps,dv,dvs,ok,hmf,_,hb,hv0,hd0⟩:=F.ex;have e0:dvs=[]:=(hd0 (fun _=>none)).inv_nil;subst e0;cases hv0;have hu:=hr.units
 rintro pins s τ H Q I ⟨σ,G,Q3,rs,rg,h,kf⟩
 refine Qb (fE I hg hm (u:=.builtin "sorted") (by decide +kernel) ?_ (by decide) (by decide))
 refine callWith_kw (id:="sorted") ?_;show NZ _ _ (spliced [(false,eval (.Call (.Attribute o "values" apos) [] [] cpos) X.env)]) _ _ _
 refine OP (wpAny_Call_method0_late Tt Ts (cz (dN ho I rs rg h) fun ov s1 zz=>?_));obtain⟨ox,H1,I1,rox,x,G1,q1,k1,rg1,rd1⟩:=zz;split at q1
 ·rename_i a hx;rw[hx]at rd1;simp only[RD]at rd1;subst rd1;cases rox;split at q1
  ·rename_i hw kvs hga;obtain⟨ks,r,sb,q1⟩:=q1;obtain⟨hob,eo,ro⟩:=rg1 a _ hga;cases hob with
   | ext φ=>
    obtain⟨xs,rfl,rt,nd,hz⟩:=ro;obtain⟨hsm,o1,es,ep,g1,g2,g3,g4⟩:=(show cf X.prog X.w H1 s1.heap a (.ext (yX hw a xs))from I1.hok a _ eo).1
    obtain⟨vs,rv,wv⟩:=EO rt;have dr:oC s1.heap a (xs.map (·.2.2)) ep:=⟨o1,es,g1,g2,g3,by rw[g4,Ot];rfl⟩
    refine⟨"dict","dict.values",PySem.F.plainAttrs_dict,PySem.F.slot_dict_values,PySem.F.type_dict_values,dr.ty,fun b e=>?_,?_⟩
    ·cases e;exact⟨o1,g1,g2.2.1⟩
    ·refine Q1 rfl (PySem.evalArgs_none (RF PySem.F.slot_dict_values dr.ty PySem.F.entry_dict_values (PySem.F.args_dict_values_1 _) (Bh hsm) ⟨⟨_,ep,dr⟩,?_⟩));refine O1 ?_;have I2:L2.Inv X pins τ H1 { s1 with heap:=s1.heap.push { cls:=.type "dict_values",data:=.fields #[.ref a] } }:=I1.kept (t':=s1.toks) fun b u e=>NT _ e
     show NZ _ _ (evalAll [(do let v <- eval (.Name f np) X.env;Qw pos;pure v)]) _ _ _
     refine wpAny_evalAll_cons (NN (tj I2 hgf hmf (NN (Rp (NQ (wpAny_evalAll_nil ?_)))) hdf));show NZ _ _ (call (.builtin "sorted") [.ref s1.heap.objs.size] [(NU "key",.ref fa)]) _ _ _
     refine A5 ok hb hr sb (by walk_at "o") (I.ok.hd hc) I2 rg1 (ep:=ep) ⟨_,NW _ rfl,rfl,rfl⟩ (dr.stay fun b e=>NT _ e) rv wv fun p D0 H' s' hp hs I' kp' rg' n0 e' rd'=>?_
     exact⟨.ref D0,H',I',rfl,kf _ G1 _ H' (q1 p hp hs) (k1.trans kp') rg' (.inl ⟨_,D0,_,rfl,rfl,e',rg1.free n0,rd',k1.fr (mJ n0)⟩)⟩
   | _=>exact ro.elim
  ·exact q1.elim
 ·exact q1.elim
section
variable{prog:N_}{w:Og}{A:Oc}{s:NP}{R:SC->NP->Prop}{I:NR}{fp wr:List NR}{G:Array SS->Array SS->Prop}{n:Nat}{P:Nat->NO->Prop}{St:Nat->NP->Prop}
theorem Dx:QD (.type "list_reverseiterator") "__len__"=pure none:=by rw[Qt,PF];kernel_rfl
theorem FO:QD (.type "list_reverseiterator") "__length_hint__"=pure (some (.builtin "list_reverseiterator.__length_hint__")):=by rw[Qt,PF];kernel_rfl
theorem By(W:WalksS prog w A.in1 I fp wr G n P St)(hT:∀ i s,St i s->s.TypeIs (.ref I) "list_reverseiterator")(S:NR)(res:NO)(c₀:Nat)(hst:St 0 s)(hSf:S∉fp)(hI:I∈fp)(hS:s.heap.get? S=some { cls:=.type "list",data:=.seq #[] c₀ })
  (hR:∀ s' TC c',Moved (S::wr) G s s'->s'.heap.get? S=some { cls:=.type "list",dict:=none,data:=.seq TC c',slots:=#[] }->ItemsOf P TC n->R (.ok (.ret res)) s') (hn:n<=NY):
  NZ (N4 prog w) A.in1 (QA (.ref S) (.ref I) res) (fun fin s'=>match fin with|.done f=>R (.ok f) s'|.again c'=>c'.quiet=true/\Qo (N4 prog w) A c' R s') (fun e s'=>R (.error e) s') s:=by
 have hne:S≠I:=fun e=>hSf (e ▸ hI);have t1:=hT 0 _ hst;unfold QA;refine NN (Rv t1 ?_);have z1:Sg (.ref S) (.ref I)=false:=by simp[Sg,hne]
 have z2:(Value.type "list_reverseiterator" == Value.type "list")=false:=by decide
 have z3:(Value.type "list_reverseiterator" == Value.type "tuple")=false:=by decide
 simp only[z1,z2,z3,Bool.or_false,Bool.false_eq_true,if_false];refine NN (W.self 0 _ _ _ hst ?_);refine NN (OH ?_);unfold Builtin.List.listLengthHint;refine NN (RX t1 Dx ?_);show NZ _ A.in1 (specialOf (Value.ref I) (NU "__length_hint__") >>= _) _ _ _;refine NN (RX t1 FO ?_)
 (generalize hid:("list_reverseiterator.__length_hint__":String)=id0;(fail_if_success (clear hid id0));wp_delta;rw[show splitId id0=some ("list_reverseiterator","__length_hint__")from by subst hid;decide +kernel];subst hid)
 refine NN (QT (b:=true) t1 (by rw[isSubtype_type];kernel_rfl) ?_);refine NQ ?_;rw[if_neg (by decide)]
 exact NQ ⟨Se PySem.F.plain_extend_loop _,codeAny_extend_loopS W hn _ hSf _ n 0 _ _ _ rfl (OD _) hst hS (ItemsOf.nil P) hR⟩
theorem FN{E:NO->NP->Prop}{Q:NO->NP->Prop}(W:WalksS prog w A.in1.in1 I fp wr G n P St)(hT:∀ i s,St i s->s.TypeIs (.ref I) "list_reverseiterator")(hst:St 0 s)(hfp:∀ b∈fp,b < s.heap.objs.size)(hI:I∈fp)
  (hQ:∀ s' TC c',Moved (s.heap.objs.size::wr) G { s with heap:=s.heap.push { cls:=.type "list",data:=.seq #[] } } s'->s'.heap.get? s.heap.objs.size=some { cls:=.type "list",dict:=none,data:=.seq TC c',slots:=#[] }->ItemsOf P TC n->Q (.ref s.heap.objs.size) s') (hn:n<=NY):
  NZ (N4 prog w) A (call (.type "list") [.ref I]) Q E s:=by
 have hSf:s.heap.objs.size∉fp:=fun hm=>Nat.lt_irrefl _ (hfp _ hm);refine callType_codes (Q₁:=fun obj s₁=>obj=.ref s.heap.objs.size/\s₁={ s with heap:=s.heap.push { cls:=.type "list",data:=.seq #[] } }) PySem.F.called_list (PySem.F.typeCall_list_1 _) PySem.F.entry_list_init (code_list_new _ ⟨rfl,rfl⟩) fun obj s₁ h₁=>?_
 obtain⟨rfl,rfl⟩:=h₁;have hS:(s.heap.push { cls:=.type "list",data:=.seq #[] }).get? s.heap.objs.size=some { cls:=.type "list",data:=.seq #[] }:=NW _ rfl;have st1:=W.frame 0 s (s.heap.push { cls:=.type "list",data:=.seq #[] }) s.toks hst (le_refl _) fun b _ o e=>NT _ e;refine⟨⟨_,hS,rfl⟩,PySem.F.args_list_init_2 _ _,?_⟩;show NZ _ A.in1.in1 (do let old <- Builtin.List.listItems (.ref s.heap.objs.size);Su (.ref s.heap.objs.size) (fun _=>#[]);letGo old.toList.reverse;QA (.ref s.heap.objs.size) (.ref I) .none) _ _ _
 refine NN (Sy hS rfl ?_);refine NN (QP hS rfl ?_ (OD _) (OD _));have hS2:=Ql (O2 (fun _=>(#[]:Array NO))) hS rfl;have oth:∀ b o,b≠s.heap.objs.size->(s.heap.push { cls:=.type "list",data:=.seq #[] }).get? b=some o->((s.heap.push { cls:=.type "list",data:=.seq #[] }).update s.heap.objs.size (O2 (fun _=>(#[]:Array NO)))).get? b=some o:=fun b o hb e=>(Py _ _ (Ne.symm hb)).trans e;refine NN (Q_ ?_);refine By (A:=A.in1) W hT _ .none _ (W.frame 0 { s with heap:=s.heap.push { cls:=.type "list",data:=.seq #[] } } _ s.toks st1 (le_refl _) fun b hb o e=>oth b o (fun h=>hSf (h ▸ hb)) e) hSf hI hS2 (fun s' TC c' hm hS' hacc=>?_) hn
 exact⟨rfl,hQ s' TC c' (Moved.trans W.gtrans ((Moved.refl W.grefl).then_heap (le_refl _) fun b o hb e=>oth b o (fun h=>hb (h ▸ N3)) e) hm) hS' hacc⟩
end
def Al(te:bG):bG:=fun σ G Q=>te σ G fun x G1=>match wg G1 (val x) with
 | some ds=>Q (.fl ds.reverse) G1
 | none=>False
theorem Kf{X:Cx}{e:Oj}{te:bG}{p1 p2 pos Tp:Pos}(hc:X.calm=true)(hg1:Gl X "list")(hm1:X.mg "list"=none)(hg2:Gl X "reversed")(hm2:X.mg "reversed"=none)(he:PE X e (aB X.K te))(hs:N5 [e] X.env=[(false,eval e X.env)]:=by rfl):
  PE X (.Call (.Name "list" p1) [.Call (.Name "reversed" p2) [e] [] Tp] [] pos) (aB X.K (Al te)):=by
 rintro pins s τ H Q I ⟨σ,G,Q3,rs,rg,h,k⟩
 refine RK (fE I hg1 hm1 PyProof.Rows.boot_list (PyProof.Rows.callWith_type1 ?_ rfl rfl) (by decide) (by decide))
 show NZ _ _ (spliced [(false,eval (.Call (.Name "reversed" p2) [e] [] Tp) X.env)]) _ _ _
 refine OP (RK (fE I hg2 hm2 boot_reversed (PyProof.Rows.callWith_type1 ?_ hs rfl) (by decide) (by decide)))
 rw[show OW Tp (N5 [e] X.env)=[(false,eval e X.env)]by rw[hs];rfl]
 refine OP (cz (dN he I rs rg h) fun ov s1 zz=>?_);obtain⟨ox,H1,I1,rox,x,G1,q1,k1,rg1,rd1⟩:=zz;refine O1 ?_;split at q1
 ·rename_i ds hq;obtain⟨b,xs,rfl,sq,r⟩:=mh (G:=G1) (H:=H1) hq (.of rd1) rg1;cases rox;obtain⟨its,rv,pl,hz⟩:=I1.list sq;have hl:=rv.length;refine call_reversed_list pl.isList (O1 ?_);have ll:b < s1.heap.objs.size:=let ⟨o,e,_⟩:=pl.isList;N7 e;have W:=Walks.listRev (prog:=X.prog) (w:=X.w) (A:=X.A.in1.in1) (I.ok.hd hc) s1.heap.objs.size b (Oq ll) its.toArray;refine FN (s:={ s1 with heap:=s1.heap.push (revObj b ((its.toArray.size:Int) - 1)) }) W.toS (fun i s' z=>z.2.1.typeIs) ⟨OD _,⟨_,NW _ rfl,rfl,?_⟩,pl.isList.push _⟩ (fun c hc'=>?_) N3 (fun s' acc c' hm hS hacc=>?_) (by rw[N6];omega)
  ·show Data.fields #[.ref b,PN ((its.toArray.size:Int) - 1)]=_;simp
  ·show c < (s1.heap.push _).objs.size;rw[R5];rcases Oz.mp hc' with e|hc'
   ·rw[e];exact PU _
   ·rw[Rs.mp hc'];exact Nat.lt_succ_of_lt ll
  ·have keep:∀ c o,s1.heap.get? c=some o->s'.heap.get? c=some o:=fun c o e=>hm.heap c o (fun TZ=>?_) (NT _ (NT _ e))
   ·have sz:(s1.heap.push (revObj b ((its.toArray.size:Int) - 1))).objs.size=s1.heap.objs.size+1:=R5 ..;have ea:acc.toList=its.reverse:=by
     refine List.ext_getElem? fun i=>?_;rcases Pm i acc.size with hi|hi
     ·have e:acc[i]?=some acc[i]:=by simp[hi]
      have h2:=hacc.2 i _ e;have h3:=hacc.1;simp only[N6]at h2 h3;have h4:its[its.length - 1 - i]?=some acc[i]:=by simpa using h2
      rw[List.getElem?_reverse (by walk_at "o"),h4]
      simp[hi]
     ·have h3:=hacc.1;simp only[N6]at h3;rw[OI (by simpa using hi),OI (by rw[Qg];omega)]
    rw[Moved.eq_with hm];have fr:H1 (s1.heap.objs.size+1)=none:=I1.hok.fresh (QM _);have hS':s'.heap.get? (s1.heap.objs.size+1)=some { cls:=.type "list",data:=.seq its.reverse.toArray c' }:=by
     rw[<- sz,<- ea]
     simpa using hS
    have I2:L2.Inv X pins τ (bq H1 (s1.heap.objs.size+1) (.lst xs.reverse)) { s1 with heap:=s'.heap,toks:=s'.toks }:=I1.laid keep (QM _) ⟨by rw[Qg];omega,its.reverse,c',rv.reverse,hS'⟩
    refine⟨.ref (s1.heap.objs.size+1),_,I2,by show Value.ref _=Value.ref _;rw[sz],k _ G1 _ _ q1 (k1.trans (Kp.laid fr)) (rg1.laid fr) (.inl ⟨_,_,_,rfl,rfl,aN,rg1.free fr,RDs.mono ((Kp.laid (G:=G1) fr).stb rg1) _ _ r.reverse,k1.fr (mJ fr)⟩)⟩
   ·have sz:(s1.heap.push (revObj b ((its.toArray.size:Int) - 1))).objs.size=s1.heap.objs.size+1:=R5 ..;have lt:=N7 e;rcases Oz.mp TZ with e'|TZ
    ·rw[e']at lt;exact absurd lt (by show ¬ (s1.heap.push (revObj b ((its.toArray.size:Int) - 1))).objs.size < _;rw[sz];omega)
    ·rw[Rs.mp TZ]at lt;exact absurd lt (Nat.lt_irrefl _)
 ·exact q1.elim
def BN(to:bG):bG:=fun σ G Q=>to σ G fun x G1=>match x with
 | .ref a=>match G1 a with
  | some (.lst _)=>Q .non (gset G1 a (.lst []))
  | _=>False
 | _=>False
def LS{α:Type}(xs:List α)(lo hi st:Option Int):List α:=
 (S4 (Pr lo hi st xs.length).1 (Pr lo hi st xs.length).2.1 (Pr lo hi st xs.length).2.2).filterMap (xs[·]?)
def DR(te:bG)(tl th ts:GR):bG:=fun σ G Q=>te σ G fun x G1=>tl σ G1 fun l G2=>th σ G2 fun u G3=>ts σ G3 fun st G4=>st≠some 0/\match wg G4 (val x) with
 | some ds=>Q (.fl (LS ds l u st)) G4
 | none=>False
def mN(K:Sf)(mg:Str->Option NO)(x:Str)(d:D):Prop:=∃ u v,mg x=some u/\aF v u/\∀ H,RD K H d v
theorem eF{X:Cx}{x:Str}{d:D}{pos:Pos}(hg:Gl X x)(h:mN X.K X.mg x d)(hd:(x == ("__debug__":Str))=false:=by decide):PE X (.Name x pos) (aB X.K (eC d)):=by
 obtain⟨u,v,hm,r,rd⟩:=h;exact Cs hg hm r rd hd
theorem DY{K:Sf}{mg:Str->Option NO}{x:Str}{ds:List D}{vs:List V}{its:Array NO}{a:NR}{n:Nat}{sl:Array (Option NO)}(hm:mg x=some (.ref a))(hl:K.lookup a=some ⟨.type "tuple",none,.seq its n,sl⟩)
  (hz:its.size<=NY) (w:Vals vs its.toList) (r:∀ H,RDs K H ds vs):mN K mg x (.tup ds):=
 ⟨.ref a,.ref a,hm,rfl,fun H=>qJ (.inr ⟨_,its,n,hl,⟨rfl,rfl⟩,rfl,hz,w⟩) (r H)⟩
end L3
namespace L2
open PySem PySem.Spec PyProof.Rows
theorem Inv.turnedL{X:Cx}{pins:List (NR×Obj)}{σ:St}{H:Hp}{s:NP}{h':Of}{t':Nat}{fp:List NR}(I:Inv X pins σ H s)(k:∀ b o,b∉fp->s.heap.get? b=some o->h'.get? b=some o)(hf:∀ b∈fp,rF X pins H b):
  Inv X pins σ H { s with heap:=h',toks:=t' }:=by
 have nit:∀ b u,H b=some u->b∉fp:=fun b u e z=>by rw[(hf b z).1]at e;cases e
 have hL:X.env.locals∉fp:=fun z=>(hf _ z).2.1 rfl;refine I.step (g':=s.gens) (d':=s.drawn) (ch:=fp) (fun b hb=>⟨(hf b hb).2.2.2.1,(hf b hb).2.1,(hf b hb).2.2.2.2.1,(hf b hb).2.2.2.2.2⟩) (fun b o _ _ hc e _=>k b o hc e) (fun b o _ _ hc e _=>⟨o.slots,k b o hc e⟩) (fun _ _ _ _ n=>n)
  (fun b o hc e=>⟨o,k b o hc e⟩) (fun _ _ e=>e) (fun _ _ _ e=>e) (fun b ps e=>⟨#[],by rw[e];simp⟩) (fun m hm=>?_) (fun b u e=>?_) I.bare
 ·obtain⟨o,es,ep,ho,r⟩:=hm;exact⟨o,es,ep,k _ o hL ho,r⟩
 ·refine (I.hok b u e).stay (fun c v hc q=>k c v ?_ q) (fun _ q=>q) fun _ _ q=>q;rcases hc with z|z
  ·rw[z];exact nit b u e
  ·exact nit c _ z
end L2
namespace L3
open PySem PySem.Spec PyProof.Rows L2
def fX:Nat->List D->List D
 | _,[]=>[]
 | n,d::r=>.tup [.int n,d]::fX (n+1) r
abbrev nE(ds:List D):List D:=fX 0 ds
theorem eT:∀ (n:Nat) (ds:List D),(fX n ds).length=ds.length
 | _,[]=>rfl
 | n,_::r=>by simp[fX,eT (n+1) r]
theorem i0:∀ (n:Nat) (ds:List D) (i:Nat) (d:D),ds[i]?=some d->(fX n ds)[i]?=some (.tup [.int (n+i:Nat),d])
 | n,d::r,0,d',h=>by simp at h;subst h;simp[fX]
 | n,d::r,i+1,d',h=>by
  have:=i0 (n+1) r i d' (by simpa using h)
  simp only[fX,Ov];rw[this];simp only[Option.some.injEq,D.tup.injEq,List.cons.injEq,D.int.injEq,and_true];omega
theorem vd:Ph "enumerate"=some (.type "enumerate"):=by kernel_rfl
def M6(a b:String):Bool:=(a == b) || ((a == "bool") && (b == "int"))
def KA(b:String):Prop:=b="int"\/b="bool"\/b="str"\/b="tuple"\/b="list"
def Lb:CW:=fun ds G Q=>match ds with
 | [d,.ty T]=>KA T/\∃ T',qa G d=some T'/\Q (.bl (M6 T' T)) G
 | _=>False
def Gr:CW:=fun ds G Q=>match ds with
 | [.bl b]=>Q (.int (if b then 1 else 0)) G
 | _=>False
theorem wZ{K:Sf}{mg:Str->Option NO}{x z:Str}{t:Tok}(hm:mg x=some (.str z t)):mN K mg x (.str z):=⟨.str z t,.str z,hm,⟨t,rfl⟩,fun _=>iT⟩
end L3
namespace L2
open PySem PySem.Spec PyProof.Rows
end L2
namespace L3
open PySem PySem.Spec PyProof.Rows L2
def My(a:NR)(g:vi)(tb:ck)(E:Ends3)(σ:ff)(ds:List D)(G1:Gp):Prop:=∃ Pv:Nat->ff->Gp->Prop,Pv 0 σ G1/\(∀ i σ' G',Pv i σ' G'->G' a=some (.lst ds))/\
 (∀ (i:Nat) d σ' G',ds[i]?=some d->Pv i σ' G'->g d σ' G' fun σ2 G2=>tb { E with nx:=Pv (i+1),ct:=Pv (i+1),bk:=E.nx } σ2 G2)/\∀ σ' G',Pv ds.length σ' G'->E.nx σ' G'
def zn(te:bG)(g:vi)(tb:ck):ck:=fun E σ G=>te σ G fun d G1=>match d with
 | .ref a=>∃ ds,G1 a=some (.lst ds)/\My a g tb E σ ds G1
 | d=>match d9 d with
  | some ds=>ForIn g tb E σ ds G1
  | none=>False
section
variable{X:Cx}{tg e:Oj}{te:bG}
theorem Cp(h:PE X e (aB X.K te)):PI X tg e (fun τ H R=>∃ σ G Q3,RS X.K H σ τ/\RG X.K H G/\te σ G Q3/\∀ d G1 H1,Q3 d G1->Kp G H G1 H1->RG X.K H1 G1->match d with
  | .ref a=>(∃ ds,G1 a=some (.lst ds))/\R (Mw X.K a) H1
  | d=>∃ ds,d9 d=some ds/\∀ J,wp X.K G1 H1 ds J->R J H1):=by
 intro pins s τ H R I hq;obtain⟨σ,G,Q3,rs,rg,hq,k⟩:=hq;refine cz (d4 h pins s τ H (fun v H1=>∃ d G1,Kp G H G1 H1/\RG X.K H1 G1/\RD X.K H1 (val d) v/\Q3 d G1) I ⟨σ,G,_,rs,rg,hq,fun d G' v H' q k' rg' rd=>⟨d,G',k',rg',rd,q⟩⟩) fun u s1 zz=>?_;obtain⟨v,H1,I1,r1,d,G1,k1,rg1,rd,q⟩:=zz;have kk:=k d G1 H1 q k1 rg1;have seq:∀ {a:NR} {xs:List V} {ds:List D},GP X.K H1 a xs->RDs X.K H1 ds xs->(∀ J,wp X.K G1 H1 ds J->R J H1)->NZ (N4 X.prog X.w) X.A (QE (.ref a)) (JA X pins τ tg R) X.xe s1:=fun f r q=>rf I1 f.sq (q _ (CI rg1 f r));cases d with
 | ref a=>
  simp only[val,RD]at rd;subst rd;cases r1;obtain⟨⟨ds,hg⟩,kr⟩:=kk;obtain⟨xs,e1,r⟩:=uy rg1 hg;exact rf I1 (jw.of e1) kr
 | lst ds=>
  simp only[val,RD]at rd;obtain⟨a,xs,rfl,f,r⟩:=rd;cases r1;obtain⟨ds',e,kr⟩:=kk;cases e;exact seq f r kr
 | fl ds=>
  simp only[val,RD]at rd;obtain⟨a,xs,rfl,f,r⟩:=rd;cases r1;obtain⟨ds',e,kr⟩:=kk;cases e;exact seq f r kr
 | tup ds=>
  simp only[val,RD]at rd;obtain⟨a,xs,rfl,f,r⟩:=rd;cases r1;obtain⟨ds',e,kr⟩:=kk;cases e;exact z_ I1 f (kr _ (FX rg1 f r))
 | str z=>
  simp only[val,RD]at rd;subst rd;obtain⟨t,rfl⟩:=r1;obtain⟨ds',e,kr⟩:=kk;cases e;refine Aa I1 (kr _ (CH fun H'=>?_));have:signs z=(z.cps.toList.map fun c=>(⟨#[c]⟩:Str)).map D.str:=by simp[signs]
  rw[this];have e2:bm z=(z.cps.toList.map fun c=>(⟨#[c]⟩:Str)).map V.str:=by simp[bm]
  rw[e2];exact RDs.strs _
 | _=>
  obtain⟨ds',e,_⟩:=kk;cases e
end
theorem JW{X:Cx}{tg iter:Oj}{body:List Op}{te:bG}{g:vi}{tb:ck}{pos:Pos}(hp:Rm (N4 X.prog X.w) X.A X.env X.xe)(hc:X.calm=true)(hi:PE X iter (aB X.K te))(hg:PG X tg (jt X.K g))(hb:rE X body (cB X.K tb))
  (hs:∀ x,OU iter X.env x=pure x:=by intro _;rfl):PS X (.For tg iter body [] pos) (cB X.K (zn te g tb)):=
 (Fj hp hc (Cp hi) hg hb hs).imp fun Dd τ H zz=>by
 obtain⟨σ,G,D3,rs,rg,h,k⟩:=zz;exact (
  ⟨σ,G,_,rs,rg,h,fun d G1 H1 q k1 rg1=>by
    have core:∀ (ds:List D) (J:It) (Pv:Nat->ff->Gp->Prop),Pv 0 σ G1->
      (∀ i σ' G' H',Pv i σ' G'->Kp G1 H1 G' H'->RG X.K H' G'->(i < ds.length->J.go i H'/\∀ x H2,J.yld i H' x H2->Kp G' H' G' H2/\RG X.K H2 G'/\∃ d,ds[i]?=some d/\RD X.K H2 d x)/\(i=ds.length->J.stop i H'))->
      (∀ (i:Nat) d σ' G',ds[i]?=some d->Pv i σ' G'->g d σ' G' fun σ2 G2=>tb { D3 with nx:=Pv (i+1),ct:=Pv (i+1),bk:=D3.nx } σ2 G2)->(∀ σ' G',Pv ds.length σ' G'->D3.nx σ' G')->
      ∃ W:Nat->Nat->St->Hp->Prop,(∃ m,W 0 m τ H1)/\∀ i m σ H,W i m σ H->
       (J.stop i H/\Dd.nx σ H)\/(J.go i H/\∃ N:St->Hp->Prop,(∀ σ' H',N σ' H'->∃ m',m' < m/\W (i+1) m' σ' H')/\∀ x H',J.yld i H x H'->jt X.K g x σ H' fun σ2 H2=>cB X.K tb { Dd with nx:=N,ct:=N,bk:=Dd.nx } σ2 H2):=by
     intro ds J Pv p0 it step fin;refine⟨fun i m τ' H'=>m=ds.length - i/\i<=ds.length/\∃ σ' G',RS X.K H' σ' τ'/\RG X.K H' G'/\Pv i σ' G'/\Kp G1 H1 G' H',⟨ds.length,rfl,OD _,σ,G1,rs.mono (k1.stb rg),rg1,p0,Kp.refl⟩,?_⟩
     rintro i m τ' H' ⟨rfl,hi',σ',G',rs',rg',pv,k'⟩
     obtain⟨hgo,hstop⟩:=it i σ' G' H' pv k' rg'
     by_cases hlt:i < ds.length
     ·obtain⟨go,yld⟩:=hgo hlt;refine .inr ⟨go,fun τ2 H2=>∃ σ2 G2,RS X.K H2 σ2 τ2/\RG X.K H2 G2/\Pv (i+1) σ2 G2/\Kp G1 H1 G2 H2,fun τ2 H2 ⟨σ2,G2,a,b,c,d⟩=>⟨ds.length - (i+1),by walk_at "o",rfl,hlt,σ2,G2,a,b,c,d⟩,fun x H2 y=>?_⟩
      obtain⟨ky,rgy,d,hd,rd⟩:=yld x H2 y;refine⟨d,σ',G',_,rd,rs'.mono (ky.stb rg'),rgy,step i d σ' G' hd pv,fun σ3 G3 τ3 H3 q3 k3 rg3 rs3=>?_⟩;have kk:Kp G1 H1 G3 H3:=k'.trans (ky.trans k3);have kG:Kp G H G3 H3:=k1.trans kk;refine⟨σ3,G3,_,rs3,rg3,q3,⟨fun σ4 G4 τ4 H4 q4 k4 rg4 rs4=>⟨σ4,G4,rs4,rg4,q4,kk.trans k4⟩,k.rt.base kG,fun σ4 G4 τ4 H4 q4 k4=>k.nx σ4 G4 τ4 H4 q4 (kG.trans k4),fun σ4 G4 τ4 H4 q4 k4 rg4 rs4=>⟨σ4,G4,rs4,rg4,q4,kk.trans k4⟩⟩⟩
     ·have e:i=ds.length:=by walk_at "o"
      refine .inl ⟨hstop e,k.nx σ' G' τ' H' (fin σ' G' (by rw[<- e];exact pv)) (k1.trans k') rg' rs'⟩
    cases d with
    | ref a=>
     obtain⟨ds,hg,Pv,p0,live,step,fin⟩:=q;refine⟨⟨ds,hg⟩,core ds _ Pv p0 (fun i σ' G' H' pv k' rg'=>?_) step fin⟩;obtain⟨xs,e1,r⟩:=uy rg' (live i σ' G' pv);have hl:=r.length;refine⟨fun hi=>⟨⟨xs,xs[i]'(by walk_at "o"),jw.of e1,by simp[show i < xs.length by walk_at "o"]⟩,fun x H2 y=>?_⟩,fun e=>⟨xs,jw.of e1,by walk_at "o"⟩⟩
     obtain⟨rfl,hx⟩:=y;refine⟨Kp.refl,rg',ds[i],by simp[hi],?_⟩
     obtain⟨y,e,q⟩:=r.get (i:=i) (d:=ds[i]) (by simp[hi])
     rw[hx xs (jw.of e1)]at e;cases e;exact q
    | lst ds=>
     obtain⟨Pv,p0,step,fin⟩:=q;exact⟨_,rfl,fun J it=>core _ J Pv p0 (fun i σ' G' H' _ k' rg'=>it i G' H' k' rg') step fin⟩
    | fl ds=>
     obtain⟨Pv,p0,step,fin⟩:=q;exact⟨_,rfl,fun J it=>core _ J Pv p0 (fun i σ' G' H' _ k' rg'=>it i G' H' k' rg') step fin⟩
    | tup ds=>
     obtain⟨Pv,p0,step,fin⟩:=q;exact⟨_,rfl,fun J it=>core _ J Pv p0 (fun i σ' G' H' _ k' rg'=>it i G' H' k' rg') step fin⟩
    | str z=>
     obtain⟨Pv,p0,step,fin⟩:=q;exact⟨_,rfl,fun J it=>core _ J Pv p0 (fun i σ' G' H' _ k' rg'=>it i G' H' k' rg') step fin⟩
    | _=>exact q.elim⟩)
def tS(c:qt)(tb:ck):ck:=fun E σ G=>∃ W:Nat->ff->Gp->Prop,(∃ m,W m σ G)/\∀ m σ' G',W m σ' G'->
 c σ' G' fun b G1=>if b=true then ∃ N:ff->Gp->Prop,(∀ σ2 G2,N σ2 G2->∃ m',m' < m/\W m' σ2 G2)/\tb { E with nx:=N,ct:=N,bk:=E.nx } σ' G1 else E.nx σ' G1
theorem Ck{X:Cx}{c:Oj}{body:List Op}{tc:qt}{tb:ck}{pos:Pos}(hp:Rm (N4 X.prog X.w) X.A X.env X.xe)(hc:PT X c (cU X.K tc))(hb:rE X body (cB X.K tb)):PS X (.While c body [] pos) (cB X.K (tS tc tb)):=
 (Ff hp hc hb).imp fun D τ H ⟨σ,G,D3,rs,rg,⟨W,⟨m0,w0⟩,turn⟩,k⟩=>by
  refine⟨fun m τ' H'=>∃ σ' G',RS X.K H' σ' τ'/\RG X.K H' G'/\W m σ' G'/\Kp G H G' H',⟨m0,σ,G,rs,rg,w0,Kp.refl⟩,?_⟩
  rintro m τ' H' ⟨σ',G',rs',rg',w',k'⟩
  refine⟨σ',G',_,rs',rg',turn m σ' G' w',fun b G1 H1 q k1 rg1=>?_⟩;cases b with
  | true=>
   rw[if_pos rfl]at q ⊢;obtain⟨N,hN,q⟩:=q;refine⟨fun τ2 H2=>∃ σ2 G2,RS X.K H2 σ2 τ2/\RG X.K H2 G2/\N σ2 G2/\Kp G H G2 H2,fun τ2 H2 ⟨σ2,G2,a,b,n,d⟩=>?_,?_⟩
   ·obtain⟨m',hm,w2⟩:=hN σ2 G2 n;exact⟨m',hm,σ2,G2,a,b,w2,d⟩
   ·have kG:=k'.trans k1;exact⟨σ',G1,_,rs'.mono (k1.stb rg'),rg1,q,⟨fun σ4 G4 τ4 H4 q4 k4 rg4 rs4=>⟨σ4,G4,rs4,rg4,q4,kG.trans k4⟩,k.rt.base kG,fun σ4 G4 τ4 H4 q4 k4=>k.nx σ4 G4 τ4 H4 q4 (kG.trans k4),fun σ4 G4 τ4 H4 q4 k4 rg4 rs4=>⟨σ4,G4,rs4,rg4,q4,kG.trans k4⟩⟩⟩
  | false=>
   rw[if_neg Bool.false_ne_true]at q ⊢;exact k.nx σ' G1 τ' H1 q (k'.trans k1) rg1 (rs'.mono (k1.stb rg'))
def fO:List Str->List D->Str->Option D
 | g::L,d::ds,f=>if g=f then some d else fO L ds f
 | _,_,_=>none
def jm(L:List Str)(f:Str):List Str:=match L with
 | []=>[f]
 | g::r=>if g=f then g::r else g::jm r f
def iw:List Str->List D->Str->D->List D
 | g::L,x::ds,f,d=>if g=f then d::ds else x::iw L ds f d
 | _,_,_,d=>[d]
section
variable{K:Sf}{H:Hp}
theorem uU:∀ {gs:List (Str×V)} {ds:List D} {f:Str} {d:D},RDs K H ds (gs.map (·.2))->fO (gs.map (·.1)) ds f=some d->∃ v,gs.lookup f=some v/\RD K H d v
 | [],ds,f,d,r,e=>by simp[fO]at e
 | (g,u)::t,ds,f,d,r,e=>by
  cases ds with
  | nil=>simp[fO]at e
  | cons x ds=>
   obtain⟨y,q,e1,h1,h2⟩:=r.inv_cons;rw[Od,List.cons.injEq]at e1;obtain⟨rfl,e1⟩:=e1;simp only[Od,fO]at e;split at e
   ·rename_i hg;cases e;subst hg;exact⟨u,by rw[O7,beq_self_eq_true],h1⟩
   ·rename_i hg;obtain⟨v,e2,h3⟩:=uU (gs:=t) (by rw[e1];exact h2) e
    exact⟨v,by rw[O7,show (f == g)=false by simpa using Ne.symm hg];exact e2,h3⟩
theorem zG:∀ {gs:List (Str×V)} {f:Str} {v:V},(fA f v gs).map (·.1)=jm (gs.map (·.1)) f
 | [],f,v=>rfl
 | (g,u)::t,f,v=>by
  simp only[fA,Od,jm];split
  ·rename_i hg;simp[hg]
  ·simp[zG (gs:=t)]
theorem zH:∀ {gs:List (Str×V)} {ds:List D} {f:Str} {v:V} {d:D},RDs K H ds (gs.map (·.2))->RD K H d v->RDs K H (iw (gs.map (·.1)) ds f d) ((fA f v gs).map (·.2))
 | [],ds,f,v,d,r,h=>by
  have:iw ([]:List Str) ds f d=[d]:=by unfold iw;rfl
  exact RDs.cons h RDs.nil
 | (g,u)::t,ds,f,v,d,r,h=>by
  cases ds with
  | nil=>exact absurd r.length (by simp)
  | cons x ds=>
   obtain⟨y,q,e1,h1,h2⟩:=r.inv_cons;rw[Od,List.cons.injEq]at e1;obtain⟨rfl,e1⟩:=e1;simp only[fA,Od,iw];split
   ·rename_i hg;subst e1;exact RDs.cons h h2
   ·exact RDs.cons h1 (zH (gs:=t) (by rw[e1];exact h2) h)
end
def bH(cs:List NR)(f:Str)(to:bG):bG:=fun σ G Q=>to σ G fun x G1=>match x with
 | .ref a=>match G1 a with
  | some (.ins C L ds)=>C∈cs/\match fO L ds f with
   | some d=>Q d G1
   | none=>False
  | _=>False
 | _=>False
def ik(cs:List NR)(f:Str)(to tv:bG):ck:=fun D σ G=>tv σ G fun d G1=>to σ G1 fun x G2=>match x with
 | .ref a=>match G2 a with
  | some (.ins C L ds)=>(C∈cs/\L.length < 1000)/\D.nx σ (gset G2 a (.ins C (jm L f) (iw L ds f (val d))))
  | _=>False
 | _=>False
def d8(cs:List (NR×c5))(m:Str)(dds:List D)(to:bG)(ta:nH):bG:=fun σ G Q=>to σ G fun x G1=>match x with
 | .ref a=>match G1 a with
  | some (.ins C L _)=>m∉L/\∃ sp,(C,sp)∈cs/\ta σ G1 fun ds G2=>sp (.ref a::(ds ++ dds)) G2 Q
  | _=>False
 | _=>False
section
variable{X:Cx}{o e:Oj}{es:List Oj}{to te:bG}{t:nH}{pos apos:Pos}{k:Nat}{m:Str}{dds:List D}{sp:c5}
theorem b8{f:Str}{cs:List NR}(tab:∀ C∈cs,Cls X.K C/\cY X.K C f)(ho:PE X o (aB X.K to))(hb:Pk o f X.env (eval o X.env)=eval o X.env:=by rfl):PE X (.Attribute o f pos) (aB X.K (bH cs f to)):=
 (Fs ho hb).imp fun τ H Q zz=>by
 obtain⟨σ,G,Q3,rs,rg,h,kk⟩:=zz;exact (
  ⟨σ,G,_,rs,rg,h,fun d G1 v H1 q k1 rg1 re=>by
    cases d with
    | ref a=>
     dsimp only at q;split at q
     ·rename_i C L ds hg;obtain⟨hc,q⟩:=q;split at q
      ·rename_i d hd;obtain⟨ho,e1,ro⟩:=rg1 a _ hg;cases ho with
       | ins C2 dx gs=>
        obtain⟨rfl,r2,r3⟩:=ro;subst r2;obtain⟨w,hw,rd⟩:=uU r3 hd;exact⟨a,_,dx,gs,w,re.ref,e1,(tab _ hc).1,(tab _ hc).2,hw,kk _ G1 _ H1 q k1 rg1 (.of rd)⟩
       | _=>exact ro.elim
      ·exact q.elim
     ·exact q.elim
    | _=>exact q.elim⟩)
theorem iu{f:Str}{cs:List NR}{pos':Pos}(tab:∀ C∈cs,Cls X.K C/\cY X.K C f)(ho:PE X o (aB X.K to))(hv:PE X e (aB X.K te))(hs:PQ e (some (.Attribute o f pos')) pos.line X.env=pure false:=by rfl):
  PS X (.Assign [.Attribute o f pos'] e pos) (cB X.K (ik cs f to te)):=
 (Bk ho (d4 hv) hs).imp fun Dd τ H zz=>by
 obtain⟨σ,G,D3,rs,rg,h,kk⟩:=zz;exact (
  ⟨σ,G,_,rs,rg,h,fun d G1 v H1 q1 k1 rg1 rd=>⟨σ,G1,_,rs.mono (k1.stb rg),rg1,q1,fun x G2 u H2 q2 k2 rg2 re=>by
    cases x with
    | ref a=>
     dsimp only at q2;split at q2
     ·rename_i C L ds hg;obtain⟨⟨hc,hl⟩,q2⟩:=q2;obtain⟨ho,e1,ro⟩:=rg2 a _ hg;cases ho with
      | ins C2 dx gs=>
       obtain⟨rfl,r2,r3⟩:=ro;subst r2;have rd2:=RD.mono (k2.stb rg1) _ _ rd;obtain⟨kp,rg3⟩:=Bj (gs':=fA f v gs) (L':=jm (gs.map (·.1)) f) (ds':=iw (gs.map (·.1)) ds f (val d)) rg2 e1 zG (zH r3 rd2) (by rw[hg];exact fun z=>nomatch z)
       exact⟨a,_,dx,gs,re.ref,e1,(tab _ hc).1,(tab _ hc).2,by simpa using hl,kk.nx _ _ _ _ q2 ((k1.trans k2).trans kp) rg3 (rs.mono ((((k1.trans k2).trans kp)).stb rg))⟩
      | _=>exact ro.elim
     ·exact q2.elim
    | _=>exact q2.elim⟩⟩)
theorem gw{pl:Sem Bool}{cs:List (NR×c5)}(tab:∀ c∈cs,∃ k',k'<=k/\Mt3 X.prog X.w X.K X.mg X.base k' c.1 m dds c.2)(hr:Room k X.A)(ho:PE X o (aB X.K to))
  (ht:eval (.Call (.Attribute o m apos) [] [] pos) X.env=(do
   let ov <- eval o X.env
   Qw apos.atName
   let (f,first) <- holding [ov] (QB ov m pl)
   RH pos f first (OW pos (N5 [] X.env)) (Qq pos (Ps [] X.env))):=by rfl):
  PE X (.Call (.Attribute o m apos) [] [] pos) (aB X.K (d8 cs m dds to au)):=by
 rintro pins s τ H Q I ⟨σ,G,Q3,rs,rg,h,kk⟩
 refine QO (pl:=pl) (cz (dN ho I rs rg h) fun u s1 zz=>?_) ht;obtain⟨x,H1,I1,rx,d,G1,q,k1,rg1,rd⟩:=zz;cases d with
 | ref a=>
  simp only[val,RD]at rd;subst rd;obtain rfl:u=Value.ref a:=rx;dsimp only at q;split at q
  ·rename_i C L ds hg;obtain⟨hL,sp,hc,q⟩:=q;obtain⟨k',hk,F⟩:=tab _ hc;obtain⟨f,fd,ps,ds',dvs,ok,hm,hb,hv,hd⟩:=F.ex;obtain⟨ho,e1,ro⟩:=rg1 a _ hg;cases ho with
   | ins C2 dx gs=>
    obtain⟨rfl,r2,r3⟩:=ro;refine ou I1 e1 F.cl hm (qS (K:=X.K) r2 hL) ?_;exact PySem.W.callWith_K0 (first:=[.ref a]) I1.kIn hm.kp (tT (us:=[.ref a]) (vs:=[.ref a]) ok (hr.mono hk) hb hv wL I1 (.cons rfl .nil) ⟨.ref a::([] ++ dds),G1,Q3,RDs.cons gM (hd H1),rg1,q,kk.base k1⟩)
   | _=>exact ro.elim
  ·exact q.elim
 | _=>exact q.elim
structure Cf3(P:N_)(w:Og)(K:Sf)(mg:Str->Option NO)(base:Of)(k:Nat)(x m:Str)(dds:List D)(sp:c5):Prop where
 ex:∃ C f fd ps ds dvs,FnOk P w K mg base vy k f fd ps (cD K sp)/\mg x=some (.ref C)/\Uq K (.ref C) "__getattribute__"=some (some (.builtin "type.__getattribute__"))/\PySem.W.readsIn K C (.type "type")=true/\
  PySem.W.findCls K (.ref C) (.type "type") m=some (.val (.ref f))/\Sz K (.ref f)=true/\gJ K fd ps ds/\Vals dvs ds/\∀ H,RDs K H dds dvs
theorem mC{pl:Sem Bool}{x:Str}{p:Pos}(F:Cf3 X.prog X.w X.K X.mg X.base k x m dds sp)(hr:Room k X.A)(hg:Gl X x)(ha:PA X (e::es) (eK X.K t))(hdb:(x == ("__debug__":Str))=false:=by decide)
  (hst:N5 (e::es) X.env=(false,eval e X.env)::N5 es X.env:=by rfl) (hpl:(OW pos (N5 es X.env)).any (·.1)=false:=by rfl)
  (ht:eval (.Call (.Attribute (.Name x p) m apos) (e::es) [] pos) X.env=(do
   let ov <- eval (.Name x p) X.env
   Qw apos.atName
   let (f,first) <- holding [ov] (QB ov m pl)
   RH pos f first (OW pos (N5 (e::es) X.env)) (Qq pos (Ps [] X.env))):=by rfl):
  PE X (.Call (.Attribute (.Name x p) m apos) (e::es) [] pos) (aB X.K (aK sp dds t)):=by
 obtain⟨C,f,fd,ps,ds,dvs,ok,hm,hga,hrd,hfc,hk,hb,hv,hd⟩:=F.ex;intro pins s τ H Q I h;refine QO (pl:=pl) (cz (Cq (v:=.ref C) hg hm rfl hdb pins s τ H (fun v H1=>v=.ref C/\H1=H) I ⟨rfl,rfl⟩) fun u s1 zz=>?_) ht;obtain⟨v,H1,I1,rx,e1,e2⟩:=zz;subst e1 e2;obtain rfl:u=Value.ref C:=rx;refine PySem.W.method_cls I1.kIn hga (PySem.W.cls_value I1.kIn hrd hfc rfl ?_);have I2:=I1.tok (s1.toks+1);obtain⟨σ,G,Q3,rs,rg,h,kk⟩:=h;refine Ru (first:=[]) (h₀:=X.base) I.ok.mod.kin hk (cz (ha pos pins _ τ H1 (fun vs H2=>∃ ds G1,sp (ds ++ dds) G1 Q3/\Kp G H1 G1 H2/\RG X.K H2 G1/\RDs X.K H2 ds vs) I2 ⟨σ,G,_,rs,rg,h,fun ds G1 vs H2 q k1 rg1 rds=>⟨ds,G1,q,k1,rg1,rds⟩⟩) fun us s2 ⟨vs,H2,I3,r,ds1,G1,q2,k1,rg1,rds⟩=>⟨I3.kIn,?_⟩) hst hpl
 exact tT (us:=us) (vs:=vs) ok hr hb hv wL I3 r ⟨ds1 ++ dds,G1,Q3,rds.append (hd _),rg1,q2,kk.base k1⟩
end
end L3
theorem L3.all_cons{α:Type}{p:α->Prop}{a:α}{l:List α}(h:p a)(t:∀ x∈l,p x):∀ x∈a::l,p x:=fun x hx=>by
 rcases Oz.mp hx with rfl|hx
 ·exact h
 ·exact t x hx
namespace L3
open PySem PySem.Spec PyProof.Rows L2 PySem.SeqAt PySem.W
def qd:D->Bool
 | .non=>true
 | _=>false
def Ks:R3:=fun x y G Q=>match y with
 | .non=>Q (.bl (qd x)) G
 | _=>False
def uq:R3:=fun x y G Q=>match y with
 | .non=>Q (.bl (!qd x)) G
 | _=>False
section
variable{X:Cx}
theorem EZ{K:Sf}{G0 G:Gp}{H0 H:Hp}{x:D}{v:V}{u:NO}(r:RE K G0 H0 G H x v)(l:aF v u):(u == Value.none)=qd x:=by
 cases x with
 | non=>rw[r.non]at l;cases l;rfl
 | fl ds=>
  obtain⟨p,xs,rfl,_⟩:=r.fl;cases l;rfl
 | lst ds=>
  obtain⟨a,xs,rfl,_⟩:=r.lst;cases l;rfl
 | tup ds=>
  obtain⟨a,xs,rfl,_⟩:=r.tup;cases l;rfl
 | int i=>rw[r.int]at l;obtain⟨t,rfl⟩:=l;rfl
 | str i=>rw[r.str]at l;obtain⟨t,rfl⟩:=l;rfl
 | bl i=>rw[r.bl]at l;cases l;rfl
 | ref a=>rw[r.ref]at l;cases l;rfl
 | ty T=>
  have:=r.rd (by intro ds z;cases z)
  simp only[RD]at this;subst this;cases l;rfl
theorem JF:ig X (Oy .IsNot) (dO X.K uq):=by
 rintro pins s σ H v u v' u' Q I rv ru ⟨x,y,G0,H0,G,Q3,rx,ry,rg,h,k⟩
 unfold uq at h;split at h
 ·rw[ry.non]at ru;cases ru;refine isnot_none_gen ?_;rw[EZ rx rv];exact⟨.bl _,H,I,rfl,k _ G _ H h Kp.refl rg (.of im)⟩
 ·exact h.elim
end
section
variable{X:Cx}{o i:Oj}{to ti:bG}{pos:Pos}
theorem Bn(hu:X.A.units+8 < OL)(hi:PE X i (aB X.K ti))(ho:PE X o (aB X.K to))(hm:OT .In o=false:=by rfl):PT X (.Compare i [.In] [o] pos) (cU X.K (cj (u8 (aH X.prog X.w) ti to))):=by
 refine (Fc (op:=.In) (t:=aB X.K (u8 (aH X.prog X.w) ti to)) (fun pins s τ H Q I ⟨σ,G,Q3,rs,rg,h,k⟩=>?_) hm).imp fun τ H Q h=>xq h;refine cz (dN hi I rs rg h) fun iv s1 zz=>?_;obtain⟨iy,H1,I1,riy,y,G1,q1,k1,rg1,rd1⟩:=zz;refine cz (dN ho I1 (rs.mono (k1.stb rg)) rg1 q1) fun ov s2 zz=>?_;obtain⟨ox,H2,I2,rox,x,G2,q2,k2,rg2,rd2⟩:=zz;obtain⟨r,l,q2⟩:=q2;exact Jy (by walk_at "o") I2 rg2 l rd2 rox (RD.mono (k2.stb rg1) _ _ rd1) riy fun s3 I3=>⟨.bl r.isSome,H2,I3,rfl,k _ G2 _ H2 q2 (k1.trans k2) rg2 (.of im)⟩
theorem wM(hu:X.A.units+8 < OL)(hi:PE X i (aB X.K ti))(ho:PE X o (aB X.K to))(hm:OT .NotIn o=false:=by rfl):PT X (.Compare i [.NotIn] [o] pos) (cU X.K (cj (f9 (aH X.prog X.w) ti to))):=by
 refine (Fc (op:=.NotIn) (t:=aB X.K (f9 (aH X.prog X.w) ti to)) (fun pins s τ H Q I ⟨σ,G,Q3,rs,rg,h,k⟩=>?_) hm).imp fun τ H Q h=>xq h;refine cz (dN hi I rs rg h) fun iv s1 zz=>?_;obtain⟨iy,H1,I1,riy,y,G1,q1,k1,rg1,rd1⟩:=zz;refine cz (dN ho I1 (rs.mono (k1.stb rg)) rg1 q1) fun ov s2 zz=>?_;obtain⟨ox,H2,I2,rox,x,G2,q2,k2,rg2,rd2⟩:=zz;obtain⟨r,l,q2⟩:=q2;exact Ge (by walk_at "o") I2 rg2 l rd2 rox (RD.mono (k2.stb rg1) _ _ rd1) riy fun s3 I3=>⟨.bl (!r.isSome),H2,I3,rfl,k _ G2 _ H2 q2 (k1.trans k2) rg2 (.of im)⟩
end
def u7(hw:List aD->Int)(tk tv:bG):bG:=fun σ G Q=>∀ p,G p=none->tk σ (gset G p (.dT hw [])) fun x G1=>tv σ G1 fun y G2=>match G2 p with
 | some (.dT hw' [])=>hw'=hw/\∃ ks,lY (val x)=some ks/\Q (.ref p) (gset G2 p (.dT hw [(ks,val y)]))
 | _=>False
section
variable{X:Cx}{pos:Pos}
theorem HS{k v:Oj}{tk tv:bG}(hu:X.A.units+8 < OL)(hk:PE X k (aB X.K tk))(hv:PE X v (aB X.K tv)):PE X (.Dict [some k] [v] pos) (aB X.K (u7 (aH X.prog X.w) tk tv)):=fun pins s τ H Q I zz=>by
 obtain⟨σ,G,Q3,rs,rg,h,kk⟩:=zz;have hf:H s.heap.objs.size=none:=I.hok.fresh (le_refl _);obtain⟨kp,rg2⟩:=Iw (o:=.dT (aH X.prog X.w) []) (ho:=.ext (yX (aH X.prog X.w) s.heap.objs.size [])) rg hf fun H' _=>⟨[],rfl,.nil,RM,OD _⟩;have hd:(s.heap.objs.size == OK)=false:=beq_eq_false_iff_ne.mpr (Ne.symm (Oq I.big));have I1:=I.laid (a:=s.heap.objs.size) (t':=s.toks) (fun _ _ q=>NT _ q) (le_refl _) (rq (P:=X.prog) (w:=X.w) (hw:=aH X.prog X.w) (xs:=[]) ⟨hd,_,#[],0,NW (h:=s.heap) (o:={ cls:=.type "dict",data:=.dict #[] }) rfl,⟨rfl,rfl,rfl⟩,rfl,rfl⟩);refine wpAny_Dict_any (by rfl) (by rfl) (by simp) (by simp) ?_
 refine pairTrees_cons_walk (cz (dN hk I1 (rs.mono (kp.stb rg)) rg2 (h _ (rg.free hf))) fun kv s1 zz=>?_);obtain⟨ox,H1,I2,rox,x,G1,q1,k1,rg1,rd1⟩:=zz;refine cz (dN hv I2 (rs.mono ((kp.trans k1).stb rg)) rg1 q1) fun vv s2 zz=>?_;obtain⟨oy,H2,I3,roy,y,G2,q2,k2,rgb,rd2⟩:=zz;refine pairTrees_nil_walk ?_;unfold storeAll;rw[Qc];split at q2
 ·rename_i hw' hg;obtain⟨rfl,ks,hks,q2⟩:=q2;have Ua:=RD.mono (k2.stb rg1) _ _ rd1;obtain⟨b,rfl,sq⟩:=qc hks Ua;cases rox;obtain⟨ho,e,r⟩:=rgb _ _ hg;cases ho with
  | ext φ=>
   obtain⟨xs,rfl,rt,nd,_⟩:=r;have e0:xs=[]:=by
    have:=rt.length;exact List.length_eq_zero_iff.mp this.symm
   subst e0;obtain⟨hd2,dd⟩:=tu I3 e rt nd;refine NN (NN (S0 (hsz:=OD _) (show X.A.units < OL by walk_at "o") (key_at I3 sq) dd fun h' dd' hs=>NQ ?_))
   dsimp only;rw[QU];refine NQ ?_;obtain⟨q,es,ep,hq,h2,h3,h4,_,h5⟩:=dd';obtain⟨kp3,rg3⟩:=yC (a:=s.heap.objs.size) (o:=.dT (aH X.prog X.w) (bS [] ks (val y))) (ho:=.ext (yX (aH X.prog X.w) s.heap.objs.size (Rj [] ks b vv))) rgb (by rw[hg];exact fun z=>nomatch z)
    fun H' st=>⟨_,rfl,(rt.put ks sq rd2 roy).mono st,nY ks (val y) nd,by have:=fq ([]:List (List aD×D)) ks (val y);have hs:=ah;simp only[OB]at this;omega⟩
   exact⟨.ref _,_,tx I3 (by rw[e];exact True.intro) hs ⟨q,hq⟩ (rq ⟨hd2,q,es,ep,hq,h2,h3,h4⟩),rfl,kk _ _ _ _ q2 (kp.trans (k1.trans (k2.trans kp3))) rg3 (.of gM)⟩
  | _=>exact r.elim
 ·exact q2.elim
end
def F0(x:D):List D->Nat
 | []=>0
 | d::r=>if d6 d x then 0 else F0 x r+1
def BM(to:bG)(ta:nH):bG:=fun σ G Q=>to σ G fun x G1=>match x with
 | .lst ds=>ta σ G1 fun es G2=>match es with
  | [y]=>(pl 7 y/\(∀ d∈ds,pl 7 d)/\y∈ds)/\Q (.int (F0 y ds)) G2
  | _=>False
 | _=>False
def BL(sp:c5)(to:bG):bG:=fun σ G Q=>to σ G fun x G1=>match wg G1 (val x) with
 | some ds=>∃ ks r,SortBy sp G1 ds ks r/\∀ p:List Nat,p.Perm (List.range ds.length)->(p.map r).Pairwise (·<=·)->Q (.fl (p.map fun i=>ds.getD i .non)) G1
 | none=>False
section
variable{X:Cx}{pins:List (NR×Obj)}{τ:St}{H H0:Hp}{s:NP}{G:Gp}{E:NO->NP->Prop}
 {k:Nat} {f:NR} {fd:O4} {ps:List Str} {sp:c5} {ds ks:List D} {r:Nat->Nat} {vs:List V} {us:List NO}
end
def tm(c:Bool):Nat:=if c then 31 else 7
def Tb(c:Bool)(pl:Array Nat)(led plain:Bool):Sa:={ mask:=tm c,place:=pl,dummies:=#[],finger:=0,led:=led,moves:=if c then 1 else 0,plain:=plain }
abbrev Pb:=SetTable.Probe
def fm(m i:Nat):Nat:=(i*5+1) % (m+1)
def look(c:Bool)(pl:Array Nat)(hs:Nat->Int)(same:Nat->Bool)(h:Int):Nat->Pb->Option (Option Nat)
 | 0,_=>none
 | f+1,p=>match (Tb c pl false false).probe hs h p with
  | none=>none
  | some (.empty j _)=>some (some j)
  | some (.candidate _ i next)=>if same i then some none else look c pl hs same h f next
def Lz(es:Array (Int×NO))(ep:Nat)(t:Sa):Obj:={ cls:=.type "set",dict:=none,data:=.set es ep t }
def vj(h:Of)(b:NR):Prop:=∃ o items n x t r,h.get? b=some o/\o.cls=.type "tuple"/\o.data=.seq items n/\items.toList=.str x t::r
section
variable{prog:N_}{w:Og}{κ:Type}[DecidableEq κ]{kn:KeyKind prog w κ}{A:Oc}{E:NO->NP->Prop}{s:NP}{a b:NR}
abbrev hK(kn:KeyKind prog w κ):List κ->Int:=tupleKeyHash kn
def M_(kn:KeyKind prog w κ)(xs:List (List κ×NR)):Array (Int×NO):=(xs.map fun x=>(hK kn x.1,Value.ref x.2)).toArray
end
section
variable{prog:N_}{w:Og}{κ:Type}[DecidableEq κ]{kn:KeyKind prog w κ}{A:Oc}{E:NO->NP->Prop}{s:NP}{a b:NR}
structure SetIs(kn:KeyKind prog w κ)(h:Of)(a:NR)(xs:List (List κ×NR))(c:Bool)(pl:Array Nat)(l q:Bool):Prop where
 here:∃ ep,h.get? a=some (Lz (M_ kn xs) ep (Tb c pl l q))
 len:pl.size=xs.length
 pq:q=true->xs=[]
end
section
variable{prog:N_}{w:Og}{κ:Type}[DecidableEq κ]{kn:KeyKind prog w κ}{A:Oc}{E:NO->NP->Prop}{s:NP}{a b:NR}
theorem vj.stay{h h':Of}(x:vj h a)(e:∀ o,h.get? a=some o->h'.get? a=some o):vj h' a:=by
 obtain⟨o,its,n,y,t,r,ho,z⟩:=x;exact⟨o,its,n,y,t,r,e o ho,z⟩
theorem SetIs.stay{h h':Of}{xs:List (List κ×NR)}{c:Bool}{pl:Array Nat}{l q:Bool}(x:SetIs kn h a xs c pl l q)(e:∀ o,h.get? a=some o->h'.get? a=some o):SetIs kn h' a xs c pl l q:=
 ⟨let ⟨ep,z⟩:=x.here;⟨ep,e _ z⟩,x.len,x.pq⟩
end
set_option maxRecDepth 100000
def ND(first:NO)(i n ep:Nat)(S:NR):Obj:={ cls:=.type "set_iterator",data:=.fields #[first,.int i 0,.ref S,.int n 0,.int ep 0] }
inductive Mode(w:Og)(h:Of)(S:NR)(es:Array (Int×NO))(ep:Nat)(t:Sa)(vs:List NO)(tp:NR)(i:Nat):NO->Prop
 | text (m:Int):w.params.followText "set-order"=true->vs=(pickOrder (w.params.setOrder S ep) es).toList.map (·.2)->Mode w h S es ep t vs tp i (.int m 0)
 | few (m:Nat):w.params.followText "set-order"=false->t.led=true->es.size<=1->vs=es.toList.map (·.2)->(i=0/\m=0\/i=1/\t.place=#[m - 1]/\0 < m)->Mode w h S es ep t vs tp i (.int m 0)
 | drawn (ys:List Nat):w.params.followText "set-order"=false->h.get? tp=some { cls:=.type "tuple",data:=.seq (ys.map fun (y:Nat)=>PN y).toArray }->ys.Perm (List.range es.size)->vs=ys.map (fun y=>(es[y]?.map (·.2)).getD .none)->tp≠S->Mode w h S es ep t vs tp i (.ref tp)
structure SIt(w:Og)(h:Of)(it S:NR)(es:Array (Int×NO))(ep:Nat)(t:Sa)(vs:List NO)(tp:NR)(i:Nat):Prop where
 set:h.get? S=some (Lz es ep t)
 fit:t.fits es.size=true
 here:∃ first,h.get? it=some (ND first i es.size ep S)/\Mode w h S es ep t vs tp i first
set_option maxRecDepth 100000
section
variable{prog:N_}{w:Og}{A:Oc}{E:NO->NP->Prop}{s:NP}{it S tp:NR}{es:Array (Int×NO)}{ep i:Nat}{t:Sa}{vs:List NO}
theorem SIt.stay{h h':Of}(x:SIt w h it S es ep t vs tp i)(k:∀ b,b=it\/b=S\/b=tp->∀ o,h.get? b=some o->h'.get? b=some o):SIt w h' it S es ep t vs tp i:=by
 obtain⟨hs,hf,first,e1,md⟩:=x
 refine⟨k S (.inr (.inl rfl)) _ hs,hf,first,k it (.inl rfl) _ e1,?_⟩
 cases md with
 | text m hb ev=>exact .text m hb ev
 | few m hb hl hz ev hm=>exact .few m hb hl hz ev hm
 | drawn ys hb et hp ev hts=>exact .drawn ys hb (k tp (.inr (.inr rfl)) _ et) hp ev hts
end
set_option maxRecDepth 100000
set_option maxRecDepth 100000
def prD(x:Str×Int):D:=.tup [.str x.1,.int x.2]
def LR(a b:Str×Int):Bool:=if a.1=b.1 then decide (a.2 < b.2)else decide (a.1.cps.toList < b.1.cps.toList)
theorem xu:STO (fun a b:List Nat=>decide (a < b)):=by
 have e:(fun a b:List Nat=>decide (a < b))=uA xV:=by funext a b;exact (pX a b).symm
 rw[e];exact xY xU
theorem J5:STO LR where
 irrefl:=fun a=>by simp[LR]
 trans:=fun a b c h1 h2=>by
  unfold LR at *
  by_cases p1:a.1=b.1
  ·rw[if_pos p1]at h1
   by_cases p2:b.1=c.1
   ·rw[if_pos p2]at h2;rw[if_pos (p1.trans p2)];simp only[decide_eq_true_eq]at *
    omega
   ·rw[if_neg p2]at h2;rw[p1,if_neg p2];exact h2
  ·rw[if_neg p1]at h1
   by_cases p2:b.1=c.1
   ·rw[<- p2,if_neg p1];exact h1
   ·rw[if_neg p2]at h2;have h3:=xu.trans _ _ _ h1 h2;rw[if_neg (fun e=>by rw[e,xu.irrefl]at h3;cases h3)]
    exact h3
 tot:=fun a b h1 h2=>by
  unfold LR at *
  by_cases p1:a.1=b.1
  ·rw[if_pos p1]at h1;rw[if_pos p1.symm]at h2;simp only[decide_eq_false_iff_not]at *
   exact Prod.ext p1 (by walk_at "o")
  ·rw[if_neg p1]at h1;rw[if_neg (Ne.symm p1)]at h2;have e:a.1.cps=b.1.cps:=Array.toList_inj.mp (xu.tot _ _ h1 h2);refine absurd ?_ p1;cases h:a.1;cases h':b.1;rw[h,h']at e;simp only at e;rw[e]
def Srt(l:List (Str×Int)):Prop:=l.Pairwise fun a b=>LR b a=false
theorem srt_uniq:∀ {L M:List (Str×Int)},L.Perm M->Srt L->Srt M->L=M
 | [],M,p,_,_=>(List.nil_perm.mp p).symm
 | a::L,[],p,_,_=>absurd p.length_eq (by simp)
 | a::L,b::M,p,h1,h2=>by
  unfold Srt at h1 h2;rw[List.pairwise_cons]at h1 h2;have e:a=b:=by
   rcases Oz.mp (p.mem_iff.mp N3)with e|m1
   ·exact e
   ·rcases Oz.mp (p.mem_iff.mpr N3)with e|m2
    ·exact e.symm
    ·exact J5.tot _ _ (h2.1 a m1) (h1.1 b m2)
  subst e;rw[srt_uniq ((List.perm_cons a).mp p) h1.2 h2.2]
structure InsAsk(K:Sf)(C:NR):Prop where
 cl:Cls K C
 ca:ST K (.ref C) "__class__"=some (some (.builtin "object.__class__"))
 gs:Uq K (.builtin "object.__class__") "__get__"=some (some (.builtin "getset_descriptor.__get__"))
 tk:Tf K (.builtin "object.__class__")=some true
 mo:R7 K C (.type "object")=some true
def oz(cs:List (NR×Bool))(c:NR):CW:=fun ds G Q=>match ds with
 | [.ref a,.ref c']=>c'=c/\match G a with
  | some (.ins C _ _)=>∃ b,(C,b)∈cs/\Q (.bl b) G
  | _=>False
 | _=>False
theorem um{X:Cx}{nm:Str}{C:NR}{pos:Pos}(hg:Gl X nm)(hm:X.mg nm=some (.ref C))(hd:(nm == ("__debug__":Str))=false:=by decide):PE X (.Name nm pos) (aB X.K (eC (.ref C))):=Cs (v:=.ref C) hg hm rfl (fun _=>by simp only[RD]) hd
theorem Ay{X:Cx}{cs:List (NR×Bool)}{c:NR}(tab:∀ p∈cs,InsAsk X.K p.1/\OZ X.K (.ref p.1) (.ref c)=some p.2):eV X (.builtin "isinstance") (pW X.K (oz cs c)):=by
 rintro pins s σ H vs us Q I rv ⟨ds,G,Q3,rds,rg,h,kk⟩
 unfold oz at h;split at h
 ·rename_i a c';obtain⟨rfl,h⟩:=h;split at h
  ·rename_i C L es hg;obtain⟨b,hb,hq⟩:=h;obtain⟨v,t,e,h1,h2⟩:=rds.inv_cons;obtain⟨u2,e2,h3⟩:=fb h2;simp only[RD]at h1 h3;subst e e2 h1 h3;obtain⟨u,w',rfl,ru,rw'⟩:=Jb rv;cases ru;cases rw';obtain⟨ho,e1,ro⟩:=rg a _ hg;cases ho with
   | ins C2 dx gs=>
    obtain⟨rfl,r2,r3⟩:=ro;obtain⟨t1,t2⟩:=tab _ hb;exact DI (x:=V.ref a) I rfl (TyOf.ins e1 t1.cl t1.ca t1.gs t1.tk t1.mo) t2 fun tk=>⟨.bl _,H,I.tok tk,rfl,kk _ G _ H hq Kp.refl rg (.of im)⟩
   | _=>exact ro.elim
  ·exact h.elim
 ·exact h.elim
end L3
namespace RQ
open PySem PySem.Spec PyProof.Rows L2 L3
structure Rw where
 pen:Str
 num:Int
 time:Int
 act:D
instance:Inhabited Rw:=⟨⟨"",0,0,.non⟩⟩
def Rw.d(r:Rw):D:=.tup [.tup [.str r.pen,.int r.num],.int r.time,r.act]
def Rw.key(r:Rw):D:=.tup [.int r.time,.tup [.str r.pen,.int r.num]]
def Rw.ok(r:Rw):Prop:=pl 4 r.act
def Rw.lt(a b:Rw):Bool:=if a.time=b.time then (if a.pen=b.pen then decide (a.num < b.num)else decide (a.pen.cps.toList < b.pen.cps.toList))else decide (a.time < b.time)
def fk(rs:List Rw):Prop:=rs.Pairwise fun a b=>a.lt b=true
def mr(a b:Rw):Prop:=¬ (a.pen=b.pen/\a.num=b.num)
def mM(rs:List Rw):Prop:=∀ a∈rs,∀ b∈rs,a.pen=b.pen->a.num=b.num->a=b
abbrev HW:=List aD->Int
open PySem.W (SWO STO uA xV xU xY pX rankIn rank_lt)
theorem yK:STO (fun a b:List Nat=>decide (a < b)):=by
 have e:(fun a b:List Nat=>decide (a < b))=uA xV:=by funext a b;exact (pX a b).symm
 rw[e];exact xY xU
theorem II{x y:Str}(h:x.cps.toList=y.cps.toList):x=y:=by
 cases x;cases y;simp only at h;rw[Array.toList_inj.mp h]
theorem lt_irrefl(a:Rw):a.lt a=false:=by simp[Rw.lt]
theorem lt_trans(a b c:Rw)(h1:a.lt b=true)(h2:b.lt c=true):a.lt c=true:=by
 unfold Rw.lt at *
 by_cases e1:a.time=b.time
 ·rw[if_pos e1]at h1
  by_cases e2:b.time=c.time
  ·rw[if_pos e2]at h2;rw[if_pos (e1.trans e2)]
   by_cases p1:a.pen=b.pen
   ·rw[if_pos p1]at h1
    by_cases p2:b.pen=c.pen
    ·rw[if_pos p2]at h2;rw[if_pos (p1.trans p2)];simp only[decide_eq_true_eq]at *
     omega
    ·rw[if_neg p2]at h2;rw[p1,if_neg p2];exact h2
   ·rw[if_neg p1]at h1
    by_cases p2:b.pen=c.pen
    ·rw[<- p2,if_neg p1];exact h1
    ·rw[if_neg p2]at h2;have h3:=yK.trans _ _ _ h1 h2;rw[if_neg (fun e=>by rw[e,yK.irrefl]at h3;cases h3)]
     exact h3
  ·rw[if_neg e2]at h2;rw[e1,if_neg e2];exact h2
 ·rw[if_neg e1]at h1
  by_cases e2:b.time=c.time
  ·rw[<- e2,if_neg e1];exact h1
  ·rw[if_neg e2]at h2;simp only[decide_eq_true_eq]at *
   rw[if_neg (by walk_at "o")]
   simp only[decide_eq_true_eq];omega
theorem FL(a b:Rw)(h1:a.lt b=false)(h2:b.lt a=false):a.pen=b.pen/\a.num=b.num/\a.time=b.time:=by
 unfold Rw.lt at *
 by_cases e1:a.time=b.time
 ·rw[if_pos e1]at h1;rw[if_pos e1.symm]at h2
  by_cases p1:a.pen=b.pen
  ·rw[if_pos p1]at h1;rw[if_pos p1.symm]at h2;simp only[decide_eq_false_iff_not]at *
   exact⟨p1,by walk_at "o",e1⟩
  ·rw[if_neg p1]at h1;rw[if_neg (Ne.symm p1)]at h2;exact absurd (II (yK.tot _ _ h1 h2)) p1
 ·rw[if_neg e1]at h1;rw[if_neg (Ne.symm e1)]at h2;simp only[decide_eq_false_iff_not]at *
  omega
theorem FM{a b:Rw}(h:a.lt b=true):b.lt a=false:=by
 cases e:b.lt a with
 | false=>rfl
 | true=>have:=lt_trans _ _ _ h e;rw[lt_irrefl]at this;cases this
theorem Ij{a b c:Rw}(p:a.pen=b.pen)(n:a.num=b.num)(t:a.time=b.time):a.lt c=b.lt c/\c.lt a=c.lt b:=by
 unfold Rw.lt;rw[p,n,t];exact⟨rfl,rfl⟩
theorem EM:SWO Rw.lt where
 irrefl:=lt_irrefl
 trans:=lt_trans
 neg:=fun a b c h=>by
  cases e:a.lt b with
  | true=>exact .inl rfl
  | false=>
   cases e2:b.lt c with
   | true=>exact .inr rfl
   | false=>
    cases e3:b.lt a with
    | true=>have:=lt_trans _ _ _ e3 h;rw[e2]at this;cases this
    | false=>
     obtain⟨p,n,t⟩:=FL a b e e3;rw[(Ij (c:=c) p n t).1,e2]at h;cases h
theorem iR:∀ {xs ys:List Rw},fk xs->fk ys->(∀ r,r∈xs↔r∈ys)->xs=ys
 | [],ys,_,_,h=>by
  cases ys with
  | nil=>rfl
  | cons y t=>have:=(h y).mpr N3;simp at this
 | x::xs,[],_,_,h=>by have:=(h x).mp N3;simp at this
 | x::xs,y::ys,h1,h2,h=>by
  unfold fk at h1 h2;rw[List.pairwise_cons]at h1 h2;have hxy:x=y:=by
   rcases Oz.mp ((h x).mp N3)with e|m1
   ·exact e
   ·rcases Oz.mp ((h y).mpr N3)with e|m2
    ·exact e.symm
    ·have a1:=h2.1 x m1;have a2:=h1.1 y m2;rw[FM a1]at a2;cases a2
  subst hxy;have nx:x∉xs:=fun m=>by have:=h1.1 x m;rw[lt_irrefl]at this;cases this
  have ny:x∉ys:=fun m=>by have:=h2.1 x m;rw[lt_irrefl]at this;cases this
  rw[iR h1.2 h2.2 fun r=>⟨fun m=>?_,fun m=>?_⟩]
  ·rcases Oz.mp ((h r).mp (N0 _ m))with e|m'
   ·subst e;exact absurd m nx
   ·exact m'
  ·rcases Oz.mp ((h r).mpr (N0 _ m))with e|m'
   ·subst e;exact absurd m ny
   ·exact m'
theorem fu{xs:List Rw}(h:fk xs):xs.Nodup:=List.Pairwise.imp (fun {a b} q e=>by subst e;rw[lt_irrefl]at q;cases q) h
theorem sy{xs:List Rw}(h:xs.Pairwise mr):xs.Nodup:=List.Pairwise.imp (fun {a b} q e=>by subst e;exact q ⟨rfl,rfl⟩) h
open Classical in
theorem gy:∀ {xs ys:List Rw},xs.Nodup->(∀ r∈xs,r∈ys)->xs.length<=ys.length
 | [],_,_,_=>OD _
 | x::xs,ys,h,s=>by
  rw[Pi]at h;have hx:=s x N3;have:=gy (ys:=ys.erase x) h.2 fun r hr=>(List.mem_erase_of_ne (fun e=>by subst e;exact h.1 hr)).mpr (s r (N0 _ hr))
  rw[List.length_erase_of_mem hx]at this;have hp:0 < ys.length:=List.length_pos_of_mem hx;rw[Ob];omega
theorem xh{rs:List Rw}(h:rs.Pairwise mr):mM rs:=by
 induction h with
 | nil=>intro a ha;simp at ha
 | @cons x xs h1 h2 ih=>
  intro a ha b hb p n;rcases Oz.mp ha with e|ha
  ·rcases Oz.mp hb with e'|hb
   ·rw[e,e']
   ·rw[e]at p n;exact absurd ⟨p,n⟩ (h1 b hb)
  ·rcases Oz.mp hb with e|hb
   ·rw[e]at p n;exact absurd ⟨p.symm,n.symm⟩ (h1 a ha)
   ·exact ih a ha b hb p n
theorem KE(a b:Rw):mV 4 a.key b.key=a.lt b:=by
 show d_ (mV 3) [.int a.time,.tup [.str a.pen,.int a.num]] [.int b.time,.tup [.str b.pen,.int b.num]]=_
 unfold Rw.lt
 by_cases e:a.time=b.time
 ·rw[if_pos e];have h1:d6 (.int a.time) (.int b.time)=true:=by rw[e];exact bb _
  rw[show d_ (mV 3) [.int a.time,.tup [.str a.pen,.int a.num]] [.int b.time,.tup [.str b.pen,.int b.num]]=d_ (mV 3) [.tup [.str a.pen,.int a.num]] [.tup [.str b.pen,.int b.num]]by simp[d_,h1]]
  have inner:mV 3 (.tup [.str a.pen,.int a.num]) (.tup [.str b.pen,.int b.num])=if a.pen=b.pen then decide (a.num < b.num)else decide (a.pen.cps.toList < b.pen.cps.toList):=by
   show d_ (mV 2) [.str a.pen,.int a.num] [.str b.pen,.int b.num]=_
   by_cases p:a.pen=b.pen
   ·have h2:d6 (.str a.pen) (.str b.pen)=true:=by rw[p];exact bb _
    rw[if_pos p]
    by_cases n:a.num=b.num
    ·have h3:d6 (.int a.num) (.int b.num)=true:=by rw[n];exact bb _
     simp[d_,h2,n,bb]
    ·have h3:d6 (.int a.num) (.int b.num)=false:=bz (by simpa using n)
     simp[d_,h2,h3,mV]
   ·have h2:d6 (.str a.pen) (.str b.pen)=false:=bz (by simpa using p)
    rw[if_neg p];simp[d_,h2,mV]
  by_cases t:(D.tup [.str a.pen,.int a.num])=.tup [.str b.pen,.int b.num]
  ·have h2:=F_ t;simp only[D.tup.injEq,List.cons.injEq,D.str.injEq,D.int.injEq,and_true]at t;simp[d_,t.1,t.2,bb]
  ·rw[<- inner];simp[d_,bz t]
 ·rw[if_neg e];have h1:d6 (.int a.time) (.int b.time)=false:=bz (by simpa using e)
  simp[d_,h1,mV]
theorem KH(a b:Rw):Gg 4 a.key b.key:=by
 refine⟨⟨trivial,trivial⟩,fun _=>trivial,⟨fun d hd=>?_,fun d hd=>?_⟩,fun _=>?_,trivial⟩
 ·simp only[Oz,OF,or_false]at hd;rcases hd with rfl|rfl<;>trivial
 ·simp only[Oz,OF,or_false]at hd;rcases hd with rfl|rfl<;>trivial
 ·exact⟨⟨trivial,trivial⟩,fun _=>trivial,⟨trivial,trivial⟩,fun _=>trivial,trivial⟩
def r_(r:Rw):List aD:=[.inr r.pen,.inl r.num]
def qY(r:Rw):List aD×D:=(r_ r,r.d)
theorem wO{a b:Rw}:r_ a=r_ b↔a.pen=b.pen/\a.num=b.num:=by
 simp[r_]
theorem J0{vs:List Rw}{r:Rw}(h:r∈vs)(o:∀ a∈vs,a.pen=r.pen->a.num=r.num->a=r):bS (vs.map qY) (r_ r) r.d=vs.map qY:=by
 unfold bS;rw[if_pos (by rw[List.any_eq_true];exact⟨qY r,List.mem_map_of_mem h,decide_eq_true rfl⟩),Ot]
 refine O0 fun a ha=>?_;simp only[Function.comp_apply];split
 ·rename_i e;obtain⟨p,n⟩:=wO.mp e;have:=o a ha p n;subst this;rfl
 ·rfl
theorem put_new{vs:List Rw}{r:Rw}(h:∀ a∈vs,mr a r):bS (vs.map qY) (r_ r) r.d=(vs ++ [r]).map qY:=by
 unfold bS;rw[if_neg]
 ·rw[Ol];rfl
 ·rw[Bool.not_eq_true,List.any_eq_false];intro kv hkv;obtain⟨a,ha,rfl⟩:=mem_map.mp hkv;simp only[decide_eq_true_eq];intro e;exact h a ha (wO.mp e)
theorem EF{vs:List Rw}(hv:vs.Pairwise mr){p:List Nat}(hp:p.Perm (List.range vs.length))(hs:(p.map fun i=>rankIn Rw.lt vs (vs.getD i default)).Pairwise (·<=·)):
  fk (p.map fun i=>vs.getD i default)/\∀ r,r∈(p.map fun i=>vs.getD i default)↔r∈vs:=by
 have inr:∀ i∈p,i < vs.length:=fun i hi=>mem_range.mp (hp.mem_iff.mp hi);have gm:∀ i,i < vs.length->vs.getD i default∈vs:=fun i hi=>by rw[Oe,NV hi];exact Qp hi
 constructor
 ·unfold fk;rw[Qx]at hs ⊢;have nd:p.Nodup:=hp.nodup_iff.mpr List.nodup_range;refine (hs.and nd).imp_of_mem fun {i j} hi hj h=>?_;have li:=inr i hi;have lj:=inr j hj;have nlt:(vs.getD j default).lt (vs.getD i default)=false:=by
   rw[rank_lt EM (gm j lj),decide_eq_false_iff_not,Nat.not_lt];exact h.1
  cases e:(vs.getD i default).lt (vs.getD j default) with
  | true=>rfl
  | false=>
   obtain⟨pp,nn,_⟩:=FL _ _ e nlt;have ap:mr (vs.getD i default) (vs.getD j default):=by
    rw[Oe,Oe,NV li,NV lj];rcases Nat.lt_or_gt_of_ne h.2 with l|l
    ·exact List.pairwise_iff_getElem.mp hv i j li lj l
    ·exact fun z=>List.pairwise_iff_getElem.mp hv j i lj li l ⟨z.1.symm,z.2.symm⟩
   exact absurd ⟨pp,nn⟩ ap
 ·intro r;have e:((List.range vs.length).map fun i=>vs.getD i default)=vs:=L3.range_getD vs default;have q:=hp.map fun i=>vs.getD i default;rw[e]at q;exact q.mem_iff
theorem gc{κ:Type}[DecidableEq κ](k k':κ)(v:D):∀ kvs:List (κ×D),cV (bS kvs k v) k'=if k'=k then some v else cV kvs k':=by
 have go:∀ kvs:List (κ×D),(kvs.any fun kv=>decide (kv.1=k))=true->cV (kvs.map fun kv=>if kv.1=k then (kv.1,v)else kv) k'=if k'=k then some v else cV kvs k':=by
  intro kvs
  induction kvs with
  | nil=>intro h;simp at h
  | cons p r ih=>
   intro h
   by_cases e:p.1=k
   ·by_cases e':k'=k
    ·rw[if_pos e'];simp[cV,Ow,e,e']
    ·rw[if_neg e'];have n1:¬ k=k':=fun z=>e' z.symm;have skip:∀ q:List (κ×D),cV (((p.1,v):κ×D)::q) k'=cV q k':=fun q=>by simp[cV,Ow,e,n1]
     have T1:cV (p::r) k'=cV r k':=by simp[cV,Ow,e,n1]
     rw[Od,if_pos e,skip,T1]
     by_cases hr:(r.any fun kv=>decide (kv.1=k))=true
     ·have:=ih hr;rw[if_neg e']at this;exact this
     ·have:r.map (fun kv=>if kv.1=k then (kv.1,v)else kv)=r:=by
       rw[Bool.not_eq_true,List.any_eq_false]at hr
       conv=>rhs;rw[<- List.map_id r]
       refine O0 fun a ha=>?_;have:=hr a ha;simp only[decide_eq_true_eq]at this;rw[if_neg this];rfl
      rw[this]
   ·have hr:(r.any fun kv=>decide (kv.1=k))=true:=by simpa[e]using h
    rw[Od,if_neg e]
    by_cases e2:p.1=k'
    ·have n1:¬ k'=k:=fun z=>e (e2.trans z);rw[if_neg n1];simp[cV,Ow,e2]
    ·have s1:∀ q:List (κ×D),cV (p::q) k'=cV q k':=fun q=>by simp[cV,Ow,e2]
     rw[s1,s1];exact ih hr
 intro kvs;unfold bS
 by_cases h:(kvs.any fun kv=>decide (kv.1=k))=true
 ·rw[if_pos h];exact go kvs h
 ·rw[if_neg h]
  by_cases e':k'=k
  ·rw[if_pos e'];subst e';have hn:cV kvs k'=none:=by
    have:=ql k' kvs;rw[Bool.not_eq_true]at h;rw[h]at this;cases q:cV kvs k' with
    | none=>rfl
    | some _=>rw[q]at this;cases this
   unfold cV at hn ⊢;rw[List.find?_append];cases q:kvs.find? fun kv=>decide (kv.1=k') with
   | none=>simp
   | some z=>rw[q]at hn;cases hn
  ·rw[if_neg e'];unfold cV;rw[List.find?_append];cases q:kvs.find? fun kv=>decide (kv.1=k') with
   | none=>simp;exact fun z=>e' z.symm
   | some z=>rfl
structure Sl where
 pen:Str
 n:Int
 k:Int
deriving DecidableEq
instance:Inhabited Sl:=⟨⟨"",0,0⟩⟩
def Sl.d(s:Sl):D:=.tup [.str s.pen,.int s.n,.int s.k]
def Sl.key(s:Sl):List aD:=[.inr s.pen,.inl s.n,.inl s.k]
theorem Sl.key_inj{a b:Sl}(h:a.key=b.key):a=b:=by
 obtain⟨a1,a2,a3⟩:=a;obtain⟨b1,b2,b3⟩:=b;simp only[Sl.key,List.cons.injEq,Sum.inr.injEq,Sum.inl.injEq,and_true]at h;obtain⟨rfl,rfl,rfl⟩:=h;rfl
theorem Sl.d_inj{a b:Sl}(h:a.d=b.d):a=b:=by
 obtain⟨a1,a2,a3⟩:=a;obtain⟨b1,b2,b3⟩:=b;simp only[Sl.d,D.tup.injEq,List.cons.injEq,D.str.injEq,D.int.injEq,and_true]at h;obtain⟨rfl,rfl,rfl⟩:=h;rfl
theorem yA(s:Sl):lY s.d=some s.key:=rfl
def ar:Sl:=⟨NU "",0,0⟩
inductive Act where
 | put (a:Sl) (x:Str)
 | strike (ns:List Sl)
 | dress (ns:List Sl) (w:Str)
 | move (ns:List Sl) (a:Sl)
def Act.d:Act->D
 | .put a x=>.tup [.str "put",a.d,.str x]
 | .strike ns=>.tup [.str "strike",.tup (ns.map Sl.d)]
 | .dress ns w=>.tup [.str "dress",.tup (ns.map Sl.d),.str w]
 | .move ns a=>.tup [.str "move",.tup (ns.map Sl.d),a.d]
def Act.many:Act->Nat
 | .put _ x=>x.length
 | .move ns _=>ns.length
 | _=>0
def Act.anch:Act->Sl
 | .put a _=>a
 | .move _ a=>a
 | _=>ar
structure Sk where
 pen:Str
 num:Int
 time:Int
 act:Act
instance:Inhabited Sk:=⟨⟨"",0,0,.strike []⟩⟩
def Sk.rw(s:Sk):Rw:=⟨s.pen,s.num,s.time,s.act.d⟩
def Sk.d(s:Sk):D:=.tup [.tup [.str s.pen,.int s.num],.int s.time,s.act.d]
def Sk.ok(s:Sk):Prop:=1<=s.num/\s.act.many<=1000
def eJ(pen:Str)(n:Int)(m:Nat):List Sl:=(List.range m).map fun (k:Nat)=>⟨pen,n,(k:Int)+1⟩
def made(s:Sk):List Sl:=eJ s.pen s.num s.act.many
def dB(m:Nat):List Sl:=eJ (NU "") 0 m
theorem bJ(p:Str)(n:Int)(m:Nat):(eJ p n m).length=m:=by simp[eJ]
theorem b9(p:Str)(n:Int)(m:Nat):(eJ p n m).Nodup:=by
 unfold eJ List.Nodup;rw[Qx];refine List.Pairwise.imp ?_ (List.nodup_range (n:=m));intro a b h e;injection e with e1 e2 e3
 exact h (by walk_at "o")
theorem eR{p:Str}{n:Int}{m:Nat}{x:Sl}(h:x∈eJ p n m):x.pen=p/\x.n=n/\1<=x.k:=by
 unfold eJ at h;obtain⟨k,_,rfl⟩:=mem_map.mp h;exact⟨rfl,rfl,by show 1<=(k:Int)+1;omega⟩
def Ef:List Sl->D
 | []=>.non
 | s::_=>s.d
def nx:List Sl->Sl->D
 | [],_=>.non
 | a::t,c=>if a=c then Ef t else nx t c
def kX:List Sl->Sl->Sl->List Sl
 | [],_,_=>[]
 | a::t,b,x=>if a=b then a::x::t else a::kX t b x
def bT:List Sl->Sl->List Sl->List Sl
 | W,_,[]=>W
 | W,b,x::t=>bT (kX W b x) x t
theorem eL{W:List Sl}{b x:Sl}(hb:b∈W):∀ c,c∈kX W b x↔c∈W\/c=x:=by
 induction W with
 | nil=>simp at hb
 | cons a t ih=>
  intro c;unfold kX
  by_cases e:a=b
  ·rw[if_pos e];simp only[Oz];constructor
   ·rintro (h|h|h)
    ·exact .inl (.inl h)
    ·exact .inr h
    ·exact .inl (.inr h)
   ·rintro ((h|h)|h)
    ·exact .inl h
    ·exact .inr (.inr h)
    ·exact .inr (.inl h)
  ·rw[if_neg e];have hb':b∈t:=by
    rcases Oz.mp hb with z|z
    ·exact absurd z.symm e
    ·exact z
   simp only[Oz,ih hb' c];constructor
   ·rintro (h|h|h)
    ·exact .inl (.inl h)
    ·exact .inl (.inr h)
    ·exact .inr h
   ·rintro ((h|h)|h)
    ·exact .inl h
    ·exact .inr (.inl h)
    ·exact .inr (.inr h)
theorem l7{W:List Sl}{b x:Sl}(hb:b∈W):(kX W b x).length=W.length+1:=by
 induction W with
 | nil=>simp at hb
 | cons a t ih=>
  unfold kX
  by_cases e:a=b
  ·rw[if_pos e];simp
  ·rw[if_neg e];have hb':b∈t:=by
    rcases Oz.mp hb with z|z
    ·exact absurd z.symm e
    ·exact z
   simp[ih hb']
theorem uO{W:List Sl}{b x:Sl}(hW:W.Nodup)(hx:x∉W)(hb:b∈W):(kX W b x).Nodup:=by
 induction W with
 | nil=>simp at hb
 | cons a t ih=>
  unfold kX;rw[Pi]at hW
  by_cases e:a=b
  ·rw[if_pos e,Pi,Pi];simp only[Oz,not_or]at hx;refine⟨?_,hx.2,hW.2⟩;rw[Oz,not_or];exact⟨Ne.symm hx.1,hW.1⟩
  ·rw[if_neg e];have hb':b∈t:=by
    rcases Oz.mp hb with z|z
    ·exact absurd z.symm e
    ·exact z
   simp only[Oz,not_or]at hx;rw[Pi];refine⟨fun z=>?_,ih hW.2 hx.2 hb'⟩;rcases (eL hb' a).mp z with z|z
   ·exact hW.1 z
   ·exact hx.1 z.symm
theorem FZ{W:List Sl}{b x:Sl}:Ef (kX W b x)=Ef W:=by
 cases W with
 | nil=>rfl
 | cons a t=>
  unfold kX;split<;>rfl
theorem Iv{W:List Sl}{b x:Sl}(hW:W.Nodup)(hx:x∉W)(hb:b∈W):∀ c,nx (kX W b x) c=if c=x then nx W b else if c=b then x.d else nx W c:=by
 induction W with
 | nil=>simp at hb
 | cons a t ih=>
  intro c;rw[Pi]at hW;simp only[Oz,not_or]at hx;unfold kX
  by_cases e:a=b
  ·subst e;rw[if_pos rfl];simp only[nx]
   by_cases c1:c=x
   ·subst c1;rw[if_neg (Ne.symm hx.1),if_pos rfl,if_pos rfl];simp
   ·rw[if_neg c1]
    by_cases c2:c=a
    ·subst c2;simp[Ef]
    ·rw[if_neg (Ne.symm c2),if_neg (fun z=>c1 z.symm),if_neg c2,if_neg (Ne.symm c2)]
  ·rw[if_neg e];have hb':b∈t:=by
    rcases Oz.mp hb with z|z
    ·exact absurd z.symm e
    ·exact z
   simp only[nx];rw[FZ,ih hW.2 hx.2 hb' c]
   by_cases c0:a=c
   ·subst c0;rw[if_pos rfl,if_neg (fun z=>hx.1 z.symm),if_neg e,if_pos rfl]
   ·rw[if_neg c0,if_neg c0,if_neg e]
def Eb(kvs:List (List aD×D))(W:List Sl):Prop:=W.Nodup/\kvs.length=W.length/\(∀ s,s∉W->cV kvs s.key=none)/\∀ s∈W,cV kvs s.key=some (nx W s)
theorem ui{κ:Type}[DecidableEq κ]{kvs:List (κ×D)}{k:κ}{v:D}:(bS kvs k v).length=if (cV kvs k).isSome=true then kvs.length else kvs.length+1:=by
 unfold bS;rw[ql];split<;>simp
theorem F6{kvs:List (List aD×D)}{W:List Sl}{b x:Sl}(h:Eb kvs W)(hb:b∈W)(hx:x∉W):Eb (bS (bS kvs x.key (nx W b)) b.key x.d) (kX W b x):=by
 obtain⟨h1,h2,h3,h4⟩:=h;have hne:b≠x:=fun z=>hx (z ▸ hb);have at2:∀ c:Sl,cV (bS (bS kvs x.key (nx W b)) b.key x.d) c.key=if c=b then some x.d else if c=x then some (nx W b)else cV kvs c.key:=fun c=>by
  rw[gc,gc]
  by_cases e1:c=b
  ·subst e1;rw[if_pos rfl,if_pos rfl]
  ·rw[if_neg (fun z=>e1 (Sl.key_inj z)),if_neg e1]
   by_cases e2:c=x
   ·subst e2;rw[if_pos rfl,if_pos rfl]
   ·rw[if_neg (fun z=>e2 (Sl.key_inj z)),if_neg e2]
 refine⟨uO h1 hx hb,?_,fun c hc=>?_,fun c hc=>?_⟩
 ·rw[ui,ui,h3 x hx,gc,if_neg (fun z=>hne (Sl.key_inj z)),h4 b hb,l7 hb,h2];simp
 ·have hc':c∉W/\c≠x:=⟨fun z=>hc ((eL hb c).mpr (.inl z)),fun z=>hc ((eL hb c).mpr (.inr z))⟩;rw[at2,if_neg (fun (z:c=b)=>hc'.1 (by rw[z];exact hb)),if_neg hc'.2]
  exact h3 c hc'.1
 ·rw[at2,Iv h1 hx hb]
  by_cases e1:c=b
  ·subst e1;rw[if_pos rfl,if_neg hne,if_pos rfl]
  ·rw[if_neg e1]
   by_cases e2:c=x
   ·rw[if_pos e2,if_pos e2]
   ·rw[if_neg e2,if_neg e2,if_neg e1];rcases (eL hb c).mp hc with z|z
    ·exact h4 c z
    ·exact absurd z e2
theorem DP(v:List Sl->Prop):Eb [(ar.key,.non)] [ar]:=by
 refine⟨by simp,rfl,fun s hs=>?_,fun s hs=>?_⟩
 ·have:s≠ar:=by simpa using hs
  simp only[cV,Ow,List.find?_nil];rw[decide_eq_false (fun z=>this (Sl.key_inj z).symm)];rfl
 ·have:s=ar:=by simpa using hs
  subst this;simp[cV,nx,Ef]
def cW(W:List Sl)(s:Sk):List Sl:=if s.act.anch∈W then bT W s.act.anch (made s)else W
def mR(n:Nat)(out:List Sk):List Sl:=out.foldl cW (bT [ar] ar (dB n))
theorem ot:∀ {ss W:List Sl} {b:Sl},b∈W->∀ c,c∈bT W b ss↔c∈W\/c∈ss
 | [],W,b,hb,c=>by simp[bT]
 | x::t,W,b,hb,c=>by
  unfold bT;rw[ot (ss:=t) ((eL hb x).mpr (.inr rfl)) c,eL hb c,Oz];constructor
  ·rintro ((h|h)|h)
   ·exact .inl h
   ·exact .inr (.inl h)
   ·exact .inr (.inr h)
  ·rintro (h|h|h)
   ·exact .inl (.inl h)
   ·exact .inl (.inr h)
   ·exact .inr h
theorem nC:∀ {ss W:List Sl} {b:Sl},b∈W->(bT W b ss).length=W.length+ss.length
 | [],W,b,hb=>by simp[bT]
 | x::t,W,b,hb=>by
  unfold bT;rw[nC (ss:=t) ((eL hb x).mpr (.inr rfl)),l7 hb,Ob];omega
theorem BG{pre post:List Sl}{b x:Sl}(h:b∉pre):kX (pre ++ b::post) b x=pre ++ b::x::post:=by
 induction pre with
 | nil=>simp[kX]
 | cons a t ih=>
  simp only[Oz,not_or]at h;simp only[PP,kX];rw[if_neg (Ne.symm h.1),ih h.2]
theorem ib:∀ {ss pre post:List Sl} {b:Sl},b∉pre->ss.Nodup->(∀ x∈ss,x∉pre/\x≠b)->bT (pre ++ b::post) b ss=pre ++ b::(ss ++ post)
 | [],pre,post,b,_,_,_=>by simp[bT]
 | x::t,pre,post,b,h,nd,hs=>by
  unfold bT;rw[BG h];rw[Pi]at nd;have hx:=hs x N3;have e:pre ++ b::x::post=(pre ++ [b]) ++ x::post:=by simp
  rw[e,ib (ss:=t) (pre:=pre ++ [b]) (post:=post) (b:=x) (by simp[hx.1,hx.2]) nd.2 (fun y hy=>?_)]
  ·simp
  ·have hy':=hs y (N0 _ hy);refine⟨by simp[hy'.1,hy'.2],fun z=>nd.1 (z ▸ hy)⟩
def BZ(done:List Sk)(W:List Sl):Prop:=∀ x∈W,x.n=0\/∃ s∈done,x.pen=s.pen/\x.n=s.num
theorem Ag{done:List Sk}{W:List Sl}{s:Sk}(h:BZ done W)(hs:1<=s.num)(ap:∀ r∈done,¬ (r.pen=s.pen/\r.num=s.num)):∀ x∈made s,x∉W:=fun x hx hW=>by
 obtain⟨p1,p2,_⟩:=eR hx;rcases h x hW with z|⟨r,hr,z1,z2⟩
 ·omega
 ·exact ap r hr ⟨z1.symm.trans p1,z2.symm.trans p2⟩
theorem DO{done:List Sk}{W:List Sl}{s:Sk}(h:BZ done W):BZ (done ++ [s]) (cW W s):=fun x hx=>by
 unfold cW at hx;have up:x∈W->x.n=0\/∃ r∈done ++ [s],x.pen=r.pen/\x.n=r.num:=fun z=>by
  rcases h x z with q|⟨r,hr,q⟩
  ·exact .inl q
  ·exact .inr ⟨r,P_ _ hr,q⟩
 split at hx
 ·rename_i ha;rcases (ot ha x).mp hx with z|z
  ·exact up z
  ·obtain⟨p1,p2,_⟩:=eR z;exact .inr ⟨s,by simp,p1,p2⟩
 ·exact up hx
theorem c6(n:Nat):bT [ar] ar (dB n)=ar::dB n:=by
 have:=ib (ss:=dB n) (pre:=[]) (post:=[]) (b:=ar) (by simp) (b9 _ _ _) (fun x hx=>⟨by simp,fun z=>by
  obtain⟨_,_,h⟩:=eR hx;rw[z]at h;exact absurd h (by decide)⟩)
 simpa using this
theorem uR(n:Nat):BZ [] (bT [ar] ar (dB n)):=fun x hx=>by
 rw[c6]at hx;rcases Oz.mp hx with z|z
 ·subst z;exact .inl rfl
 ·exact .inl (eR z).2.1
theorem uS(n:Nat):∀ (out done:List Sk) (W:List Sl),BZ done W->BZ (done ++ out) (out.foldl cW W)
 | [],done,W,h=>by simpa using h
 | s::t,done,W,h=>by
  have:=uS n t (done ++ [s]) (cW W s) (DO h)
  simpa using this
theorem C6{W:List Sl}{s:Sk}{R:List Sl}(h:W=ar::R):∃ R',cW W s=ar::R':=by
 unfold cW;split
 ·rename_i ha;clear ha;generalize made s=ss;generalize s.act.anch=b
  induction ss generalizing W b R with
  | nil=>exact⟨R,h⟩
  | cons x t ih=>
   unfold bT;subst h;unfold kX;split
   ·exact ih rfl _
   ·exact ih rfl _
 ·exact⟨R,h⟩
theorem zr(n:Nat):∀ (out:List Sk) (W R:List Sl),W=ar::R->∃ R',out.foldl cW W=ar::R'
 | [],W,R,h=>⟨R,h⟩
 | s::t,W,R,h=>by
  obtain⟨R',h'⟩:=C6 (s:=s) h;exact zr n t _ R' h'
def aE(n:Nat)(out:List Sk):List Sl:=(mR n out).tail
theorem iI(n:Nat)(out:List Sk):mR n out=ar::aE n out:=by
 obtain⟨R,h⟩:=zr n out _ (dB n) (c6 n);unfold aE;have:mR n out=ar::R:=h;rw[this];rfl
theorem mz(n:Nat)(out:List Sk)(s:Sk):mR n (out ++ [s])=cW (mR n out) s:=by simp[mR]
theorem xR(W:List Sl):val (Ef W)=Ef W:=by cases W<;>rfl
theorem Kt(W:List Sl)(c:Sl):val (nx W c)=nx W c:=by
 induction W with
 | nil=>rfl
 | cons a t ih=>
  unfold nx;split
  ·exact xR t
  ·exact ih
theorem A3{dZ:List Sl}{s:Sk}(h:s.act.anch=ar)(fr:∀ x∈made s,x∉ar::dZ):(cW (ar::dZ) s).tail=made s ++ dZ:=by
 unfold cW;rw[h,if_pos (by simp)]
 have:=ib (ss:=made s) (pre:=[]) (post:=dZ) (b:=ar) (by simp) (b9 _ _ _) fun x hx=>⟨by simp,fun z=>fr x hx (by rw[z];simp)⟩
 rw[Pj]at this;rw[this];rfl
theorem C5{dZ:List Sl}{s:Sk}(h:made s=[]):(cW (ar::dZ) s).tail=dZ:=by
 unfold cW;rw[h];split<;>rfl
theorem Hh{dZ:List Sl}{s:Sk}{i:Nat}(hi:i < dZ.length)(h:dZ[i]=s.act.anch)(nod:(ar::dZ).Nodup)(fr:∀ x∈made s,x∉ar::dZ):(cW (ar::dZ) s).tail=dZ.take (i+1) ++ made s ++ dZ.drop (i+1):=by
 have hin:s.act.anch∈ar::dZ:=by rw[<- h];exact N0 _ (Qp hi)
 have e:ar::dZ=(ar::dZ.take i) ++ s.act.anch::dZ.drop (i+1):=by
  rw[<- h,PP,<- OS hi,Pl]
 have nn:s.act.anch∉ar::dZ.take i:=by
  rw[e]at nod;rw[List.nodup_append]at nod;exact fun z=>nod.2.2 _ z _ (by simp) rfl
 unfold cW;rw[if_pos hin];have hs:=ib (ss:=made s) (pre:=ar::dZ.take i) (post:=dZ.drop (i+1)) (b:=s.act.anch) nn (b9 _ _ _) fun x hx=>⟨fun z=>fr x hx (by rw[e];exact P_ _ z),fun z=>fr x hx (by rw[z];exact hin)⟩
 rw[<- e]at hs;rw[hs,Om,NV hi,h];simp
end RQ
open RQ
namespace L3
open PySem PySem.Spec PyProof.Rows L2 PySem.SeqAt PySem.W
end L3
namespace L3
open PySem PySem.Spec PyProof.Rows L2 PySem.SeqAt PySem.W
def vk(h:Of)(d:NR)(vs:List NO)(ep:Nat):Prop:=∃ o es,h.get? d=some o/\o.ExactDict/\o.data=.dict es ep/\es.toList.map (·.key)=vs
section
variable{prog:N_}{w:Og}{A:Oc}{E:NO->NP->Prop}{s:NP}{d r it:NR}{vs:List NO}{ep i:Nat}
theorem vk.ty(x:vk s.heap d vs ep):s.TypeIs (.ref d) "dict":=let ⟨o,_,e,z,_⟩:=x;⟨o,e,z.1⟩
theorem vk.there{h:Of}(x:vk h d vs ep):d < h.objs.size:=let ⟨_,_,e,_⟩:=x;N7 e
theorem vk.stay{h h':Of}(x:vk h d vs ep)(k:∀ o,h.get? d=some o->h'.get? d=some o):vk h' d vs ep:=let ⟨o,es,e,z⟩:=x;⟨o,es,k o e,z⟩
theorem E7{v:NO}{Q:Option NO->NP->Prop}(hi:s.heap.IsKeyIter it d i vs.length ep)(x:vk s.heap d vs ep)(hv:vs[i]?=some v)
  (q:∀ h',h'.IsKeyIter it d (i+1) vs.length ep->Pz it s.heap h'->Q (some v) { s with heap:=h' }):NZ (N4 prog w) A (Pu (.ref it)) Q E s:=by
 obtain⟨o,e1,c1,d1⟩:=id hi;obtain⟨od,es,e2,c2,d2,rfl⟩:=x;unfold Pu;refine NN (P4 (OR (name:=NU "__next__") hi.typeIs PD (OQ PD hi.typeIs RW ?_ (RN _))));refine NN (NQ ?_);refine NN ?_;refine NN ?_
 first|refine NN (Pq hi.typeIs (NQ ?_))|refine NN (P0 hi.typeIs (NQ ?_))
 refine NN (Ra e1 d1 ?_);have own:O3 "dict_keyiterator"=false:=by decide
 simp only[own,Bool.false_eq_true,if_false];show NZ _ _ (if (Value.ref d == Value.none)=true then _ else _) _ _ s;rw[if_neg (show ¬ ((Value.ref d == Value.none)=true)from Bool.false_ne_true)]
 refine NN (NQ ?_);refine NN (PJ e2 d2 ?_);have z:es.size=(es.toList.map (·.key)).length:=by simp
 rw[if_neg (by rw[z];simp)];refine NN (NQ ?_);refine NN (P9 e2 d2 ?_)
 rw[if_neg (by simp)];refine NQ ?_
 have lt:i < es.size:=by
  rw[z];rcases Pm i (es.toList.map (·.key)).length with h|h
  ·exact h
  ·rw[OI h]at hv;cases hv
 have val:es[i].key=v:=by
  rw[N8]at hv
  simpa[lt]using hv
 simp only[show ¬ ((i:Int) < 0)from by walk_at "o",if_false,Int.toNat_natCast,Array.getElem?_eq_getElem lt];refine NN ?_
 first|refine NN (Pq hi.typeIs (NQ ?_))|refine NN (P0 hi.typeIs (NQ ?_))
 refine NN (SJ hi.typeIs ?_);show NZ _ _ (SL (.ref it) 1 (PN ((i:Int)+1)) >>= _) _ _ s;refine NN (Q9 e1 d1 (by simp) ?_)
 have hi':(s.heap.update it (QS (·.setIfInBounds 1 (PN ((i:Int)+1))))).IsKeyIter it d (i+1) (es.toList.map (·.key)).length ep:=
  ⟨_,Ql _ e1 (SK (QI d1 _)),(Ti ..).trans c1,by rw[QI d1];simp[PN]⟩
 refine NN (OH ?_);refine NN (SJ (s:={ s with heap:=s.heap.update it (QS (·.setIfInBounds 1 (PN ((i:Int)+1)))) }) hi'.typeIs ?_)
 show NZ _ _ (pure es[i].key) _ _ _
 exact NQ (NQ ⟨_,rfl,NQ (val ▸ q _ hi' (Qv ..))⟩)
theorem Hu{Q:Option NO->NP->Prop}(hh:A.handled=none)(hi:s.heap.IsKeyIter it d i vs.length ep)(x:vk s.heap d vs ep)(hv:vs[i]?=none)
  (q:∀ h',Heap.ExtBut it s.heap h'->Q none { s with heap:=h' }):NZ (N4 prog w) A (Pu (.ref it)) Q E s:=by
 obtain⟨o,e1,c1,d1⟩:=id hi;obtain⟨od,es,e2,c2,d2,rfl⟩:=x;unfold Pu;refine NN (P4 (OR (name:=NU "__next__") hi.typeIs PD (OQ PD hi.typeIs RW ?_ (RN _))));refine NN (NQ ?_);refine NN ?_;refine NN ?_
 first|refine NN (Pq hi.typeIs (NQ ?_))|refine NN (P0 hi.typeIs (NQ ?_))
 refine NN (Ra e1 d1 ?_);have own:O3 "dict_keyiterator"=false:=by decide
 simp only[own,Bool.false_eq_true,if_false];show NZ _ _ (if (Value.ref d == Value.none)=true then _ else _) _ _ s;rw[if_neg (show ¬ ((Value.ref d == Value.none)=true)from Bool.false_ne_true)]
 refine NN (NQ ?_);refine NN (PJ e2 d2 ?_);have z:es.size=(es.toList.map (·.key)).length:=by simp
 rw[if_neg (by rw[z];simp)];refine NN (NQ ?_);refine NN (P9 e2 d2 ?_)
 rw[if_neg (by simp)];refine NQ ?_
 have ge:es.size<=i:=by rw[z];simpa using hv
 simp only[show ¬ ((i:Int) < 0)from by walk_at "o",if_false,Int.toNat_natCast,Array.getElem?_eq_none ge];refine NN ?_
 first|refine NN (Pq hi.typeIs (NQ ?_))|refine NN (P0 hi.typeIs (NQ ?_))
 show NZ _ _ (SL (.ref it) 0 .none >>= _) _ _ s;refine NN (Q9 e1 d1 (by simp) ?_)
 show NZ _ _ (newExc (.type "StopIteration") [] >>= _) _ _ _;refine NN ?_
 simp only[newExc,newTuple];refine NN (OE ?_ (by size_fits))
 refine NN (m:=Rf _ _) (wpAny_of_eq (a:=Value.none) (by first|rfl|(simp only[Rf];rfl)) ?_);refine OE ?_ (by size_fits)
 simp only[raiseNew];refine NN (wpAny_handled ?_);rw[show A.in1.handled=none from hh]
 refine NN (NQ (wpAny_throw ?_));refine NN (QT (T:="StopIteration") (b:=true) ⟨_,NW _ rfl,rfl⟩ R8 ?_);exact NQ (q _ (((Qv ..).extBut.push _).push _))
end
open HT
section
variable{X:Cx}{prog:N_}{w:Og}{A:Oc}{E:NO->NP->Prop}{s:NP}
def MV:Mt:=fun x lo hi G Q=>match x with
 | .tup ds=>Q (.tup (cutD ds lo hi)) G
 | _=>False
end
end L3
namespace L2
open PySem PySem.Spec PyProof.Rows
def Mx(ys:List V):It:=
 ⟨fun i _=>i < ys.length,fun i H x H'=>∃ p y,H p=none/\x=.ref p/\H'=bq H p (.tup [.int i,y])/\ys[i]?=some y,fun i _=>i=ys.length⟩
theorem wW{X:Cx}{it:NR}{z:Str}{t:Tok}{ty:String}(hh:X.A.handled=none)(hty:ty="str_ascii_iterator"\/ty="str_iterator"):
  SU X.prog X.w X.A.in1 it [it] z.cps.size (fun i v=>∃ c u,z.cps[i]?=some c/\v=.str ⟨#[c]⟩ u) (fun i h=>h.IsStrIter it ty z t i):=by
 rcases hty with rfl|rfl
 ·exact Draws.strAscii (A:=X.A.in1) hh it z t
 ·exact Draws.strWide (A:=X.A.in1) hh it z t
theorem AV{P:N_}{w:Og}{K:Sf}{elts:List Oj}{x1}{tp:Pos}(e it:NR)(hne:e≠it)(z:Str)(t:Tok)(ty:String)(hty:ty="str_ascii_iterator"\/ty="str_iterator"):
  Turn P w K (.Tuple elts x1 tp) (Mx (bm z)) [e,it] e (fun i h=>(∃ old,IsEnum h e it i old)/\h.IsStrIter it ty z t i) where
 mem:=by simp
 obj:=fun i h st b hb=>by
  have hb':b=e\/b=it:=by simpa using hb
  obtain⟨⟨old,he⟩,o,e1,c,d⟩:=st;rcases hb' with rfl|rfl
  ·exact⟨_,he,fun v z=>by cases z⟩
  ·exact⟨o,e1,fun v z=>by rw[d]at z;cases z⟩
 keep:=fun i h h' ⟨⟨old,he⟩,o,e1,c⟩ k=>⟨⟨old,k e (by simp) _ he⟩,o,k it (by simp) o e1,c⟩
 item:=by
  intro X hP hw hK hc i pins s σ H E I hf st hg;subst hP hw hK;have hg':i < (bm z).length:=hg;have hsz:(bm z).length=z.cps.size:=by simp[bm]
  obtain⟨⟨old,he⟩,hit⟩:=st;have hel:e < s.heap.objs.size:=N7 he;have hil:it < s.heap.objs.size:=by obtain⟨_,q,_⟩:=hit;exact N7 q
  refine wpAny_pyNext_enum_itemD (wW (I.ok.hd hc) hty) he hit (by walk_at "o") hne (by simp[hne]) fun u h' tk hu ho Uk hT hsz' hk=>?_
  obtain⟨c,t',hx,rfl⟩:=hu;refine⟨_,rfl,wpAny_letOwnedTupleGo_enum ho fun h2 he2 hs2=>?_⟩;have hT2:h2.get? s.heap.objs.size=some { cls:=.type "tuple",data:=.seq #[.int i tk,.str ⟨#[c]⟩ t'] }:=(hs2.2 _ (Rb hel)).trans hT;have hn:H s.heap.objs.size=none:=I.hok.fresh (le_refl _);have nu:∀ b∈[e,it],b≠s.heap.objs.size:=fun b hb=>by
   have hb':b=e\/b=it:=by simpa using hb
   rcases hb' with rfl|rfl
   ·exact Oq hel
   ·exact Oq hil
  have I0:Inv X pins σ (bq H s.heap.objs.size (.tup [.int i,.str ⟨#[c]⟩])) { s with heap:=s.heap.push { cls:=.type "tuple",data:=.seq #[.int i tk,.str ⟨#[c]⟩ t'] },toks:=s.toks }:=by
   refine I.laid (t':=s.toks) (fun b v q=>NT _ q) (le_refl _) ?_;exact⟨by show 2<=NY;decide,[.int i tk,.str ⟨#[c]⟩ t'],.cons ⟨_,rfl⟩ (.cons ⟨_,rfl⟩ .nil),vh.new _ _⟩
  have I1:Inv X pins σ (bq H s.heap.objs.size (.tup [.int i,.str ⟨#[c]⟩])) { s with heap:=h2,toks:=tk+1 }:=by
   have:=Inv.turnedL (s:={ s with heap:=s.heap.push { cls:=.type "tuple",data:=.seq #[.int i tk,.str ⟨#[c]⟩ t'] },toks:=s.toks }) (h':=h2) (t':=tk+1) (fp:=[e,it]) I0 (fun b o hb q=>?_) fun b hb=>?_
   ·exact this
   ·have hbe:b≠e:=fun z=>hb (by simp[z])
    have hbi:b≠it:=fun z=>hb (by simp[z])
    have q':(s.heap.push { cls:=.type "tuple",data:=.seq #[.int i tk,.str ⟨#[c]⟩ t'] }).get? b=some o:=q
    by_cases hbs:b=s.heap.objs.size
    ·subst hbs;rw[NW _ rfl]at q';cases q';exact hT2
    ·have q2:s.heap.get? b=some o:=by
      rwa[RI _ _ _ hbs]at q'
     exact (hs2.2 b hbe).trans (hk b o hbe hbi q2)
   ·obtain⟨f0,f1,f2,f3,f4,f5⟩:=hf b hb;exact⟨by rw[aA (nu b hb)];exact f0,f1,f2,f3,f4,f5⟩
  have Uj:h2.IsStrIter it ty z t (i+1):=by
   obtain⟨o,q,r⟩:=Uk;exact⟨o,(hs2.2 it hne.symm).trans q,r⟩
  have hx':z.cps.toList[i]?=some c:=by simpa using hx
  refine⟨.ref s.heap.objs.size,_,I1,rfl,⟨_,.str ⟨#[c]⟩,hn,rfl,rfl,by simp[bm,hx']⟩,⟨⟨_,by simpa using he2⟩,Uj⟩,fun b hb=>?_⟩
  rw[aA (nu b hb)];exact (hf b hb).1
 done:=by
  intro X hP hw hK hc i pins s σ H E I hf st hg;subst hP hw hK;have hg':i=(bm z).length:=hg;have hsz:(bm z).length=z.cps.size:=by simp[bm]
  obtain⟨⟨old,he⟩,hit⟩:=st;have e1:i=z.cps.size:=hg'.trans hsz;rw[e1]at hit;exact wpAny_pyNext_enum_endD (wW (I.ok.hd hc) hty) he hit fun h' eb=>⟨rfl,I.turnedL (t':=s.toks) (fp:=[e,it]) (fun b o hb q=>eb b o (fun z=>hb (by simp[z])) q) hf⟩
 self:=fun _ _ _ _ _ st h=>by
  obtain⟨⟨old,he⟩,_⟩:=st;exact Td he h
end L2
namespace L3
open PySem PySem.Spec PyProof.Rows L2
theorem FY{K:Sf}{G0:Gp}{H0:Hp}{z:Str}:wp K G0 H0 (nE (signs z)) (Mx (bm z)):=fun i G H k rg=>by
 have hl:(bm z).length=(signs z).length:=by simp[signs,bm]
 rw[nE,eT];refine⟨fun hi=>⟨(show i < (bm z).length by walk_at "o"),fun x H' y=>?_⟩,fun e=>(show i=(bm z).length by walk_at "o")⟩
 obtain⟨p,y,hn,rfl,rfl,hx⟩:=y;have e0:(signs z)[i]?=some (signs z)[i]:=NV hi;have q0:RDs K H (signs z) (bm z):=by
  have e1:signs z=(z.cps.toList.map fun c=>(⟨#[c]⟩:Str)).map D.str:=by simp[signs]
  have e2:bm z=(z.cps.toList.map fun c=>(⟨#[c]⟩:Str)).map V.str:=by simp[bm]
  rw[e1,e2];exact RDs.strs _
 obtain⟨v,e,q⟩:=q0.get e0;rw[hx]at e;cases e;refine⟨Kp.laid hn,rg.laid hn,.tup [.int i,(signs z)[i]],?_,mv rg hn (RDs.cons eE (RDs.cons q RDs.nil))⟩;have:=i0 0 (signs z) i _ e0;rw[this,Nat.zero_add]
def rl(ta:nH):GJ:=fun σ G Q=>ta σ G fun ds G'=>match ds with
 | [.str z]=>Q (nE (signs z)) G'
 | _=>False
theorem CJ{X:Cx}{elts:List Oj}{x1}{tp:Pos}{a:Oj}{ta:nH}{p pos:Pos}(hg:Gl X "enumerate")(hm:X.mg "enumerate"=none)(ha:PA X [a] (eK X.K ta))(hs:N5 [a] X.env=[(false,eval a X.env)]:=by rfl):PI X (.Tuple elts x1 tp) (.Call (.Name "enumerate" p) [a] [] pos) (pV X.K (rl ta)):=by
 intro pins s τ H R I h;obtain⟨σ,G,Q3,rs,rg,hq,k⟩:=h;refine RK (fE I hg hm vd (PyProof.Rows.callWith_type1 (cz (ha pos pins s τ H (fun vs H1=>∃ ds G1,(match ds with|[.str z]=>Q3 (nE (signs z)) G1|_=>False)/\Kp G H G1 H1/\RG X.K H1 G1/\RDs X.K H1 ds vs) I
  ⟨σ,G,_,rs,rg,hq,fun ds G1 vs H1 q k1 rg1 rds=>⟨ds,G1,q,k1,rg1,rds⟩⟩) fun us s1 ⟨vs,H1,I1,r1,q1⟩=>?_) hs rfl))
 obtain⟨ds,G1,q,k1,rg1,rds⟩:=q1;split at q
 ·rename_i z;obtain⟨v,rfl,rd⟩:=fb rds;simp only[RD]at rd;subst rd;obtain⟨u,rfl,ru⟩:=rJ r1;obtain⟨t,rfl⟩:=ru;have hty:PM z="str_ascii_iterator"\/PM z="str_iterator":=by unfold PM;split;exact .inl rfl;exact .inr rfl
  refine call_enumerate_str fun h' hE hI hsz hk=>Td hE ?_;refine⟨s1.heap.objs.size+1,[s1.heap.objs.size+1,s1.heap.objs.size],_,_,H1,rfl,I1.kept (t':=s1.toks) hk,AV _ _ (Nat.succ_ne_self _) z t _ hty,⟨⟨_,hE⟩,hI⟩,fun c hc=>?_,k _ G1 _ H1 q k1 rg1 FY⟩;have e:c=s1.heap.objs.size+1\/c=s1.heap.objs.size:=by simpa using hc
  have hc':s1.heap.objs.size<=c:=by rcases e with e|e<;>(rw[e];first|exact le_refl _|exact QM _)
  exact I1.fpOk hc' (I1.hok.fresh hc')
 ·exact q.elim
theorem Ac:∀ (l:List NO) (f:Nat->Int),(∀ i v,l[i]?=some v->∃ t,v=Value.int (f i) t)->Vals (((List.range l.length).map f).map V.int) l
 | [],_,_=>.nil
 | v::r,f,h=>by
  obtain⟨t,rfl⟩:=h 0 v rfl;have:=Ac r (fun i=>f (i+1)) fun i v q=>h (i+1) v (by simpa using q)
  rw[Ob,List.range_succ_eq_map,Od,Od,Ot];rw[Ot]at this;rw[Ot];exact .cons ⟨t,rfl⟩ this
def Ak(ta:nH):bG:=fun σ G Q=>ta σ G fun ds G'=>match ds with
 | [.int j]=>(0<=j/\j<=65536)/\Q (.fl (dL 0 j.toNat)) G'
 | _=>False
theorem Fv{X:Cx}{a:Oj}{ta:nH}{p1 p2 pos Tp:Pos}(hc:X.calm=true)(hg1:Gl X "list")(hm1:X.mg "list"=none)(hg2:Gl X "range")(hm2:X.mg "range"=none)(ha:PA X [a] (eK X.K ta))(hs:N5 [a] X.env=[(false,eval a X.env)]:=by rfl):
  PE X (.Call (.Name "list" p1) [.Call (.Name "range" p2) [a] [] Tp] [] pos) (aB X.K (Ak ta)):=by
 rintro pins s τ H Q I ⟨σ,G,Q3,rs,rg,h,k⟩
 have hsl:=ah;refine RK (fE I hg1 hm1 PyProof.Rows.boot_list (PyProof.Rows.callWith_type1 ?_ rfl rfl) (by decide) (by decide))
 show NZ _ _ (spliced [(false,eval (.Call (.Name "range" p2) [a] [] Tp) X.env)]) _ _ _
 refine OP (RK (fE I hg2 hm2 Ta (PyProof.Rows.callWith_type1 (cz (ha Tp pins s τ H (fun vs H1=>∃ ds G1,(match ds with|[.int j]=>(0<=j/\j<=65536)/\Q3 (.fl (dL 0 j.toNat)) G1|_=>False)/\Kp G H G1 H1/\RG X.K H1 G1/\RDs X.K H1 ds vs) I
  ⟨σ,G,_,rs,rg,h,fun ds G1 vs H1 q k1 rg1 rds=>⟨ds,G1,q,k1,rg1,rds⟩⟩) fun us s1 ⟨vs,H1,I1,r1,q1⟩=>?_) hs rfl) (by decide) (by decide)))
 obtain⟨ds,G1,q,k1,rg1,rds⟩:=q1;split at q
 ·rename_i j;obtain⟨v,rfl,rd⟩:=fb rds;simp only[RD]at rd;subst rd;obtain⟨u,rfl,ru⟩:=rJ r1;obtain⟨t,rfl⟩:=ru;obtain⟨⟨hj0,hj1⟩,q⟩:=q;refine call_range_1 (O1 ?_);have sz:(s1.heap.push { cls:=.type "range",data:=.fields #[.int 0 s1.toks,.int j t,.int 1 (s1.toks+1)] }).objs.size=s1.heap.objs.size+1:=R5 ..;refine call_list_range (n:=j.toNat) (I.ok.hd hc) (IsRange.new ..) (small_one (by walk_at "o") (by walk_at "o") (by walk_at "o") (by walk_at "o")) (by rw[rangeSize_one];split<;>omega) (by walk_at "o") fun h' tk acc c' hk hS hacc=>?_
  have keep:∀ c o,s1.heap.get? c=some o->h'.get? c=some o:=fun c o e=>hk c o (NT _ e);have la:acc.toList.length=j.toNat:=by rw[Array.length_toList];exact hacc.1
  have vv:Vals (((List.range j.toNat).map fun (i:Nat)=>(0:Int)+i).map V.int) acc.toList:=by
   rw[<- la];refine Ac acc.toList _ fun i v q=>?_;obtain⟨t,e⟩:=hacc.2 i v (by simpa using q)
   exact⟨t,by rw[e,Int.mul_one]⟩
  have fr:H1 (s1.heap.objs.size+1)=none:=I1.hok.fresh (QM _);have hS':h'.get? (s1.heap.objs.size+1)=some { cls:=.type "list",data:=.seq acc.toList.toArray c' }:=by
   rw[<- sz]
   simpa using hS
  have I2:L2.Inv X pins τ (bq H1 (s1.heap.objs.size+1) (.lst (((List.range j.toNat).map fun (i:Nat)=>(0:Int)+i).map V.int))) { s1 with heap:=h',toks:=tk }:=I1.laid keep (QM _) ⟨by rw[NS,NS,Qz];omega,acc.toList,c',vv,hS'⟩
  have er:dL 0 j.toNat=((List.range j.toNat).map fun (i:Nat)=>(0:Int)+i).map D.int:=by simp[dL]
  rw[er]at q;refine⟨.ref (s1.heap.objs.size+1),_,I2,by show Value.ref _=Value.ref _;rw[sz],k _ G1 _ _ q (k1.trans (Kp.laid fr)) (rg1.laid fr) (.inl ⟨_,_,_,rfl,rfl,aN,rg1.free fr,RDs.ints _,k1.fr (mJ fr)⟩)⟩
 ·exact q.elim
theorem RDs.bls_inv{K:Sf}{H:Hp}:∀ (ns:List Bool) {xs:List V},RDs K H (ns.map D.bl) xs->xs=ns.map V.bl
 | [],xs,h=>h.inv_nil
 | n::r,xs,h=>by
  obtain⟨x,t,e,h1,h2⟩:=RDs.inv_cons (d:=.bl n) (ds:=r.map D.bl) h;simp only[RD]at h1;subst e h1;rw[RDs.bls_inv r h2];rfl
theorem Ax:∀ {ns:List Bool} {us:List NO},Vals (ns.map V.bl) us->us=ns.map Value.bool
 | [],us,w=>by cases w;rfl
 | n::r,us,w=>by
  rw[Od]at w;cases w with
  | cons h w=>
   cases h;rw[Ax w];rfl
def xg:CW:=fun ds G Q=>match ds with
 | [d]=>∃ bs:List Bool,wg G d=some (bs.map D.bl)/\Q (.bl (bs.all id)) G
 | _=>False
theorem xi:∀ (bs:List Bool),(List.range bs.length).all (fun i=>bs.getD i false)=bs.all id
 | []=>rfl
 | b::r=>by
  rw[Ob,List.range_succ_eq_map,List.all_cons,List.all_cons,List.all_map];have:=xi r;rw[<- this];rfl
theorem K9{X:Cx}(hc:X.calm=true):eV X (.builtin "all") (pW X.K xg):=by
 rintro pins s σ H vs us Q I rv ⟨ds,G,Q3,rds,rg,h,kk⟩
 unfold xg at h;split at h
 ·rename_i d;obtain⟨v,rfl,rd⟩:=fb rds;obtain⟨bs,he,h⟩:=h;obtain⟨a,xs,rfl,sq,r⟩:=mh (G:=G) (H:=H) he (.of rd) rg;obtain⟨u,rfl,ru⟩:=rJ rv;cases ru;rw[RDs.bls_inv bs r]at sq;obtain⟨its,w,pl,hz⟩:=I.list sq;have ei:its=bs.map Value.bool:=Ax w;have ll:a < s.heap.objs.size:=let ⟨o,e,_⟩:=pl.isList;N7 e;refine call_all_walk (QL pl.isList ?_);refine⟨s.heap.objs.size,_,_,_,_,_,fun i=>bs.getD i false,rfl,Walks.list (A:=X.A.in1) (I.ok.hd hc) _ a (Oq ll) its.toArray,⟨⟨_,NW _ rfl,rfl,rfl⟩,pl.isList.push _⟩,fun i v s Q E hP hQ=>?_,fun h' tk hk=>?_⟩
  ·have e:v=.bool (bs.getD i false):=by
    have hP':its[i]?=some v:=by simpa using hP
    rw[ei,N8]at hP';cases hb:bs[i]? with
    | none=>rw[hb]at hP';cases hP'
    | some b=>
     rw[hb]at hP';cases hP';rw[Oe,hb];rfl
   rw[e];exact PH hQ
  ·have el:its.toArray.size=bs.length:=by rw[N6,ei,NS]
   rw[el,xi];refine⟨.bl _,H,I.kept fun b o e=>hk b o (fun z=>?_) (NT _ e),rfl,kk _ G _ H h Kp.refl rg (.of im)⟩;rw[Rs.mp z]at e;exact absurd (N7 e) (Nat.lt_irrefl _)
 ·exact h.elim
def Aj(te:bG)(tl th ts:GR):bG:=fun σ G Q=>te σ G fun x G1=>tl σ G1 fun l G2=>th σ G2 fun u G3=>ts σ G3 fun st G4=>match x,st with
 | .str z,some k=>k≠0/\z.length<=NY/\∀ y:Str,y.length<=z.length->Q (.str y) G4
 | _,_=>False
theorem Do{X:Cx}{e:Oj}{te:bG}{lo hi:Option Oj}{st:Oj}{tl th ts:GR}{p2 pos:Pos}(he:PE X e (aB X.K te))(hl:PO X lo (se X.K tl))(hu:PO X hi (se X.K th))(hst:PO X (some st) (se X.K ts)):PE X (.Subscript e (.Slice lo hi (some st) p2) pos) (aB X.K (Aj te tl th ts)):=by
 rintro pins s τ H Q I ⟨σ,G,Q3,rs,rg,h,k⟩
 have po:∀ {oe:Option Oj} {t:GR} {s:NP} {H:Hp} {σ:ff} {G:Gp} {q:Option Int->Gp->Prop},PO X oe (se X.K t)->L2.Inv X pins τ H s->RS X.K H σ τ->RG X.K H G->t σ G q->
   NZ (N4 X.prog X.w) X.A (evalPart oe X.env) (fun u s'=>∃ o H',L2.Inv X pins τ H' s'/\Q0 u o/\∃ G',q o G'/\Kp G H G' H'/\RG X.K H' G') X.xe s:=fun hp I rs rg ht=>
  hp pins _ τ _ _ I ⟨_,_,_,rs,rg,ht,fun o G' H' q k rg'=>⟨G',q,k,rg'⟩⟩
 refine R9 (cz (dN he I rs rg h) fun v s1 zz=>?_);obtain⟨ox,H1,I1,rox,x,G1,q1,k1,rg1,rd1⟩:=zz;refine wpAny_Slice (cz (po hl I1 (rs.mono (k1.stb rg)) rg1 q1) fun vl s2 zz=>?_);obtain⟨l,H2,I2,pl,G2,q2,k2,rg2⟩:=zz;refine cz (po hu I2 (rs.mono ((k1.trans k2).stb rg)) rg2 q2) fun vu s3 zz=>?_;obtain⟨u,H3,I3,pu,G3,q3,k3,rg3⟩:=zz;refine cz (po hst I3 (rs.mono ((k1.trans (k2.trans k3)).stb rg)) rg3 q3) fun vs s4 zz=>?_;obtain⟨stp,H4,I4,ps,G4,q4,k4,rg4⟩:=zz;split at q4
 ·rename_i z kst;obtain⟨n0,hz,q4⟩:=q4;simp only[val,RD]at rd1;subst rd1;obtain⟨t,rfl⟩:=rox;have I5:L2.Inv X pins τ H4 { s4 with heap:=s4.heap.push { cls:=.type "slice",data:=.fields #[vl,vu,vs] } }:=I4.kept (t':=s4.toks) fun b ob q=>NT _ q
  have part:∀ {v:NO} {o:Option Int},Q0 v o->∃ p:Option (Int×Tok),v=Si p/\p.map (·.1)=o:=by
   intro v o h;cases h with
   | none=>exact⟨none,rfl,rfl⟩
   | int i t=>exact⟨some (i,t),rfl,rfl⟩
  obtain⟨pl',e1,f1⟩:=part pl;obtain⟨pu',e2,f2⟩:=part pu;cases ps with
  | int _ kt=>
  subst e1 e2;show NZ (N4 X.prog X.w) X.A (Rr e (.Slice lo hi (some st) p2) (.str z t) (.ref s4.heap.objs.size)) _ X.xe { s4 with heap:=s4.heap.push { cls:=.type "slice",data:=.fields #[Si pl',Si pu',.int kst kt] } }
  refine tail_any (ops:=[.ref s4.heap.objs.size,.str z t]) (R4 _ _ _) PySem.F.slot_str_getitem.lookup ?_ (by with_unfolding_all rfl)
  refine Sh (l:=pl') (u:=pu') (st:=some (kst,kt)) ⟨_,NW _ rfl,rfl,rfl⟩ (by simpa using n0) ?_
  have le:=Txt.sliceBy_le z pl' pu' (kst,kt) n0;exact post_val_or_str ⟨le_trans le hz,fun t' c=>⟨.str _,H4,I5.tok c,⟨t',rfl⟩,k _ G4 _ _ (q4 (Txt.sliceBy z pl' pu' (kst,kt)) le) (k1.trans (k2.trans (k3.trans k4))) rg4 (.of iT)⟩⟩
 ·exact q4.elim
end L3
namespace L2
open PySem PySem.Spec PyProof.Rows
abbrev gG(h:Of)(z TI TO:NR)(f0 f1:NO):Prop:=
 h.get? z=some { cls:=.type "zip",dict:=none,data:=.fields #[f0,f1,.bool false,.ref TI,.ref TO],slots:=#[] }
def BY(f0:NO):Prop:=f0=.none\/∃ T:NR,f0=PN T
structure ZApart(z TI TO i1 i2:NR)(fp1 fp2:List NR):Prop where
 a1:TI≠z
 a2:TO≠z
 a3:i1≠z
 a4:i2≠z
 a5:TI≠TO
 a6:TI≠i1
 a7:TI≠i2
 a8:TO≠i1
 a9:TO≠i2
 a10:i1≠i2
 f1:∀ b∈fp1,b≠z/\b≠TO/\b≠i2
 f2:∀ b∈fp2,b≠z/\b≠TO/\b≠i1
section
variable{prog:N_}{w:Og}{A:Oc}{E:NO->NP->Prop}{s:NP}
theorem Em{α:Type}{M:Model}{a:NR}{k:Option Obj->Sem α}{Q:α->NP->Prop}(h:NZ M A (k (s.heap.get? a)) Q E s):NZ M A (SN a >>= k) Q E s:=fun Γ p hΓ=>by
 have e:(SN a >>= k)=Sem.loadIfAlive a k:=rfl;rw[e,Sem.wp_loadIfAlive];exact h Γ p hΓ
theorem yY{z TI TO:NR}{f0 f1:NO}{Q:Bool->NP->Prop}(hz:gG s.heap z TI TO f0 f1)(hf:BY f0)(q1:Q true s)
  (q2:∀ h' f1',gG h' z TI TO f0 f1'->Pz z s.heap h'->Q false { s with heap:=h' }):NZ (N4 prog w) A (O9 (.ref z)) Q E s:=by
 unfold O9;refine NN (O6 hz rfl (x:=f0) rfl ?_);rcases hf with rfl|⟨T,rfl⟩
 ·exact NQ q1
 ·show NZ _ _ (SN _ >>= _) _ _ _;refine Em ?_;cases hT:s.heap.get? (Int.toNat (T:Int)) with
  | none=>exact NQ q1
  | some o=>
   show NZ _ _ (field (.ref z) 1 >>= _) _ _ _
   refine NN (O6 hz rfl (x:=f1) rfl ?_)
   by_cases e:(f1 != Value.bool true)=true
   ·rw[if_pos e];exact NN (OX hz (by simp) fun h1 hz1 hs1=>NQ (q2 h1 _ hz1 hs1))
   ·rw[if_neg e];exact NN (NQ (NQ (q2 s.heap f1 hz (Tj ..))))
theorem yZ{z TI TO i1 i2:NR}{f0 f1 a b:NO}{i:Nat}{fp1 fp2:List NR}{n1 n2:Nat}{P1 P2:Nat->NO->Prop}{St1 St2:Nat->Of->Prop}{Q:Option NO->NP->Prop}
  (D1:SU prog w A.in1 i1 fp1 n1 P1 St1) (D2:SU prog w A.in1 i2 fp2 n2 P2 St2) (D:ZApart z TI TO i1 i2 fp1 fp2) (hz:gG s.heap z TI TO f0 f1) (hf:BY f0) (hTI:Qd s.heap TI (.ref i1) (.ref i2)) (hTO:Qd s.heap TO a b)
  (h1:St1 i s.heap) (h2:St2 i s.heap) (l1:i < n1) (l2:i < n2)
  (hQ:∀ h' tk x y f0' f1' a' b',P1 i x->P2 i y->BY f0'->gG h' z TI TO f0' f1'->Qd h' TO a' b'->St1 (i+1) h'->St2 (i+1) h'->Qd h' s.heap.objs.size x y->h'.objs.size=s.heap.objs.size+1->
   (∀ c o,c≠z->c≠TO->c≠i1->c≠i2->s.heap.get? c=some o->h'.get? c=some o)->Q (some (.ref s.heap.objs.size)) { s with heap:=h',toks:=tk }):
  NZ (N4 prog w) A (Pu (.ref z)) Q E s:=by
 have hT:s.TypeIs (.ref z) "zip":=⟨_,hz,rfl⟩;unfold Pu;refine NN (P4 (OR (name:=NU "__next__") hT Q4 (OQ Q4 hT F.entry_zip_next ?_ (Tk _))));show NZ _ _ (field (.ref z) 2 >>= _) _ _ _;refine NN (O6 hz rfl (x:=.bool false) rfl ?_)
 show NZ _ _ (field (.ref z) 3 >>= _) _ _ _;refine NN (O6 hz rfl (x:=.ref TI) rfl ?_)
 refine NN (PL hTI rfl ?_);show NZ _ _ (O9 (.ref z) >>= _) _ _ _;refine NN (yY hz hf ?_ fun h0 f1' hz0 hs0=>?_)
 ·simp only[if_true];refine NN (Rt ?_);refine NN (O6 hz rfl (x:=.ref TO) rfl ?_);refine NN (OX hz (by simp) fun g1 z1 s1=>?_)
  replace z1:gG g1 z TI TO .ellipsis f1:=z1
  refine NN ?_;simp only[List.zipIdx_cons,List.zipIdx_nil,Qc,QU];refine NN (NN (Rq ?_));show NZ _ _ (OG (.ref i1) >>= _) _ _ _;refine NN (D1.item i { s with heap:=g1 } _ _ l1 (D1.frame i _ _ h1 fun b hb o e=>s1.extBut _ _ (D.f1 b hb).1 e) fun x g2 t2 p1 st1 s2=>NQ ?_)
  have o2:Qd g2 TO a b:=s2.extBut _ _ D.a8 (s1.extBut _ _ D.a2 hTO);refine NN (PL o2 rfl ?_);refine NN (Q8 o2 fun g3 o3 s3=>?_)
  replace o3:Qd g3 TO x b:=o3
  refine NN (Q_ (NQ ?_));refine NN (NN (Rq ?_));show NZ _ _ (OG (.ref i2) >>= _) _ _ _;refine NN (D2.item i { s with heap:=g3,toks:=t2 } _ _ l2 (D2.frame i _ _ h2 fun b hb o e=>s3.extBut _ _ (D.f2 b hb).2.1 (s2.extBut _ _ (D.f2 b hb).2.2 (s1.extBut _ _ (D.f2 b hb).1 e))) fun y g4 t4 p2 st2 s4=>NQ ?_)
  have o4:Qd g4 TO x b:=s4.extBut _ _ D.a9 o3;refine NN (PL o4 rfl ?_);refine NN (Q8 o4 fun g5 o5 s5=>?_)
  replace o5:Qd g5 TO x y:=o5
  refine NN (Q_ (NQ (NQ ?_)));refine NN (PL o5 rfl ?_);refine NN (R1 ?_);have sz:g5.objs.size=s.heap.objs.size:=by rw[s5.1,s4.1,s3.1,s2.1,s1.1]
  have z5:gG g5 z TI TO .ellipsis f1:=s5.extBut _ _ D.a2.symm (s4.extBut _ _ D.a4.symm (s3.extBut _ _ D.a2.symm (s2.extBut _ _ D.a3.symm z1)));have k5:∀ c o,c≠z->c≠TO->c≠i1->c≠i2->s.heap.get? c=some o->g5.get? c=some o:=fun c o c1 c2 c3 c4 e=>s5.extBut _ _ c2 (s4.extBut _ _ c4 (s3.extBut _ _ c2 (s2.extBut _ _ c3 (s1.extBut _ _ c1 e))));have lz:z < g5.objs.size:=N7 z5;show NZ _ _ (Ro (.ref z) (.ref g5.objs.size) >>= _) _ _ _;refine NN ?_;unfold Ro
  have z6:gG (g5.push { cls:=.type "tuple",data:=.seq #[x,y] }) z TI TO .ellipsis f1:=NT _ z5;refine NN (OX z6 (by simp) fun g7 z7 s7=>?_)
  replace z7:gG g7 z TI TO (PN g5.objs.size) f1:=z7
  refine OX z7 (by simp) fun g8 z8 s8=>?_
  replace z8:gG g8 z TI TO (PN g5.objs.size) (.bool false):=z8
  have up:∀ c o,c≠z->g5.get? c=some o->g8.get? c=some o:=fun c o c1 e=>s8.extBut _ _ c1 (s7.extBut _ _ c1 (NT _ e));have t8:Qd g8 g5.objs.size x y:=s8.extBut _ _ (Rb lz) (s7.extBut _ _ (Rb lz) (NW _ rfl));have sz8:g8.objs.size=g5.objs.size+1:=by rw[s8.1,s7.1,Pf]
  have r1:St1 (i+1) g8:=D1.frame _ _ _ st1 fun b hb o e=>up b o (D.f1 b hb).1 (s5.extBut _ _ (D.f1 b hb).2.1 (s4.extBut _ _ (D.f1 b hb).2.2 (s3.extBut _ _ (D.f1 b hb).2.1 e)));have r2:St2 (i+1) g8:=D2.frame _ _ _ st2 fun b hb o e=>up b o (D.f2 b hb).1 (s5.extBut _ _ (D.f2 b hb).2.1 e);rw[sz]at z8 t8 sz8;refine NQ ⟨.ref g5.objs.size,rfl,NQ ?_⟩;rw[sz];exact hQ g8 t4 x y _ _ x y p1 p2 (.inr ⟨_,rfl⟩) z8 (up _ _ D.a2 o5) r1 r2 t8 sz8 fun c o c1 c2 c3 c4 e=>up c o c1 (k5 c o c1 c2 c3 c4 e)
 ·simp only[Bool.false_eq_true,if_false];rw[<- Array.forIn_toList];simp only[Qc,QU];refine NN (NN (NN (OH ?_)));show NZ _ _ (OG (.ref i1) >>= _) _ _ _
  refine NN (D1.item i { s with heap:=h0 } _ _ l1 (D1.frame i _ _ h1 fun b hb o e=>hs0.extBut _ _ (D.f1 b hb).1 e) fun x g2 t2 p1 st1 s2=>NQ (NQ ?_))
  refine NN (NN (OH ?_));show NZ _ _ (OG (.ref i2) >>= _) _ _ _
  refine NN (D2.item i { s with heap:=g2,toks:=t2 } _ _ l2 (D2.frame i _ _ h2 fun b hb o e=>s2.extBut _ _ (D.f2 b hb).2.2 (hs0.extBut _ _ (D.f2 b hb).1 e)) fun y g4 t4 p2 st2 s4=>NQ (NQ (NQ ?_)))
  refine NN (R1 ?_ (by show 2<=NY;decide))
  have sz:g4.objs.size=s.heap.objs.size:=by rw[s4.1,s2.1,hs0.1]
  have k4:∀ c o,c≠z->c≠TO->c≠i1->c≠i2->s.heap.get? c=some o->g4.get? c=some o:=fun c o c1 _ c3 c4 e=>s4.extBut _ _ c4 (s2.extBut _ _ c3 (hs0.extBut _ _ c1 e));have z4:gG g4 z TI TO f0 f1':=s4.extBut _ _ D.a4.symm (s2.extBut _ _ D.a3.symm hz0);have o4:Qd g4 TO a b:=s4.extBut _ _ D.a9 (s2.extBut _ _ D.a8 (hs0.extBut _ _ D.a2 hTO));refine NQ ⟨.ref g4.objs.size,rfl,NQ ?_⟩;have up:∀ c o,g4.get? c=some o->(g4.push { cls:=.type "tuple",data:=.seq #[x,y] }).get? c=some o:=fun c o e=>NT _ e;have t8:Qd (g4.push { cls:=.type "tuple",data:=.seq #[x,y] }) g4.objs.size x y:=NW _ rfl;have sz8:(g4.push { cls:=.type "tuple",data:=.seq #[x,y] }).objs.size=g4.objs.size+1:=Pf ..;rw[sz]at t8 sz8 ⊢;exact hQ _ t4 x y _ _ a b p1 p2 hf (up _ _ z4) (up _ _ o4) (D1.frame _ _ _ st1 fun b hb o e=>up _ _ (s4.extBut _ _ (D.f1 b hb).2.2 e)) (D2.frame _ _ _ st2 fun b _ o e=>up b o e) t8 sz8 fun c o c1 c2 c3 c4 e=>up _ _ (k4 c o c1 c2 c3 c4 e)
theorem AQ{z TI TO i1 i2:NR}{f0 f1 a b:NO}{i:Nat}{fp1 fp2:List NR}{n1 n2:Nat}{P1 P2:Nat->NO->Prop}{St1 St2:Nat->Of->Prop}{Q:Option NO->NP->Prop}
  (D1:SU prog w A.in1 i1 fp1 n1 P1 St1) (D2:SU prog w A.in1 i2 fp2 n2 P2 St2) (D:ZApart z TI TO i1 i2 fp1 fp2) (hz:gG s.heap z TI TO f0 f1) (hf:BY f0) (hTI:Qd s.heap TI (.ref i1) (.ref i2)) (hTO:Qd s.heap TO a b)
  (h1:St1 i s.heap) (h2:St2 i s.heap) (le:i=n1\/(i < n1/\i=n2))
  (hQ:∀ h' tk,(∀ c o,c≠z->c≠TO->c≠i1->c≠i2->s.heap.get? c=some o->h'.get? c=some o)->Q none { s with heap:=h',toks:=tk }):
  NZ (N4 prog w) A (Pu (.ref z)) Q E s:=by
 have hT:s.TypeIs (.ref z) "zip":=⟨_,hz,rfl⟩;unfold Pu;have fin:∀ {h':Of} {tk:Nat} {e:NR},(∀ c o,c≠z->c≠TO->c≠i1->c≠i2->s.heap.get? c=some o->h'.get? c=some o)->(∃ o,h'.get? e=some o/\o.cls=.type "StopIteration")->
   NZ (N4 prog w) A (do if <- isInstance (.ref e) (.type "StopIteration")then pure none else throw (.ref e)) Q E { s with heap:=h',toks:=tk }:=fun hk ⟨o,ho,hc⟩=>
  NN (QT (T:="StopIteration") (b:=true) ⟨o,ho,hc⟩ R8 (NQ (hQ _ _ hk)))
 refine NN (P4 (OR (name:=NU "__next__") hT Q4 (OQ Q4 hT F.entry_zip_next ?_ (Tk _))));show NZ _ _ (field (.ref z) 2 >>= _) _ _ _;refine NN (O6 hz rfl (x:=.bool false) rfl ?_)
 show NZ _ _ (field (.ref z) 3 >>= _) _ _ _;refine NN (O6 hz rfl (x:=.ref TI) rfl ?_)
 refine NN (PL hTI rfl ?_);show NZ _ _ (O9 (.ref z) >>= _) _ _ _;refine NN (yY hz hf ?_ fun h0 f1' hz0 hs0=>?_)
 ·simp only[if_true];refine NN (Rt ?_);refine NN (O6 hz rfl (x:=.ref TO) rfl ?_);refine NN (OX hz (by simp) fun g1 z1 s1=>?_)
  replace z1:gG g1 z TI TO .ellipsis f1:=z1
  refine NN ?_;simp only[List.zipIdx_cons,List.zipIdx_nil,Qc,QU];refine NN (NN (Rq ?_));show NZ _ _ (OG (.ref i1) >>= _) _ _ _;have st0:St1 i g1:=D1.frame i _ _ h1 fun b hb o e=>s1.extBut _ _ (D.f1 b hb).1 e;rcases le with rfl|⟨l1,rfl⟩
  ·refine NN (D1.done { s with heap:=g1 } _ _ st0 fun g2 e s2 he=>?_)
   obtain⟨oe,hoe,hce⟩:=he;have z2:gG g2 z TI TO .ellipsis f1:=s2 _ _ D.a3.symm z1;have hez:e≠z:=fun x=>by subst x;rw[z2]at hoe;cases hoe;simp at hce
   exact OX z2 (by simp) fun g3 _ s3=>fin (tk:=s.toks) (fun c o c1 _ c3 _ x=>s3.extBut _ _ c1 (s2 _ _ c3 (s1.extBut _ _ c1 x))) ⟨oe,s3.extBut _ _ hez hoe,hce⟩
  ·refine NN (D1.item i { s with heap:=g1 } _ _ l1 st0 fun x g2 t2 p1 st1 s2=>NQ ?_)
   have o2:Qd g2 TO a b:=s2.extBut _ _ D.a8 (s1.extBut _ _ D.a2 hTO);refine NN (PL o2 rfl ?_);refine NN (Q8 o2 fun g3 o3 s3=>?_);refine NN (Q_ (NQ ?_));refine NN (NN (Rq ?_));show NZ _ _ (OG (.ref i2) >>= _) _ _ _;refine NN (D2.done { s with heap:=g3,toks:=t2 } _ _ (D2.frame i _ _ h2 fun b hb o e=>s3.extBut _ _ (D.f2 b hb).2.1 (s2.extBut _ _ (D.f2 b hb).2.2 (s1.extBut _ _ (D.f2 b hb).1 e))) fun g4 e s4 he=>?_)
   obtain⟨oe,hoe,hce⟩:=he;have z4:gG g4 z TI TO .ellipsis f1:=s4 _ _ D.a4.symm (s3.extBut _ _ D.a2.symm (s2.extBut _ _ D.a3.symm z1));have hez:e≠z:=fun x=>by subst x;rw[z4]at hoe;cases hoe;simp at hce
   exact OX z4 (by simp) fun g5 _ s5=>fin (tk:=t2) (fun c o c1 c2 c3 c4 x=>s5.extBut _ _ c1 (s4 _ _ c4 (s3.extBut _ _ c2 (s2.extBut _ _ c3 (s1.extBut _ _ c1 x))))) ⟨oe,s5.extBut _ _ hez hoe,hce⟩
 ·simp only[Bool.false_eq_true,if_false];rw[<- Array.forIn_toList];simp only[Qc,QU];refine NN (NN (NN (OH ?_)));show NZ _ _ (OG (.ref i1) >>= _) _ _ _
  have st0:St1 i h0:=D1.frame i _ _ h1 fun b hb o e=>hs0.extBut _ _ (D.f1 b hb).1 e;rcases le with rfl|⟨l1,rfl⟩
  ·exact NN (D1.done { s with heap:=h0 } _ _ st0 fun g2 e s2 he=>fin (tk:=s.toks) (fun c o c1 _ c3 _ x=>s2 _ _ c3 (hs0.extBut _ _ c1 x)) he)
  ·refine NN (D1.item i { s with heap:=h0 } _ _ l1 st0 fun x g2 t2 p1 st1 s2=>NQ (NQ ?_))
   refine NN (NN (OH ?_));show NZ _ _ (OG (.ref i2) >>= _) _ _ _
   exact NN (D2.done { s with heap:=g2,toks:=t2 } _ _ (D2.frame i _ _ h2 fun b hb o e=>s2.extBut _ _ (D.f2 b hb).2.2 (hs0.extBut _ _ (D.f2 b hb).1 e)) fun g4 e s4 he=>fin (tk:=t2) (fun c o c1 _ c3 c4 x=>s4 _ _ c4 (s2.extBut _ _ c3 (hs0.extBut _ _ c1 x))) he)
theorem JD{tg:Oj}{z TI TO:NR}{f0 f1 u:NO}{Q:Unit->NP->Prop}(hz:gG s.heap z TI TO f0 f1)(hf:BY f0)
  (hQ:∀ h' f0',BY f0'->gG h' z TI TO f0' f1->Pz z s.heap h'->Q () { s with heap:=h' }):NZ (N4 prog w) A (Qa tg (.ref z) u) Q E s:=by
 have same:Q () s:=hQ s.heap f0 hf hz (Tj ..);unfold Qa;cases tg<;>first
  | exact NQ same
  | (cases u<;>first
    | exact NQ same
    | (refine NN (wpAny_load hz ?_)
       dsimp only;split
       ·refine NN (Rt ?_);exact OX hz (by simp) fun h1 z1 s1=>hQ h1 _ (.inl rfl) z1 s1
       ·exact NQ same))
end
inductive Zk where
 | lst (l:NR) (xs:List V)
 | txt (z:Str) (t:Tok)
def Zk.vs:Zk->List V
 | .lst _ xs=>xs
 | .txt z _=>bm z
def Zk.val:Zk->NO
 | .lst l _=>.ref l
 | .txt z t=>.str z t
def Zk.here(K:Sf)(H:Hp):Zk->Prop
 | .lst l xs=>jw K H l xs
 | .txt _ _=>True
def Zk.ready(h:Of):Zk->Prop
 | .lst l xs=>∃ us,Vals xs us/\h.IsList l us.toArray
 | .txt _ _=>True
def Zk.it(it:NR)(i:Nat)(h:Of):Zk->Prop
 | .lst l _=>h.IsListIter it l i
 | .txt z t=>h.IsStrIter it (PM z) z t i
theorem nL(z:Str):PM z="str_ascii_iterator"\/PM z="str_iterator":=by unfold PM;split;exact .inl rfl;exact .inr rfl
theorem Zk.obj{k:Zk}{it:NR}{i:Nat}{h:Of}(x:k.it it i h):∃ o,h.get? it=some o/\(∀ v,o.data≠.cell v)/\o.cls≠.type "list"/\o.cls≠.type "tuple"/\o.cls≠.type "zip":=by
 cases k with
 | lst l xs=>
  obtain⟨o,e,c,d⟩:=x;exact⟨o,e,(fun v z=>by rw[d]at z;cases z),by rw[c];decide,by rw[c];decide,by rw[c];decide⟩
 | txt z t=>
  obtain⟨o,e,c,d⟩:=x;refine⟨o,e,(fun v z=>by rw[d]at z;cases z),?_⟩
  rw[c];rcases nL z with q|q<;>rw[q]<;>decide
theorem Zk.keep{k:Zk}{it:NR}{i:Nat}{h h':Of}(x:k.it it i h)(q:∀ o,h.get? it=some o->h'.get? it=some o):k.it it i h':=by
 cases k with
 | lst l xs=>exact x.at fun o e=>q o e
 | txt z t=>
  obtain⟨o,e,c⟩:=x;exact⟨o,q o e,c⟩
theorem Zk.of{X:Cx}{pins:List (NR×Obj)}{σ:St}{H:Hp}{s:NP}{k:Zk}(I:Inv X pins σ H s)(x:k.here X.K H):k.ready s.heap:=by
 cases k with
 | lst l xs=>
  obtain⟨its,rv,p,_⟩:=I.list x;exact⟨its,rv,p.isList⟩
 | txt z t=>exact True.intro
theorem Zk.draws{P:N_}{w:Og}{k:Zk}{it:NR}{h:Of}{j:Nat}(x:k.ready h)(y:k.it it j h):∃ (fp:List NR) (Pv:Nat->NO->Prop) (St:Nat->Of->Prop),(∀ A:Oc,A.handled=none->SU P w A it fp k.vs.length Pv St)/\(∀ i v,Pv i v->∃ u,k.vs[i]?=some u/\aF u v)/\
  (∀ i,k.it it i h->St i h)/\(∀ i h',St i h'->k.it it i h')/\∀ b∈fp,b=it\/∃ o,h.get? b=some o/\o.cls=.type "list":=by
 cases k with
 | lst l xs=>
  obtain⟨us,rv,p⟩:=x;obtain⟨o,e,c,d⟩:=id y;obtain⟨o',e',c',d'⟩:=id p;have hne:l≠it:=fun z=>by subst z;rw[e]at e';cases e';rw[c]at c';exact absurd c' (by decide)
  have hl:us.toArray.size=xs.length:=by rw[N6];exact rv.length.symm
  refine⟨[it,l],fun i v=>us.toArray[i]?=some v,fun i h=>h.IsListIter it l i/\h.IsList l us.toArray,fun A hh=>?_,fun i v q=>?_,fun i q=>⟨q,p⟩,fun i h' q=>q.1,fun b hb=>?_⟩
  ·have:=Draws.list (prog:=P) (w:=w) hh it l hne us.toArray;rw[hl]at this;exact this
  ·have q':us[i]?=some v:=by simpa using q
   obtain⟨u,e1,r⟩:=L3.Vals.getV rv q';exact⟨u,e1,r⟩
  ·have hb':b=it\/b=l:=by simpa using hb
   rcases hb' with rfl|rfl
   ·exact .inl rfl
   ·exact .inr ⟨o',e',c'⟩
 | txt z t=>
  have hz:(bm z).length=z.cps.size:=by simp[bm]
  refine⟨[it],fun i v=>∃ c u,z.cps[i]?=some c/\v=.str ⟨#[c]⟩ u,fun i h=>h.IsStrIter it (PM z) z t i,fun A hh=>?_,fun i v q=>?_,fun i q=>q,fun i h' q=>q,fun b hb=>.inl (by simpa using hb)⟩
  ·show SU P w A it [it] (bm z).length _ _;rw[hz];rcases nL z with q|q<;>rw[q]
   ·exact Draws.strAscii hh it z t
   ·exact Draws.strWide hh it z t
  ·obtain⟨c,u,e1,rfl⟩:=q;have e2:z.cps.toList[i]?=some c:=by simpa using e1
   exact⟨.str ⟨#[c]⟩,by simp[Zk.vs,bm,e2],⟨u,rfl⟩⟩
def CV(k1 k2:Zk)(z TI TO i1 i2:NR)(i:Nat)(h:Of):Prop:=
 (∃ f0 f1,BY f0/\gG h z TI TO f0 f1)/\Qd h TI (.ref i1) (.ref i2)/\(∃ a b,Qd h TO a b)/\k1.it i1 i h/\k2.it i2 i h
structure ZAp(z TI TO i1 i2:NR):Prop where
 t:TI≠TO
 i:i1≠i2
theorem CV.apart{k1 k2:Zk}{z TI TO i1 i2:NR}{i:Nat}{h:Of}{fp1 fp2:List NR}(D:ZAp z TI TO i1 i2)(x:CV k1 k2 z TI TO i1 i2 i h)(q1:∀ b∈fp1,b=i1\/∃ o,h.get? b=some o/\o.cls=.type "list")(q2:∀ b∈fp2,b=i2\/∃ o,h.get? b=some o/\o.cls=.type "list"):ZApart z TI TO i1 i2 fp1 fp2:=by
 obtain⟨⟨f0,f1,_,hz⟩,hTI,⟨a,b,hTO⟩,h1,h2⟩:=x;obtain⟨o1,e1,_,c1,c2,c3⟩:=Zk.obj h1;obtain⟨o2,e2,_,d1,d2,d3⟩:=Zk.obj h2;have ne:∀ {a b:NR} {o o':Obj},h.get? a=some o->h.get? b=some o'->o.cls≠o'.cls->a≠b:=fun ha hb hc z=>by subst z;rw[ha]at hb;cases hb;exact hc rfl
 have y1:i1≠z:=ne e1 hz c3;have y2:i2≠z:=ne e2 hz d3;have y3:TO≠i1:=(ne e1 hTO c2).symm;have y4:TO≠i2:=(ne e2 hTO d2).symm;have tz:Value.type "tuple"≠Value.type "zip":=by decide
 have lz:Value.type "list"≠Value.type "zip":=by decide
 have lt:Value.type "list"≠Value.type "tuple":=by decide
 refine⟨ne hTI hz tz,ne hTO hz tz,y1,y2,D.t,(ne e1 hTI c2).symm,(ne e2 hTI d2).symm,y3,y4,D.i,fun b hb=>?_,fun b hb=>?_⟩
 ·rcases q1 b hb with rfl|⟨o,e,c⟩
  ·exact⟨y1,y3.symm,D.i⟩
  ·exact⟨ne e hz (by rw[c];exact lz),ne e hTO (by rw[c];exact lt),ne e e2 (by rw[c];exact d1.symm)⟩
 ·rcases q2 b hb with rfl|⟨o,e,c⟩
  ·exact⟨y2,y4.symm,D.i.symm⟩
  ·exact⟨ne e hz (by rw[c];exact lz),ne e hTO (by rw[c];exact lt),ne e e1 (by rw[c];exact c1.symm)⟩
section
variable{prog:N_}{w:Og}{A:Oc}{E:NO->NP->Prop}{s:NP}{k1 k2:Zk}{z TI TO i1 i2:NR}{i:Nat}
theorem B2{Q:Option NO->NP->Prop}(hh:A.in1.handled=none)(D:ZAp z TI TO i1 i2)(x:CV k1 k2 z TI TO i1 i2 i s.heap)(r1:k1.ready s.heap)(r2:k2.ready s.heap)(l1:i < k1.vs.length)(l2:i < k2.vs.length)
  (hQ:∀ h' tk x y u v,k1.vs[i]?=some u->k2.vs[i]?=some v->aF u x->aF v y->CV k1 k2 z TI TO i1 i2 (i+1) h'->Qd h' s.heap.objs.size x y->h'.objs.size=s.heap.objs.size+1->
   (∀ c o,c∉[z,TI,TO,i1,i2]->s.heap.get? c=some o->h'.get? c=some o)->Q (some (.ref s.heap.objs.size)) { s with heap:=h',toks:=tk }):NZ (N4 prog w) A (Pu (.ref z)) Q E s:=by
 obtain⟨fp1,P1,St1,D1,v1,t1,b1,q1⟩:=Zk.draws (P:=prog) (w:=w) r1 x.2.2.2.1;obtain⟨fp2,P2,St2,D2,v2,t2,b2,q2⟩:=Zk.draws (P:=prog) (w:=w) r2 x.2.2.2.2;have ap:=x.apart D q1 q2;obtain⟨⟨f0,f1,hf,hz⟩,hTI,⟨a,b,hTO⟩,h1,h2⟩:=x;refine yZ (D1 _ hh) (D2 _ hh) ap hz hf hTI hTO (t1 i h1) (t2 i h2) l1 l2 fun h' tk x y f0' f1' a' b' p1 p2 hf' z' o' s1 s2 tp sz kp=>?_;obtain⟨u,e1,ru⟩:=v1 i x p1;obtain⟨v,e2,rv⟩:=v2 i y p2;exact hQ h' tk x y u v e1 e2 ru rv ⟨⟨f0',f1',hf',z'⟩,kp _ _ ap.a1 ap.a5 ap.a6 ap.a7 hTI,⟨a',b',o'⟩,b1 _ _ s1,b2 _ _ s2⟩ tp sz fun c o hc e=>kp c o (fun q=>hc (by simp[q])) (fun q=>hc (by simp[q])) (fun q=>hc (by simp[q])) (fun q=>hc (by simp[q])) e
theorem Ek{Q:Option NO->NP->Prop}(hh:A.in1.handled=none)(D:ZAp z TI TO i1 i2)(x:CV k1 k2 z TI TO i1 i2 i s.heap)(r1:k1.ready s.heap)(r2:k2.ready s.heap)(l:i=min k1.vs.length k2.vs.length)
  (hQ:∀ h' tk,(∀ c o,c∉[z,TI,TO,i1,i2]->s.heap.get? c=some o->h'.get? c=some o)->Q none { s with heap:=h',toks:=tk }):NZ (N4 prog w) A (Pu (.ref z)) Q E s:=by
 obtain⟨fp1,P1,St1,D1,v1,t1,b1,q1⟩:=Zk.draws (P:=prog) (w:=w) r1 x.2.2.2.1;obtain⟨fp2,P2,St2,D2,v2,t2,b2,q2⟩:=Zk.draws (P:=prog) (w:=w) r2 x.2.2.2.2;have ap:=x.apart D q1 q2;obtain⟨⟨f0,f1,hf,hz⟩,hTI,⟨a,b,hTO⟩,h1,h2⟩:=x;exact AQ (D1 _ hh) (D2 _ hh) ap hz hf hTI hTO (t1 i h1) (t2 i h2) (by walk_at "o") fun h' tk kp=>hQ h' tk fun c o hc e=>kp c o (fun q=>hc (by simp[q])) (fun q=>hc (by simp[q])) (fun q=>hc (by simp[q])) (fun q=>hc (by simp[q])) e
theorem CV.keep{h h':Of}(x:CV k1 k2 z TI TO i1 i2 i h)(q:∀ b∈[z,TI,TO,i1,i2],∀ o,h.get? b=some o->h'.get? b=some o):CV k1 k2 z TI TO i1 i2 i h':=by
 obtain⟨⟨f0,f1,hf,hz⟩,hTI,⟨a,b,hTO⟩,h1,h2⟩:=x;exact⟨⟨f0,f1,hf,q z (by simp) _ hz⟩,q TI (by simp) _ hTI,⟨a,b,q TO (by simp) _ hTO⟩,Zk.keep h1 fun o e=>q i1 (by simp) o e,Zk.keep h2 fun o e=>q i2 (by simp) o e⟩
end
def Nq(K:Sf)(k1 k2:Zk):It:=
 ⟨fun i H=>(i < k1.vs.length/\i < k2.vs.length)/\k1.here K H/\k2.here K H,fun i H x H'=>∃ p u v,H p=none/\x=.ref p/\H'=bq H p (.tup [u,v])/\k1.vs[i]?=some u/\k2.vs[i]?=some v,fun i H=>i=min k1.vs.length k2.vs.length/\k1.here K H/\k2.here K H⟩
theorem tG{P:N_}{w:Og}{K:Sf}{tg:Oj}(k1 k2:Zk)(z TI TO i1 i2:NR)(D:ZAp z TI TO i1 i2):Turn P w K tg (Nq K k1 k2) [z,TI,TO,i1,i2] z (CV k1 k2 z TI TO i1 i2) where
 mem:=by simp
 obj:=fun i h st b hb=>by
  obtain⟨⟨f0,f1,hf,hz⟩,hTI,⟨a,b',hTO⟩,h1,h2⟩:=st;obtain⟨o1,e1,c1,_⟩:=Zk.obj h1;obtain⟨o2,e2,c2,_⟩:=Zk.obj h2;simp only[Oz,OF,or_false]at hb;rcases hb with rfl|rfl|rfl|rfl|rfl
  ·exact⟨_,hz,fun v q=>by cases q⟩
  ·exact⟨_,hTI,fun v q=>by cases q⟩
  ·exact⟨_,hTO,fun v q=>by cases q⟩
  ·exact⟨o1,e1,c1⟩
  ·exact⟨o2,e2,c2⟩
 keep:=fun i h h' st q=>st.keep q
 item:=by
  intro X hP hw hK hc i pins s σ H E I hf st hg;subst hP hw hK;obtain⟨⟨l1,l2⟩,e1,e2⟩:=hg;refine B2 (I.ok.hd hc) D st (Zk.of I e1) (Zk.of I e2) l1 l2 fun h' tk x y u v q1 q2 ru rv st' tp sz kp=>?_;refine⟨_,rfl,?_⟩;obtain⟨⟨f0,f1,hl,hz⟩,hTI,⟨a,b,hTO⟩,h1,h2⟩:=id st';refine JD (s:={ s with heap:=h',toks:=tk }) hz hl fun h2' f0' hl' hz' sb=>?_
  have hn:H s.heap.objs.size=none:=I.hok.fresh (le_refl _);have lt:∀ b∈[z,TI,TO,i1,i2],b≠s.heap.objs.size:=fun b hb=>by
   obtain⟨o,e,_⟩:=(show ∃ o,s.heap.get? b=some o/\True from by
    obtain⟨⟨g0,g1,_,gz⟩,gTI,⟨ga,gb,gTO⟩,k1',k2'⟩:=st;obtain⟨o1,x1,_⟩:=Zk.obj k1';obtain⟨o2,x2,_⟩:=Zk.obj k2';simp only[Oz,OF,or_false]at hb;rcases hb with rfl|rfl|rfl|rfl|rfl
    ·exact⟨_,gz,True.intro⟩
    ·exact⟨_,gTI,True.intro⟩
    ·exact⟨_,gTO,True.intro⟩
    ·exact⟨_,x1,True.intro⟩
    ·exact⟨_,x2,True.intro⟩)
   exact Oq (N7 e)
  have up:∀ c o,c≠z->h'.get? c=some o->h2'.get? c=some o:=fun c o hc e=>sb.extBut _ _ hc e;have hzs:z≠s.heap.objs.size:=lt z (by simp)
  have I0:Inv X pins σ (bq H s.heap.objs.size (.tup [u,v])) { s with heap:=s.heap.push { cls:=.type "tuple",data:=.seq #[x,y] },toks:=s.toks }:=by
   refine I.laid (t':=s.toks) (fun b v q=>NT _ q) (le_refl _) ?_;exact⟨by show 2<=NY;decide,[x,y],.cons ru (.cons rv .nil),vh.new _ _⟩
  have I1:Inv X pins σ (bq H s.heap.objs.size (.tup [u,v])) { s with heap:=h2',toks:=tk }:=by
   have:=Inv.turnedL (s:={ s with heap:=s.heap.push { cls:=.type "tuple",data:=.seq #[x,y] },toks:=s.toks }) (h':=h2') (t':=tk) (fp:=[z,TI,TO,i1,i2]) I0 (fun b o hb q=>?_) fun b hb=>?_
   ·exact this
   ·have hbz:b≠z:=fun q=>hb (by simp[q])
    have q':(s.heap.push { cls:=.type "tuple",data:=.seq #[x,y] }).get? b=some o:=q
    by_cases hbs:b=s.heap.objs.size
    ·subst hbs;rw[NW _ rfl]at q';cases q';exact up _ _ hbz tp
    ·rw[RI _ _ _ hbs]at q';exact up _ _ hbz (kp b o hb q')
   ·obtain⟨g0,g1,g2,g3,g4,g5⟩:=hf b hb;exact⟨by rw[aA (lt b hb)];exact g0,g1,g2,g3,g4,g5⟩
  have ap:=st'.apart (fp1:=[]) (fp2:=[]) D (fun b hb=>by simp at hb) fun b hb=>by simp at hb
  refine⟨.ref s.heap.objs.size,_,I1,rfl,⟨_,u,v,hn,rfl,rfl,q1,q2⟩,⟨⟨f0',f1,hl',hz'⟩,up _ _ ap.a1 hTI,⟨a,b,up _ _ ap.a2 hTO⟩,Zk.keep h1 fun o e=>up _ _ ap.a3 e,Zk.keep h2 fun o e=>up _ _ ap.a4 e⟩,fun b hb=>?_⟩;rw[aA (lt b hb)];exact (hf b hb).1
 done:=by
  intro X hP hw hK hc i pins s σ H E I hf st hg;subst hP hw hK;obtain⟨l,e1,e2⟩:=hg;exact Ek (I.ok.hd hc) D st (Zk.of I e1) (Zk.of I e2) l fun h' tk kp=>⟨rfl,I.turnedL (t':=tk) (fp:=[z,TI,TO,i1,i2]) kp hf⟩
 self:=fun _ _ _ _ _ st h=>by
  obtain⟨⟨f0,f1,_,hz⟩,_⟩:=st;have hT:=(⟨_,hz,rfl⟩:Shared.TypeIs _ (.ref z) "zip");refine Rx hT F.slot_zip_iter (OQ F.slot_zip_iter hT F.entry_zip_iter ?_ (F.args_zip_iter_1 _));show NZ _ _ (ret (.ref z)) _ _ _
  exact NQ ⟨_,rfl,"zip",_,hT,Q4.lookup,h⟩
def Zk.itObj:Zk->Obj
 | .lst l _=>{ cls:=.type "list_iterator",data:=.fields #[.ref l,.int 0 0] }
 | .txt z t=>{ cls:=.type (PM z),data:=.fields #[.str z t,.int 0 0] }
theorem Zk.iter{prog:N_}{w:Og}{A:Oc}{E:NO->NP->Prop}{s:NP}{k:Zk}{Q:NO->NP->Prop}(r:k.ready s.heap)(hQ:Q (.ref s.heap.objs.size) { s with heap:=s.heap.push k.itObj }):NZ (N4 prog w) A (QE k.val) Q E s:=by
 cases k with
 | lst l xs=>
  obtain⟨us,_,p⟩:=r;exact QL p hQ
 | txt z t=>exact wpAny_pyIter_strU hQ
theorem Zk.grow{k:Zk}{h h':Of}(r:k.ready h)(q:∀ c o,h.get? c=some o->h'.get? c=some o):k.ready h':=by
 cases k with
 | lst l xs=>
  obtain⟨us,rv,p⟩:=r;exact⟨us,rv,p.at fun o e=>q l o e⟩
 | txt z t=>exact True.intro
theorem Zk.it0{k:Zk}{h:Of}{it:NR}(e:h.get? it=some k.itObj):k.it it 0 h:=by
 cases k with
 | lst l xs=>exact⟨_,e,rfl,rfl⟩
 | txt z t=>exact⟨_,e,rfl,rfl⟩
theorem Zk.alive{k:Zk}{h:Of}:(h.push k.itObj).get? h.objs.size=some k.itObj:=by
 cases k with
 | lst l xs=>exact NW _ rfl
 | txt z t=>exact NW _ rfl
abbrev GW(h:Of)(k1:Zk):Of:=h.push k1.itObj
abbrev GV(h:Of)(k1 k2:Zk):Of:=(GW h k1).push k2.itObj
abbrev GU(h:Of)(k1 k2:Zk):Of:=(GV h k1 k2).push { cls:=.type "tuple",data:=.seq #[.ref h.objs.size,.ref (GW h k1).objs.size] }
abbrev GT(h:Of)(k1 k2:Zk):Of:=(GU h k1 k2).push { cls:=.type "tuple",data:=.seq #[.none,.none] }
abbrev AO(h:Of)(k1 k2:Zk):Of:=(GT h k1 k2).push { cls:=.type "zip",data:=.fields #[.none,.bool false,.bool false,.ref (GV h k1 k2).objs.size,.ref (GU h k1 k2).objs.size] }
theorem Bt(k1 k2:Zk):Meets (Builtin.«zip.__new__» ⟨[.type "zip",k1.val,k2.val],[]⟩) (fun _ R s=>k1.ready s.heap/\k2.ready s.heap/\R (.ok (.ret (.ref (GT s.heap k1 k2).objs.size))) { s with heap:=AO s.heap k1 k2 }):=
 .of_wp fun prog w A R s h=>by
  obtain⟨hp,g,d,tk,os⟩:=s;obtain⟨r1,r2,h⟩:=h;have hsub:=sub_zip;have q2:k2.ready (Shared.heap ⟨hp.push k1.itObj,g,d,tk,os⟩):=Zk.grow r2 fun c o e=>NT _ e
  wp_walk using Zk.iter (k:=k1) (s:=⟨hp,g,d,tk,os⟩) r1,Zk.iter (k:=k2) (s:=⟨hp.push k1.itObj,g,d,tk,os⟩) q2
  exact⟨_,rfl,h⟩
theorem w8{prog:N_}{w:Og}{A:Oc}{E:NO->NP->Prop}{s:NP}{k1 k2:Zk}{Q:NO->NP->Prop}(r1:k1.ready s.heap)(r2:k2.ready s.heap)
  (h:∀ h',CV k1 k2 (s.heap.objs.size+4) (s.heap.objs.size+2) (s.heap.objs.size+3) s.heap.objs.size (s.heap.objs.size+1) 0 h'->h'.objs.size=s.heap.objs.size+5->
   (∀ c o,s.heap.get? c=some o->h'.get? c=some o)->Q (.ref (s.heap.objs.size+4)) { s with heap:=h' }):NZ (N4 prog w) A (call (.type "zip") [k1.val,k2.val]) Q E s:=by
 refine callType_new F.called_zip (by decide) (F.typeCall_zip_2 _ _) (F.newCall_zip_2 _ _) (fun obj=>F.args_object_init_3 obj _ _) F.entry_zip_new (Bt k1 k2) ⟨r1,r2,?_⟩
 have z1:(GW s.heap k1).objs.size=s.heap.objs.size+1:=Pf ..;have z2:(GV s.heap k1 k2).objs.size=s.heap.objs.size+2:=by rw[Pf,z1]
 have z3:(GU s.heap k1 k2).objs.size=s.heap.objs.size+3:=by rw[Pf,z2]
 have z4:(GT s.heap k1 k2).objs.size=s.heap.objs.size+4:=by rw[Pf,z3]
 have z5:(AO s.heap k1 k2).objs.size=s.heap.objs.size+5:=by rw[Pf,z4]
 have u:∀ {h:Of} {c:NR} {o o':Obj},h.get? c=some o->(h.push o').get? c=some o:=fun e=>NT _ e;have g5:(AO s.heap k1 k2).get? (GT s.heap k1 k2).objs.size=some _:=NW _ rfl;have g4:(AO s.heap k1 k2).get? (GU s.heap k1 k2).objs.size=some _:=u (NW _ rfl);have g3:(AO s.heap k1 k2).get? (GV s.heap k1 k2).objs.size=some _:=u (u (NW _ rfl));have g2:(AO s.heap k1 k2).get? (GW s.heap k1).objs.size=some k2.itObj:=u (u (u Zk.alive));have g1:(AO s.heap k1 k2).get? s.heap.objs.size=some k1.itObj:=u (u (u (u Zk.alive)));show _/\_
 rw[z2,z3,z4]at g5;rw[z1,z2]at g3;rw[z3]at g4;rw[z1]at g2;rw[z4];exact⟨⟨_,g5,rfl⟩,h _ ⟨⟨_,_,.inl rfl,g5⟩,g3,⟨_,_,g4⟩,Zk.it0 g1,Zk.it0 g2⟩ z5 fun c o x=>u (u (u (u (u x))))⟩
end L2
namespace L3
open PySem PySem.Spec PyProof.Rows L2
def fi:D->Option (List D)
 | .lst ds=>some ds
 | .str x=>some (signs x)
 | _=>none
def oG:List D->List D->List D
 | a::r,b::t=>.tup [a,b]::oG r t
 | _,_=>[]
theorem kZ:∀ (a b:List D),(oG a b).length=min a.length b.length
 | [],_=>by simp[oG]
 | _::_,[]=>by simp[oG]
 | _::r,_::t=>by simp only[oG,Ob,kZ r t];omega
theorem tE:∀ {a b:List D} {i:Nat} {x y:D},a[i]?=some x->b[i]?=some y->(oG a b)[i]?=some (.tup [x,y])
 | _::_,_::_,0,_,_,h,h'=>by simp at h h';subst h h';rfl
 | _::r,_::t,i+1,_,_,h,h'=>by simp only[Ov]at h h';simpa[oG]using tE h h'
 | [],_,_,_,_,h,_=>by simp at h
 | _::_,[],_,_,_,_,h=>by simp at h
theorem wz{K:Sf}{H:Hp}(z:Str):RDs K H (signs z) (bm z):=by
 have e1:signs z=(z.cps.toList.map fun c=>(⟨#[c]⟩:Str)).map D.str:=by simp[signs]
 have e2:bm z=(z.cps.toList.map fun c=>(⟨#[c]⟩:Str)).map V.str:=by simp[bm]
 rw[e1,e2];exact RDs.strs _
theorem B3{K:Sf}{H:Hp}{d:D}{v:V}{u:NO}{ds:List D}(e:fi d=some ds)(r:RD K H d v)(ru:aF v u):
  ∃ k:Zk,u=k.val/\RDs K H ds k.vs/\∀ (G:Gp) (G':Gp) (H':Hp),RG K H G->Kp G H G' H'->k.here K H'/\RDs K H' ds k.vs:=by
 cases d with
 | lst es=>
  simp only[fi,Option.some.injEq]at e;subst e;simp only[RD]at r;obtain⟨a,xs,rfl,f,rr⟩:=r;cases ru;exact⟨.lst a xs,rfl,rr,fun G G' H' rg k=>⟨((k.stb rg).l _ _ f).sq,RDs.mono (k.stb rg) _ _ rr⟩⟩
 | str z=>
  simp only[fi,Option.some.injEq]at e;subst e;simp only[RD]at r;subst r;obtain⟨t,rfl⟩:=ru;exact⟨.txt z t,rfl,wz z,fun _ _ _ _ _=>⟨True.intro,wz z⟩⟩
 | _=>simp[fi]at e
theorem KO{K:Sf}{G0:Gp}{H0:Hp}{ds es:List D}{k1 k2:Zk}(rg0:RG K H0 G0)(r1:∀ (G:Gp) (G':Gp) (H':Hp),RG K H0 G->Kp G H0 G' H'->k1.here K H'/\RDs K H' ds k1.vs)(r2:∀ (G:Gp) (G':Gp) (H':Hp),RG K H0 G->Kp G H0 G' H'->k2.here K H'/\RDs K H' es k2.vs):
  wp K G0 H0 (oG ds es) (Nq K k1 k2):=fun i G H k rg=>by
 obtain⟨a1,q1⟩:=r1 G0 G H rg0 k;obtain⟨a2,q2⟩:=r2 G0 G H rg0 k;have n1:=q1.length;have n2:=q2.length;rw[kZ];refine⟨fun hi=>⟨⟨⟨by walk_at "o",by walk_at "o"⟩,a1,a2⟩,fun x H' y=>?_⟩,fun e=>⟨by walk_at "o",a1,a2⟩⟩
 obtain⟨p,u,v,hn,rfl,rfl,e1,e2⟩:=y;have i1:i < ds.length:=by walk_at "o"
 have i2:i < es.length:=by walk_at "o"
 obtain⟨u',f1,g1⟩:=q1.get (NV i1);obtain⟨v',f2,g2⟩:=q2.get (NV i2);rw[e1]at f1;cases f1;rw[e2]at f2;cases f2;exact⟨Kp.laid hn,rg.laid hn,_,tE (NV i1) (NV i2),mv rg hn (RDs.cons g1 (RDs.cons g2 RDs.nil))⟩
def Ad(ta:nH):GJ:=fun σ G Q=>ta σ G fun ds G'=>match ds with
 | [x,y]=>∃ a b,(fi x=some a/\fi y=some b)/\Q (oG a b) G'
 | _=>False
theorem Aw:Ph "zip"=some (.type "zip"):=by kernel_rfl
theorem xp{K:Sf}{H:Hp}{x y:D}{vs:List V}(h:RDs K H [x,y] vs):∃ v u,vs=[v,u]/\RD K H x v/\RD K H y u:=by
 obtain⟨v,t,rfl,h1,h2⟩:=h.inv_cons;obtain⟨u,rfl,h3⟩:=fb h2;exact⟨v,u,rfl,h1,h3⟩
end L3
namespace L2
open PySem PySem.Spec PyProof.Rows
theorem xW:QD (.type "list") "keys"=pure none:=by rw[Qt,PF];kernel_rfl
theorem zT:QD (.type "zip") "keys"=pure none:=by rw[Qt,PF];kernel_rfl
theorem qu:QD (.type "zip") "__getattr__"=pure none:=by rw[Qt,PF];kernel_rfl
theorem yF:entryFor table "zip.__getattribute__"=some Builtin.«object.__getattribute__»:=entryFor_alias (id':="object.__getattribute__") (by kernel_rfl) (by first|rfl|decide +kernel) (by decide +kernel) (by kernel_rfl)
theorem Dt:(["__module__","__name__","__qualname__","__doc__","__annotations__"]:List Str).contains (NU "keys")=false:=by decide +kernel
theorem wx:(NU "keys").length+100<=NY:=by rw[OV];decide +kernel
theorem ux(a:NR)(vs:Array NO)(u:Tok):Meets (Builtin.«object.__getattribute__» ⟨[.ref a,.str "keys" u],[]⟩) (fun A R s=>s.heap.get? a=some { cls:=.type "zip",dict:=none,data:=.fields vs,slots:=#[] }/\raisesAttr (.ref a) "keys" A R s):=
 Meets.of_wp fun prog w A R s hs=>by
  obtain⟨hp,g,d,tk,os⟩:=s;obtain⟨hx,hs⟩:=hs;have hT:(⟨hp,g,d,tk,os⟩:NP).TypeIs (.ref a) "zip":=⟨_,hx,rfl⟩;have f4:=zT;unfold Builtin.«object.__getattribute__»
  repeat (any_goals (first|assumption|wp_step))
  exact wpAny_raiseAttrError hs.1 hs.2 (attrMsg_fits (by decide +kernel) wx)
section
variable{prog:N_}{w:Og}{A:Oc}{E:NO->NP->Prop}{s:NP}{a:NR}{Q:Option NO->NP->Prop}
theorem xS{xs:Array NO}{k:Nat}{sl:Array (Option NO)}(hx:s.heap.get? a=some { cls:=.type "list",dict:=none,data:=.seq xs k,slots:=sl })(hA:A.in1.handled=none)
  (h:∀ h' tk,(∀ c o,s.heap.get? c=some o->h'.get? c=some o)->Q none { s with heap:=h',toks:=tk }):NZ (N4 prog w) A (RC (.ref a) "keys") Q E s:=by
 obtain⟨hp,g,d,tk,os⟩:=s;have hT:∀ tk',(⟨hp,g,d,tk',os⟩:NP).TypeIs (.ref a) "list":=fun _=>⟨_,hx,rfl⟩;have f1:=S3;have f3:=F.slot_list_getattribute.lookup;have f4:=F.slot_list_getattribute.bind (.ref a);have f5:=am_list_getattr_none;unfold RC getAttrBy?
 repeat (any_goals (first|assumption|exact hT _|((with_reducible show NZ _ _ (call _ _ _) _ _ _);refine S9 F.slot_list_getattribute (hT _) am_entry_list_getattribute (F.args_list_getattribute_2 _ _) (meets_getattribute_miss_list a xs k sl _ _ xW Dt wx) ⟨hx,hA,fun h' t' e hx'=>?_⟩)|wp_step))
 obtain⟨t1,u1,he⟩:=hx'.there;show NZ _ _ (QH _ _ _ _ _ _ _) _ _ _
 unfold QH
 repeat (any_goals (first|assumption|wp_step))
 exact h _ _ hx'.keeps
theorem zM{vs:Array NO}(hx:s.heap.get? a=some { cls:=.type "zip",dict:=none,data:=.fields vs,slots:=#[] })(hA:A.in1.handled=none)
  (h:∀ h' tk,(∀ c o,s.heap.get? c=some o->h'.get? c=some o)->Q none { s with heap:=h',toks:=tk }):NZ (N4 prog w) A (RC (.ref a) "keys") Q E s:=by
 obtain⟨hp,g,d,tk,os⟩:=s;have hT:∀ tk',(⟨hp,g,d,tk',os⟩:NP).TypeIs (.ref a) "zip":=fun _=>⟨_,hx,rfl⟩;have f1:=S3;have f3:=F.slot_zip_getattribute.lookup;have f4:=F.slot_zip_getattribute.bind (.ref a);have f5:=qu;unfold RC getAttrBy?
 repeat (any_goals (first|assumption|exact hT _|((with_reducible show NZ _ _ (call _ _ _) _ _ _);refine S9 F.slot_zip_getattribute (hT _) yF (F.args_zip_getattribute_2 _ _) (ux a vs _) ⟨hx,hA,fun h' t' e hx'=>?_⟩)|wp_step))
 obtain⟨t1,u1,he⟩:=hx'.there;show NZ _ _ (QH _ _ _ _ _ _ _) _ _ _
 unfold QH
 repeat (any_goals (first|assumption|wp_step))
 exact h _ _ hx'.keeps
end
structure PWalk(prog:N_)(w:Og)(A:Oc)(it:NR)(wr:List NR)(n:Nat)(Pv:Nat->NO->NO->Prop)(St:Nat->Of->Prop):Prop where
 frame:∀ i h h',St i h->(∀ c o,o.cls≠.type "dict"->h.get? c=some o->h'.get? c=some o)->St i h'
 item:∀ i (s:NP) (Q:Option NO->NP->Prop) (E:NO->NP->Prop),i < n->St i s.heap->
  (∀ h' tk p k v,Pv i k v->(∃ o m,h'.get? p=some o/\o.cls=.type "tuple"/\o.data=.seq #[k,v] m)->St (i+1) h'->(∀ c o,c∉wr->s.heap.get? c=some o->h'.get? c=some o)->Q (some (.ref p)) { s with heap:=h',toks:=tk })->
  NZ (N4 prog w) A (Pu (.ref it)) Q E s
 done:∀ (s:NP) (Q:Option NO->NP->Prop) (E:NO->NP->Prop),St n s.heap->(∀ h' tk,(∀ c o,c∉wr->s.heap.get? c=some o->h'.get? c=some o)->Q none { s with heap:=h',toks:=tk })->
  NZ (N4 prog w) A (Pu (.ref it)) Q E s
theorem fC:plainId "dict.update.loop"=true:=by decide +kernel
theorem ma:entryFor table "dict.update.loop"=some Builtin.«dict.update.loop»:=entryFor_of_tree (by kernel_rfl)
section
variable{prog:N_}{w:Og}{A:Oc}{it d:NR}{wr:List NR}{n:Nat}{Pv:Nat->NO->NO->Prop}{St:Nat->Of->Prop}{R:SC->NP->Prop}{h0:Of}
def Mz(prog:N_)(w:Og)(h:Of)(d:NR)(xs:List (List aD×NR×NO)):Prop:=
 ∃ o es ep,h.get? d=some o/\o.ExactDict/\o.data=.dict es ep/\es.toList=xs.map (entryOfKey (OY (bj prog w)))/\(xs.map (·.1)).Nodup
theorem Bm{p:NR}{k v:NO}{s:NP}{E:NO->NP->Prop}{Q:List NO->NP->Prop}(h:∃ o m,s.heap.get? p=some o/\o.cls=.type "tuple"/\o.data=.seq #[k,v] m)(q:Q [k,v] s):NZ (N4 prog w) A (SF (.ref p)) Q E s:=by
 obtain⟨o,m,e,c,dt⟩:=h;unfold SF;refine NN (Rv (T:="tuple") ⟨o,e,c⟩ ?_);rw[if_pos (by decide)]
 exact NN (PL e dt (NQ q))
theorem Es(W:PWalk prog w A.in1 it wr n Pv St)(hu:A.units+1 < OL)(hd:d∉wr)(hn:n<=NY)(Acc:Nat->List (List aD×NR×NO)->Prop)
  (hk:∀ i k v xs,Pv i k v->Acc i xs->∃ ks b,k=.ref b/\Acc (i+1) (Rj xs ks b v)/\∀ h,(∀ c o,c∉wr->c≠d->h0.get? c=some o->h.get? c=some o)->(OY (bj prog w)).is h ks b)
  (hx:∀ i xs,Acc i xs->xs.length<=i/\∀ x∈xs,∀ h,(∀ c o,c∉wr->c≠d->h0.get? c=some o->h.get? c=some o)->(OY (bj prog w)).is h x.1 x.2.1):
  ∀ (k i:Nat) (s:NP) (xs:List (List aD×NR×NO)),n - i=k->i<=n->St i s.heap->(∀ c o,c∉wr->c≠d->h0.get? c=some o->s.heap.get? c=some o)->Mz prog w s.heap d xs->Acc i xs->
   (∀ h' tk ys,(∀ c o,c∉wr->c≠d->h0.get? c=some o->h'.get? c=some o)->(∀ c o,c∉wr->c≠d->s.heap.get? c=some o->h'.get? c=some o)->Mz prog w h' d ys->Acc n ys->R (.ok (.ret .none)) { s with heap:=h',toks:=tk })->
   Qo (N4 prog w) A (.builtin "dict.update.loop" ⟨[.ref d,.ref it,PN i,.none],[]⟩) R s:=by
 intro k
 induction k with
 | zero=>
  intro i s xs hk' hi st keep dr ac hR;have hin:i=n:=by walk_at "o"
  subst hin;refine codeAny_builtin ma ?_;rw[SW fC _];show NZ _ A.in1 (Pu (.ref it) >>= _) _ _ s
  refine NN (W.done s _ _ st fun h' tk kp=>?_);show NZ _ _ (Builtin.Dict.addKeywords d [] >>= _) _ _ _
  refine NN (NQ (NQ ?_));obtain⟨o,es,ep,e,r⟩:=dr;exact hR h' tk xs (fun c o hc hcd q=>kp c o hc (keep c o hc hcd q)) (fun c o hc _ q=>kp c o hc q) ⟨o,es,ep,kp d o hd e,r⟩ ac
 | succ k ih=>
  intro i s xs hk' hi st keep dr ac hR;have hlt:i < n:=by walk_at "o"
  refine codeAny_builtin ma ?_;rw[SW fC _];show NZ _ A.in1 (Pu (.ref it) >>= _) _ _ s
  refine NN (W.item i s _ _ hlt st fun h1 t1 p kv vv pv tp st1 kp=>?_);obtain⟨ks,b,rfl,ac',key⟩:=hk i kv vv xs pv ac;refine NN (OH (NN (wpAny_tryCatch (Bm tp ?_))));refine OH ?_;obtain⟨o,es,ep,e,r1,r2,r3,r4⟩:=dr;have TL:∀ c o,c∉wr->c≠d->h0.get? c=some o->h1.get? c=some o:=fun c o hc hcd q=>kp c o hc (keep c o hc hcd q);obtain⟨len,keys⟩:=hx i xs ac;have dd:Heap.DictOfH (OY (bj prog w)) h1 d xs:=⟨o,es,ep,kp d o hd e,r1,r2,r3,fun x hx'=>keys x hx' h1 TL,r4⟩;refine S0 (s:={ s with heap:=h1,toks:=t1 }) (hsz:=by walk_at "o") (show A.in1.units < OL from hu) (key h1 TL) dd fun h2 dd2 sb=>?_
  obtain⟨o2,es2,ep2,e2,q1,q2,q3,_,q4⟩:=dd2;have up:∀ c o,c≠d->h1.get? c=some o->h2.get? c=some o:=fun c o hc q=>sb.extBut _ _ hc q;have kpd:h1.get? d=some o:=kp d o hd e;refine NQ ⟨Se fC _,?_⟩;have:=ih (i+1) { s with heap:=h2,toks:=t1+(OY (bj prog w)).draws ks } (Rj xs ks b vv) (by walk_at "o") hlt (W.frame _ _ _ st1 fun c o' hc q=>up c o' (fun z=>by subst z;rw[kpd]at q;cases q;exact hc r1.1) q) (fun c o hc hcd q=>up c o hcd (TL c o hc hcd q)) ⟨o2,es2,ep2,e2,q1,q2,q3,q4⟩ ac'
   fun h' tk ys k1 k2 k3 k4=>hR h' tk ys k1 (fun c o hc hcd q=>k2 c o hc hcd (up c o hcd (kp c o hc q))) k3 k4
  exact this
end
end L2
namespace L3
open PySem PySem.Spec PyProof.Rows L2
def zJ(kv:List aD×D):D:=.tup [.tup (kv.1.map kD),kv.2]
def dictOf(kvs:List (List aD×D)):List (List aD×D):=kvs.foldl (fun a kv=>bS a kv.1 kv.2) []
theorem qh(kvs:List (List aD×D)):∀ a:List (List aD×D),(kvs.foldl (fun a kv=>bS a kv.1 kv.2) a).length<=a.length+kvs.length:=by
 induction kvs with
 | nil=>intro a;exact le_refl _
 | cons kv r ih=>
  intro a;have h1:=ih (bS a kv.1 kv.2);have h2:=fq a kv.1 kv.2;simp only[QY,Ob];omega
theorem Ao{kvs:List (List aD×D)}{i:Nat}{kv:List aD×D}(h:kvs[i]?=some kv):dictOf (kvs.take (i+1))=bS (dictOf (kvs.take i)) kv.1 kv.2:=by
 unfold dictOf;rw[Om,h,List.foldl_append];rfl
theorem yI(kvs:List (List aD×D)):((dictOf kvs).map (·.1)).Nodup:=by
 unfold dictOf
 suffices h:∀ a:List (List aD×D),(a.map (·.1)).Nodup->((kvs.foldl (fun a kv=>bS a kv.1 kv.2) a).map (·.1)).Nodup from h [] RM
 induction kvs with
 | nil=>intro a h;exact h
 | cons kv r ih=>intro a h;exact ih _ (nY kv.1 kv.2 h)
theorem DT{prog:N_}{w:Og}{A:Oc}{E:NO->NP->Prop}{s:NP}{src:NR}{T:String}{Q:NO->NP->Prop}(hT:∃ o,s.heap.get? src=some o/\o.cls=.type T)(hne:(Value.type T != Value.type "dict")=true)
  (hno:∀ (s':NP) (Q':Option NO->NP->Prop) (E':NO->NP->Prop),(∀ c o,s.heap.get? c=some o->s'.heap.get? c=some o)->(∀ h' tk,(∀ c o,s'.heap.get? c=some o->h'.get? c=some o)->Q' none { s' with heap:=h',toks:=tk })->NZ (N4 prog w) A.in1.in1 (RC (.ref src) "keys") Q' E' s')
  (h:∀ h' tk,(∀ c o,s.heap.get? c=some o->h'.get? c=some o)->h'.get? s.heap.objs.size=some { cls:=.type "dict",data:=.dict #[] }->
   NZ (N4 prog w) A.in1.in1 (QE (.ref src)) (fun it s2=>Qo (N4 prog w) A.in1 (.builtin "dict.update.loop" ⟨[.ref s.heap.objs.size,it,PN 0,.none],[]⟩) (wants (fun r s₂=>r=.none/\Q (.ref s.heap.objs.size) s₂) E) s2) (fun e s'=>wants (fun r s₂=>r=.none/\Q (.ref s.heap.objs.size) s₂) E (.error e) s') { s with heap:=h',toks:=tk }):
  NZ (N4 prog w) A (call (.type "dict") [.ref src]) Q E s:=by
 refine callType_codes (Q₁:=fun obj s₁=>obj=.ref s.heap.objs.size/\s₁={ s with heap:=s.heap.push { cls:=.type "dict",data:=.dict #[] } }) F.kt_called_dict (F.kt_typeCall_dict_1 _) F.entry_dict_init (kt_code_dict_new _ ⟨rfl,rfl⟩) ?_
 rintro obj s₁ ⟨rfl,rfl⟩
 have hd:(s.heap.push { cls:=.type "dict",data:=.dict #[] }).get? s.heap.objs.size=some { cls:=.type "dict",data:=.dict #[] }:=NW _ rfl;have tyd:Shared.TypeIs { s with heap:=s.heap.push { cls:=.type "dict",data:=.dict #[] } } (.ref s.heap.objs.size) "dict":=⟨_,hd,rfl⟩
 obtain⟨o,e,c⟩:=hT;have up:∀ c o,s.heap.get? c=some o->(s.heap.push { cls:=.type "dict",data:=.dict #[] }).get? c=some o:=fun c o e=>NT _ e;refine⟨tyd,F.args_dict_init_2 _ _,?_⟩;unfold Builtin.«dict.__init__»;refine NN ?_;unfold Builtin.Dict.selfAndRest;refine NN (Q6 tyd ?_);show NZ _ _ (pure (s.heap.objs.size,[Value.ref src])) _ _ _;refine NQ ?_
 show NZ _ _ (Sv "dict.__init__" s.heap.objs.size (.ref src) [] .none) _ _ _
 unfold Sv;refine NN (Rv (T:=T) ⟨o,up _ _ e,c⟩ ?_);rw[if_pos hne];refine NN (hno _ _ _ up fun h' tk kp=>?_);simp only[Option.isNone_none,if_true];refine NN (Rt ?_);refine NN (ON (h h' tk (fun c o e=>kp c o (up c o e)) (kp _ _ hd)) (fun it s2 q=>NQ ⟨Se fC _,q⟩) fun _ _ q=>q)
section
variable{X:Cx}{pins:List (NR×Obj)}{τ:St}{H1:Hp}{s1:NP}{G1:Gp}
theorem An{src:NR}{T:String}{kvs:List (List aD×D)}{Q:NO->NP->Prop}(hu:X.A.units+8 < OL)(I1:L2.Inv X pins τ H1 s1)(rg1:RG X.K H1 G1)(hz:kvs.length<=900000)
  (hT:∃ o,s1.heap.get? src=some o/\o.cls=.type T) (hne:(Value.type T != Value.type "dict")=true)
  (hno:∀ (s':NP) (Q':Option NO->NP->Prop) (E':NO->NP->Prop),(∀ c o,s1.heap.get? c=some o->s'.heap.get? c=some o)->(∀ h' tk,(∀ c o,s'.heap.get? c=some o->h'.get? c=some o)->Q' none { s' with heap:=h',toks:=tk })->NZ (N4 X.prog X.w) X.A.in1.in1 (RC (.ref src) "keys") Q' E' s')
  (hit:∀ (h2:Of) (tk2:Nat) (Q':NO->NP->Prop) (E':NO->NP->Prop),(∀ c o,s1.heap.get? c=some o->h2.get? c=some o)->s1.heap.objs.size < h2.objs.size->
   (∀ it wr Pv St h3,PWalk X.prog X.w X.A.in1.in1 it wr kvs.length Pv St->St 0 h3->(∀ c o,h2.get? c=some o->h3.get? c=some o)->(∀ b∈wr,rF X pins H1 b/\b≠s1.heap.objs.size)->
    (∀ i k v,Pv i k v->∃ kv b x,kvs[i]?=some kv/\k=.ref b/\kL X.K H1 b (kv.1.map kV)/\RD X.K H1 kv.2 x/\aF x v)->Q' (.ref it) { s1 with heap:=h3,toks:=tk2 })->
   NZ (N4 X.prog X.w) X.A.in1.in1 (QE (.ref src)) Q' E' { s1 with heap:=h2,toks:=tk2 })
  (q:∀ s' H',L2.Inv X pins τ H' s'->H1 s1.heap.objs.size=none->Kp G1 H1 (gset G1 s1.heap.objs.size (.dT (aH X.prog X.w) (dictOf kvs))) H'->RG X.K H' (gset G1 s1.heap.objs.size (.dT (aH X.prog X.w) (dictOf kvs)))->Q (.ref s1.heap.objs.size) s'):
  NZ (N4 X.prog X.w) X.A (call (.type "dict") [.ref src]) Q X.xe s1:=by
 have hsl:=ah;have sle:=OV;refine DT hT hne hno fun h2 tk2 kp2 hd2=>?_;refine hit h2 tk2 _ _ kp2 (N7 hd2) fun it wr Pv St h3 W st0 kp3 hwr hpv=>?_;have hf:H1 s1.heap.objs.size=none:=I1.hok.fresh (le_refl _);have hdw:s1.heap.objs.size∉wr:=fun z=>(hwr _ z).2 rfl;have ltk:∀ {b:NR} {ks:List aD},kL X.K H1 b (ks.map kV)->b∉wr/\b≠s1.heap.objs.size/\∀ h:Of,(∀ c o,c∉wr->c≠s1.heap.objs.size->s1.heap.get? c=some o->h.get? c=some o)->(OY (bj X.prog X.w)).is h ks b:=fun {b ks} sq=>by
  have key:=key_at I1 sq;obtain⟨o,its,n,e,c,dd,ii⟩:=id key;have hb1:b≠s1.heap.objs.size:=Oq (N7 e);have hb2:b∉wr:=fun z=>by
   obtain⟨⟨g0,g1,g2,g3,g4,g5⟩,_⟩:=hwr b z;rcases sq with (e1|⟨o',e1⟩)|⟨o',its',n',kl,_⟩
   ·rw[g0]at e1;cases e1
   ·rw[g0]at e1;cases e1
   ·have e2:X.base.get? b=some o':=I1.mod.kin b o' kl;rcases g3 with g3|g3
    ·exact I1.ok.noex b o' e2 g3
    ·exact absurd (N7 (I1.ok.bs b o' e2).1) (Nat.not_lt.mpr g3)
  exact⟨hb2,hb1,fun h kp=>⟨o,its,n,kp b o hb2 hb1 e,c,dd,ii⟩⟩
 have Um:∀ {i:Nat} {xs:List (List aD×NR×NO)},qo X.K H1 (dictOf (kvs.take i)) xs->xs.length<=i/\∀ x∈xs,kL X.K H1 x.2.1 (x.1.map kV):=fun {i xs} r=>by
  refine⟨?_,?_⟩
  ·rw[<- r.length];have:=qh (kvs.take i) [];rw[Ou]at this;unfold dictOf;simp only[OB]at this;omega
  ·unfold qo at r;generalize dictOf (kvs.take i)=ks at r
   induction r with
   | nil=>intro x hx;exact nomatch hx
   | @cons p q ps qs hq t ih=>
    intro x hx;rcases Oz.mp hx with e|hx
    ·subst e;rw[<- hq.1];exact hq.2.1
    ·exact ih x hx
 refine Es (A:=X.A.in1) (h0:=s1.heap) (d:=s1.heap.objs.size) W (show X.A.units+1+1 < OL by walk_at "o") hdw (by walk_at "o") (fun i xs=>qo X.K H1 (dictOf (kvs.take i)) xs) (fun i k v xs pv ac=>?_) (fun i xs ac=>?_) kvs.length 0 { s1 with heap:=h3,toks:=tk2 } [] (RA _) (OD _) st0 (fun c o _ _ e=>kp3 c o (kp2 c o e)) ⟨_,#[],0,kp3 _ _ hd2,⟨rfl,rfl,rfl⟩,rfl,rfl,RM⟩ .nil fun h' tk ys k1 k2 dr ac=>?_
 ·obtain⟨kv,b,x,e,rfl,sq,rd,rv⟩:=hpv i k v pv;refine⟨kv.1,b,rfl,?_,(ltk sq).2.2⟩;show qo X.K H1 (dictOf (kvs.take (i+1))) _
  rw[Ao e];exact qo.put ac kv.1 sq rd rv
 ·obtain⟨len,ks⟩:=Um ac;exact⟨len,fun x hx h kp=>(ltk (ks x hx)).2.2 h kp⟩
 ·rw[Oo]at ac;obtain⟨o,es,ep,e,r1,r2,r3,r4⟩:=dr;have hsm:(s1.heap.objs.size == OK)=false:=beq_eq_false_iff_ne.mpr (Ne.symm (Oq I1.big));have fd:o.isFreed=false:=by
   obtain⟨c,dd,dt,sl⟩:=o;have r2':dt=.dict es ep:=r2;subst r2';rfl
  obtain⟨kpp,rg2⟩:=Iw (o:=.dT (aH X.prog X.w) (dictOf kvs)) (ho:=.ext (yX (aH X.prog X.w) s1.heap.objs.size ys)) rg1 hf fun H' st=>⟨ys,rfl,ac.mono st,yI kvs,by
   have:=qh kvs [];unfold dictOf;simp only[OB]at this;omega⟩
  have I2:L2.Inv X pins τ (bq H1 s1.heap.objs.size (.ext (yX (aH X.prog X.w) s1.heap.objs.size ys))) { s1 with heap:=s1.heap.push o,toks:=s1.toks }:=
   I1.laid (fun _ _ q=>NT _ q) (le_refl _) (rq ⟨hsm,o,es,ep,NW _ fd,r1,r2,r3⟩)
  have I3:=Inv.turnedL (s:={ s1 with heap:=s1.heap.push o,toks:=s1.toks }) (h':=h') (t':=tk) (fp:=wr) I2 (fun b o' hb qb=>by
   have qb':(s1.heap.push o).get? b=some o':=qb
   by_cases hbs:b=s1.heap.objs.size
   ·subst hbs;rw[NW _ fd]at qb';cases qb';exact e
   ·rw[RI _ _ _ hbs]at qb';exact k1 b o' hb hbs qb') fun b hb=>by
   obtain⟨⟨g0,g1,g2,g3,g4,g5⟩,nb⟩:=hwr b hb;exact⟨by rw[aA nb];exact g0,g1,g2,g3,g4,g5⟩
  exact⟨rfl,q _ _ I3 hf kpp rg2⟩
end
end L3
namespace L2
open PySem PySem.Spec PyProof.Rows
theorem Bi{prog:N_}{w:Og}{A:Oc}{it l:NR}{us:List NO}{Pv:Nat->NO->NO->Prop}(hh:A.handled=none):
  PWalk prog w A it [it] us.length Pv (fun i h=>h.IsListIter it l i/\h.IsList l us.toArray/\∀ j u,us[j]?=some u->∃ p kk vv,u=.ref p/\(∃ o m,h.get? p=some o/\o.cls=.type "tuple"/\o.data=.seq #[kk,vv] m)/\Pv j kk vv) where
 frame:=fun i h h' ⟨⟨o1,e1,c1,d1⟩,⟨o2,e2,c2,d2⟩,ps⟩ kp=>⟨⟨o1,kp _ _ (by rw[c1];decide) e1,c1,d1⟩,⟨o2,kp _ _ (by rw[c2];decide) e2,c2,d2⟩,fun j u hu=>by
  obtain⟨p,kk,vv,e,⟨o,m,g,c,dt⟩,pv⟩:=ps j u hu;exact⟨p,kk,vv,e,⟨o,m,kp _ _ (by rw[c];decide) g,c,dt⟩,pv⟩⟩
 item:=fun i s Q E hi ⟨x1,x2,ps⟩ q=>by
  have hu:us[i]?=some us[i]:=NV hi;obtain⟨p,kk,vv,e,tp,pv⟩:=ps i _ hu;refine Sw x1 x2 (x:=us[i]) (by simpa using hu) fun h' st' sb=>?_
  obtain⟨o1,e1,c1,_⟩:=x1;obtain⟨o2,e2,c2,_⟩:=id x2;have ne:∀ {b:NR} {o:Obj} {T:String},s.heap.get? b=some o->o.cls=.type T->Value.type T≠.type "list_iterator"->b≠it:=fun hb hc hT z=>by subst z;rw[e1]at hb;cases hb;rw[c1]at hc;exact hT hc.symm
  have lk:∀ {p:NR} {kk vv:NO},(∃ o m,s.heap.get? p=some o/\o.cls=.type "tuple"/\o.data=.seq #[kk,vv] m)->∃ o m,h'.get? p=some o/\o.cls=.type "tuple"/\o.data=.seq #[kk,vv] m:=fun⟨o,m,g,c,dt⟩=>⟨o,m,(sb.2 _ (ne g c (by decide))).trans g,c,dt⟩
  rw[e];refine q h' s.toks p kk vv pv (lk tp) ⟨st',x2.at fun o g=>(sb.2 l (ne e2 c2 (by decide))).trans g,fun j u hu=>?_⟩ fun c o hc g=>(sb.2 c (fun z=>hc (by simp[z]))).trans g
  obtain⟨p',k',v',e',tp',pv'⟩:=ps j u hu;exact⟨p',k',v',e',lk tp',pv'⟩
 done:=fun s Q E ⟨x1,x2,ps⟩ q=>SH hh x1 x2 (by simp) fun h' eb=>q h' s.toks fun c o hc g=>eb c o (fun z=>hc (by simp[z])) g
theorem CV.wr{k1 k2:Zk}{z TI TO i1 i2:NR}{i:Nat}{h:Of}(x:CV k1 k2 z TI TO i1 i2 i h):∀ b∈[z,TI,TO,i1,i2],∃ o,h.get? b=some o/\o.cls≠.type "list"/\o.cls≠.type "dict":=by
 obtain⟨⟨f0,f1,_,hz⟩,hTI,⟨a,b',hTO⟩,h1,h2⟩:=x;have nd:∀ {k:Zk} {it:NR},k.it it i h->∃ o,h.get? it=some o/\o.cls≠.type "list"/\o.cls≠.type "dict":=fun {k it} y=>by
  cases k with
  | lst l xs=>
   obtain⟨o,e,c,_⟩:=y;exact⟨o,e,by rw[c];decide,by rw[c];decide⟩
  | txt z t=>
   obtain⟨o,e,c,_⟩:=y;refine⟨o,e,?_⟩;rw[c];rcases nL z with q|q<;>rw[q]<;>decide
 intro b hb;simp only[Oz,OF,or_false]at hb;rcases hb with rfl|rfl|rfl|rfl|rfl
 ·exact⟨_,hz,by show Value.type "zip"≠_;decide,by show Value.type "zip"≠_;decide⟩
 ·exact⟨_,hTI,by show Value.type "tuple"≠_;decide,by show Value.type "tuple"≠_;decide⟩
 ·exact⟨_,hTO,by show Value.type "tuple"≠_;decide,by show Value.type "tuple"≠_;decide⟩
 ·exact nd h1
 ·exact nd h2
theorem Zk.stay{k:Zk}{h h':Of}(r:k.ready h)(q:∀ c o,o.cls=.type "list"->h.get? c=some o->h'.get? c=some o):k.ready h':=by
 cases k with
 | lst l xs=>
  obtain⟨us,rv,o,e,c,d⟩:=r;exact⟨us,rv,o,q l o c e,c,d⟩
 | txt z t=>exact True.intro
theorem Dh{prog:N_}{w:Og}{A:Oc}{k1 k2:Zk}{z TI TO i1 i2:NR}(hh:A.in1.handled=none)(D:ZAp z TI TO i1 i2):
  PWalk prog w A z [z,TI,TO,i1,i2] (min k1.vs.length k2.vs.length) (fun i k v=>∃ u x,k1.vs[i]?=some u/\k2.vs[i]?=some x/\aF u k/\aF x v) (fun i h=>CV k1 k2 z TI TO i1 i2 i h/\k1.ready h/\k2.ready h) where
 frame:=fun i h h' ⟨st,r1,r2⟩ kp=>⟨st.keep fun b hb o e=>by
  obtain⟨o',e',_,c⟩:=st.wr b hb;rw[e]at e';cases e';exact kp b o c e,Zk.stay r1 fun c o hc e=>kp c o (by rw[hc];decide) e,Zk.stay r2 fun c o hc e=>kp c o (by rw[hc];decide) e⟩
 item:=fun i s Q E hi ⟨st,r1,r2⟩ q=>by
  refine B2 hh D st r1 r2 (by walk_at "o") (by walk_at "o") fun h' tk x y u v e1 e2 ru rv st' tp sz kp=>?_
  have ls:∀ c o,o.cls=.type "list"->s.heap.get? c=some o->h'.get? c=some o:=fun c o hc e=>kp c o (fun hb=>by
   obtain⟨o',e',c',_⟩:=st.wr c hb;rw[e]at e';cases e';exact c' hc) e
  exact q h' tk _ x y ⟨u,v,e1,e2,ru,rv⟩ ⟨_,_,tp,rfl,rfl⟩ ⟨st',Zk.stay r1 ls,Zk.stay r2 ls⟩ kp
 done:=fun s Q E ⟨st,r1,r2⟩ q=>Ek hh D st r1 r2 rfl fun h' tk kp=>q h' tk kp
end L2
namespace L3
open PySem PySem.Spec PyProof.Rows L2
theorem w_:Ph "dict"=some (.type "dict"):=by kernel_rfl
theorem Jw{X:Cx}{tg:Oj}{a b:Oj}{ta:nH}{p pos:Pos}(hg:Gl X "zip")(hm:X.mg "zip"=none)(ha:PA X [a,b] (eK X.K ta))(hs:N5 [a,b] X.env=[(false,eval a X.env),(false,eval b X.env)]:=by rfl)(hs2:N5 [b] X.env=[(false,eval b X.env)]:=by rfl):
  PI X tg (.Call (.Name "zip" p) [a,b] [] pos) (pV X.K (Ad ta)):=by
 intro pins s τ H R I h;obtain⟨σ,G,Q3,rs,rg,hq,k⟩:=h;refine RK (fE I hg hm Aw (PyProof.Rows.callWith_type1 (cz (ha pos pins s τ H (fun vs H1=>∃ ds G1,(match ds with|[x,y]=>∃ a b,(fi x=some a/\fi y=some b)/\Q3 (oG a b) G1|_=>False)/\Kp G H G1 H1/\RG X.K H1 G1/\RDs X.K H1 ds vs) I
  ⟨σ,G,_,rs,rg,hq,fun ds G1 vs H1 q k1 rg1 rds=>⟨ds,G1,q,k1,rg1,rds⟩⟩) fun us s1 ⟨vs,H1,I1,r1,q1⟩=>?_) (by rw[hs,hs2]) (by rw[hs2];rfl)))
 obtain⟨ds,G1,q,k1,rg1,rds⟩:=q1;split at q
 ·rename_i x y;obtain⟨as,bs,⟨ea,eb⟩,q⟩:=q;obtain⟨v,v',rfl,rd1,rd2⟩:=xp rds;obtain⟨u,u',rfl,ru1,ru2⟩:=r1.two;obtain⟨z1,rfl,_,w1⟩:=B3 ea rd1 ru1;obtain⟨z2,rfl,_,w2⟩:=B3 eb rd2 ru2;have hr1:=(w1 G1 G1 H1 rg1 Kp.refl).1;have hr2:=(w2 G1 G1 H1 rg1 Kp.refl).1;refine w8 (Zk.of I1 hr1) (Zk.of I1 hr2) fun h' zs hsz kp=>?_;have D:ZAp (s1.heap.objs.size+4) (s1.heap.objs.size+2) (s1.heap.objs.size+3) s1.heap.objs.size (s1.heap.objs.size+1):=⟨Oq (PU (s1.heap.objs.size+2)),Oq (PU s1.heap.objs.size)⟩;refine (tG (P:=X.prog) (w:=X.w) (K:=X.K) (tg:=tg) z1 z2 _ _ _ _ _ D).self _ 0 _ _ _ zs ?_;refine⟨s1.heap.objs.size+4,[s1.heap.objs.size+4,s1.heap.objs.size+2,s1.heap.objs.size+3,s1.heap.objs.size,s1.heap.objs.size+1],_,_,H1,rfl,I1.kept (t':=s1.toks) kp,tG z1 z2 _ _ _ _ _ D,zs,fun c hc=>?_,k _ G1 _ H1 q k1 rg1 (KO rg1 w1 w2)⟩;have hc':s1.heap.objs.size<=c:=by
   simp only[Oz,OF,or_false]at hc;rcases hc with rfl|rfl|rfl|rfl|rfl<;>first|exact le_refl _|exact Nat.le_add_right _ _
  exact I1.fpOk hc' (I1.hok.fresh hc')
 ·exact q.elim
def u6(hw:List aD->Int)(te:bG):bG:=fun σ G Q=>te σ G fun x G1=>match wg G1 (val x) with
 | some ds=>∃ kvs:List (List aD×D),(ds=kvs.map zJ/\kvs.length<=900000)/\∀ p,G1 p=none->Q (.ref p) (gset G1 p (.dT hw (dictOf kvs)))
 | none=>False
def u5(hw:List aD->Int)(ta:nH):bG:=fun σ G Q=>ta σ G fun ds G1=>match ds with
 | [x,y]=>∃ a b,∃ kvs:List (List aD×D),(fi x=some a/\fi y=some b/\oG a b=kvs.map zJ/\kvs.length<=900000)/\∀ p,G1 p=none->Q (.ref p) (gset G1 p (.dT hw (dictOf kvs)))
 | _=>False
theorem Jv{K:Sf}{H:Hp}{ks:List aD}{v:V}(r:RD K H (.tup (ks.map kD)) v):∃ b,v=.ref b/\kL K H b (ks.map kV):=qc (d:=.tup (ks.map kD)) (CF ks) r
theorem HR{X:Cx}{e:Oj}{te:bG}{p1 pos:Pos}(hu:X.A.units+8 < OL)(hc:X.calm=true)(hg:Gl X "dict")(hm:X.mg "dict"=none)(he:PE X e (aB X.K te))(hs:N5 [e] X.env=[(false,eval e X.env)]:=by rfl):
  PE X (.Call (.Name "dict" p1) [e] [] pos) (aB X.K (u6 (aH X.prog X.w) te)):=by
 rintro pins s τ H Q I ⟨σ,G,Q3,rs,rg,h,k⟩
 refine RK (fE I hg hm w_ (PyProof.Rows.callWith_type1 ?_ hs rfl) (by decide) (by decide))
 rw[show OW pos (N5 [e] X.env)=[(false,eval e X.env)]by rw[hs];rfl]
 refine OP (cz (dN he I rs rg h) fun ov s1 ⟨ox,H1,I1,rox,x,G1,q1,k1,rg1,rd1⟩=>O1 ?_);split at q1
 ·rename_i ds hq;obtain⟨kvs,⟨rfl,hz⟩,q1⟩:=q1;obtain⟨l,xs,rfl,sq,r⟩:=mh (G:=G1) (H:=H1) hq (.of rd1) rg1;cases rox;obtain⟨its,rv,pl,_⟩:=I1.list sq;have n1:=r.length;have n2:=rv.length;rw[NS]at n1;obtain⟨lo,ln,le,lc,ld,ldat⟩:=id pl;have tps:∀ (j:Nat) u,its[j]?=some u->∃ p kk vv,u=.ref p/\(∃ o m,s1.heap.get? p=some o/\o.cls=.type "tuple"/\o.data=.seq #[kk,vv] m)/\∃ kv b x,kvs[j]?=some kv/\kk=.ref b/\kL X.K H1 b (kv.1.map kV)/\RD X.K H1 kv.2 x/\aF x vv:=fun j u hu=>by
   obtain⟨v,e1,ru⟩:=Vals.getV rv hu;obtain⟨d,e2,rd⟩:=RDs.getV r e1;rw[N8]at e2;cases hkv:kvs[j]? with
   | none=>rw[hkv]at e2;cases e2
   | some kv=>
    rw[hkv]at e2;cases e2;unfold zJ at rd;simp only[RD]at rd;obtain⟨p,ys,rfl,sqp,ry⟩:=rd;obtain⟨y1,y2,rfl,ra,rb⟩:=xp ry;obtain⟨b,rfl,sb⟩:=Jv (ks:=kv.1) (by simpa only[RD]using ra)
    cases ru;obtain⟨its2,rv2,tp,_⟩:=I1.tuple sqp;obtain⟨o,g1,g2,m,g3⟩:=tp;obtain⟨w1,w2,rfl,rw1,rw2⟩:=rv2.two;cases rw1;exact⟨p,_,w2,rfl,⟨o,m,g1,g2,by simpa using g3⟩,kv,b,y2,rfl,rfl,sb,rb,rw2⟩
  refine An (T:="list") (kvs:=kvs) hu I1 rg1 hz ⟨lo,le,lc⟩ (by decide) (fun s' Q' E' kp q'=>?_) (fun h2 tk2 Q' E' kp hlt q'=>?_) fun s' H' I' hf kp rg'=>⟨.ref s1.heap.objs.size,H',I',rfl,k _ _ _ H' (q1 _ (rg1.free hf)) (k1.trans kp) rg' (.of gM)⟩
  ·obtain⟨c0,d0,t0,s0⟩:=lo;simp only at lc ld ldat;subst lc ld ldat;exact xS (kp _ _ le) (I.ok.hd hc) q'
  ·refine QL (pl.isList.at fun o e=>kp _ _ e) ?_;have hln:kvs.length=its.length:=n1.trans n2;have W:=Bi (prog:=X.prog) (w:=X.w) (A:=X.A.in1.in1) (it:=h2.objs.size) (l:=l) (us:=its) (Pv:=fun (j:Nat) (kk vv:NO)=>∃ (kv:List aD×D) (b:NR) (x:V),kvs[j]?=some kv/\kk=Value.ref b/\kL X.K H1 b (kv.1.map kV)/\RD X.K H1 kv.2 x/\aF x vv) (I.ok.hd hc);rw[<- hln]at W;refine q' h2.objs.size [h2.objs.size] _ _ _ W ⟨⟨_,NW _ rfl,rfl,rfl⟩,(pl.isList.at fun o e=>kp _ _ e).push _,fun j u hu=>?_⟩ (fun c o e=>NT _ e) (fun b hb=>?_) fun i k v pv=>pv
   ·obtain⟨p,kk,vv,e,⟨o,m,g1,g2,g3⟩,pv⟩:=tps j u hu;exact⟨p,kk,vv,e,⟨o,m,NT _ (kp _ _ g1),g2,g3⟩,pv⟩
   ·have e:=Rs.mp hb;subst e;exact⟨I1.fpOk (le_of_lt hlt) (I1.hok.fresh (le_of_lt hlt)),Rb hlt⟩
 ·exact q1.elim
theorem HQ{X:Cx}{a b:Oj}{ta:nH}{p1 p2 pos Tp:Pos}(hu:X.A.units+8 < OL)(hc:X.calm=true)(hg1:Gl X "dict")(hm1:X.mg "dict"=none)(hg2:Gl X "zip")(hm2:X.mg "zip"=none)(ha:PA X [a,b] (eK X.K ta))
  (hs:N5 [a,b] X.env=[(false,eval a X.env),(false,eval b X.env)]:=by rfl) (hs2:N5 [b] X.env=[(false,eval b X.env)]:=by rfl):
  PE X (.Call (.Name "dict" p1) [.Call (.Name "zip" p2) [a,b] [] Tp] [] pos) (aB X.K (u5 (aH X.prog X.w) ta)):=by
 rintro pins s τ H Q I ⟨σ,G,Q3,rs,rg,h,k⟩
 refine RK (fE I hg1 hm1 w_ (PyProof.Rows.callWith_type1 ?_ rfl rfl) (by decide) (by decide))
 show NZ _ _ (spliced [(false,eval (.Call (.Name "zip" p2) [a,b] [] Tp) X.env)]) _ _ _
 refine OP (RK (fE I hg2 hm2 Aw (PyProof.Rows.callWith_type1 (cz (ha Tp pins s τ H (fun vs H1=>∃ ds G1,(match ds with|[x,y]=>∃ a b,∃ kvs:List (List aD×D),(fi x=some a/\fi y=some b/\oG a b=kvs.map zJ/\kvs.length<=900000)/\∀ p,G1 p=none->Q3 (.ref p) (gset G1 p (.dT (aH X.prog X.w) (dictOf kvs)))|_=>False)/\Kp G H G1 H1/\RG X.K H1 G1/\RDs X.K H1 ds vs) I
  ⟨σ,G,_,rs,rg,h,fun ds G1 vs H1 q k1 rg1 rds=>⟨ds,G1,q,k1,rg1,rds⟩⟩) fun us s1 ⟨vs,H1,I1,r1,q1⟩=>?_) (by rw[hs,hs2]) (by rw[hs2];rfl)) (by decide) (by decide)))
 obtain⟨ds,G1,q,k1,rg1,rds⟩:=q1;split at q
 ·rename_i x y;obtain⟨as,bs,kvs,⟨ea,eb,ez,hz⟩,q⟩:=q;obtain⟨v,v',rfl,rd1,rd2⟩:=xp rds;obtain⟨u,u',rfl,ru1,ru2⟩:=r1.two;obtain⟨z1,rfl,t1,w1⟩:=B3 ea rd1 ru1;obtain⟨z2,rfl,t2,w2⟩:=B3 eb rd2 ru2;have n1:=t1.length;have n2:=t2.length;have hr1:=(w1 G1 G1 H1 rg1 Kp.refl).1;have hr2:=(w2 G1 G1 H1 rg1 Kp.refl).1;refine w8 (Zk.of I1 hr1) (Zk.of I1 hr2) fun h' zs hsz kp=>O1 ?_;have I2:L2.Inv X pins τ H1 { s1 with heap:=h' }:=I1.kept (t':=s1.toks) kp
  have DZ:ZAp (s1.heap.objs.size+4) (s1.heap.objs.size+2) (s1.heap.objs.size+3) s1.heap.objs.size (s1.heap.objs.size+1):=⟨Oq (PU (s1.heap.objs.size+2)),Oq (PU s1.heap.objs.size)⟩;obtain⟨f0,f1,_,hzo⟩:=zs.1;have hlen:kvs.length=min z1.vs.length z2.vs.length:=by
   have:=kZ as bs;rw[ez,NS]at this;omega
  refine An (s1:={ s1 with heap:=h' }) (T:="zip") (kvs:=kvs) hu I2 rg1 hz ⟨_,hzo,rfl⟩ (by decide) (fun s' Q' E' kp' q'=>zM (kp' _ _ hzo) (I.ok.hd hc) q') (fun h2 tk2 Q' E' kp2 hlt q'=>?_) fun s' H' I' hf kp' rg'=>⟨.ref h'.objs.size,H',I',rfl,k _ _ _ H' (q _ (rg1.free hf)) (k1.trans kp') rg' (.of gM)⟩
  have zs2:CV z1 z2 (s1.heap.objs.size+4) (s1.heap.objs.size+2) (s1.heap.objs.size+3) s1.heap.objs.size (s1.heap.objs.size+1) 0 h2:=zs.keep fun b _ o e=>kp2 b o e;refine (tG (P:=X.prog) (w:=X.w) (K:=X.K) (tg:=.Name "" pos) z1 z2 _ _ _ _ _ DZ).self _ 0 { s1 with heap:=h2,toks:=tk2 } _ _ zs2 ?_
  have W:=Dh (prog:=X.prog) (w:=X.w) (A:=X.A.in1.in1) (k1:=z1) (k2:=z2) (I.ok.hd hc) DZ;rw[<- hlen]at W;refine q' _ _ _ _ _ W ⟨zs2,Zk.grow (Zk.of I1 hr1) fun c o e=>kp2 c o (kp c o e),Zk.grow (Zk.of I1 hr2) fun c o e=>kp2 c o (kp c o e)⟩ (fun _ _ e=>e) (fun c hc=>?_) fun i kk vv pv=>?_
  ·have hc':s1.heap.objs.size<=c/\c≠s1.heap.objs.size+5:=by
    simp only[Oz,OF,or_false]at hc;rcases hc with rfl|rfl|rfl|rfl|rfl
    ·exact⟨Nat.le_add_right _ _,Oq (Nat.add_lt_add_left (by decide) _)⟩
    ·exact⟨Nat.le_add_right _ _,Oq (Nat.add_lt_add_left (by decide) _)⟩
    ·exact⟨Nat.le_add_right _ _,Oq (Nat.add_lt_add_left (by decide) _)⟩
    ·exact⟨le_refl _,Oq (Nat.lt_add_of_pos_right (by decide))⟩
    ·exact⟨Nat.le_add_right _ _,Oq (Nat.add_lt_add_left (by decide) _)⟩
   refine⟨I1.fpOk hc'.1 (I1.hok.fresh hc'.1),?_⟩;show c≠h'.objs.size
   rw[hsz];exact hc'.2
  ·obtain⟨u,x,e1,e2,ru,rx⟩:=pv;obtain⟨d1,g1,r1⟩:=RDs.getV t1 e1;obtain⟨d2,g2,r2⟩:=RDs.getV t2 e2;have e3:=tE g1 g2;rw[ez,N8]at e3;cases hkv:kvs[i]? with
   | none=>rw[hkv]at e3;cases e3
   | some kv=>
    rw[hkv]at e3;simp only[Option.map_some,Option.some.injEq,zJ,D.tup.injEq,List.cons.injEq,and_true]at e3;obtain⟨rfl,rfl⟩:=e3;obtain⟨b,rfl,sb⟩:=Jv r1;cases ru;exact⟨kv,b,x,rfl,rfl,sb,r2,rx⟩
 ·exact q.elim
def FU(kv:List aD×D):D:=.tup (kv.1.map kD)
def zo(te:bG)(g:vi)(tb:ck):ck:=fun E σ G=>te σ G fun d G1=>match d with
 | .ref a=>∃ hw kvs,G1 a=some (.dT hw kvs)/\ForIn g tb { nx:=fun σ' G'=>E.nx σ' (gset G' a (.dT hw kvs)),rt:=fun _ _=>False } σ (kvs.map FU) (fF G1 a)
 | _=>False
theorem DH{prog:N_}{w:Og}{A:Oc}{E:NO->NP->Prop}{s:NP}{d:NR}{vs:List NO}{ep:Nat}{Q:NO->NP->Prop}(hd:(d == OK)=false)(x:vk s.heap d vs ep)
  (q:Q (.ref s.heap.objs.size) { s with heap:=s.heap.push { cls:=.type "dict_keyiterator",data:=.fields #[.ref d,.int 0 0,.int vs.length 0,.int ep 0] } }):NZ (N4 prog w) A (QE (.ref d)) Q E s:=by
 obtain⟨o,es,ho,hc,hdat,rfl⟩:=id x;refine Rx x.ty PySem.F.slot_dict_iter (OQ PySem.F.slot_dict_iter x.ty PySem.F.entry_dict_iter ?_ (PySem.F.args_dict_iter_1 _));unfold Builtin.«dict.__iter__»;refine NN ?_;unfold Builtin.Dict.dictSlotNone;refine NN (Q6 x.ty ?_);show NZ _ _ (pure (Value.ref d)) _ _ s;refine NQ ?_
 show NZ _ _ (Qm d >>= _) _ _ s;unfold Qm;rw[if_neg (by rw[hd];exact Bool.false_ne_true)]
 refine NN (NQ ?_);refine NN (PJ ho hdat ?_);refine NN (P9 ho hdat ?_);refine NN (OE (NQ ⟨_,rfl,"dict_keyiterator",_,⟨_,NW _ rfl,rfl⟩,PySem.F.slot_dict_keyiterator_next.lookup,?_⟩))
 simpa[PN]using q
theorem Bf{K:Sf}{H:Hp}:∀ ks:List aD,RDs K H (ks.map kD) (ks.map kV)
 | []=>RDs.nil
 | .inl i::r=>RDs.cons eE (Bf r)
 | .inr x::r=>RDs.cons iT (Bf r)
theorem qo.at{K:Sf}{H:Hp}{kvs:List (List aD×D)}{xs:List (List aD×NR×NO)}(r:qo K H kvs xs):∀ {i:Nat} {kv:List aD×D},kvs[i]?=some kv->∃ x,xs[i]?=some x/\RD K H (FU kv) (.ref x.2.1):=by
 unfold qo at r
 induction r with
 | nil=>intro i kv h;simp at h
 | @cons p q ps qs hq t ih=>
  intro i kv h;cases i with
  | zero=>
   simp only[OC,Option.some.injEq]at h;subst h;refine⟨q,rfl,?_⟩;unfold FU;simp only[RD];exact⟨q.2.1,_,rfl,hq.2.1,Bf _⟩
  | succ i=>
   simp only[Ov]at h ⊢;exact ih h
abbrev EX(a:NR)(o:Obj):HO:=.ext fun h=>h.get? a=some o
theorem Mi{P:N_}{w:Og}{H:Hp}{h:Of}{a:NR}{o:Obj}(e:h.get? a=some o):cf P w H h a (EX a o):=⟨e,⟨o,e⟩,fun _ _ q k=>k o q⟩
theorem JX{X:Cx}{tg iter:Oj}{body:List Op}{te:bG}{g:vi}{tb:ck}{pos:Pos}(hp:Rm (N4 X.prog X.w) X.A X.env X.xe)(hc:X.calm=true)(hi:PE X iter (aB X.K te))(hg:PG X tg (jt X.K g))(hb:rE X body (cB X.K tb))
  (hs:∀ x,OU iter X.env x=pure x:=by intro _;rfl):PS X (.For tg iter body [] pos) (cB X.K (zo te g tb)):=by
 rintro pins s τ H Dd I ⟨σ,G,D3,rs,rg,h,k⟩
 refine wpAny_For (cz (dN hi I rs rg h) fun v s1 ⟨ox,H1,I1,rox,d,G1,q1,k1,rg1,rd1⟩=>?_) hs;cases d with
 | ref a=>
  obtain⟨hw,kvs,hga,Pv,p0,step,fin⟩:=q1;simp only[val,RD]at rd1;subst rd1;cases rox;obtain⟨hob,eo,ro⟩:=rg1 a _ hga;cases hob with
  | ext φ=>
   obtain⟨xs,rfl,rt,nd,len⟩:=ro;obtain⟨hsm,o1,es,ep,g1,g2,g3,g4⟩:=(show cf X.prog X.w H1 s1.heap a (.ext (yX hw a xs))from I1.hok a _ eo).1
   have raw:∀ {h:Of},h.get? a=some o1->vk h a (xs.map fun x=>Value.ref x.2.1) ep:=fun e=>⟨o1,es,e,g2,g3,by rw[g4,Ot];rfl⟩
   have lx:=rt.length;refine DH hsm (raw g1) ?_;have hita:a≠s1.heap.objs.size:=Oq (N7 g1);have kpA:Kp G1 H1 (fF G1 a) (bq H1 a (EX a o1)):=fun b u e n=>by
    have hb:b≠a:=fun z=>by subst z;rw[hga]at n;cases n
    exact⟨by rw[aA hb];exact e,by rw[dP hb];exact n⟩
   have rg2:RG X.K (bq H1 a (EX a o1)) (fF G1 a):=fun b u e=>by
    have hb:b≠a:=fun z=>by subst z;rw[dz]at e;cases e
    rw[dP hb]at e;obtain⟨ho,e1,r1⟩:=rg1 b u e;exact⟨ho,by rw[aA hb];exact e1,r1.mono (kpA.stb rg1)⟩
   have I1':L2.Inv X pins τ (bq H1 a (EX a o1)) { s1 with heap:=s1.heap,toks:=s1.toks }:=I1.write (x:=a) (e:=a) (by rw[eo];exact True.intro) (.inl rfl) (fun _ _ _ q=>q) ⟨o1,g1⟩ (Mi g1)
   have I2:L2.Inv X pins τ (bq H1 a (EX a o1)) { s1 with heap:=s1.heap.push { cls:=.type "dict_keyiterator",data:=.fields #[.ref a,.int 0 0,.int (xs.map fun x=>Value.ref x.2.1).length 0,.int ep 0] } }:=I1'.kept (t':=s1.toks) fun _ _ q=>NT _ q
   have fit:rF X pins (bq H1 a (EX a o1)) s1.heap.objs.size:=I1.fpOk (le_refl _) (by rw[aA hita.symm];exact I1.hok.fresh (le_refl _))
   have back:∀ {τ':St} {H':Hp} {G':Gp} {σ':ff} {s':NP},L2.Inv X pins τ' H' s'->Kp (fF G1 a) (bq H1 a (EX a o1)) G' H'->RS X.K H' σ' τ'->RG X.K H' G'->D3.nx σ' (gset G' a (.dT hw kvs))->∃ τ'' H'',L2.Inv X pins τ'' H'' s'/\Dd.nx τ'' H'':=fun {τ' H' G' σ' s'} I' kk rs' rg' q=>by
    obtain⟨e1,e2⟩:=kk a _ aN dz;have e3:s'.heap.get? a=some o1:=(show cf X.prog X.w H' s'.heap a (EX a o1)from I'.hok a _ e1).1
    have I'':L2.Inv X pins τ' (bq H' a (.ext (yX hw a xs))) { s' with heap:=s'.heap,toks:=s'.toks }:=I'.write (x:=a) (e:=a) (by rw[e1];exact True.intro) (.inl rfl) (fun _ _ _ q=>q) ⟨o1,e3⟩ (rq ⟨hsm,o1,es,ep,e3,g2,g3,g4⟩)
    have st1:=(kpA.stb rg1);have st2:=(kk.stb rg2);have st3:Stb X.K H' (bq H' a (.ext (yX hw a xs))):=⟨fun b ys y=>by
     rcases y with (y|⟨o',y⟩)|y
     ·exact .inl (.inl (by rw[aA (fun z=>by rw[z,e1]at y;cases y)];exact y))
     ·exact .inl (.inr ⟨o',by rw[aA (fun z=>by rw[z,e1]at y;cases y)];exact y⟩)
     ·exact .inr y,fun b ys y=>by
     rcases y with ⟨o',y⟩|y
     ·exact .inl ⟨o',by rw[aA (fun z=>by rw[z,e1]at y;cases y)];exact y⟩
     ·exact .inr y⟩
    have rg3:RG X.K (bq H' a (.ext (yX hw a xs))) (gset G' a (.dT hw kvs)):=fun b u e=>by
     by_cases hb:b=a
     ·subst hb;rw[aw]at e;cases e;exact⟨_,aN,xs,rfl,((rt.mono st1).mono st2).mono st3,nd,len⟩
     ·rw[am hb]at e;obtain⟨ho,e4,r4⟩:=rg' b u e;exact⟨ho,by rw[aA hb];exact e4,r4.mono st3⟩
    have kpC:Kp G H (gset G' a (.dT hw kvs)) (bq H' a (.ext (yX hw a xs))):=fun b u e n=>by
     obtain⟨e4,n4⟩:=k1 b u e n;have hb:b≠a:=fun z=>by subst z;rw[hga]at n4;cases n4
     obtain⟨e5,n5⟩:=kk b u (by rw[aA hb];exact e4) (by rw[dP hb];exact n4)
     exact⟨by rw[aA hb];exact e5,by rw[am hb];exact n5⟩
    exact⟨τ',_,I'',k.nx σ' _ τ' _ q kpC rg3 (rs'.mono st3)⟩
   refine SX (fun n s'=>∃ i σ' τ' G' H',L2.Inv X pins τ' H' s'/\s'.heap.IsKeyIter s1.heap.objs.size a i (xs.map fun x=>Value.ref x.2.1).length ep/\H' s1.heap.objs.size=none/\RS X.K H' σ' τ'/\RG X.K H' G'/\Pv i σ' G'/\Kp (fF G1 a) (bq H1 a (EX a o1)) G' H'/\i<=kvs.length/\n=kvs.length - i) ?_ kvs.length
    ⟨0,σ,τ,fF G1 a,_,I2,⟨_,NW _ rfl,rfl,rfl⟩,fit.1,rs.mono ((k1.trans kpA).stb rg),rg2,p0,Kp.refl,OD _,rfl⟩
   rintro n s3 ⟨i,σ3,τ3,G3,H3,I3,ki,fr3,rs3,rg3,pv,kk,hil,rfl⟩
   obtain⟨e1,e2⟩:=kk a _ aN dz;have e3:s3.heap.get? a=some o1:=(show cf X.prog X.w H3 s3.heap a (EX a o1)from I3.hok a _ e1).1
   by_cases hlt:i < kvs.length
   ·obtain⟨x,hx,rd⟩:=((rt.mono (kpA.stb rg1)).mono (kk.stb rg2)).at (NV hlt);refine OM hp (E7 ki (raw e3) (v:=.ref x.2.1) (by rw[N8,hx];rfl) fun h4 ki4 sb=>?_)
    have I4:L2.Inv X pins τ3 H3 { s3 with heap:=h4,toks:=s3.toks }:=I3.turned (fun b o hb e=>(sb.2 b hb).trans e) fr3 fit.2.1 fit.2.2.2.1 fit.2.2.2.2.1 fit.2.2.2.2.2
    obtain⟨oi,ei,ci,di⟩:=id ki4;refine OM hp (Ae (s:={ s3 with heap:=h4 }) ei ci di (by decide) ?_)
    have I4':=I4.pinned (fp:=[s1.heap.objs.size]) (fun b hb=>by rw[Rs.mp hb];exact⟨fr3,fit.2⟩) fun b hb=>by rw[Rs.mp hb];exact⟨oi,ei,fun v z=>by rw[di]at z;cases z⟩
    refine OM hp (cz (hg _ _ τ3 H3 (.ref x.2.1) (.ref x.2.1) (fun τ2 H2=>cB X.K tb { nx:=fun τ' H'=>∃ σ' G',RS X.K H' σ' τ'/\RG X.K H' G'/\Pv (i+1) σ' G'/\Kp (fF G1 a) (bq H1 a (EX a o1)) G' H',ct:=fun τ' H'=>∃ σ' G',RS X.K H' σ' τ'/\RG X.K H' G'/\Pv (i+1) σ' G'/\Kp (fF G1 a) (bq H1 a (EX a o1)) G' H',bk:=fun τ' H'=>∃ σ' G',RS X.K H' σ' τ'/\RG X.K H' G'/\D3.nx σ' (gset G' a (.dT hw kvs))/\Kp (fF G1 a) (bq H1 a (EX a o1)) G' H',rt:=fun _ _=>False } τ2 H2) I4' rfl
     ⟨FU kvs[i],σ3,G3,_,rd,rs3,rg3,step i _ σ3 G3 (by rw[N8,NV hlt];rfl) pv,fun σ5 G5 τ5 H5 q5 k5 rg5 rs5=>⟨σ5,G5,_,rs5,rg5,q5,⟨fun σ6 G6 τ6 H6 q6 k6 rg6 rs6=>⟨σ6,G6,rs6,rg6,q6,kk.trans (k5.trans k6)⟩,fun _ _ _ _ q _ _ _=>q.elim,fun σ6 G6 τ6 H6 q6 k6 rg6 rs6=>⟨σ6,G6,rs6,rg6,q6,kk.trans (k5.trans k6)⟩,fun σ6 G6 τ6 H6 q6 k6 rg6 rs6=>⟨σ6,G6,rs6,rg6,q6,kk.trans (k5.trans k6)⟩⟩⟩⟩) fun _ s6 ⟨σ6,H6,I6,q6⟩=>?_)
    refine OM hp (cz (hb _ s6 σ6 H6 _ I6 q6) fun f s7 q7=>?_);have again:∀ {τ7:St} {H7:Hp},L2.Inv X (pins ++ qL [s1.heap.objs.size] h4) τ7 H7 s7->(∃ σ' G',RS X.K H7 σ' τ7/\RG X.K H7 G'/\Pv (i+1) σ' G'/\Kp (fF G1 a) (bq H1 a (EX a o1)) G' H7)->∃ m,m < kvs.length - i/\∃ i σ' τ' G' H',L2.Inv X pins τ' H' s7/\s7.heap.IsKeyIter s1.heap.objs.size a i (xs.map fun x=>Value.ref x.2.1).length ep/\H' s1.heap.objs.size=none/\RS X.K H' σ' τ'/\RG X.K H' G'/\Pv i σ' G'/\Kp (fF G1 a) (bq H1 a (EX a o1)) G' H'/\i<=kvs.length/\m=kvs.length - i:=fun {τ7 H7} I7 ⟨σ7,G7,rs7,rg7,pv7,k7⟩=>by
     have pin:=I7.pin (s1.heap.objs.size,oi) (Ox _ (Ox _ (ix (by simp) ei)))
     exact⟨kvs.length - (i+1),by walk_at "o",i+1,σ7,τ7,G7,H7,I7.unpinned,⟨oi,pin.1,ci,di⟩,pin.2.1,rs7,rg7,pv7,k7,hlt,rfl⟩
    cases f with
    | next=>obtain⟨σ7,H7,I7,n7⟩:=q7;exact again I7 n7
    | cont=>obtain⟨σ7,H7,I7,n7⟩:=q7;exact again I7 n7
    | brk=>
     obtain⟨σ7,H7,I7,σ8,G8,rs8,rg8,q8,k8⟩:=q7;exact back I7.unpinned k8 rs8 rg8 q8
    | ret v=>obtain⟨x7,σ7,H7,I7,r7,q7⟩:=q7;exact q7.elim
   ·have ei:i=kvs.length:=by walk_at "o"
    subst ei;refine OM hp (Hu (I.ok.hd hc) ki (raw e3) (by rw[N8,OI (by walk_at "o")];rfl) fun h4 eb=>Qs ?_)
    have I4:L2.Inv X pins τ3 H3 { s3 with heap:=h4,toks:=s3.toks }:=I3.turned (fun b o hb e=>eb b o hb e) fr3 fit.2.1 fit.2.2.2.1 fit.2.2.2.2.1 fit.2.2.2.2.2
    exact back I4 kk rs3 rg3 (fin σ3 G3 (by rw[NS];exact pv))
  | _=>exact ro.elim
 | _=>exact q1.elim
open HT PySem.SeqAt
def Gb(te:bG)(tl th ts:GR):bG:=fun σ G Q=>te σ G fun x G1=>tl σ G1 fun l G2=>th σ G2 fun u G3=>ts σ G3 fun st G4=>match x with
 | .tup ds=>(l=none/\u=none/\st=some (-1))/\Q (.tup ds.reverse) G4
 | _=>False
def yH(to:bG)(ta:nH):bG:=fun σ G Q=>to σ G fun x G1=>match x with
 | .tup ds=>ta σ G1 fun es G2=>match es with
  | [y]=>(pl 7 y/\(∀ d∈ds,pl 7 d)/\y∈ds)/\Q (.int (F0 y ds)) G2
  | _=>False
 | _=>False
def Lj(a:NR)(k:Nat)(g:vi)(tt:qt)(te:bG)(σ:ff)(ds:List D)(G1:Gp)(Q:m5):Prop:=ds.length<=NY/\∃ Pv:Nat->List D->Gp->Prop,Pv 0 [] G1/\(∀ i acc G',Pv i acc G'->G' a=some (.lst ds))/\
 (∀ (i:Nat) d acc G',ds[i]?=some d->Pv i acc G'->g d (List.replicate k none ++ σ) G' fun σ2 G2=>(k<=σ2.length/\σ2.drop k=σ)/\tt σ2 G2 fun b G3=>if b=true then te σ2 G3 fun y G4=>Pv (i+1) (acc ++ [val y]) G4 else Pv (i+1) acc G3)/\
 ∀ acc G',Pv ds.length acc G'->Q (.fl acc) G'
def ow(k:Nat)(tl:bG)(g:vi)(tt:qt)(te:bG):bG:=fun σ G Q=>tl σ G fun d G1=>match d with
 | .ref a=>∃ ds,G1 a=some (.lst ds)/\Lj a k g tt te σ ds G1 Q
 | d=>match d9 d with
  | some ds=>vt k g tt te σ ds G1 Q
  | none=>False
section
variable{X:Cx}{elt tg iter:Oj}{ifs:List Oj}{scope:Qk}{T M:List Str}{pos:Pos}{tl:bG}{g:vi}{tt:qt}{te:bG}
theorem ju{K:Sf}{τ:St}{σ:ff}{G G1:Gp}{H H1:Hp}{Q:VK}{Q3:m5}{ds:List D}{J:It}{Pv:Nat->List D->Gp->Prop}(rs:RS K H σ τ)(rg:RG K H G)(k:∀ d G' v H',Q3 d G'->Kp G H G' H'->RG K H' G'->RE K G H G' H' d v->Q v H')(k1:Kp G H G1 H1)(rg1:RG K H1 G1)
  (p0:Pv 0 [] G1) (it:∀ i acc G' H',Pv i acc G'->Kp G1 H1 G' H'->RG K H' G'->(i < ds.length->J.go i H'/\∀ x H2,J.yld i H' x H2->Kp G' H' G' H2/\RG K H2 G'/\∃ d,ds[i]?=some d/\RD K H2 d x)/\(i=ds.length->J.stop i H'))
  (step:∀ (i:Nat) d acc G',ds[i]?=some d->Pv i acc G'->g d (List.replicate T.length none ++ σ) G' fun σ2 G2=>(T.length<=σ2.length/\σ2.drop T.length=σ)/\tt σ2 G2 fun b G3=>if b=true then te σ2 G3 fun y G4=>Pv (i+1) (acc ++ [val y]) G4 else Pv (i+1) acc G3)
  (fin:∀ acc G',Pv ds.length acc G'->Q3 (.fl acc) G') (hsz:ds.length<=NY):
  ∀ Da,H1 Da=none->∃ W:Nat->Nat->List V->St->Hp->Prop,(∃ m,W 0 m [] (ent T τ) (bq H1 Da (.lst [])))/\
   ∀ i m ys σ1 H2,W i m ys σ1 H2->H2 Da=some (.lst ys)/\((J.stop i H2/\Q (.ref Da) H2)\/(J.go i H2/\∃ N:List V->St->Hp->Prop,(∀ ys' σ' H',N ys' σ' H'->∃ m',m' < m/\W (i+1) m' ys' σ' H')/\
    ∀ x H',J.yld i H2 x H'->jt K g x σ1 H' fun σ2 H3=>cU K tt σ2 H3 fun b H4=>if b=true then wR K te σ2 H4 fun y H5=>H5 Da=some (.lst ys)/\ys.length < NY/\N (ys ++ [y]) σ2 (bq H5 Da (.lst (ys ++ [y])))else N ys σ2 H4)):=by
 intro Da hD;have kD:Kp G1 H1 G1 (bq H1 Da (.lst [])):=Kp.laid hD;have rgD:RG K (bq H1 Da (.lst [])) G1:=rg1.laid hD;have gD:G1 Da=none:=rg1.free hD;refine⟨fun i m ys τ2 H2=>m=ds.length - i/\i<=ds.length/\∃ acc G2,H2 Da=some (.lst ys)/\G2 Da=none/\RG K H2 G2/\RS K H2 (List.replicate T.length none ++ σ) τ2/\RDs K H2 acc ys/\acc.length<=i/\Pv i acc G2/\(∀ a h,a≠Da->H1 a=some h->G1 a=none->H2 a=some h/\G2 a=none),
  ⟨ds.length,rfl,OD _,[],G1,aN,gD,rgD,ES T (rs.mono ((k1.trans kD).stb rg)),RDs.nil,le_refl _,p0,fun a h ha e n=>⟨by rw[aA ha];exact e,n⟩⟩,?_⟩
 rintro i m ys τ2 H2 ⟨rfl,hi',acc,G2,eD,nD,rg2,rs2,ra,la,pv,k2⟩
 have k2':Kp G1 H1 G2 H2:=fun a h e n=>k2 a h (b_ e hD) e n;refine⟨eD,?_⟩;obtain⟨hgo,hstop⟩:=it i acc G2 H2 pv k2' rg2
 by_cases hlt:i < ds.length
 ·obtain⟨go,yld⟩:=hgo hlt;refine .inr ⟨go,fun ys' τ' H'=>∃ acc G',H' Da=some (.lst ys')/\G' Da=none/\RG K H' G'/\RS K H' (List.replicate T.length none ++ σ) τ'/\RDs K H' acc ys'/\acc.length<=i+1/\Pv (i+1) acc G'/\(∀ a h,a≠Da->H1 a=some h->G1 a=none->H' a=some h/\G' a=none),
   fun ys' τ' H' q'=>⟨ds.length - (i+1),by walk_at "o",rfl,hlt,q'⟩,fun x H3 y=>?_⟩
  obtain⟨ky,rgy,d,hd,rd⟩:=yld x H3 y;refine⟨d,List.replicate T.length none ++ σ,G2,_,rd,rs2.mono (ky.stb rg2),rgy,step i d acc G2 hd pv,fun σ4 G4 τ4 H4 q4 k4 rg4 rs4=>?_⟩;obtain⟨⟨hlen,hdrop⟩,q4⟩:=q4;have rs4':RS K H4 (List.replicate T.length none ++ σ) τ4:=by
   have:=qD T.length hlen rs4;rw[hdrop]at this;exact this
  refine⟨σ4,G4,_,rs4,rg4,q4,fun b G5 H5 q5 k5 rg5=>?_⟩;have e3:H3 Da=some (.lst ys):=(ky Da _ eD nD).1;have e4:=k4 Da _ e3 nD;have e5:=k5 Da _ e4.1 e4.2;have kk:∀ {G6:Gp} {H6:Hp},Kp G5 H5 G6 H6->∀ a h,a≠Da->H1 a=some h->G1 a=none->H6 a=some h/\G6 a=none:=fun k6 a h ha e n=>((((Kp.trans k2' ky).trans k4).trans k5).trans k6) a h e n;cases b with
  | false=>
   refine iteF ⟨acc,G5,e5.1,e5.2,rg5,rs4'.mono (k5.stb rg4),RDs.mono (((ky.trans k4).trans k5).stb rg2) _ _ ra,by walk_at "o",q5,kk Kp.refl⟩
  | true=>
   refine iteT ⟨σ4,G5,_,rs4.mono (k5.stb rg4),rg5,q5,fun yv G6 v H6 q6 k6 rg6 rd6=>?_⟩;have e6:=k6 Da _ e5.1 e5.2;have la':=ra.length;have st:Stb K H6 (bq H6 Da (.lst (ys ++ [v]))):=by
    constructor
    ·intro a zs q;rcases q with (q|⟨o,q⟩)|q
     ·exact .inl (.inl (by rw[aA (fun z=>by subst z;rw[e6.1]at q;cases q)];exact q))
     ·exact .inl (.inr ⟨o,by rw[aA (fun z=>by subst z;rw[e6.1]at q;cases q)];exact q⟩)
     ·exact .inr q
    ·intro a zs q;rcases q with ⟨o,q⟩|q
     ·exact .inl ⟨o,by rw[aA (fun z=>by subst z;rw[e6.1]at q;cases q)];exact q⟩
     ·exact .inr q
   refine⟨e6.1,by walk_at "o",acc ++ [val yv],G6,aN,e6.2,fun a o q=>?_,(rs4'.mono ((k5.trans k6).stb rg4)).mono st,?_,by simp;omega,q6,fun a h ha e n=>?_⟩
   ·obtain⟨h',q1,q2⟩:=rg6 a o q;exact⟨h',by rw[aA (fun z=>by subst z;rw[e6.2]at q;cases q)];exact q1,q2.mono st⟩
   ·exact RDs.append (RDs.mono st _ _ (RDs.mono ((((ky.trans k4).trans k5).trans k6).stb rg2) _ _ ra)) (RDs.cons (RD.mono st _ _ rd6) RDs.nil)
   ·rw[aA ha];exact kk k6 a h ha e n
 ·have e:i=ds.length:=by walk_at "o"
  refine .inl ⟨hstop e,k _ G2 _ H2 (fin acc G2 (by rw[<- e];exact pv)) (k1.trans k2') rg2 (.inl ⟨acc,Da,ys,rfl,rfl,eD,nD,ra,?_⟩)⟩
  exact k1.fr (mJ hD)
def Mb(K:Sf)(te:bG):TI:=fun τ H R=>∃ σ G Q3,RS K H σ τ/\RG K H G/\te σ G Q3/\∀ d G1 H1,Q3 d G1->Kp G H G1 H1->RG K H1 G1->match d with
  | .ref a=>(∃ ds,G1 a=some (.lst ds))/\R (Mw K a) H1
  | d=>∃ ds,d9 d=some ds/\∀ J,wp K G1 H1 ds J->R J H1
theorem HG{e:Oj}{te:bG}(h:PE X e (aB X.K te)):PI X tg e (Mb X.K te):=Cp h
theorem BQ{K:Sf}{τ:St}{H:Hp}{Q:VK}(h:aB K (ow T.length tl g tt te) τ H Q):B9 (ent T) (Mb K tl) (jt K g) (cU K tt) (wR K te) τ H Q:=by
 obtain⟨σ,G,Q3,rs,rg,h,k⟩:=h;refine⟨σ,G,_,rs,rg,h,fun d G1 H1 q k1 rg1=>?_⟩;cases d with
 | ref a=>
  obtain⟨ds,hg,hsz,Pv,p0,live,step,fin⟩:=q;refine⟨⟨ds,hg⟩,ju rs rg k k1 rg1 p0 (fun i acc G' H' pv k' rg'=>?_) step fin hsz⟩;obtain⟨xs,e1,r⟩:=uy rg' (live i acc G' pv);have hl:=r.length;refine⟨fun hi=>⟨⟨xs,xs[i]'(by walk_at "o"),jw.of e1,by simp[show i < xs.length by walk_at "o"]⟩,fun x H2 y=>?_⟩,fun e=>⟨xs,jw.of e1,by walk_at "o"⟩⟩
  obtain⟨rfl,hx⟩:=y;refine⟨Kp.refl,rg',ds[i],by simp[hi],?_⟩
  obtain⟨y,e,q⟩:=r.get (i:=i) (d:=ds[i]) (by simp[hi])
  rw[hx xs (jw.of e1)]at e;cases e;exact q
 | lst ds=>
  obtain⟨hsz,Pv,p0,step,fin⟩:=q;exact⟨_,rfl,fun J it=>ju rs rg k k1 rg1 p0 (fun i acc G' H' _ k' rg'=>it i G' H' k' rg') step fin hsz⟩
 | fl ds=>
  obtain⟨hsz,Pv,p0,step,fin⟩:=q;exact⟨_,rfl,fun J it=>ju rs rg k k1 rg1 p0 (fun i acc G' H' _ k' rg'=>it i G' H' k' rg') step fin hsz⟩
 | tup ds=>
  obtain⟨hsz,Pv,p0,step,fin⟩:=q;exact⟨_,rfl,fun J it=>ju rs rg k k1 rg1 p0 (fun i acc G' H' _ k' rg'=>it i G' H' k' rg') step fin hsz⟩
 | str z=>
  obtain⟨hsz,Pv,p0,step,fin⟩:=q;exact⟨_,rfl,fun J it=>ju rs rg k k1 rg1 p0 (fun i acc G' H' _ k' rg'=>it i G' H' k' rg') step fin hsz⟩
 | _=>exact q.elim
theorem Ct(ok:CompOk X scope T M)
  (hin:∀ cl C s₀ H₀ fp,PG (bU X (T ++ M) scope cl C s₀ H₀ fp) tg (jt X.K g)/\GS (bU X (T ++ M) scope cl C s₀ H₀ fp) ifs (cU X.K tt)/\PE (bU X (T ++ M) scope cl C s₀ H₀ fp) elt (aB X.K te))
  (hi:PE X iter (aB X.K tl)) (hs:∀ x,OU iter X.env x=pure x:=by intro _;rfl):PE X (.ListComp elt [⟨tg,iter,ifs,0⟩] scope pos) (aB X.K (ow T.length tl g tt te)):=
 (Cr ok (fun cl C s₀ H₀ fp=>let ⟨a,b,c⟩:=hin cl C s₀ H₀ fp;⟨a,b,d4 c⟩) (HG hi) hs).imp fun _ _ _ h=>BQ h
end
open PySem.W
abbrev KS(C t:NR):Obj:={ cls:=.ref C,data:=.fields #[.ref t,.none,.none,.none,.bool false,.none] }
section
open Builtin Builtin.ObjectAttr
variable{prog:N_}{w:Og}{A:Oc}{K:Sf}{s:NP}{x C:NR}{o:Obj}{cd:ClassData}{name:Str}{v:NO}
end
end L3
namespace L2
open PySem PySem.Spec PyProof.Rows
def NK(n:Nat)(H:Hp)(h:Of)(x C dx:NR):Prop:=n<=x/\H x=none/\∃ oe vs,h.get? x=some oe/\oe.cls=.ref C/\oe.dict=some dx/\oe.data=.fields vs/\
 (vs[1]?=some .none\/∃ T oT ts,vs[1]?=some (.ref T)/\T≠x/\n<=T/\H T=none/\h.get? T=some oT/\oT.data=.fields ts/\ts[3]?=some .none)
def NM(P:N_)(w:Og):Ej:=fun outer H s E e s'=>∃ x C dx H',e=.ref x/\s'.os=s.os/\QN s'.gens/\Un (Eg outer) [] H H' s.heap s'.heap/\oB P w H' s'.heap/\NK s.heap.objs.size H' s'.heap x C dx/\s.heap.get? dx=none/\E (.ref C) (some dx) H'
open L3
def Nn:List NO:=[.type "ValueError",.type "Exception",.type "BaseException",.type "object"]
abbrev Iy(C t dx:NR):Obj:={ cls:=.ref C,dict:=some dx,data:=.fields #[.ref t,.none,.none,.none,.bool false,.none] }
def BH(H:Hp)(a:NR):Hp:=fun b=>if b=a then none else H b
theorem DL{H:Hp}{a:NR}:BH H a a=none:=by unfold BH;rw[if_pos rfl]
theorem mH{H:Hp}{a b:NR}(h:b≠a):BH H a b=H b:=by unfold BH;rw[if_neg h]
section
variable{X:Cx}{pins:List (NR×Obj)}{σ:St}{H:Hp}{s:NP}
theorem Inv.drop{x:NR}{φ:Of->Prop}(I:Inv X pins σ H s)(e:H x=some (.ext φ))(hn:X.s₀.heap.objs.size<=x):Inv X pins σ (BH H x) s:=by
 have non:∀ b,H b=none->BH H x b=none:=fun b q=>by unfold BH;split;rfl;exact q
 refine⟨I.ok,I.os,I.bare,⟨I.base.keep,I.base.slot,fun b o q n z=>non b (I.base.free b o q n z),I.base.there,fun b xs q=>?_,fun b o u q=>?_,fun b ps q=>?_⟩,I.loc,I.cell,non _ I.free,fun y c q=>non c (I.freeC y c q),fun p hp=>?_,fun b u q=>?_,I.len⟩
 ·have:=I.base.tups b xs q;rw[mH (fun z=>by rw[z,e]at this;cases this)];exact this
 ·have:=I.base.frzs b o u q;rw[mH (fun z=>by rw[z,e]at this;cases this)];exact this
 ·obtain⟨more,this⟩:=I.base.tbls b ps q;exact⟨more,by rw[mH (fun z=>by rw[z,e]at this;cases this)];exact this⟩
 ·obtain⟨a,b,c⟩:=I.pin p hp;exact⟨a,non _ b,c⟩
 ·have hb:b≠x:=fun z=>by rw[z,DL]at q;cases q
  rw[mH hb]at q;refine (I.hok b u q).stay (fun _ _ _ z=>z) (fun c z=>?_) fun c ys z=>?_
  ·rw[mH (fun y=>by rw[y,e]at z;cases z)];exact z
  ·rw[mH (fun y=>by rw[y,e]at z;cases z)];exact z
end
section
variable{X:Cx}{C f:NR}{a:Str}
def MU(C:NR)(a:Str):Sp:=fun vs H Q _=>∃ x v t,vs=[.ref x,v]/\H x=some (XO x (KS C t))/\∀ dx,H dx=none->dx≠x->Q .non (bq (bq H dx (.xd [(a,v)])) x (XO x (Iy C t dx)))
end
open PySem.W
def Ends.un(i:Nat)(D:Ends):Ends:={ nx:=fun σ H=>D.nx (σ.set i none) H,rt:=D.rt,bk:=fun σ H=>D.bk (σ.set i none) H,ct:=fun σ H=>D.ct (σ.set i none) H }
end L2
namespace L3
open PySem PySem.Spec PyProof.Rows L2 PySem.W
abbrev XQ:=NR->Str->D->Gp->Prop
def IW(K:Sf)(G:Gp)(H:Hp)(EQ:XQ)(E:XK):Prop:=∀ C a d G' v dx H',EQ C a d G'->Kp G H G' H'->RG K H' G'->G' dx=none->H' dx=some (.xd [(a,v)])->RD K H' d v->E (.ref C) (some dx) H'
theorem IW.base{K:Sf}{G G1:Gp}{H H1:Hp}{EQ:XQ}{E:XK}(f:IW K G H EQ E)(k:Kp G H G1 H1):IW K G1 H1 EQ E:=fun C a d G' v dx H' q k'=>f C a d G' v dx H' q (k.trans k')
abbrev MC:=List D->Gp->m5->XQ->Prop
def MB(K:Sf)(sp:MC):Sp:=fun vs H Q E=>∃ ds G Q3 EQ,RDs K H ds vs/\RG K H G/\sp ds G Q3 EQ/\vm K G H Q3 Q/\IW K G H EQ E
def Ends3.un(i:Nat)(D:Ends3):Ends3:={ nx:=fun σ G=>D.nx (σ.set i none) G,rt:=D.rt,bk:=fun σ G=>D.bk (σ.set i none) G,ct:=fun σ G=>D.ct (σ.set i none) G }
def u4(te:bG):bG:=fun σ G Q=>te σ G fun d G1=>∃ ds,d=.fl ds/\∀ p,G1 p=none->Q (.ref p) (gset G1 p (.lst ds))
theorem Ke{X:Cx}{e:Oj}{te:bG}(he:PE X e (aB X.K te)):PE X e (aB X.K (u4 te)):=
 he.imp fun τ H Q ⟨σ,G,Q3,rs,rg,h,k⟩=>⟨σ,G,_,rs,rg,h,fun d G' v H' q k' rg' re=>by
  obtain⟨ds,rfl,q⟩:=q;obtain⟨p,xs,rfl,e1,e2,e3,e4⟩:=re.fl;exact k (.ref p) _ _ H' (q p e2) (Fx k' e4) (Fw rg' e1 e3) (.of gM)⟩
open PySem.SeqAt
structure FnM(K:Sf)(n q:Str)(st:Op)(dV:NO)(f:NR):Prop where
 ex:∃ (oc:NO) (od an:Option NR) (sl:Array (Option NO)) (kV dc pm cd ct:NO),K.lookup f=some ⟨oc,od,.func (fnOf n q (f_ st) (fe st) (ai st) dV kV dc pm an cd ct),sl⟩/\S7 K cd q=true
structure FnG(K:Sf)(n:Str)(st:Op):Prop where
 ex:∃ f,nsIn K Oa n=some (some (.ref f))/\FnM K n n st .none f/\Sz K (.ref f)=true
structure MtG(K:Sf)(C:NR)(n q:Str)(st:Op):Prop where
 ex:∃ f,Meth K C n f/\FnM K n q st .none f
structure CfG(K:Sf)(C:NR)(n q:Str)(st:Op):Prop where
 ex:∃ f,(specialIn K (.ref C) "__getattribute__"=some (some (.builtin "type.__getattribute__"))/\readsIn K C (.type "type")=true/\findCls K (.ref C) (.type "type") n=some (.val (.ref f))/\Sz K (.ref f)=true)/\FnM K n q st .none f
section
variable{K:Sf}{n q:Str}{st:Op}{f C t:NR}{oc oc' dV kV dc pm cd ct:NO}{od od' an:Option NR}{sl sl':Array (Option NO)}
theorem BK(l:K.lookup f=some ⟨oc,od,.func (fnOf n q (f_ st) (fe st) (ai st) dV kV dc pm an cd ct),sl⟩)(c:S7 K cd q=true):FnM K n q st dV f:=⟨_,_,_,_,_,_,_,_,_,l,c⟩
theorem fnG_mk(a:nsIn K Oa n=some (some (.ref f)))(l:K.lookup f=some ⟨oc,od,.func (fnOf n n (f_ st) (fe st) (ai st) .none kV dc pm an cd ct),sl⟩)(c:S7 K cd n=true)(k:Sz K (.ref f)=true):FnG K n st:=⟨f,a,BK l c,k⟩
theorem mtG_mk(a:findIn K (.ref C) n=some (some (.ref f)))(i:isFn K (.ref f)=true)(l:K.lookup f=some ⟨oc,od,.func (fnOf n q (f_ st) (fe st) (ai st) .none kV dc pm an cd ct),sl⟩)(c:S7 K cd q=true)(k:Sz K (.ref f)=true):MtG K C n q st:=⟨f,⟨a,i,k⟩,BK l c⟩
theorem cfG_mk(g:specialIn K (.ref C) "__getattribute__"=some (some (.builtin "type.__getattribute__")))(r:readsIn K C (.type "type")=true)(a:findCls K (.ref C) (.type "type") n=some (.val (.ref f)))(l:K.lookup f=some ⟨oc,od,.func (fnOf n q (f_ st) (fe st) (ai st) .none kV dc pm an cd ct),sl⟩)(c:S7 K cd q=true)(k:Sz K (.ref f)=true):CfG K C n q st:=⟨f,⟨g,r,a,k⟩,BK l c⟩
end
def Lm(n q:Str)(st:Op)(ps:List Str):Prop:=∀ (kV dc pm:NO) (an:Option NR) (cd ct:NO) (us:List NO),us.length=ps.length->bindArgs (fnOf n q (f_ st) (fe st) (ai st) .none kV dc pm an cd ct) ⟨us,[]⟩=pure (ps.zip us)
section
variable(P:N_)(w:Og)(base:Of){K:Sf}{h:Of}{mg:Str->Option NO}{k:Nat}{n q x:Str}{st:Op}{ps:List Str}{sp:c5}{C:NR}
theorem NE(X:K.In h)(G:h.Ns Oa mg)(H:FnG K n st)(ok:∀ {f fd},Fun3 K n n st f fd->FnOk P w K mg base vy k f fd ps (cD K sp))(b:Lm n n st ps:=by walk_at "b"):Fn3 P w K mg base k n [] sp:=by
 obtain⟨f,a,⟨⟨_,_,_,_,_,_,_,_,_,l,c⟩⟩,kp⟩:=H.ex;exact⟨_,_,_,[],[],ok (qg l c),mg_of X G a,kp,.all (b _ _ _ _ _ _),.nil,fun _=>RDs.nil⟩
theorem Ic(cl:Cls K C)(H:MtG K C n q st)(ok:∀ {f fd},Fun3 K n q st f fd->FnOk P w K mg base vy k f fd ps (cD K sp))(b:Lm n q st ps:=by walk_at "b"):Mt3 P w K mg base k C n [] sp:=by
 obtain⟨f,a,⟨⟨_,_,_,_,_,_,_,_,_,l,c⟩⟩⟩:=H.ex;exact⟨cl,_,_,_,[],[],ok (qg l c),a,.all (b _ _ _ _ _ _),.nil,fun _=>RDs.nil⟩
theorem Ma(X:K.In h)(G:h.Ns Oa mg)(ca:nsIn K Oa x=some (some (.ref C)))(m:makesIn K C=true)(kc:Sz K (.ref C)=true)(H:MtG K C "__init__" q st)(ok:∀ {f fd},Fun3 K "__init__" q st f fd->FnOk P w K mg base vy k f fd ps (cD K sp))(b:Lm "__init__" q st ps:=by walk_at "b"):Mk3 P w K mg base k x C [] sp:=by
 obtain⟨f,a,⟨⟨_,_,_,_,_,_,_,_,_,l,c⟩⟩⟩:=H.ex;exact⟨_,_,_,[],[],⟨m,a.at_,a.fn,kc⟩,mg_of X G ca,ok (qg l c),.all (b _ _ _ _ _ _),.nil,fun _=>RDs.nil⟩
theorem NF(X:K.In h)(G:h.Ns Oa mg)(ca:nsIn K Oa x=some (some (.ref C)))(H:CfG K C n q st)(ok:∀ {f fd},Fun3 K n q st f fd->FnOk P w K mg base vy k f fd ps (cD K sp))(b:Lm n q st ps:=by walk_at "b"):Cf3 P w K mg base k x n [] sp:=by
 obtain⟨f,⟨g,r,a,kp⟩,⟨⟨_,_,_,_,_,_,_,_,_,l,c⟩⟩⟩:=H.ex;exact⟨C,_,_,_,[],[],ok (qg l c),mg_of X G ca,g,r,a,kp,.all (b _ _ _ _ _ _),.nil,fun _=>RDs.nil⟩
end
theorem _root_.L2.Room.m{j k:Nat}{A:Oc}(h:Room k A)(d:j<=k:=by decide):Room j A:=h.mono d
section
variable{P:N_}{w:Og}{base:Of}{K:Sf}{h:Of}{mg:Str->Option NO}{n q x:Str}{st:Op}{N ps:List Str}{sp:c5}{spx:MC}{rd:ck}{rx:XQ->ck}{C f:NR}{fd:O4}
abbrev Nj(P:N_)(w:Og)(K:Sf)(mg:Str->Option NO)(base:Of)(k:Nat)(N:List Str)(q:Str)(st:Op)(rd:ck):Prop:=∀ {f:NR} {cdv:NO} {A:Oc} {outer:List Env} {s:NP} {H:Hp} {E:XK},Room k (A.deeper (QQ q (ai st) s.heap.objs.size f cdv))->(A.deeper (QQ q (ai st) s.heap.objs.size f cdv)).units+8 < OL->(A.deeper (QQ q (ai st) s.heap.objs.size f cdv)).units+4 < OL->rE (BO vy P w K mg base N q (ai st) f cdv A outer s H E).nox (fe st) (cB K rd)
theorem FH(k:Nat)(F:Fun3 K n q st f fd)(S:FnScope N ps (ai st))(len:∀ ds G Q,sp ds G Q->ds.length=ps.length)(rok:∀ ds G Q,sp ds G Q->rd { nx:=fun _ G'=>Q .non G',rt:=Q } (eW N ds) G)(d:Nj P w K mg base k N q st rd):FnOk P w K mg base vy (k+1) f fd ps (cD K sp):=
 Fun3.ok3 F S len fun _ _ _ _ _ _ hr=>⟨rd,d hr (by have:=hr.units;omega) (by have:=hr.units;omega),rok⟩
variable(P w base)
theorem mY(X:K.In h)(G:h.Ns Oa mg)(H:FnG K n st)(k:Nat)(S:FnScope N ps (ai st))(len:∀ ds G Q,sp ds G Q->ds.length=ps.length)(rok:∀ ds G Q,sp ds G Q->rd { nx:=fun _ G'=>Q .non G',rt:=Q } (eW N ds) G)(d:Nj P w K mg base k N n st rd)(b:Lm n n st ps:=by walk_at "b"):Fn3 P w K mg base (k+1) n [] sp:=NE P w base X G H (fun F=>FH k F S len rok d) b
variable(mg) in
theorem vz(cl:Cls K C)(H:MtG K C n q st)(k:Nat)(S:FnScope N ps (ai st))(len:∀ ds G Q,sp ds G Q->ds.length=ps.length)(rok:∀ ds G Q,sp ds G Q->rd { nx:=fun _ G'=>Q .non G',rt:=Q } (eW N ds) G)(d:Nj P w K mg base k N q st rd)(b:Lm n q st ps:=by walk_at "b"):Mt3 P w K mg base (k+1) C n [] sp:=Ic P w base cl H (fun F=>FH k F S len rok d) b
end
end L3
namespace RQ
open PySem PySem.Spec PyProof.Rows L2 L3
section
variable{α:Type}
def cT(l:List (Sl×α))(k:Sl):Option α:=(l.find? fun p=>decide (p.1=k)).map (·.2)
def kQ(l:List (Sl×α))(k:Sl)(v:α):List (Sl×α):=if (l.any fun p=>decide (p.1=k))=true then l.map (fun p=>if p.1=k then (p.1,v)else p)else l ++ [(k,v)]
def bg(l m:List (Sl×α)):List (Sl×α):=m.foldl (fun a p=>kQ a p.1 p.2) l
def aQ(f:α->D)(l:List (Sl×α)):List (List aD×D):=l.map fun p=>(p.1.key,f p.2)
theorem CU(f:α->D)(k:Sl):∀ l:List (Sl×α),((aQ f l).any fun kv=>decide (kv.1=k.key))=l.any fun p=>decide (p.1=k)
 | []=>rfl
 | p::r=>by
  have ih:=CU f k r;unfold aQ at ih ⊢;simp only[Od,Ri,ih];congr 1
  by_cases e:p.1=k
  ·rw[decide_eq_true e,decide_eq_true (by rw[e])]
  ·rw[decide_eq_false e,decide_eq_false (fun z=>e (Sl.key_inj z))]
theorem zI(f:α->D)(l:List (Sl×α))(k:Sl)(v:α):bS (aQ f l) k.key (f v)=aQ f (kQ l k v):=by
 unfold bS kQ;rw[CU];split
 ·unfold aQ;rw[Ot,Ot];refine O0 fun p _=>?_;simp only[Function.comp]
  by_cases e:p.1=k
  ·rw[if_pos e,if_pos (by rw[e])]
  ·rw[if_neg e,if_neg (fun z=>e (Sl.key_inj z))]
 ·unfold aQ;rw[Ol];rfl
theorem CT(f:α->D)(k:Sl):∀ l:List (Sl×α),cV (aQ f l) k.key=(cT l k).map f
 | []=>rfl
 | p::r=>by
  have ih:=CT f k r;unfold aQ cT cV at *
  by_cases e:p.1=k
  ·simp[Ow,e]
  ·have e':¬ p.1.key=k.key:=fun z=>e (Sl.key_inj z);simp only[Od,Ow,decide_eq_false e,decide_eq_false e'];exact ih
theorem u9(f:α->D)(m:List (Sl×α)):dictOf (aQ f m)=aQ f (bg [] m):=by
 unfold dictOf bg;have:∀ (m l:List (Sl×α)),(aQ f m).foldl (fun a kv=>bS a kv.1 kv.2) (aQ f l)=aQ f (m.foldl (fun a p=>kQ a p.1 p.2) l):=by
  intro m
  induction m with
  | nil=>intro l;rfl
  | cons p r ih=>
   intro l;unfold aQ at ih ⊢;simp only[Od,QY];have:=zI f l p.1 p.2;unfold aQ at this;rw[this];exact ih _
 exact this m []
theorem yQ(l:List (Sl×α))(k j:Sl)(v:α):cT (kQ l k v) j=if j=k then some v else cT l j:=by
 unfold kQ;split
 ·rename_i h
  induction l with
  | nil=>simp at h
  | cons p r ih=>
   simp only[Od,cT,Ow]
   by_cases e:p.1=k
   ·rw[if_pos e]
    by_cases ej:j=k
    ·rw[if_pos ej];simp[e,ej]
    ·rw[if_neg ej];have e2:¬ p.1=j:=fun z=>ej (z.symm.trans e);simp only[decide_eq_false e2];clear ih h
     induction r with
     | nil=>rfl
     | cons q t ih2=>
      simp only[Od,Ow]
      by_cases e3:q.1=k
      ·rw[if_pos e3];have e4:¬ q.1=j:=fun z=>ej (z.symm.trans e3);simp only[decide_eq_false e4];exact ih2
      ·rw[if_neg e3]
       by_cases e4:q.1=j
       ·simp[e4]
       ·simp only[decide_eq_false e4];exact ih2
   ·rw[if_neg e];simp only[Ri,decide_eq_false e,Bool.false_or]at h;have ih':=ih h;unfold cT at ih'
    by_cases e2:p.1=j
    ·have ej:¬ j=k:=fun z=>e (e2.trans z);rw[if_neg ej];simp[e2]
    ·simp only[decide_eq_false e2];exact ih'
 ·rename_i h;have hn:∀ p∈l,p.1≠k:=fun p hp z=>h (List.any_eq_true.mpr ⟨p,hp,decide_eq_true z⟩);unfold cT;rw[List.find?_append]
  by_cases ej:j=k
  ·rw[if_pos ej];have:l.find? (fun p=>decide (p.1=j))=none:=List.find?_eq_none.mpr fun p hp=>by simpa using fun z=>hn p hp (z.trans ej)
   rw[this];simp[ej]
  ·rw[if_neg ej];cases l.find? (fun p=>decide (p.1=j)) with
   | some p=>rfl
   | none=>
    have ek:¬ k=j:=fun z=>ej z.symm;simp[ek]
theorem vf{m:List (Sl×α)}:∀ {l:List (Sl×α)} {j:Sl},(∀ p∈m,p.1≠j)->cT (bg l m) j=cT l j:=by
 induction m with
 | nil=>intro l j _;rfl
 | cons p r ih=>
  intro l j h;show cT (bg (kQ l p.1 p.2) r) j=_
  rw[ih fun q hq=>h q (N0 _ hq),yQ,if_neg (fun z=>h p N3 z.symm)]
theorem E_{l:List (Sl×α)}{k:Sl}{v:α}{p:Sl×α}(h:p∈kQ l k v):p∈l\/p=(k,v):=by
 unfold kQ at h;split at h
 ·obtain⟨q,hq,e⟩:=mem_map.mp h;split at e
  ·rename_i z;exact .inr (by rw[<- e,z])
  ·exact .inl (e ▸ hq)
 ·rcases S5.mp h with h|h
  ·exact .inl h
  ·exact .inr (Rs.mp h)
theorem fT{m:List (Sl×α)}:∀ {l:List (Sl×α)} {p:Sl×α},p∈bg l m->p∈l\/p∈m:=by
 induction m with
 | nil=>intro l p h;exact .inl h
 | cons q r ih=>
  intro l p h;rcases ih (l:=kQ l q.1 q.2) h with h|h
  ·rcases E_ h with h|h
   ·exact .inl h
   ·exact .inr (h ▸ N3)
  ·exact .inr (N0 _ h)
theorem iQ{l:List (Sl×α)}{k:Sl}{v:α}(h:cT l k=some v):(k,v)∈l:=by
 unfold cT at h;cases e:l.find? fun p=>decide (p.1=k) with
 | none=>rw[e]at h;cases h
 | some p=>
  rw[e]at h;cases h;have h1:=List.mem_of_find?_eq_some e;have h2:=List.find?_some e;have:p.1=k:=of_decide_eq_true h2;rw[<- this];exact h1
theorem qm{l:List (Sl×α)}{p:Sl×α}(h:p∈l):∃ v,cT l p.1=some v:=by
 unfold cT;cases e:l.find? fun q=>decide (q.1=p.1) with
 | none=>exact absurd (List.find?_eq_none.mp e p h) (by simp)
 | some q=>exact⟨q.2,rfl⟩
theorem Fa(l:List (Sl×α))(k:Sl)(v:α):(kQ l k v).length<=l.length+1:=by
 unfold kQ;split<;>simp
theorem ft(m:List (Sl×α)):∀ l:List (Sl×α),(bg l m).length<=l.length+m.length:=by
 induction m with
 | nil=>intro l;exact le_refl _
 | cons p r ih=>
  intro l;have h1:=ih (kQ l p.1 p.2);have h2:=Fa l p.1 p.2;show (bg (kQ l p.1 p.2) r).length<=_
  rw[Ob];omega
theorem cK(l a b:List (Sl×α)):bg l (a ++ b)=bg (bg l a) b:=by unfold bg;rw[List.foldl_append]
theorem nZ(l a:List (Sl×α))(p:Sl×α):bg l (a ++ [p])=kQ (bg l a) p.1 p.2:=by rw[cK];rfl
end
def M1(c:Nat):Str:=⟨#[c]⟩
def oE(x:Str):List Str:=x.cps.toList.map M1
def dq(s:Sk):List (Sl×Str):=match s.act with
 | .put _ x=>(made s).zip (oE x)
 | _=>[]
def dS(s:Sk):List (Sl×Unit):=match s.act with
 | .strike ns=>ns.map fun n=>(n,())
 | _=>[]
def dY(s:Sk):List (Sl×Sl):=match s.act with
 | .move ns _=>ns.zip (made s)
 | _=>[]
def fQ(s:Sk):List (Sl×Str):=match s.act with
 | .dress ns w=>ns.map fun n=>(n,w)
 | _=>[]
def Sk.wd(s:Sk):Nat:=match s.act with
 | .put _ x=>x.length
 | .strike ns=>ns.length
 | .dress ns _=>ns.length
 | .move ns _=>ns.length
def ay(x:Str)(o:List Sk):List (Sl×Str):=bg [] ((dB x.length).zip (oE x) ++ o.flatMap dq)
def aY(o:List Sk):List (Sl×Unit):=bg [] (o.flatMap dS)
def cm(o:List Sk):List (Sl×Sl):=bg [] (o.flatMap dY)
def du(o:List Sk):List (Sl×Str):=bg [] (o.flatMap fQ)
abbrev Nm:=Str×Int
def Nm.d(n:Nm):D:=.tup [.str n.1,.int n.2]
def Nm.key(n:Nm):List aD:=[.inr n.1,.inl n.2]
def Sk.nm(s:Sk):Nm:=(s.pen,s.num)
def jK(row:List Sl)(s:Sk):Bool:=(made s).all fun x=>decide (x∈row)
def hZ(out:List Sk)(names:List Nm)(row:List Sl):List Sk:=(out.filter fun s=>decide (s.nm∈names)).filter (jK row)
def b7(x:Str)(w:List Sk):List (Sl×Sl):=bg [] (((ay x w).filter fun p=>(cT (aY w) p.1).isNone).map fun p=>((cT (cm w) p.1).getD p.1,p.1))
structure Seat where
 slot:Sl
 name:Sl
 sign:Str
 word:Str
def Seat.d(s:Seat):D:=.tup [s.slot.d,s.name.d,.str s.sign,.str s.word]
def mx(x:Str)(w:List Sk)(row:List Sl):List (Sl×Sl):=row.filterMap fun s=>(cT (b7 x w) s).map fun n=>(s,n)
def jD(x:Str)(out:List Sk)(names:List Nm):List Seat:=
 (mx x (hZ out names (aE x.length out)) (aE x.length out)).map fun p=>⟨p.1,p.2,(cT (ay x (hZ out names (aE x.length out))) p.2).getD "",(cT (du (hZ out names (aE x.length out))) p.2).getD ""⟩
def AY(s:Sk):List Sl:=match s.act with
 | .put _ _=>[]
 | .strike ns=>ns
 | .dress ns _=>ns
 | .move ns _=>ns
def xM(o:List Sk)(n:Sl):Sl:=(cT (cm o) n).getD n
def wQ(x:Str)(o:List Sk)(n:Sl):Prop:=(∃ v,cT (ay x o) n=some v)/\cT (aY o) n=none
structure Sim(x:Str)(out:List Sk):Prop where
 nd:(ar::aE x.length out).Nodup
 pl:∀ s∈out,∀ n∈made s,n∈aE x.length out
 tc:∀ s∈out,∀ n∈AY s,n∈aE x.length out
 br:∀ n v,cT (ay x out) n=some v->n∈aE x.length out
 pin:∀ n,wQ x out n->xM out n∈aE x.length out
 inj:∀ a b,wQ x out a->wQ x out b->xM out a=xM out b->a=b
theorem pO{α:Type}{v:α}{k:Sl}:∀ (m:List (Sl×α)) (l:List (Sl×α)),(∃ p∈m,p.1=k)->(∀ p∈m,p.1=k->p.2=v)->cT (bg l m) k=some v
 | [],_,h,_=>by obtain⟨_,h,_⟩:=h;cases h
 | p::r,l,h,hv=>by
  show cT (bg (kQ l p.1 p.2) r) k=some v
  by_cases e:∃ q∈r,q.1=k
  ·exact pO r _ e fun q hq=>hv q (N0 _ hq)
  ·obtain⟨q,hq,z⟩:=h;rcases Oz.mp hq with y|y
   ·subst y;rw[vf fun w hw0 z'=>e ⟨w,hw0,z'⟩,yQ,if_pos z.symm,hv q N3 z]
   ·exact absurd ⟨q,y,z⟩ e
theorem jC{x:Str}{out:List Sk}(h:Sim x out)(s n:Sl):cT (b7 x out) s=some n↔wQ x out n/\xM out n=s:=by
 unfold b7;constructor
 ·intro e;rcases fT (iQ e)with z|z
  ·cases z
  ·obtain⟨p,hp,z⟩:=mem_map.mp z;obtain⟨h1,h2⟩:=mem_filter.mp hp;injection z with z1 z2
   subst z2;exact⟨⟨qm h1,by simpa using h2⟩,z1⟩
 ·rintro⟨⟨⟨v,hv⟩,hn⟩,rfl⟩
  have hm:=iQ hv;refine pO _ _ ⟨(xM out n,n),mem_map.mpr ⟨(n,v),mem_filter.mpr ⟨hm,by simp[hn]⟩,rfl⟩,rfl⟩ fun p hp e=>?_
  obtain⟨q,hq,z⟩:=mem_map.mp hp;obtain⟨h1,h2⟩:=mem_filter.mp hq;subst z;exact h.inj _ _ ⟨qm h1,by simpa using h2⟩ ⟨⟨v,hv⟩,hn⟩ e
def dm(x:Str)(out:List Sk)(s:Sl):Option (Sl×Sl):=(cT (b7 x out) s).map fun n=>(s,n)
def vw(x:Str)(out:List Sk):List (Sl×Sl):=(aE x.length out).filterMap (dm x out)
theorem i8{x:Str}{out:List Sk}{s:Sl}{p:Sl×Sl}(h:dm x out s=some p):p.1=s/\cT (b7 x out) s=some p.2:=by
 unfold dm at h;cases e:cT (b7 x out) s with
 | none=>rw[e]at h;cases h
 | some n=>rw[e]at h;cases h;exact⟨rfl,rfl⟩
theorem CK{x:Str}{out:List Sk}:∀ row:List Sl,(row.filterMap (dm x out)).map Prod.fst=row.filter fun s=>(dm x out s).isSome
 | []=>rfl
 | s::t=>by
  have ih:=CK (x:=x) (out:=out) t;cases e:dm x out s with
  | none=>rw[List.filterMap_cons_none e,List.filter_cons_of_neg (by simp[e])];exact ih
  | some p=>rw[List.filterMap_cons_some e,Od,List.filter_cons_of_pos (by simp[e]),ih,(i8 e).1]
theorem y_{x:Str}{out:List Sk}(h:Sim x out):((vw x out).map Prod.fst).Nodup:=by
 unfold vw;rw[CK];exact (Pi.mp h.nd).2.sublist List.filter_sublist
theorem xn{x:Str}{out:List Sk}{p:Sl×Sl}(h:Sim x out)(hp:p∈vw x out):p.1∈aE x.length out/\wQ x out p.2/\xM out p.2=p.1:=by
 obtain⟨s,hs,e⟩:=mem_filterMap.mp hp;obtain⟨e1,e2⟩:=i8 e;obtain⟨l,q⟩:=(jC h _ _).mp e2;exact⟨by rw[e1];exact hs,l,by rw[q,e1]⟩
theorem Er{x:Str}{out:List Sk}(h:Sim x out):((vw x out).map Prod.snd).Nodup:=by
 have hs:=y_ h;unfold List.Nodup at hs ⊢;rw[Qx]at hs ⊢;refine List.Pairwise.imp_of_mem (fun {a b} ha hb ne e=>ne ?_) hs;rw[<- (xn h ha).2.2,<- (xn h hb).2.2,e]
theorem Ah{α:Type}{P:α->Bool}:∀ (L:List α) (i j m:Nat),i<=j->(∀ t a,L[t]?=some a->(P a=true↔(t < i\/j<=t)))->
  (L.take m).filter P=L.take (min i m) ++ (L.drop j).take (m - j)/\(L.drop m).filter P=(L.drop m).take (i - m) ++ L.drop (max j m)
 | [],i,j,m,_,_=>by simp
 | a::t,i,j,m,hij,F=>by
  have h0:=F 0 a rfl;have sh:∀ s b,t[s]?=some b->(P b=true↔(s < i - 1\/j - 1<=s)):=fun s b hb=>by
   rw[F (s+1) b hb];omega
  have ih:=fun m'=>Ah t (i - 1) (j - 1) m' (by walk_at "o") sh
  rcases Nat.eq_zero_or_pos j with hj|hj
  ·have hi:i=0:=by walk_at "o"
   subst hj hi;have pa:P a=true:=h0.mpr (.inr (le_refl _));cases m with
   | zero=>
    obtain⟨_,e2⟩:=ih 0;simp at e2 ⊢;exact⟨pa,e2⟩
   | succ m=>
    obtain⟨e1,e2⟩:=ih m;simp at e1 e2 ⊢;simp only[pa,true_and];exact⟨e1,e2⟩
  ·obtain⟨j,rfl⟩:∃ j',j=j'+1:=⟨j - 1,by walk_at "o"⟩
   rcases Nat.eq_zero_or_pos i with hi|hi
   ·subst hi;have pa:P a=false:=by
     cases e:P a with
     | false=>rfl
     | true=>have:=h0.mp e;omega
    cases m with
    | zero=>
     obtain⟨_,e2⟩:=ih 0;simp at e2 ⊢;simp[pa,e2]
    | succ m=>
     obtain⟨e1,e2⟩:=ih m;simp at e1 e2 ⊢;simp[pa,e1,e2,Nat.add_max_add_right]
   ·obtain⟨i,rfl⟩:∃ i',i=i'+1:=⟨i - 1,by walk_at "o"⟩
    have pa:P a=true:=h0.mpr (.inl (by walk_at "o"))
    cases m with
    | zero=>
     obtain⟨_,e2⟩:=ih 0;simp at e2 ⊢;simp[pa,e2]
    | succ m=>
     obtain⟨e1,e2⟩:=ih m;simp at e1 e2 ⊢;simp[pa,e1,e2,Nat.add_max_add_right,Nat.add_min_add_right]
theorem tU(n:Nat)(out:List Sk)(k:Sk):aE n (out ++ [k])=(cW (ar::aE n out) k).tail:=by
 rw[<- iI,<- mz];rfl
theorem Bx{n:Nat}{out:List Sk}{k:Sk}(hk:1<=k.num)(ap:∀ r∈out,¬ (r.pen=k.pen/\r.num=k.num)):∀ y∈made k,y∉ar::aE n out:=by
 rw[<- iI];have:=uS n out [] _ (uR n);rw[Pj]at this;exact Ag this hk ap
def AN(x:Str)(out:List Sk)(i:Nat)(a:Sl):Prop:=(i=0/\a=ar)\/∃ p,0 < i/\(vw x out)[i - 1]?=some p/\p.1=a
theorem Iu{x:Str}{out:List Sk}{k:Sk}{i:Nat}(h:Sim x out)(fr:∀ y∈made k,y∉ar::aE x.length out)(ha:AN x out i k.act.anch):
  ∃ pre post,aE x.length out=pre ++ post/\aE x.length (out ++ [k])=pre ++ made k ++ post/\pre.filterMap (dm x out)=(vw x out).take i/\post.filterMap (dm x out)=(vw x out).drop i:=by
 rcases ha with ⟨rfl,e⟩|⟨p,hi,hp,e⟩
 ·refine⟨[],aE x.length out,rfl,?_,rfl,rfl⟩;rw[tU,A3 e fr,Pj]
 ·have hm:=N9 hp;obtain⟨s,hs,es⟩:=mem_filterMap.mp hm;have e1:=(i8 es).1;rw[<- e1]at hs es;obtain⟨r,hr,er⟩:=Qi hs;refine⟨(aE x.length out).take (r+1),(aE x.length out).drop (r+1),(Pl _ _).symm,?_,?_⟩
  ·rw[tU,Hh hr (er.trans e) h.nd fr]
  ·have ev:vw x out=((aE x.length out).take (r+1)).filterMap (dm x out) ++ ((aE x.length out).drop (r+1)).filterMap (dm x out):=by
    unfold vw;rw[<- List.filterMap_append,Pl]
   have ea:((aE x.length out).take (r+1)).filterMap (dm x out)=((aE x.length out).take r).filterMap (dm x out) ++ [p]:=by
    rw[Om,NV hr,er,List.filterMap_append];congr 1;rw[Option.toList_some,List.filterMap_cons_some es];rfl
   generalize ((aE x.length out).take (r+1)).filterMap (dm x out)=A at *
   generalize ((aE x.length out).drop (r+1)).filterMap (dm x out)=B at *
   generalize ((aE x.length out).take r).filterMap (dm x out)=A0 at *
   have l:A0.length=i - 1:=by
    have nd:=y_ h;refine (List.getElem?_inj (l:=(vw x out).map Prod.fst) ?_ nd).mp ?_
    ·rw[NS,ev,ea,On,On,PV];omega
    ·rw[N8,N8,hp,ev,ea,Px,List.getElem?_append_right (le_refl _),RB];rfl
   have la:A.length=i:=by
    rw[ea,On,l,PV];omega
   rw[ev,<- la];exact⟨List.take_left.symm,List.drop_left.symm⟩
section
variable{x:Str}{out:List Sk}{k:Sk}
theorem tD:ay x (out ++ [k])=bg (ay x out) (dq k):=by
 unfold ay;rw[Qj,<- Px,cK];simp
theorem B_:aY (out ++ [k])=bg (aY out) (dS k):=by
 unfold aY;rw[Qj,cK];simp
theorem Hc:cm (out ++ [k])=bg (cm out) (dY k):=by
 unfold cm;rw[Qj,cK];simp
theorem G_:du (out ++ [k])=bg (du out) (fQ k):=by
 unfold du;rw[Qj,cK];simp
end
theorem El{α:Type}{ks:List Sl}{vs:List α}{q:Nat}{k:Sl}{v:α}(nd:ks.Nodup)(hk:ks[q]?=some k)(hv:vs[q]?=some v)(l:List (Sl×α)):cT (bg l (ks.zip vs)) k=some v:=by
 refine pO _ _ ⟨(k,v),N9 (List.getElem?_zip_eq_some.mpr ⟨hk,hv⟩:(ks.zip vs)[q]?=some (k,v)),rfl⟩ fun p hp e=>?_;obtain⟨q',hq,e'⟩:=Qi hp;have h1:=List.getElem?_zip_eq_some.mp ((NV hq).trans (congrArg some e'));have:q=q':=(List.getElem?_inj (List.getElem?_eq_some_iff.mp hk).1 nd).mp (by rw[hk,h1.1,e])
 subst this;rw[hv]at h1;exact (Option.some.inj h1.2).symm
theorem Kw{α:Type}{w:α}{ns:List Sl}{k:Sl}(l:List (Sl×α)):cT (bg l (ns.map fun n=>(n,w))) k=if k∈ns then some w else cT l k:=by
 split
 ·rename_i h;exact pO _ _ ⟨(k,w),mem_map.mpr ⟨k,h,rfl⟩,rfl⟩ fun p hp _=>by
   obtain⟨n,_,rfl⟩:=mem_map.mp hp;rfl
 ·rename_i h;exact vf fun p hp z=>by
   obtain⟨n,hn,rfl⟩:=mem_map.mp hp;exact h (z ▸ hn)
theorem Lx{x:Str}{out:List Sk}(h:Sim x out){n:Sl}{u:Unit}(e:cT (aY out) n=some u):n∈aE x.length out:=by
 rcases fT (iQ e)with z|z
 ·cases z
 ·obtain⟨s,hs,z⟩:=List.mem_flatMap.mp z;refine h.tc s hs n ?_;unfold dS at z;unfold AY;split at z
  ·rename_i ns ea;rw[ea];obtain⟨m,hm,e⟩:=mem_map.mp z;cases e;exact hm
  ·cases z
theorem Lq{x:Str}{out:List Sk}(h:Sim x out){n s:Sl}(e:cT (cm out) n=some s):n∈aE x.length out:=by
 rcases fT (iQ e)with z|z
 ·cases z
 ·obtain⟨s,hs,z⟩:=List.mem_flatMap.mp z;refine h.tc s hs n ?_;unfold dY at z;unfold AY;split at z
  ·rename_i ns a ea;rw[ea];exact (QF z).1
  ·cases z
theorem Lo{x:Str}{out:List Sk}(h:Sim x out){n:Sl}{w:Str}(e:cT (du out) n=some w):n∈aE x.length out:=by
 rcases fT (iQ e)with z|z
 ·cases z
 ·obtain⟨s,hs,z⟩:=List.mem_flatMap.mp z;refine h.tc s hs n ?_;unfold fQ at z;unfold AY;split at z
  ·rename_i ns w ea;rw[ea];obtain⟨m,hm,e⟩:=mem_map.mp z;cases e;exact hm
  ·cases z
theorem HU{α:Type}{a b:Option α}(h:∀ n,a=some n↔b=some n):a=b:=by
 cases a with
 | none=>
  cases b with
  | none=>rfl
  | some v=>exact absurd ((h v).mpr rfl) (by simp)
 | some v=>exact ((h v).mp rfl).symm
theorem C_{x:Str}{out Tq:List Sk}{s:Sl}(h:Sim x out)(h':Sim x Tq)(e:∀ n,(wQ x Tq n/\xM Tq n=s)↔(wQ x out n/\xM out n=s)):dm x Tq s=dm x out s:=by
 unfold dm;congr 1;exact HU fun n=>by rw[jC h',jC h,e n]
theorem td{x:Str}{out:List Sk}{s n:Sl}(h:Sim x out)(l:wQ x out n)(e:xM out n=s):dm x out s=some (s,n):=by
 unfold dm;rw[(jC h s n).mpr ⟨l,e⟩];rfl
theorem Db{x:Str}{out Tq:List Sk}{s:Sl}{N:List Sl}(h:Sim x out)(h':Sim x Tq)(e:∀ n,(wQ x Tq n/\xM Tq n=s)↔((wQ x out n/\xM out n=s)/\n∉N)):dm x Tq s=(dm x out s).filter fun p=>decide (p.2∉N):=by
 cases q:dm x out s with
 | none=>
  cases q':dm x Tq s with
  | none=>rfl
  | some p=>
   obtain⟨e1,e2⟩:=i8 q';have:=(e p.2).mp ((jC h' _ _).mp e2);rw[td h this.1.1 this.1.2]at q;cases q
 | some p=>
  obtain⟨e1,e2⟩:=i8 q;have lp:=(jC h _ _).mp e2
  by_cases z:p.2∈N
  ·rw[Option.filter_some_neg (by simpa using z)]
   cases q':dm x Tq s with
   | none=>rfl
   | some p'=>
    obtain⟨e1',e2'⟩:=i8 q';have g:=(e p'.2).mp ((jC h' _ _).mp e2');have:p'.2=p.2:=h.inj _ _ g.1.1 lp.1 (by rw[g.1.2,lp.2])
    exact absurd (this ▸ z) g.2
  ·rw[Option.filter_some_pos (by simpa using z),td h' ((e p.2).mpr ⟨lp,z⟩).1 ((e p.2).mpr ⟨lp,z⟩).2,<- e1]
theorem l_{row:List Sl}{f g:Sl->Option (Sl×Sl)}(h:∀ s∈row,f s=g s):row.filterMap f=row.filterMap g:=by
 induction row with
 | nil=>rfl
 | cons a t ih=>
  have e:=h a N3;have ih':=ih fun s hs=>h s (N0 _ hs);rw[Pc,Pc,e,ih']
theorem uW{row:List Sl}{f g:Sl->Option (Sl×Sl)}{P:Sl×Sl->Bool}(h:∀ s∈row,f s=(g s).filter P):row.filterMap f=(row.filterMap g).filter P:=by
 induction row with
 | nil=>rfl
 | cons a t ih=>
  have e:=h a N3;have ih':=ih fun s hs=>h s (N0 _ hs);rw[Pc,Pc,e,ih'];cases g a with
  | none=>rfl
  | some p=>
   by_cases z:P p=true
   ·rw[Option.filter_some_pos z,List.filter_cons_of_pos z]
   ·rw[Option.filter_some_neg (by simpa using z),List.filter_cons_of_neg z]
theorem iZ{f:Sl->Option (Sl×Sl)}:∀ {l N:List Sl},l.length=N.length->(∀ (q:Nat) s n,l[q]?=some s->N[q]?=some n->f s=some (s,n))->l.filterMap f=l.zip N
 | [],[],_,_=>rfl
 | s::l,n::N,e,h=>by
  rw[List.filterMap_cons_some (h 0 s n rfl rfl),PY,iZ (Nat.succ.inj e) fun q s n h1 h2=>h (q+1) s n h1 h2]
theorem Ig{L:List (Sl×Sl)}(nd:(L.map Prod.snd).Nodup){i j:Nat}(hij:i<=j):∀ t a,L[t]?=some a->(decide (a.2∉((L.drop i).take (j - i)).map Prod.snd)=true↔(t < i\/j<=t)):=fun t a ha=>by
 rw[decide_eq_true_eq];constructor
 ·intro h;rcases Pm t i with z|z
  ·exact .inl z
  ·rcases Pm t j with y|y
   ·refine absurd (mem_map.mpr ⟨a,N9 (i:=t - i) ?_,rfl⟩) h;rw[List.getElem?_take_of_lt (by walk_at "o"),List.getElem?_drop,show i+(t - i)=t by walk_at "o",ha]
   ·exact .inr y
 ·intro h z;obtain⟨b,hb,e⟩:=mem_map.mp z;obtain⟨u,hu,eu⟩:=Qi hb;have hu2:u < j - i:=by
   rw[Ou]at hu;omega
  have hb':L[i+u]?=some b:=by
   have:=NV hu;rw[List.getElem?_take_of_lt hu2,List.getElem?_drop,eu]at this;exact this
  have:t=i+u:=by
   refine (List.getElem?_inj (l:=L.map Prod.snd) (by rw[NS];exact (List.getElem?_eq_some_iff.mp ha).1) nd).mp ?_
   rw[N8,N8,ha,hb'];exact congrArg some e.symm
  omega
theorem Ie{L:List (Sl×Sl)}{i j:Nat}{n:Sl}(h:n∈((L.drop i).take (j - i)).map Prod.snd):∃ p∈L,p.2=n:=by
 obtain⟨p,hp,e⟩:=mem_map.mp h;exact⟨p,List.mem_of_mem_drop (Pg hp),e⟩
theorem qf:∀ {ss W:List Sl} {b:Sl},W.Nodup->b∈W->ss.Nodup->(∀ x∈ss,x∉W)->(bT W b ss).Nodup
 | [],W,b,hW,_,_,_=>hW
 | x::t,W,b,hW,hb,nd,hf=>by
  rw[Pi]at nd;unfold bT;refine qf (uO hW (hf x N3) hb) ((eL hb x).mpr (.inr rfl)) nd.2 fun y hy hW'=>?_;rcases (eL hb y).mp hW' with z|z
  ·exact hf y (N0 _ hy) z
  ·exact nd.1 (z ▸ hy)
theorem A4{W:List Sl}{s:Sk}(hW:W.Nodup)(hf:∀ x∈made s,x∉W):(cW W s).Nodup:=by
 unfold cW;split
 ·exact qf hW (by assumption) (b9 _ _ _) hf
 ·exact hW
section
variable{x:Str}{out:List Sk}{k:Sk}
theorem EV(n:Nat):ar::aE n (out ++ [k])=cW (ar::aE n out) k:=by rw[<- iI,mz,iI]
theorem Cy(h:Sim x out)(fr:∀ y∈made k,y∉ar::aE x.length out):(ar::aE x.length (out ++ [k])).Nodup:=by
 rw[EV];exact A4 h.nd fr
theorem Ci(h:Sim x out)(fr:∀ y∈made k,y∉ar::aE x.length out)(hA:k.act.anch∈ar::aE x.length out\/made k=[])(s:Sl):s∈aE x.length (out ++ [k])↔s∈aE x.length out\/s∈made k:=by
 have n0:=(Pi.mp h.nd).1;have n1:=(Pi.mp (Cy h fr)).1;have e:s∈ar::aE x.length (out ++ [k])↔s∈ar::aE x.length out\/s∈made k:=by
  rw[EV];unfold cW;split
  ·rename_i ha;exact ot ha s
  ·rename_i ha;rcases hA with z|z
   ·exact absurd z ha
   ·rw[z];exact⟨.inl,fun z=>z.elim id fun z=>nomatch z⟩
 rw[Oz,Oz]at e;constructor
 ·intro hs;rcases e.mp (.inr hs)with (z|z)|z
  ·exact absurd (z ▸ hs) n1
  ·exact .inl z
  ·exact .inr z
 ·intro hs;have:s=ar\/s∈aE x.length (out ++ [k]):=e.mpr (hs.elim (fun z=>.inl (.inr z)) .inr);rcases this with z|z
  ·subst z;rcases hs with z|z
   ·exact absurd z n0
   ·exact absurd N3 (fr _ z)
  ·exact z
theorem Av{n:Sl}{v:Str}(h:(n,v)∈dq k):n∈made k:=by
 unfold dq at h;split at h
 ·exact (QF h).1
 ·cases h
theorem EI(h:Sim x out)(fr:∀ y∈made k,y∉ar::aE x.length out)(hA:k.act.anch∈ar::aE x.length out\/made k=[])(tck:∀ n∈AY k,n∈aE x.length out)
  (pin:∀ n,wQ x (out ++ [k]) n->xM (out ++ [k]) n∈aE x.length (out ++ [k])) (inj:∀ a b,wQ x (out ++ [k]) a->wQ x (out ++ [k]) b->xM (out ++ [k]) a=xM (out ++ [k]) b->a=b):Sim x (out ++ [k]):=by
 have rm:=Ci h fr hA;refine⟨Cy h fr,fun s hs n hn=>?_,fun s hs n hn=>?_,fun n v e=>?_,pin,inj⟩
 ·rcases S5.mp hs with z|z
  ·exact (rm n).mpr (.inl (h.pl s z n hn))
  ·rw[Rs.mp z]at hn;exact (rm n).mpr (.inr hn)
 ·rcases S5.mp hs with z|z
  ·exact (rm n).mpr (.inl (h.tc s z n hn))
  ·rw[Rs.mp z]at hn;exact (rm n).mpr (.inl (tck n hn))
 ·rw[tD]at e;rcases fT (iQ e)with z|z
  ·obtain⟨u,hu⟩:=qm z;exact (rm n).mpr (.inl (h.br n u hu))
  ·exact (rm n).mpr (.inr (Av z))
theorem jJ(e:dY k=[])(n:Sl):xM (out ++ [k]) n=xM out n:=by
 unfold xM;rw[Hc,e];rfl
theorem xL{a:Sl}{y:Str}(ea:k.act=.put a y):(made k).length=(oE y).length:=by
 unfold made oE;rw[bJ,ea,NS];rfl
theorem Cn{a:Sl}{y:Str}(ea:k.act=.put a y){n:Sl}(hn:n∉made k):cT (ay x (out ++ [k])) n=cT (ay x out) n:=by
 rw[tD];exact vf fun p hp z=>hn (z ▸ Av (v:=p.2) hp)
theorem zE{a:Sl}{y:Str}(ea:k.act=.put a y){q:Nat}{n:Sl}{v:Str}(hn:(made k)[q]?=some n)(hv:(oE y)[q]?=some v):cT (ay x (out ++ [k])) n=some v:=by
 rw[tD];have:dq k=(made k).zip (oE y):=by unfold dq;rw[ea]
 rw[this];exact El (b9 _ _ _) hn hv _
theorem pP{a:Sl}{y:Str}(h:Sim x out)(fr:∀ y∈made k,y∉ar::aE x.length out)(ea:k.act=.put a y)(n:Sl):wQ x (out ++ [k]) n↔wQ x out n\/n∈made k:=by
 have es:aY (out ++ [k])=aY out:=by
  rw[B_];have:dS k=[]:=by unfold dS;rw[ea]
  rw[this];rfl
 unfold wQ;rw[es]
 by_cases hn:n∈made k
 ·refine⟨fun _=>.inr hn,fun _=>⟨?_,?_⟩⟩
  ·obtain⟨q,hq,e⟩:=Qi hn;have hq':q < (oE y).length:=by rw[<- xL ea];exact hq
   exact⟨_,zE ea (by rw[NV hq,e]) (NV hq')⟩
  ·cases e:cT (aY out) n with
   | none=>rfl
   | some u=>exact absurd (N0 _ (Lx h e)) (fr n hn)
 ·rw[Cn ea hn];exact⟨.inl,fun z=>z.elim id fun z=>absurd z hn⟩
theorem jW(h:Sim x out)(fr:∀ y∈made k,y∉ar::aE x.length out){n:Sl}(hn:n∈made k):xM out n=n:=by
 unfold xM;cases e:cT (cm out) n with
 | none=>rfl
 | some u=>exact absurd (N0 _ (Lq h e)) (fr n hn)
theorem Cb{a:Sl}{y:Str}(h:Sim x out)(fr:∀ y∈made k,y∉ar::aE x.length out)(hA:k.act.anch∈ar::aE x.length out)(ea:k.act=.put a y):Sim x (out ++ [k]):=by
 have et:dY k=[]:=by unfold dY;rw[ea]
 have rm:=Ci h fr (.inl hA);refine EI h fr (.inl hA) (fun n hn=>?_) (fun n hn=>?_) fun b c hb hc e=>?_
 ·unfold AY at hn;rw[ea]at hn;cases hn
 ·rw[jJ et,rm];rcases (pP h fr ea n).mp hn with z|z
  ·exact .inl (h.pin n z)
  ·rw[jW h fr z];exact .inr z
 ·rw[jJ et,jJ et]at e;rcases (pP h fr ea b).mp hb with z|z<;>rcases (pP h fr ea c).mp hc with w|w
  ·exact h.inj b c z w e
  ·rw[jW h fr w]at e;exact absurd (N0 _ (e ▸ h.pin b z)) (fr c w)
  ·rw[jW h fr z]at e;exact absurd (N0 _ (e ▸ h.pin c w)) (fr b z)
  ·rw[jW h fr z,jW h fr w]at e;exact e
theorem JH{a:Sl}{y:Str}{i:Nat}(h:Sim x out)(fr:∀ y∈made k,y∉ar::aE x.length out)(ha:AN x out i k.act.anch)(hA:k.act.anch∈ar::aE x.length out)(ea:k.act=.put a y):vw x (out ++ [k])=(vw x out).take i ++ (made k).zip (made k) ++ (vw x out).drop i:=by
 have h':=Cb h fr hA ea;have et:dY k=[]:=by unfold dY;rw[ea]
 obtain⟨pre,post,e1,e2,e3,e4⟩:=Iu h fr ha;have old:∀ s∈aE x.length out,dm x (out ++ [k]) s=dm x out s:=fun s hs=>C_ h h' fun n=>by
  rw[jJ et,pP h fr ea];refine⟨fun z=>⟨z.1.elim id fun w=>?_,z.2⟩,fun z=>⟨.inl z.1,z.2⟩⟩;rw[jW h fr w]at z;exact absurd (N0 _ (z.2 ▸ hs)) (fr n w)
 have new:(made k).filterMap (dm x (out ++ [k]))=(made k).zip (made k):=iZ rfl fun q s n h1 h2=>by
  rw[h1]at h2;cases h2;have hm:=N9 h1;exact td h' ((pP h fr ea s).mpr (.inr hm)) (by rw[jJ et,jW h fr hm])
 show (aE x.length (out ++ [k])).filterMap _=_
 rw[e2,List.filterMap_append,List.filterMap_append,new,l_ (row:=pre) fun s hs=>old s (by rw[e1];exact P_ _ hs),l_ (row:=post) fun s hs=>old s (by rw[e1];exact Ox _ hs),e3,e4]
theorem mD(e:k.act.many=0):made k=[]:=by unfold made;rw[e];rfl
theorem zq(n:Nat)(e:made k=[]):aE n (out ++ [k])=aE n out:=by rw[tU,C5 e]
theorem CS(e:made k=[]):ay x (out ++ [k])=ay x out:=by
 rw[tD];have:dq k=[]:=by
  unfold dq;split
  ·rw[e];rfl
  ·rfl
 rw[this];rfl
theorem jA{N:List Sl}(ea:k.act=.strike N)(n:Sl):wQ x (out ++ [k]) n↔wQ x out n/\n∉N:=by
 have em:made k=[]:=mD (by rw[ea];rfl)
 unfold wQ;rw[CS em,B_];have:dS k=N.map fun n=>(n,()):=by unfold dS;rw[ea]
 rw[this,Kw]
 by_cases z:n∈N
 ·rw[if_pos z];exact⟨fun w=>(by cases w.2),fun w=>absurd z w.2⟩
 ·rw[if_neg z];exact⟨fun w=>⟨w,z⟩,fun w=>w.1⟩
theorem tK{N:List Sl}(h:Sim x out)(hN:∀ n∈N,n∈aE x.length out)(ea:k.act=.strike N):Sim x (out ++ [k]):=by
 have em:made k=[]:=mD (by rw[ea];rfl)
 have et:dY k=[]:=by unfold dY;rw[ea]
 have fr:∀ y∈made k,y∉ar::aE x.length out:=fun y hy=>by rw[em]at hy;cases hy
 refine EI h fr (.inr em) (fun n hn=>?_) (fun n hn=>?_) fun b c hb hc e=>?_
 ·unfold AY at hn;rw[ea]at hn;exact hN n hn
 ·rw[jJ et,zq _ em];exact h.pin n ((jA ea n).mp hn).1
 ·rw[jJ et,jJ et]at e;exact h.inj b c ((jA ea b).mp hb).1 ((jA ea c).mp hc).1 e
theorem C1{N:List Sl}(h:Sim x out)(hN:∀ n∈N,n∈aE x.length out)(ea:k.act=.strike N):vw x (out ++ [k])=(vw x out).filter fun p=>decide (p.2∉N):=by
 have em:made k=[]:=mD (by rw[ea];rfl)
 have et:dY k=[]:=by unfold dY;rw[ea]
 have h':=tK h hN ea;unfold vw;rw[zq _ em];refine uW fun s _=>Db h h' fun n=>?_;rw[jJ et,jA ea];exact⟨fun z=>⟨⟨z.1.1,z.2⟩,z.1.2⟩,fun z=>⟨⟨z.1.1,z.2⟩,z.1.2⟩⟩
end
def He(x:Str)(out:List Sk)(n:Sl):D:=.tup [.str ((cT (ay x out) n).getD ""),.str ((cT (du out) n).getD "")]
def kA(x:Str)(out:List Sk):List D:=(vw x out).map fun p=>He x out p.2
section
variable{x:Str}{out:List Sk}{k:Sk}
theorem Ep(h:Sim x out){p:Sl×Sl}(hp:p∈vw x out):p.2∈aE x.length out:=by
 obtain⟨⟨v,hv⟩,_⟩:=(xn h hp).2.1;exact h.br _ v hv
theorem xm(e:fQ k=[]):du (out ++ [k])=du out:=by
 rw[G_,e];rfl
theorem Ld{i:Nat}{a:Sl}(h:Sim x out)(ha:AN x out i a):a∈ar::aE x.length out:=by
 rcases ha with ⟨_,rfl⟩|⟨p,_,hp,rfl⟩
 ·exact N3
 ·exact N0 _ (xn h (N9 hp)).1
theorem ET{a:Sl}{y:Str}{i:Nat}(h:Sim x out)(fr:∀ y∈made k,y∉ar::aE x.length out)(ha:AN x out i a)(ea:k.act=.put a y):
  Sim x (out ++ [k])/\kA x (out ++ [k])=(kA x out).take i ++ (oE y).map (fun s=>D.tup [.str s,.str ""]) ++ (kA x out).drop i:=by
 have ea':k.act.anch=a:=by rw[ea];rfl
 have hA:=Ld h ha;rw[<- ea']at ha hA;refine⟨Cb h fr hA ea,?_⟩;have ew:fQ k=[]:=by unfold fQ;rw[ea]
 have old:∀ p∈vw x out,He x (out ++ [k]) p.2=He x out p.2:=fun p hp=>by
  unfold He;rw[xm ew,Cn ea fun z=>fr _ z (N0 _ (Ep h hp))]
 unfold kA;rw[JH h fr ha hA ea,Ol,Ol,<- Rc,<- Re];congr 1
 ·congr 1
  ·exact O0 fun p hp=>old p (Pg hp)
  ·refine List.ext_getElem? fun q=>?_;rw[N8,N8];cases e:(made k)[q]? with
   | none=>
    have l1:=List.getElem?_eq_none_iff.mp e;have l2:=xL (k:=k) ea;rw[OI (by rw[QG];omega),OI (by walk_at "o")]
    rfl
   | some n=>
    have hq:=(List.getElem?_eq_some_iff.mp e).1;have hq':q < (oE y).length:=by rw[<- xL (k:=k) ea];exact hq
    have hv:=NV hq';rw[(List.getElem?_zip_eq_some.mpr ⟨e,e⟩:((made k).zip (made k))[q]?=some (n,n)),hv];show some (He x (out ++ [k]) n)=_
    unfold He;rw[zE ea e hv,xm ew];have:cT (du out) n=none:=by
     cases e2:cT (du out) n with
     | none=>rfl
     | some w=>exact absurd (N0 _ (Lo h e2)) (fr n (N9 e))
    rw[this];rfl
 ·exact O0 fun p hp=>old p (List.mem_of_mem_drop hp)
def Ih(x:Str)(out:List Sk)(i j:Nat):List Sl:=(((vw x out).drop i).take (j - i)).map Prod.snd
theorem CA(h:Sim x out){i j:Nat}:∀ n∈Ih x out i j,n∈aE x.length out:=fun n hn=>by
 obtain⟨p,hp,rfl⟩:=Ie hn;exact Ep h hp
theorem zp{i j:Nat}(h:Sim x out)(hij:i<=j)(ea:k.act=.strike (Ih x out i j)):Sim x (out ++ [k])/\kA x (out ++ [k])=(kA x out).take i ++ (kA x out).drop j:=by
 refine⟨tK h (CA h) ea,?_⟩;have em:made k=[]:=mD (by rw[ea];rfl)
 have ew:fQ k=[]:=by unfold fQ;rw[ea]
 have F:=(Ah (vw x out) i j 0 hij (Ig (Er h) hij)).2;have es:∀ n,He x (out ++ [k]) n=He x out n:=fun n=>by unfold He;rw[xm ew,CS em]
 rw[QC,RA,Nat.max_zero]at F;unfold kA;rw[C1 h (CA h) ea];show ((vw x out).filter fun p=>decide (p.2∉(((vw x out).drop i).take (j - i)).map Prod.snd)).map _=_
 rw[F,Ol,Rc,Re];simp only[es]
end
theorem tf(n:Nat):aE n []=dB n:=by
 unfold aE mR;rw[List.foldl_nil,c6];rfl
theorem xP(x:Str):(dB x.length).length=(oE x).length:=by
 unfold dB oE;rw[bJ,NS];rfl
theorem Gn(x:Str):ay x []=bg [] ((dB x.length).zip (oE x)):=by
 unfold ay;rw[List.flatMap_nil,OO]
theorem Fz{x:Str}{q:Nat}{n:Sl}{v:Str}(h:(dB x.length)[q]?=some n)(hv:(oE x)[q]?=some v):cT (ay x []) n=some v:=by
 rw[Gn];exact El (b9 _ _ _) h hv _
theorem C7(n:Nat):ar∉dB n:=fun h=>by
 have:=(eR h).2.2;exact absurd this (by decide)
theorem Cc(x:Str):Sim x []:=by
 have br:∀ n v,cT (ay x []) n=some v->n∈dB x.length:=fun n v e=>by
  rw[Gn]at e;rcases fT (iQ e)with z|z
  ·cases z
  ·exact (QF z).1
 refine⟨?_,(fun _ h=>by cases h),(fun _ h=>by cases h),?_,?_,fun a b _ _ e=>e⟩
 ·rw[tf,Pi];exact⟨C7 _,b9 _ _ _⟩
 ·rw[tf];exact br
 ·intro n h;rw[tf];obtain⟨⟨v,hv⟩,_⟩:=h;exact br n v hv
theorem HZ{x:Str}{n:Sl}(h:n∈dB x.length):wQ x [] n:=by
 obtain⟨q,hq,e⟩:=Qi h;have hq':q < (oE x).length:=by rw[<- xP];exact hq
 exact⟨⟨_,Fz (by rw[NV hq,e]) (NV hq')⟩,rfl⟩
theorem JI(x:Str):vw x []=(dB x.length).zip (dB x.length):=by
 unfold vw;rw[tf];refine iZ rfl fun q s n h1 h2=>?_;rw[h1]at h2;cases h2;exact td (Cc x) (HZ (N9 h1)) rfl
theorem Dp(x:Str):(vw x []).map (fun p=>(cT (ay x []) p.2).getD "")=oE x:=by
 rw[JI];refine List.ext_getElem? fun q=>?_;rw[N8];cases e:(dB x.length)[q]? with
 | none=>
  have l1:=List.getElem?_eq_none_iff.mp e;have l2:=xP x;rw[OI (by rw[QG];omega),OI (by walk_at "o")]
  rfl
 | some n=>
  have hq:=(List.getElem?_eq_some_iff.mp e).1;have hq':q < (oE x).length:=by rw[<- xP];exact hq
  have hv:=NV hq';rw[(List.getElem?_zip_eq_some.mpr ⟨e,e⟩:((dB x.length).zip (dB x.length))[q]?=some (n,n)),hv];show some ((cT (ay x []) n).getD "")=_
  rw[Fz e hv];rfl
theorem EU(x:Str):kA x []=(oE x).map fun s=>D.tup [.str s,.str ""]:=by
 rw[<- Dp x,Ot];rfl
def e8(i:Nat):Op:=PySem.Challenge.pw_redquill_k73_held_as_a_paper.main.body.getD i (.Pass ⟨0,0,0,0⟩)
def k_START:D:=.tup [.str "",.int 0,.int 0]
def k_WAITS:D:=.str "waits"
def k_WIPED:D:=.str "wiped"
theorem iA{a0 a1 a2 a3:D}:fO Ab0 [a0,a1,a2,a3] "name"=some a0:=by kernel_rfl
theorem iz{a0 a1 a2 a3:D}:fO Ab0 [a0,a1,a2,a3] "time"=some a1:=by kernel_rfl
theorem fW{a0 a1 a2 a3:D}:fO Ab0 [a0,a1,a2,a3] "anchor"=some a2:=by kernel_rfl
theorem gQ{a0 a1 a2 a3:D}:fO Ab0 [a0,a1,a2,a3] "names"=some a3:=by kernel_rfl
theorem jO:jm [] "name"=(["name"]:List Str):=by kernel_rfl
theorem jT{x:D}:iw [] [] "name" x=[x]:=by kernel_rfl
theorem jN:jm ["name"] "time"=(["name","time"]:List Str):=by kernel_rfl
theorem jS{a0 x:D}:iw ["name"] [a0] "time" x=[a0,x]:=by kernel_rfl
theorem jM:jm ["name","time"] "anchor"=(AI0:List Str):=by kernel_rfl
theorem jR{a0 a1 x:D}:iw ["name","time"] [a0,a1] "anchor" x=[a0,a1,x]:=by kernel_rfl
theorem jL:jm AI0 "names"=(Ab0:List Str):=by kernel_rfl
theorem jQ{a0 a1 a2 x:D}:iw AI0 [a0,a1,a2] "names" x=[a0,a1,a2,x]:=by kernel_rfl
theorem l9{a0 a1 a2 a3 a4:D}:fO Ag0 [a0,a1,a2,a3,a4] "name"=some a0:=by kernel_rfl
theorem l8{a0 a1 a2 a3 a4:D}:fO Ag0 [a0,a1,a2,a3,a4] "time"=some a1:=by kernel_rfl
theorem iV{a0 a1 a2 a3 a4:D}:fO Ag0 [a0,a1,a2,a3,a4] "anchor"=some a2:=by kernel_rfl
theorem j5{a0 a1 a2 a3 a4:D}:fO Ag0 [a0,a1,a2,a3,a4] "signs"=some a4:=by kernel_rfl
theorem qN:jm Ab0 "anchor"=(Ab0:List Str):=by kernel_rfl
theorem qP{a0 a1 a2 a3 x:D}:iw Ab0 [a0,a1,a2,a3] "anchor" x=[a0,a1,x,a3]:=by kernel_rfl
theorem qM:jm Ab0 "signs"=(Ag0:List Str):=by kernel_rfl
theorem qO{a0 a1 a2 a3 x:D}:iw Ab0 [a0,a1,a2,a3] "signs" x=[a0,a1,a2,a3,x]:=by kernel_rfl
theorem jP:jm Ab0 "names"=(Ab0:List Str):=by kernel_rfl
theorem jU{a0 a1 a2 a3 x:D}:iw Ab0 [a0,a1,a2,a3] "names" x=[a0,a1,a2,x]:=by kernel_rfl
theorem iY{a0 a1 a2 a3 a4:D}:fO Ah0 [a0,a1,a2,a3,a4] "name"=some a0:=by kernel_rfl
theorem iX{a0 a1 a2 a3 a4:D}:fO Ah0 [a0,a1,a2,a3,a4] "time"=some a1:=by kernel_rfl
theorem iB{a0 a1 a2 a3 a4:D}:fO Ah0 [a0,a1,a2,a3,a4] "names"=some a3:=by kernel_rfl
theorem iW{a0 a1 a2 a3 a4:D}:fO Ah0 [a0,a1,a2,a3,a4] "word"=some a4:=by kernel_rfl
theorem lN:jm Ab0 "word"=(Ah0:List Str):=by kernel_rfl
theorem lO{a0 a1 a2 a3 x:D}:iw Ab0 [a0,a1,a2,a3] "word" x=[a0,a1,a2,a3,x]:=by kernel_rfl
def ax:List Str:=["old","drawn","states","greatest","time"]
theorem j6:wq ax "old" 0:=qe (by decide +kernel)
theorem dA:wq ax "drawn" 1:=qe (by decide +kernel)
theorem cZ:wq ax "states" 2:=qe (by decide +kernel)
theorem iP:wq ax "greatest" 3:=qe (by decide +kernel)
theorem nG:wq ax "time" 4:=qe (by decide +kernel)
theorem pR:("old_text":Str)∉ax:=by decide +kernel
theorem fV:("strokes":Str)∉ax:=by decide +kernel
theorem lU:("check_known":Str)∉ax:=by decide +kernel
theorem lR:("state":Str)∉ax:=by decide +kernel
theorem mU:("strokes_in":Str)∉ax:=by decide +kernel
theorem jr:("waiting":Str)∉ax:=by decide +kernel
theorem js:("unwiped":Str)∉ax:=by decide +kernel
theorem vX:("view":Str)∉ax:=by decide +kernel
theorem lS:("seats":Str)∉ax:=by decide +kernel
theorem gB:("coming_name":Str)∉ax:=by decide +kernel
theorem gA:("coming_time":Str)∉ax:=by decide +kernel
theorem nB:("draw":Str)∉ax:=by decide +kernel
theorem pQ:("put":Str)∉ax:=by decide +kernel
theorem sL:("strike":Str)∉ax:=by decide +kernel
theorem lT:("check_waits":Str)∉ax:=by decide +kernel
theorem vW:("wipe":Str)∉ax:=by decide +kernel
abbrev rQ:Op:=e8 7
theorem xD:FnScope ["at","length"] ["at","length"] (ai rQ):=by walk_at "j"
abbrev kh:Op:=e8 8
theorem qy:FnScope AT0 AT0 (ai kh):=by walk_at "j"
abbrev oV:Op:=e8 11
theorem vD:FnScope Az0 Az0 (ai oV):=by walk_at "j"
theorem sM:((["k"]:List Str) ++ (Az0:List Str)).Nodup:=by decide +kernel
abbrev rL:Op:=e8 17
theorem h8:FnScope ["row","name","time","act"] Ax0 (ai rL):=by walk_at "j"
abbrev i9:Op:=e8 18
theorem oM:FnScope Ax0 Ax0 (ai i9):=by walk_at "j"
abbrev tP:Op:=e8 19
theorem lh:FnScope ["rows","by_name","row"] ["rows"] (ai tP):=by walk_at "j"
abbrev rM:Op:=e8 21
theorem xA:FnScope ["old"] ["old"] (ai rM):=by walk_at "j"
abbrev oW:Op:=e8 22
theorem f7:FnScope AD0 ["following","anchor","slots"] (ai oW):=by walk_at "j"
abbrev wD:Op:=e8 23
theorem jF:FnScope ["following","row","slot"] ["following"] (ai wD):=by walk_at "j"
abbrev tO:Op:=e8 24
theorem k_:FnScope Am0 ["old","strokes"] (ai tO):=by walk_at "j"
theorem vY:((Ax0:List Str) ++ (Am0:List Str)).Nodup:=by decide +kernel
abbrev zl:Op:=e8 26
theorem De:FnScope ["keys"] ["keys"] (ai zl):=by walk_at "j"
theorem zO:((["key"]:List Str) ++ (["keys"]:List Str)).Nodup:=by decide +kernel
abbrev rO:Op:=e8 27
theorem xC:FnScope AA0 AA0 (ai rO):=by walk_at "j"
theorem ut:((["slot"]:List Str) ++ (AA0:List Str)).Nodup:=by decide +kernel
abbrev rP:Op:=e8 28
theorem jE:FnScope Af0 ["strokes","standing","in_row"] (ai rP):=by walk_at "j"
theorem uv:((Ax0:List Str) ++ (Af0:List Str)).Nodup:=by decide +kernel
theorem uu:((["stroke"]:List Str) ++ (Af0:List Str)).Nodup:=by decide +kernel
abbrev j_:Op:=e8 29
theorem dw:FnScope Av0 ["old","strokes"] (ai j_):=by walk_at "j"
abbrev lC:Op:=e8 30
theorem e9:FnScope AJ0 ["strokes"] (ai lC):=by walk_at "j"
abbrev m_:Op:=e8 31
theorem eg:FnScope AF0 ["strokes"] (ai m_):=by walk_at "j"
abbrev oU:Op:=e8 32
theorem f6:FnScope ["strokes","worn","stroke","name"] ["strokes"] (ai oU):=by walk_at "j"
abbrev zj:Op:=e8 33
theorem dX:FnScope Ac0 Al0 (ai zj):=by walk_at "j"
theorem zN:((["slot"]:List Str) ++ (Ac0:List Str)).Nodup:=by decide +kernel
theorem r9:((["slot","name"]:List Str) ++ (Ai0:List Str)).Nodup:=by decide +kernel
abbrev wB:Op:=e8 34
theorem A8:FnScope Al0 Al0 (ai wB):=by walk_at "j"
theorem xT:((["seat"]:List Str) ++ (Al0:List Str)).Nodup:=by decide +kernel
abbrev rR:Op:=e8 39
theorem xE:FnScope ["seats","at"] ["seats","at"] (ai rR):=by walk_at "j"
abbrev kg:Op:=e8 40
theorem qx:FnScope AB0 AB0 (ai kg):=by walk_at "j"
theorem n_:((["seat"]:List Str) ++ (AB0:List Str)).Nodup:=by decide +kernel
abbrev ke:Op:=e8 43
theorem cS:FnScope At0 ["above","sign","other"] (ai ke):=by walk_at "j"
abbrev zk:Op:=e8 44
theorem my:FnScope ["one","other","table","i","sign"] Au0 (ai zk):=by walk_at "j"
abbrev rN:Op:=e8 45
theorem xB:FnScope AC0 AC0 (ai rN):=by walk_at "j"
abbrev Ch:Op:=e8 46
theorem gg:FnScope Aw0 Au0 (ai Ch):=by walk_at "j"
abbrev oX:Op:=e8 47
theorem vE:FnScope Au0 Au0 (ai oX):=by walk_at "j"
theorem sN:((["step"]:List Str) ++ (Au0:List Str)).Nodup:=by decide +kernel
abbrev wE:Op:=e8 48
theorem dI:FnScope Ap0 ["old","new","pen"] (ai wE):=by walk_at "j"
abbrev oZ:Op:=e8 50
theorem m9:FnScope AK0 ["_law_cell","_law_k"] (ai oZ):=by walk_at "j"
abbrev lD:Op:=e8 51
theorem sF:FnScope AL0 AL0 (ai lD):=by walk_at "j"
abbrev rS:Op:=e8 52
theorem dJ:FnScope Ae0 ["_law_cell"] (ai rS):=by walk_at "j"
theorem uw:((["_law_k"]:List Str) ++ (Ae0:List Str)).Nodup:=by decide +kernel
abbrev oY:Op:=e8 53
theorem dk:FnScope An0 ["_law_one","_law_cell"] (ai oY):=by walk_at "j"
abbrev tQ:Op:=e8 54
theorem fo:FnScope Ay0 ["_law_number"] (ai tQ):=by walk_at "j"
abbrev kj:Op:=e8 55
theorem cn:FnScope Ao0 ["_law_rows"] (ai kj):=by walk_at "j"
abbrev wC:Op:=e8 56
theorem lf:FnScope Aa0 ["_law_script"] (ai wC):=by walk_at "j"
theorem FG:((["_law_row"]:List Str) ++ (Aa0:List Str)).Nodup:=by decide +kernel
theorem ur:((AH0:List Str) ++ (Aj0:List Str)).Nodup:=by decide +kernel
theorem FF:((["_law_sign"]:List Str) ++ (Aa0:List Str)).Nodup:=by decide +kernel
theorem FE:((["_law_row"]:List Str) ++ (Aa0:List Str)).Nodup:=by decide +kernel
abbrev fy:Op:=bc (e8 12) 0
theorem nO:FnScope AR0 AR0 (ai fy):=by walk_at "j"
abbrev eh:Op:=bc (e8 12) 1
theorem sG:FnScope Ad0 Ad0 (ai eh):=by walk_at "j"
abbrev cq:Op:=bc (e8 12) 2
theorem oN:FnScope Ad0 Ad0 (ai cq):=by walk_at "j"
abbrev lE:Op:=bc (e8 13) 0
theorem sH:FnScope Aq0 Aq0 (ai lE):=by walk_at "j"
abbrev rT:Op:=bc (e8 13) 1
theorem xF:FnScope Ad0 Ad0 (ai rT):=by walk_at "j"
abbrev wF:Op:=bc (e8 13) 3
theorem A9:FnScope Ad0 Ad0 (ai wF):=by walk_at "j"
abbrev iH:Op:=bc (e8 14) 0
theorem nP:FnScope AE0 AE0 (ai iH):=by walk_at "j"
abbrev o0:Op:=bc (e8 14) 1
theorem vF:FnScope Ad0 Ad0 (ai o0):=by walk_at "j"
abbrev jc:Op:=bc (e8 15) 0
theorem oR:FnScope As0 As0 (ai jc):=by walk_at "j"
abbrev rW:Op:=bc (e8 15) 1
theorem xG:FnScope Ad0 Ad0 (ai rW):=by walk_at "j"
abbrev kz:Op:=bc (e8 16) 0
theorem qC:FnScope Ar0 Ar0 (ai kz):=by walk_at "j"
abbrev o9:Op:=bc (e8 16) 1
theorem vJ:FnScope Ad0 Ad0 (ai o9):=by walk_at "j"
abbrev tR:Op:=bc (e8 16) 2
theorem zi:FnScope Ad0 Ad0 (ai tR):=by walk_at "j"
abbrev jb:Op:=bc (e8 41) 0
theorem oQ:FnScope ["self","old"] ["self","old"] (ai jb):=by walk_at "j"
abbrev i_:Op:=bc (e8 41) 1
theorem oP:FnScope Ad0 Ad0 (ai i_):=by walk_at "j"
abbrev kq:Op:=bc (e8 41) 2
theorem qB:FnScope Ad0 Ad0 (ai kq):=by walk_at "j"
abbrev gZ:Op:=bc (e8 41) 5
theorem lB:FnScope Ak0 Ak0 (ai gZ):=by walk_at "j"
abbrev ng:Op:=bc (e8 41) 6
theorem tM:FnScope Ak0 Ak0 (ai ng):=by walk_at "j"
abbrev ij:Op:=bc (e8 41) 7
theorem mQ:FnScope AG0 AG0 (ai ij):=by walk_at "j"
theorem kR:((Ax0:List Str) ++ (AG0:List Str)).Nodup:=by decide +kernel
abbrev km:Op:=bc (e8 41) 8
theorem qz:FnScope Ad0 Ad0 (ai km):=by walk_at "j"
theorem oa:((Ax0:List Str) ++ (Ad0:List Str)).Nodup:=by decide +kernel
abbrev ko:Op:=bc (e8 41) 10
theorem qA:FnScope Ad0 Ad0 (ai ko):=by walk_at "j"
theorem og:((Ax0:List Str) ++ (Ad0:List Str)).Nodup:=by decide +kernel
abbrev o7:Op:=bc (e8 41) 11
theorem vH:FnScope Ad0 Ad0 (ai o7):=by walk_at "j"
abbrev nh:Op:=bc (e8 41) 12
theorem tN:FnScope Ad0 Ad0 (ai nh):=by walk_at "j"
abbrev gX:Op:=bc (e8 41) 13
theorem lu:FnScope ["self","pen"] ["self","pen"] (ai gX):=by walk_at "j"
abbrev gW:Op:=bc (e8 41) 14
theorem lq:FnScope Ad0 Ad0 (ai gW):=by walk_at "j"
abbrev o8:Op:=bc (e8 41) 15
theorem vI:FnScope ["self","stroke"] ["self","stroke"] (ai o8):=by walk_at "j"
abbrev rV:Op:=bc (e8 41) 16
theorem oO:FnScope ["self","pen","at","signs","seats"] ["self","pen","at","signs"] (ai rV):=by walk_at "j"
abbrev lF:Op:=bc (e8 41) 17
theorem j9:FnScope ["self","pen","at","to","seats"] ["self","pen","at","to"] (ai lF):=by walk_at "j"
abbrev gY:Op:=bc (e8 41) 21
theorem lA:FnScope Ak0 Ak0 (ai gY):=by walk_at "j"
abbrev o6:Op:=bc (e8 41) 23
theorem vG:FnScope Ak0 Ak0 (ai o6):=by walk_at "j"
def aS(_:Zz)(_:HW):c5:=fun ds G Q=>match ds with
 | [d]=>∃ r:Rw,d=r.d/\Q r.key G
 | _=>False
def fK(G G':Gp):Prop:=∀ a o,G a=some o->G' a=some o
theorem fK.refl{G:Gp}:fK G G:=fun _ _ h=>h
theorem fK.trans{G G1 G2:Gp}(a:fK G G1)(b:fK G1 G2):fK G G2:=fun x o h=>b x o (a x o h)
theorem fK.gset{G G1:Gp}{p:NR}{o:GO}(a:fK G G1)(hp:G p=none):fK G (gset G1 p o):=fun x y h=>by
 have:x≠p:=fun z=>by subst z;rw[hp]at h;cases h
 rw[am this];exact a x y h
def c_(_:Zz)(_:HW):c5:=fun ds G Q=>match ds with
 | [.ref q]=>∃ rs base:List Rw,(G q=some (.lst (rs.map Rw.d))/\mM rs/\rs.length<=1000/\base.length < 64/\∀ r∈rs,r∈base)/\∀ out G',fK G G'->fk out->(∀ r,r∈out↔r∈rs)->Q (.fl (out.map Rw.d)) G'
 | _=>False
structure Zz where
 (Z1 Z2 Z3 Z4 Z5 C_Paper:NR)
abbrev Zz.F(z:Zz):List NR:=[z.Z1,z.Z2,z.Z3,z.Z4,z.Z5]
def dC(zF:Zz)(hw:HW):c5:=fun ds G Q=>match ds with
 | [.str x,.ref q]=>∃ sks base:List Sk,(G q=some (.lst (sks.map Sk.d))/\x.length<=1000/\mM (sks.map Sk.rw)/\sks.length<=1000/\base.length < 64/\(∀ s∈sks,s∈base)/\∀ s∈sks,s.ok)/\
   ∀ out G',fK G G'->fk (out.map Sk.rw)->(∀ s,s∈out↔s∈sks)->Q (.fl ((aE x.length out).map Sl.d)) G'
 | _=>False
def bV(_:Zz)(_:HW):c5:=fun ds G Q=>match ds with
 | [.tup [.str p,.int n],.int m]=>(0<=m/\m<=1000)/\Q (.fl ((eJ p n m.toNat).map Sl.d)) G
 | _=>False
def a_(zF:Zz)(s:Sk):GO:=match s.act with
 | .put a x=>.ins zF.Z2 Ag0 [.tup [.str s.pen,.int s.num],.int s.time,a.d,.tup [],.str x]
 | .strike ns=>.ins zF.Z3 Ab0 [.tup [.str s.pen,.int s.num],.int s.time,ar.d,.tup (ns.map Sl.d)]
 | .dress ns w=>.ins zF.Z4 Ah0 [.tup [.str s.pen,.int s.num],.int s.time,ar.d,.tup (ns.map Sl.d),.str w]
 | .move ns a=>.ins zF.Z5 Ab0 [.tup [.str s.pen,.int s.num],.int s.time,a.d,.tup (ns.map Sl.d)]
def aL(zF:Zz)(hw:HW):c5:=fun ds G Q=>match ds with
 | [.ref a,d,.int t]=>(∃ C,C∈zF.F/\G a=some (.ins C [] [])/\∃ p n,d=.tup [.str p,.int n]/\Q .non (gset G a (.ins C Ab0 [d,.int t,ar.d,.tup []])))
 | _=>False
def bI(zF:Zz)(hw:HW):c5:=fun ds G Q=>match ds with
 | [.ref a,d,.int t,b,.str x]=>G a=some (.ins zF.Z2 [] [])/\∃ p n s,d=.tup [.str p,.int n]/\b=Sl.d s/\Q .non (gset G a (.ins zF.Z2 Ag0 [d,.int t,b,.tup [],.str x]))
 | _=>False
def aZ(zF:Zz)(hw:HW):c5:=fun ds G Q=>match ds with
 | [.ref a,d,.int t,.tup ns]=>G a=some (.ins zF.Z3 [] [])/\∃ p n,d=.tup [.str p,.int n]/\Q .non (gset G a (.ins zF.Z3 Ab0 [d,.int t,ar.d,.tup ns]))
 | _=>False
def bD(zF:Zz)(hw:HW):c5:=fun ds G Q=>match ds with
 | [.ref a,d,.int t,.tup ns,.str w]=>G a=some (.ins zF.Z4 [] [])/\∃ p n,d=.tup [.str p,.int n]/\Q .non (gset G a (.ins zF.Z4 Ah0 [d,.int t,ar.d,.tup ns,.str w]))
 | _=>False
def bR(zF:Zz)(hw:HW):c5:=fun ds G Q=>match ds with
 | [.ref a,d,.int t,.tup ns,b]=>G a=some (.ins zF.Z5 [] [])/\∃ p n s,d=.tup [.str p,.int n]/\b=Sl.d s/\Q .non (gset G a (.ins zF.Z5 Ab0 [d,.int t,b,.tup ns]))
 | _=>False
def cG(zF:Zz)(hw:HW):c5:=fun ds G Q=>match ds with
 | [d]=>∃ s:Sk,d=s.d/\∀ p,G p=none->Q (.ref p) (gset G p (a_ zF s))
 | _=>False
def az(_:Zz)(_:HW):c5:=fun ds G Q=>match ds with
 | [.ref _]=>Q (.fl []) G
 | _=>False
def bu(zF:Zz)(hw:HW):c5:=fun ds G Q=>match ds with
 | [.ref a]=>∃ (s:Sk) (b:Sl) (x:Str),(s.act=.put b x/\G a=some (a_ zF s)/\x.length<=1000)/\Q (.fl ((made s).map Sl.d)) G
 | _=>False
def be(zF:Zz)(hw:HW):c5:=fun ds G Q=>match ds with
 | [.ref a]=>∃ (s:Sk) (b:Sl) (ns:List Sl),(s.act=.move ns b/\G a=some (a_ zF s)/\ns.length<=1000)/\Q (.fl ((made s).map Sl.d)) G
 | _=>False
def cH(_:Zz)(_:HW):c5:=fun ds G Q=>match ds with
 | [.str x]=>x.length<=1000/\Q (.fl ((dB x.length).map Sl.d)) G
 | _=>False
def cv(zF:Zz)(hw:HW):c5:=fun ds G Q=>match ds with
 | [.ref p,a,.lst xs]=>∃ (b:Sl) (ss W:List Sl) (kvs:List (List aD×D)),(a=b.d/\xs=ss.map Sl.d/\G p=some (.dT hw kvs)/\Eb kvs W/\b∈W/\ss.Nodup/\(∀ x∈ss,x∉W)/\W.length+ss.length<=900000)/\
   ∀ Tv,Eb Tv (bT W b ss)->Q .non (gset G p (.dT hw Tv))
 | _=>False
def ef(zF:Zz)(hw:HW):c5:=fun ds G Q=>match ds with
 | [.ref p]=>∃ (R:List Sl) (kvs:List (List aD×D)),(G p=some (.dT hw kvs)/\Eb kvs (ar::R)/\R.length<=900000)/\Q (.fl (R.map Sl.d)) G
 | _=>False
def i6(zF:Zz)(G:Gp)(ps:List NR)(o:List Sk):Prop:=ps.length=o.length/\∀ (j:Nat) p s,ps[j]?=some p->o[j]?=some s->G p=some (a_ zF s)
def xj(o:List Sk):Prop:=o.length<=64/\∀ s∈o,s.wd<=1000
def eP(zF:Zz)(hw:HW):c5:=fun ds G Q=>match ds with
 | [.lst xs]=>(∃ ss:List Sl,(xs=ss.map Sl.d/\ss.length<=900000)/\∀ p,G p=none->Q (.ref p) (gset G p (.dT hw (aQ (fun _=>.bl true) (bg [] (ss.map fun s=>(s,())))))))\/
   ∃ ns:List Nm,(xs=ns.map Nm.d/\ns.length<=900000)/\∀ p,G p=none->Q (.ref p) (gset G p (.dT hw (dictOf (ns.map fun n=>(n.key,.bl true)))))
 | _=>False
def c9(zF:Zz)(hw:HW):c5:=fun ds G Q=>match ds with
 | [.ref a,.ref p]=>∃ (s:Sk) (row:List (Sl×Unit)),(G a=some (a_ zF s)/\s.wd<=1000/\G p=some (.dT hw (aQ (fun _=>.bl true) row)))/\Q (.bl ((made s).all fun x=>(cT row x).isSome)) G
 | _=>False
def bM(zF:Zz)(hw:HW):c5:=fun ds G Q=>match ds with
 | [.str x,.lst xs]=>∃ (ps:List NR) (o:List Sk),(xs=ps.map D.ref/\i6 zF G ps o/\xj o/\x.length<=1000)/\∀ p,G p=none->Q (.ref p) (gset G p (.dT hw (aQ D.str (ay x o))))
 | _=>False
def ak(zF:Zz)(hw:HW):c5:=fun ds G Q=>match ds with
 | [.ref a]=>∃ (s:Sk) (ns:List Sl),((s.act=.strike ns\/(∃ w,s.act=.dress ns w)\/∃ b,s.act=.move ns b)/\G a=some (a_ zF s)/\ns.length<=1000)/\Q (.fl (ns.map Sl.d)) G
 | _=>False
def cb(zF:Zz)(hw:HW):c5:=fun ds G Q=>match ds with
 | [.lst xs]=>∃ (ps:List NR) (o:List Sk),(xs=ps.map D.ref/\i6 zF G ps o/\xj o)/\∀ p,G p=none->Q (.ref p) (gset G p (.dT hw (aQ (fun _=>.bl true) (aY o))))
 | _=>False
def cA(zF:Zz)(hw:HW):c5:=fun ds G Q=>match ds with
 | [.lst xs]=>∃ (ps:List NR) (o:List Sk),(xs=ps.map D.ref/\i6 zF G ps o/\xj o)/\∀ p,G p=none->Q (.ref p) (gset G p (.dT hw (aQ Sl.d (cm o))))
 | _=>False
def cL(zF:Zz)(hw:HW):c5:=fun ds G Q=>match ds with
 | [.lst xs]=>∃ (ps:List NR) (o:List Sk),(xs=ps.map D.ref/\i6 zF G ps o/\xj o)/\∀ p,G p=none->Q (.ref p) (gset G p (.dT hw (aQ D.str (du o))))
 | _=>False
def da(zF:Zz)(hw:HW):c5:=fun ds G Q=>match ds with
 | [.ref q,.lst ns,.ref p]=>∃ (sks base:List Sk) (names:List Nm) (row:List Sl),(G q=some (.lst (sks.map Sk.d))/\mM (sks.map Sk.rw)/\sks.length<=1000/\base.length < 64/\(∀ s∈sks,s∈base)/\(∀ s∈sks,s.wd<=1000)/\ns=names.map Nm.d/\names.length<=900000/\G p=some (.dT hw (aQ (fun _=>.bl true) (bg [] (row.map fun s=>(s,()))))))/\
   ∀ out ps G',fK G G'->fk (out.map Sk.rw)->(∀ s,s∈out↔s∈sks)->i6 zF G' ps (hZ out names row)->Q (.fl (ps.map D.ref)) G'
 | _=>False
def eN(zF:Zz)(hw:HW):c5:=fun ds G Q=>match ds with
 | [.str x,.ref q,.lst ns]=>∃ (sks base:List Sk) (names:List Nm),(G q=some (.lst (sks.map Sk.d))/\x.length<=1000/\mM (sks.map Sk.rw)/\sks.length<=1000/\base.length < 64/\(∀ s∈sks,s∈base)/\(∀ s∈sks,1<=s.num/\s.wd<=1000)/\ns=names.map Nm.d/\names.length<=900000)/\
   ∀ out G',fK G G'->fk (out.map Sk.rw)->(∀ s,s∈out↔s∈sks)->Q (.fl ((jD x out names).map Seat.d)) G'
 | _=>False
def Seat.d3(s:Seat):D:=.tup [s.name.d,.str s.sign,.str s.word]
def ee(zF:Zz)(hw:HW):c5:=fun ds G Q=>match ds with
 | [.str x,.ref q,.lst ns]=>∃ (sks base:List Sk) (names:List Nm),(G q=some (.lst (sks.map Sk.d))/\x.length<=1000/\mM (sks.map Sk.rw)/\sks.length<=1000/\base.length < 64/\(∀ s∈sks,s∈base)/\(∀ s∈sks,1<=s.num/\s.wd<=1000)/\ns=names.map Nm.d/\names.length<=900000)/\
   ∀ out G',fK G G'->fk (out.map Sk.rw)->(∀ s,s∈out↔s∈sks)->Q (.fl ((jD x out names).map Seat.d3)) G'
 | _=>False
def dj(zF:Zz)(hw:HW):c5:=fun ds G Q=>match ds with
 | [.ref p]=>∃ (s:Sk) (a:Sl) (x:Str),(s.act=.put a x/\G p=some (a_ zF s))/\Q s.d G
 | _=>False
def bW(zF:Zz)(hw:HW):c5:=fun ds G Q=>match ds with
 | [.ref p]=>∃ (s:Sk) (ns:List Sl),(s.act=.strike ns/\G p=some (a_ zF s))/\Q s.d G
 | _=>False
def cx(zF:Zz)(hw:HW):c5:=fun ds G Q=>match ds with
 | [.ref p]=>∃ (s:Sk) (ns:List Sl) (w:Str),(s.act=.dress ns w/\G p=some (a_ zF s))/\Q s.d G
 | _=>False
def cQ(zF:Zz)(hw:HW):c5:=fun ds G Q=>match ds with
 | [.ref p]=>∃ (s:Sk) (ns:List Sl) (a:Sl),(s.act=.move ns a/\G p=some (a_ zF s))/\Q s.d G
 | _=>False
structure Pp where
 old:Str
 sks:List Sk
 st:List (List aD×D)
 gr:List (aD×D)
 time:Int
def mL(C:NR)(hw0:List aD->Int)(G:Gp)(p d s g:NR)(P:Pp):Prop:=G p=some (.ins C ax [.str P.old,.ref d,.ref s,.ref g,.int P.time])/\G d=some (.lst (P.sks.map Sk.d))/\G s=some (.dT hw0 P.st)/\G g=some (.dK P.gr)
def fP(P:Pp)(n:Nm):Bool:=d6 ((cV P.st n.key).getD .non) (.str (NU "wiped"))
def Pp.unw(P:Pp):List Nm:=(P.sks.filter fun s=>!fP P s.nm).map Sk.nm
def Pp.num(P:Pp)(pen:Str):Int:=match cV P.gr (.inr pen) with
 | some (.int m)=>m+1
 | _=>1
def Pp.add(P:Pp)(k:Sk):Pp:=⟨P.old,P.sks ++ [k],bS P.st k.nm.key (.str (NU "waits")),bS P.gr (.inr k.pen) (.int k.num),k.time⟩
structure Pp.ok(P:Pp)(n:Nat):Prop where
 lo:P.old.length<=40
 ls:P.sks.length<=n
 lt:P.st.length<=n
 lg:P.gr.length<=n
 sk:∀ s∈P.sks,1<=s.num/\s.wd<=60/\s.time<=P.time
 ap:(P.sks.map Sk.rw).Pairwise mr
 kn:∀ s∈P.sks,∃ w:Str,cV P.st s.nm.key=some (.str w)
 gi:∀ k v,cV P.gr k=some v->∃ m:Int,v=.int m/\0<=m
 gm:∀ s∈P.sks,∃ m:Int,cV P.gr (.inr s.pen)=some (.int m)/\s.num<=m
def Ei(l:List NR)(G G':Gp):Prop:=∀ a o,a∉l->G a=some o->G' a=some o
def Srt(P:Pp)(out:List Sk):Prop:=fk (out.map Sk.rw)/\∀ s,s∈out↔s∈P.sks
def Pp.seats(P:Pp)(out:List Sk):List Seat:=jD P.old out P.unw
def bw(zF:Zz)(hw:HW):c5:=fun ds G Q=>match ds with
 | [.ref p]=>∃ (P:Pp) (d s g:NR),(mL zF.C_Paper hw G p d s g P/\P.ok 50)/\Q (.fl (P.unw.map Nm.d)) G
 | _=>False
def cP(zF:Zz)(hw:HW):c5:=fun ds G Q=>match ds with
 | [.ref p]=>∃ (P:Pp) (d s g:NR),(mL zF.C_Paper hw G p d s g P/\P.ok 50)/\∀ out G',fK G G'->Srt P out->Q (.fl ((P.seats out).map Seat.d3)) G'
 | _=>False
def bZ(zF:Zz)(hw:HW):c5:=fun ds G Q=>match ds with
 | [.ref p]=>∃ (P:Pp) (d s g:NR),(mL zF.C_Paper hw G p d s g P/\P.ok 50)/\∀ out G',fK G G'->Srt P out->Q (.fl ((P.seats out).map Seat.d)) G'
 | _=>False
def bd(zF:Zz)(hw:HW):c5:=fun ds G Q=>match ds with
 | [.ref p]=>∃ (P:Pp) (d s g:NR),(mL zF.C_Paper hw G p d s g P/\P.sks.length<=50)/\Q (.fl (P.sks.map Sk.d)) G
 | _=>False
def aP(zF:Zz)(hw:HW):c5:=fun ds G Q=>match ds with
 | [.ref p,.str pen]=>∃ (P:Pp) (d s g:NR),(mL zF.C_Paper hw G p d s g P/\∀ k v,cV P.gr k=some v->∃ m:Int,v=.int m/\0<=m)/\Q (.tup [.str pen,.int (P.num pen)]) G
 | _=>False
def aO(zF:Zz)(hw:HW):c5:=fun ds G Q=>match ds with
 | [.ref p]=>∃ (P:Pp) (d s g:NR),mL zF.C_Paper hw G p d s g P/\Q (.int (P.time+1)) G
 | _=>False
def cw(zF:Zz)(hw:HW):c5:=fun ds G Q=>match ds with
 | [.ref p,.ref a]=>∃ (P:Pp) (d s g:NR) (k:Sk),(mL zF.C_Paper hw G p d s g P/\G a=some (a_ zF k)/\P.sks.length<=50/\P.st.length<=50/\P.gr.length<=50)/\∀ G',Ei [p,d,s,g] G G'->mL zF.C_Paper hw G' p d s g (P.add k)->Q (.tup [.str k.pen,.int k.num]) G'
 | _=>False
def aV(zF:Zz)(hw:HW):c5:=fun ds G Q=>match ds with
 | [.ref p,.tup [.str a,.int b]]=>∃ (P:Pp) (d s g:NR) (w:Str),(mL zF.C_Paper hw G p d s g P/\cV P.st [.inr a,.inl b]=some (.str w))/\Q .non G
 | _=>False
def bX(zF:Zz)(hw:HW):c5:=fun ds G Q=>match ds with
 | [.ref p,.tup [.str a,.int b]]=>∃ (P:Pp) (d s g:NR) (w:Str),(mL zF.C_Paper hw G p d s g P/\cV P.st [.inr a,.inl b]=some (.str w))/\Q (.str w) G
 | _=>False
def aU(zF:Zz)(hw:HW):c5:=fun ds G Q=>match ds with
 | [.ref p,.tup [.str a,.int b]]=>∃ (P:Pp) (d s g:NR),(mL zF.C_Paper hw G p d s g P/\cV P.st [.inr a,.inl b]=some (.str (NU "waits")))/\Q .non G
 | _=>False
def Pp.wipe(P:Pp)(n:List aD):Pp:=⟨P.old,P.sks,bS P.st n (.str (NU "wiped")),P.gr,P.time⟩
def cO(zF:Zz)(hw:HW):c5:=fun ds G Q=>match ds with
 | [.ref p,.tup [.str a,.int b]]=>∃ (P:Pp) (d s g:NR),(mL zF.C_Paper hw G p d s g P/\cV P.st [.inr a,.inl b]=some (.str (NU "waits"))/\P.st.length<=50)/\∀ G',Ei [p,d,s,g] G G'->mL zF.C_Paper hw G' p d s g (P.wipe [.inr a,.inl b])->Q .non G'
 | _=>False
def db(_:Zz)(_:HW):c5:=fun ds G Q=>match ds with
 | [.int at_,.int n]=>(0<=at_/\at_<=n)/\Q .non G
 | _=>False
def bP(_:Zz)(_:HW):c5:=fun ds G Q=>match ds with
 | [.int at_,.int to_,.int n]=>(0<=at_/\at_ < n/\at_ < to_/\to_<=n)/\Q .non G
 | _=>False
def bO(_:Zz)(_:HW):c5:=fun ds G Q=>match ds with
 | [.lst xs,.int i,.int j]=>∃ seats:List Seat,(xs=seats.map Seat.d/\0<=i/\i<=j/\j<=seats.length/\seats.length<=100000)/\Q (.tup ((((seats.drop i.toNat).take (j - i).toNat).map Seat.name).map Sl.d)) G
 | _=>False
def Pp.next(P:Pp)(pen:Str)(k:Sk):Prop:=k.pen=pen/\k.num=P.num pen/\k.time=P.time+1
def ce(zF:Zz)(hw:HW):c5:=fun ds G Q=>match ds with
 | [.ref p,.str pen,.int i,.int j]=>∃ (P:Pp) (d s g:NR),(mL zF.C_Paper hw G p d s g P/\P.ok 49)/\∀ out,Srt P out->(0<=i/\i < (P.seats out).length/\i < j/\j<=(P.seats out).length)/\
   ∀ G',Ei [p,d,s,g] G G'->mL zF.C_Paper hw G' p d s g (P.add ⟨pen,P.num pen,P.time+1,.strike ((((P.seats out).drop i.toNat).take (j - i).toNat).map Seat.name)⟩)->Q (.tup [.str pen,.int (P.num pen)]) G'
 | _=>False
def bC(zF:Zz)(hw:HW):c5:=fun ds G Q=>match ds with
 | [.ref p,.str x]=>G p=some (.ins zF.C_Paper [] [])/\∀ d s g G',(G d=none/\G s=none/\G g=none)->Ei [p,d,s,g] G G'->mL zF.C_Paper hw G' p d s g ⟨x,[],[],[],0⟩->Q .non G'
 | _=>False
def kK(seats:List Seat)(i:Int):Sl:=if i=0 then ar else match seats[(i - 1).toNat]? with
 | some s=>s.slot
 | none=>ar
def de(_:Zz)(_:HW):c5:=fun ds G Q=>match ds with
 | [.lst xs,.int i]=>∃ seats:List Seat,(xs=seats.map Seat.d/\0<=i/\i<=seats.length)/\Q (kK seats i).d G
 | _=>False
def pS(seats:List Seat)(i j:Int):List Sl:=((seats.drop i.toNat).take (j - i).toNat).map Seat.name
def cJ(zF:Zz)(hw:HW):c5:=fun ds G Q=>match ds with
 | [.ref p,.str pen,.int i,.str x]=>∃ (P:Pp) (d s g:NR),(mL zF.C_Paper hw G p d s g P/\P.ok 49)/\∀ out,Srt P out->(0<=i/\i<=(P.seats out).length)/\
   ∀ G',Ei [p,d,s,g] G G'->mL zF.C_Paper hw G' p d s g (P.add ⟨pen,P.num pen,P.time+1,.put (kK (P.seats out) i) x⟩)->Q (.tup [.str pen,.int (P.num pen)]) G'
 | _=>False
def Pp.inS(P:Pp)(w:Str):List Sk:=P.sks.filter fun s=>d6 ((cV P.st s.nm.key).getD .non) (.str w)
def Pp.wai(P:Pp):List Nm:=(P.inS (NU "waits")).map Sk.nm
def bf(zF:Zz)(hw:HW):c5:=fun ds G Q=>match ds with
 | [.ref p,.str w]=>∃ (P:Pp) (d s g:NR),(mL zF.C_Paper hw G p d s g P/\P.ok 50)/\Q (.fl ((P.inS w).map Sk.d)) G
 | _=>False
def bv(zF:Zz)(hw:HW):c5:=fun ds G Q=>match ds with
 | [.ref p]=>∃ (P:Pp) (d s g:NR),(mL zF.C_Paper hw G p d s g P/\P.ok 50)/\Q (.fl (P.wai.map Nm.d)) G
 | _=>False
def bB(zF:Zz)(hw:HW):c5:=fun ds G Q=>match ds with
 | [.ref p]=>∃ (P:Pp) (d s g:NR),mL zF.C_Paper hw G p d s g P/\Q (.str P.old) G
 | _=>False
def iS(ab:Nat->Nat)(q:Nat->Bool):Nat->Nat
 | 0=>ab 0+1
 | j+1=>if q j=true then (if ab j < (if iS ab q j < ab (j+1)then iS ab q j else ab (j+1))+1 then ab j else (if iS ab q j < ab (j+1)then iS ab q j else ab (j+1))+1)else (if iS ab q j < ab (j+1)then iS ab q j else ab (j+1))+1
def fB(e:Nat->Nat->Bool):Nat->Nat->Nat
 | 0=>fun j=>j
 | i+1=>iS (fB e i) (e i)
theorem wH(ab:Nat->Nat)(q:Nat->Bool)(j:Nat):iS ab q (j+1)=if q j=true then (if ab j < (if iS ab q j < ab (j+1)then iS ab q j else ab (j+1))+1 then ab j else (if iS ab q j < ab (j+1)then iS ab q j else ab (j+1))+1)else (if iS ab q j < ab (j+1)then iS ab q j else ab (j+1))+1:=rfl
theorem LQ(e:Nat->Nat->Bool)(j:Nat):fB e 0 j=j:=rfl
theorem LN(e:Nat->Nat->Bool)(i:Nat):fB e (i+1) 0=fB e i 0+1:=rfl
theorem jn(e:Nat->Nat->Bool)(i j:Nat):fB e (i+1) (j+1)<=fB e i (j+1)+1/\fB e (i+1) (j+1)<=fB e (i+1) j+1/\(e i j=true->fB e (i+1) (j+1)<=fB e i j)/\
  (fB e (i+1) (j+1)=fB e i (j+1)+1\/fB e (i+1) (j+1)=fB e (i+1) j+1\/(e i j=true/\fB e (i+1) (j+1)=fB e i j)):=by
 have h:fB e (i+1) (j+1)=iS (fB e i) (e i) (j+1):=rfl;have h2:fB e (i+1) j=iS (fB e i) (e i) j:=rfl;rw[h,h2,wH];generalize iS (fB e i) (e i) j=b;generalize fB e i (j+1)=a;generalize fB e i j=c
 by_cases h1:b < a
 ·rw[if_pos h1];cases e i j
  ·rw[if_neg (by decide)]
   exact⟨by walk_at "o",by walk_at "o",(fun z=>nomatch z),.inr (.inl rfl)⟩
  ·rw[if_pos rfl]
   by_cases h3:c < b+1
   ·rw[if_pos h3];exact⟨by walk_at "o",by walk_at "o",fun _=>by walk_at "o",.inr (.inr ⟨rfl,rfl⟩)⟩
   ·rw[if_neg h3];exact⟨by walk_at "o",by walk_at "o",fun _=>by walk_at "o",.inr (.inl rfl)⟩
 ·rw[if_neg h1];cases e i j
  ·rw[if_neg (by decide)]
   exact⟨by walk_at "o",by walk_at "o",(fun z=>nomatch z),.inl rfl⟩
  ·rw[if_pos rfl]
   by_cases h3:c < a+1
   ·rw[if_pos h3];exact⟨by walk_at "o",by walk_at "o",fun _=>by walk_at "o",.inr (.inr ⟨rfl,rfl⟩)⟩
   ·rw[if_neg h3];exact⟨by walk_at "o",by walk_at "o",fun _=>by walk_at "o",.inl rfl⟩
theorem J4(e:Nat->Nat->Bool)(i:Nat):∀ j,fB e (i+1) j<=fB e i j+1
 | 0=>le_refl _
 | j+1=>(jn e i j).1
theorem J3(e:Nat->Nat->Bool):∀ i j,fB e i (j+1)<=fB e i j+1
 | 0,j=>le_refl _
 | i+1,j=>(jn e i j).2.1
theorem LP(e:Nat->Nat->Bool):∀ i j,fB e i j<=fB e i (j+1)+1
 | 0,j=>by rw[LQ,LQ];omega
 | i+1,j=>by
  have a:=LP e i j;have u:=J4 e i j;rcases (jn e i j).2.2.2 with h|h|⟨_,h⟩<;>omega
theorem LO(e:Nat->Nat->Bool)(i:Nat):∀ j,fB e i j<=fB e (i+1) j+1
 | 0=>by rw[LN];omega
 | j+1=>by
  have b:=LO e i j;have u:=J3 e i j;rcases (jn e i j).2.2.2 with h|h|⟨_,h⟩<;>omega
theorem HD{e:Nat->Nat->Bool}{i j:Nat}(h:e i j=true):fB e (i+1) (j+1)=fB e i j:=by
 have c:=jn e i j;have a:=LP e i j;have b:=LO e i j;have l:=c.2.2.1 h;rcases c.2.2.2 with h|h|⟨_,h⟩<;>omega
inductive Stp where
 | keep (i j:Nat)
 | strike (i:Nat)
 | put (j:Nat)
def lX(e:Nat->Nat->Bool)(i j:Nat):Stp:=
 if 0 < i/\0 < j/\e (i - 1) (j - 1)=true then .keep (i - 1) (j - 1)else if 0 < i/\fB e i j=fB e (i - 1) j+1 then .strike (i - 1)else .put (j - 1)
def GI(e:Nat->Nat->Bool)(n m:Nat):Nat->Nat->List Stp->Prop
 | i,j,[]=>i=n/\j=m
 | i,j,.keep a b::r=>a=i/\b=j/\i < n/\j < m/\e i j=true/\GI e n m (i+1) (j+1) r
 | i,j,.strike a::r=>a=i/\i < n/\GI e n m (i+1) j r
 | i,j,.put b::r=>b=j/\j < m/\GI e n m i (j+1) r
def Stp.cost:Stp->Nat
 | .keep _ _=>0
 | _=>1
def cost:List Stp->Nat
 | []=>0
 | s::r=>s.cost+cost r
def Stp.fromI:Stp->Nat->Nat
 | .put _,i=>i
 | _,i=>i - 1
def Stp.fromJ:Stp->Nat->Nat
 | .strike _,j=>j
 | _,j=>j - 1
def Stp.can:Stp->Nat->Nat->Prop
 | .keep _ _,i,j=>0 < i/\0 < j
 | .strike _,i,_=>0 < i
 | .put _,_,j=>0 < j
structure StOk(e:Nat->Nat->Bool)(n m i j:Nat)(ws:List Stp):Prop where
 li:i<=n
 lj:j<=m
 walk:GI e n m i j ws
 price:fB e n m=fB e i j+cost ws
 few:ws.length+i+j<=n+m
 like:n=m->(∀ k,k < n->e k k=true)->i=j/\ws=(List.range' i (n - i)).map fun k=>.keep k k
theorem EE(e:Nat->Nat->Bool)(n m:Nat):StOk e n m n m []:=⟨le_refl _,le_refl _,⟨rfl,rfl⟩,rfl,by simp,fun h _=>⟨h,by rw[RB];rfl⟩⟩
theorem Hi{e:Nat->Nat->Bool}{n m i j:Nat}{ws:List Stp}(h:StOk e n m i j ws)(h0:0 < i\/0 < j):
  StOk e n m ((lX e i j).fromI i) ((lX e i j).fromJ j) (lX e i j::ws)/\(lX e i j).fromI i+(lX e i j).fromJ j < i+j/\(lX e i j).can i j:=by
 obtain⟨li,lj,wk,pr,few,like⟩:=h;unfold lX
 by_cases h1:0 < i/\0 < j/\e (i - 1) (j - 1)=true
 ·rw[if_pos h1];obtain⟨hi,hj,he⟩:=h1;obtain⟨i',rfl⟩:∃ i',i=i'+1:=⟨i - 1,by walk_at "o"⟩
  obtain⟨j',rfl⟩:∃ j',j=j'+1:=⟨j - 1,by walk_at "o"⟩
  simp only[Nat.add_sub_cancel]at he ⊢;simp only[Stp.fromI,Stp.fromJ,Stp.can,Nat.add_sub_cancel];refine⟨⟨by walk_at "o",by walk_at "o",⟨rfl,rfl,by walk_at "o",by walk_at "o",he,wk⟩,?_,by rw[Ob];omega,fun hnm hd=>?_⟩,by walk_at "o",by walk_at "o"⟩
  ·rw[pr,HD he];simp only[cost,Stp.cost];omega
  ·obtain⟨hij,hw⟩:=like hnm hd;have e1:i'=j':=by walk_at "o"
   subst e1;refine⟨rfl,?_⟩;have e2:n - i'=(n - (i'+1))+1:=by walk_at "o"
   rw[e2,List.range'_succ,Od,<- hw]
 ·rw[if_neg h1];have nd:n=m->(∀ k,k < n->e k k=true)->False:=fun hnm hd=>by
   obtain⟨hij,_⟩:=like hnm hd;subst hij;exact h1 ⟨by walk_at "o",by walk_at "o",hd _ (by walk_at "o")⟩
  by_cases h2:0 < i/\fB e i j=fB e (i - 1) j+1
  ·rw[if_pos h2];obtain⟨hi,hp⟩:=h2;obtain⟨i',rfl⟩:∃ i',i=i'+1:=⟨i - 1,by walk_at "o"⟩
   simp only[Nat.add_sub_cancel]at hp ⊢;simp only[Stp.fromI,Stp.fromJ,Stp.can,Nat.add_sub_cancel];refine⟨⟨by walk_at "o",by walk_at "o",⟨rfl,by walk_at "o",wk⟩,?_,by rw[Ob];omega,fun hnm hd=>(nd hnm hd).elim⟩,by walk_at "o",by walk_at "o"⟩
   rw[pr,hp];simp only[cost,Stp.cost];omega
  ·rw[if_neg h2];have hj:0 < j:=by
    rcases Nat.eq_zero_or_pos j with z|z
    ·subst z;rcases h0 with h0|h0
     ·obtain⟨i',rfl⟩:∃ i',i=i'+1:=⟨i - 1,by walk_at "o"⟩
      exact absurd ⟨h0,rfl⟩ h2
     ·omega
    ·exact z
   obtain⟨j',rfl⟩:∃ j',j=j'+1:=⟨j - 1,by walk_at "o"⟩
   have hp:fB e i (j'+1)=fB e i j'+1:=by
    cases i with
    | zero=>rfl
    | succ i'=>
     rcases (jn e i' j').2.2.2 with h|h|⟨he,_⟩
     ·exact absurd ⟨Rz _,h⟩ h2
     ·exact h
     ·exact absurd ⟨Rz _,Rz _,he⟩ h1
   simp only[Stp.fromI,Stp.fromJ,Stp.can,Nat.add_sub_cancel];refine⟨⟨by walk_at "o",by walk_at "o",⟨rfl,by walk_at "o",wk⟩,?_,by rw[Ob];omega,fun hnm hd=>(nd hnm hd).elim⟩,by walk_at "o",by walk_at "o"⟩
   rw[pr,hp];simp only[cost,Stp.cost];omega
def Stp.d:Stp->D
 | .keep i j=>.tup [.str "keep",.int i,.int j]
 | .strike i=>.tup [.str "strike",.int i]
 | .put j=>.tup [.str "put",.int j]
def gF(m:Str)(i:Int):Str:=⟨#[m.cps.toList.getD i.toNat 0]⟩
def mZ(x y:Str)(i j:Nat):Bool:=d6 (.str (gF x i)) (.str (gF y j))
def fL(n:Nat)(f:Nat->Nat):List D:=(List.range n).map fun j=>D.int (f j:Nat)
def j8(x y:Str)(n:Nat):List D:=(List.range n).map fun i=>D.lst (fL (y.length+1) (fB (mZ x y) i))
def vA(x y:Str):List D:=j8 x y (x.length+1)
def aT(_:Zz)(_:HW):c5:=fun ds G Q=>match ds with
 | [.int _,.int _]=>∀ n:Int,(0<=n/\n < 2147483647)->Q (.int n) G
 | _=>False
def bp(_:Zz)(_:HW):c5:=fun ds G Q=>match ds with
 | [.lst cs,.int k]=>∃ ns:List Int,(cs=ns.map D.int/\0<=k)/\∀ c:Int,Q (.int c) G
 | _=>False
def cI(_:Zz)(_:HW):c5:=fun ds G Q=>match ds with
 | [.int _]=>∀ z:Str,z.length<=40->Q (.str z) G
 | _=>False
def cN(_:Zz)(_:HW):c5:=fun ds G Q=>match ds with
 | [.str x,.int _]=>x.length<=60/\∀ z:Str,z.length<=60->Q (.str z) G
 | _=>False
def bN(_:Zz)(_:HW):c5:=fun ds G Q=>match ds with
 | [.lst ab,.str sg,.str y]=>∃ f:Nat->Nat,(ab=fL (y.length+1) f/\y.length<=60)/\Q (.fl (fL (y.length+1) (iS f fun j=>d6 (.str sg) (.str (gF y j))))) G
 | _=>False
def eO(_:Zz)(_:HW):c5:=fun ds G Q=>match ds with
 | [.str x,.str y]=>(x.length<=60/\y.length<=60)/\Q (.fl (vA x y)) G
 | _=>False
def c8(_:Zz)(_:HW):c5:=fun ds G Q=>match ds with
 | [.lst tb,.str x,.str y,.int i,.int j]=>∃ a b:Nat,(tb=vA x y/\i=a/\j=b/\a<=x.length/\b<=y.length/\x.length<=60/\y.length<=60/\(0 < a\/0 < b))/\Q ((lX (mZ x y) a b).d) G
 | _=>False
def gf(_:Zz)(_:HW):c5:=fun ds G Q=>match ds with
 | [.str x,.str y]=>(x.length<=60/\y.length<=60)/\∀ ws:List Stp,StOk (mZ x y) x.length y.length 0 0 ws->Q (.fl (ws.map Stp.d)) G
 | _=>False
def iF(x:Str):List D:=(L3.signs x).map fun d=>D.tup [d,.str ""]
def Pp.firm(P:Pp):Prop:=∀ s∈P.sks,cV P.st s.nm.key=some (.str (NU "waits"))\/cV P.st s.nm.key=some (.str (NU "stands"))
structure Lk(P:Pp)(ds:List D)(n:Nat):Prop where
 ok:P.ok n
 fm:P.firm
 st:fk (P.sks.map Sk.rw)
 sm:Sim P.old P.sks
 rv:ds=kA P.old P.sks
def keeps:List Stp->List (Nat×Nat)
 | []=>[]
 | .keep i j::r=>(i,j)::keeps r
 | .strike _::r=>keeps r
 | .put _::r=>keeps r
def prD(p:Nat×Nat):D:=.tup [.int (p.1:Nat),.int (p.2:Nat)]
def cM(_:Zz)(_:HW):c5:=fun ds G Q=>match ds with
 | [.str x,.str y]=>(x.length<=60/\y.length<=60)/\∀ ws:List Stp,StOk (mZ x y) x.length y.length 0 0 ws->Q (.fl ((keeps ws).map prD)) G
 | _=>False
def Sk.sz(s:Sk):Nat:=match s.act with
 | .put _ y=>y.length
 | .strike N=>N.length
 | _=>0
def jZ(l:List Sk):Nat:=(l.map Sk.sz).sum
def Pp.by1(P:Pp)(pen:Str):Prop:=∀ s∈P.sks,s.pen=pen/\cV P.st s.nm.key=some (.str (NU "waits"))/\((∃ a y,s.act=.put a y)\/∃ N,s.act=.strike N)/\0 < s.sz
def dh(zF:Zz)(hw:HW):c5:=fun ds G Q=>match ds with
 | [.str x,.str y,.str pen]=>(x.length<=40/\y.length<=60)/\∀ (p d s g:NR) (G':Gp) (P:Pp) (ws:List Stp),StOk (mZ x y) x.length y.length 0 0 ws->fK G G'->(∀ a∈[p,d,s,g],G a=none)->mL zF.C_Paper hw G' p d s g P->Lk P (iF y) 41->P.by1 pen->jZ P.sks=cost ws->P.old=x->Q (.ref p) G'
 | _=>False
def dD(_:Zz)(_:HW):c5:=fun ds G Q=>match ds with
 | [.int _]=>∀ x:Str,Q (.str x) G
 | _=>False
def bQ(_:Zz)(_:HW):c5:=fun ds G Q=>match ds with
 | [.lst rs]=>∃ l:List Sk,(rs=l.map Sk.d/\l.length<=50/\(∀ s∈l,s.wd<=60/\((∃ a y,s.act=.put a y)\/∃ N,s.act=.strike N)))/\Q (.int (jZ l:Nat)) G
 | _=>False
def xv(_:Zz)(_:HW):c5:=fun vs _ Q=>match vs with
 | [.lst ds]=>∃ ns:List Int,ds=ns.map D.int/\ns.length<=63/\∀ G',Q (.bl true) G'
 | _=>False
def nr(zF:Zz)(hw:List aD->Int):ck:=sSeq (bn 2 (aW gP (aW xQ (aW dW (aW dW (ae 0) (aW xQ (eC (.int 7919)) (ae 1))) (eC (.int 1))) (eC (.int 48271))) (eC (.int 2147483647))))
 (bh (aW gP (aW xQ (ae 2) (aW dW (aW lQ (ae 2) (eC (.int 1009))) (eC (.int 69621)))) (eC (.int 2147483647))))
def pJ(zF:Zz)(hw:List aD->Int):ck:=sSeq (bn 1 (eC (.str " !\"#$&'()*+,-./0123456789:;<=>?@ABCDEFGHIJKLMNOPQRSTUVWXYZ[\\]^_`")))
 (sSeq (bn 1 (aW dW (ae 1) (eC (.str "abcdefghijklmnopqrstuvwxyz{|}~\n"))))
 (sSeq (bn 2 (aK (aT zF hw) [] (af (ae 0) (af (eC (.int 1)) (au)))))
 (sSeq (bn 3 (aW fc (m3 (af (aW gP (aW lQ (ae 2) (eC (.int 4))) (eC (.int 25))) (af (aW gP (aW lQ (ae 2) (eC (.int 4))) (eC (.int 9))) (af (Mj (cj (eU vV (aW gP (aW lQ (ae 2) (eC (.int 300))) (eC (.int 2))) (eC (.int 0)))) (aW gP (aW lQ (ae 2) (eC (.int 4))) (eC (.int 41))) (eC (.int 5))) (af (aW gP (aW lQ (ae 2) (eC (.int 4))) (eC (.int 3))) (au)))))) (aW gP (ae 2) (eC (.int 4)))))
 (sSeq (bn 4 (aW fc (m3 (af (eC (.int 95)) (af (eC (.int 2)) (af (eC (.int 3)) (au))))) (aW gP (aK (aT zF hw) [] (af (ae 0) (af (eC (.int 2)) (au)))) (eC (.int 3)))))
 (sSeq (bn 5 (aW gP (aK (aT zF hw) [] (af (ae 0) (af (eC (.int 3)) (au)))) (eC (.int 95))))
 (bh (sr (eC (.str "")) (af (dH 1 (KR (af (ae 3) (au))) (gN 0) (fM) (aW fc (ae 2) (aW gP (aW dW (ae 6) (aW gP (aK (aT zF hw) [] (af (ae 1) (af (aW dW (eC (.int 4)) (ae 0)) (au)))) (ae 5))) (eC (.int 95))))) (au)))))))))
def kC(zF:Zz)(hw:List aD->Int):ck:=sSeq (jH (cj (aW Jm (ae 1) (eB iC (af (ae 0) (au))))) (bh (aW fc (ae 0) (ae 1))) (cy))
 (bh (eC (.int 0)))
def nq(zF:Zz)(hw:List aD->Int):ck:=sSeq (bn 2 (aK (aT zF hw) [] (af (ae 1) (af (eC (.int 70)) (au)))))
 (sSeq (jH (cj (eU vV (aW gP (ae 2) (eC (.int 6))) (eC (.int 0)))) (bh (aK (cI zF hw) [] (af (aW dW (aW lQ (ae 1) (eC (.int 7))) (eC (.int 13))) (au)))) (cy))
 (sSeq (jH (cj (eU vV (aW gP (ae 2) (eC (.int 6))) (eC (.int 1)))) (bh (Aj (ae 0) (Dr) (Dr) (hJ (aW fc (m3 (af (eC (.int 1)) (af (yG (eC (.int 1))) (au)))) (aW gP (aW lQ (ae 2) (eC (.int 6))) (eC (.int 2))))))) (cy))
 (sSeq (gL (KR (af (aW gP (aW lQ (ae 2) (eC (.int 12))) (eC (.int 9))) (au))) (gN 3) (sSeq (bn 4 (aK (aT zF hw) [] (af (ae 1) (af (aW dW (eC (.int 71)) (ae 3)) (au)))))
 (sSeq (bn 5 (aW gP (aW lQ (ae 4) (eC (.int 2))) (aW dW (eB iC (af (ae 0) (au))) (eC (.int 1)))))
 (jH (m7 (cj (eU vV (aW gP (ae 4) (eC (.int 2))) (eC (.int 0)))) (cj (aW Jm (eB iC (af (ae 0) (au))) (eC (.int 60))))) (bn 0 (aW dW (aW dW (DS Ca (ae 0) (Dr) (hJ (ae 5))) (aW fc (aW dW (ae 0) (eC (.str "x"))) (aW gP (aW lQ (ae 4) (eC (.int 200))) (aW dW (eB iC (af (ae 0) (au))) (eC (.int 1)))))) (DS Ca (ae 0) (hJ (ae 5)) (Dr)))) (bn 0 (aW dW (DS Ca (ae 0) (Dr) (hJ (ae 5))) (DS Ca (ae 0) (hJ (aW dW (ae 5) (eC (.int 1)))) (Dr))))))))
 (bh (ae 0)))))
def r0(zF:Zz)(hw:List aD->Int):ck:=sSeq (bn 1 (eC (.str "")))
 (sSeq (bn 2 (aW lQ (ae 0) (eC (.int 8))))
 (sSeq (gL (KR (af (aW dW (eC (.int 1)) (aW gP (ae 0) (eC (.int 8)))) (au))) (gN 3) (sSeq (bn 1 (aW dW (ae 1) (aW fc (eC (.str "abcdefghijklmnopqrstuvwxyz")) (aW gP (ae 2) (eC (.int 26))))))
 (bn 2 (aW dW (aW lQ (ae 2) (eC (.int 26))) (aW xQ (eC (.int 7)) (ae 3))))))
 (bh (ae 1))))
def je(zF:Zz)(hw:List aD->Int):ck:=sSeq (zm 3 (m3 (af (aW dW (aW fc (ae 0) (eC (.int 0))) (eC (.int 1))) (au))))
 (sSeq (gL (rl (af (ae 2) (au))) (hV 2 (cr (gN 4) (cr (gN 5) (hX)))) (sSeq (bn 6 (aW dW (eB wf (af (aW fc (ae 0) (aW dW (ae 4) (eC (.int 1)))) (af (aW fc (ae 3) (ae 4)) (au)))) (eC (.int 1))))
 (sSeq (jH (cj (eU vV (ae 1) (ae 5))) (bn 6 (eB wf (af (ae 6) (af (aW fc (ae 0) (ae 4)) (au))))) (cy))
 (dE (fG (ae 3) (af (ae 6) (au)))))))
 (e_ 3))
def wJ(zF:Zz)(hw:List aD->Int):ck:=sSeq (zm 2 (m3 (af (Ak (af (aW dW (eB iC (af (ae 1) (au))) (eC (.int 1))) (au))) (au))))
 (sSeq (gL (rl (af (ae 0) (au))) (hV 2 (cr (gN 3) (cr (gN 4) (hX)))) (dE (fG (ae 2) (af (aK (bN zF hw) [] (af (aW fc (ae 2) (ae 3)) (af (ae 4) (af (ae 1) (au))))) (au)))))
 (e_ 2))
def pF(zF:Zz)(hw:List aD->Int):ck:=sSeq (jH (m7 (cj (aW Cu (ae 3) (eC (.int 0)))) (m7 (cj (aW Cu (ae 4) (eC (.int 0)))) (cj (eU vV (aW fc (ae 1) (aW n8 (ae 3) (eC (.int 1)))) (aW fc (ae 2) (aW n8 (ae 4) (eC (.int 1)))))))) (bh (gR (af (eC (.str "keep")) (af (aW n8 (ae 3) (eC (.int 1))) (af (aW n8 (ae 4) (eC (.int 1))) (au)))))) (cy))
 (sSeq (jH (m7 (cj (aW Cu (ae 3) (eC (.int 0)))) (cj (eU vV (aW fc (aW fc (ae 0) (ae 3)) (ae 4)) (aW dW (aW fc (aW fc (ae 0) (aW n8 (ae 3) (eC (.int 1)))) (ae 4)) (eC (.int 1)))))) (bh (gR (af (eC (.str "strike")) (af (aW n8 (ae 3) (eC (.int 1))) (au))))) (cy))
 (bh (gR (af (eC (.str "put")) (af (aW n8 (ae 4) (eC (.int 1))) (au))))))
def zC(zF:Zz)(hw:List aD->Int):ck:=sSeq (bn 2 (aK (eO zF hw) [] (af (ae 0) (af (ae 1) (au)))))
 (sSeq (bn 3 (eB iC (af (ae 0) (au))))
 (sSeq (bn 4 (eB iC (af (ae 1) (au))))
 (sSeq (zm 5 (m3 (au)))
 (sSeq (tS (vB (cj (aW Cu (ae 3) (eC (.int 0)))) (cj (aW Cu (ae 4) (eC (.int 0))))) (sSeq (bn 6 (aK (c8 zF hw) [] (af (ae 2) (af (ae 0) (af (ae 1) (af (ae 3) (af (ae 4) (au))))))))
 (sSeq (dE (fG (ae 5) (af (ae 6) (au))))
 (sSeq (jH (cj (eU zK (aW fc (ae 6) (eC (.int 0))) (eC (.str "put")))) (bn 3 (aW n8 (ae 3) (eC (.int 1)))) (cy))
 (jH (cj (eU zK (aW fc (ae 6) (eC (.int 0))) (eC (.str "strike")))) (bn 4 (aW n8 (ae 4) (eC (.int 1)))) (cy))))))
 (A_ 5 (bh (Al (ae 5))))))))
def no(zF:Zz)(hw:List aD->Int):ck:=bh (dH 1 (eM (aK (gf zF hw) [] (af (ae 0) (af (ae 1) (au))))) (gN 0) (cj (eU vV (aW fc (ae 0) (eC (.int 0))) (eC (.str "keep")))) (DS Ca (ae 0) (hJ (eC (.int 1))) (Dr)))
def pI(zF:Zz)(hw:List aD->Int):ck:=jH (rK (cj (me Jn Jn (eC (.int 0)) (ae 0) (ae 1)))) (jG) (cy)
def jI(zF:Zz)(hw:List aD->Int):ck:=sSeq (jH (cj (eU vV (ae 1) (eC (.int 0)))) (bh (eC k_START)) (cy))
 (bh (aW fc (aW fc (ae 0) (aW n8 (ae 1) (eC (.int 1)))) (eC (.int 0))))
def nl(zF:Zz)(hw:List aD->Int):ck:=sSeq (bn 3 (ae 1))
 (gL (eM (ae 2)) (gN 4) (sSeq (eA hw (ae 0) (ae 4) (sT hw (ae 0) (ae 3)))
 (sSeq (eA hw (ae 0) (ae 3) (ae 4))
 (bn 3 (ae 4)))))
def nk(zF:Zz)(hw:List aD->Int):ck:=bh (dH 1 (Me (af (eC (.int 1)) (af (aW dW (ae 1) (eC (.int 1))) (au)))) (gN 0) (fM) (aW dW (ae 1) (gR (af (ae 0) (au)))))
def pE(zF:Zz)(hw:List aD->Int):ck:=bh (aK (bV zF hw) [] (af (DS Ca (eC k_START) (Dr) (hJ (eC (.int 2)))) (af (eB iC (af (ae 0) (au))) (au))))
def iJ(zF:Zz)(hw:List aD->Int):ck:=bh (gR (af (aW fc (ae 0) (eC (.int 1))) (af (aW fc (ae 0) (eC (.int 0))) (au))))
def rZ(zF:Zz)(hw:List aD->Int):ck:=sSeq (bn 1 (nF hw))
 (sSeq (zn (ae 0) (gN 2) (eA hw (ae 1) (aW fc (ae 2) (eC (.int 0))) (ae 2)))
 (bh (u0 (aS zF hw) (ae 1))))
def ip(zF:Zz)(hw:List aD->Int):ck:=sSeq (ik zF.F "name" (ae 0) (ae 1))
 (sSeq (ik zF.F "time" (ae 0) (ae 2))
 (sSeq (ik zF.F "anchor" (ae 0) (eC k_START))
 (ik zF.F "names" (ae 0) (gR (au)))))
def kF(zF:Zz)(hw:List aD->Int):ck:=sSeq (dE (aK (aL zF hw) [] (af (ae 0) (af (ae 1) (af (ae 2) (au))))))
 (sSeq (ik zF.F "anchor" (ae 0) (ae 3))
 (ik zF.F "signs" (ae 0) (ae 4)))
def iq(zF:Zz)(hw:List aD->Int):ck:=sSeq (dE (aK (aL zF hw) [] (af (ae 0) (af (ae 1) (af (ae 2) (au))))))
 (ik zF.F "names" (ae 0) (ae 3))
def iN(zF:Zz)(hw:List aD->Int):ck:=sSeq (dE (aK (aL zF hw) [] (af (ae 0) (af (ae 1) (af (ae 2) (au))))))
 (sSeq (ik zF.F "names" (ae 0) (ae 3))
 (ik zF.F "word" (ae 0) (ae 4)))
def jl(zF:Zz)(hw:List aD->Int):ck:=sSeq (dE (aK (aL zF hw) [] (af (ae 0) (af (ae 1) (af (ae 2) (au))))))
 (sSeq (ik zF.F "names" (ae 0) (ae 3))
 (ik zF.F "anchor" (ae 0) (ae 4)))
def pD(zF:Zz)(hw:List aD->Int):ck:=sSeq (bn 1 (aW fc (ae 0) (eC (.int 0))))
 (sSeq (bn 2 (aW fc (ae 0) (eC (.int 1))))
 (sSeq (bn 3 (aW fc (ae 0) (eC (.int 2))))
 (sSeq (jH (cj (eU vV (aW fc (ae 3) (eC (.int 0))) (eC (.str "put")))) (bh (kJ zF.Z2 (bI zF hw) [] (af (ae 1) (af (ae 2) (af (aW fc (ae 3) (eC (.int 1))) (af (aW fc (ae 3) (eC (.int 2))) (au))))))) (cy))
 (sSeq (jH (cj (eU vV (aW fc (ae 3) (eC (.int 0))) (eC (.str "strike")))) (bh (kJ zF.Z3 (aZ zF hw) [] (af (ae 1) (af (ae 2) (af (aW fc (ae 3) (eC (.int 1))) (au)))))) (cy))
 (sSeq (jH (cj (eU vV (aW fc (ae 3) (eC (.int 0))) (eC (.str "dress")))) (bh (kJ zF.Z4 (bD zF hw) [] (af (ae 1) (af (ae 2) (af (aW fc (ae 3) (eC (.int 1))) (af (aW fc (ae 3) (eC (.int 2))) (au))))))) (cy))
 (bh (kJ zF.Z5 (bR zF hw) [] (af (ae 1) (af (ae 2) (af (aW fc (ae 3) (eC (.int 1))) (af (aW fc (ae 3) (eC (.int 2))) (au))))))))))))
def ud(zF:Zz)(hw:List aD->Int):ck:=sSeq (zm 1 (m3 (au)))
 (sSeq (bn 2 (sT hw (ae 0) (eC k_START)))
 (sSeq (tS (cj (aW uq (ae 2) (eC .non))) (sSeq (dE (fG (ae 1) (af (ae 2) (au))))
 (bn 2 (sT hw (ae 0) (ae 2)))))
 (e_ 1)))
def kE(zF:Zz)(hw:List aD->Int):ck:=bh (m3 (au))
def pK(zF:Zz)(hw:List aD->Int):ck:=bh (aK (bV zF hw) [] (af (bH zF.F "name" (ae 0)) (af (eB iC (af (bH zF.F "signs" (ae 0)) (au))) (au))))
def nA(zF:Zz)(hw:List aD->Int):ck:=bh (aK (bV zF hw) [] (af (bH zF.F "name" (ae 0)) (af (eB iC (af (bH zF.F "names" (ae 0)) (au))) (au))))
def rY(zF:Zz)(hw:List aD->Int):ck:=sSeq (bn 2 (u7 hw (eC k_START) (eC .non)))
 (sSeq (dE (aK (cv zF hw) [] (af (ae 2) (af (eC k_START) (af (aK (cH zF hw) [] (af (ae 0) (au))) (au))))))
 (sSeq (gL (eM (dH 1 (eM (aK (c_ zF hw) [] (af (ae 1) (au)))) (gN 0) (fM) (aK (cG zF hw) [] (af (ae 0) (au))))) (gN 3) (jH (cj (u8 hw (bH zF.F "anchor" (ae 3)) (ae 2))) (dE (aK (cv zF hw) [] (af (ae 2) (af (bH zF.F "anchor" (ae 3)) (af (d8 [(zF.Z1,az zF hw),(zF.Z2,bu zF hw),(zF.Z3,az zF hw),(zF.Z4,az zF hw),(zF.Z5,be zF hw)] "slots" [] (ae 3) au) (au)))))) (cy)))
 (bh (aK (ef zF hw) [] (af (ae 2) (au))))))
def wK(zF:Zz)(hw:List aD->Int):ck:=bh (u6 hw (dH 1 (eM (ae 0)) (gN 0) (fM) (gR (af (ae 0) (af (eC (.bl true)) (au))))))
def pG(zF:Zz)(hw:List aD->Int):ck:=bh (eB xg (af (dH 1 (eM (d8 [(zF.Z1,az zF hw),(zF.Z2,bu zF hw),(zF.Z3,az zF hw),(zF.Z4,az zF hw),(zF.Z5,be zF hw)] "slots" [] (ae 0) au)) (gN 0) (fM) (u8 hw (ae 0) (ae 2))) (au)))
def pH(zF:Zz)(hw:List aD->Int):ck:=sSeq (bn 3 (aK (eP zF hw) [] (af (ae 1) (au))))
 (sSeq (bn 4 (dH 1 (eM (aK (c_ zF hw) [] (af (ae 0) (au)))) (gN 0) (cj (u8 hw (aW fc (ae 0) (eC (.int 0))) (ae 4))) (aK (cG zF hw) [] (af (ae 0) (au)))))
 (bh (dH 1 (eM (ae 4)) (gN 0) (sE (aK (c9 zF hw) [] (af (ae 0) (af (ae 3) (au))))) (ae 0))))
def jd(zF:Zz)(hw:List aD->Int):ck:=sSeq (bn 2 (u5 hw (af (aK (cH zF hw) [] (af (ae 0) (au))) (af (ae 0) (au)))))
 (sSeq (gL (eM (ae 1)) (gN 3) (jH (sE (eB (oz [(zF.Z1,false),(zF.Z2,true),(zF.Z3,false),(zF.Z4,false),(zF.Z5,false)] zF.Z2) (af (ae 3) (af (eC (.ref zF.Z2)) au)))) (gL (Ad (af (d8 [(zF.Z1,az zF hw),(zF.Z2,bu zF hw),(zF.Z3,az zF hw),(zF.Z4,az zF hw),(zF.Z5,be zF hw)] "slots" [] (ae 3) au) (af (bH zF.F "signs" (ae 3)) (au)))) (hV 2 (cr (gN 4) (cr (gN 5) (hX)))) (eA hw (ae 2) (ae 4) (ae 5))) (cy)))
 (bh (ae 2)))
def iK(zF:Zz)(hw:List aD->Int):ck:=bh (eB ve (af (bH zF.F "names" (ae 0)) (au)))
def kB(zF:Zz)(hw:List aD->Int):ck:=sSeq (bn 1 (nF hw))
 (sSeq (gL (eM (ae 0)) (gN 2) (jH (sE (eB (oz [(zF.Z1,false),(zF.Z2,false),(zF.Z3,true),(zF.Z4,false),(zF.Z5,false)] zF.Z3) (af (ae 2) (af (eC (.ref zF.Z3)) au)))) (gL (eM (d8 [(zF.Z1,ak zF hw),(zF.Z2,ak zF hw),(zF.Z3,ak zF hw),(zF.Z4,ak zF hw),(zF.Z5,ak zF hw)] "touched" [] (ae 2) au)) (gN 3) (eA hw (ae 1) (ae 3) (eC (.bl true)))) (cy)))
 (bh (ae 1)))
def lH(zF:Zz)(hw:List aD->Int):ck:=sSeq (bn 1 (nF hw))
 (sSeq (gL (eM (ae 0)) (gN 2) (jH (sE (eB (oz [(zF.Z1,false),(zF.Z2,false),(zF.Z3,false),(zF.Z4,false),(zF.Z5,true)] zF.Z5) (af (ae 2) (af (eC (.ref zF.Z5)) au)))) (gL (Ad (af (d8 [(zF.Z1,ak zF hw),(zF.Z2,ak zF hw),(zF.Z3,ak zF hw),(zF.Z4,ak zF hw),(zF.Z5,ak zF hw)] "touched" [] (ae 2) au) (af (d8 [(zF.Z1,az zF hw),(zF.Z2,bu zF hw),(zF.Z3,az zF hw),(zF.Z4,az zF hw),(zF.Z5,be zF hw)] "slots" [] (ae 2) au) (au)))) (hV 2 (cr (gN 3) (cr (gN 4) (hX)))) (eA hw (ae 1) (ae 3) (ae 4))) (cy)))
 (bh (ae 1)))
def nj(zF:Zz)(hw:List aD->Int):ck:=sSeq (bn 1 (nF hw))
 (sSeq (gL (eM (ae 0)) (gN 2) (jH (sE (eB (oz [(zF.Z1,false),(zF.Z2,false),(zF.Z3,false),(zF.Z4,true),(zF.Z5,false)] zF.Z4) (af (ae 2) (af (eC (.ref zF.Z4)) au)))) (gL (eM (d8 [(zF.Z1,ak zF hw),(zF.Z2,ak zF hw),(zF.Z3,ak zF hw),(zF.Z4,ak zF hw),(zF.Z5,ak zF hw)] "touched" [] (ae 2) au)) (gN 3) (eA hw (ae 1) (ae 3) (bH zF.F "word" (ae 2)))) (cy)))
 (bh (ae 1)))
def wI(zF:Zz)(hw:List aD->Int):ck:=sSeq (bn 3 (aK (dC zF hw) [] (af (ae 0) (af (ae 1) (au)))))
 (sSeq (bn 4 (aK (da zF hw) [] (af (ae 1) (af (ae 2) (af (aK (eP zF hw) [] (af (ae 3) (au))) (au))))))
 (sSeq (bn 5 (aK (bM zF hw) [] (af (ae 0) (af (ae 4) (au)))))
 (sSeq (bn 6 (aK (cb zF hw) [] (af (ae 4) (au))))
 (sSeq (bn 7 (aK (cA zF hw) [] (af (ae 4) (au))))
 (sSeq (bn 8 (aK (cL zF hw) [] (af (ae 4) (au))))
 (sSeq (bn 9 (nF hw))
 (sSeq (zo (ae 5) (gN 10) (jH (cj (f9 hw (ae 10) (ae 6))) (eA hw (ae 9) (i5 hw (ae 7) (ae 10) (ae 10)) (ae 10)) (cy)))
 (sSeq (bn 11 (dH 1 (eM (ae 3)) (gN 0) (cj (u8 hw (ae 0) (ae 10))) (gR (af (ae 0) (af (sT hw (ae 10) (ae 0)) (au))))))
 (bh (dH 2 (eM (ae 11)) (hV 2 (cr (gN 0) (cr (gN 1) (hX)))) (fM) (gR (af (ae 0) (af (ae 1) (af (sT hw (ae 7) (ae 1)) (af (i5 hw (ae 10) (ae 1) (eC (.str ""))) (au))))))))))))))))
def jj(zF:Zz)(hw:List aD->Int):ck:=bh (ow 1 (ic zF.C_Paper ax 1 (ae 0)) (gN 0) (cj (eU zK (sT hw (ic zF.C_Paper ax 2 (ae 1)) (aW fc (ae 0) (eC (.int 0)))) (eC k_WIPED))) (aW fc (ae 0) (eC (.int 0))))
def lK(zF:Zz)(hw:List aD->Int):ck:=bh (aK (eN zF hw) [] (af (ic zF.C_Paper ax 0 (ae 0)) (af (ic zF.C_Paper ax 1 (ae 0)) (af (cR zF.C_Paper ax (bw zF hw) [] (ae 0) au) (au)))))
def uf(zF:Zz)(hw:List aD->Int):ck:=bh (gR (af (bH zF.F "name" (ae 0)) (af (bH zF.F "time" (ae 0)) (af (gR (af (eC (.str "put")) (af (bH zF.F "anchor" (ae 0)) (af (bH zF.F "signs" (ae 0)) (au))))) (au)))))
def nt(zF:Zz)(hw:List aD->Int):ck:=bh (gR (af (bH zF.F "name" (ae 0)) (af (bH zF.F "time" (ae 0)) (af (gR (af (eC (.str "strike")) (af (bH zF.F "names" (ae 0)) (au)))) (au)))))
def pM(zF:Zz)(hw:List aD->Int):ck:=bh (gR (af (bH zF.F "name" (ae 0)) (af (bH zF.F "time" (ae 0)) (af (gR (af (eC (.str "dress")) (af (bH zF.F "names" (ae 0)) (af (bH zF.F "word" (ae 0)) (au))))) (au)))))
def r6(zF:Zz)(hw:List aD->Int):ck:=bh (gR (af (bH zF.F "name" (ae 0)) (af (bH zF.F "time" (ae 0)) (af (gR (af (eC (.str "move")) (af (bH zF.F "names" (ae 0)) (af (bH zF.F "anchor" (ae 0)) (au))))) (au)))))
def nz(zF:Zz)(hw:List aD->Int):ck:=sSeq (dE (fG (ic zF.C_Paper ax 1 (ae 0)) (af (d8 [(zF.Z2,dj zF hw),(zF.Z3,bW zF hw),(zF.Z4,cx zF hw),(zF.Z5,cQ zF hw)] "row" [] (ae 1) au) (au))))
 (sSeq (eA hw (ic zF.C_Paper ax 2 (ae 0)) (bH zF.F "name" (ae 1)) (eC k_WAITS))
 (sSeq (eA hw (ic zF.C_Paper ax 3 (ae 0)) (aW fc (bH zF.F "name" (ae 1)) (eC (.int 0))) (aW fc (bH zF.F "name" (ae 1)) (eC (.int 1))))
 (sSeq (wG zF.C_Paper ax 4 (ae 0) (bH zF.F "time" (ae 1)))
 (bh (bH zF.F "name" (ae 1))))))
def gn(zF:Zz)(hw:List aD->Int):ck:=bh (gR (af (ae 1) (af (aW dW (i5 hw (ic zF.C_Paper ax 3 (ae 0)) (ae 1) (eC (.int 0))) (eC (.int 1))) (au))))
def gl(zF:Zz)(hw:List aD->Int):ck:=bh (aW dW (ic zF.C_Paper ax 4 (ae 0)) (eC (.int 1)))
def pL(zF:Zz)(hw:List aD->Int):ck:=sSeq (bn 4 (cR zF.C_Paper ax (bZ zF hw) [] (ae 0) au))
 (sSeq (dE (aK (db zF hw) [] (af (ae 2) (af (eB iC (af (ae 4) (au))) (au)))))
 (bh (cR zF.C_Paper ax (cw zF hw) [] (ae 0) (af (kJ zF.Z2 (bI zF hw) [] (af (cR zF.C_Paper ax (aP zF hw) [] (ae 0) (af (ae 1) (au))) (af (cR zF.C_Paper ax (aO zF hw) [] (ae 0) au) (af (aK (de zF hw) [] (af (ae 4) (af (ae 2) (au)))) (af (ae 3) (au)))))) (au)))))
def jg(zF:Zz)(hw:List aD->Int):ck:=sSeq (jH (rK (cj (me Jn Jm (eC (.int 0)) (ae 0) (ae 2)))) (jG) (cy))
 (jH (rK (cj (me Jm Jn (ae 0) (ae 1) (ae 2)))) (jG) (cy))
def jf(zF:Zz)(hw:List aD->Int):ck:=bh (eB rB (af (dH 1 (eM (DS Ca (ae 0) (hJ (ae 1)) (hJ (ae 2)))) (gN 0) (fM) (aW fc (ae 0) (eC (.int 1)))) (au)))
def kH(zF:Zz)(hw:List aD->Int):ck:=sSeq (bn 4 (cR zF.C_Paper ax (bZ zF hw) [] (ae 0) au))
 (sSeq (dE (aK (bP zF hw) [] (af (ae 2) (af (ae 3) (af (eB iC (af (ae 4) (au))) (au))))))
 (bh (cR zF.C_Paper ax (cw zF hw) [] (ae 0) (af (kJ zF.Z3 (aZ zF hw) [] (af (cR zF.C_Paper ax (aP zF hw) [] (ae 0) (af (ae 1) (au))) (af (cR zF.C_Paper ax (aO zF hw) [] (ae 0) au) (af (aK (bO zF hw) [] (af (ae 4) (af (ae 2) (af (ae 3) (au))))) (au))))) (au)))))
def iM(zF:Zz)(hw:List aD->Int):ck:=sSeq (o_ zF.C_Paper [] "old" (ae 0) (ae 1))
 (sSeq (o_ zF.C_Paper ["old"] "drawn" (ae 0) (u4 (m3 (au))))
 (sSeq (o_ zF.C_Paper ["old","drawn"] "states" (ae 0) (nF hw))
 (sSeq (o_ zF.C_Paper AM0 "greatest" (ae 0) (Am))
 (o_ zF.C_Paper ["old","drawn","states","greatest"] "time" (ae 0) (eC (.int 0))))))
def ue(zF:Zz)(hw:List aD->Int):ck:=sSeq (bn 3 (kJ zF.C_Paper (bC zF hw) [] (af (ae 0) (au))))
 (sSeq (bn 4 (eC (.int 0)))
 (sSeq (bn 5 (eC (.int 0)))
 (sSeq (gL (eM (aW dW (aK (cM zF hw) [] (af (ae 0) (af (ae 1) (au)))) (m3 (af (gR (af (eB iC (af (ae 0) (au))) (af (eB iC (af (ae 1) (au))) (au)))) (au))))) (hV 2 (cr (gN 6) (cr (gN 7) (hX)))) (sSeq (bn 8 (aW n8 (aW dW (ae 5) (ae 6)) (ae 4)))
 (sSeq (jH (cj (aW Cu (ae 7) (ae 5))) (dE (cR zF.C_Paper ax (cJ zF hw) [] (ae 3) (af (ae 2) (af (ae 8) (af (DS Ca (ae 1) (hJ (ae 5)) (hJ (ae 7))) (au)))))) (cy))
 (sSeq (jH (cj (aW Cu (ae 8) (ae 5))) (dE (cR zF.C_Paper ax (ce zF hw) [] (ae 3) (af (ae 2) (af (ae 5) (af (ae 8) (au)))))) (cy))
 (sSeq (bn 4 (aW dW (ae 6) (eC (.int 1))))
 (bn 5 (aW dW (ae 7) (eC (.int 1)))))))))
 (bh (ae 3)))))
def jh(zF:Zz)(hw:List aD->Int):ck:=sSeq (bn 1 (eC (.int 0)))
 (sSeq (gL (eM (ae 0)) (hV 3 (cr (gN 2) (cr (gN 3) (cr (gN 4) (hX))))) (jH (cj (eU vV (aW fc (ae 4) (eC (.int 0))) (eC (.str "put")))) (bn 1 (aW dW (ae 1) (eB iC (af (aW fc (ae 4) (eC (.int 2))) (au))))) (jH (cj (eU vV (aW fc (ae 4) (eC (.int 0))) (eC (.str "strike")))) (bn 1 (aW dW (ae 1) (eB iC (af (aW fc (ae 4) (eC (.int 1))) (au))))) (bh (yG (eC (.int 1)))))))
 (bh (ae 1)))
def iL(zF:Zz)(hw:List aD->Int):ck:=bh (ic zF.C_Paper ax 0 (ae 0))
def jk(zF:Zz)(hw:List aD->Int):ck:=bh (eB ve (af (ic zF.C_Paper ax 1 (ae 0)) (au)))
def gu(zF:Zz)(hw:List aD->Int):ck:=jH (cj (f9 hw (ae 1) (ic zF.C_Paper ax 2 (ae 0)))) (jG) (cy)
def lJ(zF:Zz)(hw:List aD->Int):ck:=sSeq (dE (cR zF.C_Paper ax (aV zF hw) [] (ae 0) (af (ae 1) (au))))
 (bh (sT hw (ic zF.C_Paper ax 2 (ae 0)) (ae 1)))
def uc(zF:Zz)(hw:List aD->Int):ck:=bh (dH 1 (eM (aK (eN zF hw) [] (af (ae 0) (af (ae 1) (af (ae 2) (au)))))) (gN 0) (fM) (DS Ca (ae 0) (hJ (eC (.int 1))) (Dr)))
def nw(zF:Zz)(hw:List aD->Int):ck:=bh (aK (ee zF hw) [] (af (ic zF.C_Paper ax 0 (ae 0)) (af (ic zF.C_Paper ax 1 (ae 0)) (af (cR zF.C_Paper ax (bw zF hw) [] (ae 0) au) (au)))))
def g_(zF:Zz)(hw:List aD->Int):ck:=bh (ow 1 (ic zF.C_Paper ax 1 (ae 0)) (gN 0) (cj (eU vV (sT hw (ic zF.C_Paper ax 2 (ae 1)) (aW fc (ae 0) (eC (.int 0)))) (ae 2))) (ae 0))
def ji(zF:Zz)(hw:List aD->Int):ck:=bh (dH 1 (eM (cR zF.C_Paper ax (bf zF hw) [] (ae 0) (af (eC k_WAITS) (au)))) (gN 0) (fM) (aW fc (ae 0) (eC (.int 0))))
def gq(zF:Zz)(hw:List aD->Int):ck:=jH (cj (eU zK (cR zF.C_Paper ax (bX zF hw) [] (ae 0) (af (ae 1) (au))) (eC k_WAITS))) (jG) (cy)
def nv(zF:Zz)(hw:List aD->Int):ck:=sSeq (dE (cR zF.C_Paper ax (aU zF hw) [] (ae 0) (af (ae 1) (au))))
 (eA hw (ic zF.C_Paper ax 2 (ae 0)) (ae 1) (eC k_WIPED))
def E1(zF:Zz)(hw:List aD->Int):ck:=sSeq (bn 1 (aK (cI zF hw) [] (af (aK (bp zF hw) [] (af (ae 0) (af (eC (.int 0)) (au)))) (au))))
 (sSeq (bn 2 (aK (cN zF hw) [] (af (ae 1) (af (aK (bp zF hw) [] (af (ae 0) (af (eC (.int 1)) (au)))) (au)))))
 (sSeq (bn 3 (aK (dD zF hw) [] (af (aK (aT zF hw) [] (af (aK (bp zF hw) [] (af (ae 0) (af (eC (.int 2)) (au)))) (af (eC (.int 90)) (au)))) (au))))
 (sSeq (bn 4 (aK (dh zF hw) [] (af (ae 1) (af (ae 2) (af (ae 3) (au))))))
 (sSeq (jH (vB (rK (sE (eB (oz [(zF.C_Paper,true)] zF.C_Paper) (af (ae 4) (af (eC (.ref zF.C_Paper)) au))))) (cj (eU zK (cR zF.C_Paper ax (bB zF hw) [] (ae 4) au) (ae 1)))) (bh (eC (.bl false))) (cy))
 (sSeq (bn 5 (cR zF.C_Paper ax (bd zF hw) [] (ae 4) au))
 (sSeq (jH (cj (eU zK (dH 1 (eM (ae 5)) (gN 0) (vB (cj (eU zK (aW fc (aW fc (ae 0) (eC (.int 0))) (eC (.int 0))) (ae 4))) (cj (eU zK (cR zF.C_Paper ax (bX zF hw) [] (ae 5) (af (aW fc (ae 0) (eC (.int 0))) (au))) (eC (.str "waits"))))) (ae 0)) (m3 (au)))) (bh (eC (.bl false))) (cy))
 (sSeq (jH (cj (eU zK (dH 3 (eM (cR zF.C_Paper ax (cP zF hw) [] (ae 4) au)) (hV 3 (cr (gN 0) (cr (gN 1) (cr (gN 2) (hX))))) (fM) (gR (af (ae 1) (af (ae 2) (au))))) (dH 1 (eM (ae 2)) (gN 0) (fM) (gR (af (ae 0) (af (eC (.str "")) (au))))))) (bh (eC (.bl false))) (cy))
 (sSeq (jH (cj (eU zK (aK (bQ zF hw) [] (af (ae 5) (au))) (aW fc (aW fc (aK (eO zF hw) [] (af (ae 1) (af (ae 2) (au)))) (eB iC (af (ae 1) (au)))) (eB iC (af (ae 2) (au)))))) (bh (eC (.bl false))) (cy))
 (sSeq (bn 6 (aK (dh zF hw) [] (af (ae 1) (af (ae 2) (af (ae 3) (au))))))
 (sSeq (dE (cR zF.C_Paper ax (cJ zF hw) [] (ae 6) (af (ae 3) (af (eC (.int 0)) (af (eC (.str "zz")) (au))))))
 (sSeq (gL (eM (cR zF.C_Paper ax (bv zF hw) [] (ae 6) au)) (gN 7) (dE (cR zF.C_Paper ax (cO zF hw) [] (ae 6) (af (ae 7) (au)))))
 (sSeq (jH (vB (cj (eU zK (cR zF.C_Paper ax (bd zF hw) [] (ae 4) au) (ae 5))) (cj (eU zK (cR zF.C_Paper ax (bv zF hw) [] (ae 4) au) (dH 1 (eM (ae 5)) (gN 0) (fM) (aW fc (ae 0) (eC (.int 0))))))) (bh (eC (.bl false))) (cy))
 (bh (eU vV (cR zF.C_Paper ax (bd zF hw) [] (aK (dh zF hw) [] (af (ae 1) (af (ae 1) (af (ae 3) (au))))) au) (m3 (au))))))))))))))))
def wl:String:="cy dE bh EK Ba EL jH jG bn zm e_ JU wG o_ ae eC aW eU me KU Na Gc Mj yG cj m7 vB rK sE fM Ey gR m3 au af dW oI GQ n8 gP lQ Kr xQ Jm Jn Cu M3 vV zK fc DS Dr hJ Ca eB iC ve rB D7 wf K_ La qa aK cR kJ ic sr fG dH gL eM KR Me KQ A_ d9 wg Eh gN hV cr hX val eW List.map_cons List.map_nil List.replicate List.length_cons List.length_nil List.cons_append List.nil_append List.append_nil List.getElem?_cons_zero List.getElem?_cons_succ List.getElem?_nil List.set_cons_zero List.set_cons_succ List.set_nil Nat.reduceAdd Nat.reduceSub Nat.reduceLeDiff Nat.zero_add Option.some.injEq Option.map_some decide_eq_true_eq true_and and_true and_self if_true if_false Bool.false_eq_true reduceCtorEq List.cons.injEq GO.ins.injEq GO.lst.injEq D.lst.injEq D.fl.injEq exists_eq_left' exists_eq_left exists_eq' aw dy pl bb GH GG GF GE GD GC GB GA Gz Gy Gx Gw Gv Gu Gs nF Am i5 eA jq Al DR BN Kq Br hU cF lY wb FW Bool.not_true Bool.not_false bH ik d8 u7 BM BL u0 Ks uq qd tS sT u8 f9 Lb Gr if_true if_false u6 u5 Ad fi zo xg oz Gb yH MV DR f9 i5 hU Cu u4 zn ow k_WAITS k_WIPED wf sr rl Ak Aj D7 yG tS oz k_START iA iz fW gQ jO jT jN jS jM jR jL jQ l9 l8 iV j5 qN qP qM qO jP jU iY iX iB iW lN lO aS c_ bV aL bI aZ bD bR cG az bu be cH cv ef dC eP c9 da bM ak cb cA cL eN ee db bP de bO dj bW cx cQ bw cP bZ bd bf bv aP aO cw aV bX aU cO bB bC ce cJ bN eO c8 gf cM dh aT bp cI cN dD bQ"
local macro_rules | `(tactic| walk_at "st") => do let ls <- (("sSeq " ++ wl).splitOn " ").toArray.mapM (fun s => `(Lean.Parser.Tactic.simpLemma| $(Lean.mkIdent s.toName):term)); `(tactic| simp only [$ls,*, *])
local macro_rules | `(tactic| walk_at "s1") => do let ls <- (wl.splitOn " ").toArray.mapM (fun s => `(Lean.Parser.Tactic.simpLemma| $(Lean.mkIdent s.toName):term)); `(tactic| simp only [$ls,*, *])
theorem sR{b:Bool}{p q:Prop}(h1:b=true->p)(h2:b=false->q):if b=true then p else q:=by
 cases b
 ·rw[if_neg (by decide)];exact h2 rfl
 ·rw[if_pos rfl];exact h1 rfl
theorem iteF{p q:Prop}(h:q):if (false:Bool)=true then p else q:=by rw[if_neg (by decide)];exact h
theorem iteT{p q:Prop}(h:p):if (true:Bool)=true then p else q:=by rw[if_pos rfl];exact h
theorem bF{a b:Int}(h:0 < b):0<=a % b/\a % b < b:=⟨Int.emod_nonneg _ (by walk_at "o"),Int.emod_lt_of_pos _ h⟩
theorem oK{m:Str}{i:Int}(h0:0<=i)(h:i < m.length):L3.strAt m i=some (.str (gF m i)):=by
 have hl:i.toNat < m.cps.toList.length:=by simp only[Array.length_toList];have:m.length=m.cps.size:=rfl;omega
 unfold L3.strAt iG Is;have h2:i < (m.cps.toList.length:Int):=by walk_at "o"
 rw[if_pos h0,if_pos h2];have hl':i.toNat < m.cps.size:=by simpa using hl
 simp[gF,hl']
theorem BS{α:Type}[Inhabited α]{f:α->D}{xs:List α}{i:Int}(h0:0<=i)(h:i < xs.length):iG (xs.map f) i=some (f (xs.getD i.toNat default)):=by
 rw[Az h0 (by rw[NS];exact h)]
 have hi:i.toNat < xs.length:=by walk_at "o"
 simp[hi]
theorem mI{G:Gp}{p:NR}{o:GO}(h:G p=none):fF (gset G p o) p=G:=by
 funext a
 by_cases e:a=p
 ·subst e;rw[dz,h]
 ·rw[dP e,am e]
local macro_rules | `(tactic| walk_at "conds") => `(tactic| (repeat ((with_reducible refine And.intro ?cc ?_); (case cc => first | decide | omega | rfl))))
def bK(sp:c5)(rd:ck)(ns:List Str):Prop:=∀ ds G Q,sp ds G Q->rd { nx:=fun _ G'=>Q .non G',rt:=Q } (eW ns ds) G
def bL(sp:c5)(n:Nat):Prop:=∀ ds G Q,sp ds G Q->ds.length=n
local macro_rules | `(tactic| walk_at "i") => `(tactic| first | exact Or.inl rfl | exact Or.inr rfl)
def NG(sp:MC)(rx:XQ->ck)(ns:List Str):Prop:=∀ EQ ds G Q,sp ds G Q EQ->rx EQ { nx:=fun _ G'=>Q .non G',rt:=Q } (eW ns ds) G
def NI(sp:MC)(n:Nat):Prop:=∀ ds G Q EQ,sp ds G Q EQ->ds.length=n
theorem mS(zF:Zz)(hw:HW):bK (aL zF hw) (ip zF hw) AR0:=by
 intro ds G Q h;unfold aL at h;split at h
 ·rename_i a d t;obtain⟨C,hC,hG,p,n,rfl,h⟩:=h;have hs:=ah;unfold ip;walk_at "st";walk_at "conds";exact h
 ·exact h.elim
theorem qH(zF:Zz)(hw:HW):bK (bI zF hw) (kF zF hw) Aq0:=by
 intro ds G Q h;unfold bI at h;split at h
 ·rename_i a d t b x;obtain⟨hG,p,n,s,rfl,rfl,h⟩:=h;have hs:=ah;have hc:zF.Z2∈zF.F:=by simp
  unfold kF;unfold Sl.d;walk_at "st";exact⟨zF.Z2,hc,rfl,p,n,rfl,⟨hc,by decide⟩,⟨hc,by decide⟩,h⟩
 ·exact h.elim
theorem mT(zF:Zz)(hw:HW):bK (aZ zF hw) (iq zF hw) AE0:=by
 intro ds G Q h;unfold aZ at h;split at h
 ·obtain⟨hG,p,n,rfl,h⟩:=h;have hs:=ah;have hc:zF.Z3∈zF.F:=by simp
  unfold iq;walk_at "st";exact⟨zF.Z3,hc,rfl,p,n,rfl,⟨hc,by decide⟩,h⟩
 ·exact h.elim
theorem nV(zF:Zz)(hw:HW):bK (bD zF hw) (iN zF hw) As0:=by
 intro ds G Q h;unfold bD at h;split at h
 ·obtain⟨hG,p,n,rfl,h⟩:=h;have hs:=ah;have hc:zF.Z4∈zF.F:=by simp
  unfold iN;walk_at "st";exact⟨zF.Z4,hc,rfl,p,n,rfl,⟨hc,by decide⟩,⟨hc,by decide⟩,h⟩
 ·exact h.elim
theorem pC(zF:Zz)(hw:HW):bK (bR zF hw) (jl zF hw) Ar0:=by
 intro ds G Q h;unfold bR at h;split at h
 ·obtain⟨hG,p,n,s,rfl,rfl,h⟩:=h;have hs:=ah;have hc:zF.Z5∈zF.F:=by simp
  unfold jl;unfold Sl.d;walk_at "st";exact⟨zF.Z5,hc,rfl,p,n,rfl,⟨hc,by decide⟩,⟨hc,by decide⟩,h⟩
 ·exact h.elim
theorem tW(zF:Zz)(hw:HW):bK (bV zF hw) (nk zF hw) Az0:=by
 intro ds G Q h;unfold bV at h;split at h
 ·rename_i p n m;obtain⟨⟨h1,h2⟩,h⟩:=h;have hs:=ah;unfold nk;walk_at "s1";refine⟨⟨by walk_at "o",by walk_at "o",by walk_at "o",by walk_at "o"⟩,gC (fun d=>match d with|.int k=>.tup [.str p,.int n,.int k]|d=>d) (by rw[f8];omega) (fun d hd P hP=>?_) ?_⟩
  ·obtain⟨k,hk,rfl⟩:=mem_map.mp hd;walk_at "st";exact⟨rfl,by walk_at "o",by simp,by walk_at "o",hP _ rfl⟩
  ·have e:(dL 1 (m+1 - 1).toNat).map (fun d=>match d with|D.int k=>D.tup [.str p,.int n,.int k]|d=>d)=(eJ p n m.toNat).map Sl.d:=by
    unfold dL eJ;rw[Ot,Ot,show m+1 - 1=m by walk_at "o"]
    refine O0 fun k _=>?_;simp only[Function.comp,Sl.d];rw[Int.add_comm]
   rw[e];exact h
 ·exact h.elim
theorem vL(zF:Zz)(hw:HW):bK (cH zF hw) (pE zF hw) ["old"]:=by
 intro ds G Q h;unfold cH at h;split at h
 ·rename_i x;obtain⟨h1,h⟩:=h;have hs:=ah;unfold pE;have ec:L3.cutD [D.str (NU ""),D.int 0,D.int 0] none (some 2)=[D.str (NU ""),D.int 0]:=by rw[IG (by decide)];rfl
  walk_at "st";refine⟨by decide,by walk_at "o",⟨by walk_at "o",by walk_at "o"⟩,?_⟩
  rw[Int.toNat_natCast];exact h
 ·exact h.elim
theorem qG(zF:Zz)(hw:HW):bK (az zF hw) (kE zF hw) Ad0:=by
 intro ds G Q h;unfold az at h;split at h
 ·have hs:=ah;unfold kE;walk_at "st"
  first|exact⟨by walk_at "o",h⟩|omega
 ·exact h.elim
theorem vS(zF:Zz)(hw:HW):bK (bu zF hw) (pK zF hw) Ad0:=by
 intro ds G Q h;unfold bu at h;split at h
 ·rename_i a;obtain⟨s,b,x,⟨e,hG,hl⟩,h⟩:=h;have hs:=ah;have hc:zF.Z2∈zF.F:=by simp
  unfold a_ at hG;rw[e]at hG;unfold pK;walk_at "st";refine⟨by walk_at "o",⟨by walk_at "o",by walk_at "o"⟩,?_⟩
  rw[Int.toNat_natCast];unfold made at h;rw[e]at h;exact h
 ·exact h.elim
theorem ub(zF:Zz)(hw:HW):bK (be zF hw) (nA zF hw) Ad0:=by
 intro ds G Q h;unfold be at h;split at h
 ·rename_i a;obtain⟨s,b,ns,⟨e,hG,hl⟩,h⟩:=h;have hs:=ah;have hc:zF.Z5∈zF.F:=by simp
  unfold a_ at hG;rw[e]at hG;unfold nA;walk_at "st";rw[NS];refine⟨⟨by walk_at "o",by walk_at "o"⟩,?_⟩
  rw[Int.toNat_natCast];unfold made at h;rw[e]at h;exact h
 ·exact h.elim
theorem k9{a b:String}(h:NU a≠NU b):d6 (.str (NU a)) (.str (NU b))=false:=bz fun z=>h (by injection z)
theorem vK(zF:Zz)(hw:HW):bK (cG zF hw) (pD zF hw) ["row","name","time","act"]:=by
 intro ds G Q h;unfold cG at h;split at h
 ·obtain⟨⟨pen,num,time,act⟩,rfl,h⟩:=h;have hs:=ah;unfold a_ at h;unfold pD Sk.d;cases act with
  | put a x=>
   unfold Act.d;dsimp only at h;rw[ag];walk_at "s1";rw[ag];walk_at "s1";rw[ag];walk_at "s1";rw[ag];unfold Sl.d at h;unfold Sl.d;walk_at "s1";exact fun p hp=>⟨pen,num,a,rfl,rfl,h p hp⟩
  | strike ns=>
   unfold Act.d;dsimp only at h;rw[ag];walk_at "s1";rw[ag];walk_at "s1";rw[ag];walk_at "s1";have e0:=k9 (a:="strike") (b:="put") (by decide +kernel)
   rw[ag];refine bo false (fun K hK=>?_) (iteF ?_)
   ·walk_at "st"
   ·simp only[cy];rw[ag];walk_at "s1";exact fun p hp=>⟨pen,num,rfl,h p hp⟩
  | dress ns w=>
   unfold Act.d;dsimp only at h;rw[ag];walk_at "s1";rw[ag];walk_at "s1";rw[ag];walk_at "s1";have e0:=k9 (a:="dress") (b:="put") (by decide +kernel)
   have e1:=k9 (a:="dress") (b:="strike") (by decide +kernel)
   rw[ag];refine bo false (fun K hK=>?_) (iteF ?_)
   ·walk_at "st"
   ·simp only[cy];rw[ag];refine bo false (fun K hK=>?_) (iteF ?_)
    ·walk_at "st"
    ·simp only[cy];rw[ag];walk_at "s1";exact fun p hp=>⟨pen,num,rfl,h p hp⟩
  | move ns a=>
   unfold Act.d;dsimp only at h;rw[ag];walk_at "s1";rw[ag];walk_at "s1";rw[ag];walk_at "s1";have e0:=k9 (a:="move") (b:="put") (by decide +kernel)
   have e1:=k9 (a:="move") (b:="strike") (by decide +kernel)
   have e2:=k9 (a:="move") (b:="dress") (by decide +kernel)
   rw[ag];refine bo false (fun K hK=>?_) (iteF ?_)
   ·walk_at "st"
   ·simp only[cy];rw[ag];refine bo false (fun K hK=>?_) (iteF ?_)
    ·walk_at "st"
    ·simp only[cy];rw[ag];refine bo false (fun K hK=>?_) (iteF ?_)
     ·walk_at "st"
     ·simp only[cy];unfold Sl.d at h;unfold Sl.d;walk_at "s1";exact fun p hp=>⟨pen,num,a,rfl,rfl,h p hp⟩
 ·exact h.elim
theorem nQ(zF:Zz)(hw:HW):bK (aS zF hw) (iJ zF hw) Ax0:=by
 intro ds G Q h;unfold aS at h;split at h
 ·obtain⟨r,rfl,h⟩:=h;have hs:=ah;unfold iJ Rw.d;walk_at "st"
  first|exact⟨by walk_at "o",h⟩|omega
 ·exact h.elim
def NA(hw:List aD->Int)(G:Gp)(p:NR)(ss W:List Sl)(b:Sl)(a:D)(i:Nat)(σ:ff)(G':Gp):Prop:=∃ (x4:Option D) (Wi:List Sl) (bi:Sl) (kvs:List (List aD×D)),σ=[some (.ref p),some a,some (.lst (ss.map Sl.d)),some bi.d,x4]/\G'=gset G p (.dT hw kvs)/\Eb kvs Wi/\bi∈Wi/\(∀ x∈ss.drop i,x∉Wi)/\bT Wi bi (ss.drop i)=bT W b ss/\Wi.length=W.length+i
theorem tX(zF:Zz)(hw:HW):bK (cv zF hw) (nl zF hw) AD0:=by
 intro ds G Q h;unfold cv at h;split at h
 ·rename_i p a xs;obtain⟨b,ss,W,kvs,⟨rfl,rfl,hG,hF,hb,nd,hf,hl⟩,h⟩:=h;have hs:=ah;unfold nl;rw[ag];have eb:(match b.d with|D.fl ds=>D.lst ds|d=>d)=b.d:=rfl
  simp only[bn,ae,eW,val,Od,Qy,PP,Pj,List.replicate,OC,Ov,Ob,OB,Oh,OA,Nat.reduceAdd,Nat.reduceSub,eb];refine⟨NA hw G p ss W b b.d,⟨_,W,b,kvs,rfl,?_,hF,hb,hf,rfl,rfl⟩,?_,?_⟩
  ·funext z
   by_cases e:z=p
   ·subst e;rw[aw];exact hG
   ·rw[am e]
  ·rintro i d σ G' hd ⟨x4,Wi,bi,kvs,rfl,rfl,hF,hb,hf,hI,hlen⟩
   rw[N8]at hd;cases hx:ss[i]? with
   | none=>rw[hx]at hd;cases hd
   | some x=>
    rw[hx]at hd;cases hd;obtain⟨hi,ex⟩:=List.getElem?_eq_some_iff.mp hx;have dr:ss.drop i=x::ss.drop (i+1):=by rw[<- ex];exact OS hi
    rw[dr]at hf hI;have hxW:=hf x N3;have fs:=F6 hF hb hxW;have lk:=hF.2.2.2 bi hb;have lx:=hF.2.2.1 x hxW;have nx1:=hF.2.1;have nd':(x::ss.drop (i+1)).Nodup:=by rw[<- dr];exact nd.sublist (List.drop_sublist _ _)
    rw[Pi]at nd';simp only[gN,OA,Oh];have kx:=yA x;have kb:=yA bi;have vx:val x.d=x.d:=rfl;have vb:val bi.d=bi.d:=rfl;rw[ag];show ∃ d,cF hw (gset G p (.dT hw kvs)) (.ref p) bi.d (some d)/\jq hw (.ref p) x.d (val d) (gset G p (.dT hw kvs)) _
    refine⟨nx Wi bi,?_,?_⟩
    ·show (match gset G p (.dT hw kvs) p with|some (.dT hw' kvs)=>hw'=hw/\∃ ks,lY bi.d=some ks/\some (nx Wi bi)=cV kvs ks|some (.dK kvs)=>_|some (.dF _ hw' _ kvs)=>_|_=>False)
     rw[aw];exact⟨rfl,bi.key,kb,lk.symm⟩
    ·rw[Kt];show (match gset G p (.dT hw kvs) p with|some (.dT hw' kvs)=>hw'=hw/\∃ ks,lY x.d=some ks/\kvs.length < NY/\_|some (.dK kvs)=>_|some (.lst ds)=>_|_=>False)
     rw[aw];refine⟨rfl,x.key,kx,by walk_at "o",?_⟩
     rw[dy];dsimp only;rw[ag];show (match gset G p (.dT hw (bS kvs x.key (nx Wi bi))) p with|some (.dT hw' kvs)=>hw'=hw/\∃ ks,lY bi.d=some ks/\kvs.length < NY/\_|some (.dK kvs)=>_|some (.lst ds)=>_|_=>False)
     rw[aw];refine⟨rfl,bi.key,kb,by have:=fq kvs x.key (nx Wi bi);omega,?_⟩
     rw[dy];refine⟨_,kX Wi bi x,x,_,rfl,rfl,fs,(eL hb x).mpr (.inr rfl),fun y hy hW=>?_,?_,by rw[l7 hb];omega⟩
     ·rcases (eL hb y).mp hW with z|z
      ·exact hf y (N0 _ hy) z
      ·exact nd'.1 (z ▸ hy)
     ·exact hI
  ·rintro σ G' ⟨x4,Wi,bi,kvs,rfl,rfl,hF,hb,hf,hI,hlen⟩
   rw[NS,Rg]at hI;have:Wi=bT W b ss:=hI;rw[this]at hF;exact h _ hF
 ·exact h.elim
def Np(G:Gp)(p q:NR)(R:List Sl)(m:Nat)(σ:ff)(G':Gp):Prop:=∃ i,i<=R.length/\m=R.length - i/\σ=[some (.ref p),some (.ref q),some (Ef (R.drop i))]/\G'=gset G q (.lst ((R.take i).map Sl.d))
theorem L8{W:List Sl}(hW:W.Nodup):∀ {pre post:List Sl} {c:Sl},W=pre ++ c::post->nx W c=Ef post:=by
 induction W with
 | nil=>intro pre post c h;simp at h
 | cons a t ih=>
  intro pre post c h;rw[Pi]at hW;cases pre with
  | nil=>
   simp only[Pj,List.cons.injEq]at h;obtain⟨rfl,rfl⟩:=h;simp[nx]
  | cons a' pre=>
   simp only[PP,List.cons.injEq]at h;obtain⟨rfl,h⟩:=h;have hc:c∈t:=by rw[h];simp
   simp only[nx];rw[if_neg (fun (z:a=c)=>hW.1 (by rw[z];exact hc))]
   exact ih hW.2 h
theorem zx(zF:Zz)(hw:HW):bK (ef zF hw) (ud zF hw) ["following","row","slot"]:=by
 intro ds G Q h;unfold ef at h;split at h
 ·rename_i p;obtain⟨R,kvs,⟨hG,hF,hl⟩,h⟩:=h;have hs:=ah;unfold ud;rw[ag];walk_at "s1";refine⟨by walk_at "o",fun q hq=>?_⟩
  have hpq:p≠q:=fun z=>by subst z;rw[hG]at hq;cases hq
  have gp:∀ o,gset G q o p=some (.dT hw kvs):=fun o=>by rw[am hpq];exact hG
  have look:∀ c∈ar::R,∀ o,cF hw (gset G q o) (.ref p) c.d (some (nx (ar::R) c)):=fun c hc o=>by
   show (match gset G q o p with|some (.dT hw' kvs)=>hw'=hw/\∃ ks,lY c.d=some ks/\some (nx (ar::R) c)=cV kvs ks|some (.dK kvs)=>_|some (.dF _ hw' _ kvs)=>_|_=>False)
   rw[gp];exact⟨rfl,c.key,yA c,(hF.2.2.2 c hc).symm⟩
  rw[ag];show ∃ d,cF hw (gset G q (.lst [])) (.ref p) ar.d (some d)/\_
  refine⟨_,look ar (by simp) _,?_⟩
  have e0:nx (ar::R) ar=Ef R:=by simp[nx]
  dsimp only;rw[ag,e0,xR];simp only[OA,Oh];refine⟨Np G p q R,⟨R.length,0,OD _,rfl,rfl,rfl⟩,?_⟩;have wc:∀ (a b:Option D) (d:D) (K:Bool->Gp->Prop) (G:Gp),cj (aW uq (ae 2) (eC .non)) [a,b,some d] G K↔K (!qd d) G:=fun a b d K G=>Iff.rfl
  rintro m σ G' ⟨i,hi,rfl,rfl,rfl⟩
  by_cases hlt:i < R.length
  ·have dr:R.drop i=R[i]::R.drop (i+1):=OS hlt;rw[dr];refine (wc _ _ (R[i]).d _ _).mpr ?_;dsimp only;rw[show (!qd (R[i]).d)=true from rfl,if_pos rfl]
   have e1:nx (ar::R) R[i]=Ef (R.drop (i+1)):=L8 hF.1 (pre:=ar::R.take i) (by rw[PP];congr 1;rw[<- dr];exact (Pl i R).symm)
   refine⟨fun σ G'=>Np G p q R (R.length - (i+1)) σ G',fun σ2 G2 hN=>⟨_,by walk_at "o",hN⟩,?_⟩
   rw[ag];have ua:∀ (E:Ends3) (Z:D),dE (fG (ae 1) (af (ae 2) au)) E [some (.ref p),some (.ref q),some (R[i]).d] (gset G q (.lst ((R.take i).map Sl.d)))↔((R.take i).map Sl.d).length < NY/\E.nx [some (.ref p),some (.ref q),some (R[i]).d] (gset G q (.lst ((R.take i).map Sl.d ++ [(R[i]).d]))):=fun E Z=>by
    unfold Sl.d;walk_at "s1"
   rw[show Ef (R[i]::R.drop (i+1))=(R[i]).d from rfl,ua _ .non]
   refine⟨by rw[NS,Ou];omega,?_⟩
   dsimp only;show ∃ d,cF hw (gset G q _) (.ref p) (R[i]).d (some d)/\_
   refine⟨_,look R[i] (by simp) _,i+1,by walk_at "o",rfl,?_,?_⟩
   ·rw[e1,xR];rfl
   ·rw[Om,NV hlt,Ol];rfl
  ·have ei:i=R.length:=by walk_at "o"
   subst ei;rw[Rg,Oo];refine (wc _ _ .non _ _).mpr ?_;dsimp only;rw[show (!qd D.non)=false from rfl,if_neg (by decide)]
   show e_ 1 _ _ _
   simp only[e_,Ov,OC,aw];rw[mI hq];exact h
 ·exact h.elim
theorem Hb(vs:List Rw):(vs.map qY).map (·.2)=vs.map Rw.d:=by rw[Ot];rfl
theorem EW{rs:List Rw}{i:Nat}{d:D}(h:(rs.map Rw.d)[i]?=some d):∃ r,rs[i]?=some r/\d=r.d:=by
 rw[N8]at h;cases e:rs[i]? with
 | none=>rw[e]at h;cases h
 | some r=>rw[e]at h;cases h;exact⟨r,rfl,rfl⟩
theorem key_at{rs:List Rw}{i:Nat}{d:D}(h:(rs.map Rw.key)[i]?=some d):∃ r,rs[i]?=some r/\d=r.key:=by
 rw[N8]at h;cases e:rs[i]? with
 | none=>rw[e]at h;cases h
 | some r=>rw[e]at h;cases h;exact⟨r,rfl,rfl⟩
theorem Hm(zF:Zz)(hw:HW)(G:Gp){vs base:List Rw}(hv:vs.Pairwise mr)(hb:base.length < 64)(sub:∀ r∈vs,r∈base):
  SortBy (aS zF hw) G (vs.map Rw.d) (vs.map Rw.key) fun i=>PySem.W.rankIn Rw.lt vs (vs.getD i default) where
 few:=by
  rw[NS];have:=gy (sy hv) sub;omega
 len:=by rw[NS,NS]
 key:=fun i d kd h1 h2=>by
  obtain⟨r,e1,rfl⟩:=EW h1;obtain⟨r',e2,rfl⟩:=key_at h2;rw[e1]at e2;cases e2;exact⟨r,rfl,rfl,rfl⟩
 ki:=fun d hd=>by
  obtain⟨r,_,rfl⟩:=mem_map.mp hd;exact⟨_,_,rfl⟩
 cp:=fun a ha b hb=>by
  obtain⟨r,_,rfl⟩:=mem_map.mp ha;obtain⟨r',_,rfl⟩:=mem_map.mp hb;exact KH r r'
 lt:=fun i j a b h1 h2=>by
  obtain⟨r,e1,rfl⟩:=key_at h1;obtain⟨r',e2,rfl⟩:=key_at h2;rw[KE,PySem.W.rank_lt EM (N9 e1),Oe,Oe,e1,e2];rfl
theorem xI(zF:Zz)(hw:HW):bK (c_ zF hw) (rZ zF hw) ["rows","by_name","row"]:=by
 intro ds G Q h;unfold c_ at h;split at h
 ·rename_i q;obtain⟨rs,base,⟨hq0,one,l1,l2,sub⟩,h⟩:=h;have hs:=ah;unfold rZ;rw[ag];walk_at "s1";intro p hp;have hqp:q≠p:=fun z=>by subst z;rw[hp]at hq0;cases hq0
  rw[ag];walk_at "s1";refine⟨rs.map Rw.d,by rw[am hqp];exact hq0,fun i σ G'=>∃ (vs:List Rw) (v:Option D),(σ=[some (.ref q),some (.ref p),v]/\G'=gset G p (.dT hw (vs.map qY)))/\vs.Pairwise mr/\∀ r,r∈vs↔r∈rs.take i,⟨[],none,⟨rfl,rfl⟩,.nil,by simp⟩,?_,?_,?_⟩
  ·rintro i σ G' ⟨vs,v,⟨_,rfl⟩,_⟩
   rw[am hqp];exact hq0
  ·rintro i d σ G' hd ⟨vs,v,⟨rfl,rfl⟩,hv,hm⟩
   obtain⟨r,hr,rfl⟩:=EW hd;have hr':=N9 hr;have tk:∀ x,x∈rs.take (i+1)↔x∈rs.take i\/x=r:=fun x=>by
    rw[Om,hr,S5];simp
   have lv:vs.length<=base.length:=gy (sy hv) fun x hx=>sub x (Pg ((hm x).mp hx));simp only[gN,OA,Oh];have fin:∀ G2,G2=gset G p (.dT hw (bS (vs.map qY) (r_ r) r.d))->∃ (vs:List Rw) (v:Option D),(([some (D.ref q),some (.ref p),some r.d]:ff)=[some (.ref q),some (.ref p),v]/\G2=gset G p (.dT hw (vs.map qY)))/\vs.Pairwise mr/\∀ x,x∈vs↔x∈rs.take (i+1):=by
    intro G2 e
    by_cases hin:r∈vs
    ·refine⟨vs,_,⟨rfl,?_⟩,hv,fun x=>?_⟩
     ·rw[e,J0 hin fun a ha pp nn=>one a (Pg ((hm a).mp ha)) r hr' pp nn]
     ·rw[tk,hm];constructor
      ·exact .inl
      ·rintro (z|rfl)
       ·exact z
       ·exact (hm _).mp hin
    ·have ap:∀ a∈vs,mr a r:=fun a ha z=>hin (by
      have:=one a (Pg ((hm a).mp ha)) r hr' z.1 z.2;subst this;exact ha)
     refine⟨vs ++ [r],_,⟨rfl,?_⟩,?_,fun x=>?_⟩
     ·rw[e,put_new ap]
     ·rw[List.pairwise_append];exact⟨hv,List.pairwise_singleton _ _,fun a ha b hb=>by rw[Rs.mp hb];exact ap a ha⟩
     ·rw[tk,S5,hm,Rs]
   refine (show eA hw (ae 1) (aW fc (ae 2) (eC (.int 0))) (ae 2) _ [some (D.ref q),some (.ref p),some r.d] _ from ?_)
   show (match (gset G p (.dT hw (vs.map qY))) p with
    | some (.dT hw' kvs)=>hw'=hw/\∃ ks,lY (.tup [.str r.pen,.int r.num])=some ks/\kvs.length < NY/\_
    | some (.dK kvs)=>_
    | some (.lst ds)=>_
    | _=>False)
   rw[aw];exact⟨rfl,r_ r,rfl,by rw[NS];omega,fin _ (by rw[dy];rfl)⟩
  ·rintro σ G' ⟨vs,v,⟨rfl,rfl⟩,hv,hm⟩
   rw[NS,Oo]at hm;show (match (gset G p (.dT hw (vs.map qY))) p with
    | some (.dT _ kvs)=>∃ ks r,SortBy (aS zF hw) (gset G p (.dT hw (vs.map qY))) (kvs.map (·.2)) ks r/\∀ p':List Nat,p'.Perm (List.range (kvs.map (·.2)).length)->(p'.map r).Pairwise (·<=·)->Q (.fl (p'.map fun i=>(kvs.map (·.2)).getD i .non)) (gset G p (.dT hw (vs.map qY)))
    | _=>False)
   rw[aw];dsimp only;rw[Hb];refine⟨vs.map Rw.key,_,Hm zF hw _ hv l2 (fun r hr=>sub r ((hm r).mp hr)),fun q hq hsq=>?_⟩;rw[NS]at hq;obtain⟨st,mem⟩:=EF hv hq hsq;have e:(q.map fun i=>(vs.map Rw.d).getD i .non)=(q.map fun i=>vs.getD i default).map Rw.d:=by
    rw[Ot];refine O0 fun i hi=>?_;have li:i < vs.length:=mem_range.mp (hq.mem_iff.mp hi);simp[li]
   rw[e];exact h _ _ (fK.refl.gset hp) st fun r=>(mem r).trans (hm r)
 ·exact h.elim
theorem Bb{sks:List Sk}:∀ {out:List Rw},(∀ r∈out,r∈sks.map Sk.rw)->∃ o:List Sk,out=o.map Sk.rw/\∀ s∈o,s∈sks
 | [],_=>⟨[],rfl,fun s hs=>by simp at hs⟩
 | r::t,h=>by
  obtain⟨o,e,ho⟩:=Bb fun x hx=>h x (N0 _ hx);obtain⟨s,hs,er⟩:=mem_map.mp (h r N3);refine⟨s::o,by rw[e,<- er];rfl,fun x hx=>?_⟩
  rcases Oz.mp hx with z|z
  ·rw[z];exact hs
  ·exact ho x z
theorem Act.d_inj{a b:Act}(h:a.d=b.d):a=b:=by
 have sl:∀ {xs ys:List Sl},xs.map Sl.d=ys.map Sl.d->xs=ys:=fun {xs ys} e=>List.map_inj_right (f:=Sl.d) (fun x y=>Sl.d_inj) |>.mp e
 have ne:∀ {x y:String},NU x≠NU y->D.str (NU x)≠D.str (NU y):=fun h z=>h (by injection z)
 cases a<;>cases b<;>simp only[Act.d,D.tup.injEq,List.cons.injEq,D.str.injEq,and_true,true_and,reduceCtorEq,and_false,false_and]at h
 ·obtain⟨h1,h2⟩:=h;rw[Sl.d_inj h1,h2]
 all_goals first
  | (exact absurd h (by decide +kernel))
  | (exact absurd h.1 (by decide +kernel))
  | skip
 ·rw[sl h]
 ·rw[sl h.1,h.2]
 ·rw[sl h.1,Sl.d_inj h.2]
theorem Sk.rw_inj{a b:Sk}(h:a.rw=b.rw):a=b:=by
 obtain⟨a1,a2,a3,a4⟩:=a;obtain⟨b1,b2,b3,b4⟩:=b;simp only[Sk.rw,Rw.mk.injEq]at h;obtain⟨rfl,rfl,rfl,h⟩:=h;rw[Act.d_inj h]
theorem uT(zF:Zz)(hw:HW){σ:ff}{G:Gp}{p:NR}{s:Sk}{i:Nat}{Q:m5}(hσ:σ[i]?=some (some (.ref p)))(hG:G p=some (a_ zF s))(h:Q s.act.anch.d G):bH zF.F "anchor" (ae i) σ G Q:=by
 obtain⟨pen,num,time,act⟩:=s;unfold bH ae;rw[hσ];cases act<;>(simp only[a_]at hG;simp only[hG];refine⟨by simp,?_⟩;first|exact h)
theorem jY(zF:Zz)(hw:HW){σ:ff}{G:Gp}{p:NR}{s:Sk}{i:Nat}{Q:m5}(hσ:σ[i]?=some (some (.ref p)))(hG:G p=some (a_ zF s))(hm:s.act.many<=1000)(h:Q (.fl ((made s).map Sl.d)) G):
  d8 [(zF.Z1,az zF hw),(zF.Z2,bu zF hw),(zF.Z3,az zF hw),(zF.Z4,az zF hw),(zF.Z5,be zF hw)] "slots" [] (ae i) au σ G Q:=by
 obtain⟨pen,num,time,act⟩:=s;unfold d8 ae;rw[hσ];cases act with
 | put a x=>
  have hG':=hG;simp only[a_]at hG;simp only[hG];exact⟨by decide +kernel,bu zF hw,by simp,⟨_,a,x,⟨rfl,hG',hm⟩,h⟩⟩
 | strike ns=>
  simp only[a_]at hG;simp only[hG];exact⟨by decide +kernel,az zF hw,by simp,h⟩
 | dress ns w=>
  simp only[a_]at hG;simp only[hG];exact⟨by decide +kernel,az zF hw,by simp,h⟩
 | move ns a=>
  have hG':=hG;simp only[a_]at hG;simp only[hG];exact⟨by decide +kernel,be zF hw,by simp,⟨_,a,ns,⟨rfl,hG',hm⟩,h⟩⟩
def GM(zF:Zz)(G:Gp)(ps:List NR)(o:List Sk):Prop:=∀ (j:Nat) p s,ps[j]?=some p->o[j]?=some s->G p=some (a_ zF s)
theorem qR(zF:Zz)(s:Sk):∃ C L ds,a_ zF s=.ins C L ds:=by
 obtain⟨pen,num,time,act⟩:=s;cases act<;>exact⟨_,_,_,rfl⟩
theorem pc(n:Nat):∀ (o:List Sk) (W:List Sl),(∀ s∈o,s.act.many<=1000)->(o.foldl cW W).length<=W.length+1000*o.length
 | [],W,_=>by simp
 | s::t,W,h=>by
  have h1:=h s N3;have ih:=pc n t (cW W s) fun x hx=>h x (N0 _ hx);have h2:(cW W s).length<=W.length+1000:=by
   unfold cW;split
   ·rename_i ha;rw[nC ha];have:(made s).length=s.act.many:=bJ _ _ _;omega
   ·omega
  simp only[QY,Ob];omega
def NB(zF:Zz)(hw:List aD->Int)(G:Gp)(f:NR)(ps:List NR)(o:List Sk)(n:Nat)(x0 x1:Option D)(i:Nat)(σ:ff)(G':Gp):Prop:=∃ (x3:Option D) (kvs:List (List aD×D)),σ=[x0,x1,some (.ref f),x3]/\fK G G'/\GM zF G' ps o/\G' f=some (.dT hw kvs)/\Eb kvs (mR n (o.take i))
theorem xH(zF:Zz)(hw:HW):bK (dC zF hw) (rY zF hw) Am0:=by
 intro ds G Q h;unfold dC at h;split at h
 ·rename_i x q;obtain⟨sks,base,⟨hq0,hx,one,l1,l2,sub,ok⟩,h⟩:=h;have hs:=ah;unfold rY;rw[ag];show ∀ f,G f=none->(match gset G f (.dT hw []) f with|some (.dT hw' [])=>hw'=hw/\∃ ks,lY ar.d=some ks/\_|_=>False)
  intro f hf;have hqf:q≠f:=fun z=>by subst z;rw[hf]at hq0;cases hq0
  rw[aw];refine⟨rfl,ar.key,rfl,?_⟩;rw[dy];dsimp only;rw[ag];simp only[OA,Oh,eW,Od,Qy,PP,Pj,List.replicate,Ob,OB,Nat.reduceAdd,Nat.reduceSub];show x.length<=1000/\(∃ (b:Sl) (ss W:List Sl) (kvs:List (List aD×D)),(ar.d=b.d/\(dB x.length).map Sl.d=ss.map Sl.d/\gset G f (.dT hw [(ar.key,.non)]) f=some (.dT hw kvs)/\Eb kvs W/\b∈W/\ss.Nodup/\(∀ x∈ss,x∉W)/\W.length+ss.length<=900000)/\∀ Tv,Eb Tv (bT W b ss)->_)
  have ol:(dB x.length).length=x.length:=bJ _ _ _;refine⟨hx,ar,dB x.length,[ar],_,⟨rfl,rfl,aw,DP (fun _=>True),by simp,b9 _ _ _,fun y hy hW=>?_,by rw[ol];simp;omega⟩,fun kvs hF=>?_⟩
  ·obtain⟨_,_,hk⟩:=eR hy;rw[Rs.mp hW]at hk;exact absurd hk (by decide)
  ·rw[dy];dsimp only;rw[ag];walk_at "s1";refine⟨sks.map Sk.rw,base.map Sk.rw,⟨by rw[am hqf,hq0,Ot];rfl,one,by rw[NS];exact l1,by rw[NS];exact l2,fun r hr=>?_⟩,fun out G1 hE st mem=>?_⟩
   ·obtain⟨s,hs',rfl⟩:=mem_map.mp hr;exact mem_map.mpr ⟨s,sub s hs',rfl⟩
   obtain⟨o,rfl,ho⟩:=Bb (sks:=sks) (out:=out) fun r hr=>(mem r).mp hr;have memo:∀ s,s∈o↔s∈sks:=fun s=>⟨ho s,fun hs'=>by
    obtain⟨s',h1,h2⟩:=mem_map.mp ((mem s.rw).mpr (mem_map.mpr ⟨s,hs',rfl⟩));rw[<- Sk.rw_inj h2];exact h1⟩
   have lo:o.length < 64:=by
    have:=gy (fu st) (ys:=base.map Sk.rw) fun r hr=>by
     obtain⟨s,hs',rfl⟩:=mem_map.mp hr;exact mem_map.mpr ⟨s,sub s (ho s hs'),rfl⟩
    rw[NS,NS]at this;omega
   have hG1:G1 f=some (.dT hw kvs):=hE f _ aw;have hE1:fK G G1:=fun a o' ha=>hE a o' (by
    have:a≠f:=fun z=>by subst z;rw[hf]at ha;cases ha
    rw[am this];exact ha)
   have dmap:(o.map Sk.rw).map Rw.d=o.map Sk.d:=by rw[Ot];rfl
   rw[dmap];refine⟨by rw[NS];omega,fun i acc G2=>∃ ps:List NR,ps.length=i/\acc=ps.map D.ref/\fK G1 G2/\GM zF G2 ps o,⟨[],rfl,rfl,fK.refl,fun j p s hj=>by simp at hj⟩,?_,?_⟩
   ·rintro i d acc G2 hd ⟨ps,rfl,rfl,hE2,hO⟩
    rw[N8]at hd;cases hsj:o[ps.length]? with
    | none=>rw[hsj]at hd;cases hd
    | some s=>
     rw[hsj]at hd;cases hd;refine⟨⟨by simp,rfl⟩,?_⟩
     show ∃ s':Sk,s.d=s'.d/\∀ p,G2 p=none->_
     refine⟨s,rfl,fun p hp=>⟨ps ++ [p],by simp,by rw[Ol];rfl,fun a o' ha=>?_,fun j q s' hj hs'=>?_⟩⟩
     ·have:a≠p:=fun z=>by subst z;rw[hE2 a o' ha]at hp;cases hp
      rw[am this];exact hE2 a o' ha
     ·rw[List.getElem?_append]at hj;split at hj
      ·have h1:=hO j q s' hj hs';have:q≠p:=fun z=>by subst z;rw[h1]at hp;cases hp
       rw[am this];exact h1
      ·rename_i hge;have hj0:j=ps.length:=by
        by_cases z:j - ps.length=0
        ·omega
        ·obtain⟨k,hk⟩:∃ k,j - ps.length=k+1:=⟨j - ps.length - 1,by walk_at "o"⟩
         rw[hk]at hj;simp at hj
       subst hj0;simp at hj;subst hj;rw[hsj]at hs';cases hs';exact aw
   ·rintro acc G2 ⟨ps,hl,rfl,hE2,hO⟩
    rw[NS]at hl;show L3.ForIn _ _ _ _ (ps.map D.ref) G2
    refine⟨NB zF hw G f ps o x.length (some (.str x)) (some (.ref q)),⟨_,kvs,rfl,hE1.trans hE2,hO,hE2 f _ hG1,hF⟩,?_,?_⟩
    ·rintro i d σ G3 hd ⟨x3,kvs3,rfl,hE3,hO3,hf3,hF3⟩
     rw[N8]at hd;cases hpj:ps[i]? with
     | none=>rw[hpj]at hd;cases hd
     | some p=>
      rw[hpj]at hd;cases hd;have hil:i < o.length:=by have:=(List.getElem?_eq_some_iff.mp hpj).1;omega
      have hsi:o[i]?=some o[i]:=NV hil;have Tu:=hO3 i p _ hpj hsi;have oks:=ok o[i] (ho _ (Qp hil));have tk:o.take (i+1)=o.take i ++ [o[i]]:=by rw[Om,hsi];rfl
      have fr:BZ (o.take i) (mR x.length (o.take i)):=by
       have:=uS x.length (o.take i) [] _ (uR x.length)
       simpa[mR]using this
      have apart:∀ r∈o.take i,¬ (r.pen=(o[i]).pen/\r.num=(o[i]).num):=fun r hr z=>by
       obtain⟨j,hj,er⟩:=List.mem_iff_getElem.mp hr;rw[Ou]at hj;rw[List.getElem_take]at er;have hji:j < i:=by walk_at "o"
       have st':∀ a b:Nat,(ha:a < (o.map Sk.rw).length)->(hb:b < (o.map Sk.rw).length)->a < b->((o.map Sk.rw)[a]).lt (o.map Sk.rw)[b]=true:=fun a b ha hb hab=>List.pairwise_iff_getElem.mp st a b ha hb hab;have:=st' j i (by rw[NS];omega) (by rw[NS];omega) hji
       rw[List.getElem_map,List.getElem_map,er]at this;have Ub:=one (o[i]).rw (mem_map.mpr ⟨_,ho _ (Qp hil),rfl⟩) r.rw (mem_map.mpr ⟨_,ho _ (er ▸ Qp (by walk_at "o")),rfl⟩) z.1.symm z.2.symm
       rw[Ub,lt_irrefl]at this;cases this
      have fresh:=Ag fr oks.1 apart;have wl:=pc x.length (o.take i) (bT [ar] ar (dB x.length)) fun s hs'=>(ok s (ho s (Pg hs'))).2;rw[c6]at wl;have wl2:(mR x.length (o.take i)).length<=100000:=by
       have e1:mR x.length (o.take i)=(o.take i).foldl cW (ar::dB x.length):=by unfold mR;rw[c6]
       rw[e1];rw[Ou,Ob,ol]at wl;omega
      generalize o[i]=s at *
      simp only[gN,OA,Oh];have nf:f≠p:=fun z=>by subst z;obtain⟨C,L,ds,e⟩:=qR zF s;rw[hf3,e]at Tu;cases Tu
      refine bo (decide (s.act.anch∈mR x.length (o.take i))) (fun K hK=>?_) (sR (fun hin=>?_) fun Ug=>?_)
      ·unfold cj u8;refine uT zF hw (p:=p) (i:=3) rfl Tu ?_;show ∃ r,cF hw G3 (.ref f) s.act.anch.d r/\_
       refine⟨cV kvs3 s.act.anch.key,?_,?_⟩
       ·show (match G3 f with|some (.dT hw' kvs)=>hw'=hw/\∃ ks,lY s.act.anch.d=some ks/\cV kvs3 s.act.anch.key=cV kvs ks|some (.dK kvs)=>_|some (.dF _ hw' _ kvs)=>_|_=>False)
        rw[hf3];exact⟨rfl,_,rfl,rfl⟩
       ·have e1:(cV kvs3 s.act.anch.key).isSome=decide (s.act.anch∈mR x.length (o.take i)):=by
         by_cases z:s.act.anch∈mR x.length (o.take i)
         ·rw[hF3.2.2.2 _ z,decide_eq_true z];rfl
         ·rw[hF3.2.2.1 _ z,decide_eq_false z];rfl
        rw[e1];exact hK
      ·have T5:=of_decide_eq_true hin;simp only[dE,aK,af,au,ae,OC,Ov];refine uT zF hw (p:=p) (i:=3) rfl Tu ?_;refine jY zF hw (p:=p) (i:=3) rfl Tu oks.2 ?_;have lm:(made s).length=s.act.many:=bJ _ _ _;have lm2:=oks.2;show ∃ (b:Sl) (ss W:List Sl) (kvs:List (List aD×D)),(s.act.anch.d=b.d/\(made s).map Sl.d=ss.map Sl.d/\G3 f=some (.dT hw kvs)/\Eb kvs W/\b∈W/\ss.Nodup/\(∀ x∈ss,x∉W)/\W.length+ss.length<=900000)/\∀ Tv,Eb Tv (bT W b ss)->_
       refine⟨s.act.anch,made s,_,kvs3,⟨rfl,rfl,hf3,hF3,T5,b9 _ _ _,fresh,by walk_at "o"⟩,fun Tv hF'=>?_⟩
       refine⟨_,Tv,rfl,fun a o' ha=>?_,fun j q s' hj hs'=>?_,aw,?_⟩
       ·have:a≠f:=fun z=>by subst z;rw[hf]at ha;cases ha
        rw[am this];exact hE3 a o' ha
       ·have h1:=hO3 j q s' hj hs';have:q≠f:=fun z=>by subst z;obtain⟨C,L,ds,e⟩:=qR zF s';rw[hf3,e]at h1;cases h1
        rw[am this];exact h1
       ·rw[tk,mz];unfold cW;rw[if_pos T5];exact hF'
      ·have T3:=of_decide_eq_false Ug;simp only[cy];refine⟨_,kvs3,rfl,hE3,hO3,hf3,?_⟩;rw[tk,mz];unfold cW;rw[if_neg T3];exact hF3
    ·rintro σ G3 ⟨x3,kvs3,rfl,hE3,hO3,hf3,hF3⟩
     rw[NS,hl,Oo]at hF3;rw[iI]at hF3;show ∃ (R:List Sl) (kvs:List (List aD×D)),(G3 f=some (.dT hw kvs)/\Eb kvs (ar::R)/\R.length<=900000)/\_
     refine⟨aE x.length o,kvs3,⟨hf3,hF3,?_⟩,h o G3 hE3 st memo⟩;have wl:=pc x.length o (bT [ar] ar (dB x.length)) fun s hs'=>(ok s (ho s hs')).2;have e1:o.foldl cW (bT [ar] ar (dB x.length))=ar::aE x.length o:=iI x.length o;rw[e1,c6,Ob,Ob,ol]at wl;omega
 ·exact h.elim
theorem mE(s:Sk):s.act.many<=s.wd:=by
 obtain⟨pen,num,time,act⟩:=s;cases act<;>first|exact le_refl _|exact OD _
theorem Be(zF:Zz)(hw:HW):bK (eP zF hw) (wK zF hw) ["keys"]:=by
 intro ds G Q h;unfold eP at h;split at h
 ·rename_i xs;have hs:=ah;unfold wK;rcases h with ⟨ss,⟨rfl,hl⟩,h⟩|⟨ns,⟨rfl,hl⟩,h⟩
  ·walk_at "s1";refine gC (fun d=>.tup [d,.bl true]) (by rw[NS];omega) (fun d hd P hP=>?_) ?_
   ·obtain⟨s,hs',rfl⟩:=mem_map.mp hd;unfold Sl.d;walk_at "st";exact⟨rfl,by walk_at "o",hP _ rfl⟩
   ·dsimp only;refine⟨aQ (fun _=>.bl true) (ss.map fun s=>(s,())),⟨?_,by unfold aQ;rw[NS,NS];exact hl⟩,fun p hp=>?_⟩
    ·unfold aQ;rw[Ot,Ot,Ot];rfl
    ·rw[u9];exact h p hp
  ·walk_at "s1";refine gC (fun d=>.tup [d,.bl true]) (by rw[NS];omega) (fun d hd P hP=>?_) ?_
   ·obtain⟨s,hs',rfl⟩:=mem_map.mp hd;unfold Nm.d;walk_at "st";exact⟨rfl,by walk_at "o",hP _ rfl⟩
   ·dsimp only;refine⟨ns.map fun n=>(n.key,.bl true),⟨?_,by rw[NS];exact hl⟩,fun p hp=>h p hp⟩
    rw[Ot,Ot];rfl
 ·exact h.elim
theorem j0(zF:Zz)(hw:HW){G:Gp}{p:NR}{α:Type}{f:α->D}{l:List (Sl×α)}(x:Sl)(hG:G p=some (.dT hw (aQ f l))):cF hw G (.ref p) x.d ((cT l x).map f):=by
 unfold cF;dsimp only;rw[hG];exact⟨rfl,x.key,rfl,(CT f x l).symm⟩
theorem vN(zF:Zz)(hw:HW):bK (c9 zF hw) (pG zF hw) AA0:=by
 intro ds G Q h;unfold c9 at h;split at h
 ·rename_i a p;obtain⟨s,row,⟨hG,hw',hp⟩,h⟩:=h;have hs:=ah;have mw:=mE s;unfold pG;unfold bh eB af au dH eM;refine jY zF hw (p:=a) (i:=0) (s:=s) rfl hG (by walk_at "o") ?_
  dsimp only[d9];have lm:(made s).length=s.act.many:=bJ _ _ _;refine gC (fun d=>match d with|.tup [.str q,.int n,.int k]=>.bl (cT row ⟨q,n,k⟩).isSome|d=>d) (by rw[NS,lm];omega) (fun d hd P hP=>?_) ?_
  ·obtain⟨x,hx,rfl⟩:=mem_map.mp hd;refine⟨⟨by simp[eW],rfl⟩,?_⟩
   show ∃ r,cF hw G (.ref p) x.d r/\P (.bl r.isSome) G
   refine⟨_,j0 zF hw x hp,hP _ ?_⟩;show D.bl ((cT row x).map _).isSome=D.bl (cT row x).isSome
   rw[Option.isSome_map]
  ·show ∃ bs:List Bool,wg G (val _)=some (bs.map D.bl)/\_;refine⟨(made s).map fun x=>(cT row x).isSome,?_,?_⟩
   ·show some _=some _;congr 1;rw[Ot,Ot];rfl
   ·rw[List.all_map];exact h
 ·exact h.elim
theorem Ia{ns:List Nm}(n:Nm):(cV (dictOf (ns.map fun n=>(n.key,D.bl true))) n.key).isSome=decide (n∈ns):=by
 unfold dictOf;have key_inj:∀ {a b:Nm},a.key=b.key->a=b:=fun {a b} h=>by
  obtain⟨a1,a2⟩:=a;obtain⟨b1,b2⟩:=b;simp only[Nm.key,List.cons.injEq,Sum.inr.injEq,Sum.inl.injEq,and_true]at h;obtain⟨rfl,rfl⟩:=h;rfl
 suffices H:∀ l:List (List aD×D),(cV ((ns.map fun n=>(n.key,D.bl true)).foldl (fun a kv=>bS a kv.1 kv.2) l) n.key).isSome=((cV l n.key).isSome || decide (n∈ns)) by
  have:=H []
  simpa[cV]using this
 induction ns with
 | nil=>intro l;simp
 | cons m r ih=>
  intro l;rw[Od,QY,ih,gc]
  by_cases e:n=m
  ·subst e;simp
  ·rw[if_neg (fun z=>e (key_inj z))];simp[e]
theorem i6.ext{zF:Zz}{G G':Gp}{ps:List NR}{o:List Sk}(h:i6 zF G ps o)(e:fK G G'):i6 zF G' ps o:=⟨h.1,fun j p s hp hs=>e _ _ (h.2 j p s hp hs)⟩
theorem i6.nil{zF:Zz}{G:Gp}:i6 zF G [] []:=⟨rfl,fun j p s hp=>by simp at hp⟩
theorem i6.add{zF:Zz}{G:Gp}{ps:List NR}{o:List Sk}{p:NR}{s:Sk}(h:i6 zF G ps o)(hp:G p=some (a_ zF s)):i6 zF G (ps ++ [p]) (o ++ [s]):=by
 obtain⟨hl,h⟩:=h;refine⟨by simp[hl],fun j q t hq ht=>?_⟩
 rw[List.getElem?_append]at hq ht;split at hq
 ·rename_i hj;rw[if_pos (by walk_at "o")]at ht
  exact h j q t hq ht
 ·rename_i hj;rw[if_neg (by walk_at "o")]at ht
  have hj0:j - ps.length=0:=by
   by_cases z:j - ps.length=0
   ·exact z
   ·obtain⟨k,hk⟩:∃ k,j - ps.length=k+1:=⟨j - ps.length - 1,by walk_at "o"⟩
    rw[hk]at hq;simp at hq
  rw[hj0]at hq;rw[show j - o.length=0 by walk_at "o"]at ht
  simp only[OC,Option.some.injEq]at hq ht;subst hq ht;exact hp
theorem Ii(row:List Sl)(x:Sl):(cT (bg [] (row.map fun s=>(s,()))) x).isSome=decide (x∈row):=by
 suffices H:∀ l:List (Sl×Unit),(cT (bg l (row.map fun s=>(s,()))) x).isSome=((cT l x).isSome || decide (x∈row)) by
  have:=H []
  simpa[cT]using this
 induction row with
 | nil=>intro l;simp[bg]
 | cons m r ih=>
  intro l;show (cT (bg (kQ l m ()) (r.map fun s=>(s,()))) x).isSome=_
  rw[ih,yQ]
  by_cases e:x=m
  ·subst e;simp
  ·rw[if_neg e];simp[e]
theorem i6.snoc{zF:Zz}{G:Gp}{ps:List NR}{o:List Sk}{p:NR}{s:Sk}(h:i6 zF G ps o)(hp:G p=none):i6 zF (gset G p (a_ zF s)) (ps ++ [p]) (o ++ [s]):=
 (h.ext (fK.refl.gset hp)).add aw
theorem vO(zF:Zz)(hw:HW):bK (da zF hw) (pH zF hw) Af0:=by
 intro ds G Q h;unfold da at h;split at h
 ·rename_i q0 ns p;obtain⟨sks,base,names,row,⟨hq0,one,l1,l2,sub,wd,rfl,l3,hG⟩,h⟩:=h;have hs:=ah;unfold pH;rw[ag];walk_at "s1";refine .inr ⟨names,⟨rfl,l3⟩,fun q hq=>?_⟩;have hpq:p≠q:=fun z=>by subst z;rw[hG]at hq;cases hq
  rw[ag];have g1:gset G q (.dT hw (dictOf (names.map fun n=>(n.key,.bl true)))) q=some (.dT hw (dictOf (names.map fun n=>(n.key,.bl true)))):=aw;have g2:fK G (gset G q (.dT hw (dictOf (names.map fun n=>(n.key,.bl true))))):=fK.refl.gset hq;generalize gset G q (.dT hw (dictOf (names.map fun n=>(n.key,.bl true))))=G1 at g1 g2;walk_at "s1";refine⟨sks.map Sk.rw,base.map Sk.rw,⟨by rw[g2 q0 _ hq0,Ot];rfl,one,by rw[NS];exact l1,by rw[NS];exact l2,fun r hr=>?_⟩,fun out G2 hE st mem=>?_⟩
  ·obtain⟨s,hs',rfl⟩:=mem_map.mp hr;exact mem_map.mpr ⟨s,sub s hs',rfl⟩
  obtain⟨o,rfl,ho⟩:=Bb (sks:=sks) (out:=out) fun r hr=>(mem r).mp hr;have memo:∀ s,s∈o↔s∈sks:=fun s=>⟨ho s,fun hs'=>by
   obtain⟨s',h1,h2⟩:=mem_map.mp ((mem s.rw).mpr (mem_map.mpr ⟨s,hs',rfl⟩));rw[<- Sk.rw_inj h2];exact h1⟩
  have lo:o.length < 64:=by
   have:=gy (fu st) (ys:=base.map Sk.rw) fun r hr=>by
    obtain⟨s,hs',rfl⟩:=mem_map.mp hr;exact mem_map.mpr ⟨s,sub s (ho s hs'),rfl⟩
   rw[NS,NS]at this;omega
  have dmap:(o.map Sk.rw).map Rw.d=o.map Sk.d:=by rw[Ot];rfl
  rw[dmap];refine⟨by rw[NS];omega,fun i acc G3=>∃ ps:List NR,acc=ps.map D.ref/\fK G2 G3/\i6 zF G3 ps ((o.take i).filter fun s=>decide (s.nm∈names)),⟨[],rfl,fK.refl,by simpa using i6.nil⟩,?_,?_⟩
  ·rintro i d acc G3 hd ⟨ps,rfl,hE3,hO⟩
   rw[N8]at hd;cases hsj:o[i]? with
   | none=>rw[hsj]at hd;cases hd
   | some s=>
    rw[hsj]at hd;cases hd;have tk:(o.take (i+1)).filter (fun s=>decide (s.nm∈names))=(o.take i).filter (fun s=>decide (s.nm∈names)) ++ (if s.nm∈names then [s]else []):=by
     rw[Om,hsj,P5]
     by_cases e:s.nm∈names
     ·rw[if_pos e];simp[e]
     ·rw[if_neg e];simp[e]
    refine⟨⟨by simp,rfl⟩,?_⟩
    show ∃ r,cF hw G3 (.ref q) s.nm.d r/\(match D.bl r.isSome with|.bl b=>_|_=>False)
    refine⟨cV (dictOf (names.map fun n=>(n.key,D.bl true))) s.nm.key,?_,?_⟩
    ·unfold cF;dsimp only;rw[hE3 q _ (hE q _ g1)];exact⟨rfl,_,rfl,rfl⟩
    ·rw[Ia];dsimp only
     by_cases e:s.nm∈names
     ·rw[decide_eq_true e,if_pos rfl];show ∃ s':Sk,s.d=s'.d/\∀ p,G3 p=none->_
      refine⟨s,rfl,fun r hr=>⟨ps ++ [r],by rw[Ol];rfl,fun a o' ha=>?_,?_⟩⟩
      ·have:a≠r:=fun z=>by subst z;rw[hE3 a o' ha]at hr;cases hr
       rw[am this];exact hE3 a o' ha
      ·rw[tk,if_pos e];exact hO.snoc hr
     ·rw[decide_eq_false e,if_neg Bool.false_ne_true];refine⟨ps,rfl,hE3,?_⟩;rw[tk,if_neg e,OO];exact hO
  ·rintro acc G3 ⟨ps,rfl,hE3,hO⟩
   rw[NS,Oo]at hO;dsimp only[val];have hE4:fK G G3:=g2.trans (hE.trans hE3);generalize hfl:o.filter (fun s=>decide (s.nm∈names))=ws at hO;have T9:∀ s∈ws,s∈o:=fun s hs'=>by rw[<- hfl]at hs';exact (mem_filter.mp hs').1
   have lw:ws.length<=o.length:=by rw[<- hfl];exact O_ _ _
   have hl:=hO.1;show (_<=NY)/\_
   refine⟨by rw[NS];omega,fun i acc G4=>∃ qs:List NR,acc=qs.map D.ref/\G4=G3/\i6 zF G3 qs ((ws.take i).filter (jK row)),⟨[],rfl,rfl,by simpa using i6.nil⟩,?_,?_⟩
   ·rintro i d acc G4 hd ⟨qs,rfl,rfl,hQ⟩
    rw[N8]at hd;cases hpi:ps[i]? with
    | none=>rw[hpi]at hd;cases hd
    | some a=>
     rw[hpi]at hd;cases hd;have hi:i < ws.length:=by have:=(List.getElem?_eq_some_iff.mp hpi).1;omega
     have hwi:ws[i]?=some ws[i]:=NV hi;have hob:=hO.2 i a _ hpi hwi;refine⟨⟨by simp,rfl⟩,?_⟩
     have tk:(ws.take (i+1)).filter (jK row)=(ws.take i).filter (jK row) ++ (if jK row ws[i]=true then [ws[i]]else []):=by
      rw[Om,hwi,P5]
      by_cases e:jK row ws[i]=true
      ·rw[if_pos e];simp[e]
      ·rw[if_neg e];simp[e]
     have hgp:G4 p=some (.dT hw (aQ (fun _=>.bl true) (bg [] (row.map fun s=>(s,()))))):=hE4 p _ hG;have pe:(made ws[i]).all (fun x=>(cT (bg [] (row.map fun s=>(s,()))) x).isSome)=jK row ws[i]:=by
      unfold jK;congr 1;funext x;exact Ii row x
     refine⟨_,_,⟨hob,wd _ (ho _ (T9 _ (Qp hi))),hgp⟩,?_⟩;rw[pe];show True/\_
     refine⟨trivial,?_⟩;dsimp only
     by_cases e:jK row ws[i]=true
     ·rw[if_pos e];exact⟨qs ++ [a],by rw[Ol];rfl,rfl,by rw[tk,if_pos e];exact hQ.add hob⟩
     ·rw[if_neg e];exact⟨qs,rfl,rfl,by rw[tk,if_neg e,OO];exact hQ⟩
   ·rintro acc G4 ⟨qs,rfl,rfl,hQ⟩
    rw[NS,hl,Oo]at hQ;refine h o qs _ hE4 st memo ?_;unfold hZ;rw[hfl];exact hQ
 ·exact h.elim
theorem xz{hw:HW}{α:Type}{f:α->D}{l:List (Sl×α)}{G:Gp}{p:NR}{x:Sl}{w:α}{K:Gp->Prop}(hG:G p=some (.dT hw (aQ f l)))(hl:l.length < NY)(h:K (gset G p (.dT hw (aQ f (kQ l x w))))):jq hw (.ref p) x.d (f w) G K:=by
 unfold jq;dsimp only;rw[hG];exact⟨rfl,x.key,rfl,by unfold aQ;rw[NS];exact hl,by rw[zI];exact h⟩
theorem tL{α:Type}{σ:List α}{a:Nat}(h:a < σ.length):σ.set a σ[a]=σ:=List.set_getElem_self h
theorem Js{hw:HW}{α:Type}{f:α->D}(hf:∀ v,val (f v)=f v){m l:List (Sl×α)}{a b d:Nat}{σ:ff}{G:Gp}{p:NR}{E:Ends3}(hab:a≠b)(had:a≠d)(hbd:b≠d)(ha:a < σ.length)(hb:b < σ.length)(hσ:σ[d]?=some (some (.ref p)))(hl:l.length+m.length < NY)
  (h:∀ u v,E.nx ((σ.set a u).set b v) (gset G p (.dT hw (aQ f (bg l m))))):ForIn (hV 2 (cr (gN a) (cr (gN b) hX))) (eA hw (ae d) (ae a) (ae b)) E σ (m.map fun q=>.tup [q.1.d,f q.2]) (gset G p (.dT hw (aQ f l))):=by
 refine⟨fun i σ' G'=>∃ u v,σ'=(σ.set a u).set b v/\G'=gset G p (.dT hw (aQ f (bg l (m.take i)))),⟨σ[a],σ[b],by rw[tL ha,tL hb],rfl⟩,?_,?_⟩
 ·rintro i dd σ' G' hd ⟨u,v,rfl,rfl⟩
  rw[N8]at hd;cases hq:m[i]? with
  | none=>rw[hq]at hd;cases hd
  | some q=>
   rw[hq]at hd;cases hd;have hi:=(List.getElem?_eq_some_iff.mp hq).1;have tk:m.take (i+1)=m.take i ++ [q]:=by rw[Om,hq];rfl
   unfold hV cr hX gN;refine⟨rfl,?_⟩;show eA hw (ae d) (ae a) (ae b) _ ((((σ.set a u).set b v).set a (some q.1.d)).set b (some (f q.2))) _
   have e0:(((σ.set a u).set b v).set a (some q.1.d)).set b (some (f q.2))=(σ.set a (some q.1.d)).set b (some (f q.2)):=by
    rw[List.set_comm _ _ (Ne.symm hab),List.set_set,List.set_set]
   rw[e0];have s1:((σ.set a (some q.1.d)).set b (some (f q.2)))[b]?=some (some (f q.2)):=by rw[List.getElem?_set_self (by rw[List.length_set];exact hb)]
   have s2:((σ.set a (some q.1.d)).set b (some (f q.2)))[a]?=some (some q.1.d):=by rw[PB (Ne.symm hab),List.getElem?_set_self ha]
   have s3:((σ.set a (some q.1.d)).set b (some (f q.2)))[d]?=some (some (.ref p)):=by rw[PB hbd,PB had];exact hσ
   unfold eA ae;rw[s1,s2,s3];dsimp only;rw[hf];have pl:=ft (m.take i) l;rw[Ou]at pl;refine xz (x:=q.1) aw (by walk_at "o") ⟨_,_,rfl,?_⟩
   rw[dy,tk,nZ]
 ·rintro σ' G' ⟨u,v,rfl,rfl⟩
  rw[NS,Oo];exact h u v
theorem Jt{hw:HW}{α:Type}{f:α->D}{w:α}(hf:val (f w)=f w){ns:List Sl}{l:List (Sl×α)}{a d:Nat}{σ:ff}{G:Gp}{p:NR}{E:Ends3}{te:bG}(had:a≠d)(ha:a < σ.length)(hσ:σ[d]?=some (some (.ref p)))(hl:l.length+ns.length < NY)
  (ht:∀ u l (K:m5),K (f w) (gset G p (.dT hw (aQ f l)))->te (σ.set a u) (gset G p (.dT hw (aQ f l))) K)
  (h:∀ u,E.nx (σ.set a u) (gset G p (.dT hw (aQ f (bg l (ns.map fun n=>(n,w))))))):ForIn (gN a) (eA hw (ae d) (ae a) te) E σ (ns.map Sl.d) (gset G p (.dT hw (aQ f l))):=by
 refine⟨fun i σ' G'=>∃ u,σ'=σ.set a u/\G'=gset G p (.dT hw (aQ f (bg l ((ns.take i).map fun n=>(n,w))))),⟨σ[a],by rw[tL ha],rfl⟩,?_,?_⟩
 ·rintro i dd σ' G' hd ⟨u,rfl,rfl⟩
  rw[N8]at hd;cases hq:ns[i]? with
  | none=>rw[hq]at hd;cases hd
  | some q=>
   rw[hq]at hd;cases hd;have hi:=(List.getElem?_eq_some_iff.mp hq).1;have tk:ns.take (i+1)=ns.take i ++ [q]:=by rw[Om,hq];rfl
   show eA hw (ae d) (ae a) te _ ((σ.set a u).set a (some q.d)) _
   rw[List.set_set];have s2:(σ.set a (some q.d))[a]?=some (some q.d):=by rw[List.getElem?_set_self ha]
   have s3:(σ.set a (some q.d))[d]?=some (some (.ref p)):=by rw[PB had];exact hσ
   unfold eA;refine ht _ _ _ ?_;unfold ae;rw[s2,s3];dsimp only;rw[hf];have pl:=ft ((ns.take i).map fun n=>(n,w)) l;rw[NS,Ou]at pl;refine xz (x:=q) aw (by walk_at "o") ⟨_,rfl,?_⟩
   rw[dy,tk,Ol,Od,Qy,nZ]
 ·rintro σ' G' ⟨u,rfl,rfl⟩
  rw[NS,Oo];exact h u
theorem oF{α β:Type}(f:α->D)(g:β->D):∀ (a:List α) (b:List β),oG (a.map f) (b.map g)=(a.zip b).map fun q=>.tup [f q.1,g q.2]
 | [],_=>rfl
 | _::_,[]=>rfl
 | x::a,y::b=>by simp only[Od,oG,PY,oF f g a b]
theorem wy(x:Str):L3.signs x=(oE x).map D.str:=by unfold L3.signs oE;rw[Ot];rfl
theorem Ce(x:Str):(oE x).length=x.length:=by simp[oE,Pe]
theorem mK{β:Type}(g:Sk->List β){o:List Sk}{i:Nat}{s:Sk}(h:o[i]?=some s):(o.take (i+1)).flatMap g=(o.take i).flatMap g ++ g s:=by
 rw[Om,h,Qj];simp
theorem uV{β:Type}(g:Sk->List β):∀ {o:List Sk},(∀ s∈o,(g s).length<=1000)->(o.flatMap g).length<=1000*o.length
 | [],_=>by simp
 | s::r,h=>by
  have h1:=h s N3;have h2:=uV g (o:=r) fun t ht=>h t (N0 _ ht);rw[List.flatMap_cons,On,Ob];omega
theorem rA{s:Sk}(h:s.wd<=1000):(dq s).length<=1000:=by
 obtain⟨pen,num,time,act⟩:=s;cases act with
 | put a x=>
  show ((made _).zip (oE x)).length<=1000
  rw[QG,Ce];have:x.length<=1000:=h;omega
 | _=>exact OD _
theorem A2{s:Sk}(h:s.wd<=1000):(dS s).length<=1000:=by
 obtain⟨pen,num,time,act⟩:=s;cases act with
 | strike ns=>show (ns.map _).length<=1000;rw[NS];exact h
 | _=>exact OD _
theorem Eo{s:Sk}(h:s.wd<=1000):(fQ s).length<=1000:=by
 obtain⟨pen,num,time,act⟩:=s;cases act with
 | dress ns w=>show (ns.map _).length<=1000;rw[NS];exact h
 | _=>exact OD _
theorem za{s:Sk}(h:s.wd<=1000):(dY s).length<=1000:=by
 obtain⟨pen,num,time,act⟩:=s;cases act with
 | move ns a=>
  show (ns.zip (made _)).length<=1000
  rw[QG];have:ns.length<=1000:=h;omega
 | _=>exact OD _
theorem jB{β:Type}{o:List Sk}(h:xj o)(g:Sk->List β)(hg:∀ s:Sk,s.wd<=1000->(g s).length<=1000)(i:Nat):((o.take i).flatMap g).length<=64000:=by
 have h1:=uV g (o:=o.take i) fun s hs=>hg s (h.2 s (Pg hs));have h2:=h.1;rw[Ou]at h1;omega
theorem lZ(zF:Zz)(hw:HW){σ:ff}{G:Gp}{a C:NR}{s:Sk}{i:Nat}{cs:List (NR×Bool)}{K:Bool->Gp->Prop}(b:Bool)(hσ:σ[i]?=some (some (.ref a)))(hG:G a=some (a_ zF s))
  (hc:match s.act with|.put _ _=>(zF.Z2,b)∈cs|.strike _=>(zF.Z3,b)∈cs|.dress _ _=>(zF.Z4,b)∈cs|.move _ _=>(zF.Z5,b)∈cs) (h:K b G):sE (eB (oz cs C) (af (ae i) (af (eC (.ref C)) au))) σ G K:=by
 obtain⟨pen,num,time,act⟩:=s;unfold sE eB af au ae eC oz;rw[hσ];cases act<;>(simp only[a_]at hG;simp only[val,hG];exact⟨trivial,b,hc,⟨trivial,h⟩⟩)
theorem jX(zF:Zz)(hw:HW){σ:ff}{G:Gp}{p:NR}{s:Sk}{ns:List Sl}{i:Nat}{Q:m5}(hσ:σ[i]?=some (some (.ref p)))(hG:G p=some (a_ zF s))(ha:s.act=.strike ns\/(∃ w,s.act=.dress ns w)\/∃ b,s.act=.move ns b)(hm:ns.length<=1000)(h:Q (.fl (ns.map Sl.d)) G):
  d8 [(zF.Z1,ak zF hw),(zF.Z2,ak zF hw),(zF.Z3,ak zF hw),(zF.Z4,ak zF hw),(zF.Z5,ak zF hw)] "touched" [] (ae i) au σ G Q:=by
 have hG':=hG;unfold d8 ae;rw[hσ];obtain⟨pen,num,time,act⟩:=s;rcases ha with e|⟨w,e⟩|⟨b,e⟩<;>(have e':act=_:=e;subst e';simp only[a_]at hG;simp only[hG])
 ·exact⟨by decide +kernel,ak zF hw,by simp,_,ns,⟨.inl rfl,hG',hm⟩,h⟩
 ·exact⟨by decide +kernel,ak zF hw,by simp,_,ns,⟨.inr (.inl ⟨w,rfl⟩),hG',hm⟩,h⟩
 ·exact⟨by decide +kernel,ak zF hw,by simp,_,ns,⟨.inr (.inr ⟨b,rfl⟩),hG',hm⟩,h⟩
theorem nR(zF:Zz)(hw:HW):bK (ak zF hw) (iK zF hw) Ad0:=by
 intro ds G Q h;unfold ak at h;split at h
 ·rename_i p;obtain⟨⟨pen,num,time,act⟩,ns,⟨ha,hG,hl⟩,h⟩:=h;have hs:=ah;unfold a_ at hG;unfold iK;rcases ha with e|⟨w,e⟩|⟨b,e⟩<;>(have e':act=_:=e;subst e';dsimp only at hG)
  ·have hc:zF.Z3∈zF.F:=by simp
   walk_at "st"
   try exact h
  ·have hc:zF.Z4∈zF.F:=by simp
   walk_at "st"
   try exact h
  ·have hc:zF.Z5∈zF.F:=by simp
   walk_at "st"
   try exact h
 ·exact h.elim
theorem yO(x:Str){o:List Sk}{i:Nat}{s:Sk}(h:o[i]?=some s):ay x (o.take (i+1))=bg (ay x (o.take i)) (dq s):=by
 unfold ay;rw[mK dq h,<- Px,cK]
theorem ze{o:List Sk}{i:Nat}{s:Sk}(h:o[i]?=some s):aY (o.take (i+1))=bg (aY (o.take i)) (dS s):=by
 unfold aY;rw[mK dS h,cK]
theorem AZ{o:List Sk}{i:Nat}{s:Sk}(h:o[i]?=some s):cm (o.take (i+1))=bg (cm (o.take i)) (dY s):=by
 unfold cm;rw[mK dY h,cK]
theorem CZ{o:List Sk}{i:Nat}{s:Sk}(h:o[i]?=some s):du (o.take (i+1))=bg (du (o.take i)) (fQ s):=by
 unfold du;rw[mK fQ h,cK]
theorem Hw{zF:Zz}{G:Gp}{ps:List NR}{o:List Sk}{i:Nat}{d:D}(h:i6 zF G ps o)(hd:(ps.map D.ref)[i]?=some d):∃ a s,d=.ref a/\o[i]?=some s/\G a=some (a_ zF s):=by
 rw[N8]at hd;cases hp:ps[i]? with
 | none=>rw[hp]at hd;cases hd
 | some a=>
  rw[hp]at hd;cases hd;have hi:i < o.length:=by have:=(List.getElem?_eq_some_iff.mp hp).1;have:=h.1;omega
  exact⟨a,o[i],rfl,NV hi,h.2 i a _ hp (NV hi)⟩
theorem DQ(zF:Zz)(hw:HW){σ:ff}{G:Gp}{p:NR}{pen:Str}{num time:Int}{a:Sl}{x:Str}{i:Nat}{Q:m5}(hσ:σ[i]?=some (some (.ref p)))(hG:G p=some (a_ zF ⟨pen,num,time,.put a x⟩))(h:Q (.str x) G):bH zF.F "signs" (ae i) σ G Q:=by
 unfold bH ae;rw[hσ];simp only[a_]at hG;simp only[hG];exact⟨by simp,h⟩
theorem F7(zF:Zz)(hw:HW){σ:ff}{G:Gp}{p:NR}{pen:Str}{num time:Int}{ns:List Sl}{w:Str}{i:Nat}{Q:m5}(hσ:σ[i]?=some (some (.ref p)))(hG:G p=some (a_ zF ⟨pen,num,time,.dress ns w⟩))(h:Q (.str w) G):bH zF.F "word" (ae i) σ G Q:=by
 unfold bH ae;rw[hσ];simp only[a_]at hG;simp only[hG];exact⟨by simp,h⟩
theorem pd(zF:Zz)(hw:HW):bK (bM zF hw) (jd zF hw) Av0:=by
 intro ds G Q h;unfold bM at h;split at h
 ·rename_i x xs;obtain⟨ps,o,⟨rfl,hO,hS,hx⟩,h⟩:=h;have hs:=ah;unfold jd;rw[ag];walk_at "s1";have ol:(dB x.length).length=x.length:=bJ _ _ _;have l0:((dB x.length).zip (oE x)).length<=1000:=by rw[QG];omega
  refine⟨_,_,aQ D.str ((dB x.length).zip (oE x)),⟨rfl,rfl,?_,by unfold aQ;rw[NS];omega⟩,fun p hp=>?_⟩
  ·rw[wy,oF];unfold aQ;rw[Ot];rfl
  rw[u9];have e0:bg [] ((dB x.length).zip (oE x))=ay x (o.take 0):=by unfold ay;simp
  rw[e0];rw[ag];have hE:fK G (gset G p (.dT hw (aQ D.str (ay x (o.take 0))))):=fK.refl.gset hp;show ForIn _ _ _ _ (ps.map D.ref) _
  refine⟨fun i σ G'=>∃ x3 x4 x5,σ=[some (.str x),some (.lst (ps.map D.ref)),some (.ref p),x3,x4,x5]/\G'=gset G p (.dT hw (aQ D.str (ay x (o.take i)))),⟨_,_,_,rfl,rfl⟩,?_,?_⟩
  ·rintro i d σ G' hd ⟨x3,x4,x5,rfl,rfl⟩
   obtain⟨a,s,rfl,hsi,hGa⟩:=Hw hO hd;have hap:a≠p:=fun z=>by subst z;rw[hp]at hGa;cases hGa
   have Tl:∀ u,gset G p u a=some (a_ zF s):=fun u=>by rw[am hap];exact hGa
   have swd:s.wd<=1000:=hS.2 s (N9 hsi);have bl:(ay x (o.take i)).length<=65000:=by
    have h1:=ft ((dB x.length).zip (oE x) ++ (o.take i).flatMap dq) [];have h2:=jB hS dq (fun s hs=>rA hs) i;rw[On,OB]at h1;unfold ay;omega
   have bt:=yO x hsi;simp only[gN,OA,Oh];obtain⟨pen,num,time,act⟩:=s;cases act with
   | put an w=>
    refine bo true (fun K hK=>lZ zF hw (s:=⟨pen,num,time,.put an w⟩) (a:=a) (i:=3) true rfl (Tl _) (by simp) hK) ?_
    rw[if_pos rfl];unfold gL Ad af au;have mw:=mE ⟨pen,num,time,.put an w⟩;refine jY zF hw (p:=a) (i:=3) (s:=⟨pen,num,time,.put an w⟩) rfl (Tl _) (by walk_at "o") ?_
    refine DQ zF hw (p:=a) (i:=3) (a:=an) (x:=w) rfl (Tl _) ?_;refine⟨_,_,⟨rfl,rfl⟩,?_⟩;rw[wy,oF];have bl2:=rA swd;refine Js (f:=D.str) (fun _=>rfl) (m:=(made ⟨pen,num,time,.put an w⟩).zip (oE w)) (by decide) (by decide) (by decide) (by simp) (by simp) rfl (by show _+(dq ⟨pen,num,time,.put an w⟩).length < _;omega) fun u v=>⟨_,_,_,rfl,?_⟩
    rw[bt];rfl
   | _=>
    refine bo false (fun K hK=>lZ zF hw (s:=⟨pen,num,time,_⟩) (a:=a) (i:=3) false rfl (Tl _) (by simp) hK) ?_
    rw[if_neg Bool.false_ne_true];refine⟨_,_,_,rfl,?_⟩;rw[bt];rfl
  ·rintro σ G' ⟨x3,x4,x5,rfl,rfl⟩
   rw[NS,hO.1,Oo];exact h p hp
 ·exact h.elim
theorem qE(zF:Zz)(hw:HW):bK (cb zF hw) (kB zF hw) AJ0:=by
 intro ds G Q h;unfold cb at h;split at h
 ·rename_i xs;obtain⟨ps,o,⟨rfl,hO,hS⟩,h⟩:=h;have hs:=ah;unfold kB;rw[ag];walk_at "s1";intro p hp;rw[ag];show ForIn _ _ _ _ (ps.map D.ref) _
  refine⟨fun i σ G'=>∃ x2 x3,σ=[some (.lst (ps.map D.ref)),some (.ref p),x2,x3]/\G'=gset G p (.dT hw (aQ (fun _=>.bl true) (aY (o.take i)))),⟨_,_,rfl,rfl⟩,?_,?_⟩
  ·rintro i d σ G' hd ⟨x2,x3,rfl,rfl⟩
   obtain⟨a,s,rfl,hsi,hGa⟩:=Hw hO hd;have hap:a≠p:=fun z=>by subst z;rw[hp]at hGa;cases hGa
   have Tl:∀ u,gset G p u a=some (a_ zF s):=fun u=>by rw[am hap];exact hGa
   have swd:s.wd<=1000:=hS.2 s (N9 hsi);have bl:(aY (o.take i)).length<=65000:=by
    have h1:=ft ((o.take i).flatMap dS) [];have h2:=jB hS dS (fun s hs=>A2 hs) i;rw[OB]at h1;unfold aY;omega
   have bt:=ze hsi;simp only[gN,OA,Oh];obtain⟨pen,num,time,act⟩:=s;cases act with
   | strike ns=>
    refine bo true (fun K hK=>lZ zF hw (s:=⟨pen,num,time,.strike ns⟩) (a:=a) (i:=2) true rfl (Tl _) (by simp) hK) ?_
    rw[if_pos rfl];unfold gL eM;have hl:ns.length<=1000:=swd;refine jX zF hw (p:=a) (i:=2) (s:=⟨pen,num,time,.strike ns⟩) rfl (Tl _) (.inl rfl) hl ?_;dsimp only[d9];refine Jt (f:=fun (_:Unit)=>D.bl true) (w:=()) rfl (by decide) (by simp) rfl (by walk_at "o") (fun u l K hK=>hK) fun u=>⟨_,_,rfl,?_⟩
    rw[bt];rfl
   | _=>
    refine bo false (fun K hK=>lZ zF hw (s:=⟨pen,num,time,_⟩) (a:=a) (i:=2) false rfl (Tl _) (by simp) hK) ?_
    rw[if_neg Bool.false_ne_true];refine⟨_,_,rfl,?_⟩;rw[bt];rfl
  ·rintro σ G' ⟨x2,x3,rfl,rfl⟩
   rw[NS,hO.1,Oo];exact h p hp
 ·exact h.elim
theorem tV(zF:Zz)(hw:HW):bK (cL zF hw) (nj zF hw) ["strokes","worn","stroke","name"]:=by
 intro ds G Q h;unfold cL at h;split at h
 ·rename_i xs;obtain⟨ps,o,⟨rfl,hO,hS⟩,h⟩:=h;have hs:=ah;unfold nj;rw[ag];walk_at "s1";intro p hp;rw[ag];show ForIn _ _ _ _ (ps.map D.ref) _
  refine⟨fun i σ G'=>∃ x2 x3,σ=[some (.lst (ps.map D.ref)),some (.ref p),x2,x3]/\G'=gset G p (.dT hw (aQ D.str (du (o.take i)))),⟨_,_,rfl,rfl⟩,?_,?_⟩
  ·rintro i d σ G' hd ⟨x2,x3,rfl,rfl⟩
   obtain⟨a,s,rfl,hsi,hGa⟩:=Hw hO hd;have hap:a≠p:=fun z=>by subst z;rw[hp]at hGa;cases hGa
   have Tl:∀ u,gset G p u a=some (a_ zF s):=fun u=>by rw[am hap];exact hGa
   have swd:s.wd<=1000:=hS.2 s (N9 hsi);have bl:(du (o.take i)).length<=65000:=by
    have h1:=ft ((o.take i).flatMap fQ) [];have h2:=jB hS fQ (fun s hs=>Eo hs) i;rw[OB]at h1;unfold du;omega
   have bt:=CZ hsi;simp only[gN,OA,Oh];obtain⟨pen,num,time,act⟩:=s;cases act with
   | dress ns w=>
    refine bo true (fun K hK=>lZ zF hw (s:=⟨pen,num,time,.dress ns w⟩) (a:=a) (i:=2) true rfl (Tl _) (by simp) hK) ?_
    rw[if_pos rfl];unfold gL eM;have hl:ns.length<=1000:=swd;refine jX zF hw (p:=a) (i:=2) (s:=⟨pen,num,time,.dress ns w⟩) rfl (Tl _) (.inr (.inl ⟨w,rfl⟩)) hl ?_;dsimp only[d9];refine Jt (f:=D.str) (w:=w) rfl (by decide) (by simp) rfl (by walk_at "o") (fun u l K hK=>F7 zF hw (p:=a) (i:=2) (ns:=ns) (w:=w) rfl (Tl _) hK) fun u=>⟨_,_,rfl,?_⟩
    rw[bt];rfl
   | _=>
    refine bo false (fun K hK=>lZ zF hw (s:=⟨pen,num,time,_⟩) (a:=a) (i:=2) false rfl (Tl _) (by simp) hK) ?_
    rw[if_neg Bool.false_ne_true];refine⟨_,_,rfl,?_⟩;rw[bt];rfl
  ·rintro σ G' ⟨x2,x3,rfl,rfl⟩
   rw[NS,hO.1,Oo];exact h p hp
 ·exact h.elim
theorem sI(zF:Zz)(hw:HW):bK (cA zF hw) (lH zF hw) AF0:=by
 intro ds G Q h;unfold cA at h;split at h
 ·rename_i xs;obtain⟨ps,o,⟨rfl,hO,hS⟩,h⟩:=h;have hs:=ah;unfold lH;rw[ag];walk_at "s1";intro p hp;rw[ag];show ForIn _ _ _ _ (ps.map D.ref) _
  refine⟨fun i σ G'=>∃ x2 x3 x4,σ=[some (.lst (ps.map D.ref)),some (.ref p),x2,x3,x4]/\G'=gset G p (.dT hw (aQ Sl.d (cm (o.take i)))),⟨_,_,_,rfl,rfl⟩,?_,?_⟩
  ·rintro i d σ G' hd ⟨x2,x3,x4,rfl,rfl⟩
   obtain⟨a,s,rfl,hsi,hGa⟩:=Hw hO hd;have hap:a≠p:=fun z=>by subst z;rw[hp]at hGa;cases hGa
   have Tl:∀ u,gset G p u a=some (a_ zF s):=fun u=>by rw[am hap];exact hGa
   have swd:s.wd<=1000:=hS.2 s (N9 hsi);have bl:(cm (o.take i)).length<=65000:=by
    have h1:=ft ((o.take i).flatMap dY) [];have h2:=jB hS dY (fun s hs=>za hs) i;rw[OB]at h1;unfold cm;omega
   have bt:=AZ hsi;simp only[gN,OA,Oh];obtain⟨pen,num,time,act⟩:=s;cases act with
   | move ns an=>
    refine bo true (fun K hK=>lZ zF hw (s:=⟨pen,num,time,.move ns an⟩) (a:=a) (i:=2) true rfl (Tl _) (by simp) hK) ?_
    rw[if_pos rfl];unfold gL Ad af au;have hl:ns.length<=1000:=swd;have mw:=mE ⟨pen,num,time,.move ns an⟩;refine jX zF hw (p:=a) (i:=2) (s:=⟨pen,num,time,.move ns an⟩) rfl (Tl _) (.inr (.inr ⟨an,rfl⟩)) hl ?_;refine jY zF hw (p:=a) (i:=2) (s:=⟨pen,num,time,.move ns an⟩) rfl (Tl _) (by walk_at "o") ?_
    refine⟨_,_,⟨rfl,rfl⟩,?_⟩;rw[oF];have bl2:=za swd;refine Js (f:=Sl.d) (fun _=>rfl) (m:=ns.zip (made ⟨pen,num,time,.move ns an⟩)) (by decide) (by decide) (by decide) (by simp) (by simp) rfl (by show _+(dY ⟨pen,num,time,.move ns an⟩).length < _;omega) fun u v=>⟨_,_,_,rfl,?_⟩
    rw[bt];rfl
   | _=>
    refine bo false (fun K hK=>lZ zF hw (s:=⟨pen,num,time,_⟩) (a:=a) (i:=2) false rfl (Tl _) (by simp) hK) ?_
    rw[if_neg Bool.false_ne_true];refine⟨_,_,_,rfl,?_⟩;rw[bt];rfl
  ·rintro σ G' ⟨x2,x3,x4,rfl,rfl⟩
   rw[NS,hO.1,Oo];exact h p hp
 ·exact h.elim
theorem tJ{xs ys:List Sk}(h:xs.map Sk.rw=ys.map Sk.rw):xs=ys:=List.map_inj_right (f:=Sk.rw) (fun x y=>Sk.rw_inj) |>.mp h
def JT:D->Sl
 | .tup [.str q,.int n,.int k]=>⟨q,n,k⟩
 | _=>default
theorem EH(x:Sl):JT x.d=x:=rfl
theorem C9(row:List Sl)(sit:List (Sl×Sl)):((row.map Sl.d).filter fun d=>(cT sit (JT d)).isSome).map (fun d=>.tup [d,((cT sit (JT d)).getD default).d])=(row.filterMap fun s=>(cT sit s).map fun n=>(s,n)).map fun p=>D.tup [p.1.d,p.2.d]:=by
 induction row with
 | nil=>rfl
 | cons s r ih=>
  rw[Od,List.filter_cons,EH];cases e:cT sit s with
  | none=>
   rw[List.filterMap_cons_none (by rw[e];rfl)]
   simpa using ih
  | some n=>
   rw[List.filterMap_cons_some (b:=(s,n)) (by rw[e];rfl)]
   simp only[Option.isSome_some,if_true,Od,ih,EH,e,Option.getD_some]
theorem Bc(zF:Zz)(hw:HW):bK (eN zF hw) (wI zF hw) Ac0:=by
 intro ds G Q h;unfold eN at h;split at h
 ·rename_i x q0 ns;obtain⟨sks,base,names,⟨hq0,hx,one,l1,l2,sub,ok,rfl,l3⟩,h⟩:=h;have hs:=ah;have okk:∀ s∈sks,s.ok:=fun s hs'=>⟨(ok s hs').1,le_trans (mE s) (ok s hs').2⟩;unfold wI;rw[ag];walk_at "s1";refine⟨sks,base,⟨by first|rfl|exact hq0,one,l1,l2,sub,okk⟩,fun out G1 hE1 st1 TB=>?_⟩
  have lo:out.length < 64:=by
   have:=gy (fu st1) (ys:=base.map Sk.rw) fun r hr=>by
    obtain⟨s,hs',rfl⟩:=mem_map.mp hr;exact mem_map.mpr ⟨s,sub s ((TB s).mp hs'),rfl⟩
   rw[NS,NS]at this;omega
  have TY:(aE x.length out).length<=900000:=by
   have wl:=pc x.length out (bT [ar] ar (dB x.length)) fun s hs'=>(okk s ((TB s).mp hs')).2;have e1:out.foldl cW (bT [ar] ar (dB x.length))=ar::aE x.length out:=iI x.length out;have ol:(dB x.length).length=x.length:=bJ _ _ _;rw[e1,c6,Ob,Ob,ol]at wl;omega
  rw[ag];have h':=fun G' hE=>h out G' hE st1 TB;clear h;unfold jD at h';generalize aE x.length out=row at TY h' ⊢;walk_at "s1";refine .inl ⟨row,⟨rfl,TY⟩,fun pm hpm=>?_⟩;refine⟨sks,base,names,row,⟨by first|exact (fK.refl.gset hpm) q0 _ (hE1 q0 _ hq0)|rfl,one,l1,l2,sub,fun s hs'=>(ok s hs').2,rfl,l3,rfl⟩,fun TV ps G2 hE2 st2 TX hO2=>?_⟩
  have eo:TV=out:=tJ (iR st2 st1 fun r=>by
   constructor
   ·intro hr;obtain⟨s,hs',rfl⟩:=mem_map.mp hr;exact mem_map.mpr ⟨s,(TB s).mpr ((TX s).mp hs'),rfl⟩
   ·intro hr;obtain⟨s,hs',rfl⟩:=mem_map.mp hr;exact mem_map.mpr ⟨s,(TX s).mpr ((TB s).mp hs'),rfl⟩)
  subst eo;have hE3:fK G G2:=hE1.trans ((fK.refl.gset hpm).trans hE2);have sw:xj (hZ TV names row):=⟨le_trans (le_trans (O_ _ _) (O_ _ _)) (by walk_at "o"),fun s hs'=>(ok s ((TB s).mp (mem_filter.mp (mem_filter.mp hs').1).1)).2⟩
  generalize hZ TV names row=w at *
  clear hE2 hpm TB TX st1 st2 lo;rw[ag];walk_at "s1";refine⟨ps,w,⟨rfl,hO2,sw⟩,fun pb hpb=>?_⟩;have hE4:fK G (gset G2 pb (.dT hw (aQ D.str (ay x w)))):=hE3.trans (fK.refl.gset hpb);have hO4:=hO2.ext (G':=gset G2 pb (.dT hw (aQ D.str (ay x w)))) (fK.refl.gset hpb);have f1:gset G2 pb (.dT hw (aQ D.str (ay x w))) pb=some (.dT hw (aQ D.str (ay x w))):=aw;generalize gset G2 pb (.dT hw (aQ D.str (ay x w)))=G4 at *
  clear hE3 hO2 hpb;rw[ag];walk_at "s1";refine⟨ps,w,⟨rfl,hO4,sw⟩,fun pk hpk=>?_⟩;have ne1:pb≠pk:=fun z=>by subst z;rw[f1]at hpk;cases hpk
  have hE5:fK G4 (gset G4 pk (.dT hw (aQ (fun _=>.bl true) (aY w)))):=fK.refl.gset hpk;have hO5:=hO4.ext hE5;have f2:gset G4 pk (.dT hw (aQ (fun _=>.bl true) (aY w))) pk=some (.dT hw (aQ (fun _=>.bl true) (aY w))):=aw;have f1':=hE5 _ _ f1;have hE5':=hE4.trans hE5;generalize gset G4 pk (.dT hw (aQ (fun _=>.bl true) (aY w)))=G5 at *
  clear hE4 hO4 hpk hE5 f1;rw[ag];walk_at "s1";refine⟨ps,w,⟨rfl,hO5,sw⟩,fun pt hpt=>?_⟩;have ne2:pb≠pt:=fun z=>by subst z;rw[f1']at hpt;cases hpt
  have ne3:pk≠pt:=fun z=>by subst z;rw[f2]at hpt;cases hpt
  have hE6:fK G5 (gset G5 pt (.dT hw (aQ Sl.d (cm w)))):=fK.refl.gset hpt;have hO6:=hO5.ext hE6;have f3:gset G5 pt (.dT hw (aQ Sl.d (cm w))) pt=some (.dT hw (aQ Sl.d (cm w))):=aw;have f1:=hE6 _ _ f1';have f2':=hE6 _ _ f2;have hE6':=hE5'.trans hE6;generalize gset G5 pt (.dT hw (aQ Sl.d (cm w)))=G6 at *
  clear hE5' hO5 hpt hE6 f1' f2;rw[ag];walk_at "s1";refine⟨ps,w,⟨rfl,hO6,sw⟩,fun pw hpw=>?_⟩;have ne4:pb≠pw:=fun z=>by subst z;rw[f1]at hpw;cases hpw
  have hE7:fK G6 (gset G6 pw (.dT hw (aQ D.str (du w)))):=fK.refl.gset hpw;have f4:gset G6 pw (.dT hw (aQ D.str (du w))) pw=some (.dT hw (aQ D.str (du w))):=aw;have f1':=hE7 _ _ f1;have f2:=hE7 _ _ f2';have f3':=hE7 _ _ f3;have T8:=hE6'.trans hE7;generalize gset G6 pw (.dT hw (aQ D.str (du w)))=G7 at *
  clear hE6' hO6 hpw hE7 f1 f2' f3;rw[ag];walk_at "s1";intro pq hpq;have n1:pb≠pq:=fun z=>by subst z;rw[f1']at hpq;cases hpq
  have n2:pk≠pq:=fun z=>by subst z;rw[f2]at hpq;cases hpq
  have n3:pt≠pq:=fun z=>by subst z;rw[f3']at hpq;cases hpq
  have n4:pw≠pq:=fun z=>by subst z;rw[f4]at hpq;cases hpq
  rw[ag];have gb:gset G7 pq (.dT hw []) pb=some (.dT hw (aQ D.str (ay x w))):=by rw[am n1];exact f1'
  refine⟨hw,_,gb,?_⟩;clear gb;have bl:(ay x w).length<=65000:=by
   have h1:=ft ((dB x.length).zip (oE x) ++ w.flatMap dq) [];have h2:=uV dq (o:=w) fun s hs'=>rA (sw.2 s hs');have h3:=sw.1;rw[On,OB,QG,Ce]at h1;unfold ay;omega
  have keys:(aQ D.str (ay x w)).map FU=(ay x w).map fun p=>p.1.d:=by
   unfold aQ;rw[Ot];rfl
  rw[keys];refine⟨fun i σ G'=>∃ x10,σ=[some (.str x),some (.ref q0),some (.lst (names.map Nm.d)),some (.lst (row.map Sl.d)),some (.lst (ps.map D.ref)),some (.ref pb),some (.ref pk),some (.ref pt),some (.ref pw),some (.ref pq),x10,none]/\G'=gset (fF G7 pb) pq (.dT hw (aQ Sl.d (bg [] ((((ay x w).take i).filter fun p=>(cT (aY w) p.1).isNone).map fun p=>((cT (cm w) p.1).getD p.1,p.1))))),⟨_,rfl,?_⟩,?_,?_⟩
  ·funext b
   by_cases e1:b=pq
   ·rw[e1,dP n1.symm,aw,aw];rfl
   ·rw[am e1]
    by_cases e2:b=pb
    ·rw[e2,dz,dz]
    ·rw[dP e2,dP e2,am e1]
  ·rintro i d σ G' hd ⟨x10,rfl,rfl⟩
   rw[N8]at hd;cases hq:(ay x w)[i]? with
   | none=>rw[hq]at hd;cases hd
   | some q=>
    rw[hq]at hd;cases hd;have hi:=(List.getElem?_eq_some_iff.mp hq).1;simp only[gN,OA,Oh];generalize hL:(((ay x w).take i).filter fun p=>(cT (aY w) p.1).isNone).map (fun p=>((cT (cm w) p.1).getD p.1,p.1))=L;have ll:L.length<=65000:=by
     rw[<- hL,NS];have:=O_ (fun p:Sl×Str=>(cT (aY w) p.1).isNone) ((ay x w).take i);rw[Ou]at this;omega
    have pl:=ft L [];rw[OB]at pl;have tk:(((ay x w).take (i+1)).filter fun p=>(cT (aY w) p.1).isNone).map (fun p=>((cT (cm w) p.1).getD p.1,p.1))=L ++ (if (cT (aY w) q.1).isNone=true then [((cT (cm w) q.1).getD q.1,q.1)]else []):=by
     rw[Om,hq,P5,Ol,hL];congr 1
     by_cases e:(cT (aY w) q.1).isNone=true
     ·rw[if_pos e];simp[e]
     ·rw[if_neg e];simp[e]
    have gk:gset (fF G7 pb) pq (.dT hw (aQ Sl.d (bg [] L))) pk=some (.dT hw (aQ (fun _=>.bl true) (aY w))):=by rw[am n2,dP (Ne.symm ne1)];exact f2
    have gt:gset (fF G7 pb) pq (.dT hw (aQ Sl.d (bg [] L))) pt=some (.dT hw (aQ Sl.d (cm w))):=by rw[am n3,dP (Ne.symm ne2)];exact f3'
    refine bo (cT (aY w) q.1).isNone (fun K hK=>?_) ?_
    ·show ∃ r,cF hw _ (.ref pk) q.1.d r/\K (!r.isSome) _;refine⟨_,j0 zF hw q.1 gk,?_⟩;rw[Option.isSome_map];cases e:cT (aY w) q.1<;>(rw[e]at hK;exact hK)
    ·by_cases e:(cT (aY w) q.1).isNone=true
     ·rw[if_pos e];show hU _ _/\∃ r,cF hw _ (.ref pt) q.1.d r/\jq hw (.ref pq) (val (r.getD q.1.d)) q.1.d _ _
      refine⟨?_,_,j0 zF hw q.1 gt,?_⟩
      ·unfold hU;simp only[val,gt]
      ·have ek:val (((cT (cm w) q.1).map Sl.d).getD q.1.d)=((cT (cm w) q.1).getD q.1).d:=by cases cT (cm w) q.1<;>rfl
       rw[ek];refine xz (f:=Sl.d) (w:=q.1) aw (by walk_at "o") ⟨_,rfl,?_⟩
       rw[dy,tk,if_pos e,nZ]
     ·rw[if_neg e];refine⟨_,rfl,?_⟩;rw[tk,if_neg e,OO]
  ·rintro σ G' ⟨x10,rfl,rfl⟩
   rw[NS,Oo];dsimp only;have es:bg [] (((ay x w).filter fun p=>(cT (aY w) p.1).isNone).map fun p=>((cT (cm w) p.1).getD p.1,p.1))=b7 x w:=rfl;rw[es];have g9:gset (gset (fF G7 pb) pq (.dT hw (aQ Sl.d (b7 x w)))) pb (.dT hw (aQ D.str (ay x w))) pq=some (.dT hw (aQ Sl.d (b7 x w))):=by rw[am n1.symm,aw]
   have g5:gset (gset (fF G7 pb) pq (.dT hw (aQ Sl.d (b7 x w)))) pb (.dT hw (aQ D.str (ay x w))) pb=some (.dT hw (aQ D.str (ay x w))):=aw;have g8:gset (gset (fF G7 pb) pq (.dT hw (aQ Sl.d (b7 x w)))) pb (.dT hw (aQ D.str (ay x w))) pw=some (.dT hw (aQ D.str (du w))):=by rw[am ne4.symm,am n4,dP ne4.symm];exact f4
   have gE:fK G (gset (gset (fF G7 pb) pq (.dT hw (aQ Sl.d (b7 x w)))) pb (.dT hw (aQ D.str (ay x w)))):=fun a o ha=>by
    have h7:=T8 a o ha
    by_cases e1:a=pb
    ·rw[e1]at h7 ⊢;rw[g5,<- h7,f1']
    ·rw[am e1];have e2:a≠pq:=fun z=>by rw[z,hpq]at h7;cases h7
     rw[am e2,dP e1];exact h7
   generalize gset (gset (fF G7 pb) pq (.dT hw (aQ Sl.d (b7 x w)))) pb (.dT hw (aQ D.str (ay x w)))=G9 at *
   clear f1' f2 f3' f4 T8 hpq n1 n2 n3 n4 ne1 ne2 ne3 ne4 bl keys es;rw[ag];unfold bn dH eM;simp only[ae,OC,Ov,d9];refine Ar (fun d=>(cT (b7 x w) (JT d)).isSome) (fun d=>.tup [d,((cT (b7 x w) (JT d)).getD default).d]) (by rw[NS];omega) (fun d hd P R hP hR=>?_) ?_
   ·obtain⟨s,hs',rfl⟩:=mem_map.mp hd;rw[EH]at hP hR;refine⟨⟨by simp,rfl⟩,?_⟩
    show ∃ r,cF hw G9 (.ref pq) s.d r/\(if r.isSome=true then _ else R G9)
    refine⟨_,j0 zF hw s g9,?_⟩;rw[Option.isSome_map];cases e:cT (b7 x w) s with
    | none=>
     rw[e]at hR;simp only[Option.isSome_none,Bool.false_eq_true,if_false];exact hR rfl
    | some n=>
     rw[e]at hP;simp only[Option.isSome_some,if_true];have lk:=j0 zF hw s g9;rw[e]at lk;show ∃ d,cF hw G9 (.ref pq) s.d (some d)/\_
     exact⟨n.d,lk,by show 2<=NY;omega,hP rfl _ rfl⟩
   ·rw[C9];have eI:(row.filterMap fun s=>(cT (b7 x w) s).map fun n=>(s,n))=mx x w row:=rfl;rw[eI];dsimp only[val];have lI:(mx x w row).length<=900000:=le_trans (List.length_filterMap_le _ _) TY;have mem:∀ p∈mx x w row,∃ z,cT (ay x w) p.2=some z:=fun p hp=>by
     unfold mx at hp;obtain⟨s,_,e⟩:=mem_filterMap.mp hp;cases e2:cT (b7 x w) s with
     | none=>rw[e2]at e;cases e
     | some n=>
      rw[e2]at e;cases e;have m1:=iQ e2;unfold b7 at m1;rcases fT m1 with m2|m2
      ·simp at m2
      ·obtain⟨q,hq,e3⟩:=mem_map.mp m2;have hq':=(mem_filter.mp hq).1;obtain⟨z,hz⟩:=qm hq';injection e3 with e4 e5
       exact⟨z,by show cT (ay x w) n=some z;rw[<- e5];exact hz⟩
    unfold bh;simp only[OC,Ov,Oh,OA,d9];refine gC (fun d=>match d with|.tup [a,b]=>.tup [a,b,.str ((cT (ay x w) (JT b)).getD (NU "")),.str ((cT (du w) (JT b)).getD (NU ""))]|d=>d) (by rw[NS];omega) (fun d hd P hP=>?_) ?_
    ·obtain⟨p,hp,rfl⟩:=mem_map.mp hd;obtain⟨z,hz⟩:=mem p hp;refine⟨rfl,⟨by simp,rfl⟩,?_⟩
     have lk:=j0 zF hw p.2 g5;rw[hz]at lk;show ∃ d,cF hw G9 (.ref pb) p.2.d (some d)/\hU G9 _/\∃ r,cF hw G9 (.ref pw) p.2.d r/\_
     refine⟨.str z,lk,?_,_,j0 zF hw p.2 g8,by show 4<=NY;omega,hP _ ?_⟩
     ·unfold hU;simp only[val,g8]
     ·show D.tup [p.1.d,p.2.d,.str z,val (((cT (du w) p.2).map D.str).getD (.str (NU "")))]=D.tup [p.1.d,p.2.d,.str ((cT (ay x w) p.2).getD (NU "")),.str ((cT (du w) p.2).getD (NU ""))];rw[hz];cases cT (du w) p.2<;>rfl
    ·have:=h' G9 gE;rw[Ot]at this;rw[Ot];exact this
 ·exact h.elim
theorem tH(s:Sl)(n:Nat):pl (n+1) s.d:=by
 intro d hd;simp only[Oz,OF,or_false]at hd;rcases hd with rfl|rfl|rfl<;>cases n<;>trivial
theorem EG(ss:List Sl)(n:Nat):∀ d∈ss.map Sl.d,pl (n+1) d:=fun d hd=>by
 obtain⟨s,_,rfl⟩:=mem_map.mp hd;exact tH s n
theorem s_{t u:qt}{σ:ff}{G:Gp}(b1 b2:Bool)(h1:∀ K:Bool->Gp->Prop,K b1 G->t σ G K)(h2:b1=true->∀ K:Bool->Gp->Prop,K b2 G->u σ G K):∀ K:Bool->Gp->Prop,K (b1 && b2) G->m7 t u σ G K:=fun K hK=>by
 unfold m7;refine h1 _ ?_;cases b1 with
 | true=>rw[if_pos rfl];exact h2 rfl K hK
 | false=>rw[if_neg (by decide)];exact hK
theorem AX{t u:qt}{σ:ff}{G:Gp}(b1 b2:Bool)(h1:∀ K:Bool->Gp->Prop,K b1 G->t σ G K)(h2:b1=false->∀ K:Bool->Gp->Prop,K b2 G->u σ G K):∀ K:Bool->Gp->Prop,K (b1 || b2) G->vB t u σ G K:=fun K hK=>by
 unfold vB;refine h1 _ ?_;cases b1 with
 | true=>rw[if_pos rfl];exact hK
 | false=>rw[if_neg (by decide)];exact h2 rfl K hK
theorem JV{x:Str}{out:List Sk}(om:∀ s∈out,s.act.many<=1000):(aE x.length out).length<=x.length+1000*out.length:=by
 have wl:=pc x.length out (bT [ar] ar (dB x.length)) om;have e1:out.foldl cW (bT [ar] ar (dB x.length))=ar::aE x.length out:=iI x.length out;have ol:(dB x.length).length=x.length:=bJ _ _ _;rw[e1,c6,Ob,Ob,ol]at wl;omega
theorem zh{x:Str}{out:List Sk}{names:List Nm}(om:∀ s∈out,s.act.many<=1000):(jD x out names).length<=x.length+1000*out.length:=by
 unfold jD mx;rw[NS];exact le_trans (List.length_filterMap_le _ _) (JV om)
def Jc:D->D
 | .tup (_::t)=>.tup t
 | d=>d
theorem C4(seats:List Seat):(seats.map Seat.d).map Jc=seats.map Seat.d3:=by rw[Ot];rfl
theorem zw(zF:Zz)(hw:HW):bK (ee zF hw) (uc zF hw) Al0:=by
 intro ds G Q h;unfold ee at h;split at h
 ·rename_i x q0 ns;obtain⟨sks,base,names,hc,h⟩:=h;have hs:=ah;unfold uc;simp only[bh,dH,eM,aK,af,au,ae,eW,Od,Qy,PP,Pj,List.replicate,OC,Ov,Ob,OB,Nat.reduceAdd,Nat.reduceSub,val,OO];refine⟨sks,base,names,hc,fun out G1 hE st mem=>?_⟩;obtain⟨_,hx,_,_,l2,sub,ok,_,_⟩:=hc;have lo:out.length < 64:=by
   have:=gy (fu st) (ys:=base.map Sk.rw) fun r hr=>by
    obtain⟨s,hs',rfl⟩:=mem_map.mp hr;exact mem_map.mpr ⟨s,sub s ((mem s).mp hs'),rfl⟩
   rw[NS,NS]at this;omega
  have ls:=zh (x:=x) (names:=names) fun s (hs':s∈out)=>le_trans (mE s) (ok s ((mem s).mp hs')).2;refine gC Jc (by rw[NS];omega) (fun d hd P hP=>?_) ?_
  ·obtain⟨s,_,rfl⟩:=mem_map.mp hd;have ed:s.d=.tup [s.slot.d,s.name.d,.str s.sign,.str s.word]:=rfl;rw[ed]at hP ⊢;refine⟨⟨by simp[Oh,List.replicate],rfl⟩,?_⟩
   show _/\_
   refine⟨by unfold HT.sIx;simp,?_⟩
   exact hP _ rfl
  ·rw[C4];exact h out G1 hE st mem
 ·exact h.elim
theorem zA(zF:Zz)(hw:HW):bK (dj zF hw) (uf zF hw) Ad0:=by
 intro ds G Q h;unfold dj at h;split at h
 ·rename_i p;obtain⟨⟨pen,num,time,act⟩,a,x,⟨rfl,hG⟩,h⟩:=h;have hs:=ah;have hc:zF.Z2∈zF.F:=by simp
  unfold a_ Sl.d at hG;dsimp only at hG;unfold uf;walk_at "st";exact⟨by walk_at "o",by walk_at "o",h⟩
 ·exact h.elim
theorem t6(zF:Zz)(hw:HW):bK (bW zF hw) (nt zF hw) Ad0:=by
 intro ds G Q h;unfold bW at h;split at h
 ·rename_i p;obtain⟨⟨pen,num,time,act⟩,ns,⟨rfl,hG⟩,h⟩:=h;have hs:=ah;have hc:zF.Z3∈zF.F:=by simp
  unfold a_ at hG;dsimp only at hG;unfold nt;walk_at "st";exact⟨by walk_at "o",by walk_at "o",h⟩
 ·exact h.elim
theorem vU(zF:Zz)(hw:HW):bK (cx zF hw) (pM zF hw) Ad0:=by
 intro ds G Q h;unfold cx at h;split at h
 ·rename_i p;obtain⟨⟨pen,num,time,act⟩,ns,w,⟨rfl,hG⟩,h⟩:=h;have hs:=ah;have hc:zF.Z4∈zF.F:=by simp
  unfold a_ at hG;dsimp only at hG;unfold pM;walk_at "st";exact⟨by walk_at "o",by walk_at "o",h⟩
 ·exact h.elim
theorem xK(zF:Zz)(hw:HW):bK (cQ zF hw) (r6 zF hw) Ad0:=by
 intro ds G Q h;unfold cQ at h;split at h
 ·rename_i p;obtain⟨⟨pen,num,time,act⟩,ns,a,⟨rfl,hG⟩,h⟩:=h;have hs:=ah;have hc:zF.Z5∈zF.F:=by simp
  unfold a_ at hG;dsimp only at hG;have ea:a.d=.tup [.str a.pen,.int a.n,.int a.k]:=rfl;rw[ea]at hG;unfold r6;walk_at "st";exact⟨by walk_at "o",by walk_at "o",h⟩
 ·exact h.elim
theorem yD(zF:Zz)(hw:HW){σ:ff}{G:Gp}{p:NR}{i j:Nat}{vs:List D}{v:D}{Q:m5}(hσ:σ[i]?=some (some (.ref p)))(hG:G p=some (.ins zF.C_Paper ax vs))(hv:vs[j]?=some v)(h:Q v G):ic zF.C_Paper ax j (ae i) σ G Q:=by
 unfold ic ae;rw[hσ];dsimp only;rw[hG];dsimp only
 first
 | (rw[hv];exact⟨⟨rfl,rfl⟩,h⟩)
 | (refine⟨⟨rfl,rfl⟩,?_⟩;rw[hv];exact h)
 | exact⟨⟨rfl,rfl⟩,v,hv,h⟩
theorem Cf{hw0:List aD->Int}{to ti te:bG}{E:Ends3}{σ:ff}{G:Gp}{o i v:D}(hv:∀ Q:m5,Q v G->te σ G Q)(ho:∀ Q:m5,Q o G->to σ G Q)(hi:∀ Q:m5,Q i G->ti σ G Q)(h:jq hw0 (val o) (val i) (val v) G fun G4=>E.nx σ G4):eA hw0 to ti te E σ G:=hv _ (ho _ (hi _ h))
theorem qi(zF:Zz)(hw:HW){σ:ff}{G:Gp}{p:NR}{s:Sk}{i:Nat}{Q:m5}(hσ:σ[i]?=some (some (.ref p)))(hG:G p=some (a_ zF s))(h:Q (.tup [.str s.pen,.int s.num]) G):bH zF.F "name" (ae i) σ G Q:=by
 obtain⟨pen,num,time,act⟩:=s;unfold bH ae;rw[hσ];cases act<;>(simp only[a_]at hG;simp only[hG];refine⟨by simp,?_⟩;first|exact h)
theorem F8(zF:Zz)(hw:HW){σ:ff}{G:Gp}{p:NR}{s:Sk}{i:Nat}{Q:m5}(hσ:σ[i]?=some (some (.ref p)))(hG:G p=some (a_ zF s))(h:Q (.int s.time) G):bH zF.F "time" (ae i) σ G Q:=by
 obtain⟨pen,num,time,act⟩:=s;unfold bH ae;rw[hσ];cases act<;>(simp only[a_]at hG;simp only[hG];refine⟨by simp,?_⟩;first|exact h)
theorem FI(zF:Zz)(hw:HW){σ:ff}{G:Gp}{p:NR}{s:Sk}{i:Nat}{Q:m5}(hσ:σ[i]?=some (some (.ref p)))(hG:G p=some (a_ zF s))(h:Q s.d G):
  d8 [(zF.Z2,dj zF hw),(zF.Z3,bW zF hw),(zF.Z4,cx zF hw),(zF.Z5,cQ zF hw)] "row" [] (ae i) au σ G Q:=by
 obtain⟨pen,num,time,act⟩:=s;unfold d8 ae;rw[hσ];cases act with
 | put a x=>
  have hG':=hG;simp only[a_]at hG;simp only[hG];exact⟨by decide +kernel,dj zF hw,by simp,⟨_,a,x,⟨rfl,hG'⟩,h⟩⟩
 | strike ns=>
  have hG':=hG;simp only[a_]at hG;simp only[hG];exact⟨by decide +kernel,bW zF hw,by simp,⟨_,ns,⟨rfl,hG'⟩,h⟩⟩
 | dress ns w=>
  have hG':=hG;simp only[a_]at hG;simp only[hG];exact⟨by decide +kernel,cx zF hw,by simp,⟨_,ns,w,⟨rfl,hG'⟩,h⟩⟩
 | move ns a=>
  have hG':=hG;simp only[a_]at hG;simp only[hG];exact⟨by decide +kernel,cQ zF hw,by simp,⟨_,ns,a,⟨rfl,hG'⟩,h⟩⟩
theorem vP(zF:Zz)(hw:HW):bK (db zF hw) (pI zF hw) ["at","length"]:=by
 intro ds G Q h;unfold db at h;split at h
 ·obtain⟨⟨h1,h2⟩,h⟩:=h;unfold pI;walk_at "st";rw[decide_eq_true True.intro];exact True.intro
 ·exact h.elim
theorem pi(zF:Zz)(hw:HW):bK (bP zF hw) (jg zF hw) AT0:=by
 intro ds G Q h;unfold bP at h;split at h
 ·obtain⟨⟨h1,h2,h3,h4⟩,h⟩:=h;unfold jg;walk_at "st";rw[decide_eq_true True.intro];exact True.intro
 ·exact h.elim
theorem pA(zF:Zz)(hw:HW):bK (bw zF hw) (jj zF hw) Ad0:=by
 intro ds G Q h;unfold bw at h;split at h
 ·rename_i p;obtain⟨P,d,s,g,⟨⟨g1,g2,g3,g4⟩,ok⟩,h⟩:=h;have hs:=ah;have l1:=ok.ls;unfold jj;walk_at "st";refine⟨by rw[NS];omega,fun i acc G'=>acc=(((P.sks.take i).filter fun s=>!fP P s.nm).map Sk.nm).map Nm.d/\G'=G,⟨rfl,rfl⟩,fun i acc G' hp=>by rw[hp.2];exact g2,?_,?_⟩
  ·rintro i dd acc G' hd ⟨rfl,rfl⟩
   rw[N8]at hd;cases hq:P.sks[i]? with
   | none=>rw[hq]at hd;cases hd
   | some k=>
    rw[hq]at hd;cases hd;obtain⟨w,hw0⟩:=ok.kn k (N9 hq);have tk:((P.sks.take (i+1)).filter fun s=>!fP P s.nm)=((P.sks.take i).filter fun s=>!fP P s.nm) ++ if (!fP P k.nm)=true then [k]else []:=by
     rw[Om,hq,P5];congr 1
     by_cases z:(!fP P k.nm)=true
     ·rw[if_pos z];exact List.filter_cons_of_pos z
     ·rw[if_neg z];exact List.filter_cons_of_neg z
    have wk:fP P k.nm=d6 (.str w) (.str (NU "wiped")):=by unfold fP;rw[hw0];rfl
    have ed:k.d=.tup [.tup [.str k.pen,.int k.num],.int k.time,k.act.d]:=rfl;rw[ed];refine⟨⟨by simp[Oh,List.replicate],rfl⟩,?_⟩
    have hk:cV P.st [.inr k.pen,.inl k.num]=some (.str w):=hw0;clear ok;have tk':(((P.sks.take (i+1)).filter fun s=>!fP P s.nm).map Sk.nm).map Nm.d=(((P.sks.take i).filter fun s=>!fP P s.nm).map Sk.nm).map Nm.d ++ if (!fP P k.nm)=true then [.tup [.str k.pen,.int k.num]]else []:=by
     rw[tk,Ol,Ol];congr 1;split<;>rfl
    clear tk;generalize (((P.sks.take i).filter fun s=>!fP P s.nm).map Sk.nm).map Nm.d=A0 at *
    rw[wk]at tk';walk_at "st"
    by_cases z:(!d6 (.str w) (.str (NU "wiped")))=true
    ·rw[if_pos z,if_pos z]
    ·rw[if_neg z,if_neg z,OO]
  ·rintro acc G' ⟨rfl,rfl⟩
   rw[NS,Oo];exact h
 ·exact h.elim
theorem pB(zF:Zz)(hw:HW):bK (bd zF hw) (jk zF hw) Ad0:=by
 intro ds G Q h;unfold bd at h;split at h
 ·rename_i p;obtain⟨P,d,s,g,⟨⟨g1,g2,g3,g4⟩,ok⟩,h⟩:=h;have hs:=ah;unfold jk;walk_at "st"
 ·exact h.elim
theorem kN(zF:Zz)(hw:HW):bK (aP zF hw) (gn zF hw) ["self","pen"]:=by
 intro ds G Q h;unfold aP at h;split at h
 ·rename_i p pen;obtain⟨P,d,s,g,⟨⟨g1,g2,g3,g4⟩,gi⟩,h⟩:=h;have hs:=ah;unfold gn;unfold Pp.num at h;cases e:cV P.gr (.inr pen) with
  | none=>
   rw[e]at h;walk_at "st";exact⟨by walk_at "o",h⟩
  | some v=>
   obtain⟨m,rfl,_⟩:=gi _ _ e;rw[e]at h;walk_at "st";exact⟨by walk_at "o",h⟩
 ·exact h.elim
theorem kM(zF:Zz)(hw:HW):bK (aO zF hw) (gl zF hw) Ad0:=by
 intro ds G Q h;unfold aO at h;split at h
 ·rename_i p;obtain⟨P,d,s,g,⟨g1,g2,g3,g4⟩,h⟩:=h;unfold gl;walk_at "st"
 ·exact h.elim
theorem kP(zF:Zz)(hw:HW):bK (aV zF hw) (gu zF hw) Ak0:=by
 intro ds G Q h;unfold aV at h;split at h
 ·rename_i p a b;obtain⟨P,d,s,g,w,⟨⟨g1,g2,g3,g4⟩,hk⟩,h⟩:=h;unfold gu;walk_at "st";exact iteF True.intro
 ·exact h.elim
theorem sJ(zF:Zz)(hw:HW):bK (bX zF hw) (lJ zF hw) Ak0:=by
 intro ds G Q h;unfold bX at h;split at h
 ·rename_i p a b;obtain⟨P,d,s,g,w,⟨⟨g1,g2,g3,g4⟩,hk⟩,h⟩:=h;unfold lJ;rw[ag];walk_at "s1";exact⟨P,d,s,g,w,⟨g1,g2,g3,g4⟩,hk⟩
 ·exact h.elim
theorem kO(zF:Zz)(hw:HW):bK (aU zF hw) (gq zF hw) Ak0:=by
 intro ds G Q h;unfold aU at h;split at h
 ·rename_i p a b;obtain⟨P,d,s,g,⟨⟨g1,g2,g3,g4⟩,hk⟩,h⟩:=h;unfold gq;walk_at "st";refine⟨P,d,s,g,_,⟨⟨g1,g2,g3,g4⟩,hk⟩,?_⟩;rw[bb];exact iteF True.intro
 ·exact h.elim
theorem t7(zF:Zz)(hw:HW):bK (cO zF hw) (nv zF hw) Ak0:=by
 intro ds G Q h;unfold cO at h;split at h
 ·rename_i p a b;obtain⟨P,d,s,g,⟨⟨g1,g2,g3,g4⟩,hk,l2⟩,h⟩:=h;have hs:=ah;unfold nv;rw[ag];walk_at "s1";refine⟨P,d,s,g,⟨⟨g1,g2,g3,g4⟩,hk⟩,by walk_at "o",h _ (fun x o hx hG=>?_) ⟨?_,?_,aw,?_⟩⟩
  ·rw[am (fun z=>hx (by rw[z];simp))]
   exact hG
  ·rw[am (fun z=>by rw[z,g3]at g1;cases g1)]
   exact g1
  ·rw[am (fun z=>by rw[z,g3]at g2;cases g2)]
   exact g2
  ·rw[am (fun z=>by rw[z,g3]at g4;cases g4)]
   exact g4
 ·exact h.elim
theorem t9(zF:Zz)(hw:HW):bK (cP zF hw) (nw zF hw) Ad0:=by
 intro ds G Q h;unfold cP at h;split at h
 ·rename_i p;obtain⟨P,d,s,g,⟨⟨g1,g2,g3,g4⟩,ok⟩,h⟩:=h;have hs:=ah;have o1:=ok.lo;have o2:=ok.ls;have un:P.unw.length<=P.sks.length:=by
   unfold Pp.unw;rw[NS];exact O_ _ _
  have sk:∀ k∈P.sks,1<=k.num/\k.wd<=1000:=fun k hk=>⟨(ok.sk k hk).1,le_trans (ok.sk k hk).2.1 (by decide)⟩
  unfold nw;walk_at "st";refine⟨P,d,s,g,⟨⟨g1,g2,g3,g4⟩,ok⟩,P.sks,P.sks,P.unw,⟨rfl,by walk_at "o",xh ok.ap,by walk_at "o",by walk_at "o",fun k hk=>hk,sk,rfl,by walk_at "o"⟩,fun out G' hE so mo=>h out G' hE ⟨so,mo⟩⟩
 ·exact h.elim
theorem sK(zF:Zz)(hw:HW):bK (bZ zF hw) (lK zF hw) Ad0:=by
 intro ds G Q h;unfold bZ at h;split at h
 ·rename_i p;obtain⟨P,d,s,g,⟨⟨g1,g2,g3,g4⟩,ok⟩,h⟩:=h;have hs:=ah;have o1:=ok.lo;have o2:=ok.ls;have un:P.unw.length<=P.sks.length:=by
   unfold Pp.unw;rw[NS];exact O_ _ _
  have sk:∀ k∈P.sks,1<=k.num/\k.wd<=1000:=fun k hk=>⟨(ok.sk k hk).1,le_trans (ok.sk k hk).2.1 (by decide)⟩
  unfold lK;walk_at "st";refine⟨P,d,s,g,⟨⟨g1,g2,g3,g4⟩,ok⟩,P.sks,P.sks,P.unw,⟨rfl,by walk_at "o",xh ok.ap,by walk_at "o",by walk_at "o",fun k hk=>hk,sk,rfl,by walk_at "o"⟩,fun out G' hE so mo=>h out G' hE ⟨so,mo⟩⟩
 ·exact h.elim
theorem t_(zF:Zz)(hw:HW):bK (cw zF hw) (nz zF hw) ["self","stroke"]:=by
 intro ds G Q h;unfold cw at h;split at h
 ·rename_i p a;obtain⟨P,d,s,g,k,⟨⟨g1,g2,g3,g4⟩,ga,l1,l2,l3⟩,h⟩:=h;have hs:=ah;have npd:p≠d:=fun z=>by rw[z,g2]at g1;cases g1
  have nps:p≠s:=fun z=>by rw[z,g3]at g1;cases g1
  have npg:p≠g:=fun z=>by rw[z,g4]at g1;cases g1
  have nds:d≠s:=fun z=>by rw[z,g3]at g2;cases g2
  have ndg:d≠g:=fun z=>by rw[z,g4]at g2;cases g2
  have nsg:s≠g:=fun z=>by rw[z,g4]at g3;cases g3
  obtain⟨C,L,fs,eo⟩:=qR zF k;have gx:G a=some (.ins C L fs):=ga.trans (by rw[eo])
  have nad:a≠d:=fun z=>by rw[z,g2]at gx;cases gx
  have nas:a≠s:=fun z=>by rw[z,g3]at gx;cases gx
  have nag:a≠g:=fun z=>by rw[z,g4]at gx;cases gx
  unfold nz;rw[ag];unfold dE fG;refine yD zF hw (i:=0) rfl g1 rfl ?_;refine⟨⟨_,g2⟩,?_⟩;unfold af;refine FI zF hw (i:=1) rfl ga ?_;unfold au;dsimp only;rw[g2];dsimp only;refine⟨by rw[NS];omega,?_⟩
  have e1:(P.sks.map Sk.d) ++ [val k.d]=(P.sks ++ [k]).map Sk.d:=by rw[Ol];rfl
  rw[e1];clear e1;have h1:gset G d (.lst ((P.sks ++ [k]).map Sk.d)) p=_:=(am npd).trans g1;have h2:gset G d (.lst ((P.sks ++ [k]).map Sk.d)) d=_:=aw;have h3:gset G d (.lst ((P.sks ++ [k]).map Sk.d)) s=_:=(am nds.symm).trans g3;have h4:gset G d (.lst ((P.sks ++ [k]).map Sk.d)) g=_:=(am ndg.symm).trans g4;have ha:gset G d (.lst ((P.sks ++ [k]).map Sk.d)) a=_:=(am nad).trans ga;have ho:Ei [p,d,s,g] G (gset G d (.lst ((P.sks ++ [k]).map Sk.d))):=fun x o hx hG=>(am fun z=>hx (by rw[z];simp)).trans hG
  generalize gset G d (.lst ((P.sks ++ [k]).map Sk.d))=G1 at *
  clear g1 g2 g3 g4 ga gx;rw[ag];refine Cf (v:=.str (NU "waits")) (o:=.ref s) (i:=.tup [.str k.pen,.int k.num]) (fun Q h=>h) (fun Q h=>yD zF hw (i:=0) rfl h1 rfl h) (fun Q h=>qi zF hw (i:=1) rfl ha h) ?_;unfold jq;dsimp only[val];rw[h3];refine⟨rfl,k.nm.key,rfl,by walk_at "o",?_⟩
  have i1:gset G1 s (.dT hw (bS P.st k.nm.key (.str (NU "waits")))) p=_:=(am nps).trans h1;have i2:gset G1 s (.dT hw (bS P.st k.nm.key (.str (NU "waits")))) d=_:=(am nds).trans h2;have i3:gset G1 s (.dT hw (bS P.st k.nm.key (.str (NU "waits")))) s=_:=aw;have i4:gset G1 s (.dT hw (bS P.st k.nm.key (.str (NU "waits")))) g=_:=(am nsg.symm).trans h4;have ia:gset G1 s (.dT hw (bS P.st k.nm.key (.str (NU "waits")))) a=_:=(am nas).trans ha;have io:Ei [p,d,s,g] G (gset G1 s (.dT hw (bS P.st k.nm.key (.str (NU "waits"))))):=fun x o hx hG=>(am fun z=>hx (by rw[z];simp)).trans (ho x o hx hG)
  generalize gset G1 s (.dT hw (bS P.st k.nm.key (.str (NU "waits"))))=G2 at *
  clear h1 h2 h3 h4 ha ho;rw[ag];refine Cf (v:=.int k.num) (o:=.ref g) (i:=.str k.pen) (fun Q h=>by unfold aW;exact qi zF hw (i:=1) rfl ia h) (fun Q h=>yD zF hw (i:=0) rfl i1 rfl h) (fun Q h=>by unfold aW;exact qi zF hw (i:=1) rfl ia h) ?_
  unfold jq;dsimp only[val];rw[i4];refine⟨.inr k.pen,rfl,by walk_at "o",?_⟩
  have j1:gset G2 g (.dK (bS P.gr (.inr k.pen) (.int k.num))) p=_:=(am npg).trans i1;have j2:gset G2 g (.dK (bS P.gr (.inr k.pen) (.int k.num))) d=_:=(am ndg).trans i2;have j3:gset G2 g (.dK (bS P.gr (.inr k.pen) (.int k.num))) s=_:=(am nsg).trans i3;have j4:gset G2 g (.dK (bS P.gr (.inr k.pen) (.int k.num))) g=_:=aw;have ja:gset G2 g (.dK (bS P.gr (.inr k.pen) (.int k.num))) a=_:=(am nag).trans ia;have jo:Ei [p,d,s,g] G (gset G2 g (.dK (bS P.gr (.inr k.pen) (.int k.num)))):=fun x o hx hG=>(am fun z=>hx (by rw[z];simp)).trans (io x o hx hG)
  generalize gset G2 g (.dK (bS P.gr (.inr k.pen) (.int k.num)))=G3 at *
  clear i1 i2 i3 i4 ia io;rw[ag];unfold wG;refine F8 zF hw (i:=1) (p:=a) (σ:=[some (.ref p),some (.ref a)]) rfl ja ?_;show (match G3 p with|some (.ins C' L' ds)=>_|_=>False)
  rw[j1];refine⟨⟨rfl,rfl⟩,?_⟩;have npa:a≠p:=fun z=>by
   rw[z,j1]at ja;obtain⟨pen,num,time,act⟩:=k;cases act<;>(injection ja with ja;injection ja with _ _ ja;cases ja)
  dsimp only;unfold bh;refine qi zF hw (i:=1) (p:=a) (σ:=[some (.ref p),some (.ref a)]) rfl ((am npa).trans ja) ?_;exact h _ (fun x o hx hG=>(am fun z=>hx (by rw[z];simp)).trans (jo x o hx hG)) ⟨aw,(am npd.symm).trans j2,(am nps.symm).trans j3,(am npg.symm).trans j4⟩
 ·exact h.elim
theorem nU(zF:Zz)(hw:HW):bK (bC zF hw) (iM zF hw) ["self","old"]:=by
 intro ds G Q h;unfold bC at h;split at h
 ·rename_i p x;obtain⟨g1,h⟩:=h;have hs:=ah;unfold iM;rw[ag];walk_at "s1";rw[ag];walk_at "s1";refine⟨by walk_at "o",fun d hd=>?_⟩
  have npd:p≠d:=fun z=>by rw[<- z,aw]at hd;cases hd
  have hd0:G d=none:=by rwa[am npd.symm]at hd
  rw[am npd,aw];dsimp only;refine⟨⟨rfl,rfl⟩,?_⟩;rw[ag];generalize hG1:gset (gset (gset G p _) d _) p _=G1;have a1:G1 p=some (.ins zF.C_Paper ["old","drawn"] [.str x,.ref d]):=by rw[<- hG1];exact aw
  have a2:G1 d=some (.lst []):=by rw[<- hG1,am npd.symm];exact aw
  have a0:∀ y o,y≠p->y≠d->G y=some o->G1 y=some o:=fun y o h1 h2 hG=>by rw[<- hG1,am h1,am h2,am h1];exact hG
  clear hG1;walk_at "s1";intro s hs1;have hs0:G s=none:=by
   cases z:G s with
   | none=>rfl
   | some o=>rw[a0 s o (fun w=>by rw[w,a1]at hs1;cases hs1) (fun w=>by rw[w,a2]at hs1;cases hs1) z]at hs1;cases hs1
  have nps:p≠s:=fun z=>by rw[<- z,a1]at hs1;cases hs1
  have nds:d≠s:=fun z=>by rw[<- z,a2]at hs1;cases hs1
  rw[am nps,a1];dsimp only;refine⟨⟨rfl,rfl⟩,?_⟩;rw[ag];generalize hG2:gset (gset G1 s _) p _=G2;have b1:G2 p=some (.ins zF.C_Paper AM0 [.str x,.ref d,.ref s]):=by rw[<- hG2];exact aw
  have b2:G2 d=some (.lst []):=by rw[<- hG2,am npd.symm,am nds];exact a2
  have b3:G2 s=some (.dT hw []):=by rw[<- hG2,am nps.symm];exact aw
  have b0:∀ y o,y≠p->y≠d->y≠s->G y=some o->G2 y=some o:=fun y o h1 h2 h3 hG=>by rw[<- hG2,am h1,am h3];exact a0 y o h1 h2 hG
  clear hG2 a1 a2 a0 hs1;walk_at "s1";intro g hg;have hg0:G g=none:=by
   cases z:G g with
   | none=>rfl
   | some o=>rw[b0 g o (fun w=>by rw[w,b1]at hg;cases hg) (fun w=>by rw[w,b2]at hg;cases hg) (fun w=>by rw[w,b3]at hg;cases hg) z]at hg;cases hg
  have npg:p≠g:=fun z=>by rw[<- z,b1]at hg;cases hg
  have ndg:d≠g:=fun z=>by rw[<- z,b2]at hg;cases hg
  have nsg:s≠g:=fun z=>by rw[<- z,b3]at hg;cases hg
  rw[am npg,b1];dsimp only;refine⟨⟨rfl,rfl⟩,?_⟩;walk_at "st";refine h d s g _ ⟨hd0,hs0,hg0⟩ (fun y o hy hG=>?_) ⟨aw,?_,?_,?_⟩
  ·simp only[Oz,OF,or_false,not_or]at hy;rw[am hy.1,am hy.2.2.2];exact b0 y o hy.1 hy.2.1 hy.2.2.1 hG
  ·rw[am npd.symm,am ndg];exact b2
  ·rw[am nps.symm,am nsg];exact b3
  ·rw[am npg.symm];exact aw
 ·exact h.elim
theorem IL{seats:List Seat}{i:Int}(h0:0<=i)(h1:i < seats.length):iG (seats.map Seat.d) i=some (seats[i.toNat]'(by walk_at "o")).d:=by
 have:=Az (ds:=seats.map Seat.d) (i:=i) h0 (by rw[NS];omega)
 rw[this,List.getElem_map]
def Jr:D->D
 | .tup (_::d::_)=>d
 | d=>d
theorem Ds(seats:List Seat):(seats.map Seat.d).map Jr=(seats.map Seat.name).map Sl.d:=by rw[Ot,Ot];rfl
theorem ph(zF:Zz)(hw:HW):bK (bO zF hw) (jf zF hw) AB0:=by
 intro ds G Q h;unfold bO at h;split at h
 ·rename_i xs i j;obtain⟨seats,⟨rfl,h0,h1,h2,h3⟩,h⟩:=h;have hs:=ah;unfold jf;walk_at "st";have ec:L3.cutD (seats.map Seat.d) (some i) (some j)=((seats.drop i.toNat).take (j - i).toNat).map Seat.d:=by
   rw[Gf h0 (by walk_at "o"),Rc,Re]
   congr 1;omega
  rw[ec];refine gC Jr (by rw[NS];exact le_trans (List.length_take_le' _ _) (by rw[O8];omega)) (fun d hd P hP=>?_) ?_
  ·obtain⟨s,_,rfl⟩:=mem_map.mp hd;have ed:s.d=.tup [s.slot.d,s.name.d,.str s.sign,.str s.word]:=rfl;rw[ed]at hP ⊢;refine⟨⟨by simp[Oh,List.replicate],rfl⟩,?_⟩
   exact hP _ rfl
  ·rw[Ds];exact h
 ·exact h.elim
theorem mL.off{C:NR}{hw0:List aD->Int}{G:Gp}{p d s g a:NR}{P:Pp}{o:GO}(h:mL C hw0 G p d s g P)(ha:G a=none):mL C hw0 (gset G a o) p d s g P:=by
 have ne:∀ {b:NR} {u:GO},G b=some u->b≠a:=fun hb z=>by rw[z,ha]at hb;cases hb
 obtain⟨h1,h2,h3,h4⟩:=h;exact⟨(am (ne h1)).trans h1,(am (ne h2)).trans h2,(am (ne h3)).trans h3,(am (ne h4)).trans h4⟩
theorem mL.ext{C:NR}{hw0:List aD->Int}{G G':Gp}{p d s g:NR}{P:Pp}(h:mL C hw0 G p d s g P)(e:fK G G'):mL C hw0 G' p d s g P:=⟨e _ _ h.1,e _ _ h.2.1,e _ _ h.2.2.1,e _ _ h.2.2.2⟩
theorem Pp.ok.le{P:Pp}{n m:Nat}(h:P.ok n)(hl:n<=m):P.ok m:=⟨h.lo,le_trans h.ls hl,le_trans h.lt hl,le_trans h.lg hl,h.sk,h.ap,h.kn,h.gi,h.gm⟩
theorem Hj{P:Pp}{out:List Sk}(so:Srt P out):out.length<=P.sks.length:=by
 have:=gy (fu so.1) (ys:=P.sks.map Sk.rw) fun r hr=>by
  obtain⟨s,hs',rfl⟩:=mem_map.mp hr;exact mem_map.mpr ⟨s,(so.2 s).mp hs',rfl⟩
 rwa[NS,NS]at this
theorem Cg{P:Pp}{out:List Sk}(ok:P.ok 50)(so:Srt P out):(P.seats out).length<=60000:=by
 have h1:=zh (x:=P.old) (out:=out) (names:=P.unw) fun s hs'=>le_trans (mE s) (le_trans (ok.sk s ((so.2 s).mp hs')).2.1 (by decide))
 have h2:=Hj so;have h3:=ok.ls;have h4:=ok.lo;unfold Pp.seats;omega
theorem FB{G G1 G':Gp}{a p d s g:NR}{o:GO}(e:fK G G1)(ha:G1 a=none)(h:Ei [p,d,s,g] (gset G1 a o) G'):Ei [p,d,s,g] G G':=fun x u hx hG=>h x u hx ((am fun z=>by rw[<- z,e x u hG]at ha;cases ha).trans (e x u hG))
theorem qI(zF:Zz)(hw:HW):bK (ce zF hw) (kH zF hw) ["self","pen","at","to","seats"]:=by
 intro ds G Q h;unfold ce at h;split at h
 ·rename_i p pen i j;obtain⟨P,d,s,g,⟨⟨g1,g2,g3,g4⟩,ok⟩,h⟩:=h;have hs:=ah;have ok':P.ok 50:=ok.le (by decide)
  have ls:=ok.ls;have lt:=ok.lt;have lg:=ok.lg;have gi:=ok.gi;unfold kH;rw[ag];walk_at "s1";refine⟨P,d,s,g,⟨⟨g1,g2,g3,g4⟩,ok'⟩,fun out G1 hE so=>?_⟩;obtain⟨⟨c1,c2,c3,c4⟩,h⟩:=h out so;have k1:=hE _ _ g1;have k2:=hE _ _ g2;have k3:=hE _ _ g3;have k4:=hE _ _ g4;rw[ag];walk_at "s1";have sb:=Cg ok' so;have pa:mL zF.C_Paper hw G1 p d s g P:=⟨k1,k2,k3,k4⟩;refine⟨⟨by rw[NS];exact c2,by rw[NS];exact c4⟩,P,d,s,g,⟨pa,gi⟩,P,d,s,g,pa,P.seats out,⟨rfl,by walk_at "o",c4,by walk_at "o"⟩,fun a ha=>⟨pen,_,rfl,P,d,s,g,⟨pen,P.num pen,P.time+1,.strike ((((P.seats out).drop i.toNat).take (j - i).toNat).map Seat.name)⟩,⟨pa.off ha,?_⟩,fun G' of pt=>h G' (FB hE ha of) pt⟩⟩
  exact⟨rfl,by walk_at "o",by walk_at "o",by walk_at "o"⟩
 ·exact h.elim
theorem srt_uniq{P:Pp}{a b:List Sk}(ha:Srt P a)(hb:Srt P b):a=b:=tJ (iR ha.1 hb.1 fun r=>by
 constructor
 ·intro hr;obtain⟨s,hs',rfl⟩:=mem_map.mp hr;exact mem_map.mpr ⟨s,(hb.2 s).mpr ((ha.2 s).mp hs'),rfl⟩
 ·intro hr;obtain⟨s,hs',rfl⟩:=mem_map.mp hr;exact mem_map.mpr ⟨s,(ha.2 s).mpr ((hb.2 s).mp hs'),rfl⟩)
theorem Le{seats:List Seat}{i:Int}(h0:0 < i)(h1:i<=seats.length):∃ st:Seat,iG (seats.map Seat.d) (i - 1)=some st.d/\kK seats i=st.slot:=by
 refine⟨seats[(i - 1).toNat]'(by walk_at "o"),IL (by walk_at "o") (by walk_at "o"),?_⟩
 unfold kK;rw[if_neg (by walk_at "o"),NV (by walk_at "o")]
theorem Lc(zF:Zz)(hw:HW){seats:List Seat}{i:Int}{Q:m5}{G:Gp}(h0:0<=i)(h1:i<=seats.length)(h:Q (kK seats i).d G):jI zF hw { nx:=fun _ G'=>Q .non G',rt:=Q } [some (.lst (seats.map Seat.d)),some (.int i)] G:=by
 have hs:=ah;unfold jI
 by_cases e:i=0
 ·subst e;refine nN (NX:=fun _ _=>False) (fun _ _ z=>z.elim) fun NX hNX=>?_;refine bo true (fun K hK=>?_) (iteT ?_)
  ·walk_at "st"
  ·exact h
 ·refine nN (NX:=fun σ' G'=>σ'=[some (.lst (seats.map Seat.d)),some (.int i)]/\G'=G) (fun σ' G' z=>?_) fun NX hNX=>?_
  ·obtain⟨rfl,rfl⟩:=z;obtain⟨st,as,ea⟩:=Le (seats:=seats) (i:=i) (by walk_at "o") h1
   rw[ea]at h;have ed:st.d=.tup [st.slot.d,st.name.d,.str st.sign,.str st.word]:=rfl;rw[ed]at as;clear ea ed;walk_at "st"
  ·have en:d6 (.int i) (.int 0)=false:=bz fun z=>e (by injection z)
   refine bo false (fun K hK=>?_) (iteF ?_)
   ·walk_at "st"
   ·exact hNX _ _ ⟨rfl,rfl⟩
theorem vQ(zF:Zz)(hw:HW):bK (de zF hw) (jI zF hw) ["seats","at"]:=by
 intro ds G Q h;unfold de at h;split at h
 ·rename_i xs i;obtain⟨seats,⟨rfl,h0,h1⟩,h⟩:=h;exact Lc zF hw h0 h1 h
 ·exact h.elim
theorem vT(zF:Zz)(hw:HW):bK (cJ zF hw) (pL zF hw) ["self","pen","at","signs","seats"]:=by
 intro ds G Q h;unfold cJ at h;split at h
 ·rename_i p pen i w;obtain⟨P,d,s,g,⟨⟨g1,g2,g3,g4⟩,ok⟩,h⟩:=h;have hs:=ah;have ok':P.ok 50:=ok.le (by decide)
  have ls:=ok.ls;have lt:=ok.lt;have lg:=ok.lg;have gi:=ok.gi;unfold pL;rw[ag];walk_at "s1";refine⟨P,d,s,g,⟨⟨g1,g2,g3,g4⟩,ok'⟩,fun out G1 hE so=>?_⟩;obtain⟨⟨c1,c2⟩,h⟩:=h out so;have k1:=hE _ _ g1;have k2:=hE _ _ g2;have k3:=hE _ _ g3;have k4:=hE _ _ g4;rw[ag];walk_at "s1";have sb:=Cg ok' so;have pa:mL zF.C_Paper hw G1 p d s g P:=⟨k1,k2,k3,k4⟩;refine⟨by rw[NS];exact c2,P,d,s,g,⟨pa,gi⟩,P,d,s,g,pa,P.seats out,⟨rfl,c2⟩,fun a ha=>⟨pen,_,_,rfl,rfl,P,d,s,g,⟨pen,P.num pen,P.time+1,.put (kK (P.seats out) i) w⟩,⟨pa.off ha,?_⟩,fun G' of pt=>h G' (FB hE ha of) pt⟩⟩
  exact⟨rfl,by walk_at "o",by walk_at "o",by walk_at "o"⟩
 ·exact h.elim
theorem lG(zF:Zz)(hw:HW):bK (bf zF hw) (g_ zF hw) AG0:=by
 intro ds G Q h;unfold bf at h;split at h
 ·rename_i p w;obtain⟨P,d,s,g,⟨⟨g1,g2,g3,g4⟩,ok⟩,h⟩:=h;have hs:=ah;have l1:=ok.ls;unfold g_;walk_at "st";refine⟨by rw[NS];omega,fun i acc G'=>acc=((P.sks.take i).filter fun s=>d6 ((cV P.st s.nm.key).getD .non) (.str w)).map Sk.d/\G'=G,⟨rfl,rfl⟩,fun i acc G' hp=>by rw[hp.2];exact g2,?_,?_⟩
  ·rintro i dd acc G' hd ⟨rfl,rfl⟩
   rw[N8]at hd;cases hq:P.sks[i]? with
   | none=>rw[hq]at hd;cases hd
   | some k=>
    rw[hq]at hd;cases hd;obtain⟨w',hw0⟩:=ok.kn k (N9 hq);have tk:((P.sks.take (i+1)).filter fun s=>d6 ((cV P.st s.nm.key).getD .non) (.str w)).map Sk.d=((P.sks.take i).filter fun s=>d6 ((cV P.st s.nm.key).getD .non) (.str w)).map Sk.d ++ if d6 (.str w') (.str w)=true then [k.d]else []:=by
     rw[Om,hq,P5,Ol];congr 1;have wk:d6 ((cV P.st k.nm.key).getD .non) (.str w)=d6 (.str w') (.str w):=by rw[hw0];rfl
     by_cases z:d6 (.str w') (.str w)=true
     ·rw[if_pos z,Option.toList_some,List.filter_cons_of_pos (by rw[wk];exact z)];rfl
     ·rw[if_neg z,Option.toList_some,List.filter_cons_of_neg (by rw[wk];exact z)];rfl
    have ed:k.d=.tup [.tup [.str k.pen,.int k.num],.int k.time,k.act.d]:=rfl;rw[ed]at tk ⊢;refine⟨⟨by simp[Oh,List.replicate],rfl⟩,?_⟩
    have hk:cV P.st [.inr k.pen,.inl k.num]=some (.str w'):=hw0;clear ok;generalize ((P.sks.take i).filter fun s=>d6 ((cV P.st s.nm.key).getD .non) (.str w)).map Sk.d=A0 at *
    walk_at "st"
    by_cases z:d6 (.str w') (.str w)=true
    ·rw[if_pos z,if_pos z]
    ·rw[if_neg z,if_neg z,OO]
  ·rintro acc G' ⟨rfl,rfl⟩
   rw[NS,Oo];exact h
 ·exact h.elim
def Mg:D->D
 | .tup (d::_)=>d
 | d=>d
theorem pz(zF:Zz)(hw:HW):bK (bv zF hw) (ji zF hw) Ad0:=by
 intro ds G Q h;unfold bv at h;split at h
 ·rename_i p;obtain⟨P,d,s,g,⟨⟨g1,g2,g3,g4⟩,ok⟩,h⟩:=h;have hs:=ah;have l1:=ok.ls;have l2:(P.inS (NU "waits")).length<=P.sks.length:=O_ _ _;unfold ji;walk_at "st";refine⟨P,d,s,g,⟨⟨g1,g2,g3,g4⟩,ok⟩,?_⟩;refine gC Mg (by rw[NS];omega) (fun e he K hK=>?_) ?_
  ·obtain⟨k,_,rfl⟩:=mem_map.mp he;have ed:k.d=.tup [.tup [.str k.pen,.int k.num],.int k.time,k.act.d]:=rfl;rw[ed]at hK ⊢;refine⟨⟨by simp[Oh,List.replicate],rfl⟩,?_⟩
   exact hK _ rfl
  ·have e:((P.inS (NU "waits")).map Sk.d).map Mg=P.wai.map Nm.d:=by unfold Pp.wai;rw[Ot,Ot];rfl
   rw[e];exact h
 ·exact h.elim
theorem nT(zF:Zz)(hw:HW):bK (bB zF hw) (iL zF hw) Ad0:=by
 intro ds G Q h;unfold bB at h;split at h
 ·rename_i p;obtain⟨P,d,s,g,⟨g1,g2,g3,g4⟩,h⟩:=h;unfold iL;walk_at "st"
 ·exact h.elim
local macro_rules | `(tactic| walk_at "st") => do let ls <- ("sSeq cy dE bh EK Ba EL jH jG bn zm e_ JU wG o_ ae eC aW eU me KU Na Gc Mj yG cj m7 vB rK sE fM Ey gR m3 au af dW oI GQ n8 gP lQ Kr xQ Jm Jn Cu M3 vV zK fc DS Dr hJ Ca eB iC ve rB D7 wf K_ La qa aK cR kJ ic sr fG dH gL eM KR Me KQ A_ d9 wg Eh gN hV cr hX val eW List.map_cons List.map_nil List.replicate List.length_cons List.length_nil List.cons_append List.nil_append List.append_nil List.getElem?_cons_zero List.getElem?_cons_succ List.getElem?_nil List.set_cons_zero List.set_cons_succ List.set_nil Nat.reduceAdd Nat.reduceSub Nat.reduceLeDiff Nat.zero_add Option.some.injEq Option.map_some decide_eq_true_eq true_and and_true and_self if_true if_false Bool.false_eq_true reduceCtorEq List.cons.injEq GO.ins.injEq GO.lst.injEq D.lst.injEq D.fl.injEq exists_eq_left' exists_eq_left exists_eq' aw dy pl bb GH GG GF GE GD GC GB GA Gz Gy Gx Gw Gv Gu Gs nF Am i5 eA jq Al DR BN Kq Br hU cF lY wb FW Bool.not_true Bool.not_false bH ik d8 u7 BM BL u0 Ks uq qd sT u8 f9 Lb Gr if_true if_false u6 u5 Ad fi zo xg oz Gb yH MV DR f9 i5 hU Cu u4 zn ow k_WAITS k_WIPED wf sr rl Ak Aj D7 yG oz k_START iA iz fW gQ jO jT jN jS jM jR jL jQ l9 l8 iV j5 qN qP qM qO jP jU iY iX iB iW lN lO aS c_ bV aL bI aZ bD bR cG az bu be cH cv ef dC eP c9 da bM ak cb cA cL eN ee db bP de bO dj bW cx cQ bw cP bZ bd bf bv aP aO cw aV bX aU cO bB bC ce cJ bN eO c8 gf cM dh aT bp cI cN dD bQ".splitOn " ").toArray.mapM (fun s => `(Lean.Parser.Tactic.simpLemma| $(Lean.mkIdent s.toName):term)); `(tactic| simp only [$ls,*, *])
local macro_rules | `(tactic| walk_at "s1") => do let ls <- ("cy dE bh EK Ba EL jH jG bn zm e_ JU wG o_ ae eC aW eU me KU Na Gc Mj yG cj m7 vB rK sE fM Ey gR m3 au af dW oI GQ n8 gP lQ Kr xQ Jm Jn Cu M3 vV zK fc DS Dr hJ Ca eB iC ve rB D7 wf K_ La qa aK cR kJ ic sr fG dH gL eM KR Me KQ A_ d9 wg Eh gN hV cr hX val eW List.map_cons List.map_nil List.replicate List.length_cons List.length_nil List.cons_append List.nil_append List.append_nil List.getElem?_cons_zero List.getElem?_cons_succ List.getElem?_nil List.set_cons_zero List.set_cons_succ List.set_nil Nat.reduceAdd Nat.reduceSub Nat.reduceLeDiff Nat.zero_add Option.some.injEq Option.map_some decide_eq_true_eq true_and and_true and_self if_true if_false Bool.false_eq_true reduceCtorEq List.cons.injEq GO.ins.injEq GO.lst.injEq D.lst.injEq D.fl.injEq exists_eq_left' exists_eq_left exists_eq' aw dy pl bb GH GG GF GE GD GC GB GA Gz Gy Gx Gw Gv Gu Gs nF Am i5 eA jq Al DR BN Kq Br hU cF lY wb FW Bool.not_true Bool.not_false bH ik d8 u7 BM BL u0 Ks uq qd sT u8 f9 Lb Gr if_true if_false u6 u5 Ad fi zo xg oz Gb yH MV DR f9 i5 hU Cu u4 zn ow k_WAITS k_WIPED wf sr rl Ak Aj D7 yG oz k_START iA iz fW gQ jO jT jN jS jM jR jL jQ l9 l8 iV j5 qN qP qM qO jP jU iY iX iB iW lN lO aS c_ bV aL bI aZ bD bR cG az bu be cH cv ef dC eP c9 da bM ak cb cA cL eN ee db bP de bO dj bW cx cQ bw cP bZ bd bf bv aP aO cw aV bX aU cO bB bC ce cJ bN eO c8 gf cM dh aT bp cI cN dD bQ".splitOn " ").toArray.mapM (fun s => `(Lean.Parser.Tactic.simpLemma| $(Lean.mkIdent s.toName):term)); `(tactic| simp only [$ls,*, *])
local macro_rules | `(tactic| walk_at "conds") => `(tactic| (repeat ((with_reducible refine And.intro ?cc ?_); (case cc => first | decide | omega | rfl | exact ⟨by decide, by decide⟩ | exact ⟨by walk_at "o", by walk_at "o"⟩))))
theorem D4{k:Nat}{g:vi}{te:bG}{σ:ff}{ds:List D}{G1:Gp}{Q:m5}(R:Str->Prop)(hl:ds.length<=NY)
  (he:∀ d∈ds,∀ P:m5,(∀ w,R w->P (.str w) G1)->g d (List.replicate k none ++ σ) G1 fun σ2 G2=>(k<=σ2.length/\σ2.drop k=σ)/\te σ2 G2 P) (hq:∀ ps:List Str,ps.length=ds.length->(∀ w∈ps,R w)->Q (.fl (ps.map D.str)) G1):vt k g fM te σ ds G1 Q:=by
 refine⟨hl,fun i acc G'=>G'=G1/\∃ ps:List Str,ps.length=i/\acc=ps.map D.str/\∀ w∈ps,R w,⟨rfl,[],rfl,rfl,by simp⟩,fun i d acc G' hd ⟨hG,ps,h1,h2,h3⟩=>?_,fun acc G' ⟨hG,ps,h1,h2,h3⟩=>?_⟩
 ·subst hG;exact he d (N9 hd) (fun y G4=>G4=G'/\∃ ps:List Str,ps.length=i+1/\acc ++ [val y]=ps.map D.str/\∀ w∈ps,R w) fun w hw=>⟨rfl,ps ++ [w],by rw[On,h1];rfl,by rw[h2,Ol];rfl,fun w' hw'=>by
   rcases S5.mp hw' with z|z
   ·exact h3 w' z
   ·rw[Rs.mp z];exact hw⟩
 ·subst hG h2;exact hq ps h1 h3
theorem wN:∀ ps:List Str,(∀ w∈ps,∃ c:Nat,w=⟨#[c]⟩)->∃ cs:List Nat,cs.length=ps.length/\ps=cs.map fun c=>(⟨#[c]⟩:Str)
 | [],_=>⟨[],rfl,rfl⟩
 | w::r,h=>by
  obtain⟨c,rfl⟩:=h w N3;obtain⟨cs,l,e⟩:=wN r fun w hw=>h w (N0 _ hw);exact⟨c::cs,by simp[l],by rw[e];rfl⟩
theorem Jg:(NU " !\"#$&'()*+,-./0123456789:;<=>?@ABCDEFGHIJKLMNOPQRSTUVWXYZ[\\]^_`").length=64:=by decide +kernel
theorem Jf:(NU "abcdefghijklmnopqrstuvwxyz{|}~\n").length=31:=by decide +kernel
theorem t5(zF:Zz)(hw:HW):bK (aT zF hw) (nr zF hw) AK0:=by
 intro ds G Q h;unfold aT at h;split at h
 ·rename_i c p;unfold nr;walk_at "st";have hn0:0<=(c+7919*p+1)*48271 % 2147483647:=Int.emod_nonneg _ (by decide)
  have hn1:(c+7919*p+1)*48271 % 2147483647 < 2147483647:=Int.emod_lt_of_pos _ (by decide)
  refine⟨.inl ⟨by decide,by decide⟩,.inr ⟨by decide,by decide⟩,by decide,⟨by decide,by decide⟩,.inl ⟨by walk_at "o",by walk_at "o"⟩,by decide,h _ (bF (by decide))⟩
 ·exact h.elim
theorem qF(zF:Zz)(hw:HW):bK (bp zF hw) (kC zF hw) AL0:=by
 intro ds G Q h;unfold bp at h;split at h
 ·rename_i k;obtain⟨ns,⟨rfl,hk⟩,h⟩:=h;unfold kC;rw[ag];refine bo (decide (k < ns.length)) (fun K hK=>?_) (sR (fun e=>?_) fun e=>?_)
  ·walk_at "st";rw[NS];exact hK
  ·rw[decide_eq_true_eq]at e;walk_at "st";rw[BS hk e];exact h _
  ·walk_at "st"
   first|done|exact h _
 ·exact h.elim
theorem CL(a b c d k:Int):∃ v,iG [D.int a,D.int b,D.int c,D.int d] (k % 4)=some (.int v)/\(v=a\/v=b\/v=c\/v=d):=by
 have h:=bF (a:=k) (b:=4) (by decide)
 have:k % 4=0\/k % 4=1\/k % 4=2\/k % 4=3:=by walk_at "o"
 rcases this with e|e|e|e<;>rw[e]
 ·exact⟨a,rfl,.inl rfl⟩
 ·exact⟨b,rfl,.inr (.inl rfl)⟩
 ·exact⟨c,rfl,.inr (.inr (.inl rfl))⟩
 ·exact⟨d,rfl,.inr (.inr (.inr rfl))⟩
theorem EA(a b c k:Int):∃ v,iG [D.int a,D.int b,D.int c] (k % 3)=some (.int v)/\(v=a\/v=b\/v=c):=by
 have h:=bF (a:=k) (b:=3) (by decide)
 have:k % 3=0\/k % 3=1\/k % 3=2:=by walk_at "o"
 rcases this with e|e|e<;>rw[e]
 ·exact⟨a,rfl,.inl rfl⟩
 ·exact⟨b,rfl,.inr (.inl rfl)⟩
 ·exact⟨c,rfl,.inr (.inr rfl)⟩
theorem JL(a b k:Int):∃ v,iG [D.int a,D.int b] (k % 2)=some (.int v)/\(v=a\/v=b):=by
 have h:=bF (a:=k) (b:=2) (by decide)
 have:k % 2=0\/k % 2=1:=by walk_at "o"
 rcases this with e|e<;>rw[e]
 ·exact⟨a,rfl,.inl rfl⟩
 ·exact⟨b,rfl,.inr rfl⟩
theorem vR(zF:Zz)(hw:HW):bK (cI zF hw) (pJ zF hw) Ae0:=by
 intro ds G Q h;unfold cI at h;split at h
 ·rename_i c;have hs:=ah;unfold pJ;rw[ag];walk_at "s1";rw[ag];walk_at "s1";refine⟨by rw[Jg,Jf];omega,?_⟩
  have hl:(NU " !\"#$&'()*+,-./0123456789:;<=>?@ABCDEFGHIJKLMNOPQRSTUVWXYZ[\\]^_`" ++ NU "abcdefghijklmnopqrstuvwxyz{|}~\n").length=95:=by rw[cC,Jg,Jf]
  generalize (NU " !\"#$&'()*+,-./0123456789:;<=>?@ABCDEFGHIJKLMNOPQRSTUVWXYZ[\\]^_`" ++ NU "abcdefghijklmnopqrstuvwxyz{|}~\n")=M at *
  rw[ag];walk_at "s1";intro n hn;refine nN (NX:=fun σ' G'=>∃ k:Int,(0<=k/\k<=40)/\σ'=[some (.int c),some (.str M),some (.int n),some (.int k),none,none]/\G'=G) (fun σ' G' hM=>?_) (fun NX hNX=>?_)
  ·obtain⟨k,hk,rfl,rfl⟩:=hM;rw[ag];walk_at "s1";walk_at "conds";intro n2 hn2;obtain⟨w,hw,hv⟩:=EA 95 2 3 n2;rw[hw];walk_at "conds";dsimp only;rw[ag];walk_at "s1";intro n3 hn3;walk_at "conds";have b3:=bF (a:=n3) (b:=95) (by decide)
   walk_at "conds";refine D4 (fun w=>∃ c:Nat,w=⟨#[c]⟩) (by rw[f8];omega) (fun d hd P hP=>?_) fun ps l1 l2=>?_
   ·obtain⟨i,hi⟩:=List.mem_iff_getElem?.mp hd;obtain⟨_,rfl⟩:=nW hi;walk_at "s1";refine⟨by simp,fun n4 hn4=>?_⟩
    have b4:=bF (a:=n3 % 95+n4 % w) (b:=95) (by decide)
    refine⟨by walk_at "o",by decide,by walk_at "o",?_⟩
    rw[oK b4.1 (by rw[hl];exact b4.2)]
    exact hP _ ⟨_,rfl⟩
   ·rw[f8]at l1;obtain⟨cs,l3,rfl⟩:=wN ps l2;have hz:(((cs.map fun c=>(⟨#[c]⟩:Str)).map (·.length)).sum)=cs.length:=by
     rw[Ot];have:((fun x:Str=>x.length) ∘ fun c:Nat=>(⟨#[c]⟩:Str))=fun _=>1:=by funext k;rfl
     rw[this,List.map_const'];simp
    rw[NS]at l1;have h0:(NU "").length=0:=by decide +kernel
    refine⟨_,rfl,by rw[hz,h0,NS];omega,?_⟩
    rw[IB,BE];exact h _ (by rw[GK];omega)
  ·have ha:=bF (a:=n / 4) (b:=25) (by decide)
   have hb:=bF (a:=n / 4) (b:=9) (by decide)
   have hc:=bF (a:=n / 4) (b:=41) (by decide)
   have hd:=bF (a:=n / 4) (b:=3) (by decide)
   have c4:IZ n 4:=⟨by decide,by decide⟩
   have c3:IZ n 300:=⟨by decide,by decide⟩
   walk_at "s1";walk_at "conds";refine sR (fun e=>?_) fun e=>?_
   ·walk_at "conds";obtain⟨w,hw,hv⟩:=CL (n / 4 % 25) (n / 4 % 9) (n / 4 % 41) (n / 4 % 3) n;rw[hw];walk_at "conds";exact hNX _ _ ⟨w,by walk_at "o",rfl,rfl⟩
   ·walk_at "conds";obtain⟨w,hw,hv⟩:=CL (n / 4 % 25) (n / 4 % 9) 5 (n / 4 % 3) n;rw[hw];walk_at "conds";exact hNX _ _ ⟨w,by walk_at "o",rfl,rfl⟩
 ·exact h.elim
theorem u_{z:Str}{i:Int}(h:0<=i):(⟨(gT z.cps.toList none (some i)).toArray⟩:Str).length=min i.toNat z.length:=by
 rw[IH h];show (z.cps.toList.take i.toNat).toArray.size=_
 rw[N6,Ou,Array.length_toList];rfl
theorem qk{z:Str}{i:Int}(h:0<=i):(⟨(gT z.cps.toList (some i) none).toArray⟩:Str).length=z.length - i.toNat:=by
 rw[DW h];show (z.cps.toList.drop i.toNat).toArray.size=_
 rw[N6,O8,Array.length_toList];rfl
theorem Ja:(NU "x").length=1:=by decide +kernel
theorem tZ(zF:Zz)(hw:HW):bK (cN zF hw) (nq zF hw) An0:=by
 intro ds G Q h;unfold cN at h;split at h
 ·rename_i x c;obtain⟨hx,h⟩:=h;have hs:=ah;unfold nq;rw[ag];walk_at "s1";intro n hn;rw[ag];refine bo (d6 (.int (n % 6)) (.int 0)) (fun K hK=>?_) (sR (fun e=>?_) fun e=>?_)
  ·walk_at "st";walk_at "conds"
   first|exact hK|decide
  ·walk_at "st";walk_at "conds";exact fun z hz=>h z (by walk_at "o")
  ·simp only[cy];rw[ag];refine bo (d6 (.int (n % 6)) (.int 1)) (fun K hK=>?_) (sR (fun e=>?_) fun e=>?_)
   ·walk_at "st";walk_at "conds"
    first|exact hK|decide
   ·obtain⟨w,hw,hv⟩:=JL 1 (-1) (n / 6);walk_at "st";walk_at "conds";exact fun y hy=>h y (by walk_at "o")
   ·simp only[cy];have hm:=bF (a:=n / 12) (b:=9) (by decide)
    rw[ag];walk_at "s1";refine⟨⟨by decide,by decide⟩,by decide,⟨by walk_at "o",by walk_at "o"⟩,fun i σ G'=>∃ (z:Str) (x3 x4 x5:Option D),z.length<=60/\σ=[some (.str z),some (.int c),some (.int n),x3,x4,x5]/\G'=G,⟨x,_,_,_,hx,rfl,rfl⟩,?_,?_⟩
    ·rintro i d σ G' hd ⟨z,x3,x4,x5,hz,rfl,rfl⟩
     obtain⟨_,rfl⟩:=nW hd;simp only[gN,OA,Oh];rw[ag];walk_at "s1";intro t ht;have hb:=bF (a:=t / 2) (b:=(z.length:Int)+1) (by walk_at "o")
     refine nN (NX:=fun σ' G2=>σ'=[some (.str z),some (.int c),some (.int n),some (.int (0+(i:Int))),some (.int t),some (.int (t / 2 % ((z.length:Int)+1)))]/\G2=G') (fun σ' G2 hM=>?_) (fun NX hNX=>?_)
     rotate_left
     ·walk_at "s1";walk_at "conds";omega
     obtain⟨rfl,rfl⟩:=hM;generalize t / 2 % ((z.length:Int)+1)=at' at *
     refine bo (d6 (.int (t % 2)) (.int 0) && decide ((z.length:Int) < 60)) (s_ _ _ (fun K hK=>?_) fun _ K hK=>?_) (sR (fun e=>?_) fun e=>?_)
     ·walk_at "st";walk_at "conds"
      first|exact hK|decide
     ·walk_at "st"
      first|exact⟨by walk_at "o",hK⟩|omega
     ·rw[Bool.and_eq_true,decide_eq_true_eq]at e;have hb2:=bF (a:=t / 200) (b:=(z.length:Int)+1) (by walk_at "o")
      have l1:=u_ (z:=z) hb.1;have l2:=qk (z:=z) hb.1;have lx:(z ++ NU "x").length=z.length+1:=by rw[cC,Ja]
      have xx:z.length+(NU "x").length<=NY:=by rw[Ja];omega
      have lx':(z ++ NU "x").length<=NY:=by rw[lx];omega
      obtain⟨cc,hcc,lc⟩:∃ cc,L3.strAt (z ++ NU "x") (t / 200 % ((z.length:Int)+1))=some (.str cc)/\cc.length=1:=⟨_,oK hb2.1 (by rw[lx];exact hb2.2),rfl⟩
      walk_at "s1";generalize (⟨(gT z.cps.toList none (some at')).toArray⟩:Str)=z1 at *
      generalize (⟨(gT z.cps.toList (some at') none).toArray⟩:Str)=z2 at *
      have l3:(z1 ++ cc).length=min at'.toNat z.length+1:=by rw[cC,l1,lc]
      have l4:(z1 ++ cc ++ z2).length<=60:=by rw[cC,l3,l2];omega
      walk_at "conds";exact⟨_,_,_,_,l4,rfl,rfl,rfl,rfl⟩
     ·have l1:=u_ (z:=z) hb.1;have l2:=qk (z:=z) (i:=at'+1) (by walk_at "o")
      walk_at "s1";generalize (⟨(gT z.cps.toList none (some at')).toArray⟩:Str)=z1 at *
      generalize (⟨(gT z.cps.toList (some (at'+1)) none).toArray⟩:Str)=z2 at *
      have l4:(z1 ++ z2).length<=60:=by rw[cC,l1,l2];omega
      walk_at "conds";exact⟨_,_,_,_,l4,rfl,rfl,rfl,rfl⟩
    ·rintro σ G' ⟨z,x3,x4,x5,hz,rfl,rfl⟩
     walk_at "s1"
     first|done|exact h z hz
 ·exact h.elim
theorem mB{n:Nat}{f:Nat->Nat}{i:Int}(h0:0<=i)(h:i < n):iG (fL n f) i=some (.int (f i.toNat:Nat)):=by
 unfold fL;rw[BS (α:=Nat) h0 (by rw[Qz];exact h)]
 have:i.toNat < n:=by walk_at "o"
 simp[this]
theorem xr{x y:Str}{n:Nat}{i:Int}(h0:0<=i)(h:i < n):iG (j8 x y n) i=some (.lst (fL (y.length+1) (fB (mZ x y) i.toNat))):=by
 unfold j8;rw[BS (α:=Nat) h0 (by rw[Qz];exact h)]
 have:i.toNat < n:=by walk_at "o"
 simp[this]
theorem zt{n:Nat}{f:Nat->Nat}:(fL n f).length=n:=by simp[fL]
theorem xt{x y:Str}{n:Nat}:(j8 x y n).length=n:=by simp[j8]
theorem Df{n:Nat}{f:Nat->Nat}:fL (n+1) f=fL n f ++ [.int (f n:Nat)]:=by unfold fL;rw[List.range_succ,Ol];rfl
theorem A1{x y:Str}{n:Nat}:j8 x y (n+1)=j8 x y n ++ [.lst (fL (y.length+1) (fB (mZ x y) n))]:=by unfold j8;rw[List.range_succ,Ol];rfl
theorem uZ{z:Str}{i:Nat}{d:D}(h:(nE (L3.signs z))[i]?=some d):i < z.length/\d=.tup [.int i,.str (gF z i)]:=by
 have hl:i < (nE (L3.signs z)).length:=(List.getElem?_eq_some_iff.mp h).1;rw[nE,eT]at hl;have hz:(L3.signs z).length=z.length:=by simp[L3.signs,Pe]
 have h2:=i0 0 (L3.signs z) i (L3.signs z)[i] (NV hl);have h3:(nE (L3.signs z))[i]?=some (.tup [.int (0+i:Nat),(L3.signs z)[i]]):=h2;rw[h3]at h;refine⟨by walk_at "o",?_⟩
 have h4:(L3.signs z)[i]=.str (gF z i):=by
  have hi:i < z.cps.size:=by have:z.length=z.cps.size:=rfl;omega
  simp[L3.signs,gF,hi]
 rw[h4,Nat.zero_add]at h;exact (Option.some.inj h).symm
theorem Ai{z:Str}:(nE (L3.signs z)).length=z.length:=by rw[nE,eT];simp[L3.signs,Pe]
theorem Cz{a b:Nat}:(if (b:Int) < (a:Int)then (b:Int)else (a:Int))=((if b < a then b else a:Nat):Int):=by
 by_cases h:b < a
 ·rw[if_pos h,if_pos (by walk_at "o")]
 ·rw[if_neg h,if_neg (by walk_at "o")]
theorem pf(zF:Zz)(hw:HW):bK (bN zF hw) (je zF hw) At0:=by
 intro ds G Q h;unfold bN at h;split at h
 ·rename_i sg y;obtain⟨f,⟨rfl,hy⟩,h⟩:=h;have hs:=ah;unfold je;rw[ag];walk_at "s1";rw[mB (by decide) (by walk_at "o")]
  walk_at "s1";refine⟨by walk_at "o",fun p hp=>?_⟩
  have e0:[D.int (((f (0:Int).toNat:Nat):Int)+1)]=fL (0+1) (iS f fun j=>d6 (.str sg) (.str (gF y j))):=by
   simp[fL,iS]
  rw[e0];generalize hF:(iS f fun j=>d6 (.str sg) (.str (gF y j)))=F at *
  rw[ag];walk_at "s1";refine⟨fun i σ G'=>∃ x4 x5 x6:Option D,σ=[some (.lst (fL (y.length+1) f)),some (.str sg),some (.str y),some (.ref p),x4,x5,x6]/\G'=gset G p (.lst (fL (i+1) F)),⟨_,_,_,rfl,rfl⟩,?_,?_⟩
  ·rintro i d σ G' hd ⟨x4,x5,x6,rfl,rfl⟩
   obtain⟨hi,rfl⟩:=uZ hd;clear hd;simp only[hV,cr,hX,gN,Ob,OB,OA,Oh,if_true];refine⟨trivial,?_⟩;have a1:iG (fL (y.length+1) f) ((i:Int)+1)=some (.int (f (i+1):Nat)):=by
    rw[mB (by walk_at "o") (by walk_at "o")];congr
   have a2:iG (fL (y.length+1) f) (i:Int)=some (.int (f i:Nat)):=by
    rw[mB (by walk_at "o") (by walk_at "o")];congr
   have a3:iG (fL (i+1) F) (i:Int)=some (.int (F i:Nat)):=by
    rw[mB (by walk_at "o") (by walk_at "o")];congr
   rw[ag];walk_at "s1";rw[Cz];have sc:F (i+1)=if d6 (.str sg) (.str (gF y i))=true then (if f i < (if F i < f (i+1)then F i else f (i+1))+1 then f i else (if F i < f (i+1)then F i else f (i+1))+1)else (if F i < f (i+1)then F i else f (i+1))+1:=by rw[<- hF];exact wH ..
   generalize (if F i < f (i+1)then F i else f (i+1))=mn at *
   have ec:((mn:Nat):Int)+1=((mn+1:Nat):Int):=rfl;rw[ec];refine nN (NX:=fun σ' G'=>σ'=[some (.lst (fL (y.length+1) f)),some (.str sg),some (.str y),some (.ref p),some (.int i),some (.str (gF y i)),some (.int (F (i+1):Nat))]/\G'=gset G p (.lst (fL (i+1) F))) (fun σ' G' hM=>?_) (fun NX hNX=>?_)
   ·obtain⟨rfl,rfl⟩:=hM;clear sc;walk_at "s1";refine⟨by rw[zt];omega,_,_,_,⟨rfl,rfl,rfl⟩,?_⟩
    rw[Df (n:=i+1)]
   ·refine bo (d6 (.str sg) (.str (gF y i))) (fun K hK=>?_) (sR (fun e=>?_) fun e=>?_)
    ·walk_at "st"
     first|done|exact hK
    ·rw[if_pos e]at sc;walk_at "s1";rw[Cz,<- sc];exact hNX _ _ ⟨rfl,rfl⟩
    ·rw[e,if_neg (by decide)]at sc
     simp only[cy];rw[<- sc];exact hNX _ _ ⟨rfl,rfl⟩
  ·rintro σ G' ⟨x4,x5,x6,rfl,rfl⟩
   rw[Ai];simp only[e_,Ov,OC,aw];rw[mI hp];exact h
 ·exact h.elim
theorem Bd(zF:Zz)(hw:HW):bK (eO zF hw) (wJ zF hw) ["one","other","table","i","sign"]:=by
 intro ds G Q h;unfold eO at h;split at h
 ·rename_i x y;obtain⟨⟨hx,hy⟩,h⟩:=h;have hs:=ah;unfold wJ;rw[ag];walk_at "s1";walk_at "conds";intro p hp;have e0:[D.lst (dL 0 ((y.length:Int)+1).toNat)]=j8 x y (0+1):=by
   have:((y.length:Int)+1).toNat=y.length+1:=rfl;rw[this];simp[j8,dL,fL,fB]
  rw[e0];rw[ag];walk_at "s1";refine⟨fun i σ G'=>∃ x3 x4:Option D,σ=[some (.str x),some (.str y),some (.ref p),x3,x4]/\G'=gset G p (.lst (j8 x y (i+1))),⟨_,_,rfl,rfl⟩,?_,?_⟩
  ·rintro i d σ G' hd ⟨x3,x4,rfl,rfl⟩
   obtain⟨hi,rfl⟩:=uZ hd;clear hd;simp only[hV,cr,hX,gN,Ob,OB,OA,Oh,if_true];refine⟨trivial,?_⟩;have a1:iG (j8 x y (i+1)) (i:Int)=some (.lst (fL (y.length+1) (fB (mZ x y) i))):=by
    rw[xr (by walk_at "o") (by walk_at "o")];congr
   walk_at "s1";refine⟨fB (mZ x y) i,rfl,by rw[xt];omega,_,_,⟨rfl,rfl⟩,?_⟩
   rw[A1 (n:=i+1)];rfl
  ·rintro σ G' ⟨x3,x4,rfl,rfl⟩
   rw[Ai];simp only[e_,Ov,OC,aw];rw[mI hp];exact h
 ·exact h.elim
theorem Cd{z:Str}{a:Nat}(h:a < z.length):L3.strAt z (a:Int)=some (.str (gF z a)):=oK (by walk_at "o") (by walk_at "o")
theorem vM(zF:Zz)(hw:HW):bK (c8 zF hw) (pF zF hw) AC0:=by
 intro ds G Q h;unfold c8 at h;split at h
 ·rename_i x y i j;obtain⟨a,b,⟨rfl,rfl,rfl,la,lb,lx,ly,h0⟩,h⟩:=h;have hs:=ah;unfold pF;rw[ag];refine bo (decide (0 < a/\0 < b/\mZ x y (a - 1) (b - 1)=true)) (fun K hK=>?_) (sR (fun e=>?_) fun e=>?_)
  ·refine s_ (decide (0 < (a:Int))) (decide (0 < (b:Int)) && mZ x y (a - 1) (b - 1)) (fun K hK=>?_) (fun ha=>s_ _ _ (fun K hK=>?_) fun hb K hK=>?_) K ?_
   ·walk_at "st"
    first|done|exact hK
   ·walk_at "st"
    first|done|exact hK
   ·rw[decide_eq_true_eq]at ha hb;have e1:((a:Nat):Int) - 1=((a - 1:Nat):Int):=by walk_at "o"
    have e2:((b:Nat):Int) - 1=((b - 1:Nat):Int):=by walk_at "o"
    have s1:=Cd (z:=x) (a:=a - 1) (by walk_at "o")
    have s2:=Cd (z:=y) (a:=b - 1) (by walk_at "o")
    walk_at "st";refine⟨by walk_at "o",by walk_at "o",?_⟩
    exact hK
   ·have e3:(decide (0 < (a:Int)) && (decide (0 < (b:Int)) && mZ x y (a - 1) (b - 1)))=decide (0 < a/\0 < b/\mZ x y (a - 1) (b - 1)=true):=by
     rw[Bool.eq_iff_iff];simp
    rw[e3];exact hK
  ·rw[decide_eq_true_eq]at e;have e1:((a:Nat):Int) - 1=((a - 1:Nat):Int):=by walk_at "o"
   have e2:((b:Nat):Int) - 1=((b - 1:Nat):Int):=by walk_at "o"
   unfold lX at h;rw[if_pos e]at h;walk_at "st";exact⟨by walk_at "o",h⟩
  ·simp only[cy];rw[decide_eq_false_iff_not]at e;unfold lX at h;rw[if_neg e]at h;rw[ag];refine bo (decide (0 < a/\fB (mZ x y) a b=fB (mZ x y) (a - 1) b+1)) (fun K hK=>?_) (sR (fun e=>?_) fun e=>?_)
   ·refine s_ (decide (0 < (a:Int))) (d6 (.int (fB (mZ x y) a b:Nat)) (.int ((fB (mZ x y) (a - 1) b:Nat)+1))) (fun K hK=>?_) (fun ha K hK=>?_) K ?_
    ·walk_at "st"
     first|done|exact hK
    ·rw[decide_eq_true_eq]at ha;have e1:((a:Nat):Int) - 1=((a - 1:Nat):Int):=by walk_at "o"
     have t1:iG (vA x y) (a:Int)=some (.lst (fL (y.length+1) (fB (mZ x y) a))):=by
      unfold vA;rw[xr (by walk_at "o") (by walk_at "o")];congr
     have t2:iG (vA x y) ((a - 1:Nat):Int)=some (.lst (fL (y.length+1) (fB (mZ x y) (a - 1)))):=by
      unfold vA;rw[xr (by walk_at "o") (by walk_at "o")];congr
     have t3:∀ f,iG (fL (y.length+1) f) (b:Int)=some (.int (f b:Nat)):=fun f=>by rw[mB (by walk_at "o") (by walk_at "o")];congr
     walk_at "st"
     first|done|exact hK
    ·have e3:(decide (0 < (a:Int)) && d6 (.int (fB (mZ x y) a b:Nat)) (.int ((fB (mZ x y) (a - 1) b:Nat)+1)))=decide (0 < a/\fB (mZ x y) a b=fB (mZ x y) (a - 1) b+1):=by
      rw[Bool.eq_iff_iff,Bool.and_eq_true,iO,decide_eq_true_eq,decide_eq_true_eq,D.int.injEq];omega
     rw[e3];exact hK
   ·rw[decide_eq_true_eq]at e;have e1:((a:Nat):Int) - 1=((a - 1:Nat):Int):=by walk_at "o"
    rw[if_pos e]at h;walk_at "st";exact⟨by walk_at "o",h⟩
   ·simp only[cy];rw[decide_eq_false_iff_not]at e;rw[if_neg e]at h;have hb:0 < b:=by
     rcases h0 with h0|h0
     ·rcases Nat.eq_zero_or_pos b with z|z
      ·subst z;obtain⟨a',rfl⟩:∃ a',a=a'+1:=⟨a - 1,by walk_at "o"⟩
       exact absurd ⟨h0,rfl⟩ e
      ·exact z
     ·exact h0
    have e2:((b:Nat):Int) - 1=((b - 1:Nat):Int):=by walk_at "o"
    walk_at "st";exact⟨by walk_at "o",h⟩
 ·exact h.elim
theorem L_:d6 (.str "keep") (.str "put")=false:=bz (by intro h;injection h with h;revert h;decide +kernel)
theorem Jo:d6 (.str "strike") (.str "put")=false:=bz (by intro h;injection h with h;revert h;decide +kernel)
theorem Jq:d6 (.str "keep") (.str "strike")=false:=bz (by intro h;injection h with h;revert h;decide +kernel)
theorem Jp:d6 (.str "put") (.str "strike")=false:=bz (by intro h;injection h with h;revert h;decide +kernel)
theorem Dg(zF:Zz)(hw:HW):bK (gf zF hw) (zC zF hw) Aw0:=by
 intro ds G Q h;unfold gf at h;split at h
 ·rename_i x y;obtain⟨⟨hx,hy⟩,h⟩:=h;have hs:=ah;unfold zC;rw[ag];walk_at "s1";walk_at "conds";rw[ag];walk_at "s1";walk_at "conds";rw[ag];walk_at "s1";walk_at "conds";rw[ag];walk_at "s1";walk_at "conds";intro p hp;rw[ag];refine⟨fun m σ G'=>∃ (a b:Nat) (ws:List Stp) (x6:Option D),m=a+b/\StOk (mZ x y) x.length y.length a b ws/\σ=[some (.str x),some (.str y),some (.lst (vA x y)),some (.int a),some (.int b),some (.ref p),x6]/\G'=gset G p (.lst (ws.reverse.map Stp.d)),⟨_,x.length,y.length,[],_,rfl,EE ..,rfl,rfl⟩,?_⟩
  rintro m σ G' ⟨a,b,ws,x6,rfl,ok,rfl,rfl⟩
  refine AX (decide (0 < (a:Int))) (decide (0 < (b:Int))) (fun K hK=>?_) (fun _ K hK=>?_) _ ?_
  ·walk_at "st"
   first|done|exact hK
  ·walk_at "st"
   first|done|exact hK
  ·refine sR (fun e=>?_) fun e=>?_
   ·have h0:0 < a\/0 < b:=by
     rw[Bool.or_eq_true,decide_eq_true_eq,decide_eq_true_eq]at e;omega
    obtain⟨ok2,lt,can⟩:=Hi ok h0;have few:=ok.few;have la:=ok.li;have lb:=ok.lj;refine⟨fun σ2 G2=>∃ (a' b':Nat) (ws:List Stp) (x6:Option D),a'+b' < a+b/\StOk (mZ x y) x.length y.length a' b' ws/\σ2=[some (.str x),some (.str y),some (.lst (vA x y)),some (.int a'),some (.int b'),some (.ref p),x6]/\G2=gset G p (.lst (ws.reverse.map Stp.d)),fun σ2 G2 ⟨a',b',ws',x6',hlt,ok',e1,e2⟩=>⟨a'+b',hlt,a',b',ws',x6',rfl,ok',e1,e2⟩,?_⟩;rw[ag];walk_at "s1";refine⟨a,b,⟨rfl,rfl,la,lb,h0⟩,?_⟩;generalize lX (mZ x y) a b=s at *
    clear h0 ok;cases s with
    | keep i j=>
     obtain⟨c1,c2⟩:=can;have e1:((a:Nat):Int) - 1=((a - 1:Nat):Int):=by walk_at "o"
     have e2:((b:Nat):Int) - 1=((b - 1:Nat):Int):=by walk_at "o"
     have ed:(Stp.keep i j).d=.tup [.str "keep",.int i,.int j]:=rfl;rw[ed];rw[ag];walk_at "s1";refine⟨by rw[NS,Qg];omega,?_⟩
     have ew:ws.reverse.map Stp.d ++ [.tup [.str "keep",.int i,.int j]]=(Stp.keep i j::ws).reverse.map Stp.d:=by rw[PR,Ol];rfl
     rw[ew];rw[ag];refine bo true (fun K hK=>?_) (iteT ?_)
     ·walk_at "st";rw[L_]
      first|done|exact hK
     walk_at "s1";rw[Jq];exact iteT ⟨a - 1,b - 1,_,_,lt,ok2,⟨rfl,rfl,rfl⟩,rfl⟩
    | strike i=>
     have c1:0 < a:=can;have e1:((a:Nat):Int) - 1=((a - 1:Nat):Int):=by walk_at "o"
     have ed:(Stp.strike i).d=.tup [.str "strike",.int i]:=rfl;rw[ed];rw[ag];walk_at "s1";refine⟨by rw[NS,Qg];omega,?_⟩
     have ew:ws.reverse.map Stp.d ++ [.tup [.str "strike",.int i]]=(Stp.strike i::ws).reverse.map Stp.d:=by rw[PR,Ol];rfl
     rw[ew];rw[ag];refine bo true (fun K hK=>?_) (iteT ?_)
     ·walk_at "st";rw[Jo]
      first|done|exact hK
     walk_at "s1";exact⟨a - 1,b,_,_,lt,ok2,⟨rfl,rfl,rfl⟩,rfl⟩
    | put j=>
     have c2:0 < b:=can;have e2:((b:Nat):Int) - 1=((b - 1:Nat):Int):=by walk_at "o"
     have ed:(Stp.put j).d=.tup [.str "put",.int j]:=rfl;rw[ed];rw[ag];walk_at "s1";refine⟨by rw[NS,Qg];omega,?_⟩
     have ew:ws.reverse.map Stp.d ++ [.tup [.str "put",.int j]]=(Stp.put j::ws).reverse.map Stp.d:=by rw[PR,Ol];rfl
     rw[ew];rw[ag];refine bo false (fun K hK=>?_) (iteF ?_)
     ·walk_at "st"
      first|done|exact hK
     simp only[cy];refine bo true (fun K hK=>?_) (iteT ?_)
     ·walk_at "st";rw[Jp]
      first|done|exact hK
     walk_at "s1";exact⟨a,b - 1,_,_,lt,ok2,⟨rfl,rfl,rfl⟩,rfl⟩
   ·rw[Bool.or_eq_false_iff,decide_eq_false_iff_not,decide_eq_false_iff_not]at e;have ha:a=0:=by walk_at "o"
    have hb:b=0:=by walk_at "o"
    subst ha hb;have er:(ws.reverse.map Stp.d).reverse=ws.map Stp.d:=by rw[List.map_reverse,List.reverse_reverse]
    have hh:=h ws ok;simp only[A_,Ov,OC,aw,mI hp];walk_at "s1"
    first|done|exact hh
 ·exact h.elim
local macro_rules | `(tactic| walk_at "st") => do let ls <- (("sSeq " ++ wl).splitOn " ").toArray.mapM (fun s => `(Lean.Parser.Tactic.simpLemma| $(Lean.mkIdent s.toName):term)); `(tactic| simp only [$ls,*, *])
local macro_rules | `(tactic| walk_at "s1") => do let ls <- (wl.splitOn " ").toArray.mapM (fun s => `(Lean.Parser.Tactic.simpLemma| $(Lean.mkIdent s.toName):term)); `(tactic| simp only [$ls,*, *])
local macro_rules | `(tactic| walk_at "conds") => `(tactic| (repeat ((with_reducible refine And.intro ?cc ?_); (case cc => first | decide | omega | rfl))))
theorem Cv{P:Pp}{n:Nat}(ok:P.ok n)(pen:Str):1<=P.num pen:=by
 unfold Pp.num;split
 ·rename_i m e;obtain⟨m',e',h⟩:=ok.gi _ _ e;cases e';omega
 ·exact Int.le_refl _
theorem Bs{P:Pp}{pen:Str}{m:Int}(h:cV P.gr (.inr pen)=some (.int m)):P.num pen=m+1:=by
 unfold Pp.num;rw[h]
theorem FA{P:Pp}{n:Nat}{pen:Str}{k:Sk}(ok:P.ok n)(nx:P.next pen k)(wd:k.wd<=60):(P.add k).ok (n+1):=by
 obtain⟨rfl,e2,e3⟩:=nx;have np:=Cv ok k.pen;refine⟨ok.lo,?_,?_,?_,fun s hs=>?_,?_,fun s hs=>?_,fun q v hv=>?_,fun s hs=>?_⟩
 ·show (P.sks ++ [k]).length<=n+1;rw[On];exact Nat.succ_le_succ ok.ls
 ·exact le_trans (fq _ _ _) (Nat.succ_le_succ ok.lt)
 ·exact le_trans (fq _ _ _) (Nat.succ_le_succ ok.lg)
 ·rcases S5.mp hs with h|h
  ·obtain⟨h1,h2,h3⟩:=ok.sk s h;exact⟨h1,h2,by show s.time<=k.time;omega⟩
  ·rw[Rs.mp h];exact⟨by walk_at "o",wd,Int.le_refl _⟩
 ·show ((P.sks ++ [k]).map Sk.rw).Pairwise mr;rw[Ol,List.pairwise_append];refine⟨ok.ap,List.pairwise_singleton _ _,fun a ha b hb=>?_⟩;obtain⟨s,hs,rfl⟩:=mem_map.mp ha;rw[Od,Qy,Rs]at hb;subst hb
  rintro⟨z1,z2⟩
  obtain⟨m,hm,le⟩:=ok.gm s hs;have z1':s.pen=k.pen:=z1;have z2':s.num=k.num:=z2;rw[z1']at hm;have:=Bs hm;omega
 ·show ∃ w:Str,cV (bS P.st k.nm.key (.str (NU "waits"))) s.nm.key=some (.str w);rw[gc];split
  ·exact⟨_,rfl⟩
  ·rename_i ne;rcases S5.mp hs with h|h
   ·exact ok.kn s h
   ·exact absurd (by rw[Rs.mp h]) ne
 ·have hv':cV (bS P.gr (.inr k.pen) (.int k.num)) q=some v:=hv;rw[gc]at hv';split at hv'
  ·cases hv';exact⟨_,rfl,by walk_at "o"⟩
  ·exact ok.gi _ _ hv'
 ·show ∃ m:Int,cV (bS P.gr (.inr k.pen) (.int k.num)) (.inr s.pen)=some (.int m)/\s.num<=m;rw[gc];split
  ·rename_i z;refine⟨_,rfl,?_⟩;rcases S5.mp hs with h|h
   ·obtain⟨m,hm,le⟩:=ok.gm s h;rw[z]at hm;have:=Bs hm;omega
   ·rw[Rs.mp h];exact Int.le_refl _
  ·rename_i ne;rcases S5.mp hs with h|h
   ·exact ok.gm s h
   ·exact absurd (by rw[Rs.mp h]) ne
theorem FD(l:List Nm):pl 8 (.lst (l.map Nm.d)):=fun d hd=>by
 obtain⟨n,_,rfl⟩:=mem_map.mp hd;intro e he;simp only[Oz,OF,or_false]at he;rcases he with rfl|rfl<;>exact trivial
theorem fK.none{G G':Gp}{a:NR}(e:fK G G')(h:G' a=none):G a=none:=by
 cases q:G a with
 | none=>rfl
 | some o=>rw[e _ _ q]at h;cases h
theorem Hq{t:qt}{a b0:ck}{E:Ends3}{σ:ff}{G:Gp}{b:Bool}(ht:∀ K:Bool->Gp->Prop,(∀ G',fK G G'->K b G')->t σ G K)(h:∀ G',fK G G'->(if b=true then a E σ G' else b0 E σ G')):jH t a b0 E σ G:=ht _ h
theorem JG{P:Pp}{n:Nat}(ok:P.ok n){m:Nm}(h:m∈P.wai):cV P.st m.key=some (.str (NU "waits")):=by
 obtain⟨k,hk,rfl⟩:=mem_map.mp h;obtain⟨h1,h2⟩:=mem_filter.mp hk;obtain⟨w,hw0⟩:=ok.kn k h1;rw[hw0]at h2 ⊢;exact congrArg some (iO.mp h2)
theorem zf{P:Pp}{k:Sk}{n:Nat}(ok:P.ok n)(h:fk (P.sks.map Sk.rw))(e:k.time=P.time+1):fk ((P.add k).sks.map Sk.rw):=by
 show ((P.sks ++ [k]).map Sk.rw).Pairwise _
 rw[Ol,List.pairwise_append];refine⟨h,List.pairwise_singleton _ _,fun a ha b hb=>?_⟩;obtain⟨s,hs,rfl⟩:=mem_map.mp ha;rw[Od,Qy,Rs]at hb;subst hb;have t:=(ok.sk s hs).2.2;show Rw.lt s.rw k.rw=true
 unfold Rw.lt;have t1:s.rw.time=s.time:=rfl;have t2:k.rw.time=k.time:=rfl;rw[if_neg (by rw[t1,t2];omega)]
 exact decide_eq_true (by rw[t1,t2];omega)
theorem F9{P:Pp}{k:Sk}(h:P.firm):(P.add k).firm:=fun s hs=>by
 show cV (bS P.st k.nm.key _) s.nm.key=_\/cV (bS P.st k.nm.key _) s.nm.key=_
 rw[gc];split
 ·exact .inl rfl
 ·rename_i ne;rcases S5.mp hs with q|q
  ·exact h s q
  ·exact absurd (by rw[Rs.mp q]) ne
theorem IN{P:Pp}(h:P.firm):∀ s∈P.sks,s.nm∈P.unw:=fun s hs=>by
 unfold Pp.unw;refine mem_map.mpr ⟨s,mem_filter.mpr ⟨hs,?_⟩,rfl⟩;unfold fP;rcases h s hs with e|e
 ·rw[e,Option.getD_some,k9 (by decide +kernel)];rfl
 ·rw[e,Option.getD_some,k9 (by decide +kernel)];rfl
theorem En{out:List Sk}{names:List Nm}{row:List Sl}(h1:∀ s∈out,s.nm∈names)(h2:∀ s∈out,∀ n∈made s,n∈row):hZ out names row=out:=by
 unfold hZ;rw[List.filter_eq_self.mpr fun s hs=>decide_eq_true (h1 s hs)];exact List.filter_eq_self.mpr fun s hs=>List.all_eq_true.mpr fun n hn=>decide_eq_true (h2 s hs n hn)
def LA(x:Str)(out:List Sk)(p:Sl×Sl):Seat:=⟨p.1,p.2,(cT (ay x out) p.2).getD "",(cT (du out) p.2).getD ""⟩
theorem pT{P:Pp}{ds:List D}{n:Nat}(h:Lk P ds n){out:List Sk}(so:Srt P out):P.seats out=(vw P.old P.sks).map (LA P.old P.sks):=by
 have e:out=P.sks:=srt_uniq so ⟨h.st,fun _=>Iff.rfl⟩;subst e;unfold Pp.seats jD;rw[En (IN h.fm) h.sm.pl];rfl
theorem uz{P:Pp}{ds:List D}{n:Nat}(h:Lk P ds n){out:List Sk}(so:Srt P out):(P.seats out).length=ds.length:=by
 rw[pT h so,h.rv];unfold kA;rw[NS,NS]
theorem Kz{P:Pp}{ds:List D}{n:Nat}(h:Lk P ds n){out:List Sk}(so:Srt P out){i:Int}(h0:0<=i)(h1:i<=ds.length):AN P.old P.sks i.toNat (kK (P.seats out) i):=by
 have l:=uz h so
 by_cases e:i=0
 ·subst e;exact .inl ⟨rfl,rfl⟩
 ·have lt:(i - 1).toNat < (P.seats out).length:=by walk_at "o"
  refine .inr ?_;rw[pT h so]at lt ⊢;rw[NS]at lt;have e1:i.toNat - 1=(i - 1).toNat:=by walk_at "o"
  refine⟨(vw P.old P.sks)[(i - 1).toNat]'lt,by walk_at "o",?_,?_⟩
  ·rw[e1,NV lt]
  ·unfold kK;rw[if_neg e,N8,NV lt];rfl
theorem Ky{P:Pp}{ds:List D}{n:Nat}(h:Lk P ds n){out:List Sk}(so:Srt P out){i j:Int}(h0:0<=i)(h1:i<=j):pS (P.seats out) i j=Ih P.old P.sks i.toNat j.toNat:=by
 unfold pS Ih;rw[pT h so,<- Re,<- Rc,Ot,show (j - i).toNat=j.toNat - i.toNat by walk_at "o"]
 rfl
theorem FP{P:Pp}{ds:List D}{n:Nat}(h:Lk P ds n)(pen:Str)(t:Int)(act:Act):∀ y∈made ⟨pen,P.num pen,t,act⟩,y∉ar::aE P.old.length P.sks:=
 Bx (Cv h.ok pen) fun r hr z=>by
  obtain⟨m,hm,le⟩:=h.ok.gm r hr;have z1:r.pen=pen:=z.1;have z2:r.num=P.num pen:=z.2;rw[z1]at hm;have:=Bs hm;omega
theorem FQ{P:Pp}{ds ds':List D}{n:Nat}(h:Lk P ds n){pen:Str}{act:Act}(wd:(Sk.mk pen (P.num pen) (P.time+1) act).wd<=60)(hs:Sim P.old (P.sks ++ [⟨pen,P.num pen,P.time+1,act⟩])/\kA P.old (P.sks ++ [⟨pen,P.num pen,P.time+1,act⟩])=ds'):Lk (P.add ⟨pen,P.num pen,P.time+1,act⟩) ds' (n+1):=
 ⟨FA h.ok ⟨rfl,rfl,rfl⟩ wd,F9 h.fm,zf h.ok h.st rfl,hs.1,hs.2.symm⟩
theorem B7(y:Str):(oE y).map (fun s=>D.tup [.str s,.str ""])=iF y:=by
 unfold oE iF L3.signs;rw[Ot,Ot];rfl
section
variable{P:Pp}{ds:List D}{n:Nat}{out:List Sk}{pen:Str}
theorem Kx{i:Int}{y:Str}(h:Lk P ds n)(so:Srt P out)(h0:0<=i)(h1:i<=ds.length)(ly:y.length<=60):Lk (P.add ⟨pen,P.num pen,P.time+1,.put (kK (P.seats out) i) y⟩) (ds.take i.toNat ++ iF y ++ ds.drop i.toNat) (n+1):=by
 refine FQ h ly ?_;have:=ET (k:=⟨pen,P.num pen,P.time+1,.put (kK (P.seats out) i) y⟩) h.sm (FP h pen _ _) (Kz h so h0 h1) rfl;rw[h.rv,<- B7];exact this
theorem CB{i j:Int}(h:Lk P ds n)(so:Srt P out)(h0:0<=i)(h1:i<=j)(h3:j - i<=60):(pS (P.seats out) i j).length<=60:=by
 unfold pS;rw[NS,Ou];omega
theorem Dz{i j:Int}(h:Lk P ds n)(so:Srt P out)(h0:0<=i)(h1:i<=j)(h3:j - i<=60):Lk (P.add ⟨pen,P.num pen,P.time+1,.strike (pS (P.seats out) i j)⟩) (ds.take i.toNat ++ ds.drop j.toNat) (n+1):=by
 refine FQ h (CB h so h0 h1 h3) ?_;rw[Ky h so h0 h1,h.rv];exact zp h.sm (by walk_at "o") rfl
end
theorem fR(x:Str):(iF x).length=x.length:=by simp[iF,L3.signs_length]
theorem B8{y:Str}{j b:Nat}(hj:j<=b)(hb:b<=y.length):iF ⟨(gT y.cps.toList (some (j:Int)) (some (b:Int))).toArray⟩=((iF y).drop j).take (b - j):=by
 have ly:y.cps.toList.length=y.length:=Array.length_toList;have e1:HT.sIx y.cps.toList.length 0 (some (j:Int))=j:=by simp only[HT.sIx];rw[if_neg (by walk_at "o"),Int.toNat_natCast];omega
 have e2:HT.sIx y.cps.toList.length y.cps.toList.length (some (b:Int))=b:=by simp only[HT.sIx];rw[if_neg (by walk_at "o"),Int.toNat_natCast];omega
 unfold gT;rw[e1,e2];show ((((y.cps.toList.drop j).take (b - j)).toArray.toList.map fun c=>D.str ⟨#[c]⟩).map fun d=>D.tup [d,.str ""])=_
 rw[Rc,Re,Rc,Re];rfl
theorem IF{y:Str}{j b:Nat}(hj:j<=b)(hb:b<=y.length):(⟨(gT y.cps.toList (some (j:Int)) (some (b:Int))).toArray⟩:Str).length=b - j:=by
 rw[<- fR,B8 hj hb,Ou,O8,fR];omega
def JC(e:Nat->Nat->Bool)(n m:Nat):Nat->Nat->List (Nat×Nat)->Prop
 | i,j,[]=>i<=n/\j<=m
 | i,j,(a,b)::r=>(i<=a/\j<=b/\a < n/\b < m/\e a b=true)/\JC e n m (a+1) (b+1) r
theorem FV{e:Nat->Nat->Bool}{n m:Nat}:∀ {ps:List (Nat×Nat)} {i j i' j':Nat},JC e n m i' j' ps->i<=i'->j<=j'->JC e n m i j ps
 | [],_,_,_,_,h,h1,h2=>⟨le_trans h1 h.1,le_trans h2 h.2⟩
 | (_,_)::_,_,_,_,_,h,h1,h2=>⟨⟨le_trans h1 h.1.1,le_trans h2 h.1.2.1,h.1.2.2⟩,h.2⟩
theorem jz{e:Nat->Nat->Bool}{n m:Nat}:∀ (ws:List Stp) (i j:Nat),GI e n m i j ws->i<=n->j<=m->JC e n m i j (keeps ws)/\cost ws+2*(keeps ws).length+i+j=n+m
 | [],i,j,h,_,_=>by
  obtain⟨rfl,rfl⟩:=h;exact⟨⟨le_refl _,le_refl _⟩,by show 0+2*0+_+_=_;omega⟩
 | .keep a b::r,i,j,h,_,_=>by
  obtain⟨rfl,rfl,h1,h2,h3,h4⟩:=h;obtain⟨k,c⟩:=jz r _ _ h4 h1 h2;refine⟨⟨⟨le_refl _,le_refl _,h1,h2,h3⟩,k⟩,?_⟩;show (0+cost r)+2*((keeps r).length+1)+_+_=_
  omega
 | .strike a::r,i,j,h,_,hj=>by
  obtain⟨rfl,h1,h2⟩:=h;obtain⟨k,c⟩:=jz r _ _ h2 h1 hj;refine⟨FV k (QM _) (le_refl _),?_⟩;show (1+cost r)+2*(keeps r).length+_+_=_
  omega
 | .put b::r,i,j,h,hi,_=>by
  obtain⟨rfl,h1,h2⟩:=h;obtain⟨k,c⟩:=jz r _ _ h2 hi h1;refine⟨FV k (le_refl _) (QM _),?_⟩;show (1+cost r)+2*(keeps r).length+_+_=_
  omega
theorem KI{e:Nat->Nat->Bool}{n m:Nat}:∀ {ps:List (Nat×Nat)} {i j:Nat},JC e n m i j ps->i<=n/\j<=m
 | [],_,_,h=>h
 | (_,_)::_,_,_,h=>⟨le_trans h.1.1 (le_of_lt h.1.2.2.1),le_trans h.1.2.1 (le_of_lt h.1.2.2.2.1)⟩
theorem Ip{α:Type}{X Y:List α}{i j a b:Nat}(hi:i<=a)(hj:j<=b)(ha:a<=X.length)(hb:b<=Y.length):
  (Y.take j ++ X.drop i).take (j+(a - i)) ++ (Y.drop j).take (b - j) ++ (Y.take j ++ X.drop i).drop (j+(a - i))=Y.take j ++ (X.drop i).take (a - i) ++ (Y.drop j).take (b - j) ++ X.drop a:=by
 have l:(Y.take j).length=j:=by rw[Ou];omega
 have t:(Y.take j ++ X.drop i).take (j+(a - i))=Y.take j ++ (X.drop i).take (a - i):=by
  have:=List.take_length_add_append (l₁:=Y.take j) (l₂:=X.drop i) (a - i);rw[l]at this;exact this
 have d:(Y.take j ++ X.drop i).drop (j+(a - i))=X.drop a:=by
  have:=List.drop_length_add_append (l₁:=Y.take j) (l₂:=X.drop i) (a - i);rw[l,List.drop_drop,show i+(a - i)=a by walk_at "o"]at this
  exact this
 rw[t,d]
theorem BC{α:Type}{X Y:List α}{i j a b:Nat}(hi:i<=a)(hj:j<=b)(ha:a<=X.length)(hb:b<=Y.length):
  (Y.take j ++ (X.drop i).take (a - i) ++ (Y.drop j).take (b - j) ++ X.drop a).take j ++ (Y.take j ++ (X.drop i).take (a - i) ++ (Y.drop j).take (b - j) ++ X.drop a).drop (j+(a - i))=Y.take b ++ X.drop a:=by
 have l:(Y.take j).length=j:=by rw[Ou];omega
 have l2:(Y.take j ++ (X.drop i).take (a - i)).length=j+(a - i):=by rw[On,l,Ou,O8];omega
 have t:(Y.take j ++ (X.drop i).take (a - i) ++ (Y.drop j).take (b - j) ++ X.drop a).take j=Y.take j:=by
  rw[Px,Px];exact List.take_left' l
 have d:(Y.take j ++ (X.drop i).take (a - i) ++ (Y.drop j).take (b - j) ++ X.drop a).drop (j+(a - i))=(Y.drop j).take (b - j) ++ X.drop a:=by
  rw[Px (Y.take j ++ _)];exact List.drop_left' l2
 rw[t,d,<- Px];congr 1;have:=List.take_add (l:=Y) (i:=j) (j:=b - j);rw[show j+(b - j)=b by walk_at "o"]at this
 exact this.symm
theorem FS{α:Type}{X Y:List α}{a b:Nat}{z:α}(ha:X[a]?=some z)(hb:Y[b]?=some z):Y.take b ++ X.drop a=Y.take (b+1) ++ X.drop (a+1):=by
 obtain⟨h1,e1⟩:=List.getElem?_eq_some_iff.mp ha;rw[Om,hb,Option.toList_some,Px,OS h1,e1];rfl
theorem xo{x:Str}{a:Nat}(h:a < x.length):(iF x)[a]?=some (.tup [.str (gF x a),.str ""]):=by
 have h':a < x.cps.toList.length:=by rw[Array.length_toList];exact h
 unfold iF L3.signs gF;rw[N8,N8,NV h',Int.toNat_natCast,Oe,NV h'];rfl
theorem Et{x y:Str}{a b:Nat}(ha:a < x.length)(hb:b < y.length)(e:mZ x y a b=true):(iF x)[a]?=(iF y)[b]?:=by
 rw[xo ha,xo hb];have:=iO.mp e;rw[this]
theorem zR(P:Pp)(k:Sk):jZ (P.add k).sks=jZ P.sks+k.sz:=by
 show ((P.sks ++ [k]).map Sk.sz).sum=_
 rw[Ol,List.sum_append];rfl
theorem CQ{P:Pp}{pen:Str}{k:Sk}(h:P.by1 pen)(hp:k.pen=pen)(ha:(∃ a y,k.act=.put a y)\/∃ N,k.act=.strike N)(hz:0 < k.sz):(P.add k).by1 pen:=fun s hs=>by
 have st:cV (P.add k).st s.nm.key=some (.str (NU "waits")):=by
  show cV (bS P.st k.nm.key _) s.nm.key=_
  rw[gc];split
  ·rfl
  ·rename_i ne;rcases S5.mp hs with q|q
   ·exact (h s q).2.1
   ·exact absurd (by rw[Rs.mp q]) ne
 rcases S5.mp hs with q|q
 ·exact⟨(h s q).1,st,(h s q).2.2⟩
 ·rw[Rs.mp q]at st ⊢;exact⟨hp,st,ha,hz⟩
theorem mG:∀ (a b:List Stp),keeps (a ++ b)=keeps a ++ keeps b
 | [],b=>rfl
 | .keep i j::r,b=>by
  show (i,j)::keeps (r ++ b)=_
  rw[mG r b];rfl
 | .strike _::r,b=>mG r b
 | .put _::r,b=>mG r b
theorem tY(zF:Zz)(hw:HW):bK (cM zF hw) (no zF hw) Au0:=by
 intro ds G Q h;unfold cM at h;split at h
 ·rename_i x y;obtain⟨⟨lx,ly⟩,h⟩:=h;have hs:=ah;unfold no;walk_at "st";refine fun ws hw=>?_;have fw:=hw.few;refine⟨by rw[NS];omega,fun i acc G'=>acc=(keeps (ws.take i)).map prD/\G'=G,⟨rfl,rfl⟩,?_,?_⟩
  ·rintro i dd acc G' hd ⟨rfl,rfl⟩
   rw[N8]at hd;cases hq:ws[i]? with
   | none=>rw[hq]at hd;cases hd
   | some w=>
    rw[hq]at hd;cases hd;have tk:(keeps (ws.take (i+1))).map prD=(keeps (ws.take i)).map prD ++ (keeps [w]).map prD:=by
     rw[Om,hq,Option.toList_some,mG,Ol]
    refine⟨⟨by simp[Oh,List.replicate],rfl⟩,?_⟩
    dsimp only;rw[tk];generalize (keeps (ws.take i)).map prD=A0 at *
    clear tk;have n1:=Jq;have n2:d6 (.str "strike") (.str "keep")=false:=bz (by intro h;injection h with h;revert h;decide +kernel)
    have n3:d6 (.str "put") (.str "keep")=false:=bz (by intro h;injection h with h;revert h;decide +kernel)
    cases w with
    | keep a b=>
     have ed:(Stp.keep a b).d=.tup [.str "keep",.int a,.int b]:=rfl;rw[ed];walk_at "st";exact⟨by decide,rfl⟩
    | strike a=>
     have ed:(Stp.strike a).d=.tup [.str "strike",.int a]:=rfl;rw[ed];walk_at "st";exact (OO _).symm
    | put a=>
     have ed:(Stp.put a).d=.tup [.str "put",.int a]:=rfl;rw[ed];walk_at "st";exact (OO _).symm
  ·rintro acc G' ⟨rfl,rfl⟩
   rw[NS,Oo];exact h ws hw
 ·exact h.elim
theorem xJ(zF:Zz)(hw:HW):bK (dD zF hw) (r0 zF hw) Ay0:=by
 intro ds G Q h;unfold dD at h;split at h
 ·rename_i n;have hs:=ah;have l26:(NU "abcdefghijklmnopqrstuvwxyz").length=26:=by decide +kernel
  have l0:(NU "").length=0:=by decide +kernel
  unfold r0;rw[ag];walk_at "s1";rw[ag];walk_at "s1";refine⟨⟨by decide,by decide⟩,?_⟩
  rw[ag];walk_at "s1";refine⟨by decide,⟨by walk_at "o",by walk_at "o"⟩,fun i σ' G'=>∃ (w:Str) (r:Int) (u:Option D),σ'=[some (.int n),some (.str w),some (.int r),u]/\w.length<=i/\G'=G,⟨_,_,none,rfl,Nat.le_of_eq l0,rfl⟩,?_,?_⟩
  ·rintro i dd σ' G' hd ⟨w,r,u,rfl,hw0,rfl⟩
   obtain⟨hi,rfl⟩:=nW hd;have b26:=bF (a:=r) (b:=26) (by decide)
   have at1:=oK (m:=NU "abcdefghijklmnopqrstuvwxyz") b26.1 (by rw[l26];exact b26.2)
   walk_at "s1";rw[ag];walk_at "s1";have lc:(gF (NU "abcdefghijklmnopqrstuvwxyz") (r % 26)).length=1:=rfl;exact⟨by decide,by walk_at "o",by rw[lc];omega,⟨by decide,by decide⟩,.inl ⟨by decide,by decide⟩,_,_,_,⟨rfl,rfl,rfl⟩,by rw[cC,lc];omega⟩
  ·rintro σ' G' ⟨w,r,u,rfl,hw0,rfl⟩
   have:=h w;walk_at "s1"
 ·exact h.elim
theorem pj(zF:Zz)(hw:HW):bK (bQ zF hw) (jh zF hw) Ao0:=by
 intro ds G Q h;unfold bQ at h;split at h
 ·rename_i rs;obtain⟨l,⟨rfl,ll,hl⟩,h⟩:=h;have hs:=ah;have n1:=Jp;have n2:=Jo;unfold jh;rw[ag];walk_at "s1";rw[ag];walk_at "s1";refine⟨fun i σ' G'=>∃ a b c:Option D,σ'=[some (.lst (l.map Sk.d)),some (.int (jZ (l.take i):Nat)),a,b,c]/\G'=G,⟨none,none,none,rfl,rfl⟩,?_,?_⟩
  ·rintro i dd σ' G' hd ⟨a,b,c,rfl,rfl⟩
   rw[N8]at hd;cases hq:l[i]? with
   | none=>rw[hq]at hd;cases hd
   | some k=>
    rw[hq]at hd;cases hd;have tk:jZ (l.take (i+1))=jZ (l.take i)+k.sz:=by
     unfold jZ;rw[Om,hq,Option.toList_some,Ol,List.sum_append];rfl
    have wd:=(hl k (N9 hq)).1;have ed:k.d=.tup [.tup [.str k.pen,.int k.num],.int k.time,k.act.d]:=rfl;rw[ed];refine⟨rfl,?_⟩;rcases (hl k (N9 hq)).2 with ⟨an,y,e⟩|⟨N,e⟩
    ·have ez:k.sz=y.length:=by unfold Sk.sz;rw[e]
     have ea:k.act.d=.tup [.str "put",an.d,.str y]:=by rw[e];rfl
     rw[ea];walk_at "s1";have yl:y.length<=60:=by unfold Sk.wd at wd;rw[e]at wd;exact wd
     exact⟨by walk_at "o",_,_,_,by rw[Int.natCast_add],rfl,rfl,rfl⟩
    ·have ez:k.sz=N.length:=by unfold Sk.sz;rw[e]
     have ea:k.act.d=.tup [.str "strike",.tup (N.map Sl.d)]:=by rw[e];rfl
     rw[ea];walk_at "s1";exact⟨_,_,_,by rw[NS,Int.natCast_add],rfl,rfl,rfl⟩
  ·rintro σ' G' ⟨a,b,c,rfl,rfl⟩
   rw[NS,Oo];walk_at "s1"
 ·exact h.elim
theorem Lk.le{P:Pp}{ds:List D}{n m:Nat}(h:Lk P ds n)(hl:n<=m):Lk P ds m:=⟨h.ok.le hl,h.fm,h.st,h.sm,h.rv⟩
theorem zy(zF:Zz)(hw:HW):bK (dh zF hw) (ue zF hw) Ap0:=by
 intro ds G Q h;unfold dh at h;split at h
 ·rename_i x y pen;obtain⟨⟨lx,ly⟩,h⟩:=h;have hs:=ah;have lx6:x.length<=60:=by walk_at "o"
  have uX:=fR x;have uY:=fR y;unfold ue;rw[ag];walk_at "s1"
  rintro p hp d s g G1 ⟨hd,hs1,hg⟩ of pa
  have gs:∀ a,(gset G p (.ins zF.C_Paper [] [])) a=none->G a=none:=fun a ha=>by
   by_cases z:a=p
   ·rw[z];exact hp
   ·rwa[am z]at ha
  have fr:∀ a∈[p,d,s,g],G a=none:=fun a ha=>by
   simp only[Oz,OF,or_false]at ha;rcases ha with rfl|rfl|rfl|rfl
   ·exact hp
   ·exact gs _ hd
   ·exact gs _ hs1
   ·exact gs _ hg
  have e1:fK G G1:=fun a o ha=>of a o (fun z=>by rw[fr a z]at ha;cases ha) ((am fun z=>by rw[z,hp]at ha;cases ha).trans ha)
  clear of hd hs1 hg hp gs;rw[ag];walk_at "s1";rw[ag];walk_at "s1";rw[ag];walk_at "s1";intro ws sw;obtain⟨kc,cst⟩:=jz ws 0 0 sw.walk (OD _) (OD _);have fw:=sw.few;have kl:(keeps ws).length<=100:=by walk_at "o"
  generalize hK:keeps ws=K at *
  have lk0:Lk ⟨x,[],[],[],0⟩ ((iF y).take 0 ++ (iF x).drop 0) 0:=⟨⟨lx,le_refl _,le_refl _,le_refl _,(fun _ h=>by cases h),List.Pairwise.nil,(fun _ h=>by cases h),(fun _ _ h=>by cases h),(fun _ h=>by cases h)⟩,(fun _ h=>by cases h),List.Pairwise.nil,Cc x,by
   rw[List.take_zero,Pj,QC,<- B7];exact (EU x).symm⟩
  refine⟨by walk_at "o",by walk_at "o",by walk_at "o",by walk_at "o",by rw[NS];omega,fun q σ' G'=>∃ (i j:Nat) (P:Pp) (u1 u2 u3:Option D),σ'=[some (.str x),some (.str y),some (.str pen),some (.ref p),some (.int (i:Nat)),some (.int (j:Nat)),u1,u2,u3]/\fK G G'/\mL zF.C_Paper hw G' p d s g P/\P.by1 pen/\P.old=x/\((q<=K.length/\JC (mZ x y) x.length y.length i j (K.drop q)/\Lk P ((iF y).take j ++ (iF x).drop i) i/\jZ P.sks+2*q=i+j)\/(q=K.length+1/\Lk P (iF y) (x.length+1)/\jZ P.sks+2*K.length=x.length+y.length)),⟨0,0,_,none,none,none,rfl,e1,pa,(fun _ h=>by cases h),rfl,.inl ⟨OD _,kc,lk0,rfl⟩⟩,?_,?_⟩
  ·clear lk0 pa e1 kc
   rintro q dd σ' G' hd ⟨i,j,P,u1,u2,u3,rfl,eG,pa,b1,ox,inv⟩
   obtain⟨a,b,rfl,hi,hj,ha,hb,lk,ms,nx⟩:∃ a b:Nat,dd=.tup [.int a,.int b]/\i<=a/\j<=b/\a<=x.length/\b<=y.length/\Lk P ((iF y).take j ++ (iF x).drop i) i/\jZ P.sks+2*q=i+j/\((q < K.length/\a < x.length/\b < y.length/\mZ x y a b=true/\JC (mZ x y) x.length y.length (a+1) (b+1) (K.drop (q+1)))\/(q=K.length/\a=x.length/\b=y.length)):=by
    rcases inv with ⟨hq,kc,lk,ms⟩|⟨hq,_,_⟩
    ·by_cases lt:q < K.length
     ·rw[OS lt]at kc;rw[List.getElem?_append_left (by rw[NS];exact lt),N8,NV lt]at hd
      generalize K[q]=ab at *
      obtain⟨a,b⟩:=ab;cases hd;obtain⟨⟨k1,k2,k3,k4,k5⟩,k6⟩:=kc;exact⟨a,b,rfl,k1,k2,le_of_lt k3,le_of_lt k4,lk,ms,.inl ⟨lt,k3,k4,k5,k6⟩⟩
     ·have e:q=K.length:=by walk_at "o"
      subst e;rw[List.getElem?_append_right (by rw[NS];omega),NS,RB]at hd
      cases hd;obtain⟨k1,k2⟩:=KI kc;exact⟨_,_,rfl,k1,k2,le_refl _,le_refl _,lk,ms,.inr ⟨rfl,rfl,rfl⟩⟩
    ·have:=(List.getElem?_eq_some_iff.mp hd).1;rw[On,NS,PV]at this;omega
   clear inv hd;refine⟨rfl,?_⟩;have i40:i<=40:=by walk_at "o"
   walk_at "s1";rw[ag];walk_at "s1";have en:(j:Int)+a - i=((j+(a - i):Nat):Int):=by walk_at "o"
   rw[en];clear en;have eo:∀ {G1 G2:Gp},fK G G1->Ei [p,d,s,g] G1 G2->fK G G2:=fun e1 of a o h=>of a o (fun z=>by rw[fr a z]at h;cases h) (e1 a o h)
   have aX:a<=(iF x).length:=by rw[uX];exact ha
   have bY:b<=(iF y).length:=by rw[uY];exact hb
   have lL:((iF y).take j ++ (iF x).drop i).length=j+(x.length - i):=by rw[On,Ou,O8,uX,uY];omega
   have mid:=Ip hi hj aX bY;have stk:=BC hi hj aX bY;have lM:((iF y).take j ++ ((iF x).drop i).take (a - i) ++ ((iF y).drop j).take (b - j) ++ (iF x).drop a).length=j+(a - i)+(b - j)+(x.length - a):=by
    simp only[On,Ou,O8,uX,uY];omega
   have cl:=IF hj hb;have cu:=B8 hj hb;generalize hM:(iF y).take j ++ ((iF x).drop i).take (a - i) ++ ((iF y).drop j).take (b - j) ++ (iF x).drop a=M at *
   refine nN (NX:=fun σ' G2=>∃ P1:Pp,σ'=[some (.str x),some (.str y),some (.str pen),some (.ref p),some (.int (i:Nat)),some (.int (j:Nat)),some (.int (a:Nat)),some (.int (b:Nat)),some (.int ((j+(a - i):Nat):Int))]/\fK G G2/\mL zF.C_Paper hw G2 p d s g P1/\P1.by1 pen/\P1.old=x/\Lk P1 M (i+1)/\jZ P1.sks=jZ P.sks+(b - j)) (fun σ' G2 hN=>?_) (fun NX hNX=>?_)
   ·obtain⟨P1,rfl,eG2,pa1,b11,ox1,lk1,ms1⟩:=hN;clear lk b1 ox pa eG mid cl cu;refine nN (NX:=fun σ' G3=>∃ P2:Pp,σ'=[some (.str x),some (.str y),some (.str pen),some (.ref p),some (.int (i:Nat)),some (.int (j:Nat)),some (.int (a:Nat)),some (.int (b:Nat)),some (.int ((j+(a - i):Nat):Int))]/\fK G G3/\mL zF.C_Paper hw G3 p d s g P2/\P2.by1 pen/\P2.old=x/\Lk P2 ((iF y).take b ++ (iF x).drop a) (a+1)/\jZ P2.sks=jZ P1.sks+(a - i)) (fun σ' G3 hN=>?_) (fun NX hNX=>?_)
    ·obtain⟨P2,rfl,eG3,pa2,b12,ox2,lk2,ms2⟩:=hN;rw[ag];walk_at "s1";have fin:(q+1<=K.length/\JC (mZ x y) x.length y.length (a+1) (b+1) (K.drop (q+1))/\Lk P2 ((iF y).take (b+1) ++ (iF x).drop (a+1)) (a+1)/\jZ P2.sks+2*(q+1)=a+1+(b+1))\/(q+1=K.length+1/\Lk P2 (iF y) (x.length+1)/\jZ P2.sks+2*K.length=x.length+y.length):=by
      rcases nx with ⟨n1,n2,n3,n4,n5⟩|⟨n1,n2,n3⟩
      ·have z:=Et n2 n3 n4;rw[xo n2]at z;rw[FS (xo n2) z.symm]at lk2;exact .inl ⟨n1,n5,lk2,by walk_at "o"⟩
      ·subst n1 n2 n3;have e1:(iF y).take y.length=iF y:=List.take_of_length_le (by walk_at "o")
       have e2:(iF x).drop x.length=[]:=List.drop_of_length_le (by walk_at "o")
       rw[e1,e2,OO]at lk2;exact .inr ⟨rfl,lk2,by walk_at "o"⟩
     exact⟨a+1,b+1,P2,_,_,_,⟨rfl,rfl,rfl,rfl,rfl⟩,pa2,b12,ox2,fin⟩
    ·clear nx ms;have TW:P1.ok 49:=lk1.ok.le (by walk_at "o")
     refine bo (decide ((j:Int) < ((j+(a - i):Nat):Int))) (fun K hK=>?_) (sR (fun e=>?_) fun e=>?_)
     ·walk_at "st"
      first|done|exact hK
     ·rw[decide_eq_true_eq]at e;have g1:=pa1.1;walk_at "s1";refine⟨P1,d,s,g,⟨pa1,TW⟩,fun out so=>⟨by rw[uz lk1 so,lM];omega,fun G' of pt=>?_⟩⟩
      have ml:=CB (i:=j) (j:=((j+(a - i):Nat):Int)) lk1 so (by walk_at "o") (by walk_at "o") (by walk_at "o")
      have q2:=Dz (pen:=pen) (i:=j) (j:=((j+(a - i):Nat):Int)) lk1 so (by walk_at "o") (by walk_at "o") (by walk_at "o")
      have q3:(pS (P1.seats out) j ((j+(a - i):Nat):Int)).length=a - i:=by
       unfold pS;rw[NS,Ou,O8,uz lk1 so,lM];omega
      rw[Int.toNat_natCast,Int.toNat_natCast,stk]at q2;refine hNX _ _ ⟨_,rfl,eo eG2 of,pt,CQ b11 rfl (.inr ⟨_,rfl⟩) ?_,ox1,q2.le (by walk_at "o"),?_⟩
      ·show 0 < (pS _ _ _).length;rw[q3];omega
      ·rw[zR];show _+(pS _ _ _).length=_
       rw[q3]
     ·rw[decide_eq_false_iff_not]at e;have ei:a=i:=by walk_at "o"
      subst ei;simp only[cy];refine hNX _ _ ⟨_,rfl,eG2,pa1,b11,ox1,?_,by walk_at "o"⟩
      rw[RB,Nat.add_zero,Pl]at stk;rw[<- stk];exact lk1
   ·clear nx ms stk lM;have TW:P.ok 49:=lk.ok.le (by walk_at "o")
    refine bo (decide ((j:Int) < b)) (fun K hK=>?_) (sR (fun e=>?_) fun e=>?_)
    ·walk_at "st"
     first|done|exact hK
    ·rw[decide_eq_true_eq]at e;have g1:=pa.1;walk_at "s1";refine⟨by walk_at "o",P,d,s,g,⟨pa,TW⟩,fun out so=>⟨by rw[uz lk so,lL];omega,fun G' of pt=>?_⟩⟩
     have q2:=Kx (pen:=pen) (i:=((j+(a - i):Nat):Int)) (y:=⟨(gT y.cps.toList (some (j:Int)) (some (b:Int))).toArray⟩) lk so (by walk_at "o") (by rw[lL];omega) (by rw[cl];omega)
     rw[Int.toNat_natCast,cu,mid]at q2;refine hNX _ _ ⟨_,rfl,eo eG of,pt,CQ b1 rfl (.inl ⟨_,_,rfl⟩) ?_,ox,q2,?_⟩
     ·show 0 < Pe _;rw[cl];omega
     ·rw[zR];show _+Pe _=_
      rw[cl]
    ·rw[decide_eq_false_iff_not]at e;have eb:b=j:=by walk_at "o"
     subst eb;simp only[cy];refine hNX _ _ ⟨_,rfl,eG,pa,b1,ox,?_,by walk_at "o"⟩
     rw[RB,List.take_zero,OO,Pl]at mid;rw[<- mid];exact lk.le (QM _)
  ·rintro σ' G' ⟨i,j,P,u1,u2,u3,rfl,eG,pa',b1,ox,inv⟩
   rw[On,NS,PV]at inv;rcases inv with ⟨hq,_⟩|⟨_,lk,ms⟩
   ·omega
   ·have:=h p d s g G' P ws sw eG fr pa' (lk.le (by walk_at "o")) b1 (by walk_at "o") ox
    walk_at "s1"
 ·exact h.elim
theorem Ly(s:Sk)(n:Nat):pl (n+5) s.d:=by
 have sl:∀ ns:List Sl,pl (n+3) (.tup (ns.map Sl.d)):=fun ns=>EG ns (n+1);have st:∀ (m:Nat) (x:Str),pl m (.str x):=fun m x=>by cases m<;>trivial
 have it:∀ (m:Nat) (x:Int),pl m (.int x):=fun m x=>by cases m<;>trivial
 obtain⟨pen,num,time,act⟩:=s;intro d hd;simp only[Oz,OF,or_false]at hd;rcases hd with rfl|rfl|rfl
 ·intro d hd;simp only[Oz,OF,or_false]at hd;rcases hd with rfl|rfl
  ·exact st _ _
  ·exact it _ _
 ·exact it _ _
 ·cases act with
  | put a x=>
   intro d hd;simp only[Oz,OF,or_false]at hd;rcases hd with rfl|rfl|rfl
   ·exact st _ _
   ·exact tH a (n+2)
   ·exact st _ _
  | strike ns=>
   intro d hd;simp only[Oz,OF,or_false]at hd;rcases hd with rfl|rfl
   ·exact st _ _
   ·exact sl ns
  | dress ns w=>
   intro d hd;simp only[Oz,OF,or_false]at hd;rcases hd with rfl|rfl|rfl
   ·exact st _ _
   ·exact sl ns
   ·exact st _ _
  | move ns a=>
   intro d hd;simp only[Oz,OF,or_false]at hd;rcases hd with rfl|rfl|rfl
   ·exact st _ _
   ·exact sl ns
   ·exact tH a (n+2)
theorem A6(ss:List Sk)(n:Nat):∀ d∈ss.map Sk.d,pl (n+5) d:=fun d hd=>by
 obtain⟨s,_,rfl⟩:=mem_map.mp hd;exact Ly s n
theorem C0{P:Pp}{n:Nat}(ok:P.ok n):P.wai.Nodup:=by
 have h:(P.sks.map Sk.nm).Nodup:=by
  have:=ok.ap;unfold List.Nodup;rw[Qx]at this ⊢;refine this.imp fun {a b} h e=>h ?_;injection e with e1 e2
  exact⟨e1,e2⟩
 exact h.sublist (List.filter_sublist.map _)
theorem Kv{a b:Nm}(h:a.key=b.key):a=b:=by
 obtain⟨a1,a2⟩:=a;obtain⟨b1,b2⟩:=b;simp only[Nm.key,List.cons.injEq,Sum.inr.injEq,Sum.inl.injEq,and_true]at h;obtain⟨rfl,rfl⟩:=h;rfl
def Seat.d2(s:Seat):D:=.tup [.str s.sign,.str s.word]
theorem Il{P:Pp}{ds:List D}{n:Nat}(h:Lk P ds n){out:List Sk}(so:Srt P out):(P.seats out).map Seat.d2=ds:=by
 rw[pT h so,h.rv,Ot];rfl
theorem IJ{P:Pp}{pen:Str}(h:P.by1 pen):P.wai=P.sks.map Sk.nm:=by
 unfold Pp.wai Pp.inS;rw[List.filter_eq_self.mpr fun s hs=>by rw[(h s hs).2.1,Option.getD_some,bb]]
theorem Dv{P:Pp}{pen:Str}(h:P.by1 pen)(hm:jZ P.sks=0):P.sks=[]:=by
 cases e:P.sks with
 | nil=>rfl
 | cons k r=>
  have:=(h k (by rw[e];exact N3)).2.2.2
  rw[e]at hm;have hm':k.sz+jZ r=0:=hm;omega
theorem Eu(y:Str):pl 8 (.lst (iF y)):=fun d hd=>by
 obtain⟨c,hc,rfl⟩:=mem_map.mp hd;obtain⟨n,_,rfl⟩:=mem_map.mp hc;intro e he;simp only[Oz,OF,or_false]at he;rcases he with rfl|rfl<;>exact trivial
theorem BP(l:List Nat):cost (l.map fun k=>Stp.keep k k)=0:=by
 induction l with
 | nil=>rfl
 | cons a l ih=>show 0+cost _=0;rw[ih]
theorem Ga(x:Str)(k:Nat):mZ x x k k=true:=bb _
theorem Dj{e:Nat->Nat->Bool}{n m:Nat}{ws:List Stp}(h:StOk e n m 0 0 ws):fB e n m=cost ws:=by
 rw[h.price];show 0+_=_
 omega
theorem Hr(zF:Zz)(hw:HW):bK (xv zF hw) (E1 zF hw) Aa0:=by
 intro vs G Q h;unfold xv at h;split at h
 ·obtain⟨ns,rfl,hn,hq⟩:=h;have hs:=ah;unfold E1;rw[ag];walk_at "s1";refine⟨ns,⟨rfl,by decide⟩,fun c x lx=>?_⟩
  rw[ag];walk_at "s1";refine⟨ns,⟨rfl,by decide⟩,fun c2=>⟨by walk_at "o",fun y ly=>?_⟩⟩
  rw[ag];walk_at "s1";refine⟨ns,⟨rfl,by decide⟩,fun c3 n3 hn3 pen=>?_⟩
  rw[ag];walk_at "s1";intro p d s g G1 P ws sw e1 fr pa lk b1 ms ox;have ok50:P.ok 50:=lk.ok.le (by walk_at "o")
  have ls:=ok50.ls;have g1:=pa.1;clear e1 fr;rw[ag];refine bo false (AX false false (fun K hK=>?_) fun _ K hK=>?_) (iteF ?_)
  ·walk_at "s1";exact⟨true,N3,hK⟩
  ·walk_at "s1";refine⟨P,d,s,g,pa,?_⟩;rw[ox,bb];exact hK
  simp only[cy];rw[ag];walk_at "s1";refine⟨P,d,s,g,⟨pa,ls⟩,?_⟩;rw[ag];refine bo false (fun K hK=>?_) (iteF ?_)
  ·walk_at "s1";refine⟨by rw[NS];omega,fun i acc G'=>acc=[]/\G'=G1,⟨rfl,rfl⟩,?_,?_⟩
   ·rintro i dd acc G' hd ⟨rfl,rfl⟩
    rw[N8]at hd;cases hk:P.sks[i]? with
    | none=>rw[hk]at hd;cases hd
    | some k=>
     rw[hk]at hd;cases hd;obtain⟨k1,k2,_⟩:=b1 k (N9 hk);have ed:k.d=.tup [.tup [.str pen,.int k.num],.int k.time,k.act.d]:=by rw[<- k1];rfl
     have k2':cV P.st [.inr pen,.inl k.num]=some (.str (NU "waits")):=by rw[<- k1];exact k2
     rw[ed];refine⟨⟨by simp[Oh,List.replicate],rfl⟩,?_⟩
     walk_at "s1";refine⟨P,d,s,g,_,⟨pa,k2'⟩,?_⟩;rw[bb];exact iteF trivial
   ·rintro acc G' ⟨rfl,rfl⟩
    refine⟨OD _,(fun _ h=>by cases h),(fun _ h=>by cases h),?_⟩
    rw[bb];exact hK
  simp only[cy];rw[ag];refine Hq (b:=false) ?_ fun G2 e2=>iteF ?_
  ·intro K hK;walk_at "s1";refine⟨P,d,s,g,⟨pa,ok50⟩,fun out G2 e2 so=>?_⟩;have lr:=Il lk so;have ll:=uz lk so;rw[fR]at ll;refine⟨by rw[NS];omega,fun i acc G'=>acc=((P.seats out).take i).map Seat.d2/\G'=G2,⟨rfl,rfl⟩,?_,?_⟩
   ·rintro i dd acc G' hd ⟨rfl,rfl⟩
    rw[N8]at hd;cases hk:(P.seats out)[i]? with
    | none=>rw[hk]at hd;cases hd
    | some k=>
     rw[hk]at hd;cases hd;have tk:((P.seats out).take (i+1)).map Seat.d2=((P.seats out).take i).map Seat.d2 ++ [.tup [.str k.sign,.str k.word]]:=by
      rw[Om,hk,Option.toList_some,Ol];rfl
     have ed:k.d3=.tup [k.name.d,.str k.sign,.str k.word]:=rfl;rw[ed];dsimp only;rw[tk];generalize ((P.seats out).take i).map Seat.d2=A0 at *
     clear tk;walk_at "s1";exact⟨rfl,by walk_at "o"⟩
   ·rintro acc G' ⟨rfl,rfl⟩
    rw[NS,Oo,lr];refine⟨by rw[L3.signs_length];omega,fun i acc G''=>acc=(iF y).take i/\G''=G',⟨rfl,rfl⟩,?_,?_⟩
    ·rintro i dd acc G'' hd ⟨rfl,rfl⟩
     have tk:(iF y).take (i+1)=(iF y).take i ++ [.tup [dd,.str (NU "")]]:=by
      rw[Om];unfold iF;rw[N8,hd];rfl
     obtain⟨cc,_,rfl⟩:=mem_map.mp (N9 hd);dsimp only;rw[tk];generalize (iF y).take i=A0 at *
     clear tk;refine⟨⟨by simp[Oh,List.replicate],rfl⟩,?_⟩
     walk_at "s1";omega
    ·rintro acc G'' ⟨rfl,rfl⟩
     rw[L3.signs_length,<- fR,Oo];refine⟨Eu y,Eu y,?_⟩;rw[bb];exact hK _ e2
  replace pa:=pa.ext e2
  replace g1:=pa.1
  clear e2;simp only[cy];rw[ag];refine bo false (fun K hK=>?_) (iteF ?_)
  ·have t1:iG (vA x y) (x.length:Int)=some (.lst (fL (y.length+1) (fB (mZ x y) x.length))):=by
    unfold vA;rw[xr (by walk_at "o") (by walk_at "o")];congr
   have t3:∀ f,iG (fL (y.length+1) f) (y.length:Int)=some (.int (f y.length:Nat)):=fun f=>by rw[mB (by walk_at "o") (by walk_at "o")];congr
   walk_at "s1";refine⟨P.sks,⟨rfl,ls,fun k hk=>⟨(ok50.sk k hk).2.1,(b1 k hk).2.2.1⟩⟩,by walk_at "o",by walk_at "o",by walk_at "o",?_⟩
   rw[ms,Dj sw,bb];exact hK
  simp only[cy];rw[ag];walk_at "s1";intro p2 d2 s2 g2 G3 P2 ws2 sw2 e3 fr2 pa2 lk2 b12 ms2 ox2;have g2':=pa2.1;have ok2:P2.ok 49:=lk2.ok.le (by walk_at "o")
  rw[ag];walk_at "s1";refine⟨P2,d2,s2,g2,⟨pa2,ok2⟩,fun out so=>⟨⟨Int.le_refl _,Int.natCast_nonneg _⟩,fun G4 of pa3=>?_⟩⟩;have l2:(NU "zz").length=2:=by decide +kernel
  have ok3:=FA (k:=⟨pen,P2.num pen,P2.time+1,.put (kK (P2.seats out) 0) (NU "zz")⟩) ok2 ⟨rfl,rfl,rfl⟩ (by show Pe _<=60;rw[l2];decide)
  generalize P2.add ⟨pen,P2.num pen,P2.time+1,.put (kK (P2.seats out) 0) (NU "zz")⟩=P3 at *
  have eo:∀ {G1 G5:Gp},fK G2 G1->Ei [p2,d2,s2,g2] G1 G5->fK G2 G5:=fun e1 of a o h=>of a o (fun z=>by rw[fr2 a z]at h;cases h) (e1 a o h)
  have e4:=eo e3 of;clear of so lk2 b12 ms2 ox2 pa2 e3 g2' ok2 sw2 l2;have g3:=pa3.1;rw[ag];walk_at "s1";refine⟨P3,d2,s2,g2,⟨pa3,ok3⟩,fun i σ' G'=>∃ (v:Option D) (P':Pp),σ'=[some (.lst (ns.map D.int)),some (.str x),some (.str y),some (.str pen),some (.ref p),some (.lst (P.sks.map Sk.d)),some (.ref p2),v]/\fK G2 G'/\mL zF.C_Paper hw G' p2 d2 s2 g2 P'/\P'.st.length<=50/\∀ nm∈P3.wai.drop i,cV P'.st nm.key=some (.str (NU "waits")),⟨none,P3,rfl,e4,pa3,ok3.lt,fun nm h=>JG ok3 (by rwa[QC]at h)⟩,?_,?_⟩
  ·rintro i dd σ' G' hd ⟨v,P',rfl,e5,pa5,l5,hw'⟩
   clear pa3 e4 g3;rw[N8]at hd;cases hm:P3.wai[i]? with
   | none=>rw[hm]at hd;cases hd
   | some nm=>
    rw[hm]at hd;cases hd;have hi:=(List.getElem?_eq_some_iff.mp hm).1;have ei:=(List.getElem?_eq_some_iff.mp hm).2;have ed:P3.wai.drop i=nm::P3.wai.drop (i+1):=by rw[OS hi,ei]
    have nd:nm∉P3.wai.drop (i+1):=by
     have:=(C0 ok3).sublist (List.drop_sublist i _);rw[ed]at this;exact (Pi.mp this).1
    have hk:=hw' nm (by rw[ed];exact N3)
    have next:∀ n∈P3.wai.drop (i+1),cV (P'.wipe nm.key).st n.key=some (.str (NU "waits")):=fun n hn=>by
     show cV (bS P'.st nm.key _) n.key=_
     rw[gc,if_neg fun z=>nd (by rw[<- Kv z];exact hn)]
     exact hw' n (by rw[ed];exact N0 _ hn)
    have l6:(P'.wipe nm.key).st.length<=50:=by
     show (bS P'.st nm.key _).length<=50
     rw[ui,hk];exact l5
    obtain⟨y1,y2⟩:=nm;have ed:Nm.d (y1,y2)=.tup [.str y1,.int y2]:=rfl;have hk':cV P'.st [.inr y1,.inl y2]=some (.str (NU "waits")):=hk;rw[ed];have g':=pa5.1;walk_at "s1";exact⟨P',d2,s2,g2,⟨pa5,hk',l5⟩,fun G6 of pt=>⟨_,_,rfl,eo e5 of,pt,l6,next⟩⟩
  ·rintro σ' G' ⟨v,P',rfl,e5,_,_,_⟩
   clear pa3 e4 g3;have pa6:=pa.ext e5;have g6:=pa6.1;clear pa g1;dsimp only;rw[ag];refine bo false (AX false false (fun K hK=>?_) fun _ K hK=>?_) (iteF ?_)
   ·walk_at "s1";refine⟨P,d,s,g,⟨pa6,ls⟩,A6 _ 2,A6 _ 2,?_⟩;rw[bb];exact hK
   ·walk_at "s1";refine⟨P,d,s,g,⟨pa6,ok50⟩,?_⟩;refine⟨by rw[NS];omega,fun i acc G''=>acc=((P.sks.take i).map Sk.nm).map Nm.d/\G''=G',⟨rfl,rfl⟩,?_,?_⟩
    ·rintro i dd acc G'' hd ⟨rfl,rfl⟩
     rw[N8]at hd;cases hk:P.sks[i]? with
     | none=>rw[hk]at hd;cases hd
     | some k=>
      rw[hk]at hd;cases hd;have tk:((P.sks.take (i+1)).map Sk.nm).map Nm.d=((P.sks.take i).map Sk.nm).map Nm.d ++ [.tup [.str k.pen,.int k.num]]:=by
       rw[Om,hk,Option.toList_some,Ol,Ol];rfl
      have ed:k.d=.tup [.tup [.str k.pen,.int k.num],.int k.time,k.act.d]:=rfl;rw[ed];dsimp only;rw[tk];generalize ((P.sks.take i).map Sk.nm).map Nm.d=A0 at *
      clear tk;refine⟨⟨by simp[Oh,List.replicate],rfl⟩,?_⟩
      walk_at "s1"
    ·rintro acc G'' ⟨rfl,rfl⟩
     rw[NS,Oo,<- IJ b1];refine⟨FD _,FD _,?_⟩;rw[bb];exact hK
   simp only[cy];walk_at "s1";refine⟨by walk_at "o",?_⟩
   intro p7 d7 s7 g7 G7 P7 ws7 sw7 e7 fr7 pa7 lk7 b17 ms7 ox7;have c7:cost ws7=0:=by
    rw[(sw7.like rfl fun k _=>Ga x k).2];exact BP _
   have z7:=Dv b17 (by rw[ms7,c7])
   rw[pa7.1];refine⟨⟨rfl,rfl⟩,P7,d7,s7,g7,⟨pa7,by rw[z7];exact OD _⟩,OD _,A6 _ 2,(fun _ h=>by cases h),?_⟩
   rw[z7,Qy,bb];exact hq _
 ·exact h.elim
section
variable{zF:Zz}{hw:List aD->Int}
theorem uG:bL (aT zF hw) 2:=fun _ _ _ h=>by unfold aT at h;walk_at "l"
theorem v8:bL (cI zF hw) 1:=fun _ _ _ h=>by unfold cI at h;walk_at "l"
theorem qU:bL (bp zF hw) 2:=fun _ _ _ h=>by unfold bp at h;walk_at "l"
theorem uF:bL (cN zF hw) 2:=fun _ _ _ h=>by unfold cN at h;walk_at "l"
theorem x9:bL (dD zF hw) 1:=fun _ _ _ h=>by unfold dD at h;walk_at "l"
theorem pZ:bL (bN zF hw) 3:=fun _ _ _ h=>by unfold bN at h;walk_at "l"
theorem BA:bL (eO zF hw) 2:=fun _ _ _ h=>by unfold eO at h;walk_at "l"
theorem v3:bL (c8 zF hw) 5:=fun _ _ _ h=>by unfold c8 at h;walk_at "l"
theorem DB:bL (gf zF hw) 2:=fun _ _ _ h=>by unfold gf at h;walk_at "l"
theorem uE:bL (cM zF hw) 2:=fun _ _ _ h=>by unfold cM at h;walk_at "l"
theorem v6:bL (db zF hw) 2:=fun _ _ _ h=>by unfold db at h;walk_at "l"
theorem v7:bL (de zF hw) 2:=fun _ _ _ h=>by unfold de at h;walk_at "l"
theorem uD:bL (cv zF hw) 3:=fun _ _ _ h=>by unfold cv at h;walk_at "l"
theorem uC:bL (bV zF hw) 2:=fun _ _ _ h=>by unfold bV at h;walk_at "l"
theorem v0:bL (cH zF hw) 1:=fun _ _ _ h=>by unfold cH at h;walk_at "l"
theorem oh:bL (aS zF hw) 1:=fun _ _ _ h=>by unfold aS at h;walk_at "l"
theorem x8:bL (c_ zF hw) 1:=fun _ _ _ h=>by unfold c_ at h;walk_at "l"
theorem mW:bL (aL zF hw) 3:=fun _ _ _ h=>by unfold aL at h;walk_at "l"
theorem qW:bL (bI zF hw) 5:=fun _ _ _ h=>by unfold bI at h;walk_at "l"
theorem mX:bL (aZ zF hw) 4:=fun _ _ _ h=>by unfold aZ at h;walk_at "l"
theorem oq:bL (bD zF hw) 5:=fun _ _ _ h=>by unfold bD at h;walk_at "l"
theorem p_:bL (bR zF hw) 5:=fun _ _ _ h=>by unfold bR at h;walk_at "l"
theorem vZ:bL (cG zF hw) 1:=fun _ _ _ h=>by unfold cG at h;walk_at "l"
theorem zW:bL (ef zF hw) 1:=fun _ _ _ h=>by unfold ef at h;walk_at "l"
theorem qV:bL (az zF hw) 1:=fun _ _ _ h=>by unfold az at h;walk_at "l"
theorem v9:bL (bu zF hw) 1:=fun _ _ _ h=>by unfold bu at h;walk_at "l"
theorem uL:bL (be zF hw) 1:=fun _ _ _ h=>by unfold be at h;walk_at "l"
theorem xZ:bL (dC zF hw) 2:=fun _ _ _ h=>by unfold dC at h;walk_at "l"
theorem BB:bL (eP zF hw) 1:=fun _ _ _ h=>by unfold eP at h;walk_at "l"
theorem v4:bL (c9 zF hw) 2:=fun _ _ _ h=>by unfold c9 at h;walk_at "l"
theorem v5:bL (da zF hw) 3:=fun _ _ _ h=>by unfold da at h;walk_at "l"
theorem pY:bL (bM zF hw) 2:=fun _ _ _ h=>by unfold bM at h;walk_at "l"
theorem oj:bL (ak zF hw) 1:=fun _ _ _ h=>by unfold ak at h;walk_at "l"
theorem qT:bL (cb zF hw) 1:=fun _ _ _ h=>by unfold cb at h;walk_at "l"
theorem sO:bL (cA zF hw) 1:=fun _ _ _ h=>by unfold cA at h;walk_at "l"
theorem uB:bL (cL zF hw) 1:=fun _ _ _ h=>by unfold cL at h;walk_at "l"
theorem Bz:bL (eN zF hw) 3:=fun _ _ _ h=>by unfold eN at h;walk_at "l"
theorem p8:bL (bw zF hw) 1:=fun _ _ _ h=>by unfold bw at h;walk_at "l"
theorem sQ:bL (bZ zF hw) 1:=fun _ _ _ h=>by unfold bZ at h;walk_at "l"
theorem zY:bL (dj zF hw) 1:=fun _ _ _ h=>by unfold dj at h;walk_at "l"
theorem uH:bL (bW zF hw) 1:=fun _ _ _ h=>by unfold bW at h;walk_at "l"
theorem wa:bL (cx zF hw) 1:=fun _ _ _ h=>by unfold cx at h;walk_at "l"
theorem x_:bL (cQ zF hw) 1:=fun _ _ _ h=>by unfold cQ at h;walk_at "l"
theorem uK:bL (cw zF hw) 2:=fun _ _ _ h=>by unfold cw at h;walk_at "l"
theorem kT:bL (aP zF hw) 2:=fun _ _ _ h=>by unfold aP at h;walk_at "l"
theorem kS:bL (aO zF hw) 1:=fun _ _ _ h=>by unfold aO at h;walk_at "l"
theorem v_:bL (cJ zF hw) 4:=fun _ _ _ h=>by unfold cJ at h;walk_at "l"
theorem p4:bL (bP zF hw) 3:=fun _ _ _ h=>by unfold bP at h;walk_at "l"
theorem p3:bL (bO zF hw) 3:=fun _ _ _ h=>by unfold bO at h;walk_at "l"
theorem qX:bL (ce zF hw) 4:=fun _ _ _ h=>by unfold ce at h;walk_at "l"
theorem oo:bL (bC zF hw) 2:=fun _ _ _ h=>by unfold bC at h;walk_at "l"
theorem zX:bL (dh zF hw) 3:=fun _ _ _ h=>by unfold dh at h;walk_at "l"
theorem p5:bL (bQ zF hw) 1:=fun _ _ _ h=>by unfold bQ at h;walk_at "l"
theorem on:bL (bB zF hw) 1:=fun _ _ _ h=>by unfold bB at h;walk_at "l"
theorem p9:bL (bd zF hw) 1:=fun _ _ _ h=>by unfold bd at h;walk_at "l"
theorem kW:bL (aV zF hw) 2:=fun _ _ _ h=>by unfold aV at h;walk_at "l"
theorem sP:bL (bX zF hw) 2:=fun _ _ _ h=>by unfold bX at h;walk_at "l"
theorem zV:bL (ee zF hw) 3:=fun _ _ _ h=>by unfold ee at h;walk_at "l"
theorem uJ:bL (cP zF hw) 1:=fun _ _ _ h=>by unfold cP at h;walk_at "l"
theorem lW:bL (bf zF hw) 2:=fun _ _ _ h=>by unfold bf at h;walk_at "l"
theorem p6:bL (bv zF hw) 1:=fun _ _ _ h=>by unfold bv at h;walk_at "l"
theorem kU:bL (aU zF hw) 2:=fun _ _ _ h=>by unfold aU at h;walk_at "l"
theorem uI:bL (cO zF hw) 2:=fun _ _ _ h=>by unfold cO at h;walk_at "l"
theorem Io:bL (xv zF hw) 1:=fun _ _ _ h=>by unfold xv at h;walk_at "l"
end
structure Tx(K:Sf)(mg:Str->Option NO)(zF:Zz):Prop where
 fa_anchor:∀ C∈zF.F,Cls K C/\cY K C "anchor"
 fa_name:∀ C∈zF.F,Cls K C/\cY K C "name"
 fa_names:∀ C∈zF.F,Cls K C/\cY K C "names"
 fa_signs:∀ C∈zF.F,Cls K C/\cY K C "signs"
 fa_time:∀ C∈zF.F,Cls K C/\cY K C "time"
 fa_word:∀ C∈zF.F,Cls K C/\cY K C "word"
 cl_Stroke:Cls K zF.Z1
 cl_Put:Cls K zF.Z2
 cl_Strike:Cls K zF.Z3
 cl_Dress:Cls K zF.Z4
 cl_Move:Cls K zF.Z5
 cl_Paper:Cls K zF.C_Paper
 na_Paper_old:cY K zF.C_Paper "old"
 na_Paper_drawn:cY K zF.C_Paper "drawn"
 na_Paper_states:cY K zF.C_Paper "states"
 na_Paper_greatest:cY K zF.C_Paper "greatest"
 na_Paper_time:cY K zF.C_Paper "time"
 b_all:mg "all"=none
 b_dict:mg "dict"=none
 b_enumerate:mg "enumerate"=none
 b_isinstance:mg "isinstance"=none
 b_len:mg "len"=none
 b_list:mg "list"=none
 b_min:mg "min"=none
 b_range:mg "range"=none
 b_reversed:mg "reversed"=none
 b_sorted:mg "sorted"=none
 b_tuple:mg "tuple"=none
 b_zip:mg "zip"=none
 k_START:mN K mg "START" k_START
 k_WAITS:mN K mg "WAITS" k_WAITS
 k_WIPED:mN K mg "WIPED" k_WIPED
 xm_Dress:mg "Dress"=some (.ref zF.Z4)
 ik_Dress:∀ p∈([(zF.Z1,false),(zF.Z2,false),(zF.Z3,false),(zF.Z4,true),(zF.Z5,false)]:List (NR×Bool)),InsAsk K p.1/\OZ K (.ref p.1) (.ref zF.Z4)=some p.2
 xm_Move:mg "Move"=some (.ref zF.Z5)
 ik_Move:∀ p∈([(zF.Z1,false),(zF.Z2,false),(zF.Z3,false),(zF.Z4,false),(zF.Z5,true)]:List (NR×Bool)),InsAsk K p.1/\OZ K (.ref p.1) (.ref zF.Z5)=some p.2
 xm_Paper:mg "Paper"=some (.ref zF.C_Paper)
 ik_Paper:∀ p∈([(zF.C_Paper,true)]:List (NR×Bool)),InsAsk K p.1/\OZ K (.ref p.1) (.ref zF.C_Paper)=some p.2
 xm_Put:mg "Put"=some (.ref zF.Z2)
 ik_Put:∀ p∈([(zF.Z1,false),(zF.Z2,true),(zF.Z3,false),(zF.Z4,false),(zF.Z5,false)]:List (NR×Bool)),InsAsk K p.1/\OZ K (.ref p.1) (.ref zF.Z2)=some p.2
 xm_Strike:mg "Strike"=some (.ref zF.Z3)
 ik_Strike:∀ p∈([(zF.Z1,false),(zF.Z2,false),(zF.Z3,true),(zF.Z4,false),(zF.Z5,false)]:List (NR×Bool)),InsAsk K p.1/\OZ K (.ref p.1) (.ref zF.Z3)=some p.2
theorem MI{α:Type}:∀ {us:List α},us.length=1->∃ a0,us=[a0]
 | [a0],_=>⟨a0,rfl⟩
theorem MH{α:Type}:∀ {us:List α},us.length=2->∃ a0 a1,us=[a0,a1]
 | [a0,a1],_=>⟨a0,a1,rfl⟩
theorem MG{α:Type}:∀ {us:List α},us.length=3->∃ a0 a1 a2,us=[a0,a1,a2]
 | [a0,a1,a2],_=>⟨a0,a1,a2,rfl⟩
theorem MF{α:Type}:∀ {us:List α},us.length=4->∃ a0 a1 a2 a3,us=[a0,a1,a2,a3]
 | [a0,a1,a2,a3],_=>⟨a0,a1,a2,a3,rfl⟩
theorem ME{α:Type}:∀ {us:List α},us.length=5->∃ a0 a1 a2 a3 a4,us=[a0,a1,a2,a3,a4]
 | [a0,a1,a2,a3,a4],_=>⟨a0,a1,a2,a3,a4,rfl⟩
local macro_rules | `(tactic| walk_at "b") => `(tactic| (intro _ _ _ _ _ _ us hl; first | (obtain ⟨_, e⟩ := MI hl; subst e; rfl) | (obtain ⟨_, _, e⟩ := MH hl; subst e; rfl) | (obtain ⟨_, _, _, e⟩ := MG hl; subst e; rfl) | (obtain ⟨_, _, _, _, e⟩ := MF hl; subst e; rfl) | (obtain ⟨_, _, _, _, _, e⟩ := ME hl; subst e; rfl)))
structure Ev(K:Sf)(h:Of)(mg:Str->Option NO)(Z1 Z2 Z3 Z4 Z5 C_Paper ka0:NR)(ks0:Array (Option NO))(TH:Tok)(TF:Tok)(TD:Tok)(kt1:Tok)(kt2:Tok)(kz0:Nat):Prop where
 X:K.In h
 G:h.Ns Oa mg
 y0:Tm K Oa "Stroke"=some (some (.ref Z1))
 y1:Tm K Oa "Put"=some (some (.ref Z2))
 y2:Tm K Oa "Strike"=some (some (.ref Z3))
 y3:Tm K Oa "Dress"=some (some (.ref Z4))
 y4:Tm K Oa "Move"=some (some (.ref Z5))
 y5:Tm K Oa "Paper"=some (some (.ref C_Paper))
 y6:Uq K (.builtin "object.__class__") "__get__"=some (some (.builtin "getset_descriptor.__get__"))
 y7:Tf K (.builtin "object.__class__")=some true
 y8:ST K (.ref Z1) "__class__"=some (some (.builtin "object.__class__"))
 y9:R7 K Z1 (.type "object")=some true
 ya:OZ K (.ref Z1) (.ref Z4)=some false
 yb:OZ K (.ref Z1) (.ref Z5)=some false
 yc:OZ K (.ref Z1) (.ref Z2)=some false
 yd:OZ K (.ref Z1) (.ref Z3)=some false
 ye:ST K (.ref Z2) "__class__"=some (some (.builtin "object.__class__"))
 yf:R7 K Z2 (.type "object")=some true
 yg:OZ K (.ref Z2) (.ref Z4)=some false
 yh:OZ K (.ref Z2) (.ref Z5)=some false
 yi:OZ K (.ref Z2) (.ref Z2)=some true
 yj:OZ K (.ref Z2) (.ref Z3)=some false
 yk:ST K (.ref Z3) "__class__"=some (some (.builtin "object.__class__"))
 yl:R7 K Z3 (.type "object")=some true
 ym:OZ K (.ref Z3) (.ref Z4)=some false
 yn:OZ K (.ref Z3) (.ref Z5)=some false
 yo:OZ K (.ref Z3) (.ref Z2)=some false
 yp:OZ K (.ref Z3) (.ref Z3)=some true
 yq:ST K (.ref Z4) "__class__"=some (some (.builtin "object.__class__"))
 yr:R7 K Z4 (.type "object")=some true
 ys:OZ K (.ref Z4) (.ref Z4)=some true
 yt:OZ K (.ref Z4) (.ref Z5)=some false
 yu:OZ K (.ref Z4) (.ref Z2)=some false
 yv:OZ K (.ref Z4) (.ref Z3)=some false
 yw:ST K (.ref Z5) "__class__"=some (some (.builtin "object.__class__"))
 yx:R7 K Z5 (.type "object")=some true
 yy:OZ K (.ref Z5) (.ref Z4)=some false
 yz:OZ K (.ref Z5) (.ref Z5)=some true
 y00:OZ K (.ref Z5) (.ref Z2)=some false
 y01:OZ K (.ref Z5) (.ref Z3)=some false
 y02:ST K (.ref C_Paper) "__class__"=some (some (.builtin "object.__class__"))
 y03:R7 K C_Paper (.type "object")=some true
 y04:OZ K (.ref C_Paper) (.ref C_Paper)=some true
 y05:Cls K Z1
 y06:Uo K Z1=true
 y07:Sz K (.ref Z1)=true
 y08:ST K (.ref Z1) "anchor"=some none
 y09:ST K (.ref Z1) "name"=some none
 y0a:ST K (.ref Z1) "names"=some none
 y0b:ST K (.ref Z1) "signs"=some none
 y0c:ST K (.ref Z1) "time"=some none
 y0d:ST K (.ref Z1) "word"=some none
 y0e:Cls K Z2
 y0f:Uo K Z2=true
 y0g:Sz K (.ref Z2)=true
 y0h:ST K (.ref Z2) "anchor"=some none
 y0i:ST K (.ref Z2) "name"=some none
 y0j:ST K (.ref Z2) "names"=some none
 y0k:ST K (.ref Z2) "signs"=some none
 y0l:ST K (.ref Z2) "time"=some none
 y0m:ST K (.ref Z2) "word"=some none
 y0n:Cls K Z3
 y0o:Uo K Z3=true
 y0p:Sz K (.ref Z3)=true
 y0q:ST K (.ref Z3) "anchor"=some none
 y0r:ST K (.ref Z3) "name"=some none
 y0s:ST K (.ref Z3) "names"=some none
 y0t:ST K (.ref Z3) "signs"=some none
 y0u:ST K (.ref Z3) "time"=some none
 y0v:ST K (.ref Z3) "word"=some none
 y0w:Cls K Z4
 y0x:Uo K Z4=true
 y0y:Sz K (.ref Z4)=true
 y0z:ST K (.ref Z4) "anchor"=some none
 y10:ST K (.ref Z4) "name"=some none
 y11:ST K (.ref Z4) "names"=some none
 y12:ST K (.ref Z4) "signs"=some none
 y13:ST K (.ref Z4) "time"=some none
 y14:ST K (.ref Z4) "word"=some none
 y15:Cls K Z5
 y16:Uo K Z5=true
 y17:Sz K (.ref Z5)=true
 y18:ST K (.ref Z5) "anchor"=some none
 y19:ST K (.ref Z5) "name"=some none
 y1a:ST K (.ref Z5) "names"=some none
 y1b:ST K (.ref Z5) "signs"=some none
 y1c:ST K (.ref Z5) "time"=some none
 y1d:ST K (.ref Z5) "word"=some none
 y1e:Cls K C_Paper
 y1f:Uo K C_Paper=true
 y1g:Sz K (.ref C_Paper)=true
 y1h:ST K (.ref C_Paper) "old"=some none
 y1i:ST K (.ref C_Paper) "drawn"=some none
 y1j:ST K (.ref C_Paper) "states"=some none
 y1k:ST K (.ref C_Paper) "greatest"=some none
 y1l:ST K (.ref C_Paper) "time"=some none
 y1m:Tm K Oa "all"=some none
 y1n:Tm K Oa "dict"=some none
 y1o:Tm K Oa "enumerate"=some none
 y1p:Tm K Oa "isinstance"=some none
 y1q:Tm K Oa "len"=some none
 y1r:Tm K Oa "list"=some none
 y1s:Tm K Oa "min"=some none
 y1t:Tm K Oa "range"=some none
 y1u:Tm K Oa "reversed"=some none
 y1v:Tm K Oa "sorted"=some none
 y1w:Tm K Oa "tuple"=some none
 y1x:Tm K Oa "zip"=some none
 y1y:Tm K Oa "START"=some (some (.ref ka0))
 y1z:K.lookup ka0=some ⟨.type "tuple",none,.seq #[.str "" TH,.int 0 TF,.int 0 TD] kz0,ks0⟩
 y20:Tm K Oa "WAITS"=some (some (.str "waits" kt1))
 y21:Tm K Oa "WIPED"=some (some (.str "wiped" kt2))
 y22:FnG K "_law_mixed" oZ
 y23:FnG K "_law_text" rS
 y24:FnG K "_law_cell_at" lD
 y25:FnG K "_law_other" oY
 y26:FnG K "_law_pen" tQ
 y27:FnG K "prices_behind" ke
 y28:FnG K "prices" zk
 y29:FnG K "last_step" rN
 y2a:FnG K "steps" Ch
 y2b:FnG K "kept_pairs" oX
 y2c:FnG K "check_gap" rQ
 y2d:FnG K "anchor_at" rR
 y2e:FnG K "lay_behind" oW
 y2f:FnG K "slots_made" oV
 y2g:FnG K "old_slots" rM
 y2h:FnG K "place_in_order" i9
 y2i:FnG K "in_order" tP
 y2j:MtG K Z1 "__init__" "Stroke.__init__" fy
 y2k:CfG K Z1 "__init__" "Stroke.__init__" fy
 y2l:MtG K Z2 "__init__" "Put.__init__" lE
 y2m:MtG K Z3 "__init__" "Strike.__init__" iH
 y2n:MtG K Z4 "__init__" "Dress.__init__" jc
 y2o:MtG K Z5 "__init__" "Move.__init__" kz
 y2p:FnG K "stroke_of" rL
 y2q:FnG K "chained" wD
 y2r:MtG K Z4 "slots" "Stroke.slots" eh
 y2s:MtG K Z3 "slots" "Stroke.slots" eh
 y2t:MtG K Z1 "slots" "Stroke.slots" eh
 y2u:MtG K Z2 "slots" "Put.slots" rT
 y2v:MtG K Z5 "slots" "Move.slots" o9
 y2w:FnG K "slots_of" tO
 y2x:FnG K "marked" zl
 y2y:FnG K "is_placed" rO
 y2z:FnG K "effective" rP
 y30:FnG K "signs_brought" j_
 y31:MtG K Z4 "touched" "Stroke.touched" cq
 y32:MtG K Z5 "touched" "Stroke.touched" cq
 y33:MtG K Z2 "touched" "Stroke.touched" cq
 y34:MtG K Z3 "touched" "Stroke.touched" cq
 y35:MtG K Z1 "touched" "Stroke.touched" cq
 y36:FnG K "signs_struck" lC
 y37:FnG K "slots_taken" m_
 y38:FnG K "words_worn" oU
 y39:FnG K "seated" zj
 y3a:MtG K C_Paper "unwiped" "Paper.unwiped" ko
 y3b:MtG K C_Paper "seats" "Paper.seats" nh
 y3c:MtG K Z2 "row" "Put.row" wF
 y3d:MtG K Z3 "row" "Strike.row" o0
 y3e:MtG K Z4 "row" "Dress.row" rW
 y3f:MtG K Z5 "row" "Move.row" tR
 y3g:MtG K C_Paper "draw" "Paper.draw" o8
 y3h:MtG K C_Paper "coming_name" "Paper.coming_name" gX
 y3i:MtG K C_Paper "coming_time" "Paper.coming_time" gW
 y3j:MtG K C_Paper "put" "Paper.put" rV
 y3k:FnG K "check_stretch" kh
 y3l:FnG K "names_between" kg
 y3m:MtG K C_Paper "strike" "Paper.strike" lF
 y3n:MtG K C_Paper "__init__" "Paper.__init__" jb
 y3o:FnG K "against" wE
 y3p:FnG K "_law_signs_of" kj
 y3q:MtG K C_Paper "old_text" "Paper.old_text" i_
 y3r:MtG K C_Paper "strokes" "Paper.strokes" kq
 y3s:MtG K C_Paper "check_known" "Paper.check_known" gZ
 y3t:MtG K C_Paper "state" "Paper.state" ng
 y3u:FnG K "reading" wB
 y3v:MtG K C_Paper "view" "Paper.view" o7
 y3w:MtG K C_Paper "strokes_in" "Paper.strokes_in" ij
 y3x:MtG K C_Paper "waiting" "Paper.waiting" km
 y3y:MtG K C_Paper "check_waits" "Paper.check_waits" gY
 y3z:MtG K C_Paper "wipe" "Paper.wipe" o6
 y40:FnG K "law" wC
section
variable{P:N_}{w:Og}{base:Of}{K:Sf}{h:Of}{mg:Str->Option NO}{Z1 Z2 Z3 Z4 Z5 C_Paper ka0:NR}{ks0:Array (Option NO)}{TH:Tok}{TF:Tok}{TD:Tok}{kt1:Tok}{kt2:Tok}{kz0:Nat}(E:Ev K h mg Z1 Z2 Z3 Z4 Z5 C_Paper ka0 ks0 TH TF TD kt1 kt2 kz0)
def Ev.z(_:Ev K h mg Z1 Z2 Z3 Z4 Z5 C_Paper ka0 ks0 TH TF TD kt1 kt2 kz0):Zz:=⟨Z1,Z2,Z3,Z4,Z5,C_Paper⟩
include E
theorem NC:Tx K mg E.z:=⟨(all_cons ⟨E.y05,E.y08⟩ (all_cons ⟨E.y0e,E.y0h⟩ (all_cons ⟨E.y0n,E.y0q⟩ (all_cons ⟨E.y0w,E.y0z⟩ (all_cons ⟨E.y15,E.y18⟩ (fun _ h=>nomatch h)))))),(all_cons ⟨E.y05,E.y09⟩ (all_cons ⟨E.y0e,E.y0i⟩ (all_cons ⟨E.y0n,E.y0r⟩ (all_cons ⟨E.y0w,E.y10⟩ (all_cons ⟨E.y15,E.y19⟩ (fun _ h=>nomatch h)))))),(all_cons ⟨E.y05,E.y0a⟩ (all_cons ⟨E.y0e,E.y0j⟩ (all_cons ⟨E.y0n,E.y0s⟩ (all_cons ⟨E.y0w,E.y11⟩ (all_cons ⟨E.y15,E.y1a⟩ (fun _ h=>nomatch h)))))),(all_cons ⟨E.y05,E.y0b⟩ (all_cons ⟨E.y0e,E.y0k⟩ (all_cons ⟨E.y0n,E.y0t⟩ (all_cons ⟨E.y0w,E.y12⟩ (all_cons ⟨E.y15,E.y1b⟩ (fun _ h=>nomatch h)))))),(all_cons ⟨E.y05,E.y0c⟩ (all_cons ⟨E.y0e,E.y0l⟩ (all_cons ⟨E.y0n,E.y0u⟩ (all_cons ⟨E.y0w,E.y13⟩ (all_cons ⟨E.y15,E.y1c⟩ (fun _ h=>nomatch h)))))),(all_cons ⟨E.y05,E.y0d⟩ (all_cons ⟨E.y0e,E.y0m⟩ (all_cons ⟨E.y0n,E.y0v⟩ (all_cons ⟨E.y0w,E.y14⟩ (all_cons ⟨E.y15,E.y1d⟩ (fun _ h=>nomatch h)))))),E.y05,E.y0e,E.y0n,E.y0w,E.y15,E.y1e,E.y1h,E.y1i,E.y1j,E.y1k,E.y1l,Pa E.X E.G E.y1m,Pa E.X E.G E.y1n,Pa E.X E.G E.y1o,Pa E.X E.G E.y1p,Pa E.X E.G E.y1q,Pa E.X E.G E.y1r,Pa E.X E.G E.y1s,Pa E.X E.G E.y1t,Pa E.X E.G E.y1u,Pa E.X E.G E.y1v,Pa E.X E.G E.y1w,Pa E.X E.G E.y1x,DY (vs:=[.str "",.int 0,.int 0]) (Ty E.X E.G E.y1y) E.y1z (by show 3<=NY;decide) (.cons ⟨_,rfl⟩ (.cons ⟨_,rfl⟩ (.cons ⟨_,rfl⟩ .nil))) fun _=>(RDs.cons iT (RDs.cons eE (RDs.cons eE RDs.nil))),wZ (Ty E.X E.G E.y20),wZ (Ty E.X E.G E.y21),Ty E.X E.G E.y3,(all_cons ⟨⟨E.y05,E.y8,E.y6,E.y7,E.y9⟩,E.ya⟩ (all_cons ⟨⟨E.y0e,E.ye,E.y6,E.y7,E.yf⟩,E.yg⟩ (all_cons ⟨⟨E.y0n,E.yk,E.y6,E.y7,E.yl⟩,E.ym⟩ (all_cons ⟨⟨E.y0w,E.yq,E.y6,E.y7,E.yr⟩,E.ys⟩ (all_cons ⟨⟨E.y15,E.yw,E.y6,E.y7,E.yx⟩,E.yy⟩ (fun _ h=>nomatch h)))))),Ty E.X E.G E.y4,(all_cons ⟨⟨E.y05,E.y8,E.y6,E.y7,E.y9⟩,E.yb⟩ (all_cons ⟨⟨E.y0e,E.ye,E.y6,E.y7,E.yf⟩,E.yh⟩ (all_cons ⟨⟨E.y0n,E.yk,E.y6,E.y7,E.yl⟩,E.yn⟩ (all_cons ⟨⟨E.y0w,E.yq,E.y6,E.y7,E.yr⟩,E.yt⟩ (all_cons ⟨⟨E.y15,E.yw,E.y6,E.y7,E.yx⟩,E.yz⟩ (fun _ h=>nomatch h)))))),Ty E.X E.G E.y5,(all_cons ⟨⟨E.y1e,E.y02,E.y6,E.y7,E.y03⟩,E.y04⟩ (fun _ h=>nomatch h)),Ty E.X E.G E.y1,(all_cons ⟨⟨E.y05,E.y8,E.y6,E.y7,E.y9⟩,E.yc⟩ (all_cons ⟨⟨E.y0e,E.ye,E.y6,E.y7,E.yf⟩,E.yi⟩ (all_cons ⟨⟨E.y0n,E.yk,E.y6,E.y7,E.yl⟩,E.yo⟩ (all_cons ⟨⟨E.y0w,E.yq,E.y6,E.y7,E.yr⟩,E.yu⟩ (all_cons ⟨⟨E.y15,E.yw,E.y6,E.y7,E.yx⟩,E.y00⟩ (fun _ h=>nomatch h)))))),Ty E.X E.G E.y2,(all_cons ⟨⟨E.y05,E.y8,E.y6,E.y7,E.y9⟩,E.yd⟩ (all_cons ⟨⟨E.y0e,E.ye,E.y6,E.y7,E.yf⟩,E.yj⟩ (all_cons ⟨⟨E.y0n,E.yk,E.y6,E.y7,E.yl⟩,E.yp⟩ (all_cons ⟨⟨E.y0w,E.yq,E.y6,E.y7,E.yr⟩,E.yv⟩ (all_cons ⟨⟨E.y15,E.yw,E.y6,E.y7,E.yx⟩,E.y01⟩ (fun _ h=>nomatch h))))))⟩
variable(T:Tx K mg E.z)
include T
def dQ:=mY P w base E.X E.G E.y22 0 m9 uG (t5 E.z (aH P w)) fun hr u v=>(aj (aM (i:=2) m9.nd rfl (by walk_at "i") (aR eY (aR B4 (aR cE (aR cE (al 0) (aR B4 aq (al 1))) aq) aq) aq))
   (av (aJ (aR eY (aR B4 (al 2) (aR cE (aR i7 (al 2) aq) aq)) aq))))
def sC:=mY P w base E.X E.G E.y23 1 dJ v8 (vR E.z (aH P w)) fun hr u v=>(aj (aM (i:=1) dJ.nd rfl (by walk_at "i") dU)
   (aj (aM (i:=1) dJ.nd rfl (by walk_at "i") (aR cE (al 1) dU))
   (aj (aM (i:=2) dJ.nd rfl (by walk_at "i") (aG (dQ E) hr.m (by rfl) (aa (al 0) (aa aq ao))))
   (aj (aM (i:=3) dJ.nd rfl (by walk_at "i") (cg (kI (aa (aR eY (aR i7 (al 2) aq) aq) (aa (aR eY (aR i7 (al 2) aq) aq) (aa (MZ (bx (mO u) (aR eY (aR i7 (al 2) aq) aq) aq (ba _)) (aR eY (aR i7 (al 2) aq) aq) aq) (aa (aR eY (aR i7 (al 2) aq) aq) ao))))) (aR eY (al 2) aq)))
   (aj (aM (i:=4) dJ.nd rfl (by walk_at "i") (cg (kI (aa aq (aa aq (aa aq ao)))) (aR eY (aG (dQ E) hr.m (by rfl) (aa (al 0) (aa aq ao))) aq)))
   (aj (aM (i:=5) dJ.nd rfl (by walk_at "i") (aR eY (aG (dQ E) hr.m (by rfl) (aa (al 0) (aa aq ao))) aq))
   (av (aJ (Kg dU (aa (fj (T:=["_law_k"]) (M:=Ae0) (bA rfl (by kernel_rfl)) (fun cl C s₀ H₀ fp=>⟨(aI (i:=0) uw rfl (by walk_at "i")),gK,(cg (al 2) (aR eY (aR cE (al 6) (aR eY (aG (dQ E) hr.m (by rfl) (aa (al 1) (aa (aR cE aq (al 0)) ao))) (al 5))) aq))⟩) (uQ (by rfl) T.b_range (aa (al 3) ao))) ao))))))))))
def iE:=mY P w base E.X E.G E.y24 0 sF qU (qF E.z (aH P w)) fun hr u v=>(aj (eX (iU GX (al 1) (bE b_len (by rfl) T.b_len PySem.boot_len (aa (al 0) ao)) (ba _)) (av (aJ (cg (al 0) (al 1)))) cX)
   (av (aJ aq)))
def yW:=mY P w base E.X E.G E.y25 2 dk uF (tZ E.z (aH P w)) fun hr u v=>(aj (aM (i:=2) dk.nd rfl (by walk_at "i") (aG (dQ E) hr.m (by rfl) (aa (al 1) (aa aq ao))))
   (aj (eX (bx (mO u) (aR eY (al 2) aq) aq (ba _)) (av (aJ (aG (sC E T) hr.m (by rfl) (aa (aR cE (aR i7 (al 1) aq) aq) ao)))) cX)
   (aj (eX (bx (mO u) (aR eY (al 2) aq) aq (ba _)) (av (aJ (Do (al 0) jV jV (gO (cg (kI (aa aq (aa (Jl aq) ao))) (aR eY (aR i7 (al 2) aq) aq)))))) cX)
   (aj (gv Oi rfl (uQ (by rfl) T.b_range (aa (aR eY (aR i7 (al 2) aq) aq) ao)) (aI (i:=3) dk.nd rfl (by walk_at "i")) (aj (aM (i:=4) dk.nd rfl (by walk_at "i") (aG (dQ E) hr.m (by rfl) (aa (al 1) (aa (aR cE aq (al 3)) ao))))
   (aj (aM (i:=5) dk.nd rfl (by walk_at "i") (aR eY (aR i7 (al 4) aq) (aR cE (bE b_len (by rfl) T.b_len PySem.boot_len (aa (al 0) ao)) aq)))
   (av (eX (PW.pt (B6 (bx (mO u) (aR eY (al 4) aq) aq (ba _)) (AS (iU GX (bE b_len (by rfl) T.b_len PySem.boot_len (aa (al 0) ao)) aq (ba _))))) (av (aM (i:=0) dk.nd rfl (by walk_at "i") (aR cE (aR cE (h_ xl (al 0) jV (gO (al 5))) (cg (aR cE (al 0) dU) (aR eY (aR i7 (al 4) aq) (aR cE (bE b_len (by rfl) T.b_len PySem.boot_len (aa (al 0) ao)) aq)))) (h_ xl (al 0) (gO (al 5)) jV)))) (av (aM (i:=0) dk.nd rfl (by walk_at "i") (aR cE (h_ xl (al 0) jV (gO (al 5))) (h_ xl (al 0) (gO (aR cE (al 5) aq)) jV)))))))))
   (av (aJ (al 0)))))))
def B1:=mY P w base E.X E.G E.y26 0 fo x9 (xJ E.z (aH P w)) fun hr u v=>(aj (aM (i:=1) fo.nd rfl (by walk_at "i") dU)
   (aj (aM (i:=2) fo.nd rfl (by walk_at "i") (aR i7 (al 0) aq))
   (aj (gv Oi rfl (uQ (by rfl) T.b_range (aa (aR cE aq (aR eY (al 0) aq)) ao)) (aI (i:=3) fo.nd rfl (by walk_at "i")) (aj (aM (i:=1) fo.nd rfl (by walk_at "i") (aR cE (al 1) (cg dU (aR eY (al 2) aq))))
   (av (aM (i:=2) fo.nd rfl (by walk_at "i") (aR cE (aR i7 (al 2) aq) (aR B4 aq (al 3)))))))
   (av (aJ (al 1))))))
def sW:=mY P w base E.X E.G E.y27 0 cS pZ (pf E.z (aH P w)) fun hr u v=>(aj (Cm (i:=3) cS.nd rfl (by walk_at "i") (kI (aa (aR cE (cg (al 0) aq) aq) ao)))
   (aj (gv Oi rfl (CJ (by rfl) T.b_enumerate (aa (al 2) ao)) (sj (n:=2) rfl (d5 (aI (i:=4) cS.nd rfl (by walk_at "i")) (d5 (aI (i:=5) cS.nd rfl (by walk_at "i")) sn))) (aj (aM (i:=6) cS.nd rfl (by walk_at "i") (aR cE (bE (b_min rfl) (by rfl) T.b_min boot_min (aa (cg (al 0) (aR cE (al 4) aq)) (aa (cg (al 3) (al 4)) ao))) aq))
   (aj (eX (bx (mO u) (al 1) (al 5) (ba _)) (av (aM (i:=6) cS.nd rfl (by walk_at "i") (bE (b_min rfl) (by rfl) T.b_min boot_min (aa (al 6) (aa (cg (al 0) (al 4)) ao))))) cX)
   (av (dM (lP (al 3) (aa (al 6) ao)))))))
   (av (ug (i:=3) rfl (by first|exact Or.inl rfl|exact Or.inr (Or.inl rfl))))))
def AG:=mY P w base E.X E.G E.y28 1 my BA (Bd E.z (aH P w)) fun hr u v=>(aj (Cm (i:=2) my.nd rfl (by walk_at "i") (kI (aa (Fv rfl (by rfl) T.b_list (by rfl) T.b_range (aa (aR cE (bE b_len (by rfl) T.b_len PySem.boot_len (aa (al 1) ao)) aq) ao)) ao)))
   (aj (gv Oi rfl (CJ (by rfl) T.b_enumerate (aa (al 0) ao)) (sj (n:=2) rfl (d5 (aI (i:=3) my.nd rfl (by walk_at "i")) (d5 (aI (i:=4) my.nd rfl (by walk_at "i")) sn))) (av (dM (lP (al 2) (aa (aG (sW E T) hr.m (by rfl) (aa (cg (al 2) (al 3)) (aa (al 4) (aa (al 1) ao)))) ao)))))
   (av (ug (i:=2) rfl (by first|exact Or.inl rfl|exact Or.inr (Or.inl rfl))))))
def AI:=mY P w base E.X E.G E.y29 0 xB v3 (vM E.z (aH P w)) fun hr u v=>(aj (eX (PW.pt (B6 (iU AR (al 3) aq (ba _)) (B6 (iU AR (al 4) aq (ba _)) (AS (bx (mO u) (cg (al 1) (aR k0 (al 3) aq)) (cg (al 2) (aR k0 (al 4) aq)) (ba _)))))) (av (aJ (eZ (aa dU (aa (aR k0 (al 3) aq) (aa (aR k0 (al 4) aq) ao)))))) cX)
   (aj (eX (PW.pt (B6 (iU AR (al 3) aq (ba _)) (AS (bx (mO u) (cg (cg (al 0) (al 3)) (al 4)) (aR cE (cg (cg (al 0) (aR k0 (al 3) aq)) (al 4)) aq) (ba _))))) (av (aJ (eZ (aa dU (aa (aR k0 (al 3) aq) ao))))) cX)
   (av (aJ (eZ (aa dU (aa (aR k0 (al 4) aq) ao)))))))
def IX:=mY P w base E.X E.G E.y2a 2 gg DB (Dg E.z (aH P w)) fun hr u v=>(aj (aM (i:=2) gg.nd rfl (by walk_at "i") (aG (AG E T) hr.m (by rfl) (aa (al 0) (aa (al 1) ao))))
   (aj (aM (i:=3) gg.nd rfl (by walk_at "i") (bE b_len (by rfl) T.b_len PySem.boot_len (aa (al 0) ao)))
   (aj (aM (i:=4) gg.nd rfl (by walk_at "i") (bE b_len (by rfl) T.b_len PySem.boot_len (aa (al 1) ao)))
   (aj (Cm (i:=5) gg.nd rfl (by walk_at "i") (kI ao))
   (aj (Ck Oi (PW.pt (Ha (iU AR (al 3) aq (ba _)) (B5 (iU AR (al 4) aq (ba _))))) (aj (aM (i:=6) gg.nd rfl (by walk_at "i") (aG (AI E) hr.m (by rfl) (aa (al 2) (aa (al 0) (aa (al 1) (aa (al 3) (aa (al 4) ao)))))))
   (aj (dM (lP (al 5) (aa (al 6) ao)))
   (aj (eX (bx (sD u) (cg (al 6) aq) dU (ba _)) (av (aM (i:=3) gg.nd rfl (by walk_at "i") (aR k0 (al 3) aq))) cX)
   (av (eX (bx (sD u) (cg (al 6) aq) dU (ba _)) (av (aM (i:=4) gg.nd rfl (by walk_at "i") (aR k0 (al 4) aq))) cX))))))
   (av (LI 5 (aJ (Kf rfl (by rfl) T.b_list (by rfl) T.b_reversed (al 5))))))))))
def yV:=mY P w base E.X E.G E.y2b 3 vE uE (tY E.z (aH P w)) fun hr u v=>(av (aJ (fj (T:=["step"]) (M:=Au0) (bA rfl (by kernel_rfl)) (fun cl C s₀ H₀ fp=>⟨(aI (i:=0) sN rfl (by walk_at "i")),(nK (bx (mO u) (cg (al 0) aq) dU (ba _))),(h_ xl (al 0) (gO aq) jV)⟩) (dG (aG (IX E T) hr.m (by rfl) (aa (al 0) (aa (al 1) ao)))))))
def AL:=mY P w base E.X E.G E.y2c 0 xD v6 (vP E.z (aH P w)) fun hr u v=>(av (eX (xN (ul GY GY aq (al 0) (al 1))) (av pN) cX))
def AM:=mY P w base E.X E.G E.y2d 0 xE v7 (vQ E.z (aH P w)) fun hr u v=>(aj (eX (bx (mO u) (al 1) aq (ba _)) (av (aJ (eF (by rfl) T.k_START))) cX)
   (av (aJ (cg (cg (al 0) (aR k0 (al 1) aq)) aq))))
def qr:=mY P w base E.X E.G E.y2e 0 f7 uD (tX E.z (aH P w)) fun hr u v=>(aj (aM (i:=3) f7.nd rfl (by walk_at "i") (al 1))
   (av (gv Oi rfl (dG (al 2)) (aI (i:=4) f7.nd rfl (by walk_at "i")) (aj (ir u (al 0) (al 4) (r8 u (al 0) (al 3)))
   (aj (ir u (al 0) (al 3) (al 4))
   (av (aM (i:=3) f7.nd rfl (by walk_at "i") (al 4))))))))
def j7:=mY P w base E.X E.G E.y2f 0 vD uC (tW E.z (aH P w)) fun hr u v=>(av (aJ (fj (T:=["k"]) (M:=Az0) (bA rfl (by kernel_rfl)) (fun cl C s₀ H₀ fp=>⟨(aI (i:=0) sM rfl (by walk_at "i")),gK,(aR cE (al 1) (eZ (aa (al 0) ao)))⟩) (F1 (by rfl) T.b_range (aa aq (aa (aR cE (al 1) aq) ao))))))
def sB:=mY P w base E.X E.G E.y2g 1 xA v0 (vL E.z (aH P w)) fun hr u v=>(av (aJ (aG (j7 E T) hr.m (by rfl) (aa (h_ xl (eF (by rfl) T.k_START) jV (gO aq)) (aa (bE b_len (by rfl) T.b_len PySem.boot_len (aa (al 0) ao)) ao)))))
def rG:=mY P w base E.X E.G E.y2h 0 oM oh (nQ E.z (aH P w)) fun hr u v=>(av (aJ (eZ (aa (cg (al 0) aq) (aa (cg (al 0) aq) ao)))))
def vo:=mY P w base E.X E.G E.y2i 3 lh x8 (xI E.z (aH P w)) fun hr u v=>(aj (aM (i:=1) lh.nd rfl (by walk_at "i") qQ)
   (aj (JW Oi rfl (al 0) (aI (i:=2) lh.nd rfl (by walk_at "i")) (av (ir u (al 1) (cg (al 2) aq) (al 2))))
   (av (aJ (HP (rG E) hr.m rfl (by rfl) (by rfl) T.b_sorted (al 1))))))
def dR:=NF P w base E.X E.G E.y0 E.y2k fun F=>FH 0 F nO mW (mS E.z (aH P w)) fun hr u v=>(aj (iu T.fa_name (al 0) (al 1))
   (aj (iu T.fa_time (al 0) (al 2))
   (aj (iu T.fa_anchor (al 0) (eF (by rfl) T.k_START))
   (av (iu T.fa_names (al 0) (eZ ao))))))
def JB:=Ma P w base E.X E.G E.y1 E.y0f E.y0g E.y2l fun F=>FH 1 F sH qW (qH E.z (aH P w)) fun hr u v=>(aj (dM (mC (dR E T) hr.m (by rfl) (aa (al 0) (aa (al 1) (aa (al 2) ao)))))
   (aj (iu T.fa_anchor (al 0) (al 3))
   (av (iu T.fa_signs (al 0) (al 4)))))
def AE:=Ma P w base E.X E.G E.y2 E.y0o E.y0p E.y2m fun F=>FH 1 F nP mX (mT E.z (aH P w)) fun hr u v=>(aj (dM (mC (dR E T) hr.m (by rfl) (aa (al 0) (aa (al 1) (aa (al 2) ao)))))
   (av (iu T.fa_names (al 0) (al 3))))
def IV:=Ma P w base E.X E.G E.y3 E.y0x E.y0y E.y2n fun F=>FH 1 F oR oq (nV E.z (aH P w)) fun hr u v=>(aj (dM (mC (dR E T) hr.m (by rfl) (aa (al 0) (aa (al 1) (aa (al 2) ao)))))
   (aj (iu T.fa_names (al 0) (al 3))
   (av (iu T.fa_word (al 0) (al 4)))))
def Lg:=Ma P w base E.X E.G E.y4 E.y16 E.y17 E.y2o fun F=>FH 1 F qC p_ (pC E.z (aH P w)) fun hr u v=>(aj (dM (mC (dR E T) hr.m (by rfl) (aa (al 0) (aa (al 1) (aa (al 2) ao)))))
   (aj (iu T.fa_names (al 0) (al 3))
   (av (iu T.fa_anchor (al 0) (al 4)))))
def sA:=mY P w base E.X E.G E.y2p 3 h8 vZ (vK E.z (aH P w)) fun hr u v=>(aj (aM (i:=1) h8.nd rfl (by walk_at "i") (cg (al 0) aq))
   (aj (aM (i:=2) h8.nd rfl (by walk_at "i") (cg (al 0) aq))
   (aj (aM (i:=3) h8.nd rfl (by walk_at "i") (cg (al 0) aq))
   (aj (eX (bx (mO u) (cg (al 3) aq) dU (ba _)) (av (aJ (n6 (JB E T) hr.m (by rfl) (aa (al 1) (aa (al 2) (aa (cg (al 3) aq) (aa (cg (al 3) aq) ao))))))) cX)
   (aj (eX (bx (mO u) (cg (al 3) aq) dU (ba _)) (av (aJ (n6 (AE E T) hr.m (by rfl) (aa (al 1) (aa (al 2) (aa (cg (al 3) aq) ao)))))) cX)
   (aj (eX (bx (mO u) (cg (al 3) aq) dU (ba _)) (av (aJ (n6 (IV E T) hr.m (by rfl) (aa (al 1) (aa (al 2) (aa (cg (al 3) aq) (aa (cg (al 3) aq) ao))))))) cX)
   (av (aJ (n6 (Lg E T) hr.m (by rfl) (aa (al 1) (aa (al 2) (aa (cg (al 3) aq) (aa (cg (al 3) aq) ao)))))))))))))
def Ed:=mY P w base E.X E.G E.y2q 0 jF zW (zx E.z (aH P w)) fun hr u v=>(aj (Cm (i:=1) jF.nd rfl (by walk_at "i") (kI ao))
   (aj (aM (i:=2) jF.nd rfl (by walk_at "i") (r8 u (al 0) (eF (by rfl) T.k_START)))
   (aj (Ck Oi (iU JF (al 2) Jk (ba _)) (aj (dM (lP (al 1) (aa (al 2) ao)))
   (av (aM (i:=2) jF.nd rfl (by walk_at "i") (r8 u (al 0) (al 2))))))
   (av (ug (i:=1) rfl (by first|exact Or.inl rfl|exact Or.inr (Or.inl rfl)))))))
theorem gU:∀ {f:NR} {fd:O4},Fun3 K "slots" "Stroke.slots" eh f fd->FnOk P w K mg base vy 1 f fd Ad0 (cD K (az E.z (aH P w))):=fun F=>FH 0 F sG qV (qG E.z (aH P w)) fun hr u v=>(av (aJ (kI ao)))
def fJ:=Ic P w base T.cl_Dress E.y2r fun F=>(gU E T) F
def fh:=Ic P w base T.cl_Strike E.y2s fun F=>(gU E T) F
def fg:=Ic P w base T.cl_Stroke E.y2t fun F=>(gU E T) F
def ie:=vz P w base mg T.cl_Put E.y2u 1 xF v9 (vS E.z (aH P w)) fun hr u v=>(av (aJ (aG (j7 E T) hr.m (by rfl) (aa (b8 T.fa_name (al 0)) (aa (bE b_len (by rfl) T.b_len PySem.boot_len (aa (b8 T.fa_signs (al 0)) ao)) ao)))))
def gd:=vz P w base mg T.cl_Move E.y2v 1 vJ uL (ub E.z (aH P w)) fun hr u v=>(av (aJ (aG (j7 E T) hr.m (by rfl) (aa (b8 T.fa_name (al 0)) (aa (bE b_len (by rfl) T.b_len PySem.boot_len (aa (b8 T.fa_names (al 0)) ao)) ao)))))
def B0:=mY P w base E.X E.G E.y2w 4 k_ xZ (xH E.z (aH P w)) fun hr u v=>(aj (aM (i:=2) k_.nd rfl (by walk_at "i") (HS u (eF (by rfl) T.k_START) Jk))
   (aj (dM (aG (qr E) hr.m (by rfl) (aa (al 2) (aa (eF (by rfl) T.k_START) (aa (aG (sB E T) hr.m (by rfl) (aa (al 0) ao)) ao)))))
   (aj (gv Oi rfl (dG (fj (T:=Ax0) (M:=Am0) (bA rfl (by kernel_rfl)) (fun cl C s₀ H₀ fp=>⟨(aI (i:=0) vY rfl (by walk_at "i")),gK,(aG (sA E T) hr.m (by rfl) (aa (al 0) ao))⟩) (dG (aG (vo E T) hr.m (by rfl) (aa (al 1) ao))))) (aI (i:=3) k_.nd rfl (by walk_at "i")) (av (eX (Bn u (b8 T.fa_anchor (al 3)) (al 2)) (av (dM (aG (qr E) hr.m (by rfl) (aa (al 2) (aa (b8 T.fa_anchor (al 3)) (aa (gw (k:=2) (all_cons ⟨_,(by decide),(fg E T)⟩ (all_cons ⟨_,(by decide),(ie E T)⟩ (all_cons ⟨_,(by decide),(fh E T)⟩ (all_cons ⟨_,(by decide),(fJ E T)⟩ (all_cons ⟨_,(by decide),(gd E T)⟩ (fun _ h=>nomatch h)))))) hr.m (al 3)) ao)))))) cX)))
   (av (aJ (aG (Ed E T) hr.m (by rfl) (aa (al 2) ao)))))))
def AH:=mY P w base E.X E.G E.y2x 0 De BB (Be E.z (aH P w)) fun hr u v=>(av (aJ (HR u rfl (by rfl) T.b_dict (fj (T:=["key"]) (M:=["keys"]) (bA rfl (by kernel_rfl)) (fun cl C s₀ H₀ fp=>⟨(aI (i:=0) zO rfl (by walk_at "i")),gK,(eZ (aa (al 0) (aa Bo ao)))⟩) (dG (al 0))))))
def AJ:=mY P w base E.X E.G E.y2y 2 xC v4 (vN E.z (aH P w)) fun hr u v=>(av (aJ (bE (K9 rfl) (by rfl) T.b_all PyProof.Rows.boot_all (aa (fj (T:=["slot"]) (M:=AA0) (bA rfl (by kernel_rfl)) (fun cl C s₀ H₀ fp=>⟨(aI (i:=0) ut rfl (by walk_at "i")),gK,(L0 u (al 0) (al 2))⟩) (dG (gw (k:=2) (all_cons ⟨_,(by decide),(fg E T)⟩ (all_cons ⟨_,(by decide),(ie E T)⟩ (all_cons ⟨_,(by decide),(fh E T)⟩ (all_cons ⟨_,(by decide),(fJ E T)⟩ (all_cons ⟨_,(by decide),(gd E T)⟩ (fun _ h=>nomatch h)))))) hr.m (al 0)))) ao))))
def AK:=mY P w base E.X E.G E.y2z 4 jE v5 (vO E.z (aH P w)) fun hr u v=>(aj (aM (i:=3) jE.nd rfl (by walk_at "i") (aG (AH E T) hr.m (by rfl) (aa (al 1) ao)))
   (aj (E8 (T:=Ax0) (M:=Af0) (i:=4) (bA rfl (by kernel_rfl)) jE.nd rfl rfl (fun cl C s₀ H₀ fp=>⟨(aI (i:=0) uv rfl (by walk_at "i")),(nK (Bn u (cg (al 0) aq) (al 4))),(aG (sA E T) hr.m (by rfl) (aa (al 0) ao))⟩) (dG (aG (vo E T) hr.m (by rfl) (aa (al 0) ao))))
   (av (aJ (fj (T:=["stroke"]) (M:=Af0) (bA rfl (by kernel_rfl)) (fun cl C s₀ H₀ fp=>⟨(aI (i:=0) uu rfl (by walk_at "i")),(nK (jp (aG (AJ E T) hr.m (by rfl) (aa (al 0) (aa (al 3) ao))))),(al 0)⟩) (dG (al 4)))))))
def sV:=mY P w base E.X E.G E.y30 2 dw pY (pd E.z (aH P w)) fun hr u v=>(aj (aM (i:=2) dw.nd rfl (by walk_at "i") (HQ u rfl (by rfl) T.b_dict (by rfl) T.b_zip (aa (aG (sB E T) hr.m (by rfl) (aa (al 0) ao)) (aa (al 0) ao))))
   (aj (gv Oi rfl (dG (al 1)) (aI (i:=3) dw.nd rfl (by walk_at "i")) (av (eX (jp (bE (Ay T.ik_Put) (by rfl) T.b_isinstance Qu (aa (al 3) (aa (um (by rfl) T.xm_Put) ao)))) (av (gv Oi rfl (Jw (by rfl) T.b_zip (aa (gw (k:=2) (all_cons ⟨_,(by decide),(fg E T)⟩ (all_cons ⟨_,(by decide),(ie E T)⟩ (all_cons ⟨_,(by decide),(fh E T)⟩ (all_cons ⟨_,(by decide),(fJ E T)⟩ (all_cons ⟨_,(by decide),(gd E T)⟩ (fun _ h=>nomatch h)))))) hr.m (al 3)) (aa (b8 T.fa_signs (al 3)) ao))) (sj (n:=2) rfl (d5 (aI (i:=4) dw.nd rfl (by walk_at "i")) (d5 (aI (i:=5) dw.nd rfl (by walk_at "i")) sn))) (av (ir u (al 2) (al 4) (al 5))))) cX)))
   (av (aJ (al 2)))))
theorem dg:∀ {f:NR} {fd:O4},Fun3 K "touched" "Stroke.touched" cq f fd->FnOk P w K mg base vy 1 f fd Ad0 (cD K (ak E.z (aH P w))):=fun F=>FH 0 F oN oj (nR E.z (aH P w)) fun hr u v=>(av (aJ (uo b_list (by rfl) T.b_list PyProof.Rows.boot_list (aa (b8 T.fa_names (al 0)) ao))))
def fZ:=Ic P w base T.cl_Dress E.y31 fun F=>(dg E T) F
def gV:=Ic P w base T.cl_Move E.y32 fun F=>(dg E T) F
def iD:=Ic P w base T.cl_Put E.y33 fun F=>(dg E T) F
def fI:=Ic P w base T.cl_Strike E.y34 fun F=>(dg E T) F
def fH:=Ic P w base T.cl_Stroke E.y35 fun F=>(dg E T) F
def vn:=mY P w base E.X E.G E.y36 1 e9 qT (qE E.z (aH P w)) fun hr u v=>(aj (aM (i:=1) e9.nd rfl (by walk_at "i") qQ)
   (aj (gv Oi rfl (dG (al 0)) (aI (i:=2) e9.nd rfl (by walk_at "i")) (av (eX (jp (bE (Ay T.ik_Strike) (by rfl) T.b_isinstance Qu (aa (al 2) (aa (um (by rfl) T.xm_Strike) ao)))) (av (gv Oi rfl (dG (gw (k:=1) (all_cons ⟨_,(by decide),(fH E T)⟩ (all_cons ⟨_,(by decide),(iD E T)⟩ (all_cons ⟨_,(by decide),(fI E T)⟩ (all_cons ⟨_,(by decide),(fZ E T)⟩ (all_cons ⟨_,(by decide),(gV E T)⟩ (fun _ h=>nomatch h)))))) hr.m (al 2))) (aI (i:=3) e9.nd rfl (by walk_at "i")) (av (ir u (al 1) (al 3) Bo)))) cX)))
   (av (aJ (al 1)))))
def wt:=mY P w base E.X E.G E.y37 2 eg sO (sI E.z (aH P w)) fun hr u v=>(aj (aM (i:=1) eg.nd rfl (by walk_at "i") qQ)
   (aj (gv Oi rfl (dG (al 0)) (aI (i:=2) eg.nd rfl (by walk_at "i")) (av (eX (jp (bE (Ay T.ik_Move) (by rfl) T.b_isinstance Qu (aa (al 2) (aa (um (by rfl) T.xm_Move) ao)))) (av (gv Oi rfl (Jw (by rfl) T.b_zip (aa (gw (k:=1) (all_cons ⟨_,(by decide),(fH E T)⟩ (all_cons ⟨_,(by decide),(iD E T)⟩ (all_cons ⟨_,(by decide),(fI E T)⟩ (all_cons ⟨_,(by decide),(fZ E T)⟩ (all_cons ⟨_,(by decide),(gV E T)⟩ (fun _ h=>nomatch h)))))) hr.m (al 2)) (aa (gw (k:=2) (all_cons ⟨_,(by decide),(fg E T)⟩ (all_cons ⟨_,(by decide),(ie E T)⟩ (all_cons ⟨_,(by decide),(fh E T)⟩ (all_cons ⟨_,(by decide),(fJ E T)⟩ (all_cons ⟨_,(by decide),(gd E T)⟩ (fun _ h=>nomatch h)))))) hr.m (al 2)) ao))) (sj (n:=2) rfl (d5 (aI (i:=3) eg.nd rfl (by walk_at "i")) (d5 (aI (i:=4) eg.nd rfl (by walk_at "i")) sn))) (av (ir u (al 1) (al 3) (al 4))))) cX)))
   (av (aJ (al 1)))))
def yU:=mY P w base E.X E.G E.y38 1 f6 uB (tV E.z (aH P w)) fun hr u v=>(aj (aM (i:=1) f6.nd rfl (by walk_at "i") qQ)
   (aj (gv Oi rfl (dG (al 0)) (aI (i:=2) f6.nd rfl (by walk_at "i")) (av (eX (jp (bE (Ay T.ik_Dress) (by rfl) T.b_isinstance Qu (aa (al 2) (aa (um (by rfl) T.xm_Dress) ao)))) (av (gv Oi rfl (dG (gw (k:=1) (all_cons ⟨_,(by decide),(fH E T)⟩ (all_cons ⟨_,(by decide),(iD E T)⟩ (all_cons ⟨_,(by decide),(fI E T)⟩ (all_cons ⟨_,(by decide),(fZ E T)⟩ (all_cons ⟨_,(by decide),(gV E T)⟩ (fun _ h=>nomatch h)))))) hr.m (al 2))) (aI (i:=3) f6.nd rfl (by walk_at "i")) (av (ir u (al 1) (al 3) (b8 T.fa_word (al 2)))))) cX)))
   (av (aJ (al 1)))))
def AF:=mY P w base E.X E.G E.y39 5 dX Bz (Bc E.z (aH P w)) fun hr u v=>(aj (aM (i:=3) dX.nd rfl (by walk_at "i") (aG (B0 E T) hr.m (by rfl) (aa (al 0) (aa (al 1) ao))))
   (aj (aM (i:=4) dX.nd rfl (by walk_at "i") (aG (AK E T) hr.m (by rfl) (aa (al 1) (aa (al 2) (aa (aG (AH E T) hr.m (by rfl) (aa (al 3) ao)) ao)))))
   (aj (aM (i:=5) dX.nd rfl (by walk_at "i") (aG (sV E T) hr.m (by rfl) (aa (al 0) (aa (al 4) ao))))
   (aj (aM (i:=6) dX.nd rfl (by walk_at "i") (aG (vn E T) hr.m (by rfl) (aa (al 4) ao)))
   (aj (aM (i:=7) dX.nd rfl (by walk_at "i") (aG (wt E T) hr.m (by rfl) (aa (al 4) ao)))
   (aj (aM (i:=8) dX.nd rfl (by walk_at "i") (aG (yU E T) hr.m (by rfl) (aa (al 4) ao)))
   (aj (aM (i:=9) dX.nd rfl (by walk_at "i") qQ)
   (aj (JX Oi rfl (al 5) (aI (i:=10) dX.nd rfl (by walk_at "i")) (av (eX (wM u (al 10) (al 6)) (av (ir u (al 9) (xO u (al 7) (al 10) (al 10)) (al 10))) cX)))
   (aj (E8 (T:=["slot"]) (M:=Ac0) (i:=11) (bA rfl (by kernel_rfl)) dX.nd rfl rfl (fun cl C s₀ H₀ fp=>⟨(aI (i:=0) zN rfl (by walk_at "i")),(nK (Bn u (al 0) (al 10))),(eZ (aa (al 0) (aa (r8 u (al 10) (al 0)) ao)))⟩) (dG (al 3)))
   (av (aJ (fj (T:=["slot","name"]) (M:=Ai0) (bA rfl (by kernel_rfl)) (fun cl C s₀ H₀ fp=>⟨(sj (n:=2) rfl (d5 (aI (i:=0) r9 rfl (by walk_at "i")) (d5 (aI (i:=1) r9 rfl (by walk_at "i")) sn))),gK,(eZ (aa (al 0) (aa (al 1) (aa (r8 u (al 7) (al 1)) (aa (xO u (al 10) (al 1) dU) ao)))))⟩) (dG (al 11))))))))))))))
def jy:=vz P w base mg T.cl_Paper E.y3a 0 qA p8 (pA E.z (aH P w)) fun hr u v=>(av (aJ (Ct (T:=Ax0) (M:=Ad0) (bA rfl (by kernel_rfl)) (fun cl C s₀ H₀ fp=>⟨(aI (i:=0) og rfl (by walk_at "i")),(nK (bx (sD u) (r8 u (fN T.cl_Paper T.na_Paper_states cZ (al 1)) (cg (al 0) aq)) (eF (by rfl) T.k_WIPED) (ba _))),(cg (al 0) aq)⟩) (fN T.cl_Paper T.na_Paper_drawn dA (al 0)))))
def mj:=vz P w base mg T.cl_Paper E.y3b 6 tN sQ (sK E.z (aH P w)) fun hr u v=>(av (aJ (aG (AF E T) hr.m (by rfl) (aa (fN T.cl_Paper T.na_Paper_old j6 (al 0)) (aa (fN T.cl_Paper T.na_Paper_drawn dA (al 0)) (aa (eQ (jy E T) js hr.m (al 0)) ao))))))
def BX:=vz P w base mg T.cl_Put E.y3c 0 A9 zY (zA E.z (aH P w)) fun hr u v=>(av (aJ (eZ (aa (b8 T.fa_name (al 0)) (aa (b8 T.fa_time (al 0)) (aa (eZ (aa dU (aa (b8 T.fa_anchor (al 0)) (aa (b8 T.fa_signs (al 0)) ao)))) ao))))))
def wm:=vz P w base mg T.cl_Strike E.y3d 0 vF uH (t6 E.z (aH P w)) fun hr u v=>(av (aJ (eZ (aa (b8 T.fa_name (al 0)) (aa (b8 T.fa_time (al 0)) (aa (eZ (aa dU (aa (b8 T.fa_names (al 0)) ao))) ao))))))
def yT:=vz P w base mg T.cl_Dress E.y3e 0 xG wa (vU E.z (aH P w)) fun hr u v=>(av (aJ (eZ (aa (b8 T.fa_name (al 0)) (aa (b8 T.fa_time (al 0)) (aa (eZ (aa dU (aa (b8 T.fa_names (al 0)) (aa (b8 T.fa_word (al 0)) ao)))) ao))))))
def AD:=vz P w base mg T.cl_Move E.y3f 0 zi x_ (xK E.z (aH P w)) fun hr u v=>(av (aJ (eZ (aa (b8 T.fa_name (al 0)) (aa (b8 T.fa_time (al 0)) (aa (eZ (aa dU (aa (b8 T.fa_names (al 0)) (aa (b8 T.fa_anchor (al 0)) ao)))) ao))))))
def nI:=vz P w base mg T.cl_Paper E.y3g 1 vI uK (t_ E.z (aH P w)) fun hr u v=>(aj (dM (lP (fN T.cl_Paper T.na_Paper_drawn dA (al 0)) (aa (gw (k:=1) (all_cons ⟨_,(by decide),(BX E T)⟩ (all_cons ⟨_,(by decide),(wm E T)⟩ (all_cons ⟨_,(by decide),(yT E T)⟩ (all_cons ⟨_,(by decide),(AD E T)⟩ (fun _ h=>nomatch h))))) hr.m (al 1)) ao)))
   (aj (ir u (fN T.cl_Paper T.na_Paper_states cZ (al 0)) (b8 T.fa_name (al 1)) (eF (by rfl) T.k_WAITS))
   (aj (ir u (fN T.cl_Paper T.na_Paper_greatest iP (al 0)) (cg (b8 T.fa_name (al 1)) aq) (cg (b8 T.fa_name (al 1)) aq))
   (aj (LJ T.cl_Paper T.na_Paper_time nG (by decide) (al 0) (b8 T.fa_time (al 1)))
   (av (aJ (b8 T.fa_name (al 1))))))))
def gI:=vz P w base mg T.cl_Paper E.y3h 0 lu kT (kN E.z (aH P w)) fun hr u v=>(av (aJ (eZ (aa (al 1) (aa (aR cE (xO u (fN T.cl_Paper T.na_Paper_greatest iP (al 0)) (al 1) aq) aq) ao)))))
def gH:=vz P w base mg T.cl_Paper E.y3i 0 lq kS (kM E.z (aH P w)) fun hr u v=>(av (aJ (aR cE (fN T.cl_Paper T.na_Paper_time nG (al 0)) aq)))
def qp:=vz P w base mg T.cl_Paper E.y3j 7 oO v_ (vT E.z (aH P w)) fun hr u v=>(aj (aM (i:=4) oO.nd rfl (by walk_at "i") (eQ (mj E T) lS hr.m (al 0)))
   (aj (dM (aG (AL E) hr.m (by rfl) (aa (al 2) (aa (bE b_len (by rfl) T.b_len PySem.boot_len (aa (al 4) ao)) ao))))
   (av (aJ (fU (nI E T) nB hr.m (al 0) (aa (n6 (JB E T) hr.m (by rfl) (aa (fU (gI E T) gB hr.m (al 0) (aa (al 1) ao)) (aa (eQ (gH E T) gA hr.m (al 0)) (aa (aG (AM E T) hr.m (by rfl) (aa (al 4) (aa (al 2) ao))) (aa (al 3) ao))))) ao))))))
def sY:=mY P w base E.X E.G E.y3k 0 qy p4 (pi E.z (aH P w)) fun hr u v=>(aj (eX (xN (ul GY GX aq (al 0) (al 2))) (av pN) cX)
   (av (eX (xN (ul GX GY (al 0) (al 1) (al 2))) (av pN) cX)))
def sX:=mY P w base E.X E.G E.y3l 0 qx p3 (ph E.z (aH P w)) fun hr u v=>(av (aJ (uo b_tuple (by rfl) T.b_tuple PyProof.Rows.boot_tuple (aa (fj (T:=["seat"]) (M:=AB0) (bA rfl (by kernel_rfl)) (fun cl C s₀ H₀ fp=>⟨(aI (i:=0) n_ rfl (by walk_at "i")),gK,(cg (al 0) aq)⟩) (dG (h_ xl (al 0) (gO (al 1)) (gO (al 2))))) ao))))
def sU:=vz P w base mg T.cl_Paper E.y3m 7 j9 qX (qI E.z (aH P w)) fun hr u v=>(aj (aM (i:=4) j9.nd rfl (by walk_at "i") (eQ (mj E T) lS hr.m (al 0)))
   (aj (dM (aG (sY E) hr.m (by rfl) (aa (al 2) (aa (al 3) (aa (bE b_len (by rfl) T.b_len PySem.boot_len (aa (al 4) ao)) ao)))))
   (av (aJ (fU (nI E T) nB hr.m (al 0) (aa (n6 (AE E T) hr.m (by rfl) (aa (fU (gI E T) gB hr.m (al 0) (aa (al 1) ao)) (aa (eQ (gH E T) gA hr.m (al 0)) (aa (aG (sX E T) hr.m (by rfl) (aa (al 4) (aa (al 2) (aa (al 3) ao)))) ao)))) ao))))))
def IU:=Ma P w base E.X E.G E.y5 E.y1f E.y1g E.y3n fun F=>FH 0 F oQ oo (nU E.z (aH P w)) fun hr u v=>(aj (uh (L:=[]) T.cl_Paper T.na_Paper_old (by decide +kernel) (by decide) (al 0) (al 1))
   (aj (uh (L:=["old"]) T.cl_Paper T.na_Paper_drawn (by decide +kernel) (by decide) (al 0) (Ke (kI ao)))
   (aj (uh (L:=["old","drawn"]) T.cl_Paper T.na_Paper_states (by decide +kernel) (by decide) (al 0) qQ)
   (aj (uh (L:=AM0) T.cl_Paper T.na_Paper_greatest (by decide +kernel) (by decide) (al 0) Kh)
   (av (uh (L:=["old","drawn","states","greatest"]) T.cl_Paper T.na_Paper_time (by decide +kernel) (by decide) (al 0) aq))))))
def rH:=mY P w base E.X E.G E.y3o 8 dI zX (zy E.z (aH P w)) fun hr u v=>(aj (aM (i:=3) dI.nd rfl (by walk_at "i") (n6 (IU E T) hr.m (by rfl) (aa (al 0) ao)))
   (aj (aM (i:=4) dI.nd rfl (by walk_at "i") aq)
   (aj (aM (i:=5) dI.nd rfl (by walk_at "i") aq)
   (aj (gv Oi rfl (dG (aR cE (aG (yV E T) hr.m (by rfl) (aa (al 0) (aa (al 1) ao))) (kI (aa (eZ (aa (bE b_len (by rfl) T.b_len PySem.boot_len (aa (al 0) ao)) (aa (bE b_len (by rfl) T.b_len PySem.boot_len (aa (al 1) ao)) ao))) ao)))) (sj (n:=2) rfl (d5 (aI (i:=6) dI.nd rfl (by walk_at "i")) (d5 (aI (i:=7) dI.nd rfl (by walk_at "i")) sn))) (aj (aM (i:=8) dI.nd rfl (by walk_at "i") (aR k0 (aR cE (al 5) (al 6)) (al 4)))
   (aj (eX (iU AR (al 7) (al 5) (ba _)) (av (dM (fU (qp E T) pQ hr.m (al 3) (aa (al 2) (aa (al 8) (aa (h_ xl (al 1) (gO (al 5)) (gO (al 7))) ao)))))) cX)
   (aj (eX (iU AR (al 8) (al 5) (ba _)) (av (dM (fU (sU E T) sL hr.m (al 3) (aa (al 2) (aa (al 5) (aa (al 8) ao)))))) cX)
   (aj (aM (i:=4) dI.nd rfl (by walk_at "i") (aR cE (al 6) aq))
   (av (aM (i:=5) dI.nd rfl (by walk_at "i") (aR cE (al 7) aq))))))))
   (av (aJ (al 3)))))))
def sZ:=mY P w base E.X E.G E.y3p 0 cn p5 (pj E.z (aH P w)) fun hr u v=>(aj (aM (i:=1) cn.nd rfl (by walk_at "i") aq)
   (aj (gv Oi rfl (dG (al 0)) (sj (n:=3) rfl (d5 (aI (i:=2) cn.nd rfl (by walk_at "i")) (d5 (aI (i:=3) cn.nd rfl (by walk_at "i")) (d5 (aI (i:=4) cn.nd rfl (by walk_at "i")) sn)))) (av (eX (bx (mO u) (cg (al 4) aq) dU (ba _)) (av (aM (i:=1) cn.nd rfl (by walk_at "i") (aR cE (al 1) (bE b_len (by rfl) T.b_len PySem.boot_len (aa (cg (al 4) aq) ao))))) (av (eX (bx (mO u) (cg (al 4) aq) dU (ba _)) (av (aM (i:=1) cn.nd rfl (by walk_at "i") (aR cE (al 1) (bE b_len (by rfl) T.b_len PySem.boot_len (aa (cg (al 4) aq) ao))))) (av (aJ (Jl aq))))))))
   (av (aJ (al 1)))))
def qq:=vz P w base mg T.cl_Paper E.y3q 0 oP on (nT E.z (aH P w)) fun hr u v=>(av (aJ (fN T.cl_Paper T.na_Paper_old j6 (al 0))))
def fY:=vz P w base mg T.cl_Paper E.y3r 0 qB p9 (pB E.z (aH P w)) fun hr u v=>(av (aJ (uo b_list (by rfl) T.b_list PyProof.Rows.boot_list (aa (fN T.cl_Paper T.na_Paper_drawn dA (al 0)) ao))))
def mq:=vz P w base mg T.cl_Paper E.y3s 0 lB kW (kP E.z (aH P w)) fun hr u v=>(av (eX (wM u (al 1) (fN T.cl_Paper T.na_Paper_states cZ (al 0))) (av pN) cX))
def mi:=vz P w base mg T.cl_Paper E.y3t 1 tM sP (sJ E.z (aH P w)) fun hr u v=>(aj (dM (fU (mq E T) lU hr.m (al 0) (aa (al 1) ao)))
   (av (aJ (r8 u (fN T.cl_Paper T.na_Paper_states cZ (al 0)) (al 1)))))
def Ec:=mY P w base E.X E.G E.y3u 6 A8 zV (zw E.z (aH P w)) fun hr u v=>(av (aJ (fj (T:=["seat"]) (M:=Al0) (bA rfl (by kernel_rfl)) (fun cl C s₀ H₀ fp=>⟨(aI (i:=0) xT rfl (by walk_at "i")),gK,(h_ xl (al 0) (gO aq) jV)⟩) (dG (aG (AF E T) hr.m (by rfl) (aa (al 0) (aa (al 1) (aa (al 2) ao))))))))
def wo:=vz P w base mg T.cl_Paper E.y3v 7 vH uJ (t9 E.z (aH P w)) fun hr u v=>(av (aJ (aG (Ec E T) hr.m (by rfl) (aa (fN T.cl_Paper T.na_Paper_old j6 (al 0)) (aa (fN T.cl_Paper T.na_Paper_drawn dA (al 0)) (aa (eQ (jy E T) js hr.m (al 0)) ao))))))
def m6:=vz P w base mg T.cl_Paper E.y3w 0 mQ lW (lG E.z (aH P w)) fun hr u v=>(av (aJ (Ct (T:=Ax0) (M:=AG0) (bA rfl (by kernel_rfl)) (fun cl C s₀ H₀ fp=>⟨(aI (i:=0) kR rfl (by walk_at "i")),(nK (bx (mO u) (r8 u (fN T.cl_Paper T.na_Paper_states cZ (al 1)) (cg (al 0) aq)) (al 2) (ba _))),(al 0)⟩) (fN T.cl_Paper T.na_Paper_drawn dA (al 0)))))
def jx:=vz P w base mg T.cl_Paper E.y3x 1 qz p6 (pz E.z (aH P w)) fun hr u v=>(av (aJ (fj (T:=Ax0) (M:=Ad0) (bA rfl (by kernel_rfl)) (fun cl C s₀ H₀ fp=>⟨(aI (i:=0) oa rfl (by walk_at "i")),gK,(cg (al 0) aq)⟩) (dG (fU (m6 E T) mU hr.m (al 0) (aa (eF (by rfl) T.k_WAITS) ao))))))
def mm:=vz P w base mg T.cl_Paper E.y3y 2 lA kU (kO E.z (aH P w)) fun hr u v=>(av (eX (bx (sD u) (fU (mi E T) lR hr.m (al 0) (aa (al 1) ao)) (eF (by rfl) T.k_WAITS) (ba _)) (av pN) cX))
def wn:=vz P w base mg T.cl_Paper E.y3z 3 vG uI (t7 E.z (aH P w)) fun hr u v=>(aj (dM (fU (mm E T) lT hr.m (al 0) (aa (al 1) ao)))
   (av (ir u (fN T.cl_Paper T.na_Paper_states cZ (al 0)) (al 1) (eF (by rfl) T.k_WIPED))))
omit T
theorem all_mk{fa:NR}(hfa:mg "law"=some (.ref fa)):
  ∃ fd:O4,(∀ (s:NP) (v:NO),R0 s fd ⟨[v],[]⟩ [("_law_script",v)])/\∀ base:Of,K.In base->base.Ns Oa mg->FnOk P w K mg base vy 10 fa fd ["_law_script"] (cD K xw):=by
 have T:=NC E;obtain⟨f,a,⟨⟨_,_,an,_,kV,dc,pm,cd,ct,l,c⟩⟩,_⟩:=E.y40.ex;have e:=hfa.symm.trans (Ty E.X E.G a);cases e;have F:=qg (st:=wC) l c;refine⟨Up "law" "law" (f_ wC) (fe wC) (ai wC) .none kV dc pm an cd ct,fun s v=>.of_eq rfl,fun base _ _=>?_⟩;exact FH 9 F lf (@Io E.z (aH P w)) (Hr E.z (aH P w)) fun hr u v=>(aj (aM (i:=1) lf.nd rfl (by walk_at "i") (aG (sC E T) hr.m (by rfl) (aa (aG (iE E T) hr.m (by rfl) (aa (al 0) (aa aq ao))) ao)))
   (aj (aM (i:=2) lf.nd rfl (by walk_at "i") (aG (yW E T) hr.m (by rfl) (aa (al 1) (aa (aG (iE E T) hr.m (by rfl) (aa (al 0) (aa aq ao))) ao))))
   (aj (aM (i:=3) lf.nd rfl (by walk_at "i") (aG (B1 E T) hr.m (by rfl) (aa (aG (dQ E) hr.m (by rfl) (aa (aG (iE E T) hr.m (by rfl) (aa (al 0) (aa aq ao))) (aa aq ao))) ao)))
   (aj (aM (i:=4) lf.nd rfl (by walk_at "i") (aG (rH E T) hr.m (by rfl) (aa (al 1) (aa (al 2) (aa (al 3) ao)))))
   (aj (eX (PW.pt (Ha (xN (jp (bE (Ay T.ik_Paper) (by rfl) T.b_isinstance Qu (aa (al 4) (aa (um (by rfl) T.xm_Paper) ao))))) (B5 (bx (sD u) (eQ (qq E T) pR hr.m (al 4)) (al 1) (ba _))))) (av (aJ Bo)) cX)
   (aj (aM (i:=5) lf.nd rfl (by walk_at "i") (eQ (fY E T) fV hr.m (al 4)))
   (aj (eX (bx (sD u) (fj (T:=["_law_row"]) (M:=Aa0) (bA rfl (by kernel_rfl)) (fun cl C s₀ H₀ fp=>⟨(aI (i:=0) FG rfl (by walk_at "i")),(nK (PW.pt (Ha (bx (sD u) (cg (cg (al 0) aq) aq) (al 4) (ba _)) (B5 (bx (sD u) (fU (mi E T) lR hr.m (al 5) (aa (cg (al 0) aq) ao)) dU (ba _)))))),(al 0)⟩) (dG (al 5))) (kI ao) (ba _)) (av (aJ Bo)) cX)
   (aj (eX (bx (sD u) (fj (T:=AH0) (M:=Aj0) (bA rfl (by kernel_rfl)) (fun cl C s₀ H₀ fp=>⟨(sj (n:=3) rfl (d5 (aI (i:=0) ur rfl (by walk_at "i")) (d5 (aI (i:=1) ur rfl (by walk_at "i")) (d5 (aI (i:=2) ur rfl (by walk_at "i")) sn)))),gK,(eZ (aa (al 1) (aa (al 2) ao)))⟩) (dG (eQ (wo E T) vX hr.m (al 4)))) (fj (T:=["_law_sign"]) (M:=Aa0) (bA rfl (by kernel_rfl)) (fun cl C s₀ H₀ fp=>⟨(aI (i:=0) FF rfl (by walk_at "i")),gK,(eZ (aa (al 0) (aa dU ao)))⟩) (dG (al 2))) (ba _)) (av (aJ Bo)) cX)
   (aj (eX (bx (sD u) (aG (sZ E T) hr.m (by rfl) (aa (al 5) ao)) (cg (cg (aG (AG E T) hr.m (by rfl) (aa (al 1) (aa (al 2) ao))) (bE b_len (by rfl) T.b_len PySem.boot_len (aa (al 1) ao))) (bE b_len (by rfl) T.b_len PySem.boot_len (aa (al 2) ao))) (ba _)) (av (aJ Bo)) cX)
   (aj (aM (i:=6) lf.nd rfl (by walk_at "i") (aG (rH E T) hr.m (by rfl) (aa (al 1) (aa (al 2) (aa (al 3) ao)))))
   (aj (dM (fU (qp E T) pQ hr.m (al 6) (aa (al 3) (aa aq (aa dU ao)))))
   (aj (gv Oi rfl (dG (eQ (jx E T) jr hr.m (al 6))) (aI (i:=7) lf.nd rfl (by walk_at "i")) (av (dM (fU (wn E T) vW hr.m (al 6) (aa (al 7) ao)))))
   (aj (eX (PW.pt (Ha (bx (sD u) (eQ (fY E T) fV hr.m (al 4)) (al 5) (ba _)) (B5 (bx (sD u) (eQ (jx E T) jr hr.m (al 4)) (fj (T:=["_law_row"]) (M:=Aa0) (bA rfl (by kernel_rfl)) (fun cl C s₀ H₀ fp=>⟨(aI (i:=0) FE rfl (by walk_at "i")),gK,(cg (al 0) aq)⟩) (dG (al 5))) (ba _))))) (av (aJ Bo)) cX)
   (av (aJ (Ki (mO u) (eQ (fY E T) fV hr.m (aG (rH E T) hr.m (by rfl) (aa (al 1) (aa (al 1) (aa (al 3) ao))))) (kI ao) (ba _)))))))))))))))))
end
end RQ
open PySem PySem.W PyProof.Rows
local macro_rules | `(tactic| walk_at "gq") => `(tactic| first | k_is | kernel_rfl | (refine' L3.fnG_mk ?a ?l ?c ?k; (case a => k_is); (case l => k_is); (case c => k_is); (case k => k_is)) | (refine' L3.mtG_mk ?a ?i ?l ?c ?k; (case a => k_is); (case i => k_is); (case l => k_is); (case c => k_is); (case k => k_is)) | (refine' L2.Cls.mk ?a ?b ?c ?d; (case a => k_is); (case b => k_is); (case c => k_is); (case d => k_is)) | (refine' L3.mtD_mk ?a ?i ?l ?c ?k ?d; (case a => k_is); (case i => k_is); (case l => k_is); (case c => k_is); (case k => k_is); (case d => k_is)) | (refine' L3.cfG_mk ?g ?r ?a ?l ?c ?k; (case g => k_is); (case r => k_is); (case a => k_is); (case l => k_is); (case c => k_is); (case k => k_is)) | skip)
namespace PySem.W.Fast
def tw8013527483893072495:=0
def tw634577332994032034:=0
def tw12296295493740188249:=0
def tw5778809239305421720:=0
def tw14118886094561761581:=0
def tw2066058583856458020:=0
def tw11335714357575096017:=0
def tw11637394753225390983:=0
def tw5155031401378308032:=0
def tw757330347073558028:=0
def tw1381871255130686986:=0
def tw17164916838910411220:=0
def tw16831637467216343724:=0
def tw790929076521419177:=0
def tw10630238000113067529:=0
def tw9689388218234148106:=0
def tw14593964012229782469:=0
def tw15040096983128456660:=0
def tw11325048555825059067:=0
def tw12603612041804481965:=0
def tw7534862333974097920:=0
def tw11048085882642996287:=0
def tw2933248207203089663:=0
def tw13018514104089745689:=0
def tw8369614439969877794:=0
def tw13290783666224464507:=0
def tw15458224932538619433:=0
def tw13081582705214556219:=0
def tw9011238762479856500:=0
def tw11074026942321695669:=0
def tw11940284562107272980:=0
def tw9740217869007968492:=0
def tw10646947249976606162:=0
def tw10585442619267433276:=0
def tw5134869259438133966:=0
def tw1411149951367904843:=0
def tw7166654434970756033:=0
def tw2854176607211768121:=0
def tw12520204237966952587:=0
def tw7332585168126096183:=0
def tw16478754021049944630:=0
def tw6706730473913478107:=0
def tw11467327709396039555:=0
def tw4648983345911416624:=0
def tw16960968584586786854:=0
def tw13396420141745215507:=0
def tw16577099856327475767:=0
def tw2745938424634754979:=0
def tw14558834035696133751:=0
def tw1158465766985675828:=0
def tw17417126864589398057:=0
def tw764679092399692424:=0
def tw8499171734274090968:=0
def tw10720201889415572775:=0
def tw9777036150571966666:=0
def tw6857683379170632145:=0
def tw3138949989641217998:=0
def tw7378141219473512575:=0
def tw4321286585247620898:=0
def tw11904326291376450792:=0
def tw17627911888994831902:=0
def tw8288119693288669542:=0
def tw8982912413889866313:=0
def tw16968985721982883590:=0
def tw10925366547345222119:=0
def tw18233988445722193245:=0
def tw17008137976980557753:=0
def tw10705690585988620065:=0
def tw6508164935231482393:=0
def tw6863293477302961515:=0
def tw15558040485980167015:=0
def tw3343659243323239600:=0
def tw14468528751725407152:=0
def tw1268562534951897857:=0
def tw7175965301565608419:=0
def tw9017762619712610673:=0
def tw16432829937715702147:=0
def tw11247751098619835204:=0
def tw4965437887561218489:=0
def tw2277345011641000882:=0
def tw12449342199388586873:=0
def tw17471372732504415346:=0
def tw4816183322902055209:=0
def tw8547959149704812109:=0
def tw15862927878258331301:=0
def tw14581213467473934931:=0
def tw15511652157720780897:=0
def tw24935914198266256:=0
def tw16273019294095628424:=0
def tw11851048385615219447:=0
def tw11351521254640139077:=0
def tw15309018718871774663:=0
def tw2103186823454518593:=0
def tw12723995791248033306:=0
def tw1138897802854720199:=0
def tw11691908763123084599:=0
def tw5611742717849748497:=0
def tw12154989023643972112:=0
def tw14094005251691848511:=0
def tw5628876483403169238:=0
def tw4417125961758712544:=0
def tw17242327909785979758:=0
def tw2933362730251926787:=0
def tw12255351100937239194:=0
def tw10939742655243312758:=0
def tw1613474534398804822:=0
def tw1435588679462887213:=0
def tw9001091306698865936:=0
def tw1970229098101538480:=0
def tw5788144962167882049:=0
def tw14193696596861662601:=0
def tw9679144384386814631:=0
def tw2925270197380230199:=0
def tw16824975058659764405:=0
def tw3169121222599919034:=0
def tw8411594157348647807:=0
def tw11507994423751607228:=0
def tw7955168915357171679:=0
def tw7711041148852781983:=0
def tw6434292295912477005:=0
def tw17453163997094079984:=0
def tw11165241953064380839:=0
def tw10293753095399593254:=0
def tw17905923196315570468:=0
def tw7605193630658235233:=0
def tw755484160368677382:=0
def tw3809808063041350085:=0
def tw15555552216480497933:=0
def tw14569936212901031779:=0
def tw2452815827583440623:=0
def tw5205235470830331590:=0
def tw4397640839427259247:=0
def tw13532053508416548599:=0
def tw11747694657468347671:=0
def tw2221050485585703277:=0
def tw12437234253775681337:=0
def tw9020013991880305943:=0
def tw810208086096286516:=0
def tw3676933476115474933:=0
def tw15796317090824788032:=0
def tw2988969261545663361:=0
def tw15337637777477588957:=0
def tw5993131765169624983:=0
def tw3824760048432222443:=0
def tw15168413805688392254:=0
def tw8327738594263819042:=0
def tw14692516575012345547:=0
def tw16366781009341987645:=0
def tw12394246355462082064:=0
def tw7492786734842414368:=0
def tw14981924506473775515:=0
def tw12189666521322617214:=0
def tw18114899436460371591:=0
def tw16457211415462558960:=0
def tw6319308812456350541:=0
def tw15775029554735657699:=0
def tw13604086364580857882:=0
def tw12080988366437769610:=0
def tw9193676107030477563:=0
def tw7451772148385526844:=0
def tw3520912912724056168:=0
def tw12676138246836812856:=0
def tw936412958447929315:=0
def tw13584393564682419982:=0
def tw446379612177145276:=0
def tw3683768974112917165:=0
def tw2353946621336048534:=0
def tw7368827893671790693:=0
def tw5337546842421289388:=0
def tw9071799010360425429:=0
def tw16927506038805641214:=0
def tw14028664379231647927:=0
def tw8727125785900126765:=0
def tw1344277188024319336:=0
def tw16320318650342608322:=0
def tw10186714820454190554:=0
def tw6991256995510848042:=0
def tw6244207970446572262:=0
def tw15046210714914790472:=0
def tw9908661640840246143:=0
def tw3188641625495240384:=0
def tw1647699574777902565:=0
def tw11855286275055878963:=0
def tw3811014787186264733:=0
def tw10418957807238111552:=0
def tw13188854859373665227:=0
def tw4495927370977704310:=0
def tw13960779659096411397:=0
def tw1503590812486530289:=0
def tw4822420692513048307:=0
def tw258823644998346794:=0
def tw7077363856246949919:=0
def tw357455550704616832:=0
def tw2820564383230186525:=0
def tw1660236311870043732:=0
def tw835346845626496217:=0
def tw11813809011878776288:=0
def tw527338688375900636:=0
def tw11810116258710295269:=0
def tw7688248894931870220:=0
def tw17426744197512730514:=0
def tw10870318332474055563:=0
def tw4594250395222048952:=0
def tw5169539627075830418:=0
def tw16555456256408795399:=0
def tw16287977950149170518:=0
def tw16755797754820540325:=0
def tw13235327580692277724:=0
def tw9084365924006215959:=0
def tw2166900739212255969:=0
def tw16114117039285573050:=0
def tw4885050773798668630:=0
def tw13748241025776300257:=0
def tw6704700288530027401:=0
def tw10875157893752269039:=0
def tw17601191973233920926:=0
def tw1171809690194299720:=0
def tw13306306213626232376:=0
def tw6224218627754178846:=0
def tw9683087080177458289:=0
def tw5026878819947981029:=0
def tw2051302014633109415:=0
def tw11537158635645510385:=0
def tw3998618809498819349:=0
def tw7949392952993768893:=0
def tw8895004455089283167:=0
def tw5580456988260362517:=0
def tw4263791394131813957:=0
def tw9782840312230637111:=0
def tw4470334405059863251:=0
def tw13480561219162411836:=0
def tw11249726441863652421:=0
def tw14141141025497523926:=0
def tw1221265563849932603:=0
def tw14748205037008059019:=0
def tw3419669407363977513:=0
def tw15692936742387753731:=0
def tw5656131354244973070:=0
def tw4976181537954347257:=0
def tw1684906485087937719:=0
def tw5985825170262559214:=0
def tw11471755531444290204:=0
def tw14864613244784126867:=0
def tw9302358464357485547:=0
def tw8114093483092760718:=0
def tw13308571110568243724:=0
def tw4123283847733524000:=0
def tw13332168158880042327:=0
def tw14203086556411041035:=0
def tw5263613901000681714:=0
def tw10620828536876960929:=0
def tw5378374525664163158:=0
def tw4446786367948251623:=0
def tw12876472884778749573:=0
def tw11069948773699224253:=0
def tw542118361535192766:=0
def tw12366871127074746674:=0
def tw10208029896890546849:=0
def tw5544246253422089873:=0
def tw15975738287381157668:=0
def tw13366255291224386284:=0
def tw6487880047625831384:=0
def tw13600353238106746620:=0
def tw13037406045243036977:=0
def tw18314030531803566110:=0
def tw9295760113645512588:=0
def tw2193658009490874939:=0
def tw10019404811291204907:=0
def tw1367997075695276812:=0
def tw735237565177459404:=0
def tw8597140230864071726:=0
def tw6050587207603384931:=0
def tw3513891136235976928:=0
def tw14942268787205566624:=0
def tw9566072655099157609:=0
def tw17027071225647318510:=0
def tw11702500810075440441:=0
def tw8492658070775063547:=0
def tw18108823929962602201:=0
def tw12611700394212110442:=0
def tw3867513235090838148:=0
def tw18332055133799394704:=0
def tw161766311307018872:=0
def tw12869195195241165518:=0
def tw1001372103210497297:=0
def tw10166065505999601031:=0
def tw11260010013777306640:=0
def tw698270522696793977:=0
def tw4769347674531126478:=0
def tw11638159906004679956:=0
def tw16101407168899815423:=0
def tw602434216947992919:=0
def tw2765797075273690285:=0
def tw17615626834755497038:=0
def tw14224571278152253004:=0
def tw9483093789017709694:=0
def tw8913420039941096271:=0
def tw6734290067340048926:=0
def tw17007297875174521430:=0
def tw12510376857012979981:=0
def tw939620028522196150:=0
def tw17801903141607487759:=0
def tw1453147559977359362:=0
def tw5433993636929857932:=0
def tw6246520452454345217:=0
def tw11332141020178177330:=0
def tw9916623729806611102:=0
def tw7594366750724258600:=0
def tw16583805972725436915:=0
def tw10247816893070404196:=0
def tw6755969134326885527:=0
def tw4163737541347355610:=0
def tw3434319499349752461:=0
def tw9514799212079508815:=0
def tw7035459540213593972:=0
def tw6567148742171470395:=0
def tw5553943496570787283:=0
def tw3270094095668669455:=0
def tw3147534019354735591:=0
def tw1439727279102906513:=0
def tw13342166809467297773:=0
def tw9049551563541383817:=0
def tw7237093586968712380:=0
def tw4234555571751673279:=0
def tw14169536756579986584:=0
def tw11997300381035303838:=0
def tw2268204401615292385:=0
def tw1731649154350242513:=0
def tw7879387087381111710:=0
def tw13067769396865222830:=0
def tw12749007832136733125:=0
def tw2642740190237348304:=0
def tw13302836333995574962:=0
def tw11857757983284361002:=0
def tw9515168603707317707:=0
def tw7396931705873758690:=0
def tw5048343762202347633:=0
def tw4551477894997725878:=0
def tw18277544677347407124:=0
def tw15595103654906250652:=0
def tw15591756590480356329:=0
def tw13742689990192494798:=0
def tw13566018275204644709:=0
def tw11378923902241190132:=0
def tw7125272284665570326:=0
def tw4188368155642315048:=0
def tw1962380510147971947:=0
def tw14665289286841864724:=0
def tw7665192811280011705:=0
def tw5126168052615414367:=0
def tw2302915777511819048:=0
def tw11411760802675532237:=0
def tw2507538562186108613:=0
def tw2486742890062844787:=0
def tw17898701297683242603:=0
def tw16221326149950183125:=0
def tw9904173617823745781:=0
def tw9064553245283419381:=0
def tw4145884361683429490:=0
def tw13710823879169480726:=0
def tw12173525830114229458:=0
def tw3708617764177224130:=0
def tw3484718677741404624:=0
def tw10579353696690916415:=0
def tw8607949477422968941:=0
def tw9950878186750007694:=0
def tw18319347303601482345:=0
def tw14187647289498891107:=0
def tw3809956115035326425:=0
def tw2798870497581969681:=0
def tw15191464047832641207:=0
def tw9901312711729773594:=0
def tw672717409824175654:=0
def tw1713000449415541460:=0
def tw8495072392006650997:=0
def tw17222801521560838160:=0
def tw5673582511768959585:=0
def tw5768249426135371308:=0
def tw3141298296371059562:=0
def tw13166790878413905914:=0
def tw1270143324287592220:=0
def tw12702971474124857199:=0
def tw12970801155189909683:=0
def tw12059558169829469605:=0
def tw9906163757263335091:=0
def tw17256728815215090496:=0
def tw15342303841562062062:=0
def tw13771824657016277619:=0
def tw5558620852913955446:=0
def tw1924589487183128571:=0
def tw11714166605188083347:=0
def tw16242626446713681740:=0
def tw8895748005487166080:=0
def tw10703606340697413067:=0
def tw10699240179067812848:=0
def tw3111498817452412530:=0
def tw16359025228124936102:=0
def tw14441483170631063637:=0
def tw5792046853235783427:=0
def tw8769956085947356534:=0
def tw8034929812969352721:=0
def tw9580806516388154534:=0
def tw7414818948132552169:=0
def tw2305940460148365877:=0
def tw14583501842277800352:=0
def tw14052366864796620162:=0
def tw10887306123727972589:=0
def tw8281825396330311368:=0
def tw8662866858026010114:=0
def tw3492353091762066276:=0
def tw15055851042165396094:=0
def tw14795281085210397588:=0
def tw8895119036971317248:=0
def tw9927193419243849809:=0
def tw630073303632309813:=0
def tw5235406515542950376:=0
def tw6880730466043792290:=0
def tw577693502719551907:=0
def tw12318387963705672887:=0
def tw11430997459763327128:=0
def tw15431140182818988080:=0
def tw17791984722589328705:=0
def tw17736119407525897206:=0
def tw16470945969791229026:=0
def tw4451540659219800269:=0
def tw16516098166420884413:=0
def tw13950225799956181757:=0
def tw9419351520483570488:=0
def tw12873409765235865402:=0
def tw6387582899929738059:=0
def tw11740197807672951170:=0
def tw12682994041797177559:=0
def tw17392299501581505584:=0
def tw18381850214057599372:=0
def tw6031243332650199359:=0
def tw14381287639513776426:=0
def tw2528582753359145583:=0
def tw12722583101536288885:=0
def tw5840507729564373912:=0
def tw11315760266159982411:=0
def tw6243698623846122551:=0
def tw10862493862296938733:=0
def tw6932660912295561239:=0
def tw14122700150498833399:=0
def tw17225515428001036170:=0
def tw15568522142508239446:=0
def tw14208392891018586858:=0
def tw4067206622415875987:=0
def tw18429919141029852439:=0
def tw17052838851710983066:=0
def tw9298747882025529907:=0
def tw7328837503580045820:=0
def tw2746773579183137388:=0
def tw18344205382125335298:=0
def tw18301094724348297228:=0
def tw14042686786820775865:=0
def tw9140008939287632107:=0
def tw14833428311764943304:=0
def tw9361188025004248273:=0
def tw7017787162656654190:=0
def tw6182646711606039615:=0
def tw4954212365483860238:=0
def tw16013675475857916626:=0
def tw11694841519018439487:=0
def tw13901706988586332530:=0
def tw12384580947702702949:=0
def tw7826625029255444711:=0
def tw17971888775397745070:=0
def tw7176841750016844868:=0
def tw4659245690883153103:=0
def tw260950670827223585:=0
def tw14884611386967091601:=0
def tw13595431604973791955:=0
def tw8396851517690794098:=0
def tw1730863681789829540:=0
def tw11217053270158586796:=0
def tw7356904314290781795:=0
def tw5827298827304334113:=0
def tw5130721412318513760:=0
def tw3708655486841342806:=0
def tw2713559103200733887:=0
def tw17925009417646036597:=0
def tw16912480768087177648:=0
def tw12961699727838196406:=0
def tw12548194541846775996:=0
def tw12150193658191644468:=0
def tw11885666025446628572:=0
def tw10837092066201753512:=0
def tw2351195908576768685:=0
def tw2148398404367955446:=0
def tw15971327058584499306:=0
def tw15216748947104594772:=0
def tw10028650775973708764:=0
def tw15852493644176645552:=0
def tw9564148345900632994:=0
def tw12214695617330235087:=0
def tw3605808660511528920:=0
def tw7762789864895721022:=0
def tw11945005293991201618:=0
def tw13980430365602456686:=0
def tw4523179875886309255:=0
def tw9600731493309850996:=0
def tw879691513156602399:=0
def tw864909696468643014:=0
def tw8227641328614755695:=0
def tw6904013501152857470:=0
def tw6873636266545926425:=0
def tw5351172927138836416:=0
def tw4787979935266867969:=0
def tw4219681058214070241:=0
def tw2858308660123264458:=0
def tw2176401100781788285:=0
def tw2071818097879922671:=0
def tw2014166741575236555:=0
def tw17153303652614008043:=0
def tw16146746874298882946:=0
def tw15707392215387205142:=0
def tw15679366935355661164:=0
def tw14909086290779317617:=0
def tw14731714011756433269:=0
def tw145906921745274012:=0
def tw13881618005363169028:=0
def tw12690596526744646174:=0
def tw12529591840545073793:=0
def tw10995393503281263765:=0
def tw10800518811852409311:=0
def tw6469361658606791817:=0
def tw14778847646534816869:=0
def tw2982282193703373687:=0
def tw9554507265868467318:=0
def tw7767631141873206724:=0
def tw3131472022535782933:=0
def tw190086920871545057:=0
def tw8238982304562273105:=0
def tw8001955462761491686:=0
def tw4353452581067627055:=0
def tw4244011985580993513:=0
def tw3611695297870190671:=0
def tw3052590584878379135:=0
def tw14532038252205561388:=0
def tw12365888475123570724:=0
def tw11711275487267647258:=0
def tw10843152500438562067:=0
def tw10185882086862967767:=0
def tw7565743352444397079:=0
def tw6570980219055127366:=0
def tw4767400411360822991:=0
def tw2497707237153231340:=0
def tw2005282045878873388:=0
def tw17640534768481643646:=0
def tw17152652409699745396:=0
def tw14094082022268297745:=0
def tw12982627749683477489:=0
def tw11468872604942628424:=0
def tw5532471157188421666:=0
def tw8700776389045595546:=0
def tw8168053873567182914:=0
def tw7202997313247617961:=0
def tw7126518925899150650:=0
def tw2691552336879124497:=0
def tw17294271077932055071:=0
def tw15580198461043961443:=0
def tw9508717162309088188:=0
def tw7683444986257572795:=0
def tw4906732628266726024:=0
def tw384229393685918734:=0
def tw2189336981494536676:=0
def tw18108673451618424862:=0
def tw17242529653863276530:=0
def tw161868811470193940:=0
def tw13659063234933531885:=0
def tw13088797279167287798:=0
def tw9656559860757873421:=0
def tw9636410739963565020:=0
def tw9607036428036276292:=0
def tw960404443995365825:=0
def tw9581530482128222160:=0
def tw9564842059559648531:=0
def tw9508458490062528680:=0
def tw9403674890940473053:=0
def tw9387278154905787223:=0
def tw9086888971372300848:=0
def tw8791804503266803266:=0
def tw8719135119112787016:=0
def tw8536199299747321109:=0
def tw8487304745328696626:=0
def tw8371632957247630239:=0
def tw8324697885641312066:=0
def tw8257750070642147229:=0
def tw8219245708665002502:=0
def tw8200768644044500154:=0
def tw7904409340266525664:=0
def tw7844162786878696802:=0
def tw781052744715563458:=0
def tw7810444542928825958:=0
def tw7713950694915376820:=0
def tw7678219079574314795:=0
def tw7674132492600599810:=0
def tw7667822219111958987:=0
def tw7638579368018589724:=0
def tw752769812386689130:=0
def tw726671394573830596:=0
def tw7265707139331153929:=0
def tw7222634436131928135:=0
def tw7154967825382625288:=0
def tw6993778128992779986:=0
def tw6794670187313646841:=0
def tw66831422839662487:=0
def tw6679494747273216340:=0
def tw6646165154529213327:=0
def tw6625753206059546264:=0
def tw6473557306528571979:=0
def tw6394525569772057377:=0
def tw6356342035237178506:=0
def tw6294078098206561431:=0
def tw6276203871981842549:=0
def tw5935182095791388149:=0
def tw5918285014024843606:=0
def tw5897327816187007426:=0
def tw5879497731810863720:=0
def tw5792446505244589011:=0
def tw578127539844199814:=0
def tw5720706718851115767:=0
def tw5572322369726070855:=0
def tw5541174033586796279:=0
def tw5515610365673673548:=0
def tw5505070579079865445:=0
def tw5234443543943958363:=0
def tw5231293191528550626:=0
def tw5169730659303037466:=0
def tw5156697027425180439:=0
def tw4882649290355030557:=0
def tw4842284116346097306:=0
def tw4815450086138792624:=0
def tw4771941258021420890:=0
end PySem.W.Fast
set_option maxRecDepth 100000 in
set_option maxHeartbeats 0 in
theorem PySem.Challenge.cw_redquill_k73_held_as_a_paper_holds : PySem.Challenge.rw_redquill_k73_held_as_a_paper.Holds := by
 w_on;o_law;k_head;(case hw=>w_witness2)
 k_fill
 refine L3.walk3 (l:=PySem.Challenge.rw_redquill_k73_held_as_a_paper) (k:=10) (x:="_law_script") rfl rfl ⟨rfl,by decide,by decide⟩ (fun w h Y=>PySem.W.kIn_of Y) ?F
 case F=>
  intro w mg fa h KX G hmg;refine' RQ.all_mk (.mk KX G ..) hmg
  all_goals walk_at "gq"
