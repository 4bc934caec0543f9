import PyProof.Rows.All
import Wide.All
import OpenK.AllK
import Wide.FinOn
import Lean
import PyProof.EqAt
import PyProof.EqKinds
import PyProof.TupleCall
import PySem.Challenge.RW_redquill_k53_decided_one_by_one
set_option Elab.async false
set_option linter.all false
set_option maxRecDepth 100000
set_option maxHeartbeats 4000000
open PySem renaming wpAny_bind->MR,Value->MS,Addr->MT,Shared->MU,wpAny_pure->MV,wpAny->MZ,model->M0,sizeLine->M1,starEach->M5,Program->M9,mainGlobals->Na,Around->Nb,Heap->Nf,World->Ng,Expr->Nh,wpAny_mono->Nn,Stmt->No,compareOp->Nr,wpAny_newObj_type->Nx,wpAny_holding->Nz,sysModules->NC,cLine->NF,foldedSetIterable->NM,tupleKind_room_in1->NN,wpAny_passesOwn->NU,behindInMarks->NW,wpAny_call_entry->NY,backTo->NZ,wpAny_field->N3,FuncData->N4,wpAny_callSpecial?_slot->N5,sizeLine_eq->N6,wpAny_setField_rec->N_,tupleKind->Oa,swapsWith->Ob,bootBuiltins->Of,binaryOp->Oh,wpAny_dictEntries->Oi,keywordEach->Oo,attributeBase->Op,rawInt->Ov,wpAny_execs_nil->Ow,codeAny_mono->Oy,codeAny->Oz,wpAny_attempt->OB,wpAny_typeNameOfWhole_valiter->OF,wpAny_typeNameOfWhole_keyiter->OG,sliceBounds->OH,wpAny_Call_Name_kw->OI,pyNext->OK,assignEach->OM,wpAny_dictEpoch->OO,wpAny_truthy_bool->OR,wpAny_setField->OT,wpAny_seqItems->OU,getMethod->OW,wpAny_typeNameOf_valiter->OY,wpAny_typeNameOf_keyiter->OZ,backToKw->O0,standAt->O2,letOwnedTupleGo->O4,IsPair->O6,Scope->O_,wpAny_notOrdered_dict->Pf,wpAny_call->Pg,wpAny_standAt->Pj,ExceptHandler->Pm,atKey->Pn,pyIter->Pr,getattributeRaised->Pt,callWith->Pw,NameKind->Px,wpAny_pyIter_list->Pz,wpAny_loadPart_at->PB,strIterType->PD,wpAny_onRaise->PN,Paired->PP,wpAny_isInstance->PQ,wpAny_execs_cons->PR,getAttr?->PU,CmpOp->PX,wpAny_rule->PZ,typeLookup->P0,getItem->P5,call_meetsIn->P7,Result->P8,wpAny_isOneOf_valiter->Qa,builtinLookup_eq_fast->Qb,wpAny_updateSeq_pair->Qc,wpAny_fieldsOf->Qd,unbindBehindTheSuite->Qe,firstArgMember->Qg,codeAny_call_builtin->Qi,storedH->Qk,callerA->Qn,PassesOwn->Qo,isInstance->Qs,IsPart->Qv,wpAny_pyIter_slot->Qw,valueAt->Qx,plainObj_wpAny_Assign_Attribute->QC,setFlight->QF,ClassData->QI,wpAny_letGo->QJ,subscripted->QK,typeLookup_type->QQ,relabel->QR,Keyword->QT,BindsTo->QU,wpAny_newTuple->QV,wpAny_loadPart->QW,setField->QX,isSubtype_stop->QZ,wpAny_comprehension_free->Q4,wpAny_Call_method0_late->Q7,noteFrame->Q8,meetsH_dict_get_default->Q_,bindL->Rb,bindC->Rc,DictEntry->Rg,wpAny_typeOf->Rj,wpAny_pyNext_list_item->Rk,leaving->Rn,isTrue->Rp,getAttr->Rq,concat_meets->Rr,wpAny_pyNext_list_end->Rx,wpAny_isTrue_Compare1->Ry,wpAny_isOneOf_keyiter->Rz,codeAny_handlers_test->RA,wpAny_pyIter_keyiter->RB,seqIndex_of->RC,loadIfAlive->RH,excClassObj->RJ,Model->RL,wpAny_isSubtype_exc->RP,wpAny_handleBy_cons->RT,codeAny_forLoop_any->RU,wpAny_setItem_heap->RX,wpAny_getItem_heap->RY,wpAny_dictSet_heap->RZ,wpAny_Name->R0,typeIs_str->R1,sub_AttributeError->R4,sliceRange->R5,getAttrBy?->R7,closureFor->R9,call_meets->Sa,builtinsNs->Sb,wpAny_assign_Name->Sg,setItem->Sh,setAttr->Si,Draws->Sr
open PySem.Str renaming ofString->MW,length->Qu
open PySem.Heap renaming get?_push_of_some->MX,get?_push_size->M3,lt_size->M4,get?_update_other->Ny,size_push->N8,get?_update_self->N9,SameBut->ON,get?_update_ne->RV,get?_push_ne->Sm
open List renaming length_map->MY,getElem?_eq_getElem->M6,mem_cons_of_mem->M7,size_toArray->M8,mem_cons_self->M_,length_cons->Nc,getElem?_map->Nd,mem_of_getElem?->Ni,getD_eq_getElem?_getD->Nj,map_cons->Nk,map_map->Nq,set_cons_zero->Nu,find?_cons->Nw,length_nil->NA,take_length->NB,mem_append_right->ND,mem_cons->NH,set_cons_succ->NI,length_append->NJ,take_add_one->NK,not_mem_nil->NO,map_append->NP,length_take->NQ,getElem?_cons_zero->NR,getElem?_cons_succ->NS,length_filter_le->N7,getElem?_eq_none->Oc,append_nil->Od,filterMap_cons->Og,getElem?_set_self->Oj,lookup_cons->On,map_congr_left->Ot,getElem?_set_ne->Ox,filter_append->OC,nodup_cons->OL,mem_of_mem_take->O3,forIn_cons->O5,cons_append->O9,nil_append->Ph,zip_cons_cons->Pi,map_nil->PF,length_drop->PJ,getElem_mem->PK,forIn_nil->PV,foldl_cons->P6,countP_cons->Qh,any_cons->Qj,nodup_nil->Ql,length_zip->Qr,drop_zero->QG,mem_singleton->Q6,set_set->Rm,mem_append->R6
open Nat renaming lt_of_lt_of_le->Nl,ne_of_lt->Np,zero_le->N0,lt_or_ge->OV,lt_succ_self->Pa,ne_of_gt->Ps,le_of_eq->Qf,sub_zero->Qy,le_succ->QA
open PySem.PassesOwn renaming never->Nv
open PySem.Obj renaming mapFields->NE,data_mapFields->NT,isFreed_of_fields->Ou,mapSeq->OD,cls_mapFields->PL
open PySem.Builtin.SmallTypes renaming nextOf->NG,ownedTupleIsFree->Oq,ownedTupleHandOut->Qp
open PyProof.Rows renaming boot_isinstance->NV,seqObj->OJ,envOfC->Pd,AllBare->PM,get?_update_seq->P9,listUpdate_at->Qq,mirror_perm->QM,subscriptTail->Q5,Call_->Rh,subscriptTail_builtinR->Rl,IntsAre->Rs,bubble_size->RK,Subscript_->Sc
open PySem.Calls renaming spliced_cons->Oe,spliced_nil->OA,callWith_builtin->Pe,Name_function_global->Q0,evalArgs_plain->RM
open PySem.Builtin.Dict_items renaming ownsTuple->Ol
open PySem.Builtin.Str renaming strSliceIndices->Om
open PySem.W renaming mg_none_of->Os,kas_rev->OS,kas_tail3->O7,emptyDict->O8,kas_desc->Pc,methodCall_KW->Pk,Frag->Po,callWith_K->Pu,kas_descPart->P3,instObj->P4,kas_place->Qm,findIn->Qt,looks_findIn->Qz,specialIn->QE,plainGet_of->QL,Looks->QO,kas_bin->QS,plainGet->QY,methodObj->Q9,kas_count->Ra,keepIn->Ro,looks_mroIn->RF,kas_sort->RI,codeIn->R8,check_slot->R_,KasT->Se,findObj->Sj,kitOne->ST,nsIn->Tm,mg_of->Ty,exmOne->UD,mroIn->UE,kia_one->UF,makesIn->UG,fnOf->UH,takerIn->UI,hasDictIn->UJ,takesIn->UK,lookIn->UL,typeIn->UM,InstAt->UN,isFn->UO,clsIn->UP
open PySem.F renaming slot_dict_valueiterator_next->OE,slot_dict_keyiterator_next->OP,slot_zip_next->P_,args_dict_valueiterator_next_1->QB,entry_dict_valueiterator_next->QD,args_dict_keyiterator_next_1->QH,entry_dict_keyiterator_next->QP,slot_dict_values_iter->Re,args_zip_next_1->Sq
open PySem.Builtin.Dict renaming showsAll->OQ,dictSlotArgs->Q2,updateFrom->Ri,pairItems->Ru
open PySem.Builtin.Slice renaming slicePlaces->OX,sliceAdjust->Py,sliceApplied->Q1
open PySem.Builtin.Tuple renaming tupleExact->O1
open PySem.Paired renaming length->Pl,snoc->QN
open PySem.Heap.SameBut renaming update->Pq,refl->Sn
open PySem.SeqAt.EqAt renaming same->Rf
open PySem.Code renaming isFrame->Rt,quiet_builtin->Sf
open PySem.Around renaming under->Rv,under_plainId->RN
open PySem.EntryCells renaming newEntry->RW
open PySem.Heap.Ns1 renaming of_empty->So
noncomputable section
open PySem.W (tailIn)
open List (mem_filter mem_range length_eq_zero_iff mem_map)
open Nat (le_trans le_of_lt le_refl not_lt)
abbrev Aa0:List PySem.Str:=["name","time","anchor","names"]
abbrev Ab0:List PySem.Str:=["_law_paper","_law_states","_law_old","_law_standing"]
abbrev Ac0:List PySem.Str:=["old","strokes","standing","row","working","brought","struck","taken","worn","sitting","name","seats"]
abbrev Ad0:List PySem.Str:=["self"]
abbrev Ae0:List PySem.Str:=["self","name"]
abbrev Af0:List PySem.Str:=["strokes","standing","in_row","stands","chosen"]
abbrev Ag0:List PySem.Str:=["name","time","anchor","names","signs"]
abbrev Ah0:List PySem.Str:=["name","time","anchor","names","word"]
abbrev Ai0:List PySem.Str:=["_law_script","_law_first","_law_old","_law_paper","_law_states","_law_cell","_law_xs","_law_names","_law_name","_law_waiting"]
abbrev Aj0:List PySem.Str:=["old","strokes","standing","row","working","brought","struck","taken","worn","sitting","-name","seats"]
abbrev Ak0:List PySem.Str:=["old","strokes","standing"]
abbrev Al0:List PySem.Str:=["old","strokes","following","stroke"]
abbrev Am0:List PySem.Str:=["_law_paper","_law_states","_law_name","_law_word","_law_due","_law_way"]
abbrev An0:List PySem.Str:=["_law_paper","_law_xs","_law_many","_law_pen","_law_at","_law_to"]
abbrev Ao0:List PySem.Str:=["_law_cell","_law_many","_law_found","_law_number","_law_k"]
abbrev Ap0:List PySem.Str:=["self","stroke"]
abbrev Aq0:List PySem.Str:=["self","name","time","anchor","signs"]
abbrev Ar0:List PySem.Str:=["self","name","time","names","anchor"]
abbrev As0:List PySem.Str:=["self","name","time","names","word"]
abbrev At0:List PySem.Str:=["_law_paper","_law_name","_law_word","_law_found","e"]
abbrev Au0:List PySem.Str:=["old","strokes","brought","stroke","name","sign"]
abbrev Av0:List PySem.Str:=["row"]
abbrev Aw0:List PySem.Str:=["name","how_many"]
abbrev Ax0:List PySem.Str:=["stroke","in_row"]
abbrev Ay0:List PySem.Str:=["seats","at","to"]
abbrev Az0:List PySem.Str:=["self","pen","at","to","goal","seats","names"]
abbrev AA0:List PySem.Str:=["following","anchor","slots","behind","slot"]
abbrev AB0:List PySem.Str:=["self","name","time","names"]
abbrev AC0:List PySem.Str:=["_law_paper","_law_name","_law_found","e"]
abbrev AD0:List PySem.Str:=["strokes","taken","stroke","name","slot"]
abbrev AE0:List PySem.Str:=["self","state"]
abbrev AF0:List PySem.Str:=["_law_name"]
abbrev AG0:List PySem.Str:=["name","time","anchor"]
abbrev AH0:List PySem.Str:=["strokes","struck","stroke","name"]
abbrev AI0:List PySem.Str:=["_law_script","_law_k"]
abbrev AJ0:List PySem.Str:=["old","drawn","states"]
abbrev AN0:List PySem.Str:=["self","name","time"]
abbrev AP0:List PySem.Str:=["at","to","length"]
local macro_rules | `(tactic| walk_at "j") => `(tactic| exact ⟨rfl, rfl, rfl, by decide +kernel, rfl, by decide +kernel, by decide +kernel⟩)
local macro_rules | `(tactic| walk_at "l") => `(tactic| (split at $(Lean.mkIdent `h):ident <;> first | rfl | exact False.elim $(Lean.mkIdent `h)))
local macro_rules | `(tactic| walk_at "o") => `(tactic| first | assumption | exact le_trans (by decide) $(Lean.mkIdent `hs) | exact le_of_lt (by assumption) | exact le_trans (by assumption) (by assumption) | exact Nl (by assumption) (by assumption) | exact Nat.lt_of_le_of_lt (by assumption) (by assumption) | exact le_trans (by assumption) (le_trans (by decide) $(Lean.mkIdent `hs)) | lia | omega)
namespace L2
open PySem PySem.Spec PyProof.Rows
abbrev aB:=Sum Int Str
def wb:aB->MS->Bool
 | .inl k,v=>Value.isInt k v
 | .inr x,v=>Value.isStrOf x v
def LX(w:Ng):aB->Int
 | .inl k=>hashInt k
 | .inr x=>hashStr w x
theorem cS:∀ {k:aB} {v:MS},wb k v=true->(∃ i t,k=Sum.inl i/\v=Value.int i t)\/(∃ x t,k=Sum.inr x/\v=Value.str x t)
 | .inl i,v,h=>by
  obtain⟨t,e⟩:=Value.isInt_shape (k:=i) (v:=v) h;exact .inl ⟨i,t,rfl,e⟩
 | .inr x,v,h=>by
  obtain⟨t,e⟩:=Value.isStrOf_shape (x:=x) (v:=v) h;exact .inr ⟨x,t,rfl,e⟩
theorem CT(i:Int)(t:Tok):wb (.inl i) (.int i t)=true:=by simp[wb,Value.isInt]
theorem CS(x:Str)(t:Tok):wb (.inr x) (.str x t)=true:=by simp[wb,Value.isStrOf]
theorem Je(a b:Int):decide ((Sum.inl a:aB)=Sum.inl b)=(a == b):=by
 by_cases e:a=b
 ·subst e;simp
 ·have h:¬ (Sum.inl a:aB)=Sum.inl b:=fun q=>e (Sum.inl.inj q);rw[decide_eq_false h];exact (beq_eq_false_iff_ne.mpr e).symm
theorem Ja(a b:Str):decide ((Sum.inr a:aB)=Sum.inr b)=decide (a=b):=by
 by_cases e:a=b
 ·subst e;simp
 ·have h:¬ (Sum.inr a:aB)=Sum.inr b:=fun q=>e (Sum.inr.inj q);rw[decide_eq_false h,decide_eq_false e]
theorem Jd(a:Int)(b:Str):decide ((Sum.inl a:aB)=Sum.inr b)=false:=decide_eq_false (fun q=>nomatch q)
theorem Jb(a:Str)(b:Int):decide ((Sum.inr a:aB)=Sum.inl b)=false:=decide_eq_false (fun q=>nomatch q)
def aW(prog:M9)(w:Ng):PySem.KeyKind prog w aB where
 is:=wb
 hash:=LX w
 inj:=fun v a b ha hb=>by
  rcases cS ha with ⟨i,t,rfl,rfl⟩|⟨x,t,rfl,rfl⟩
  ·rcases cS hb with ⟨j,u,rfl,e⟩|⟨y,u,rfl,e⟩
   ·injection e with e1 _;rw[e1]
   ·exact nomatch e
  ·rcases cS hb with ⟨j,u,rfl,e⟩|⟨y,u,rfl,e⟩
   ·exact nomatch e
   ·injection e with e1 _;rw[e1]
 byValue:=fun k v h=>by
  rcases cS h with ⟨i,t,rfl,rfl⟩|⟨x,t,rfl,rfl⟩<;>rfl
 pyHash:=fun hv h=>by
  rcases cS hv with ⟨i,t,rfl,rfl⟩|⟨x,t,rfl,rfl⟩
  ·exact wpAny_pyHash_int h
  ·exact wpAny_pyHash_str h
 eqBool:=fun hu hv h=>by
  rcases cS hu with ⟨i,t,rfl,rfl⟩|⟨x,t,rfl,rfl⟩
  ·rcases cS hv with ⟨j,u,rfl,rfl⟩|⟨y,u,rfl,rfl⟩
   ·rw[Je]at h;exact wpAny_eqBool_int h
   ·rw[Jd]at h;exact SeqAt.EqAt.int_str i t y u _ _ _ _ h
  ·rcases cS hv with ⟨j,u,rfl,rfl⟩|⟨y,u,rfl,rfl⟩
   ·rw[Jb]at h;exact SeqAt.EqAt.str_int x t j u _ _ _ _ h
   ·rw[Ja]at h;exact wpAny_eqBool_str h
 «strs»:=fun k x t v h=>by
  rcases cS h with ⟨i,u,rfl,e⟩|⟨y,u,rfl,e⟩
  ·exact nomatch e
  ·injection e with e1 _
   subst e1;cases v<;>rfl
theorem zo(prog:M9)(w:Ng)(i:Int)(t:Tok):(aW prog w).is (.inl i) (.int i t)=true:=CT i t
theorem zn(prog:M9)(w:Ng)(x:Str)(t:Tok):(aW prog w).is (.inr x) (.str x t)=true:=CS x t
set_option genInjectivity false in
inductive V where
 | non|bl (b:Bool)|int (i:Int)|str (x:Str)|byt (b:Array UInt8)|flt (b:UInt64)|ref (a:MT)|ty (n:String)
def aH:V->MS->Prop
 | .non,u=>u=Value.none
 | .bl b,u=>u=Value.bool b
 | .int i,u=>∃ t,u=Value.int i t
 | .str x,u=>∃ t,u=Value.str x t
 | .byt b,u=>∃ t,u=Value.bytes b t
 | .flt b,u=>∃ t,u=Value.float b t
 | .ref a,u=>u=Value.ref a
 | .ty n,u=>u=Value.type n
abbrev Vals:List V->List MS->Prop:=PP aH
theorem Vals.length(r:Vals xs us):xs.length=us.length:=Pl r
theorem Vals.get:∀ {xs:List V} {us:List MS} {i:Nat} {x:V},Vals xs us->xs[i]?=some x->∃ u,us[i]?=some u/\aH x u
 | _,_,_,_,.nil,e=>by simp at e
 | _,_,0,_,.cons r _,e=>by simp at e;subst e;exact⟨_,rfl,r⟩
 | _,_,i+1,x,.cons _ t,e=>by
  obtain⟨u,h1,h2⟩:=Vals.get (i:=i) (x:=x) t (by simpa using e)
  exact⟨u,by simpa using h1,h2⟩
theorem Vals.set(r:aH x u):∀ {xs:List V} {us:List MS} (i:Nat),Vals xs us->Vals (xs.set i x) (us.set i u)
 | _,_,_,.nil=>.nil
 | _,_,0,.cons _ t=>.cons r t
 | _,_,i+1,.cons q t=>.cons q (Vals.set r i t)
theorem Vals.append:∀ {xs ys:List V} {us ws:List MS},Vals xs us->Vals ys ws->Vals (xs ++ ys) (us ++ ws)
 | _,_,_,_,.nil,s=>s
 | _,_,_,_,.cons r t,s=>.cons r (Vals.append t s)
theorem Vals.take:∀ {xs:List V} {us:List MS} (n:Nat),Vals xs us->Vals (xs.take n) (us.take n)
 | _,_,0,_=>.nil
 | _,_,_+1,.nil=>.nil
 | _,_,n+1,.cons r t=>.cons r (Vals.take n t)
theorem Vals.drop:∀ {xs:List V} {us:List MS} (n:Nat),Vals xs us->Vals (xs.drop n) (us.drop n)
 | _,_,0,r=>r
 | _,_,_+1,.nil=>.nil
 | _,_,n+1,.cons _ t=>Vals.drop n t
def kL:Option V->Option MS->Prop
 | some v,some u=>aH v u
 | none,none=>True
 | _,_=>False
def KV{κ:Type}:List (κ×V)->List (κ×MS)->Prop:=PP fun (p:κ×V) (q:κ×MS)=>p.1=q.1/\aH p.2 q.2
def kV:aB->V
 | .inl i=>.int i
 | .inr x=>.str x
set_option genInjectivity false in
inductive HO where
 | lst (xs:List V)
 | tup (xs:List V)
 | dK (kvs:List (aB×V))|dT (kvs:List (List aB×V))
 | set (S:Int->Bool) (n:Nat)
 | ins (C dx:MT) (fs:List (Str×V))
 | own (x:MT)
 | xd (fs:List (Str×V))
 | met (f x:MT)
 | rng (lo hi:Int)
 | frz (o:Obj) (u:HO)
 | tbl (ps:Array MS)
 | ext (φ:Nf->Prop)
abbrev Hp:=MT->Option HO
def aR(H:Hp)(a:MT)(o:HO):Hp:=fun b=>if b=a then some o else H b
theorem aF:aR H a o a=some o:=by unfold aR;rw[if_pos rfl]
theorem ar(h:b≠a):aR H a o b=H b:=by unfold aR;rw[if_neg h]
theorem Kx{H:Hp}(h:H a=some o)(h':H b=some u)(d:o≠u):a≠b:=by
 intro e;subst e;rw[h]at h';exact d (Option.some.inj h')
theorem bH{H:Hp}(h:H a=some o)(h':H b=none):a≠b:=by
 intro e;subst e;rw[h]at h';cases h'
section
variable(P:M9)(w:Ng)
def vF(h:Nf)(a:MT)(items:Array MS):Prop:=∃ o,h.get? a=some o/\(o.cls=.type "tuple"/\o.dict=none)/\∃ n,o.data=.seq items n
def ba(H:Hp)(h:Nf)(a:MT):HO->Prop
 | .lst xs=>xs.length<=M1/\∃ (its:List MS) (n:Nat),Vals xs its/\h.get? a=some { cls:=.type "list",data:=.seq its.toArray n }
 | .tup xs=>xs.length<=M1/\∃ its:List MS,Vals xs its/\vF h a its.toArray
 | .dK kvs=>kvs.length<=M1/\(a == NC)=false/\∃ vs,KV kvs vs/\h.DictOf (aW P w) a vs
 | .dT kvs=>kvs.length<=M1/\(a == NC)=false/\∃ xs:List (List aB×MT×MS),
   PP (fun (p:List aB×V) (q:List aB×MT×MS)=>p.1=q.1/\H q.2.1=some (.tup (p.1.map kV))/\aH p.2 q.2.2) kvs xs/\
   ∃ o es ep,h.get? a=some o/\o.ExactDict/\o.data=.dict es ep/\es.toList=xs.map (entryOfKey (Oa (aW P w)))/\(xs.map (·.1)).Nodup
 | .set S n=>h.SetOf (intKind P w) a S n
 | .ins C dx fs=>H dx=some (.own a)/\fs.length<=1000/\dx≠a/\h.get? a=some (P4 C dx)/\
   ∃ mA,h.Ns1 dx mA/\(∀ f,kL (fs.lookup f) (mA f))/\PySem.Within mA (fs.map (·.1))
 | .own _=>∃ o,h.get? a=some o
 | .xd fs=>∃ mA,h.Ns1 a mA/\∀ f,kL (fs.lookup f) (mA f)
 | .rng lo hi=>∃ t u v,h.get? a=some { cls:=.type "range",data:=.fields #[.int lo t,.int hi u,.int 1 v] }
 | .frz o u=>h.get? a=some o/\ba H h a u
 | .tbl ps=>h.get? a=some { cls:=.none,data:=.fields ps }
 | .met f x=>h.get? a=some (Q9 (.ref f) (.ref x))
 | .ext φ=>φ h/\(∃ o,h.get? a=some o)/\∀ h1 h2:Nf,φ h1->(∀ o,h1.get? a=some o->h2.get? a=some o)->φ h2
theorem vF.new(h:Nf)(items:Array MS):vF (h.push { cls:=.type "tuple",data:=.seq items }) h.objs.size items:=⟨_,M3 _ rfl,⟨rfl,rfl⟩,_,rfl⟩
theorem vF.tup(x:vF h a items):IsTup h a items:=let ⟨o,e,c,d⟩:=x;⟨o,e,c.1,d⟩
def l8(H:Hp)(h:Nf):Prop:=∀ a o,H a=some o->ba P w H h a o
end
section
variable{P:M9}{w:Ng}{H H':Hp}{h h':Nf}{a:MT}{o:HO}
theorem ba.lt(x:ba P w H h a o):a < h.objs.size:=by
 cases o with
 | lst xs=>obtain⟨_,_,_,_,e⟩:=x;exact M4 e
 | tup xs=>obtain⟨_,_,_,p⟩:=x;exact p.tup.lt
 | dK kvs=>obtain⟨_,_,_,_,o,_,_,e,_⟩:=x;exact M4 e
 | dT kvs=>obtain⟨_,_,_,_,o,_,_,e,_⟩:=x;exact M4 e
 | set S n=>obtain⟨o,_,_,_,e,_⟩:=x;exact M4 e
 | ins C dx fs=>obtain⟨_,_,_,e,_⟩:=x;exact M4 e
 | own y=>obtain⟨_,e⟩:=x;exact M4 e
 | xd fs=>obtain⟨_,⟨_,_,_,e,_⟩,_⟩:=x;exact M4 e
 | rng lo hi=>obtain⟨_,_,_,e⟩:=x;exact M4 e
 | frz ob u=>obtain⟨e,_⟩:=x;exact M4 e
 | tbl ps=>exact M4 (show h.get? a=some _ from x)
 | met f y=>exact M4 (show h.get? a=some _ from x)
 | ext φ=>obtain⟨_,⟨_,e⟩,_⟩:=x;exact M4 e
theorem Paired.mapP{α β:Type}{F G:α->β->Prop}:∀ {l₁:List α} {l₂:List β},PP F l₁ l₂->(∀ a b,F a b->G a b)->PP G l₁ l₂
 | _,_,.nil,_=>.nil
 | _,_,.cons r t,f=>.cons (f _ _ r) (Paired.mapP t f)
theorem ba.stay(x:ba P w H h a o)(k:∀ b u,(b=a\/H b=some (.own a))->h.get? b=some u->h'.get? b=some u)(ho:∀ b,H b=some (.own a)->H' b=some (.own a))(ht:∀ b xs,H b=some (.tup xs)->H' b=some (.tup xs)):ba P w H' h' a o:=by
 induction o with
 | lst xs=>obtain⟨z,its,n,r,e⟩:=x;exact⟨z,its,n,r,k _ _ (.inl rfl) e⟩
 | tup xs=>obtain⟨z,its,r,ob,e,c⟩:=x;exact⟨z,its,r,ob,k _ _ (.inl rfl) e,c⟩
 | dK kvs=>obtain⟨z,y,vs,r,ob,es,ep,e,c⟩:=x;exact⟨z,y,vs,r,ob,es,ep,k _ _ (.inl rfl) e,c⟩
 | dT kvs=>
  obtain⟨z,y,xs,r,ob,es,ep,e,c⟩:=x;exact⟨z,y,xs,Paired.mapP r fun p q z=>⟨z.1,ht _ _ z.2.1,z.2.2⟩,ob,es,ep,k _ _ (.inl rfl) e,c⟩
 | set S n=>obtain⟨ob,es,ep,t,e,c⟩:=x;exact⟨ob,es,ep,t,k _ _ (.inl rfl) e,c⟩
 | ins C dx fs=>
  obtain⟨d,z,ne,e,mA,⟨od,es,ep,e2,c⟩,r⟩:=x;exact⟨ho _ d,z,ne,k _ _ (.inl rfl) e,mA,⟨od,es,ep,k _ _ (.inr d) e2,c⟩,r⟩
 | own y=>obtain⟨ob,e⟩:=x;exact⟨ob,k _ _ (.inl rfl) e⟩
 | xd fs=>obtain⟨mA,⟨od,es,ep,e,c⟩,r⟩:=x;exact⟨mA,⟨od,es,ep,k _ _ (.inl rfl) e,c⟩,r⟩
 | rng lo hi=>obtain⟨t,u,v,e⟩:=x;exact⟨t,u,v,k _ _ (.inl rfl) e⟩
 | frz ob u ih=>obtain⟨e,q⟩:=x;exact⟨k _ _ (.inl rfl) e,ih q⟩
 | tbl ps=>
  have e:h.get? a=some { cls:=.none,data:=.fields ps }:=x;show h'.get? a=some { cls:=.none,data:=.fields ps }
  exact k a _ (.inl rfl) e
 | met f y=>
  have e:h.get? a=some (Q9 (.ref f) (.ref y)):=x;show h'.get? a=some (Q9 (.ref f) (.ref y))
  exact k a _ (.inl rfl) e
 | ext φ=>obtain⟨p,⟨o,e⟩,st⟩:=x;exact⟨st _ _ p fun o q=>k _ _ (.inl rfl) q,⟨o,k _ _ (.inl rfl) e⟩,st⟩
theorem l8.lt(x:l8 P w H h)(e:H a=some o):a < h.objs.size:=(x a o e).lt
theorem l8.fresh(x:l8 P w H h)(e:h.objs.size<=a):H a=none:=by
 cases q:H a with
 | none=>rfl
 | some u=>exact absurd (Nl (x.lt q) e) (Nat.lt_irrefl _)
theorem l8.kept(x:l8 P w H h)(k:∀ b u,h.get? b=some u->h'.get? b=some u):l8 P w H h':=fun a o e=>
 (x a o e).stay (fun b u _ q=>k b u q) (fun _ q=>q) fun _ _ q=>q
theorem l8.laid(x:l8 P w H h)(k:∀ b u,h.get? b=some u->h'.get? b=some u)(hp:h.objs.size<=a)(new:ba P w (aR H a o) h' a o):l8 P w (aR H a o) h':=fun b u e=>by
 have hn:=x.fresh hp
 by_cases hb:b=a
 ·subst hb;rw[aF]at e;cases e;exact new
 ·rw[ar hb]at e;exact (x b u e).stay (fun c v _ q=>k c v q) (fun c q=>by rw[ar (bH q hn)];exact q) fun c xs q=>by rw[ar (bH q hn)];exact q
end
def Rd(H:Hp)(a:MT)(u:HO):Prop:=H a=some u\/∃ o,H a=some (.frz o u)
theorem Rd.ok(r:Rd H a u)(x:l8 P w H h):ba P w H h a u:=by
 rcases r with r|⟨o,r⟩
 ·exact x a u r
 ·obtain⟨_,q⟩:=x a _ r;exact q
def FB:Option HO->Prop
 | some (.lst _)=>True
 | some (.dK _)=>True
 | some (.dT _)=>True
 | some (.set _ _)=>True
 | some (.ins _ _ _)=>True
 | some (.ext _)=>True
 | _=>False
section
variable{P:M9}{w:Ng}{H:Hp}{h h':Nf}{x e:MT}{o':HO}
theorem l8.write(ok:l8 P w H h)(mu:FB (H x))(he:e=x\/H e=some (.own x))(k:∀ b u,b≠e->h.get? b=some u->h'.get? b=some u)(heo:∃ u,h'.get? e=some u)(new:ba P w (aR H x o') h' x o'):l8 P w (aR H x o') h':=fun b u q=>by
 have Ud:∀ c y,H c=some (.own y)->c≠x:=fun c y r z=>by subst z;rw[r]at mu;exact mu
 have Ur:∀ c xs,H c=some (.tup xs)->c≠x:=fun c xs r z=>by subst z;rw[r]at mu;exact mu
 by_cases hb:b=x
 ·subst hb;rw[aF]at q;cases q;exact new
 ·rw[ar hb]at q
  by_cases hbe:b=e
  ·have q':H b=some (.own x):=by
    rcases he with z|z
    ·exact absurd (hbe.trans z) hb
    ·rw[hbe];exact z
   rw[q]at q';cases q';obtain⟨v,hv⟩:=heo;exact⟨v,by rw[hbe];exact hv⟩
  ·refine (ok b u q).stay (fun c v hc r=>k c v ?_ r) (fun c r=>by rw[ar (Ud c b r)];exact r) fun c xs r=>by rw[ar (Ur c xs r)];exact r
   rcases hc with rfl|hc
   ·exact hbe
   ·rintro rfl
    rcases he with z|z
    ·exact Ud c b hc z
    ·rw[hc]at z;cases z;exact hb rfl
end
structure Un(fs ex:List MT)(H H':Hp)(h h':Nf):Prop where
 keep:∀ b o,h.get? b=some o->H b=none->b∉fs->b∉ex->h'.get? b=some o
 slot:∀ b o,h.get? b=some o->H b=none->b∈fs->b∉ex->∃ sl,h'.get? b=some { o with slots:=sl }
 free:∀ b o,h.get? b=some o->H b=none->b∉ex->H' b=none
 there:∀ b o,h.get? b=some o->b∉ex->∃ o',h'.get? b=some o'
 tups:∀ b xs,H b=some (.tup xs)->H' b=some (.tup xs)
 frzs:∀ b o u,H b=some (.frz o u)->H' b=some (.frz o u)
 tbls:∀ b ps,H b=some (.tbl ps)->∃ more,H' b=some (.tbl (ps ++ more))
section
variable{fs fs' ex ex':List MT}{H H1 H2:Hp}{h h1 h2 h':Nf}{a x e:MT}{o:HO}
theorem Un.any(u:Un fs ex H H1 h h1)(q:h.get? b=some ob)(n:H b=none)(hx:b∉ex):∃ sl,h1.get? b=some { ob with slots:=sl }:=by
 by_cases hb:b∈fs
 ·exact u.slot b ob q n hb hx
 ·exact⟨ob.slots,u.keep b ob q n hb hx⟩
theorem Un.kept(k:∀ b u,h.get? b=some u->h'.get? b=some u):Un fs ex H H h h':=
 ⟨fun b ob q _ _ _=>k b ob q,fun b ob q _ _ _=>⟨ob.slots,k b ob q⟩,fun _ _ _ n _=>n,fun b ob q _=>⟨ob,k b ob q⟩,fun _ _ q=>q,fun _ _ _ q=>q,fun _ ps q=>⟨#[],by rw[q];simp⟩⟩
theorem Un.refl:Un fs ex H H h h:=Un.kept fun _ _ q=>q
theorem Un.laid(k:∀ b u,h.get? b=some u->h'.get? b=some u)(hp:h.objs.size<=a)(hn:H a=none):Un fs ex H (aR H a o) h h' where
 keep:=fun b u q _ _ _=>k b u q
 slot:=fun b u q _ _ _=>⟨u.slots,k b u q⟩
 free:=fun b u q n _=>by rw[ar (Np (Nl (M4 q) hp))];exact n
 there:=fun b u q _=>⟨u,k b u q⟩
 tups:=fun b xs q=>by rw[ar (bH q hn)];exact q
 frzs:=fun b u xs q=>by rw[ar (bH q hn)];exact q
 tbls:=fun b ps q=>⟨#[],by rw[ar (bH q hn),q];simp⟩
theorem Un.write(mu:FB (H x))(he:e=x\/H e=some (.own x))(k:∀ b u,b≠e->h.get? b=some u->h'.get? b=some u)(heo:∃ u,h'.get? e=some u):Un fs ex H (aR H x o) h h':=by
 have hx:∀ b,H b=none->b≠x:=fun b n z=>by subst z;rw[n]at mu;exact mu
 have hb:∀ b,H b=none->b≠e:=fun b n z=>by
  subst z;rcases he with r|r
  ·exact hx b n r
  ·rw[n]at r;cases r
 have hm:∀ b u,H b=some u->¬ FB (some u)->b≠x:=fun b u q nm z=>by subst z;rw[q]at mu;exact nm mu
 refine⟨fun b u q n _ _=>k b u (hb b n) q,fun b u q n _ _=>⟨u.slots,k b u (hb b n) q⟩,fun b u q n _=>by rw[ar (hx b n)];exact n,fun b u q _=>?_,
  fun b xs q=>by rw[ar (hm b _ q fun z=>z)];exact q,fun b u xs q=>by rw[ar (hm b _ q fun z=>z)];exact q,fun b ps q=>⟨#[],by rw[ar (hm b _ q fun z=>z),q];simp⟩⟩
 by_cases hbe:b=e
 ·subst hbe;exact heo
 ·exact⟨u,k b u hbe q⟩
end
def Lm(h:Nf)(H:Hp):List MT:=(List.range h.objs.size).filter fun a=>(H a).isSome
def xF(h:Nf)(H:Hp):Nf:=PySem.W.hideAll h (Lm h H)
theorem CZ(h:Nf)(H:Hp):(xF h H).objs.size=h.objs.size:=PySem.W.hideAll_size _ _
theorem E9(e:h.get? b=some o)(n:H b=none):(xF h H).get? b=some o:=
 PySem.W.hideAll_get _ e fun hm=>by
  have q:(H b).isSome=true:=(mem_filter.mp hm).2;rw[n]at q;simp at q
theorem GA(e:(xF h H).get? b=some o):h.get? b=some o/\H b=none:=by
 have e':h.get? b=some o:=PySem.W.of_hideAll (Lm h H) e;refine⟨e',?_⟩;cases q:H b with
 | none=>rfl
 | some x=>
  have hm:b∈Lm h H:=mem_filter.mpr ⟨mem_range.mpr (M4 e'),by simp[q]⟩
  have z:(xF h H).get? b=none:=PySem.W.hideAll_none (Lm h H) hm;rw[z]at e;cases e
def Hj(g h:Nf)(L:MT):List (MT×Obj):=(List.range h.objs.size).filterMap fun a=>if a=L\/(g.get? a).isSome=true then none else (h.get? a).map fun o=>(a,o)
def c8(g h:Nf)(L d:MT):List (MT×Obj):=(Hj g h L).filter fun p=>decide (p.1≠d)
structure Mod(K:Po)(mg:Str->Option MS)(base:Nf):Prop where
 kin:K.In base
 glob:base.Ns Na mg
 blt:∃ mb,base.Ns Sb mb/\∀ x:Str,x≠"__name__"->mb x=Of x
 nolimit:base.NoLimit
set_option genInjectivity false in
structure Cx where
 prog:M9
 w:Ng
 K:Po
 mg:Str->Option MS
 base:Nf
 A:Nb
 N:List Str
 s₀:MU
 H₀:Hp
 env:Env
 outer:List Env
 stack:List Env
 ex:List MT
 fn:Str->Bool
 calm:Bool
 pn:List (MT×Obj)
 xe:MS->MU->Prop
def xG(l:List Env):List MT:=l.filterMap (·.frame)
abbrev Cx.fs(X:Cx):List MT:=xG X.outer
def JH(sc:O_)(x:Str):Prop:=sc.names.lookup x=some .local\/sc.names.lookup x=some .cell\/sc.names.lookup x=some .free
def JK(sc:O_)(x:Str):Prop:=sc.names.lookup x=some .local\/sc.names.lookup x=some .cell
def Mh(env:Env)(h:Nf)(m:Str->Option MS)(x:Str)(u:MS):Prop:=
 (env.kindOf x=some .local/\m x=some u)\/((env.kindOf x=some .cell\/env.kindOf x=some .free)/\∃ c,env.cells.lookup x=some c/\h.IsCell c (some u))
structure Cx.Ok(X:Cx):Prop where
 mod:Mod X.K X.mg X.base
 kind:X.env.scope.kind=.function
 glob:X.env.globals=Na
 blt:X.env.builtins=Sb
 above:X.s₀.heap.objs.size<=X.env.locals
 inj:∀ x y c,X.env.cells.lookup x=some c->X.env.cells.lookup y=some c->x=y
 has:∀ x,(X.env.kindOf x=some .cell\/X.env.kindOf x=some .free)->∃ c,X.env.cells.lookup x=some c
 cab:∀ x c,X.fn x=true->X.env.cells.lookup x=some c->X.s₀.heap.objs.size<=c
 hd:X.calm=true->X.A.handled=none
 frames:X.A.frames=some X.stack
 stk:X.stack=X.outer\/(X.stack=X.env::X.outer/\X.env.frame=some X.env.locals)
 exf:∀ b∈X.ex,b≠X.env.locals/\∀ x c,X.env.cells.lookup x=some c->c≠b
 bs:∀ b o,X.base.get? b=some o->X.s₀.heap.get? b=some o/\X.H₀ b=none
 bsz:X.base.objs.size<=X.s₀.heap.objs.size
 noex:∀ b o,X.base.get? b=some o->b∉X.ex
 exfs:∀ b∈X.ex,b∉X.fs
 funs:X.s₀.heap.FunFrames X.base X.outer
 frf:∀ b∈X.fs,X.H₀ b=none
structure Inv(X:Cx)(pins:List (MT×Obj))(σ:List (Option V))(H:Hp)(s:MU):Prop where
 ok:X.Ok
 os:s.os=X.s₀.os
 bare:PM s.gens
 base:Un X.fs X.ex X.H₀ H X.s₀.heap s.heap
 loc:∃ m,s.heap.Ns X.env.locals m/\∀ (i:Nat) (x:Str) (v:V),X.N[i]?=some x->σ[i]?=some (some v)->JH X.env.scope x->∃ u,aH v u/\Mh X.env s.heap m x u
 cell:∀ x c,X.env.cells.lookup x=some c->∃ v,s.heap.IsCell c v
 free:H X.env.locals=none
 freeC:∀ x c,X.env.cells.lookup x=some c->H c=none
 pin:∀ p∈X.pn ++ pins,s.heap.get? p.1=some p.2/\H p.1=none/\p.1≠X.env.locals/\p.1∉X.fs/\∀ v,p.2.data≠.cell v
 hok:l8 X.prog X.w H s.heap
 len:σ.length=X.N.length
section
variable{X:Cx}{pins:List (MT×Obj)}{σ:List (Option V)}{H H':Hp}{s:MU}{h':Nf}
theorem Cx.Ok.nofr(ok:X.Ok)(e:X.base.get? b=some o):b∉X.fs:=fun hb=>by
 have:=(ok.funs.mem hb).1;rw[e]at this;cases this
theorem Inv.bs(I:Inv X pins σ H s):∀ b o,X.base.get? b=some o->s.heap.get? b=some o/\H b=none:=fun b o e=>
 ⟨I.base.keep b o (I.ok.bs b o e).1 (I.ok.bs b o e).2 (I.ok.nofr e) (I.ok.noex b o e),I.base.free b o (I.ok.bs b o e).1 (I.ok.bs b o e).2 (I.ok.noex b o e)⟩
theorem Inv.bk(I:Inv X pins σ H s):∀ b o,X.base.get? b=some o->s.heap.get? b=some o:=fun b o e=>(I.bs b o e).1
theorem Inv.mod(I:Inv X pins σ H s):Mod X.K X.mg X.base:=I.ok.mod
theorem Inv.kIn(I:Inv X pins σ H s):X.K.In s.heap:=I.ok.mod.kin.keeps I.bk
theorem Inv.lt(I:Inv X pins σ H s):X.env.locals < s.heap.objs.size:=let ⟨_,hn,_⟩:=I.loc;hn.lt
theorem Inv.sz(I:Inv X pins σ H s):X.s₀.heap.objs.size<=s.heap.objs.size:=le_trans I.ok.above (le_of_lt I.lt)
theorem Inv.nofs(I:Inv X pins σ H s)(h:s.heap.objs.size<=a):a∉X.fs:=fun hb=>by
 obtain⟨_,o,ho,_⟩:=I.ok.funs.mem hb;exact absurd (Nl (M4 ho) (le_trans I.sz h)) (Nat.lt_irrefl _)
theorem Inv.cne(I:Inv X pins σ H s):∀ x c,X.env.cells.lookup x=some c->c≠X.env.locals:=fun x c e z=>by
 obtain⟨v,o,ho,hd⟩:=I.cell x c e;obtain⟨m,⟨o',es,ep,ho',hd',_⟩,_⟩:=I.loc;rw[z,ho']at ho;cases ho;rw[hd']at hd;cases hd
theorem Inv.funs(I:Inv X pins σ H s):s.heap.FunFrames X.base X.outer:=by
 have all:∀ (l:List Env),(∀ b∈xG l,b∈X.fs)->X.s₀.heap.FunFrames X.base l->s.heap.FunFrames X.base l:=by
  intro l
  induction l with
  | nil=>intro _ _;trivial
  | cons env r ih=>
   intro hs hl;obtain⟨hk,⟨L,o,hf,hn,ho,hd⟩,hr⟩:=hl;have hL:L∈X.fs:=hs L (by unfold xG;rw[Og,hf];exact M_)
   obtain⟨sl,e⟩:=I.base.slot L o ho (I.ok.frf L hL) hL fun z=>I.ok.exfs L z hL;exact⟨hk,⟨L,_,hf,hn,e,hd⟩,ih (fun b hb=>hs b (by unfold xG;rw[Og,hf];exact M7 _ hb)) hr⟩
 exact all X.outer (fun _ hb=>hb) I.ok.funs
theorem Inv.stack(I:Inv X pins σ H s):s.heap.FunFrames X.base X.stack:=by
 rcases I.ok.stk with e|⟨e,hf⟩
 ·rw[e];exact I.funs
 ·rw[e];obtain⟨m,hn,_⟩:=I.loc;refine .cons (by rw[I.ok.kind];decide) hf hn ?_ I.funs
  exact Heap.get?_none_of_le (le_trans I.ok.bsz I.ok.above)
theorem Inv.stkSub(I:Inv X pins σ H s):∀ b∈xG X.stack,b∈X.env.locals::X.fs:=fun b hb=>by
 rcases I.ok.stk with e|⟨e,hf⟩
 ·rw[e]at hb;exact M7 _ hb
 ·rw[e]at hb;unfold xG at hb;rw[Og,hf]at hb;exact hb
theorem Inv.stkFree(I:Inv X pins σ H s):∀ b∈xG X.stack,H b=none:=fun b hb=>by
 rcases NH.mp (I.stkSub b hb)with e|hb
 ·rw[e];exact I.free
 ·obtain⟨_,o,ho,_⟩:=I.ok.funs.mem hb;exact I.base.free b o ho (I.ok.frf b hb) fun z=>I.ok.exfs b z hb
theorem Inv.step{g':Array GenState}{t':Nat}{d':Drawn}{ch:List MT}(I:Inv X pins σ H s)
  (hch:∀ b∈ch,(b∈X.ex\/X.s₀.heap.objs.size<=b)/\b≠X.env.locals/\(∀ x c,X.env.cells.lookup x=some c->c≠b)/\∀ p∈X.pn ++ pins,p.1≠b)
  (keep:∀ b o,b≠X.env.locals->b∉X.fs->b∉ch->s.heap.get? b=some o->H b=none->h'.get? b=some o)
  (slot:∀ b o,b≠X.env.locals->b∈X.fs->b∉ch->s.heap.get? b=some o->H b=none->∃ sl,h'.get? b=some { o with slots:=sl }) (free:∀ b o,b∉ch->s.heap.get? b=some o->H b=none->H' b=none)
  (there:∀ b o,b∉ch->s.heap.get? b=some o->∃ o',h'.get? b=some o')
  (tups:∀ b xs,H b=some (.tup xs)->H' b=some (.tup xs)) (frzs:∀ b o u,H b=some (.frz o u)->H' b=some (.frz o u)) (tbls:∀ b ps,H b=some (.tbl ps)->∃ more,H' b=some (.tbl (ps ++ more)))
  (ns:∀ m,s.heap.Ns X.env.locals m->h'.Ns X.env.locals m) (hok:l8 X.prog X.w H' h') (hg:PM g'):
  Inv X pins σ H' { s with heap:=h',gens:=g',drawn:=d',toks:=t' }:=by
 have neL:∀ b o,X.s₀.heap.get? b=some o->b≠X.env.locals:=fun b o e=>Np (Nl (M4 e) I.ok.above);have neC:∀ b o,X.s₀.heap.get? b=some o->b∉X.ex->b∉ch:=fun b o e hx hb=>by
  rcases (hch b hb).1 with z|z
  ·exact hx z
  ·exact absurd (Nl (M4 e) z) (Nat.lt_irrefl _)
 have cellK:∀ x c,X.env.cells.lookup x=some c->∀ v,s.heap.IsCell c v->h'.IsCell c v:=fun x c e v zz=>by
  obtain⟨o,ho,hd⟩:=zz;have nch:c∉ch:=fun z=>(hch c z).2.2.1 x c e rfl
  by_cases hc:c∈X.fs
  ·obtain⟨sl,q⟩:=slot c o (I.cne x c e) hc nch ho (I.freeC x c e);exact⟨_,q,hd⟩
  ·exact⟨o,keep c o (I.cne x c e) hc nch ho (I.freeC x c e),hd⟩
 refine⟨I.ok,I.os,hg,⟨fun b o e n hb hx=>?_,fun b o e n hb hx=>?_,fun b o e n hx=>?_,fun b o e hx=>?_,fun b xs e=>tups b xs (I.base.tups b xs e),fun b o xs e=>frzs b o xs (I.base.frzs b o xs e),fun b ps e=>?_⟩,?_,fun x c e=>?_,?_,fun x c e=>?_,fun p hp=>?_,hok,I.len⟩
 ·exact keep b o (neL b o e) hb (neC b o e hx) (I.base.keep b o e n hb hx) (I.base.free b o e n hx)
 ·obtain⟨sl,e1⟩:=I.base.slot b o e n hb hx;obtain⟨sl',e2⟩:=slot b _ (neL b o e) hb (neC b o e hx) e1 (I.base.free b o e n hx);exact⟨sl',e2⟩
 ·obtain⟨o',e1⟩:=I.base.there b o e hx;exact free b o' (neC b o e hx) e1 (I.base.free b o e n hx)
 ·obtain⟨o',e1⟩:=I.base.there b o e hx;exact there b o' (neC b o e hx) e1
 ·obtain⟨m1,e1⟩:=I.base.tbls b ps e;obtain⟨m2,e2⟩:=tbls b _ e1;exact⟨m1 ++ m2,by rw[e2,Array.append_assoc]⟩
 ·obtain⟨m,hn,hl⟩:=I.loc;refine⟨m,ns m hn,fun i x v e1 e2 e3=>?_⟩;obtain⟨u,r,l⟩:=hl i x v e1 e2 e3;refine⟨u,r,?_⟩;rcases l with l|⟨k,c,e,z⟩
  ·exact .inl l
  ·exact .inr ⟨k,c,e,cellK x c e _ z⟩
 ·obtain⟨v,z⟩:=I.cell x c e;exact⟨v,cellK x c e v z⟩
 ·obtain⟨m,⟨o,_,_,ho,_⟩,_⟩:=I.loc;exact free _ o (fun z=>(hch _ z).2.1 rfl) ho I.free
 ·obtain⟨v,o,ho,hd⟩:=I.cell x c e;exact free c o (fun z=>(hch c z).2.2.1 x c e rfl) ho (I.freeC x c e)
 ·obtain⟨e,n,ne,nf,d⟩:=I.pin p hp;have nch:p.1∉ch:=fun z=>(hch p.1 z).2.2.2 p hp rfl;exact⟨keep p.1 p.2 ne nf nch e n,free p.1 p.2 nch e n,ne,nf,d⟩
theorem Inv.un(I:Inv X pins σ H s)(u:Un X.fs [] H H' s.heap h')(hok:l8 X.prog X.w H' h'):Inv X pins σ H' { s with heap:=h',toks:=t' }:=by
 obtain⟨m,⟨o,es,ep,ho,r⟩,_⟩:=id I.loc;obtain⟨sl,hL⟩:=u.any ho I.free (by simp)
 exact I.step (g':=s.gens) (d':=s.drawn) (ch:=[]) (fun _ z=>nomatch z) (fun b o _ hb _ e n=>u.keep b o e n hb (by simp)) (fun b o _ hb _ e n=>u.slot b o e n hb (by simp)) (fun b o _ e n=>u.free b o e n (by simp)) (fun b o _ e=>u.there b o e (by simp)) u.tups u.frzs u.tbls (fun m' hm=>by
  obtain⟨o',es',ep',ho',r'⟩:=hm;rw[ho]at ho';cases ho';exact⟨_,es',ep',hL,r'⟩) hok I.bare
theorem Inv.call(I:Inv X pins σ H s)(u:Un (xG X.stack) ch H H' s.heap h')(hok:l8 X.prog X.w H' h')(hg:PM g')(hch:∀ b∈ch,(b∈X.ex\/X.s₀.heap.objs.size<=b)/\b≠X.env.locals/\(∀ x c,X.env.cells.lookup x=some c->c≠b)/\∀ p∈X.pn ++ pins,p.1≠b):
  Inv X pins σ H' { s with heap:=h',gens:=g',drawn:=d',toks:=t' }:=by
 obtain⟨m,⟨o,es,ep,ho,r⟩,_⟩:=id I.loc;obtain⟨sl,hL⟩:=u.any ho I.free fun z=>(hch _ z).2.1 rfl;exact I.step (ch:=ch) hch (fun b o hL hb hc e n=>u.keep b o e n (fun z=>(NH.mp (I.stkSub b z)).elim hL hb) hc) (fun b o _ _ hc e n=>u.any e n hc) (fun b o hc e n=>u.free b o e n hc) (fun b o hc e=>u.there b o e hc) u.tups u.frzs u.tbls (fun m' hm=>by
  obtain⟨o',es',ep',ho',r'⟩:=hm;rw[ho]at ho';cases ho';exact⟨_,es',ep',hL,r'⟩) hok hg
theorem Inv.turned(I:Inv X pins σ H s)(k:∀ b o,b≠it->s.heap.get? b=some o->h'.get? b=some o)(hn:H it=none)(hL:it≠X.env.locals)(h1:it∈X.ex\/X.s₀.heap.objs.size<=it)(h2:∀ x c,X.env.cells.lookup x=some c->c≠it)(h3:∀ p∈X.pn ++ pins,p.1≠it):Inv X pins σ H { s with heap:=h',toks:=t' }:=by
 have nit:∀ b u,H b=some u->b≠it:=fun b u e z=>by rw[z,hn]at e;cases e
 refine I.step (g':=s.gens) (d':=s.drawn) (ch:=[it]) (fun b hb=>?_) (fun b o _ _ hc e _=>k b o (fun z=>hc (by simp[z])) e) (fun b o _ _ hc e _=>⟨o.slots,k b o (fun z=>hc (by simp[z])) e⟩) (fun _ _ _ _ n=>n)
  (fun b o hc e=>⟨o,k b o (fun z=>hc (by simp[z])) e⟩) (fun _ _ e=>e) (fun _ _ _ e=>e) (fun b ps e=>⟨#[],by rw[e];simp⟩) (fun m hm=>?_) (fun b u e=>?_) I.bare
 ·have e:b=it:=by simpa using hb
  subst e;exact⟨h1,hL,h2,h3⟩
 ·obtain⟨o,es,ep,ho,r⟩:=hm;exact⟨o,es,ep,k _ o (Ne.symm hL) ho,r⟩
 ·refine (I.hok b u e).stay (fun c v hc q=>k c v ?_ q) (fun _ q=>q) fun _ _ q=>q;rcases hc with z|z
  ·rw[z];exact nit b u e
  ·exact nit c _ z
theorem Inv.tok(I:Inv X pins σ H s)(t:Nat):Inv X pins σ H { s with toks:=t }:=I.un (h':=s.heap) (t':=t) Un.refl I.hok
theorem Inv.kept(I:Inv X pins σ H s)(k:∀ b u,s.heap.get? b=some u->h'.get? b=some u):Inv X pins σ H { s with heap:=h',toks:=t' }:=I.un (Un.kept k) (I.hok.kept k)
theorem Inv.laid(I:Inv X pins σ H s)(k:∀ b u,s.heap.get? b=some u->h'.get? b=some u)(hp:s.heap.objs.size<=a)(new:ba X.prog X.w (aR H a o) h' a o):
  Inv X pins σ (aR H a o) { s with heap:=h',toks:=t' }:=I.un (Un.laid k hp (I.hok.fresh hp)) (I.hok.laid k hp new)
theorem Inv.write(I:Inv X pins σ H s)(mu:FB (H x))(he:e=x\/H e=some (.own x))(k:∀ b u,b≠e->s.heap.get? b=some u->h'.get? b=some u)(heo:∃ u,h'.get? e=some u)(new:ba X.prog X.w (aR H x o) h' x o):Inv X pins σ (aR H x o) { s with heap:=h',toks:=t' }:=I.un (Un.write mu he k heo) (I.hok.write mu he k heo new)
theorem Inv.pins_of(I:Inv X pins σ H s)(h:∀ p∈SE,s.heap.get? p.1=some p.2/\H p.1=none/\p.1≠X.env.locals/\p.1∉X.fs/\∀ v,p.2.data≠.cell v):Inv X SE σ H s:=
 ⟨I.ok,I.os,I.bare,I.base,I.loc,I.cell,I.free,I.freeC,fun p hp=>(R6.mp hp).elim (fun z=>I.pin p (List.mem_append_left _ z)) (h p),I.hok,I.len⟩
theorem tQ{N:List Str}(hN:N.Nodup){i j:Nat}{x:Str}(a:N[i]?=some x)(b:N[j]?=some x):i=j:=by
 obtain⟨h1,e1⟩:=List.getElem?_eq_some_iff.mp a;obtain⟨h2,e2⟩:=List.getElem?_eq_some_iff.mp b;exact (List.getElem_inj hN).mp (e1.trans e2.symm)
theorem vP(I:Inv X pins σ H s)(hN:X.N.Nodup)(hi:X.N[i]?=some x)(hx:JK X.env.scope x)(r:aH v u)(h:∀ s',Inv X pins (σ.set i (some v)) H s'->(∃ a,ON a s.heap s'.heap/\(a=X.env.locals\/X.env.cells.lookup x=some a))->Q () s')(hf:X.fn x=true\/X.env.scope.names.lookup x=some .local:=by first|exact .inl rfl|exact .inr rfl|assumption):MZ M A (storeName X.env x u) Q E s:=by
 obtain⟨m,hn,hl⟩:=id I.loc;have T9:(X.env.scope.kind == .class || (X.env.scope.kind == .module && X.env.locals != X.env.globals))=false:=by rw[I.ok.kind];rfl
 have hiσ:i < σ.length:=by rw[I.len];exact (List.getElem?_eq_some_iff.mp hi).1
 have cne:=I.cne;have tracked:∀ {a:MT} {h':Nf},(∃ o,s.heap.get? a=some o/\H a=none)->ON a s.heap h'->l8 X.prog X.w H h':=fun {a h'} ha hs b ob e=>by
  obtain⟨_,_,SL⟩:=ha;refine (I.hok b ob e).stay (fun c w' hc q=>(hs.2 c ?_).trans q) (fun _ q=>q) fun _ _ q=>q
  rintro rfl
  rcases hc with rfl|hc
  ·rw[SL]at e;cases e
  ·rw[SL]at hc;cases hc
 rcases hx with hk|hk
 ·refine wpAny_storeName_local hk hn (fun h' hn' hs=>?_) T9;obtain⟨oL,_,_,hoL,_⟩:=id hn;refine h _ ⟨I.ok,I.os,I.bare,⟨fun b o e n hb hx=>?_,fun b o e n hb hx=>?_,I.base.free,fun b o e hx=>?_,I.base.tups,I.base.frzs,I.base.tbls⟩,⟨_,hn',fun j y v' e1 e2 e3=>?_⟩,fun y c e=>?_,I.free,I.freeC,fun p hp=>?_,tracked ⟨oL,hoL,I.free⟩ hs,by simpa using I.len⟩ ⟨_,hs,.inl rfl⟩
  ·exact (hs.2 b (Np (Nl (M4 e) I.ok.above))).trans (I.base.keep b o e n hb hx)
  ·obtain⟨sl,e1⟩:=I.base.slot b o e n hb hx;exact⟨sl,(hs.2 b (Np (Nl (M4 e) I.ok.above))).trans e1⟩
  ·obtain⟨o',e1⟩:=I.base.there b o e hx;exact⟨o',(hs.2 b (Np (Nl (M4 e) I.ok.above))).trans e1⟩
  ·by_cases hj:j=i
   ·subst hj;rw[hi]at e1;cases e1;rw[Oj hiσ]at e2;cases e2;exact⟨u,r,.inl ⟨hk,by simp⟩⟩
   ·rw[Ox (Ne.symm hj)]at e2;obtain⟨u',r',q⟩:=hl j y v' e1 e2 e3;refine⟨u',r',?_⟩;rcases q with ⟨k,e⟩|⟨k,c,e,z⟩
    ·refine .inl ⟨k,?_⟩;have:y≠x:=fun e=>hj (tQ hN e1 (e ▸ hi));simp[this,e]
    ·exact .inr ⟨k,c,e,z.sameBut hs (cne y c e)⟩
  ·obtain⟨w',z⟩:=I.cell y c e;exact⟨w',z.sameBut hs (cne y c e)⟩
  ·obtain⟨e,n,ne,nf,d⟩:=I.pin p hp;exact⟨(hs.2 p.1 ne).trans e,n,ne,nf,d⟩
 ·have hfn:X.fn x=true:=by
   rcases hf with z|z
   ·exact z
   ·rw[z]at hk;cases hk
  obtain⟨c,hc⟩:=I.ok.has x (.inl hk);obtain⟨w',z⟩:=I.cell x c hc;refine wpAny_storeName_cell I.ok.kind hk hc z (fun h' hc' hs=>?_);obtain⟨oc,hoc,hocd⟩:=id z;refine h { s with heap:=h' } ⟨I.ok,I.os,I.bare,⟨fun b o e n hb hx=>?_,fun b o e n hb hx=>?_,I.base.free,fun b o e hx=>?_,I.base.tups,I.base.frzs,I.base.tbls⟩,⟨m,hn.sameBut hs (Ne.symm (cne x c hc)),fun j y v' e1 e2 e3=>?_⟩,fun y c' e=>?_,I.free,I.freeC,fun p hp=>?_,tracked ⟨oc,hoc,I.freeC x c hc⟩ hs,by simpa using I.len⟩ ⟨c,hs,.inr hc⟩
  ·exact (hs.2 b (Np (Nl (M4 e) (I.ok.cab x c hfn hc)))).trans (I.base.keep b o e n hb hx)
  ·obtain⟨sl,e1⟩:=I.base.slot b o e n hb hx;exact⟨sl,(hs.2 b (Np (Nl (M4 e) (I.ok.cab x c hfn hc)))).trans e1⟩
  ·obtain⟨o',e1⟩:=I.base.there b o e hx;exact⟨o',(hs.2 b (Np (Nl (M4 e) (I.ok.cab x c hfn hc)))).trans e1⟩
  ·by_cases hj:j=i
   ·subst hj;rw[hi]at e1;cases e1;rw[Oj hiσ]at e2;cases e2;exact⟨u,r,.inr ⟨.inl hk,c,hc,hc'⟩⟩
   ·rw[Ox (Ne.symm hj)]at e2;obtain⟨u',r',q⟩:=hl j y v' e1 e2 e3;refine⟨u',r',?_⟩;rcases q with q|⟨k,c',e,z'⟩
    ·exact .inl q
    ·refine .inr ⟨k,c',e,z'.sameBut hs ?_⟩
     rintro rfl
     exact hj (tQ hN e1 (I.ok.inj _ _ _ e hc ▸ hi))
  ·by_cases hcc:c'=c
   ·subst hcc;exact⟨_,hc'⟩
   ·obtain⟨w2,z2⟩:=I.cell y c' e;exact⟨w2,z2.sameBut hs hcc⟩
  ·obtain⟨e,n,ne,nf,d⟩:=I.pin p hp;refine⟨(hs.2 p.1 ?_).trans e,n,ne,nf,d⟩;intro q;rw[q,hoc]at e;have q':oc=p.2:=Option.some.inj e;exact d w' (by rw[<- q'];exact hocd)
theorem nT(I:Inv X pins σ H s)(hN:X.N.Nodup)(hi:X.N[i]?=some x)(hx:JK X.env.scope x)(r:aH v u)(h:∀ s',Inv X pins (σ.set i (some v)) H s'->Q () s')(hf:X.fn x=true\/X.env.scope.names.lookup x=some .local:=by first|exact .inl rfl|exact .inr rfl|assumption):MZ M A (storeName X.env x u) Q E s:=
 vP I hN hi hx r (fun s' I' _=>h s' I') hf
theorem Inv.call'(I:Inv X pins σ H s)(ho:s'.os=s.os)(u:Un (xG X.stack) ch H H' s.heap s'.heap)(hok:l8 X.prog X.w H' s'.heap)(hg:PM s'.gens)(hch:∀ b∈ch,(b∈X.ex\/X.s₀.heap.objs.size<=b)/\b≠X.env.locals/\(∀ x c,X.env.cells.lookup x=some c->c≠b)/\∀ p∈X.pn ++ pins,p.1≠b):Inv X pins σ H' s':=by
 obtain⟨h',g',d',t',o'⟩:=s';have e:o'=s.os:=ho;subst e;exact I.call (g':=g') (t':=t') (d':=d') u hok hg hch
end
abbrev XK:=MS->Option MT->Hp->Prop
abbrev St:=List (Option V)
abbrev VK:=V->Hp->Prop
abbrev TE:=St->Hp->VK->Prop
abbrev TT:=St->Hp->(Bool->Hp->Prop)->Prop
abbrev TA:=St->Hp->(List V->Hp->Prop)->Prop
set_option genInjectivity false in
structure Ends where
 nx:St->Hp->Prop
 rt:VK
 bk:St->Hp->Prop:=fun _ _=>False
 ct:St->Hp->Prop:=fun _ _=>False
abbrev TS:=Ends->St->Hp->Prop
def EP(X:Cx)(pins:List (MT×Obj))(σ:St)(Q:VK)(u:MS)(s':MU):Prop:=∃ v H',Inv X pins σ H' s'/\aH v u/\Q v H'
def TP(X:Cx)(pins:List (MT×Obj))(σ:St)(Q:Bool->Hp->Prop)(b:Bool)(s':MU):Prop:=∃ H',Inv X pins σ H' s'/\Q b H'
def AP(X:Cx)(pins:List (MT×Obj))(σ:St)(Q:List V->Hp->Prop)(us:List MS)(s':MU):Prop:=∃ vs H',Inv X pins σ H' s'/\Vals vs us/\Q vs H'
def SP(X:Cx)(pins:List (MT×Obj))(D:Ends)(f:Flow)(s':MU):Prop:=
 match f with
 | .next=>∃ σ' H',Inv X pins σ' H' s'/\D.nx σ' H'
 | .brk=>∃ σ' H',Inv X pins σ' H' s'/\D.bk σ' H'
 | .cont=>∃ σ' H',Inv X pins σ' H' s'/\D.ct σ' H'
 | .ret u=>∃ v σ' H',Inv X pins σ' H' s'/\aH v u/\D.rt v H'
def PE(X:Cx)(e:Nh)(t:TE):Prop:=
 ∀ (pins:List (MT×Obj)) (s:MU) (σ:St) (H:Hp) (Q:VK),Inv X pins σ H s->t σ H Q->MZ (M0 X.prog X.w) X.A (eval e X.env) (EP X pins σ Q) X.xe s
def PT(X:Cx)(e:Nh)(t:TT):Prop:=
 ∀ (pins:List (MT×Obj)) (s:MU) (σ:St) (H:Hp) (Q:Bool->Hp->Prop),Inv X pins σ H s->t σ H Q->MZ (M0 X.prog X.w) X.A (Rp e X.env (eval e X.env)) (TP X pins σ Q) X.xe s
def PW(X:Cx)(e:Nh)(t:TT):Prop:=
 ∀ (whole:Sem MS) (pins:List (MT×Obj)) (s:MU) (σ:St) (H:Hp) (Q:Bool->Hp->Prop),Inv X pins σ H s->t σ H Q->MZ (M0 X.prog X.w) X.A (Rp e X.env whole) (TP X pins σ Q) X.xe s
theorem PW.pt(h:PW X e t):PT X e t:=h _
def PA(X:Cx)(es:List Nh)(t:TA):Prop:=
 ∀ (pos:Pos) (pins:List (MT×Obj)) (s:MU) (σ:St) (H:Hp) (Q:List V->Hp->Prop),Inv X pins σ H s->t σ H Q->MZ (M0 X.prog X.w) X.A (spliced (NZ pos (M5 es X.env))) (AP X pins σ Q) X.xe s
def PS(X:Cx)(st:No)(t:TS):Prop:=
 ∀ (pins:List (MT×Obj)) (s:MU) (σ:St) (H:Hp) (D:Ends),Inv X pins σ H s->t D σ H->MZ (M0 X.prog X.w) X.A (exec st X.env) (SP X pins D) X.xe s
def iJ(X:Cx)(st:List No)(t:TS):Prop:=
 ∀ (pins:List (MT×Obj)) (s:MU) (σ:St) (H:Hp) (D:Ends),Inv X pins σ H s->t D σ H->MZ (M0 X.prog X.w) X.A (execs st X.env) (SP X pins D) X.xe s
theorem bZ{α:Type}{t:Sem α}{Q Q':α->MU->Prop}{M:RL}{A:Nb}{E:MS->MU->Prop}{s:MU}(h:MZ M A t Q E s)(hQ:∀ a s,Q a s->Q' a s):MZ M A t Q' E s:=Nn h hQ fun _ _ x=>x
section
variable{X:Cx}
def LA(i:Nat):TE:=fun σ H Q=>∃ v,σ[i]?=some (some v)/\Q v H
def tC(v:V):TE:=fun _ H Q=>Q v H
theorem tK{i:Nat}{x:Str}{pos:Pos}(hN:X.N[i]?=some x)(hv:JH X.env.scope x)(hd:(x == ("__debug__":Str))=false:=by decide)(hcd:(x == ("__classdict__":Str))=false:=by decide):PE X (.Name x pos) (LA i):=by
 intro pins s σ H Q I h;obtain⟨v,e,h⟩:=h;obtain⟨m,hn,hl⟩:=I.loc;obtain⟨u,r,l⟩:=hl i x v hN e hv;have fin:EP X pins σ Q u s:=⟨v,H,I,r,h⟩;rcases l with ⟨hk,hm⟩|⟨hk,c,hc,SM⟩
 ·exact R0 (wpAny_loadName_local I.ok.kind hk hn hm fin) hd
 ·rcases hk with hk|hk
  ·exact R0 (wpAny_loadName_cell I.ok.kind hk hc SM fin) hd
  ·exact R0 (wpAny_loadName_free I.ok.kind hk hc SM fin hcd) hd
theorem IG{i j pos}:PE X (.Constant (.int i) j pos) (tC (.int i)):=fun _ _ _ H _ I h=>wpAny_Constant_int ⟨.int i,H,I.tok _,⟨_,rfl⟩,h⟩
theorem Kn{b j pos}:PE X (.Constant (.bool b) j pos) (tC (.bl b)):=fun _ _ _ H _ I h=>Constant_bool ⟨.bl b,H,I,rfl,h⟩
theorem IE{j pos}:PE X (.Constant .none j pos) (tC .non):=fun _ _ _ H _ I h=>Constant_none ⟨.non,H,I,rfl,h⟩
theorem Ew{x j pos}:PE X (.Constant (.str x) j pos) (tC (.str x)):=fun _ _ _ H _ I h=>Calls.Constant_str ⟨.str x,H,I.tok _,⟨_,rfl⟩,h⟩
def Gl(X:Cx)(x:Str):Prop:=X.env.kindOf x=some .globalImplicit
theorem jE{E:MS->MU->Prop}{pins:List (MT×Obj)}{s:MU}{σ:St}{H:Hp}{x:Str}{u:MS}{pos:Pos}{Q:MS->MU->Prop}(I:Inv X pins σ H s)(hg:Gl X x)(hm:X.mg x=some u)(h:Q u s)
  (hd:(x == ("__debug__":Str))=false:=by decide):MZ (M0 X.prog X.w) X.A (eval (.Name x pos) X.env) Q E s:=
 Q0 I.ok.kind hg (Calls.loadGlobal_global (by rw[I.ok.glob];exact I.mod.glob.keeps I.bk) hm h) hd
theorem gB{E:MS->MU->Prop}{pins:List (MT×Obj)}{s:MU}{σ:St}{H:Hp}{x:Str}{u:MS}{pos:Pos}{Q:MS->MU->Prop}(I:Inv X pins σ H s)(hg:Gl X x)(hm:X.mg x=none)(hv:Of x=some u)(h:Q u s)
  (hn:x≠"__name__":=by decide) (hd:(x == ("__debug__":Str))=false:=by decide):MZ (M0 X.prog X.w) X.A (eval (.Name x pos) X.env) Q E s:=by
 obtain⟨mb,h1,h2⟩:=I.mod.blt;exact Q0 I.ok.kind hg (Calls.loadGlobal_builtin (by rw[I.ok.glob];exact I.mod.glob.keeps I.bk) hm (by rw[I.ok.blt];exact h1.keeps I.bk) ((h2 x hn).trans hv) h) hd
theorem BJ(hg:Gl X x)(hm:X.mg x=some u)(r:aH v u)(hd:(x == ("__debug__":Str))=false:=by decide):PE X (.Name x pos) (tC v):=
 fun _ _ _ H _ I h=>jE I hg hm ⟨v,H,I,r,h⟩ hd
theorem Gn{x:Str}{v:V}{u:MS}{pos:Pos}(hg:Gl X x)(hm:X.mg x=none)(hv:Of x=some u)(r:aH v u)(hn:x≠"__name__":=by decide)(hd:(x == ("__debug__":Str))=false:=by decide):PE X (.Name x pos) (tC v):=
 fun _ _ _ H _ I h=>gB I hg hm hv ⟨v,H,I,r,h⟩ hn hd
variable{a b:Nh}{ta tb:TE}{pos:Pos}
def PC(X:Cx)(op:PX)(a b:Nh)(t:TE):Prop:=
 ∀ (pins:List (MT×Obj)) (s:MU) (σ:St) (H:Hp) (Q:VK),Inv X pins σ H s->t σ H Q->
  MZ (M0 X.prog X.w) X.A (eval a X.env) (fun v s₁=>MZ (M0 X.prog X.w) X.A (eval b X.env) (fun u s₂=>MZ (M0 X.prog X.w) X.A (Nr op v u) (EP X pins σ Q) X.xe s₂) X.xe s₁) X.xe s
def tB(t:TE):TT:=fun σ H Q=>t σ H fun x H1=>∃ c,x=.bl c/\Q c H1
theorem EC(h:PC X op a b t)(h1:NW op b=false:=by first|exact nobehind _ (by decide) (by decide)|rfl):PE X (.Compare a [op] [b] pos) t:=fun pins s σ H Q I hw=>wpAny_Compare1 (h pins s σ H Q I hw) h1
theorem Ei(h:PC X op a b t)(h1:NW op b=false:=by first|exact nobehind _ (by decide) (by decide)|rfl):PT X (.Compare a [op] [b] pos) (tB t):=by
 intro pins s σ H Q I hw;refine Ry (bZ (h pins s σ H _ I hw) fun v s1 h1=>bZ h1 fun u s2 h2=>bZ h2 fun c s3 zz=>?_) h1;obtain⟨x,H1,I1,r1,q1⟩:=zz;obtain⟨d,rfl,q⟩:=q1;cases r1;exact OR ⟨H1,I1,q⟩
variable{tA tB':TT}{c8:List Nh}
def LL(t u:TT):TT:=fun σ H Q=>t σ H fun c H1=>if c=true then u σ H1 Q else Q false H1
def Mu(t u:TT):TT:=fun σ H Q=>t σ H fun c H1=>if c=true then Q true H1 else u σ H1 Q
def LF(t:TT):TT:=fun σ H Q=>t σ H fun c H1=>Q (!c) H1
theorem F7(ha:PT X a tA):PW X (.BoolOp .And [a] pos) tA:=by
 intro wh pins s σ H Q I h;refine isTrue_and (bZ (ha pins s σ H Q I h) fun c s1 e=>?_);cases c with
 | true=>exact isTrue_and_nil e
 | false=>exact e
theorem Iw(ha:PT X a tA):PW X (.BoolOp .Or [a] pos) tA:=by
 intro wh pins s σ H Q I h;refine isTrue_or (bZ (ha pins s σ H Q I h) fun c s1 e=>?_);cases c with
 | false=>exact isTrue_or_nil e
 | true=>exact e
theorem Ix(ha:PT X a tA)(hb:PW X (.BoolOp .And (b::c8) pos) tB'):PW X (.BoolOp .And (a::b::c8) pos) (LL tA tB'):=by
 intro wh pins s σ H Q I h;refine isTrue_and (bZ (ha pins s σ H _ I h) fun c s1 zz=>?_);obtain⟨H1,I1,q1⟩:=zz;cases c with
 | true=>exact hb wh pins s1 σ H1 Q I1 q1
 | false=>exact⟨H1,I1,q1⟩
theorem Kf(ha:PT X a tA)(hb:PW X (.BoolOp .Or (b::c8) pos) tB'):PW X (.BoolOp .Or (a::b::c8) pos) (Mu tA tB'):=by
 intro wh pins s σ H Q I h;refine isTrue_or (bZ (ha pins s σ H _ I h) fun c s1 zz=>?_);obtain⟨H1,I1,q1⟩:=zz;cases c with
 | true=>exact⟨H1,I1,q1⟩
 | false=>exact hb wh pins s1 σ H1 Q I1 q1
theorem Iz(ha:PT X a tA):PT X (.UnaryOp .Not a pos) (LF tA):=by
 intro pins s σ H Q I h;exact isTrue_not (ha pins s σ H (fun c H1=>Q (!c) H1) I h)
end
def kg(K:Po)(H:Hp)(a:MT)(xs:List V):Prop:=
 Rd H a (.lst xs)\/
  ∃ (o:Obj) (its:Array MS) (n:Nat),K.lookup a=some o/\o.cls=.type "list"/\o.dict=none/\o.data=.seq its n/\its.size<=M1/\Vals xs its.toList
def ke(K:Po)(H:Hp)(a:MT)(xs:List V):Prop:=
 Rd H a (.tup xs)\/
  ∃ (o:Obj) (its:Array MS) (n:Nat),K.lookup a=some o/\(o.cls=.type "tuple"/\o.dict=none)/\o.data=.seq its n/\its.size<=M1/\Vals xs its.toList
def Mf:MS->Option V
 | .none=>some .non
 | .bool b=>some (.bl b)
 | .int i _=>some (.int i)
 | .str x _=>some (.str x)
 | .bytes b _=>some (.byt b)
 | .float b _=>some (.flt b)
 | .ref a=>some (.ref a)
 | .type n=>some (.ty n)
 | _=>none
theorem aH.abs(r:aH x u):Mf u=some x:=by
 cases x with
 | non=>cases r;rfl
 | bl _=>cases r;rfl
 | int _=>obtain⟨t,rfl⟩:=r;rfl
 | str _=>obtain⟨t,rfl⟩:=r;rfl
 | byt _=>obtain⟨t,rfl⟩:=r;rfl
 | flt _=>obtain⟨t,rfl⟩:=r;rfl
 | ref _=>cases r;rfl
 | ty _=>cases r;rfl
theorem aH.inj(r:aH x u)(q:aH y u):x=y:=Option.some.inj (r.abs.symm.trans q.abs)
theorem Vals.inj:∀ {xs ys:List V} {us:List MS},Vals xs us->Vals ys us->xs=ys
 | _,_,_,.nil,.nil=>rfl
 | _,_,_,.cons r t,.cons r' t'=>by rw[r.inj r',Vals.inj t t']
section
variable{X:Cx}{pins:List (MT×Obj)}{σ:St}{H:Hp}{s:MU}{a:MT}{xs ys:List V}
theorem kg.of{K:Po}(h:H a=some (.lst xs)):kg K H a xs:=.inl (.inl h)
theorem ke.of{K:Po}(h:H a=some (.tup xs)):ke K H a xs:=.inl (.inl h)
theorem Inv.list(I:Inv X pins σ H s)(h:kg X.K H a xs):∃ its:List MS,Vals xs its/\PlainL s.heap a its.toArray/\xs.length<=M1:=by
 rcases h with h|⟨o,its,n,hk,hc,hd,hs,hz,r⟩
 ·obtain⟨z,its,n,r,e⟩:=h.ok I.hok;exact⟨its,r,⟨_,n,e,rfl,rfl,rfl⟩,z⟩
 ·refine⟨its.toList,r,⟨o,n,I.kIn a o hk,hc,hd,by simpa using hs⟩,?_⟩
  have e:=r.length;simp only[Array.length_toList]at e;omega
theorem Inv.tuple(I:Inv X pins σ H s)(h:ke X.K H a xs):∃ its:List MS,Vals xs its/\IsTup s.heap a its.toArray/\xs.length<=M1:=by
 rcases h with h|⟨o,its,n,hk,hc,hs,hz,r⟩
 ·obtain⟨z,its,r,p⟩:=h.ok I.hok;exact⟨its,r,p.tup,z⟩
 ·refine⟨its.toList,r,⟨o,I.kIn a o hk,hc.1,n,by simpa using hs⟩,?_⟩
  have e:=r.length;simp only[Array.length_toList]at e;omega
theorem Inv.list_inj(I:Inv X pins σ H s)(h:kg X.K H a xs)(h':kg X.K H a ys):xs=ys:=by
 obtain⟨its,r,⟨o,n,e,_,_,d⟩,_⟩:=I.list h;obtain⟨its',r',⟨o',n',e',_,_,d'⟩,_⟩:=I.list h';rw[e]at e';cases e';rw[d]at d';injection d' with d1 _
 have:its=its':=by simpa using congrArg Array.toList d1
 subst this;exact r.inj r'
theorem Inv.tuple_inj(I:Inv X pins σ H s)(h:ke X.K H a xs)(h':ke X.K H a ys):xs=ys:=by
 obtain⟨its,r,⟨o,e,_,n,d⟩,_⟩:=I.tuple h;obtain⟨its',r',⟨o',e',_,n',d'⟩,_⟩:=I.tuple h';rw[e]at e';cases e';rw[d]at d';injection d' with d1 _
 have:its=its':=by simpa using congrArg Array.toList d1
 subst this;exact r.inj r'
end
abbrev Cx.wish(X:Cx)(E:MS->MU->Prop):Cx:={ X with xe:=E }
abbrev Cx.nox(X:Cx):Cx:=X.wish fun _ _=>False
theorem Cx.Ok.wish{X:Cx}(ok:X.Ok)(E:MS->MU->Prop):(X.wish E).Ok:=
 ⟨ok.mod,ok.kind,ok.glob,ok.blt,ok.above,ok.inj,ok.has,ok.cab,ok.hd,ok.frames,ok.stk,ok.exf,ok.bs,ok.bsz,ok.noex,ok.exfs,ok.funs,ok.frf⟩
theorem Cx.Ok.unwish{X:Cx}{E:MS->MU->Prop}(ok:(X.wish E).Ok):X.Ok:=
 ⟨ok.mod,ok.kind,ok.glob,ok.blt,ok.above,ok.inj,ok.has,ok.cab,ok.hd,ok.frames,ok.stk,ok.exf,ok.bs,ok.bsz,ok.noex,ok.exfs,ok.funs,ok.frf⟩
section
variable{X:Cx}{pins:List (MT×Obj)}{σ:St}{H:Hp}{s:MU}{E:MS->MU->Prop}
theorem Inv.wish(I:Inv X pins σ H s)(E:MS->MU->Prop):Inv (X.wish E) pins σ H s:=⟨I.ok.wish E,I.os,I.bare,I.base,I.loc,I.cell,I.free,I.freeC,I.pin,I.hok,I.len⟩
theorem Inv.unwish(I:Inv (X.wish E) pins σ H s):Inv X pins σ H s:=⟨I.ok.unwish,I.os,I.bare,I.base,I.loc,I.cell,I.free,I.freeC,I.pin,I.hok,I.len⟩
theorem SP.unwish(h:SP (X.wish E) pins D f s'):SP X pins D f s':=by
 cases f with
 | next=>obtain⟨σ',H',I,q⟩:=h;exact⟨σ',H',I.unwish,q⟩
 | brk=>obtain⟨σ',H',I,q⟩:=h;exact⟨σ',H',I.unwish,q⟩
 | cont=>obtain⟨σ',H',I,q⟩:=h;exact⟨σ',H',I.unwish,q⟩
 | ret u=>obtain⟨v,σ',H',I,r,q⟩:=h;exact⟨v,σ',H',I.unwish,r,q⟩
theorem iJ.nox{st:List No}{t:TS}(h:iJ X.nox st t):iJ X st t:=fun pins s σ H D I hw=>
 Nn (h pins s σ H D (I.wish _) hw) (fun _ _ q=>q.unwish) fun _ _ z=>False.elim z
end
section
variable{X:Cx}{st:No}{c8:List No}{t u:TS}{e:Nh}{te:TE}{pos:Pos}
def J3:TS:=fun D σ H=>D.nx σ H
def LC(t u:TS):TS:=fun D σ H=>t { D with nx:=u D } σ H
theorem Ga:iJ X [] J3:=fun _ _ σ H _ I h=>Ow ⟨σ,H,I,h⟩
theorem ze(h1:PS X st t)(h2:iJ X c8 u):iJ X (st::c8) (LC t u):=by
 intro pins s σ H D I h;refine PR (bZ (h1 pins s σ H { D with nx:=u D } I h) fun f s1 q=>?_)
 cases f with
 | next=>
  obtain⟨σ',H',I',q⟩:=q;exact h2 pins s1 σ' H' D I' q
 | ret v=>exact q
 | brk=>exact q
 | cont=>exact q
theorem sh(h1:PS X st t):iJ X [st] t:=by
 intro pins s σ H D I h;refine PR (bZ (h1 pins s σ H D I h) fun f s1 q=>?_);cases f with
 | next=>exact Ow q
 | ret v=>exact q
 | brk=>exact q
 | cont=>exact q
theorem Inv.quiet{pins:List (MT×Obj)}{σ:St}{H:Hp}{s:MU}(I:Inv X pins σ H s):interactive X.env=false:=by simp[interactive,I.ok.kind]
def J4(te:TE):TS:=fun D σ H=>te σ H fun _ H1=>D.nx σ H1
theorem BF(he:PE X e te)(hs:Ob e none pos.line X.env=pure false:=by rfl):PS X (.Expr e pos) (J4 te):=by
 intro pins s σ H D I h;exact wpAny_Expr_any (bZ (he pins s σ H _ I h) fun v s1 ⟨x,H1,I1,r1,q1⟩=>⟨σ,H1,I1,q1⟩) I.quiet hs
def LD(te:TE):TS:=fun D σ H=>te σ H D.rt
theorem El(he:PE X e te):PS X (.Return (some e) pos) (LD te):=by
 intro pins s σ H D I h;exact wpAny_Return_some (bZ (he pins s σ H _ I h) fun v s1 ⟨x,H1,I1,r1,q1⟩=>⟨x,σ,H1,I1,r1,q1⟩)
def LH(c:TT)(t u:TS):TS:=fun D σ H=>c σ H fun b H1=>if b=true then t D σ H1 else u D σ H1
theorem Eo(hc:PT X c tc)(ha:iJ X a t)(hb:iJ X b u):PS X (.If c a b pos) (LH tc t u):=by
 intro pins s σ H D I h;refine wpAny_If (bZ (hc pins s σ H _ I h) fun d s1 zz=>?_);obtain⟨H1,I1,q1⟩:=zz;cases d with
 | true=>exact ha pins s1 σ H1 D I1 q1
 | false=>exact hb pins s1 σ H1 D I1 q1
def DL:TS:=fun _ _ _=>False
theorem En:PS X st DL:=fun _ _ _ _ _ _ h=>h.elim
theorem Cu:iJ X sts DL:=fun _ _ _ _ _ _ h=>h.elim
end
abbrev TG:=V->St->Hp->(St->Hp->Prop)->Prop
abbrev Hl:=List V->St->Hp->(St->Hp->Prop)->Prop
def PG(X:Cx)(target:Nh)(t:TG):Prop:=
 ∀ (pins:List (MT×Obj)) (s:MU) (σ:St) (H:Hp) (v:V) (u:MS) (Q:St->Hp->Prop),Inv X pins σ H s->aH v u->t v σ H Q->
  MZ (M0 X.prog X.w) X.A (assign target X.env u) (fun _ s'=>∃ σ' H',Inv X pins σ' H' s'/\Q σ' H') X.xe s
def Fz(X:Cx)(ts:List Nh)(t:Hl):Prop:=
 ∀ (pins:List (MT×Obj)) (s:MU) (σ:St) (H:Hp) (vs:List V) (us:List MS) (Q:St->Hp->Prop),Inv X pins σ H s->Vals vs us->t vs σ H Q->
  MZ (M0 X.prog X.w) X.A (assignInOrder ((OM ts X.env).map (·.2)) us) (fun _ s'=>∃ σ' H',Inv X pins σ' H' s'/\Q σ' H') X.xe s
abbrev Hk:=V->V->V->Hp->(Hp->Prop)->Prop
def JJ(X:Cx)(t:Hk):Prop:=
 ∀ (pins:List (MT×Obj)) (s:MU) (σ:St) (H:Hp) (o i v:V) (ov iv u:MS) (Q:Hp->Prop),Inv X pins σ H s->aH o ov->aH i iv->aH v u->t o i v H Q->
  MZ (M0 X.prog X.w) X.A (Sh ov iv u) (fun _ s'=>∃ H',Inv X pins σ H' s'/\Q H') X.xe s
section
variable{X:Cx}{pos:Pos}
def zL(i:Nat):TG:=fun v σ H Q=>Q (σ.set i (some v)) H
theorem Gh(hN:X.N.Nodup)(hi:X.N[i]?=some x)(hx:JK X.env.scope x)(hf:X.fn x=true\/X.env.scope.names.lookup x=some .local:=by first|exact .inl rfl|exact .inr rfl|assumption):PG X (.Name x pos) (zL i):=by
 intro pins s σ H v u Q I r h;exact Sg (nT I hN hi hx r (fun s' I'=>⟨_,H,I',h⟩) hf)
def L8:Hl:=fun vs σ H Q=>vs=[]/\Q σ H
def KD(t:TG)(u:Hl):Hl:=fun vs σ H Q=>∃ v r,vs=v::r/\t v σ H fun σ' H'=>u r σ' H' Q
theorem Gg:Fz X [] L8:=by
 intro pins s σ H vs us Q I r h;obtain⟨e,h⟩:=h;subst e;cases r;exact assignInOrder_nil ⟨σ,H,I,h⟩
theorem Et(h1:PG X e t)(h2:Fz X es u)(hs:(OM (e::es) X.env).map (·.2)=assign e X.env::(OM es X.env).map (·.2):=by rfl):Fz X (e::es) (KD t u):=by
 intro pins s σ H vs us Q I r h;obtain⟨v,vr,e1,h⟩:=h;subst e1;cases r with
 | cons r rr=>
  rw[hs];refine assignInOrder_cons (bZ (h1 pins s σ H _ _ _ I r h) fun _ s1 zz=>?_);obtain⟨σ1,H1,I1,q1⟩:=zz;exact h2 pins s1 σ1 H1 _ _ Q I1 rr q1
def L6(K:Po)(n:Nat)(t:Hl):TG:=fun v σ H Q=>∃ a xs,v=.ref a/\ke K H a xs/\xs.length=n/\t xs σ H Q
theorem IB{es:List Nh}{k:Nat}{t:Hl}{n:Nat}(hc:X.calm=true)(h:Fz X es t)
  (hn:(OM es X.env).length=n:=by rfl) (hst:(OM es X.env).findIdx? (·.1)=none:=by rfl):PG X (.Tuple es k pos) (L6 X.K n t):=by
 intro pins s σ H v u Q I r hw;obtain⟨a,xs,e1,hq,hl,hw⟩:=hw;subst e1;cases r;obtain⟨its,rv,ht,hz⟩:=I.tuple hq;refine assign_Tuple_tuple (I.ok.hd hc) ht (by simp[hn,<- hl,rv.length]) hst fun h' hx=>?_
 have I1:Inv X pins σ H { s with heap:=h' }:=I.kept (t':=s.toks) fun b o e=>hx b o (Np (M4 e)) e
 exact h pins _ σ H xs _ Q I1 (by simpa using rv) hw
def L7(to ti:TE)(t:Hk):TG:=fun v σ H Q=>to σ H fun o H1=>ti σ H1 fun i H2=>t o i v H2 fun H3=>Q σ H3
theorem IC(ho:PE X o to)(hi:PE X i ti)(hs:JJ X t)(ha:∀ v,assign (.Subscript o i pos) X.env v=(do
   let ov <- holding [v] (eval o X.env)
   let iv <- holding [v,ov] (eval i X.env)
   O2 pos
   holding [v,ov,iv] (Sh ov iv v)
   release [v,ov,iv] []):=by intro _;rfl):PG X (.Subscript o i pos) (L7 to ti t):=by
 intro pins s σ H v u Q I r h;rw[ha];refine MR (Nz (bZ (ho pins s σ H _ I h) fun ov s1 zz=>?_));obtain⟨x,H1,I1,r1,q1⟩:=zz;refine MR (Nz (bZ (hi pins s1 σ H1 _ I1 q1) fun iv s2 zz=>?_));obtain⟨y,H2,I2,r2,q2⟩:=zz;refine MR (Pj (MR (Nz (bZ (hs pins s2 σ H2 x y v ov iv u _ I2 r1 r2 r q2) fun _ s3 zz=>?_))));obtain⟨H3,I3,q3⟩:=zz;exact wpAny_release ⟨σ,H3,I3,q3⟩
def Il(te:TE)(g:TG):TS:=fun D σ H=>te σ H fun x H1=>g x σ H1 D.nx
theorem IA(he:PE X e te)(hg:PG X tg g)(hs:swapsWithSole [tg] e pos.line X.env=pure false:=by rfl)(hw:swappedStores [tg] e X.env=pure none:=by rfl)(h1:(OM [tg] X.env).map (·.2)=[assign tg X.env]:=by rfl):PS X (.Assign [tg] e pos) (Il te g):=by
 intro pins s σ H D I h;refine wpAny_Assign_stores (bZ (he pins s σ H _ I h) fun v s1 zz=>?_) hs hw;obtain⟨x,H1,I1,r1,q1⟩:=zz;rw[h1];exact bZ (hg pins s1 σ H1 x v _ I1 r1 q1) fun _ s2 q=>q
theorem AG(hN:X.N.Nodup)(hi:X.N[i]?=some x)(hx:JK X.env.scope x)(he:PE X e te)(hs:Ob e (some (.Name x pos')) pos.line X.env=pure false:=by rfl)(hf:X.fn x=true\/X.env.scope.names.lookup x=some .local:=by first|exact .inl rfl|exact .inr rfl|assumption):
  PS X (.Assign [.Name x pos'] e pos) (Il te (zL i)):=by
 intro pins s σ H D I h;refine wpAny_Assign_Name (bZ (he pins s σ H _ I h) fun v s1 zz=>?_) hs;obtain⟨y,H1,I1,r1,q1⟩:=zz;exact nT I1 hN hi hx r1 (fun s2 I2=>⟨_,H1,I2,q1⟩) hf
def Ii(c:TT)(tb:TS):TS:=fun D σ H=>∃ W:Nat->St->Hp->Prop,(∃ m,W m σ H)/\∀ m σ H,W m σ H->
 c σ H fun b H1=>if b=true then ∃ N:St->Hp->Prop,(∀ σ' H',N σ' H'->∃ m',m' < m/\W m' σ' H')/\tb { D with nx:=N,ct:=N,bk:=D.nx } σ H1 else D.nx σ H1
theorem Ek(hp:Qo (M0 X.prog X.w) X.A X.env X.xe)(hc:PT X c tc)(hb:iJ X body tb):PS X (.While c body [] pos) (Ii tc tb):=by
 intro pins s σ H D I h;obtain⟨W,⟨m0,w0⟩,turn⟩:=h;refine wpAny_While (codeAny_whileLoop (fun n s'=>∃ σ' H',Inv X pins σ' H' s'/\W n σ' H') ?_ m0 ⟨σ,H,I,w0⟩)
 rintro n s1 ⟨σ1,H1,I1,w1⟩
 refine NU hp (bZ (hc pins s1 σ1 H1 _ I1 (turn n σ1 H1 w1)) fun b s2 zz=>?_);obtain⟨H2,I2,q2⟩:=zz;cases b with
 | true=>
  obtain⟨N,hN,q2⟩:=q2;rw[if_pos rfl];refine NU hp (bZ (hb pins s2 σ1 H2 _ I2 q2) fun f s3 q3=>?_);cases f with
  | next=>
   obtain⟨σ3,H3,I3,n3⟩:=q3;obtain⟨m',hm,w3⟩:=hN σ3 H3 n3;exact⟨m',hm,σ3,H3,I3,w3⟩
  | cont=>
   obtain⟨σ3,H3,I3,n3⟩:=q3;obtain⟨m',hm,w3⟩:=hN σ3 H3 n3;exact⟨m',hm,σ3,H3,I3,w3⟩
  | brk=>exact q3
  | ret v=>exact q3
 | false=>
  rw[if_neg Bool.false_ne_true];exact Ow ⟨σ1,H2,I2,q2⟩
end
set_option genInjectivity false in
structure It where
 go:Nat->Hp->Prop
 yld:Nat->Hp->V->Hp->Prop
 stop:Nat->Hp->Prop
def pE(X:Cx)(pins:List (MT×Obj))(H:Hp)(b:MT):Prop:=
 H b=none/\b≠X.env.locals/\b∉X.fs/\(b∈X.ex\/X.s₀.heap.objs.size<=b)/\(∀ x c,X.env.cells.lookup x=some c->c≠b)/\∀ p∈X.pn ++ pins,p.1≠b
theorem Inv.fpOk{X:Cx}{pins:List (MT×Obj)}{σ:St}{H H':Hp}{s:MU}{b:MT}(I:Inv X pins σ H s)(hb:s.heap.objs.size<=b)(hn:H' b=none):pE X pins H' b:=by
 refine⟨hn,Ps (Nl I.lt hb),I.nofs hb,.inr (le_trans I.sz hb),fun x c e z=>?_,fun p hp z=>?_⟩
 ·obtain⟨v,q⟩:=I.cell x c e;exact absurd (Nl q.lt (by rw[z];exact hb)) (Nat.lt_irrefl _)
 ·exact absurd (Nl (M4 (I.pin p hp).1) (by rw[z];exact hb)) (Nat.lt_irrefl _)
structure Turn(P:M9)(w:Ng)(K:Po)(tg:Nh)(J:It)(fp:List MT)(it:MT)(tn:Nat->Nf->Prop):Prop where
 mem:it∈fp
 obj:∀ i h,tn i h->∀ b∈fp,∃ o,h.get? b=some o/\∀ v,o.data≠.cell v
 keep:∀ i h h',tn i h->(∀ b∈fp,∀ o,h.get? b=some o->h'.get? b=some o)->tn i h'
 item:∀ (X:Cx),X.prog=P->X.w=w->X.K=K->X.calm=true->∀ (i:Nat) (pins:List (MT×Obj)) (s:MU) (σ:St) (H:Hp) (E:MS->MU->Prop),Inv X pins σ H s->(∀ b∈fp,pE X pins H b)->tn i s.heap->J.go i H->
  MZ (M0 P w) X.A (OK (.ref it)) (fun r s1=>∃ u,r=some u/\
   MZ (M0 P w) X.A (O4 tg (.ref it) u) (fun _ s2=>∃ x H',Inv X pins σ H' s2/\aH x u/\J.yld i H x H'/\tn (i+1) s2.heap/\∀ b∈fp,H' b=none) E s1) E s
 done:∀ (X:Cx),X.prog=P->X.w=w->X.K=K->X.calm=true->∀ (i:Nat) (pins:List (MT×Obj)) (s:MU) (σ:St) (H:Hp) (E:MS->MU->Prop),Inv X pins σ H s->(∀ b∈fp,pE X pins H b)->tn i s.heap->J.stop i H->
  MZ (M0 P w) X.A (OK (.ref it)) (fun r s1=>r=none/\Inv X pins σ H s1) E s
 self:∀ (A:Nb) (i:Nat) (s:MU) (Q:MS->MU->Prop) (E:MS->MU->Prop),tn i s.heap->Q (.ref it) s->MZ (M0 P w) A (Pr (.ref it)) Q E s
abbrev TI:=St->Hp->(It->Hp->Prop)->Prop
def HU(X:Cx)(pins:List (MT×Obj))(σ:St)(tg:Nh)(R:It->Hp->Prop)(itv:MS)(s2:MU):Prop:=
 ∃ (it:MT) (fp:List MT) (tn:Nat->Nf->Prop) (J:It) (H':Hp),itv=.ref it/\Inv X pins σ H' s2/\Turn X.prog X.w X.K tg J fp it tn/\tn 0 s2.heap/\(∀ b∈fp,pE X pins H' b)/\R J H'
def PI(X:Cx)(tg iter:Nh)(wi:TI):Prop:=
 ∀ (pins:List (MT×Obj)) (s:MU) (σ:St) (H:Hp) (R:It->Hp->Prop),Inv X pins σ H s->wi σ H R->
  MZ (M0 X.prog X.w) X.A (eval iter X.env) (fun v s1=>MZ (M0 X.prog X.w) X.A (Pr v) (HU X pins σ tg R) X.xe s1) X.xe s
theorem wg(ho:s.heap.get? it=some o)(hc:o.cls=.type n)(hd:o.data=.fields vs)(hn:["enumerate","zip","dict_itemiterator","dict_reverseitemiterator","odict_iterator","itertools.zip_longest","itertools.pairwise"].contains n=false)(hQ:Q () s):MZ M A (O4 tg (.ref it) u) Q E s:=by
 unfold O4;cases tg<;>first
  | exact MV hQ
  | (cases u<;>first
    | exact MV hQ
    | (refine MR (wpAny_load ho ?_)
       rw[hc,hd];show MZ M A (if (["enumerate","zip","dict_itemiterator","dict_reverseitemiterator","odict_iterator","itertools.zip_longest","itertools.pairwise"].contains n && vs[0]? == some (Ov _))=true then _ else _) Q E s
       rw[if_neg (by intro h;rw[hn,Bool.false_and]at h;cases h)]
       exact MV hQ))
def Lg(K:Po)(a:MT):It:=
 ⟨fun i H=>∃ xs x,kg K H a xs/\xs[i]?=some x,fun i H x H'=>H'=H/\∀ xs,kg K H a xs->xs[i]?=some x,fun i H=>∃ xs,kg K H a xs/\xs.length<=i⟩
def Mi(K:Po)(a:MT):It:=
 ⟨fun i H=>∃ xs x,ke K H a xs/\xs[i]?=some x,fun i H x H'=>H'=H/\∀ xs,ke K H a xs->xs[i]?=some x,fun i H=>∃ xs,ke K H a xs/\xs.length<=i⟩
def Lf(lo:Int)(n:Nat):It:=⟨fun i _=>i < n,fun i H x H'=>H'=H/\x=.int (lo+i),fun i _=>n<=i⟩
theorem Cg{P:M9}{w:Ng}{K:Po}{tg:Nh}(a it:MT):Turn P w K tg (Lg K a) [it] it (fun i h=>h.IsListIter it a i) where
 mem:=by simp
 obj:=fun i h st b hb=>by
  have e:b=it:=by simpa using hb
  subst e;obtain⟨o,e,c,d⟩:=st;exact⟨o,e,fun v z=>by rw[d]at z;cases z⟩
 keep:=fun i h h' st k=>st.at fun o e=>k it (by simp) o e
 item:=by
  intro X hP hw hK hc i pins s σ H E I hf st hg;subst hP hw hK;obtain⟨xs,x,hq,hx⟩:=hg;obtain⟨its,rv,p,hz⟩:=I.list hq;obtain⟨u,hu,ru⟩:=rv.get hx;obtain⟨f0,f1,f2,f3,f4,f5⟩:=hf it (by simp)
  refine Rk st p.isList (x:=u) (by simpa using hu) fun h' st' sb=>?_
  have I1:Inv X pins σ H { s with heap:=h' }:=I.turned (t':=s.toks) (fun b o hb e=>(sb.2 b hb).trans e) f0 f1 f3 f4 f5
  obtain⟨o,e,c,d⟩:=id st';exact⟨u,rfl,wg (s:={ s with heap:=h' }) e c d (by decide) ⟨x,H,I1,ru,⟨rfl,fun ys hy=>by rw[I.list_inj hy hq];exact hx⟩,st',fun b hb=>(hf b hb).1⟩⟩
 done:=by
  intro X hP hw hK hc i pins s σ H E I hf st hg;subst hP hw hK;obtain⟨xs,hq,hx⟩:=hg;obtain⟨its,rv,p,hz⟩:=I.list hq;obtain⟨f0,f1,f2,f3,f4,f5⟩:=hf it (by simp)
  have hl:=rv.length;exact Rx (I.ok.hd hc) st p.isList (by simp;omega) fun h' eb=>⟨rfl,I.turned (t':=s.toks) (fun b o hb e=>eb b o hb e) f0 f1 f3 f4 f5⟩
 self:=fun _ _ _ _ _ st h=>wpAny_pyIter_listiter st h
theorem Ao{P:M9}{w:Ng}{K:Po}{tg:Nh}(a it:MT):Turn P w K tg (Mi K a) [it] it (fun i h=>h.IsTupleIter it a i) where
 mem:=by simp
 obj:=fun i h st b hb=>by
  have e:b=it:=by simpa using hb
  subst e;obtain⟨o,e,c,d⟩:=st;exact⟨o,e,fun v z=>by rw[d]at z;cases z⟩
 keep:=fun i h h' st k=>st.at fun o e=>k it (by simp) o e
 item:=by
  intro X hP hw hK hc i pins s σ H E I hf st hg;subst hP hw hK;obtain⟨xs,x,hq,hx⟩:=hg;obtain⟨its,rv,p,hz⟩:=I.tuple hq;obtain⟨u,hu,ru⟩:=rv.get hx;obtain⟨f0,f1,f2,f3,f4,f5⟩:=hf it (by simp)
  refine wpAny_pyNext_tuple_item st (show s.heap.IsTuple a its.toArray from p) (x:=u) (by simpa using hu) fun h' st' sb=>?_
  have I1:Inv X pins σ H { s with heap:=h' }:=I.turned (t':=s.toks) (fun b o hb e=>(sb.2 b hb).trans e) f0 f1 f3 f4 f5
  obtain⟨o,e,c,d⟩:=id st';exact⟨u,rfl,wg (s:={ s with heap:=h' }) e c d (by decide) ⟨x,H,I1,ru,⟨rfl,fun ys hy=>by rw[I.tuple_inj hy hq];exact hx⟩,st',fun b hb=>(hf b hb).1⟩⟩
 done:=by
  intro X hP hw hK hc i pins s σ H E I hf st hg;subst hP hw hK;obtain⟨xs,hq,hx⟩:=hg;obtain⟨its,rv,p,hz⟩:=I.tuple hq;obtain⟨f0,f1,f2,f3,f4,f5⟩:=hf it (by simp)
  have hl:=rv.length;exact wpAny_pyNext_tuple_end (I.ok.hd hc) st (show s.heap.IsTuple a its.toArray from p) (by simp;omega) fun h' eb=>⟨rfl,I.turned (t':=s.toks) (fun b o hb e=>eb b o hb e) f0 f1 f3 f4 f5⟩
 self:=fun _ _ _ _ _ st h=>wpAny_pyIter_tupleiter st h
theorem Ap{P:M9}{w:Ng}{K:Po}{tg:Nh}(it:MT)(lo:Int)(n:Nat):Turn P w K tg (Lf lo n) [it] it (fun i h=>IsRangeIter h it (lo+(i:Nat)*1) ((n:Int) - (i:Nat)) 1) where
 mem:=by simp
 obj:=fun i h st b hb=>by
  have e:b=it:=by simpa using hb
  subst e;exact⟨_,st,fun v z=>by
   have z':Data.fields _=Data.cell v:=z;cases z'⟩
 keep:=fun i h h' st k=>k it (by simp) _ st
 item:=by
  intro X hP hw hK hc i pins s σ H E I hf st hg;subst hP hw hK;obtain⟨f0,f1,f2,f3,f4,f5⟩:=hf it (by simp)
  have W:=Walks.range (prog:=X.prog) (w:=X.w) (I.ok.hd hc) it lo 1 n;refine W.item i s _ _ hg st fun v h' tk hv st' kk=>?_;obtain⟨t,rfl⟩:=hv;have I1:Inv X pins σ H { s with heap:=h',toks:=tk }:=I.turned (fun b o hb e=>kk b o (by simpa using hb) e) f0 f1 f3 f4 f5
  refine⟨_,rfl,wg (s:={ s with heap:=h',toks:=tk }) (n:="range_iterator") st' rfl rfl (by decide) ⟨.int (lo+i),H,I1,⟨t,?_⟩,⟨rfl,rfl⟩,st',fun b hb=>(hf b hb).1⟩⟩
  rw[Int.mul_one]
 done:=by
  intro X hP hw hK hc i pins s σ H E I hf st hg;subst hP hw hK;obtain⟨f0,f1,f2,f3,f4,f5⟩:=hf it (by simp)
  exact wpAny_pyNext_range_end (I.ok.hd hc) st (by have:n<=i:=hg;omega) fun h' eb=>⟨rfl,I.turned (t':=s.toks) (fun b o hb e=>eb b o hb e) f0 f1 f3 f4 f5⟩
 self:=fun _ _ _ _ _ st h=>wpAny_pyIter_rangeiter st h
section
variable{X:Cx}{tg:Nh}
theorem y_{pins:List (MT×Obj)}{σ:St}{H:Hp}{s:MU}{R:It->Hp->Prop}{E:MS->MU->Prop}{lo hi:Int}{t u v:Tok}{tk:Nat}(I:Inv X pins σ H s)(h1:-(2 ^ 62)<=lo)(h2:lo < 2 ^ 62)(h3:-(2 ^ 62)<=hi)(h4:hi < 2 ^ 62)
  (q:R (Lf lo (hi - lo).toNat) H):MZ (M0 X.prog X.w) X.A (Pr (.ref s.heap.objs.size)) (HU X pins σ tg R) E { s with heap:=s.heap.push { cls:=.type "range",data:=.fields #[.int lo t,.int hi u,.int 1 v] },toks:=tk }:=by
 refine wpAny_pyIter_range (IsRange.new ..) (small_one h1 h2 h3 h4) ?_;have I1:Inv X pins σ H { s with heap:=s.heap.push { cls:=.type "range",data:=.fields #[.int lo t,.int hi u,.int 1 v] },toks:=tk }:=I.kept fun b o e=>MX _ e
 refine⟨(s.heap.push { cls:=.type "range",data:=.fields #[.int lo t,.int hi u,.int 1 v] }).objs.size,[(s.heap.push { cls:=.type "range",data:=.fields #[.int lo t,.int hi u,.int 1 v] }).objs.size],_,_,H,rfl,
  I1.kept (t':=tk) fun b o e=>MX _ e,Ap _ lo (hi - lo).toNat,?_,fun b hb=>?_,q⟩
 ·have e1:lo+((0:Nat):Int)*1=lo:=by simp
  have e2:(((hi - lo).toNat:Nat):Int) - ((0:Nat):Int)=Builtin.Range.rangeSize lo hi 1:=by rw[rangeSize_one];split<;>omega
  show IsRangeIter _ _ (lo+((0:Nat):Int)*1) ((((hi - lo).toNat:Nat):Int) - ((0:Nat):Int)) 1
  rw[e1,e2];exact M3 _ rfl
 ·have e:b=(s.heap.push { cls:=.type "range",data:=.fields #[.int lo t,.int hi u,.int 1 v] }).objs.size:=by simpa using hb
  subst e;exact I1.fpOk (le_refl _) (I1.hok.fresh (le_refl _))
def KB(ta:TA):TI:=fun σ H R=>ta σ H fun vs H1=>∃ j:Int,vs=[.int j]/\-(2 ^ 62)<=j/\j < 2 ^ 62/\R (Lf 0 j.toNat) H1
def KA(ta:TA):TI:=fun σ H R=>ta σ H fun vs H1=>∃ i j:Int,vs=[.int i,.int j]/\(-(2 ^ 62)<=i/\i < 2 ^ 62/\-(2 ^ 62)<=j/\j < 2 ^ 62)/\R (Lf i (j - i).toNat) H1
theorem Cy(hg:Gl X "range")(hm:X.mg "range"=none)(ha:PA X [a] ta)(hs:M5 [a] X.env=[(false,eval a X.env)]:=by rfl):PI X tg (.Call (.Name "range" p) [a] [] pos) (KB ta):=by
 intro pins s σ H R I h;refine Rh (gB I hg hm boot_range (PyProof.Rows.callWith_type1 (bZ (ha pos pins s σ H _ I h) fun us s1 ⟨vs,H1,I1,r1,q1⟩=>?_) hs rfl));obtain⟨j,e,q1,q2,q⟩:=q1;subst e;cases r1 with
 | cons r rr=>
  cases rr;obtain⟨t,rfl⟩:=r;exact call_range_1 (y_ I1 (by walk_at "o") (by walk_at "o") q1 q2 (by simpa using q))
theorem Cw{a b:Nh}{ta:TA}{p pos:Pos}(hg:Gl X "range")(hm:X.mg "range"=none)(ha:PA X [a,b] ta)(hs:M5 [a,b] X.env=[(false,eval a X.env),(false,eval b X.env)]:=by rfl)(hs2:M5 [b] X.env=[(false,eval b X.env)]:=by rfl):
  PI X tg (.Call (.Name "range" p) [a,b] [] pos) (KA ta):=by
 intro pins s σ H R I h;refine Rh (gB I hg hm boot_range (PyProof.Rows.callWith_type1 (bZ (ha pos pins s σ H _ I h) fun us s1 ⟨vs,H1,I1,r1,q1⟩=>?_) (by rw[hs,hs2]) (by rw[hs2];rfl)))
 obtain⟨i,j,e,⟨q1,q2,q3,q4⟩,q⟩:=q1;subst e;cases r1 with
 | cons r rr=>
  cases rr with
  | cons r' rr=>
   cases rr;obtain⟨t,rfl⟩:=r;obtain⟨t',rfl⟩:=r';exact call_range_2 (y_ I1 q1 q2 q3 q4 q)
def LI(wi:TI)(g:TG)(tb:TS):TS:=fun D σ H=>wi σ H fun J H1=>∃ W:Nat->Nat->St->Hp->Prop,(∃ m,W 0 m σ H1)/\∀ i m σ H,W i m σ H->
 (J.stop i H/\D.nx σ H)\/(J.go i H/\∃ N:St->Hp->Prop,(∀ σ' H',N σ' H'->∃ m',m' < m/\W (i+1) m' σ' H')/\∀ x H',J.yld i H x H'->g x σ H' fun σ2 H2=>tb { D with nx:=N,ct:=N,bk:=D.nx } σ2 H2)
def qf(fp:List MT)(h:Nf):List (MT×Obj):=fp.filterMap fun b=>(h.get? b).map fun o=>(b,o)
theorem ie(hb:b∈fp)(e:h.get? b=some o):(b,o)∈qf fp h:=List.mem_filterMap.mpr ⟨b,hb,by rw[e];rfl⟩
theorem CG(hp:p∈qf fp h):p.1∈fp/\h.get? p.1=some p.2:=by
 obtain⟨b,hb,e⟩:=List.mem_filterMap.mp hp;cases q:h.get? b with
 | none=>rw[q]at e;cases e
 | some o=>
  rw[q]at e;have e':(b,o)=p:=Option.some.inj e;subst e';exact⟨hb,q⟩
theorem Inv.pinned{pins:List (MT×Obj)}{σ:St}{H:Hp}{s:MU}{fp:List MT}(I:Inv X pins σ H s)(hf:∀ b∈fp,pE X pins H b)(ho:∀ b∈fp,∃ o,s.heap.get? b=some o/\∀ v,o.data≠.cell v):Inv X (pins ++ qf fp s.heap) σ H s:=
 I.pins_of fun p hp=>(R6.mp hp).elim (fun z=>I.pin p (ND _ z)) fun z=>by
  obtain⟨hb,e⟩:=CG z;obtain⟨f0,f1,f2,_⟩:=hf p.1 hb;obtain⟨o,e',d⟩:=ho p.1 hb;rw[e]at e';cases e';exact⟨e,f0,f1,f2,d⟩
theorem Inv.unpinned{pins pl:List (MT×Obj)}{σ:St}{H:Hp}{s:MU}(I:Inv X (pins ++ pl) σ H s):Inv X pins σ H s:=I.pins_of fun p hp=>I.pin p (ND _ (List.mem_append_left _ hp))
theorem Ep(hp:Qo (M0 X.prog X.w) X.A X.env X.xe)(hc:X.calm=true)(hi:PI X tg iter wi)(hg:PG X tg g)(hb:iJ X body tb)(hs:∀ x,NM iter X.env x=pure x:=by intro _;rfl):PS X (.For tg iter body [] pos) (LI wi g tb):=by
 intro pins s σ H D I h;refine wpAny_For (bZ (hi pins s σ H _ I h) fun v s1 h1=>bZ h1 fun itv s2 h2=>?_) hs;obtain⟨it,fp,tn,J,H2,e,I2,T,st2,f2,W,⟨m0,w0⟩,turn⟩:=h2;subst e;have T0:∀ {H':Hp},(∀ b∈fp,H' b=none)->∀ b∈fp,pE X pins H' b:=fun hn b hb=>⟨hn b hb,(f2 b hb).2⟩;refine RU (fun n s'=>∃ i σ' H',Inv X pins σ' H' s'/\tn i s'.heap/\(∀ b∈fp,H' b=none)/\W i n σ' H') ?_ m0 ⟨0,σ,H2,I2,st2,fun b hb=>(f2 b hb).1,w0⟩
 rintro n s3 ⟨i,σ3,H3,I3,st3,fr3,w3⟩
 rcases turn i n σ3 H3 w3 with ⟨stop,qn⟩|⟨go,N,hN,step⟩
 ·refine NU hp (bZ (T.done X rfl rfl rfl hc i pins s3 σ3 H3 X.xe I3 (T0 fr3) st3 stop) fun r s4 zz=>?_);obtain⟨hr,I4⟩:=zz;subst hr;exact Ow ⟨σ3,H3,I4,qn⟩
 ·refine NU hp (bZ (T.item X rfl rfl rfl hc i pins s3 σ3 H3 X.xe I3 (T0 fr3) st3 go) fun r s4 zz=>?_);obtain⟨u,hr,h4⟩:=zz;subst hr;refine NU hp (bZ h4 fun _ s5 zz=>?_);obtain⟨x,H5,I5,r5,y5,st5,fr5⟩:=zz;have I5':=I5.pinned (T0 fr5) (T.obj _ _ st5);refine NU hp (bZ (hg _ s5 σ3 H5 x u _ I5' r5 (step x H5 y5)) fun _ s6 zz=>?_);obtain⟨σ6,H6,I6,q6⟩:=zz;refine NU hp (bZ (hb _ s6 σ6 H6 _ I6 q6) fun f s7 q7=>?_);have again:∀ {σ7:St} {H7:Hp},Inv X (pins ++ qf fp s5.heap) σ7 H7 s7->N σ7 H7->∃ m,m < n/\∃ i σ' H',Inv X pins σ' H' s7/\tn i s7.heap/\(∀ b∈fp,H' b=none)/\W i m σ' H':=fun {σ7 H7} I7 n7=>by
   obtain⟨m',hm,w7⟩:=hN σ7 H7 n7;refine⟨m',hm,i+1,σ7,H7,I7.unpinned,T.keep _ _ _ st5 fun b hb o e=>(I7.pin (b,o) (ND _ (ND _ (ie hb e)))).1,fun b hb=>?_,w7⟩;obtain⟨o,e,d⟩:=T.obj _ _ st5 b hb;exact (I7.pin (b,o) (ND _ (ND _ (ie hb e)))).2.1
  cases f with
  | next=>obtain⟨σ7,H7,I7,n7⟩:=q7;exact again I7 n7
  | cont=>obtain⟨σ7,H7,I7,n7⟩:=q7;exact again I7 n7
  | brk=>obtain⟨σ7,H7,I7,q7⟩:=q7;exact⟨σ7,H7,I7.unpinned,q7⟩
  | ret v=>obtain⟨x7,σ7,H7,I7,r7,q7⟩:=q7;exact⟨x7,σ7,H7,I7.unpinned,r7,q7⟩
end
abbrev R2:=V->V->Hp->VK->Prop
def gf(X:Cx)(f:MS->MS->Sem MS)(r:R2):Prop:=
 ∀ (pins:List (MT×Obj)) (s:MU) (σ:St) (H:Hp) (x y:V) (v u:MS) (Q:VK),Inv X pins σ H s->aH x v->aH y u->r x y H Q->
  MZ (M0 X.prog X.w) X.A (f v u) (EP X pins σ Q) X.xe s
def d9(X:Cx)(f:MS)(r:List V->Hp->VK->Prop):Prop:=
 ∀ (pins:List (MT×Obj)) (s:MU) (σ:St) (H:Hp) (xs:List V) (us:List MS) (Q:VK),Inv X pins σ H s->Vals xs us->r xs H Q->
  MZ (M0 X.prog X.w) X.A (call f us) (EP X pins σ Q) X.xe s
def Mg(X:Cx)(r:V->Hp->(Bool->Hp->Prop)->Prop):Prop:=
 ∀ (pins:List (MT×Obj)) (s:MU) (σ:St) (H:Hp) (x:V) (v:MS) (Q:Bool->Hp->Prop),Inv X pins σ H s->aH x v->r x H Q->
  MZ (M0 X.prog X.w) X.A (truthy v) (TP X pins σ Q) X.xe s
def JN(r:R2)(ta tb:TE):TE:=fun σ H Q=>ta σ H fun x H1=>tb σ H1 fun y H2=>r x y H2 Q
def rI(C:Int->Int->Prop)(g:Int->Int->V):R2:=fun x y H Q=>∃ i j,x=.int i/\y=.int j/\C i j/\Q (g i j) H
def HC(g:Int->Int->V):R2:=fun x y H Q=>∃ i j,x=.int i/\y=.int j/\Q (g i j) H
section
variable{X:Cx}{a b c:Nh}{ta tb tc:TE}{pos:Pos}
theorem JC(ha:PE X a ta)(hb:PE X b tb){pins:List (MT×Obj)}{s:MU}{σ:St}{H:Hp}{R:V->V->Hp->Prop}(I:Inv X pins σ H s)
  (h:ta σ H fun x H1=>tb σ H1 fun y H2=>R x y H2) {Q:MS->MU->Prop} {f:MS->MS->Sem MS}
  (hf:∀ v u s2 x y H2,Inv X pins σ H2 s2->aH x v->aH y u->R x y H2->MZ (M0 X.prog X.w) X.A (f v u) Q X.xe s2):
  MZ (M0 X.prog X.w) X.A (eval a X.env) (fun v s₁=>MZ (M0 X.prog X.w) X.A (eval b X.env) (fun u s₂=>MZ (M0 X.prog X.w) X.A (f v u) Q X.xe s₂) X.xe s₁) X.xe s:=by
 refine bZ (ha pins s σ H _ I h) fun v s1 zz=>?_;obtain⟨x,H1,I1,r1,q1⟩:=zz;refine bZ (hb pins s1 σ H1 _ I1 q1) fun u s2 zz=>?_;obtain⟨y,H2,I2,r2,q2⟩:=zz;exact hf v u s2 x y H2 I2 r1 r2 q2
theorem Kj(ho:gf X (Oh op) r)(ha:PE X a ta)(hb:PE X b tb):PE X (.BinOp a op b pos) (JN r ta tb):=by
 intro pins s σ H Q I h;exact wpAny_BinOp (JC ha hb I h fun v u s2 x y H2 I2 rx ry q=>ho pins s2 σ H2 x y v u Q I2 rx ry q)
theorem Ln{f:MS->MS->Sem MS}{C:Int->Int->Prop}{g:Int->Int->Int}(rule:∀ (i j:Int) (t u:Tok) (s:MU) (Q:MS->MU->Prop) (E:MS->MU->Prop),C i j->Q (.int (g i j) s.toks) { s with toks:=s.toks+1 }->MZ (M0 X.prog X.w) X.A (f (.int i t) (.int j u)) Q E s):
  gf X f (rI C fun i j=>.int (g i j)):=by
 intro pins s σ H x y v u Q I rx ry h;obtain⟨i,j,rfl,rfl,hc,q⟩:=h;obtain⟨t,rfl⟩:=rx;obtain⟨t',rfl⟩:=ry;exact rule i j t t' s _ _ hc ⟨.int (g i j),H,I.tok _,⟨_,rfl⟩,q⟩
theorem Ku{f:MS->MS->Sem MS}{g:Int->Int->Int}(rule:∀ (i j:Int) (t u:Tok) (s:MU) (Q:MS->MU->Prop) (E:MS->MU->Prop),Q (.int (g i j) s.toks) { s with toks:=s.toks+1 }->MZ (M0 X.prog X.w) X.A (f (.int i t) (.int j u)) Q E s):
  gf X f (HC fun i j=>.int (g i j)):=by
 intro pins s σ H x y v u Q I rx ry h;obtain⟨i,j,rfl,rfl,q⟩:=h;obtain⟨t,rfl⟩:=rx;obtain⟨t',rfl⟩:=ry;exact rule i j t t' s _ _ ⟨.int (g i j),H,I.tok _,⟨_,rfl⟩,q⟩
theorem IP{f:MS->MS->Sem MS}{g:Int->Int->Bool}(rule:∀ (i j:Int) (t u:Tok) (s:MU) (Q:MS->MU->Prop) (E:MS->MU->Prop),Q (.bool (g i j)) s->MZ (M0 X.prog X.w) X.A (f (.int i t) (.int j u)) Q E s):
  gf X f (HC fun i j=>.bl (g i j)):=by
 intro pins s σ H x y v u Q I rx ry h;obtain⟨i,j,rfl,rfl,q⟩:=h;obtain⟨t,rfl⟩:=rx;obtain⟨t',rfl⟩:=ry;exact rule i j t t' s _ _ ⟨.bl (g i j),H,I,rfl,q⟩
def Ll(i j:Int):Prop:=0 < j/\j < 1073741824
def Lk(i j:Int):Prop:=0<=j/\j<=1000000/\i.natAbs < 2 ^ 64
def Hs(i j:Int):Prop:=(-(2 ^ 64) < i/\i < 2 ^ 64)\/(-(2 ^ 64) < j/\j < 2 ^ 64)
theorem Hs.ok(h:Hs i j):IntMulOk i j:=by
 rcases h with ⟨h1,h2⟩|⟨h1,h2⟩
 ·exact .of_left (intBits_le_64 h1 h2)
 ·exact .of_right (intBits_le_64 h1 h2)
theorem IN:gf X (Oh .Add) (HC fun i j=>.int (i+j)):=Ku fun _ _ _ _ _ _ _ q=>add_int q
theorem IJ:gf X (Oh .Sub) (HC fun i j=>.int (i - j)):=Ku fun _ _ _ _ _ _ _ q=>sub_int q
theorem IL:gf X (Oh .Mult) (rI Hs fun i j=>.int (i*j)):=Ln fun _ _ _ _ _ _ _ hc q=>mul_int q hc.ok
theorem Gx:gf X (Oh .FloorDiv) (rI Ll fun i j=>.int (i / j)):=Ln fun i j _ _ _ _ _ hc q=>by
 have h1:(0:Int) < j:=hc.1;have h2:j < 1073741824:=hc.2;exact floordiv_int (by walk_at "o") (by rw[Int.fdiv_eq_ediv_of_nonneg i (by walk_at "o")];exact q) (.inl (PyProof.noPylong_small (by walk_at "o")))
theorem IM:gf X (Oh .Mod) (rI (fun _ j=>0 < j) fun i j=>.int (i % j)):=Ln fun i j _ _ _ _ _ hc q=>by
 have h1:(0:Int) < j:=hc;exact mod_int' (by walk_at "o") (by rw[Int.fmod_eq_emod_of_nonneg i (by walk_at "o")];exact q)
theorem IK:gf X (Oh .Pow) (rI Lk fun i j=>.int (i ^ j.toNat)):=Ln fun _ _ _ _ _ _ _ hc q=>pow_int_small hc.1 hc.2.1 hc.2.2 q
theorem Kr:gf X (Nr .Lt) (HC fun i j=>.bl (decide (i < j))):=IP fun _ _ _ _ _ _ _ q=>lt_int q
theorem Ks:gf X (Nr .LtE) (HC fun i j=>.bl (decide (i<=j))):=IP fun _ _ _ _ _ _ _ q=>le_int q
theorem Kt:gf X (Nr .Gt) (HC fun i j=>.bl (decide (j < i))):=IP fun _ _ _ _ _ _ _ q=>gt_int q
theorem gf.or(h:gf X f r)(h':gf X f r'):gf X f (fun x y H Q=>r x y H Q\/r' x y H Q):=by
 intro pins s σ H x y v u Q I rx ry q;rcases q with q|q
 ·exact h pins s σ H x y v u Q I rx ry q
 ·exact h' pins s σ H x y v u Q I rx ry q
theorem bv(b:Nh)(h:op≠.In:=by decide)(h2:op≠.NotIn:=by decide):NW op b=false:=by
 have e1:(op == CmpOp.In)=false:=by cases op<;>first|rfl|exact absurd rfl h
 have e2:(op == CmpOp.NotIn)=false:=by cases op<;>first|rfl|exact absurd rfl h2
 cases b<;>simp[NW,e1,e2]
theorem Gk(ho:gf X (Nr op) r)(ha:PE X a ta)(hb:PE X b tb)(hm:NW op b=false):PE X (.Compare a [op] [b] pos) (JN r ta tb):=by
 intro pins s σ H Q I h;exact wpAny_Compare1 (JC ha hb I h fun v u s2 x y H2 I2 rx ry q=>ho pins s2 σ H2 x y v u Q I2 rx ry q) hm
def DK(t:TE):TT:=fun σ H Q=>t σ H fun x H'=>∃ k,x=.bl k/\Q k H'
theorem wZ(ho:gf X (Nr op) r)(ha:PE X a ta)(hb:PE X b tb)(hm:NW op b=false):PT X (.Compare a [op] [b] pos) (DK (JN r ta tb)):=by
 intro pins s σ H Q I h;refine Ry (bZ (ha pins s σ H _ I h) fun v s1 zz=>?_) hm;obtain⟨x,H1,I1,r1,q1⟩:=zz;refine bZ (hb pins s1 σ H1 _ I1 q1) fun u s2 zz=>?_;obtain⟨y,H2,I2,r2,q2⟩:=zz;refine bZ (ho pins s2 σ H2 x y v u _ I2 r1 r2 q2) fun c s3 zz=>?_;obtain⟨z,H3,I3,r3,k,e,q3⟩:=zz;subst e;cases r3;exact OR ⟨H3,I3,q3⟩
def DN(r r':R2)(ta tb tc:TE):TE:=fun σ H Q=>ta σ H fun x H1=>tb σ H1 fun y H2=>r x y H2 fun z H3=>∃ k,z=.bl k/\
 (if k=true then tc σ H3 fun w' H4=>r' y w' H4 Q else Q (.bl false) H3)
theorem Ej(ho:gf X (Nr op) r)(ho':gf X (Nr op') r')(ha:PE X a ta)(hb:PE X b tb)(hc:PE X c tc)(hm:lastMarks [op,op'] [b,c]=false:=by with_unfolding_all rfl):PT X (.Compare a [op,op'] [b,c] pos) (DK (DN r r' ta tb tc)):=by
 intro pins s σ H Q I h;refine isTrue_chain (bZ (ha pins s σ H _ I h) fun v s1 ⟨x,H1,I1,r1,q1⟩=>test_link (bZ (hb pins s1 σ H1 _ I1 q1) fun u s2 zz=>?_)) hm;obtain⟨y,H2,I2,r2,q2⟩:=zz;refine bZ (ho pins s2 σ H2 x y v u _ I2 r1 r2 q2) fun d s3 zz=>?_;obtain⟨z,H3,I3,r3,k,e,q3⟩:=zz;subst e;cases r3;refine OR ?_;cases k with
 | false=>
  obtain⟨k',e',q'⟩:=q3;cases e';exact ite_ff ⟨H3,I3,q'⟩
 | true=>
  refine ite_tt (test_last (bZ (hc pins s3 σ H3 _ I3 q3) fun w' s4 zz=>?_));obtain⟨z',H4,I4,r4,q4⟩:=zz;refine bZ (ho' pins s4 σ H4 y z' u w' _ I4 r2 r4 q4) fun d' s5 zz=>?_;obtain⟨z2,H5,I5,r5,k2,e2,q5⟩:=zz;subst e2;cases r5;exact OR ⟨H5,I5,q5⟩
def Lc(K:Po)(x:V)(H:Hp)(k:Bool):Prop:=
 match x with
 | .non=>k=false
 | .bl b=>k=b
 | .int i=>k=(i != 0)
 | .str y=>y.length<=M1/\k=((y.length:Int) != 0)
 | .byt y=>y.size<=M1/\k=((y.size:Int) != 0)
 | .ref p=>(∃ xs,kg K H p xs/\k=!xs.isEmpty)\/(∃ xs,ke K H p xs/\k=!xs.isEmpty)\/∃ kvs,H p=some (.dK kvs)/\k=!kvs.isEmpty
 | _=>False
theorem AZ{κ:Type}{kvs:List (κ×V)}{vs:List (κ×MS)}(r:KV kvs vs):(!vs.isEmpty)=!kvs.isEmpty:=by
 cases r<;>rfl
theorem ui(r:Vals xs its):(!its.toArray.isEmpty)=!xs.isEmpty:=by
 cases r<;>simp
theorem lD:(M1:Nat) < 2 ^ 63:=by rw[N6];decide
theorem Ie:Mg X (fun x H Q=>∃ k,Lc X.K x H k/\Q k H):=by
 intro pins s σ H x v Q I rx h;obtain⟨k,e,q⟩:=h;have hl:=lD;have hs:M1=16777216:=N6;cases x with
 | non=>
  cases rx;have e':k=false:=e;subst e';exact truthy_none ⟨H,I,q⟩
 | bl b=>
  cases rx;have e':k=b:=e;subst e';exact OR ⟨H,I,q⟩
 | int i=>
  obtain⟨t,rfl⟩:=rx;have e':k=(i != 0):=e;subst e';exact PySem.P.truthy_int ⟨H,I,q⟩
 | str y=>
  obtain⟨t,rfl⟩:=rx;obtain⟨hy,e'⟩:y.length<=M1/\k=((y.length:Int) != 0):=e;subst e';exact PySem.P.truthy_str (by walk_at "o") ⟨H,I.tok _,q⟩
 | byt y=>
  obtain⟨t,rfl⟩:=rx;obtain⟨hy,e'⟩:y.size<=M1/\k=((y.size:Int) != 0):=e;subst e';exact PySem.W.truthy_bytes (by walk_at "o") ⟨H,I.tok _,q⟩
 | ref p=>
  cases rx;have e':(∃ xs,kg X.K H p xs/\k=!xs.isEmpty)\/(∃ xs,ke X.K H p xs/\k=!xs.isEmpty)\/∃ kvs,H p=some (.dK kvs)/\k=!kvs.isEmpty:=e;rcases e' with ⟨xs,hx,e'⟩|⟨xs,hx,e'⟩|⟨kvs,hx,e'⟩
  ·subst e';obtain⟨its,r,pl,hz⟩:=I.list hx;have hlen:=r.length;exact wpAny_truthy_list pl.isList (by simp only[M8];omega) ⟨H,I.tok _,by rw[ui r];exact q⟩
  ·subst e';obtain⟨its,r,pl,hz⟩:=I.tuple hx;have hlen:=r.length;exact truthy_tuple pl (by simp only[M8];omega) ⟨H,I.tok _,by rw[ui r];exact q⟩
  ·subst e';obtain⟨hz,hS,vs,r,m⟩:kvs.length<=M1/\(p == NC)=false/\∃ vs,KV kvs vs/\s.heap.DictOf (aW X.prog X.w) p vs:=I.hok p _ hx;have hlen:kvs.length=vs.length:=Pl r;exact wpAny_truthy_dict hS m (by walk_at "o") ⟨H,I.tok _,by rw[AZ r];exact q⟩
 | _=>exact (show False from e).elim
theorem Eh(ha:PE X a ta)(he:∀ whole,Rp a X.env whole=(do let v <- whole;O2 a.pos;holding [v] (truthy v))):
  PT X a (fun σ H Q=>ta σ H fun x H'=>∃ k,Lc X.K x H' k/\Q k H'):=by
 intro pins s σ H Q I h;exact isTrue_plain (bZ (ha pins s σ H _ I h) fun v s1 ⟨x,H1,I1,r1,q1⟩=>Ie pins s1 σ H1 x v Q I1 r1 q1) (he _)
theorem AN:gf X (Oh .Add) (fun x y H Q=>∃ i j,x=.str i/\y=.str j/\i.length+j.length<=M1/\Q (.str (i ++ j)) H):=by
 intro pins s σ H x y v u Q I rx ry h;obtain⟨i,j,rfl,rfl,hz,q⟩:=h;obtain⟨t,rfl⟩:=rx;obtain⟨t',rfl⟩:=ry;exact add_str (fun t' tk=>⟨.str (i ++ j),H,I.tok _,⟨_,rfl⟩,q⟩) hz
theorem yF(r:Vals [x] us):∃ u,us=[u]/\aH x u:=by
 cases r with
 | cons r1 r2=>cases r2;exact⟨_,rfl,r1⟩
theorem DE(r:Vals [x,y] us):∃ u w',us=[u,w']/\aH x u/\aH y w':=by
 cases r with
 | cons r1 r2=>
  cases r2 with
  | cons r3 r4=>cases r4;exact⟨_,_,rfl,r1,r3⟩
theorem Dj(hc:X.calm=true):d9 X (.builtin "min") (fun xs H Q=>∃ i j,xs=[.int i,.int j]/\Q (.int (if j < i then j else i)) H):=by
 intro pins s σ H xs us Q I r h;obtain⟨i,j,rfl,q⟩:=h;obtain⟨u,w',rfl,⟨t,rfl⟩,⟨t',rfl⟩⟩:=DE r;refine min_two_ints (I.ok.hd hc) fun h' tk k=>⟨_,H,I.kept k,?_,q⟩
 by_cases hj:j < i
 ·rw[if_pos hj,if_pos hj];exact⟨_,rfl⟩
 ·rw[if_neg hj,if_neg hj];exact⟨_,rfl⟩
end
structure ObjM(h:Nf)(x dx C:MT)(mA:Str->Option MS):Prop where
 obj:h.get? x=some (P4 C dx)
 ns:h.Ns1 dx mA
 ne:dx≠x
theorem v9{h:Nf}{dx:MT}{mA:Str->Option MS}(n:h.Ns1 dx mA):∃ od,h.get? dx=some od/\∀ name,UL name od=some (mA name):=by
 obtain⟨o,es,ep,ho,hd,hk,_,hm⟩:=n;refine⟨o,ho,fun name=>?_⟩;have e:=hm name;unfold nsFind findBy at e;rw[<- Array.find?_toList]at e;unfold UL;rw[hd];dsimp only;split
 ·rename_i y q;rw[q]at e;exact congrArg some e
 ·rename_i q;rw[q]at e;have a:es.toList.any (·.refKey)=false:=by
   rw[List.any_eq_false];intro y hy;obtain⟨z,t,hkey⟩:=hk y (Array.mem_toList_iff.mp hy);simp[DictEntry.refKey,hkey]
  have a':¬ es.toList.any (·.refKey)=true:=by rw[a];exact Bool.false_ne_true
  rw[if_neg a'];exact congrArg some e
theorem ObjM.look(I:ObjM h x dx C mA):∃ od,UN h x (P4 C dx) C (some od)/\∀ name,UL name od=some (mA name):=
 let ⟨od,ho,hl⟩:=v9 I.ns
 ⟨od,⟨I.obj,rfl,rfl,ho⟩,hl⟩
section
variable{prog:M9}{w:Ng}{A:Nb}{E:MS->MU->Prop}{s:MU}{K:Po}{x dx C f:MT}{mA:Str->Option MS}{name:Str}{v:MS}
theorem GU(X:K.In s.heap)(I:ObjM s.heap x dx C mA)(hg:QY K C name=true)(hh:UJ K C=true)(ha:Qt K (.ref C) name=some none)(hv:mA name=some v)(hv':PySem.W.handedIn v=true)(h:Q v { s with toks:=s.toks+1 }):
  MZ (M0 prog w) A (Rq (.ref x) name expr) Q E s:=by
 obtain⟨od,J,hl⟩:=I.look;exact PySem.W.get_value X J (QL hg).1 (PySem.W.findObj_own hh ha rfl (by rw[hl,hv])) hv' h
theorem Fa(X:K.In s.heap)(I:ObjM s.heap x dx C mA)(hg:QY K C name=true)(hf:Qt K (.ref C) name=some (some (.ref f)))(ht:UO K (.ref f)=true)(hv:mA name=none)(h:Q (.ref f,[.ref x]) s):
  MZ (M0 prog w) A (OW (.ref x) name pl) Q E s:=by
 obtain⟨od,J,hl⟩:=I.look;exact PySem.W.method_fn X J (QL hg).1 (QL hg).2 hf (beq_iff_eq.mp ht) (by show (UL name od).map (·.isSome)=some false;rw[hl,hv];rfl) h
theorem FV(X:K.In s.heap)(I:ObjM s.heap x dx C mA)(hs:Qt K (.ref C) "__setattr__"=some (some (.builtin "object.__setattr__")))(hp:PySem.W.plainOver K C=true)(ht:UI K C name=some none)(hh:UJ K C=true)(hw:PySem.Within mA ns)(hsz:ns.length<=M1)(h:∀ h',ObjM h' x dx C (fun y=>if y=name then some v else mA y)->ON dx s.heap h'->Q () { s with heap:=h',toks:=s.toks+2 }):
  MZ (M0 prog w) A (Si (.ref x) name v) Q E s:=by
 obtain⟨od,J,hl⟩:=I.look;refine PySem.W.set_plain X J hs (PySem.W.osa_open (s:={ s with toks:=s.toks+1 }) (r:=none) X J hp ht fun b=>?_)
 obtain⟨cd,hc,hd'⟩:=PySem.W.any_some hh;have hx:s.heap.get? x=some ⟨.ref C,some dx,.plain,#[]⟩:=I.obj;refine MR (MV (MR (MR (QW hx (MR (PySem.W.Looks.here (s:={ s with toks:=s.toks+1 }) (PySem.W.looks_clsIn X hc) ?_))))))
 rw[hd'];refine MV (a:=some dx) (MR (MV (MR ?_)));refine wpAny_nsSet1 (s:={ s with toks:=s.toks+1 }) I.ns fun h' hn2 hs2=>?_
 obtain⟨oD,esD,epD,hoD,hdD,hcD⟩:=hn2.count (PySem.Within.cons name v hw);refine MR (wpAny_lookBehind hoD (by rw[hdD];exact pastItsLine_dict (le_trans hcD (by rw[Nc];omega))) ?_)
 exact MV (h _ ⟨(hs2.2 _ (Ne.symm I.ne)).trans I.obj,hn2,I.ne⟩ hs2)
theorem EO(X:K.In s.heap)(hm:UG K C=true)(hi:Qt K (.ref C) "__init__"=some (some (.ref f)))(hf:UM K (.ref f)=some (.type "function"))(h:Oz (M0 prog w) (A.under (.builtin "type.__call__" ⟨.ref C::vs,kw⟩)) (.call (.ref f) ⟨.ref (s.heap.objs.size+1)::vs,kw⟩) (PySem.W.InitBack (s.heap.objs.size+1) R)
   { s with heap:=(s.heap.push O8).push (P4 C s.heap.objs.size) }):
  Oz (M0 prog w) A (.call (.ref C) ⟨vs,kw⟩) R s:=by
 obtain⟨hh,g,d,t,os⟩:=s;exact PySem.W.make_core (PySem.W.makes_of X hm) (Qz X hi) (fun self=>PySem.W.bind_fn X self hf) (.inl rfl) h
end
def fh(f:Str)(v:V):List (Str×V)->List (Str×V)
 | []=>[(f,v)]
 | (g,x)::r=>if g=f then (g,v)::r else (g,x)::fh f v r
theorem rf(f g:Str)(v:V):∀ fs:List (Str×V),(fh f v fs).lookup g=if g=f then some v else fs.lookup g
 | []=>by
  show List.lookup g [(f,v)]=_
  by_cases h:g=f
  ·have hb:(g == f)=true:=beq_iff_eq.mpr h;simp only[List.lookup,hb,if_pos h]
  ·have hb:(g == f)=false:=beq_eq_false_iff_ne.mpr h;simp only[List.lookup,hb,if_neg h]
 | (k,x)::r=>by
  have ih:=rf f g v r;rw[show fh f v ((k,x)::r)=(if k=f then (k,v)::r else (k,x)::fh f v r)from rfl]
  by_cases hk:k=f
  ·rw[if_pos hk]
   by_cases h:g=k
   ·have hb:(g == k)=true:=beq_iff_eq.mpr h;simp only[List.lookup,hb,if_pos (h.trans hk)]
   ·have hb:(g == k)=false:=beq_eq_false_iff_ne.mpr h;simp only[List.lookup,hb,if_neg (fun e:g=f=>h (e.trans hk.symm))]
  ·rw[if_neg hk]
   by_cases h:g=k
   ·have hb:(g == k)=true:=beq_iff_eq.mpr h;simp only[List.lookup,hb,if_neg (fun e:g=f=>hk (h.symm.trans e))]
   ·have hb:(g == k)=false:=beq_eq_false_iff_ne.mpr h;simp only[List.lookup,hb];exact ih
theorem qu(f:Str)(v:V):∀ fs:List (Str×V),f∈(fh f v fs).map (·.1)/\∀ g,g∈fs.map (·.1)->g∈(fh f v fs).map (·.1)
 | []=>⟨by simp[fh],fun g h=>by simp at h⟩
 | (k,x)::r=>by
  obtain⟨i1,i2⟩:=qu f v r;rw[show fh f v ((k,x)::r)=(if k=f then (k,v)::r else (k,x)::fh f v r)from rfl]
  by_cases hk:k=f
  ·rw[if_pos hk];subst hk;exact⟨by simp,fun g h=>by simpa using h⟩
  ·rw[if_neg hk];refine⟨?_,fun g h=>?_⟩
   ·rw[Nk];exact M7 _ i1
   ·rw[Nk]at h ⊢;rcases NH.mp h with e|e
    ·exact NH.mpr (.inl e)
    ·exact M7 _ (i2 g e)
theorem rm(f:Str)(v:V):∀ fs:List (Str×V),(fh f v fs).length<=fs.length+1
 | []=>by simp[fh]
 | (k,x)::r=>by
  have ih:=rm f v r;rw[show fh f v ((k,x)::r)=(if k=f then (k,v)::r else (k,x)::fh f v r)from rfl]
  by_cases hk:k=f
  ·rw[if_pos hk,Nc,Nc];omega
  ·rw[if_neg hk,Nc,Nc];omega
theorem kL.some_of(r:kL (some v) o):∃ u,o=some u/\aH v u:=by
 cases o with
 | none=>exact (show False from r).elim
 | some u=>exact⟨u,rfl,r⟩
theorem kL.none_of(r:kL none o):o=none:=by
 cases o with
 | none=>rfl
 | some u=>exact (show False from r).elim
theorem C6(r:aH v u):PySem.W.handedIn u=true:=by
 cases v with
 | non=>cases (show u=Value.none from r);rfl
 | bl b=>cases (show u=Value.bool b from r);rfl
 | int i=>obtain⟨t,e⟩:=(show ∃ t,u=Value.int i t from r);cases e;rfl
 | str x=>obtain⟨t,e⟩:=(show ∃ t,u=Value.str x t from r);cases e;rfl
 | byt b=>obtain⟨t,e⟩:=(show ∃ t,u=Value.bytes b t from r);cases e;rfl
 | flt b=>obtain⟨t,e⟩:=(show ∃ t,u=Value.float b t from r);cases e;rfl
 | ref a=>cases (show u=Value.ref a from r);rfl
 | ty n=>cases (show u=Value.type n from r);rfl
section
variable{P:M9}{w:Ng}{H H':Hp}{h h':Nf}{a C dx:MT}{fs fs':List (Str×V)}
theorem si(hok:l8 P w H h)(e:H a=some (.ins C dx fs)):∃ mA,ObjM h a dx C mA/\(∀ f,kL (fs.lookup f) (mA f))/\PySem.Within mA (fs.map (·.1))/\fs.length<=1000/\H dx=some (.own a):=by
 obtain⟨d,z,ne,ob,mA,n,r,q⟩:=(show ba P w H h a (.ins C dx fs)from hok a _ e)
 exact⟨mA,⟨ob,n,ne⟩,r,q,z,d⟩
end
structure Cls(K:Po)(C:MT):Prop where
 pg:QY K C Str.empty=true
 hd:UJ K C=true
 po:PySem.W.plainOver K C=true
 sa:Qt K (.ref C) "__setattr__"=some (some (.builtin "object.__setattr__"))
theorem Cls.get{K:Po}{C:MT}(c:Cls K C)(f:Str):QY K C f=true:=c.pg
def cH(K:Po)(C:MT)(f:Str):Prop:=Qt K (.ref C) f=some none
theorem cH.taker{K:Po}{C:MT}{f:Str}(n:cH K C f):UI K C f=some none:=by
 unfold UI;rw[show Qt K (.ref C) f=some none from n]
 rfl
structure Meth(K:Po)(C:MT)(m:Str)(f:MT):Prop where
 at_:Qt K (.ref C) m=some (some (.ref f))
 fn:UO K (.ref f)=true
 kp:Ro K (.ref f)=true
section
variable{X:Cx}{pins:List (MT×Obj)}{σ:St}{H:Hp}{s:MU}{a C dx:MT}{fs:List (Str×V)}{f:Str}{v:V}{A:Nb}{E:MS->MU->Prop}
theorem A3(I:Inv X pins σ H s)(e:H a=some (.ins C dx fs))(c:Cls X.K C)(n:cH X.K C f)(l:fs.lookup f=some v)(h:∀ u s',Inv X pins σ H s'->aH v u->Q u s'):MZ (M0 X.prog X.w) A (Rq (.ref a) f b) Q E s:=by
 obtain⟨mA,O,r,_,_,_⟩:=si I.hok e;obtain⟨u,hu,ru⟩:=kL.some_of (v:=v) (o:=mA f) (by rw[<- l];exact r f)
 exact GU I.kIn O (c.get f) c.hd n hu (C6 ru) (h u _ (I.tok _) ru)
theorem jF(I:Inv X pins σ H s)(e:H a=some (.ins C dx fs))(c:Cls X.K C)(k:Meth X.K C m g)(l:fs.lookup m=none)(h:Q (.ref g,[.ref a]) s):MZ (M0 X.prog X.w) A (OW (.ref a) m pl) Q E s:=by
 obtain⟨mA,O,r,_,_,_⟩:=si I.hok e;have hn:mA m=none:=kL.none_of (by rw[<- l];exact r m)
 exact Fa I.kIn O (c.get m) k.at_ k.fn hn h
theorem Av(I:Inv X pins σ H s)(e:H a=some (.ins C dx fs))(c:Cls X.K C)(n:cH X.K C f)(hl:fs.length < 1000)(ry:aH y u)(h:∀ s',Inv X pins σ (aR H a (.ins C dx (fh f y fs))) s'->Q () s'):MZ (M0 X.prog X.w) A (Si (.ref a) f u) Q E s:=by
 obtain⟨mA,O,r,wi,_,ho⟩:=si I.hok e;have hz:(fs.map (·.1)).length<=M1:=by rw[MY,N6];omega
 refine FV I.kIn O c.sa c.po n.taker c.hd wi hz fun h' O' sb=>h _ ?_;have hd:∃ o,h'.get? dx=some o:=let ⟨o,_,_,e',_⟩:=O'.ns;⟨o,e'⟩;refine I.write (x:=a) (e:=dx) (by rw[e];exact True.intro) (.inr ho) (fun b q hb z=>(sb.2 b hb).trans z) hd ?_
 refine⟨by rw[ar O.ne];exact ho,?_,O.ne,O'.obj,_,O'.ns,fun g=>?_,fun g hg=>?_⟩
 ·have:=rm f y fs;omega
 ·show kL ((fh f y fs).lookup g) (if g=f then some u else mA g)
  rw[rf]
  by_cases q:g=f
  ·rw[if_pos q,if_pos q];exact ry
  ·rw[if_neg q,if_neg q];exact r g
 ·by_cases q:g=f
  ·rw[q];exact (qu f y fs).1
  ·refine (qu f y fs).2 g (wi g fun z=>hg ?_);show (if g=f then some u else mA g)=none
   rw[if_neg q];exact z
theorem Inv.made(I:Inv X pins σ H s):Inv X pins σ (aR (aR H s.heap.objs.size (.own (s.heap.objs.size+1))) (s.heap.objs.size+1) (.ins C s.heap.objs.size []))
  { s with heap:=(s.heap.push O8).push (P4 C s.heap.objs.size) }:=by
 have e1:(s.heap.push O8).get? s.heap.objs.size=some O8:=M3 s.heap rfl;have e2:((s.heap.push O8).push (P4 C s.heap.objs.size)).get? (s.heap.objs.size+1)=some (P4 C s.heap.objs.size):=by
  have:=M3 (s.heap.push O8) (o:=P4 C s.heap.objs.size) rfl;rwa[N8]at this
 have e3:(s.heap.push O8).Ns s.heap.objs.size (fun _=>none):=⟨O8,#[],_,e1,rfl,(fun e he=>absurd he (by simp)),fun _=>rfl⟩
 have I1:=I.laid (a:=s.heap.objs.size) (o:=.own (s.heap.objs.size+1)) (h':=s.heap.push O8) (t':=s.toks) (fun b u q=>MX _ q) (le_refl _) ⟨_,e1⟩;refine I1.laid (a:=s.heap.objs.size+1) (o:=.ins C s.heap.objs.size []) (t':=s.toks) (fun b u q=>MX _ q) (Qf (N8 _ _)) ?_;have ne:s.heap.objs.size≠s.heap.objs.size+1:=Np (Pa _);refine⟨by rw[ar ne,aF],N0 _,ne,e2,fun _=>none,(So e3).at fun o q=>MX _ q,fun _=>True.intro,fun y hy=>absurd rfl hy⟩
theorem B9(hb:Op e f env (eval e env)=eval e env)(h:MZ (M0 prog w) A (eval e env) (fun o s₁=>MZ (M0 prog w) A (Rq o f true) Q E s₁) E s):MZ (M0 prog w) A (eval (.Attribute e f pos) env) Q E s:=
 Attribute_any_ h (by rw[arm_eval_Attribute,hb])
end
def LJ(K:Po)(ta:TE)(f:Str):TE:=fun σ H Q=>ta σ H fun x H1=>∃ a C dx fs v,x=.ref a/\H1 a=some (.ins C dx fs)/\Cls K C/\cH K C f/\fs.lookup f=some v/\Q v H1
def LN(K:Po)(ta tv:TE)(f:Str):TS:=fun D σ H=>tv σ H fun y H1=>ta σ H1 fun x H2=>∃ a C dx fs,x=.ref a/\H2 a=some (.ins C dx fs)/\Cls K C/\cH K C f/\fs.length < 1000/\
 D.nx σ (aR H2 a (.ins C dx (fh f y fs)))
section
variable{X:Cx}{o e value:Nh}{f:Str}{pos pos' T_:Pos}{ta tv:TE}
theorem EA(he:PE X e ta)(hb:Op e f X.env (eval e X.env)=eval e X.env):PE X (.Attribute e f pos) (LJ X.K ta f):=by
 intro pins s σ H Q I h;refine B9 hb (bZ (he pins s σ H _ I h) fun u s1 zz=>?_);obtain⟨x,H1,I1,rx,a,C,dx,fs,v,ex,ea,c,n,l,q⟩:=zz;subst ex;obtain rfl:u=Value.ref a:=rx;exact A3 I1 ea c n l fun u' s2 I2 ru=>⟨v,H1,I2,ru,q⟩
theorem AH(ha:PE X o ta)(hv:PE X value tv)(hs:Ob value (some (.Attribute o f pos')) pos.line X.env=pure false):PS X (.Assign [.Attribute o f pos'] value pos) (LN X.K ta tv f):=by
 intro pins s σ H D I h;refine QC (bZ (hv pins s σ H _ I h) fun u s1 zz=>?_) hs;obtain⟨y,H1,I1,ry,q⟩:=zz;refine bZ (ha pins s1 σ H1 _ I1 q) fun ov s2 zz=>?_;obtain⟨x,H2,I2,rx,a,C,dx,fs,ex,ea,c,n,l,q2⟩:=zz;subst ex;obtain rfl:ov=Value.ref a:=rx;exact Av I2 ea c n l ry fun s3 I3=>⟨σ,_,I3,q2⟩
end
section
variable{X:Cx}{pins:List (MT×Obj)}{σ:St}{H:Hp}{s:MU}{A:Nb}{E:MS->MU->Prop}{Q:MS->MU->Prop}{c:MS}{b:Bool}
inductive TyOf(K:Po)(H:Hp):V->MS->Prop where
 | non:TyOf K H .non (.type "NoneType")
 | bl (x:Bool):TyOf K H (.bl x) (.type "bool")
 | int (i:Int):TyOf K H (.int i) (.type "int")
 | str (x:Str):TyOf K H (.str x) (.type "str")
 | flt (x:UInt64):TyOf K H (.flt x) (.type "float")
 | lst {a:MT} {xs:List V} (e:H a=some (.lst xs)):TyOf K H (.ref a) (.type "list")
 | frz {a:MT} {o:Obj} {xs:List V} (e:H a=some (.frz o (.lst xs))):TyOf K H (.ref a) (.type "list")
 | tup {a:MT} {xs:List V} (e:H a=some (.tup xs)):TyOf K H (.ref a) (.type "tuple")
 | dK {a:MT} {kvs:List (aB×V)} (e:H a=some (.dK kvs)):TyOf K H (.ref a) (.type "dict")
 | dT {a:MT} {kvs:List (List aB×V)} (e:H a=some (.dT kvs)):TyOf K H (.ref a) (.type "dict")
 | ins {a C dx:MT} {fs:List (Str×V)} (e:H a=some (.ins C dx fs)) (cl:Cls K C) (ha:Qt K (.ref C) "__class__"=some (some (.builtin "object.__class__")))
   (hn:QE K (.builtin "object.__class__") "__get__"=some (some (.builtin "getset_descriptor.__get__"))) (htk:UK K (.builtin "object.__class__")=some true)
   (hm:UE K C (.type "object")=some true):TyOf K H (.ref a) (.ref C)
theorem CV(I:Inv X pins σ H s)(rx:aH x u)(ty:TyOf X.K H x t)(e:ST X.K t c=some b)(h:∀ tk,Q (.bool b) { s with toks:=tk }):
  MZ (M0 X.prog X.w) A (call (.builtin "isinstance") [u,c]) Q E s:=by
 cases ty with
 | non=>cases (show u=Value.none from rx);exact UF PySem.W.kitx_none I.kIn True.intro e (fun z=>nomatch z) h
 | bl y=>cases (show u=Value.bool y from rx);exact UF PySem.W.kitx_bool I.kIn True.intro e (fun z=>nomatch z) h
 | int i=>obtain⟨t,q⟩:=(show ∃ t,u=Value.int i t from rx);cases q;exact UF PySem.W.kitx_int I.kIn True.intro e (fun z=>nomatch z) h
 | str y=>obtain⟨t,q⟩:=(show ∃ t,u=Value.str y t from rx);cases q;exact UF PySem.W.kitx_str I.kIn True.intro e (fun z=>nomatch z) h
 | flt y=>obtain⟨t,q⟩:=(show ∃ t,u=Value.float y t from rx);cases q;exact UF PySem.W.kitx_float I.kIn True.intro e (fun z=>nomatch z) h
 | @lst a xs ea=>
  cases (show u=Value.ref a from rx)
  obtain⟨_,_,n,_,h1⟩:=(show ba X.prog X.w H s.heap a (.lst xs)from I.hok a _ ea)
  exact UF PySem.W.kitx_list I.kIn ⟨_,h1,rfl⟩ e (fun z=>nomatch z) h
 | @frz a ob xs ea=>
  cases (show u=Value.ref a from rx)
  obtain⟨_,_,_,n,_,h1⟩:=(show ba X.prog X.w H s.heap a (.frz ob (.lst xs))from I.hok a _ ea)
  exact UF PySem.W.kitx_list I.kIn ⟨_,h1,rfl⟩ e (fun z=>nomatch z) h
 | @tup a xs ea=>
  cases (show u=Value.ref a from rx)
  obtain⟨_,_,_,p⟩:=(show ba X.prog X.w H s.heap a (.tup xs)from I.hok a _ ea)
  obtain⟨o,h1,h2,_⟩:=p;exact UF PySem.W.kitx_tuple I.kIn ⟨o,h1,h2.1⟩ e (fun z=>nomatch z) h
 | @dK a kvs ea=>
  cases (show u=Value.ref a from rx)
  obtain⟨_,_,vs,_,p⟩:=(show ba X.prog X.w H s.heap a (.dK kvs)from I.hok a _ ea)
  obtain⟨o,es,ep,h1,h2,_⟩:=p;exact UF PySem.W.kitx_dict I.kIn ⟨o,h1,h2.1⟩ e (fun z=>nomatch z) h
 | @dT a kvs ea=>
  cases (show u=Value.ref a from rx)
  obtain⟨_,_,xs,_,o,es,ep,h1,h2,_⟩:=(show ba X.prog X.w H s.heap a (.dT kvs)from I.hok a _ ea)
  exact UF PySem.W.kitx_dict I.kIn ⟨o,h1,h2.1⟩ e (fun z=>nomatch z) h
 | @ins a C dx fs ea cl ha hn htk hm=>
  cases (show u=Value.ref a from rx)
  obtain⟨mA,O,_⟩:=si I.hok ea;obtain⟨od,J,_⟩:=O.look;exact UF (PySem.W.kitx_own (cl.get _) cl.hd ha hn htk hm) I.kIn J e (fun z=>nomatch z) h
end
structure Room(k:Nat)(A:Nb):Prop where
 hd:A.handled=none
 dp:A.depth+3*k+5 < recursionLimit
 un:A.units+16*k+200 < NF
theorem Room.mono(r:Room k A)(h:j<=k):Room j A:=⟨r.hd,by have:=r.dp;omega,by have:=r.un;omega⟩
theorem Room.deeper(r:Room (k+1) A)(env:Env):Room k (A.deeper env):=
 ⟨r.hd,by have:=r.dp;show A.depth+1+3*k+5 < _;omega,by have:=r.un;show A.units+3+16*k+200 < _;omega⟩
theorem Room.in1(r:Room (k+1) A):Room k A.in1:=
 ⟨r.hd,by have:=r.dp;show A.depth+3*k+5 < _;omega,by have:=r.un;show A.units+1+16*k+200 < _;omega⟩
theorem AV{A:Nb}{C:MT}{us:List MS}{kw:List (Str×MS)}:(A.under (.builtin "type.__call__" ⟨.ref C::us,kw⟩)).depth=A.depth+1:=by
 first|rfl|simp[Rv,Code.weight,Code.isCreation,Code.isGuard,Code.isCaller,Code.frames,Rt,guardIds]
theorem AU{A:Nb}{C:MT}{us:List MS}{kw:List (Str×MS)}:(A.under (.builtin "type.__call__" ⟨.ref C::us,kw⟩)).units=A.units+1:=by
 first|rfl|simp[Rv,Code.cUnits,Code.frames,Rt]
theorem Room.make(r:Room (k+1) A)(C:MT)(us:List MS)(kw:List (Str×MS)):Room k (A.under (.builtin "type.__call__" ⟨.ref C::us,kw⟩)):=
 ⟨r.hd,by have:=r.dp;rw[AV];omega,by have:=r.un;rw[AU];omega⟩
theorem Room.depth(r:Room k A):A.depth < recursionLimit:=by have:=r.dp;omega
theorem Room.units(r:Room k A):A.units+64 < NF:=by have:=r.un;omega
def J1:TA:=fun _ H Q=>Q [] H
def J5(ta:TE)(tr:TA):TA:=fun σ H Q=>ta σ H fun x H1=>tr σ H1 fun xs H2=>Q (x::xs) H2
section
variable{X:Cx}{e:Nh}{es:List Nh}{te:TE}{t:TA}{pos:Pos}
theorem EE:PA X [] J1:=fun _ _ _ _ H Q I h=>OA ⟨[],H,I,.nil,h⟩
theorem xm(ha:PE X e te)(hr:PA X es t)(hs:M5 (e::es) X.env=(false,eval e X.env)::M5 es X.env:=by rfl):PA X (e::es) (J5 te t):=by
 intro pos pins s σ H Q I h;rw[hs];show MZ _ _ (spliced ((false,eval e X.env)::NZ pos (M5 es X.env))) _ _ s
 refine Oe (bZ (ha pins s σ H _ I h) fun u s1 zz=>?_);obtain⟨x,H1,I1,r1,q1⟩:=zz;exact bZ (hr pos pins s1 σ H1 _ I1 q1) fun us s2 ⟨xs,H2,I2,r2,q2⟩=>⟨x::xs,H2,I2,.cons r1 r2,q2⟩
def LB(t:TA):TE:=fun σ H Q=>t σ H fun xs H1=>xs.length<=M1/\∀ p,H1 p=none->Q (.ref p) (aR H1 p (.tup xs))
def LG(t:TA):TE:=fun σ H Q=>t σ H fun xs H1=>xs.length<=M1/\∀ p,H1 p=none->Q (.ref p) (aR H1 p (.lst xs))
theorem Eu{x1}(h:PA X es t):PE X (.Tuple es x1 pos) (LB t):=by
 intro pins s σ H Q I hq;refine wpAny_Tuple_spliced (bZ (h pos pins s σ H _ I hq) fun us s1 ⟨xs,H1,I1,r,z,q⟩=>⟨by rw[<- r.length];exact z,?_⟩)
 have hf:H1 s1.heap.objs.size=none:=I1.hok.fresh (le_refl _);refine⟨.ref s1.heap.objs.size,aR H1 s1.heap.objs.size (.tup xs),I1.laid (t':=s1.toks) (fun b u e=>MX _ e) (le_refl _) ?_,rfl,q _ hf⟩;exact⟨z,us,r,vF.new _ _⟩
theorem IF(h:PA X es t):PE X (.List es pos) (LG t):=by
 intro pins s σ H Q I hq;refine wpAny_List_spliced (bZ (h pos pins s σ H _ I hq) fun us s1 ⟨xs,H1,I1,r,z,q⟩=>⟨by rw[<- r.length];exact z,?_⟩)
 have hf:H1 s1.heap.objs.size=none:=I1.hok.fresh (le_refl _);refine⟨.ref s1.heap.objs.size,aR H1 s1.heap.objs.size (.lst xs),I1.laid (t':=s1.toks) (fun b u e=>MX _ e) (le_refl _) ?_,rfl,q _ hf⟩;exact⟨z,us,0,r,M3 _ rfl⟩
end
abbrev Sp:=List V->Hp->VK->XK->Prop
abbrev Dv:=List Env->Hp->MU->XK->MS->MU->Prop
structure Env0(P:M9)(w:Ng)(K:Po)(mg:Str->Option MS)(base:Nf)(A:Nb)(outer:List Env)(s:MU)(H:Hp):Prop where
 frames:A.frames=some outer
 mod:Mod K mg base
 bs:∀ b o,base.get? b=some o->s.heap.get? b=some o/\H b=none
 bsz:base.objs.size<=s.heap.objs.size
 funs:s.heap.FunFrames base outer
 frf:∀ b∈xG outer,H b=none
 hok:l8 P w H s.heap
 bare:PM s.gens
def CE(outer:List Env)(P:M9)(w:Ng)(H:Hp)(s:MU)(Q:VK)(u:MS)(s':MU):Prop:=
 ∃ v H',s'.os=s.os/\PM s'.gens/\Un (xG outer) [] H H' s.heap s'.heap/\l8 P w H' s'.heap/\aH v u/\Q v H'
def CR(CX:Dv)(outer:List Env)(P:M9)(w:Ng)(H:Hp)(s:MU)(Q:VK)(E:XK)(r:P8)(s':MU):Prop:=
 match r with
 | .ok (.ret u)=>CE outer P w H s Q u s'
 | .ok _=>False
 | .error e=>CX outer H s E e s'
structure FnOk(P:M9)(w:Ng)(K:Po)(mg:Str->Option MS)(base:Nf)(CX:Dv)(k:Nat)(f:MT)(fd:N4)(ps:List Str)(sp:Sp):Prop where
 len:∀ vs H Q E,sp vs H Q E->vs.length=ps.length
 run:∀ (A:Nb) (outer:List Env) (s:MU) (H:Hp) (args:Args) (us:List MS) (vs:List V) (Q:VK) (E:XK),Room k A->Env0 P w K mg base A outer s H->QU s fd args (ps.zip us)->Vals vs us->sp vs H Q E->
  Oz (M0 P w) A (.call (.ref f) args) (CR CX outer P w H s Q E) s
theorem FnOk.mono{P:M9}{w:Ng}{K:Po}{mg:Str->Option MS}{base:Nf}{CX:Dv}{j k:Nat}{f:MT}{fd:N4}{ps:List Str}{sp:Sp}(F:FnOk P w K mg base CX j f fd ps sp)(h:j<=k):
  FnOk P w K mg base CX k f fd ps sp:=⟨F.len,fun A outer s H args us vs Q E hr=>F.run A outer s H args us vs Q E (hr.mono h)⟩
theorem Env0.make{P:M9}{w:Ng}{K:Po}{mg:Str->Option MS}{base:Nf}{A:Nb}{outer:List Env}{s:MU}{H:Hp}(e:Env0 P w K mg base A outer s H)(C:MT)(us:List MS)(kw:List (Str×MS)):
  Env0 P w K mg base (A.under (.builtin "type.__call__" ⟨.ref C::us,kw⟩)) outer s H:=⟨by first|exact e.frames|(simpa[Rv,Code.envs,Rt,pushEnvs]using e.frames),e.mod,e.bs,e.bsz,e.funs,e.frf,e.hok,e.bare⟩
theorem Env0.in1{P:M9}{w:Ng}{K:Po}{mg:Str->Option MS}{base:Nf}{A:Nb}{outer:List Env}{s:MU}{H:Hp}(e:Env0 P w K mg base A outer s H):
  Env0 P w K mg base A.in1 outer s H:=⟨e.frames,e.mod,e.bs,e.bsz,e.funs,e.frf,e.hok,e.bare⟩
section
variable{X:Cx}{pins:List (MT×Obj)}{σ:St}{H:Hp}{s s':MU}
theorem Inv.env0(I:Inv X pins σ H s):Env0 X.prog X.w X.K X.mg X.base X.A X.stack s H:=
 ⟨I.ok.frames,I.ok.mod,I.bs,le_trans I.ok.bsz I.sz,I.stack,I.stkFree,I.hok,I.bare⟩
theorem Inv.after(I:Inv X pins σ H s)(h:CE X.stack X.prog X.w H s Q u s'):EP X pins σ Q u s':=by
 obtain⟨v,H',os,bare,un,hok,r,q⟩:=h;obtain⟨hh,g,d,t,os'⟩:=s';obtain rfl:os'=s.os:=os;exact⟨v,H',I.call (h':=hh) (g':=g) (d':=d) (t':=t) (ch:=[]) un hok bare (fun b z=>absurd z (by simp)),r,q⟩
end
def Hy(sp:Sp)(dvs:List V)(E:XK)(t:TA):TE:=fun σ H Q=>t σ H fun vs H1=>sp (vs ++ dvs) H1 Q E
def DM(C:MT)(m:Str)(sp:Sp)(dvs:List V)(E:XK)(ta:TE)(t:TA):TE:=fun σ H Q=>ta σ H fun x H1=>∃ a dx fs,x=.ref a/\H1 a=some (.ins C dx fs)/\fs.lookup m=none/\
 t σ H1 fun vs H2=>sp (x::(vs ++ dvs)) H2 Q E
def Hx(C:MT)(sp:Sp)(dvs:List V)(E:XK)(t:TA):TE:=fun σ H Q=>t σ H fun vs H1=>∀ x dx,H1 x=none->H1 dx=none->dx≠x->
 sp (.ref x::(vs ++ dvs)) (aR (aR H1 dx (.own x)) x (.ins C dx [])) (fun v H2=>v=.non/\Q (.ref x) H2) E
def eJ(K:Po)(fd:N4)(ps:List Str)(ds:List MS):Prop:=
 ∀ (s:MU) (us:List MS),K.In s.heap->(us ++ ds).length=ps.length->QU s fd ⟨us,[]⟩ (ps.zip (us ++ ds))
theorem eJ.all{K:Po}{fd:N4}{ps:List Str}(h:∀ us:List MS,us.length=ps.length->bindArgs fd ⟨us,[]⟩=pure (ps.zip us)):eJ K fd ps []:=fun s us _ hl=>by
 rw[Od]at hl ⊢;exact .of_eq (h us hl)
def lO(CX:Dv)(X:Cx)(E:XK):Prop:=∀ (pins:List (MT×Obj)) (σ:St) (H:Hp) (s:MU) (e:MS) (s':MU),Inv X pins σ H s->CX X.stack H s E e s'->X.xe e s'
section
variable{X:Cx}{CX:Dv}{k:Nat}{f C:MT}{fd:N4}{ps:List Str}{sp:Sp}{dvs:List V}{ds:List MS}{E:XK}{x m:Str}{p pos apos:Pos}{e o:Nh}{es:List Nh}{ta:TE}{t:TA}
theorem sT{pins:List (MT×Obj)}{σ:St}{H:Hp}{s:MU}{Q:VK}{us:List MS}{vs:List V}(F:FnOk X.prog X.w X.K X.mg X.base CX k f fd ps sp)(hr:Room k X.A)(hb:eJ X.K fd ps ds)(hd:Vals dvs ds)(hx:lO CX X E)
  (I:Inv X pins σ H s) (r:Vals vs us) (h:sp (vs ++ dvs) H Q E):MZ (M0 X.prog X.w) X.A (call (.ref f) us) (EP X pins σ Q) X.xe s:=by
 have r2:Vals (vs ++ dvs) (us ++ ds):=r.append hd;have hl:(us ++ ds).length=ps.length:=by rw[<- r2.length];exact F.len _ _ _ _ h
 refine Pg (Oy (F.run X.A X.stack s H ⟨us,[]⟩ (us ++ ds) (vs ++ dvs) Q E hr I.env0 (hb s us I.kIn hl) r2 h) fun r s' hq=>?_);cases r with
 | error e=>exact hx pins σ H s e s' I hq
 | ok fl=>
  cases fl with
  | ret u=>exact I.after hq
  | next=>exact False.elim hq
  | brk=>exact False.elim hq
  | cont=>exact False.elim hq
theorem Gm(F:FnOk X.prog X.w X.K X.mg X.base CX k f fd ps sp)(hr:Room k X.A)(hg:Gl X x)(hm:X.mg x=some (.ref f))(hk:Ro X.K (.ref f)=true)(hb:eJ X.K fd ps ds)(hd:Vals dvs ds)(hx:lO CX X E)(ha:PA X (e::es) t)(hdb:(x == ("__debug__":Str))=false:=by decide)(he:M5 (e::es) X.env=(false,eval e X.env)::M5 es X.env:=by rfl)(hpl:(NZ pos (M5 es X.env)).any (·.1)=false:=by rfl):
  PE X (.Call (.Name x p) (e::es) [] pos) (Hy sp dvs E t):=by
 intro pins s σ H Q I h;refine OI (jE I hg hm ?_ hdb);refine Pu (h₀:=X.base) I.ok.mod.kin hk (bZ (ha pos pins s σ H _ I h) fun us s1 ⟨vs,H1,I1,r,q⟩=>⟨I1.kIn,?_⟩) he hpl;exact sT F hr hb hd hx I1 r q
theorem xk{pl:Sem Bool}(he:PE X o ta)(c:Cls X.K C)(hm:Meth X.K C m f)(F:FnOk X.prog X.w X.K X.mg X.base CX k f fd ps sp)(hr:Room k X.A)(hb:eJ X.K fd ps ds)(hd:Vals dvs ds)(hx:lO CX X E)(ha:PA X (e::es) t)
  (hst:M5 (e::es) X.env=(false,eval e X.env)::M5 es X.env:=by rfl) (hpl:(NZ pos (M5 es X.env)).any (·.1)=false:=by rfl)
  (ht:eval (.Call (.Attribute o m apos) (e::es) [] pos) X.env=(do
   let ov <- eval o X.env
   O2 apos.atName
   let (f,first) <- holding [ov] (OW ov m pl)
   Pw pos f first (NZ pos (M5 (e::es) X.env)) (O0 pos (Oo [] X.env))):=by rfl):
  PE X (.Call (.Attribute o m apos) (e::es) [] pos) (DM C m sp dvs E ta t):=by
 intro pins s σ H Q I h;refine Pk (pl:=pl) (bZ (he pins s σ H _ I h) fun u s1 zz=>?_) ht;obtain⟨x,H1,I1,rx,a,dx,fs,ex,ea,l,q⟩:=zz;subst ex;obtain rfl:u=Value.ref a:=rx;refine jF I1 ea c hm l ?_;refine Pu (first:=[.ref a]) (h₀:=X.base) I.ok.mod.kin hm.kp (bZ (ha pos pins s1 σ H1 _ I1 q) fun us s2 ⟨vs,H2,I2,r,q2⟩=>⟨I2.kIn,?_⟩) hst hpl
 exact sT (us:=.ref a::us) (vs:=.ref a::vs) F hr hb hd hx I2 (.cons rfl r) q2
theorem Ez(he:PE X o ta)(c:Cls X.K C)(hm:Meth X.K C m f)(F:FnOk X.prog X.w X.K X.mg X.base CX k f fd ps sp)(hr:Room k X.A)(hb:eJ X.K fd ps ds)(hd:Vals dvs ds)(hx:lO CX X E)(ht:eval (.Call (.Attribute o m apos) [] [] pos) X.env=(do
   let ov <- eval o X.env
   O2 apos.atName
   let (f,first) <- holding [ov] (OW ov m pl)
   Pw pos f first (NZ pos (M5 [] X.env)) (O0 pos (Oo [] X.env))):=by rfl):
  PE X (.Call (.Attribute o m apos) [] [] pos) (DM C m sp dvs E ta J1):=by
 intro pins s σ H Q I h;refine Pk (pl:=pl) (bZ (he pins s σ H _ I h) fun u s1 zz=>?_) ht;obtain⟨x,H1,I1,rx,a,dx,fs,ex,ea,l,q⟩:=zz;subst ex;obtain rfl:u=Value.ref a:=rx;refine jF I1 ea c hm l ?_;exact PySem.W.callWith_K0 (first:=[.ref a]) I1.kIn hm.kp (sT (us:=[.ref a]) (vs:=[.ref a]) F hr hb hd hx I1 (.cons rfl .nil) q)
structure Mk(K:Po)(C f:MT):Prop where
 makes:UG K C=true
 init:Qt K (.ref C) "__init__"=some (some (.ref f))
 fn:UO K (.ref f)=true
 kp:Ro K (.ref C)=true
theorem DV{pins:List (MT×Obj)}{σ:St}{H:Hp}{s:MU}{Q:VK}{us:List MS}{vs:List V}(M:Mk X.K C f)(F:FnOk X.prog X.w X.K X.mg X.base CX k f fd ps sp)(hr:Room (k+1) X.A)(hb:eJ X.K fd ps ds)(hd:Vals dvs ds)
  (hx:lO CX X E) (I:Inv X pins σ H s) (r:Vals vs us)
  (h:∀ x dx,H x=none->H dx=none->dx≠x->sp (.ref x::(vs ++ dvs)) (aR (aR H dx (.own x)) x (.ins C dx [])) (fun v H2=>v=.non/\Q (.ref x) H2) E):
  MZ (M0 X.prog X.w) X.A (call (.ref C) us) (EP X pins σ Q) X.xe s:=by
 have hq:=h (s.heap.objs.size+1) s.heap.objs.size (I.hok.fresh (QA _)) (I.hok.fresh (le_refl _)) (Np (Pa _));have I2:=Inv.made (C:=C) I;have r2:Vals (V.ref (s.heap.objs.size+1)::(vs ++ dvs)) (Value.ref (s.heap.objs.size+1)::(us ++ ds)):=.cons rfl (r.append hd);have hl:(Value.ref (s.heap.objs.size+1)::us ++ ds).length=ps.length:=by
  have e:=r2.length;rw[F.len _ _ _ _ hq]at e;exact e.symm
 refine Pg (EO (f:=f) I.kIn M.makes M.init (beq_iff_eq.mp M.fn) (Oy (F.run _ X.stack _ _ ⟨Value.ref (s.heap.objs.size+1)::us,[]⟩ (Value.ref (s.heap.objs.size+1)::(us ++ ds)) _ _ E (hr.make C us [])
  (I2.env0.make C us []) (hb _ (Value.ref (s.heap.objs.size+1)::us) I2.kIn hl) r2 hq) fun r s' hq'=>?_))
 cases r with
 | error e=>exact hx pins σ _ _ e s' I2 hq'
 | ok fl=>
  cases fl with
  | ret u=>
   obtain⟨v,H',I3,rv,ev,q3⟩:=I2.after hq';subst ev;exact⟨rv,⟨V.ref (s.heap.objs.size+1),H',I3,rfl,q3⟩⟩
  | next=>exact False.elim hq'
  | brk=>exact False.elim hq'
  | cont=>exact False.elim hq'
theorem Gj(M:Mk X.K C f)(F:FnOk X.prog X.w X.K X.mg X.base CX k f fd ps sp)(hr:Room (k+1) X.A)(hg:Gl X x)(hm:X.mg x=some (.ref C))(hb:eJ X.K fd ps ds)(hd:Vals dvs ds)(hx:lO CX X E)(ha:PA X (e::es) t)(hdb:(x == ("__debug__":Str))=false:=by decide)(he:M5 (e::es) X.env=(false,eval e X.env)::M5 es X.env:=by rfl)(hpl:(NZ pos (M5 es X.env)).any (·.1)=false:=by rfl):
  PE X (.Call (.Name x p) (e::es) [] pos) (Hx C sp dvs E t):=by
 intro pins s σ H Q I h;refine OI (jE I hg hm ?_ hdb);refine Pu (h₀:=X.base) I.ok.mod.kin M.kp (bZ (ha pos pins s σ H _ I h) fun us s1 ⟨vs,H1,I1,r,q⟩=>⟨I1.kIn,?_⟩) he hpl;exact DV M F hr hb hd hx I1 r q
end
structure FnScope(N P:List Str)(sc:O_):Prop where
 kind:sc.kind=.function
 co:sc.isCoroutine=false
 gen:sc.isGenerator=false
 nd:N.Nodup
 pre:N.take P.length=P
 par:∀ x∈P,sc.names.lookup x=some .local\/sc.names.lookup x=some .cell
 nofree:∀ y∈sc.names,y.2≠.free
theorem wu{kindOf:Str->Option Px}:∀ {binds:List (Str×MS)} {m:Str->Option MS},(∀ v,(x,v)∉binds)->Rb kindOf binds m x=m x
 | [],_,_=>rfl
 | (n,v)::r,m,h=>by
  unfold Rb;rw[wu fun w hw=>h w (M7 _ hw)];split
  ·have:x≠n:=by rintro rfl;exact h v M_
   simp[this]
  ·rfl
theorem wx{kindOf:Str->Option Px}:∀ {binds:List (Str×MS)} {m:Str->Option MS},(∀ v,(x,v)∉binds)->Rc kindOf binds m x=m x
 | [],_,_=>rfl
 | (n,v)::r,m,h=>by
  unfold Rc;rw[wx fun w hw=>h w (M7 _ hw)];split
  ·rfl
  ·have:x≠n:=by rintro rfl;exact h v M_
   simp[this]
theorem ww{kindOf:Str->Option Px}:∀ {P:List Str} {vs:List MS} {i:Nat} {m:Str->Option MS},P.Nodup->P[i]?=some x->vs[i]?=some v->kindOf x=some .local->
  Rb kindOf (P.zip vs) m x=some v
 | [],_,_,_,_,h,_,_=>by simp at h
 | _::_,[],_,_,_,_,h,_=>by simp at h
 | p::P,w::vs,0,m,nd,h1,h2,hk=>by
  simp at h1 h2;subst h1;subst h2;show Rb kindOf ((p,w)::P.zip vs) m p=_
  unfold Rb;rw[wu fun v hv=>(OL.mp nd).1 (List.of_mem_zip hv).1,if_pos hk];simp
 | p::P,w::vs,i+1,m,nd,h1,h2,hk=>by
  show Rb kindOf ((p,w)::P.zip vs) m x=_
  unfold Rb;exact ww (i:=i) (OL.mp nd).2 (by simpa using h1) (by simpa using h2) hk
theorem wy{kindOf:Str->Option Px}:∀ {P:List Str} {vs:List MS} {i:Nat} {m:Str->Option MS},P.Nodup->P[i]?=some x->vs[i]?=some v->kindOf x≠some .local->
  Rc kindOf (P.zip vs) m x=some v
 | [],_,_,_,_,h,_,_=>by simp at h
 | _::_,[],_,_,_,_,h,_=>by simp at h
 | p::P,w::vs,0,m,nd,h1,h2,hk=>by
  simp at h1 h2;subst h1;subst h2;show Rc kindOf ((p,w)::P.zip vs) m p=_
  unfold Rc;rw[wx fun v hv=>(OL.mp nd).1 (List.of_mem_zip hv).1,if_neg hk];simp
 | p::P,w::vs,i+1,m,nd,h1,h2,hk=>by
  show Rc kindOf ((p,w)::P.zip vs) m x=_
  unfold Rc;exact wy (i:=i) (OL.mp nd).2 (by simpa using h1) (by simpa using h2) hk
def start(N:List Str)(vs:List V):St:=vs.map some ++ List.replicate (N.length - vs.length) none
def vC(CX:Dv)(P:M9)(w:Ng)(K:Po)(mg:Str->Option MS)(base:Nf)(N:List Str)(qual:Str)(scope:O_)(f:MT)(cd:MS)(A:Nb)(outer:List Env)(s:MU)(H:Hp)(E:XK):Cx where
 prog:=P
 w:=w
 K:=K
 mg:=mg
 base:=base
 A:=A.deeper (Pd qual scope s.heap.objs.size f cd)
 N:=N
 s₀:=s
 H₀:=H
 env:=Pd qual scope s.heap.objs.size f cd
 outer:=outer
 stack:=Pd qual scope s.heap.objs.size f cd::outer
 ex:=[]
 calm:=true
 fn:=fun _=>true
 pn:=[]
 xe:=fun e s'=>MZ (M0 P w) (A.deeper (Pd qual scope s.heap.objs.size f cd)) (Rn (Pd qual scope s.heap.objs.size f cd) e) (fun _ s''=>CX outer H s E e s'') (fun e' s''=>CX outer H s E e' s'') s'
theorem zX{sc:O_}{n:Nat}{x:Str}(h:sc.names.lookup x=some .cell):∃ c,(cellsFrom n sc.names []).lookup x=some c:=by
 have q:=PySem.W.cellsFrom_some sc.names n [] (.inl h);exact Option.isSome_iff_exists.mp q
theorem CW{CX:Dv}{P:M9}{w:Ng}{K:Po}{mg:Str->Option MS}{base:Nf}{N ps:List Str}{qual:Str}{scope:O_}{f:MT}{cd:MS}{A:Nb}{outer:List Env}{s s1:MU}{H:Hp}{E:XK}{us:List MS}{vs:List V}
  (S:FnScope N ps scope) (hd:A.handled=none) (e0:Env0 P w K mg base A outer s H) (hl:vs.length=ps.length) (r:Vals vs us)
  (x:InCallC s s.heap.objs.size (Rb (Pd qual scope s.heap.objs.size f cd).kindOf (ps.zip us) fun _=>none) (cellsFrom (s.heap.objs.size+1) scope.names []) (Rc (Pd qual scope s.heap.objs.size f cd).kindOf (ps.zip us) fun _=>none) s1):
  Inv (vC CX P w K mg base N qual scope f cd A outer s H E) [] (start N vs) H s1:=by
 have hpl:ps.length<=N.length:=by have:=congrArg List.length S.pre;rw[NQ]at this;omega
 obtain⟨h1,tk,rfl,hk⟩:=x.done;have noA:∀ b:MT,b∉(vC CX P w K mg base N qual scope f cd A outer s H E).ex:=fun b z=>absurd (show b∈([]:List MT)from z) (by simp)
 refine⟨⟨e0.mod,S.kind,rfl,rfl,le_refl _,fun y z c h1 h2=>?_,fun y hy=>?_,fun y c _ h=>?_,fun _=>hd,Around.frames_deeper e0.frames,.inr ⟨rfl,rfl⟩,fun b z=>absurd z (noA b),e0.bs,e0.bsz,fun b _ _=>noA b,fun b z=>absurd z (noA b),e0.funs,e0.frf⟩,
  rfl,e0.bare,Un.kept hk,⟨_,x.toInCall.ns,fun i y v h1 h2 h3=>?_⟩,fun y c h=>⟨_,x.cell y c h⟩,e0.hok.fresh (le_refl _),fun y c h=>?_,fun p hp=>absurd (show p∈([]:List (MT×Obj))from hp) (by simp),e0.hok.kept hk,?_⟩
 ·exact name_of_addr x.apart (PySem.mem_of_lookup h1) (PySem.mem_of_lookup h2)
 ·have hy:scope.names.lookup y=some .cell\/scope.names.lookup y=some .free:=hy;rcases hy with hy|hy
  ·exact zX hy
  ·exact absurd rfl (S.nofree _ (PySem.mem_of_lookup hy))
 ·exact le_of_lt (x.above y c (PySem.mem_of_lookup h))
 ·have hi:i < vs.length:=by
   unfold start at h2
   by_cases hi:i < vs.length
   ·exact hi
   ·rw[List.getElem?_append_right (by simpa using hi)]at h2
    rw[List.getElem?_replicate]at h2;split at h2<;>cases h2
  have ha:vs[i]?=some v:=by
   unfold start at h2;rw[List.getElem?_append_left (by simpa using hi),Nd]at h2
   cases e:vs[i]? with
   | none=>rw[e]at h2;cases h2
   | some a=>rw[e]at h2;cases h2;rfl
  obtain⟨u,hu,rv⟩:=r.get ha;have hp:ps[i]?=some y:=by
   rw[<- S.pre,List.getElem?_take_of_lt (by walk_at "o")];exact h1
  have ndP:ps.Nodup:=by rw[<- S.pre];exact S.nd.sublist (List.take_sublist _ _)
  refine⟨u,rv,?_⟩;rcases S.par y (Ni hp)with k|k
  ·exact .inl ⟨k,ww ndP hp hu k⟩
  ·obtain⟨c,e⟩:=zX (n:=s.heap.objs.size+1) k;refine .inr ⟨.inl k,c,e,?_⟩;have q:=x.cell y c e;rw[wy ndP hp hu (by show scope.names.lookup y≠_;rw[k];decide)]at q
   exact q
 ·exact e0.hok.fresh (le_of_lt (x.above y c (PySem.mem_of_lookup h)))
 ·unfold start;show _=N.length
  rw[NJ,MY,List.length_replicate];omega
theorem Fg{CX:Dv}{P:M9}{w:Ng}{K:Po}{mg:Str->Option MS}{base:Nf}{k:Nat}{f:MT}{name qual:Str}{params:Arguments}{body:List No}{scope:O_}{dV kV doc pm cdv ct oc:MS}{an od:Option MT}
  {osl:Array (Option MS)} {N ps:List Str} {sp:Sp} (lk:K.lookup f=some ⟨oc,od,.func (UH name qual params body scope dV kV doc pm an cdv ct),osl⟩) (hcd:R8 K cdv qual=true) (S:FnScope N ps scope)
  (len:∀ vs H Q E,sp vs H Q E->vs.length=ps.length)
  (SH:∀ (A:Nb) (outer:List Env) (s:MU) (H:Hp) (vs:List V) (Q:VK) (E:XK),Room k (A.deeper (Pd qual scope s.heap.objs.size f cdv))->sp vs H Q E->
   ∃ t,iJ (vC CX P w K mg base N qual scope f cdv A outer s H E) body t/\t { nx:=fun _ H'=>Q .non H',rt:=Q } (start N vs) H):
  FnOk P w K mg base CX (k+1) f (UH name qual params body scope dV kV doc pm an cdv ct) ps sp:=by
 refine⟨len,fun A outer s H args us vs Q E hr e0 hb r hsp=>?_⟩;have hl:=len _ _ _ _ hsp;have KX:K.In s.heap:=e0.mod.kin.keeps fun b o e=>(e0.bs b o e).1;have lim:s.heap.NoLimit:=e0.mod.nolimit.keeps fun b o e=>(e0.bs b o e).1;have Ug:∀ y∈ps.zip us,scope.names.lookup y.1=some .local\/(scope.names.lookup y.1=some .cell/\((cellsFrom (s.heap.objs.size+1) scope.names []).lookup y.1).isSome=true):=fun⟨n,v⟩ hy=>by
  rcases S.par n (List.of_mem_zip hy).1 with q|q
  ·exact .inl q
  ·exact .inr ⟨q,PySem.W.cellsFrom_some _ _ _ (.inl q)⟩
 refine codeAny_call_function hr.depth (KX _ _ lk) rfl S.co S.gen rfl (PySem.W.codeRec_of KX hcd) (hb _ _ _ _ ?_);refine wpAny_newFunctionEnv_cells S.kind Ug fun env he s1 x=>?_;subst he;refine⟨lim.keeps x.toInCall.keep,codeAny_func ?_⟩;obtain⟨t,ht,hq⟩:=SH A outer s H vs Q E (hr.deeper _) hsp;have I:Inv (vC CX P w K mg base N qual scope f cdv A outer s H E) [] (start N vs) H s1:=CW S hr.hd e0 hl r x;refine Nn (ht [] s1 (start N vs) H _ I hq) (fun fl s' hs=>?_) fun e s' hs=>hs;have fin:∀ {σ':St} {H':Hp} {v:V} {u:MS},Inv (vC CX P w K mg base N qual scope f cdv A outer s H E) [] σ' H' s'->aH v u->Q v H'->CE outer P w H s Q u s':=
  fun {σ' H' v u} J rv q=>⟨v,H',J.os,J.bare,J.base,J.hok,rv,q⟩
 cases fl with
 | ret u=>
  obtain⟨v,σ',H',J,rv,q⟩:=hs;exact fin J rv q
 | next=>
  obtain⟨σ',H',J,q⟩:=hs;exact fin (v:=V.non) (u:=Value.none) J rfl q
 | brk=>
  obtain⟨_,_,_,q⟩:=hs;exact False.elim q
 | cont=>
  obtain⟨_,_,_,q⟩:=hs;exact False.elim q
section
variable{X:Cx}{x:Str}{p pos:Pos}{e:Nh}{es:List Nh}{t:TA}{id T:String}{r:List V->Hp->VK->Prop}
def LK(r:List V->Hp->VK->Prop)(t:TA):TE:=fun σ H Q=>t σ H fun vs H1=>r vs H1 Q
theorem ED(hc:d9 X (.builtin id) r)(hg:Gl X x)(hm:X.mg x=none)(hv:Of x=some (.builtin id))(ha:PA X (e::es) t)(hn:x≠"__name__":=by decide)(hdb:(x == ("__debug__":Str))=false:=by decide)(he:M5 (e::es) X.env=(false,eval e X.env)::M5 es X.env:=by rfl)(hpl:(NZ pos (M5 es X.env)).any (·.1)=false:=by rfl):PE X (.Call (.Name x p) (e::es) [] pos) (LK r t):=by
 intro pins s σ H Q I h;refine OI (gB I hg hm hv ?_ hn hdb);exact PyProof.Rows.callWith_builtin1 (bZ (ha pos pins s σ H _ I h) fun us s1 ⟨vs,H1,I1,r1,q1⟩=>hc pins s1 σ H1 vs us Q I1 r1 q1) he hpl
theorem CF(hc:d9 X (.type T) r)(hg:Gl X x)(hm:X.mg x=none)(hv:Of x=some (.type T))(ha:PA X (e::es) t)(hn:x≠"__name__":=by decide)(hdb:(x == ("__debug__":Str))=false:=by decide)(he:M5 (e::es) X.env=(false,eval e X.env)::M5 es X.env:=by rfl)(hpl:(NZ pos (M5 es X.env)).any (·.1)=false:=by rfl):PE X (.Call (.Name x p) (e::es) [] pos) (LK r t):=by
 intro pins s σ H Q I h;refine OI (gB I hg hm hv ?_ hn hdb);exact PyProof.Rows.callWith_type1 (bZ (ha pos pins s σ H _ I h) fun us s1 ⟨vs,H1,I1,r1,q1⟩=>hc pins s1 σ H1 vs us Q I1 r1 q1) he hpl
end
end L2
namespace HT
open PySem PyProof.Rows
section
open PySem.SeqAt
open PySem.AutoSeq1 (wpAny_loadPart')
open PySem.MeetsSeq PySem.MeetsSeq2 PySem.MeetsSeq3
end
section
variable{prog:M9}{w:Ng}{A:Nb}{E:MS->MU->Prop}{s:MU}
theorem cat_tup(ht:IsTup s.heap t vs.toArray)(hb:IsTup s.heap b ws.toArray)(hv:vs≠[])(h1:ws=[]->Q (.ref t) s)(h2:ws≠[]->Q (.ref s.heap.objs.size) { s with heap:=s.heap.push { cls:=.type "tuple",data:=.seq (vs ++ ws).toArray } })(hsz:vs.length+ws.length<=M1):MZ (M0 prog w) A (Oh .Add (.ref t) (.ref b)) Q E s:=by
 obtain⟨⟨cls,dd,data,sl⟩,ho,hc,n,hd⟩:=id ht;obtain⟨⟨cls2,dd2,data2,sl2⟩,ho2,hc2,n2,hd2⟩:=id hb;simp only at hc hd hc2 hd2;subst hc hd hc2 hd2;have e:vs.toArray ++ ws.toArray=(vs ++ ws).toArray:=by simp
 by_cases hw:ws=[]
 ·exact Rr ⟨_,ho,rfl⟩ ⟨_,ho2,rfl⟩ noFill_tuple_add seq_tuple_add PySem.F.slot_tuple_add PySem.F.entry_tuple_add (PySem.F.args_tuple_add_2 _ _)
   (tuple_addW1 t b vs.toArray ws.toArray n n2 dd dd2 sl sl2 (by simpa using hv) (by simp[hw])) ⟨ho,ho2,h1 hw⟩
 ·refine Rr ⟨_,ho,rfl⟩ ⟨_,ho2,rfl⟩ noFill_tuple_add seq_tuple_add PySem.F.slot_tuple_add PySem.F.entry_tuple_add (PySem.F.args_tuple_add_2 _ _)
   (tuple_addW2 t b vs.toArray ws.toArray n n2 dd dd2 sl sl2 (by simpa using hv) (by simpa using hw) (by rw[M8,M8];exact hsz)) ⟨ho,ho2,?_⟩
  rw[e];exact h2 hw
def sIx(n d:Nat):Option Int->Nat
 | none=>d
 | some v=>if v < 0 then (v+(n:Int)).toNat else min v.toNat n
theorem sIx_le(n d:Nat)(hd:d<=n)(o:Option Int):sIx n d o<=n:=by
 cases o with
 | none=>exact hd
 | some v=>
  show (if v < 0 then (v+(n:Int)).toNat else min v.toNat n)<=n
  by_cases hv:v < 0
  ·rw[if_pos hv];omega
  ·rw[if_neg hv];exact Nat.min_le_right _ _
theorem B5(v:Int)(n d:Nat):(if v < 0 then max (v+(n:Int)) 0 else min v (n:Int))=((sIx n d (some v):Nat):Int):=by
 show (if v < 0 then max (v+(n:Int)) 0 else min v (n:Int))=(((if v < 0 then (v+(n:Int)).toNat else min v.toNat n):Nat):Int)
 by_cases hv:v < 0
 ·simp only[if_pos hv];omega
 ·simp only[if_neg hv];omega
theorem Bj(lo hi:Option Int)(n:Nat):Py lo hi 1 (n:Int)=(((sIx n 0 lo:Nat):Int),((sIx n n hi:Nat):Int)):=by
 have h1:¬ ((1:Int) < 0):=by walk_at "o"
 unfold Py;simp only[h1,if_false];refine Prod.ext ?_ ?_
 ·cases lo with
  | none=>rfl
  | some v=>exact B5 v n 0
 ·cases hi with
  | none=>rfl
  | some v=>exact B5 v n n
theorem AI(i j:Nat):OX (i:Int) (j:Int) 1=j - i:=by
 unfold OX;have h1:(1:Int) > 0:=by walk_at "o"
 simp only[h1,if_true,Int.ediv_one];split<;>omega
theorem sK(p:Qv v o)(h:Q o s):MZ (M0 prog w) A (Builtin.Slice.slicePartIndex v) Q E s:=by
 cases p with
 | none=>exact slicePart_none h
 | int i t=>exact slicePart_int h
theorem pO{sl:MT}{vl vu:MS}{lo hi:Option Int}{n:Nat}{Q:Int×Int×Nat->MU->Prop}(hs:s.heap.IsSliceOf sl vl vu .none)(pl:Qv vl lo)(pu:Qv vu hi)
  (h:Q (((sIx n 0 lo:Nat):Int),1,sIx n n hi - sIx n 0 lo) s):MZ (M0 prog w) A (Q1 (.ref sl) (pure (n:Int))) Q E s:=by
 obtain⟨os,hos,hcs,hds⟩:=id hs;unfold Q1 Builtin.Slice.sliceFields;refine MR (MR (N3 hos hds (x:=vl) rfl (MR (N3 hos hds (x:=vu) rfl (MR (N3 hos hds (x:=.none) rfl (MV ?_)))))));refine MR (slicePart_none ?_);show MZ _ _ (if ((1:Int) == 0)=true then _ else _) _ _ s
 rw[if_neg (by decide)]
 refine MR (sK pl (MR (sK pu (MR (MV ?_)))));show MZ _ _ (match Py lo hi 1 (n:Int) with|(lo,hi)=>pure (lo,(1:Int),OX lo hi 1)) _ _ s
 rw[Bj lo hi n];show MZ _ _ (pure (((sIx n 0 lo:Nat):Int),(1:Int),OX ((sIx n 0 lo:Nat):Int) ((sIx n n hi:Nat):Int) 1)) _ _ s
 rw[AI];exact MV h
theorem Er(xs:Array MS)(i k:Nat):((List.range k).filterMap fun (m:Nat)=>xs[((i:Int)+(m:Int)*1).toNat]?).toArray=((xs.toList.drop i).take k).toArray:=by
 have e:(fun (m:Nat)=>xs[((i:Int)+(m:Int)*1).toNat]?)=fun m=>xs[i+m]?:=by
  funext m;have:((i:Int)+(m:Int)*1).toNat=i+m:=by walk_at "o"
  rw[this]
 rw[e];have:=pick_run xs i k;rw[List.filterMap_map]at this;have e2:((fun x=>xs[x]?) ∘ fun x=>i+x)=fun m=>xs[i+m]?:=rfl;rw[e2]at this;rw[this]
theorem getItem_tuple_cut{t sl:MT}{items:Array MS}{vl vu:MS}{lo hi:Option Int}{Q:MS->MU->Prop}(ht:IsTup s.heap t items)(hs:s.heap.IsSliceOf sl vl vu .none)(pl:Qv vl lo)(pu:Qv vu hi)
  (hw:¬ (sIx items.size 0 lo=0/\sIx items.size items.size hi=items.size))
  (h:Q (.ref s.heap.objs.size) { s with heap:=s.heap.push { cls:=.type "tuple",data:=.seq ((items.toList.drop (sIx items.size 0 lo)).take (sIx items.size items.size hi - sIx items.size 0 lo)).toArray } })
  (hsz:items.size<=M1):MZ (M0 prog w) A (P5 (.ref t) (.ref sl)) Q E s:=by
 have SW:sizeOk (.seq ((items.toList.drop (sIx items.size 0 lo)).take (sIx items.size items.size hi - sIx items.size 0 lo)).toArray):=by
  show ((items.toList.drop (sIx items.size 0 lo)).take (sIx items.size items.size hi - sIx items.size 0 lo)).toArray.size<=M1
  rw[M8,NQ,PJ,Array.length_toList];omega
 have hj:sIx items.size items.size hi<=items.size:=sIx_le _ _ (le_refl _) hi;obtain⟨os,hos,hcs,hds⟩:=id hs;have hTs:s.TypeIs (.ref sl) "slice":=⟨os,hos,hcs⟩;unfold P5
 try with_reducible refine Nz ?_
 first|refine MR (MV ?_)|skip
 refine MR (wpAny_sequenceKey ht.typeIs (by decide) ?_)
 refine MR (N5 (name:=MW "__getitem__") ht.typeIs PyProof.Rows.slot_tuple_getitem
  (NY PyProof.Rows.slot_tuple_getitem ht.typeIs entry_tuple_getitem ?_ (args_tuple_getitem _ _)))
 show MZ _ _ (Builtin.Tuple.tupleItemsOf (.ref t) >>= _) _ _ s
 refine MR (tupleItemsOf_ ht ?_);refine MR (Rj hTs ?_);rw[if_pos (by decide)]
 refine MR (pO hs pl pu ?_);have hno:¬ ((((sIx items.size 0 lo:Nat):Int) == 0 && (1:Int) == 1 && (sIx items.size items.size hi - sIx items.size 0 lo) == items.size)=true):=by
  intro q;rw[Bool.and_eq_true,Bool.and_eq_true]at q;have q1:((sIx items.size 0 lo:Nat):Int)=0:=eq_of_beq q.1.1;have q2:sIx items.size items.size hi - sIx items.size 0 lo=items.size:=eq_of_beq q.2;exact hw ⟨by walk_at "o",by walk_at "o"⟩
 show MZ _ _ (if (((sIx items.size 0 lo:Nat):Int) == 0 && (1:Int) == 1 && (sIx items.size items.size hi - sIx items.size 0 lo) == items.size)=true then _ else _) _ _ s
 rw[if_neg hno,Er]
 first
  | exact MR (m:=O1 _) (Nx (MV ⟨_,rfl,MV h⟩) SW)
  | exact MR (m:=O1 _) (Nx (MR (MV (MV ⟨_,rfl,MV h⟩))) SW)
  | exact MR (MR (m:=O1 _) (Nx (MV (MV ⟨_,rfl,MV h⟩)) SW))
  | exact MR (MR (m:=O1 _) (Nx (MV ⟨_,rfl,MV h⟩) SW))
end
end HT
namespace L2
open PySem PySem.Spec PyProof.Rows
abbrev TO:=St->Hp->(Option Int->Hp->Prop)->Prop
def PO(X:Cx)(e:Option Nh)(t:TO):Prop:=
 ∀ (pins:List (MT×Obj)) (s:MU) (σ:St) (H:Hp) (Q:Option Int->Hp->Prop),Inv X pins σ H s->t σ H Q->
  MZ (M0 X.prog X.w) X.A (evalPart e X.env) (fun u s'=>∃ o H',Inv X pins σ H' s'/\Qv u o/\Q o H') X.xe s
def FO:TO:=fun _ H Q=>Q none H
def J0(t:TE):TO:=fun σ H Q=>t σ H fun x H1=>∃ i,x=.int i/\Q (some i) H1
section
variable{X:Cx}{e:Nh}{te:TE}{lo hi:Option Nh}{tl th:TO}{pos p2:Pos}
theorem Ge:PO X none FO:=by
 intro pins s σ H Q I h;rw[evalPart_none];exact MV ⟨none,H,I,.none,h⟩
theorem Gd(h:PE X e te):PO X (some e) (J0 te):=by
 intro pins s σ H Q I hw;rw[evalPart_some];refine bZ (h pins s σ H _ I hw) fun u s1 zz=>?_;obtain⟨x,H1,I1,r1,q1⟩:=zz;obtain⟨i,rfl,q⟩:=q1;obtain⟨t,rfl⟩:=r1;exact⟨some i,H1,I1,.int i t,q⟩
def Dn(X:Cx)(r:V->Option Int->Option Int->Hp->VK->Prop):Prop:=
 ∀ (pins:List (MT×Obj)) (s:MU) (σ:St) (H:Hp) (x:V) (v vl vu:MS) (lo hi:Option Int) (sl:MT) (Q:VK),Inv X pins σ H s->aH x v->s.heap.IsSliceOf sl vl vu .none->Qv vl lo->Qv vu hi->r x lo hi H Q->
  ∃ T id,P0 (.type T) "__getitem__"=pure (some (.builtin id))/\s.TypeIs v T/\MZ (M0 X.prog X.w) X.A (P5 v (.ref sl)) (EP X pins σ Q) X.xe s
theorem Dn.or(h:Dn X r)(h':Dn X r'):Dn X (fun x lo hi H Q=>r x lo hi H Q\/r' x lo hi H Q):=by
 intro pins s σ H x v vl vu lo hi sl Q I rx hs pl pu q;rcases q with q|q
 ·exact h pins s σ H x v vl vu lo hi sl Q I rx hs pl pu q
 ·exact h' pins s σ H x v vl vu lo hi sl Q I rx hs pl pu q
def Mt(r:V->Option Int->Option Int->Hp->VK->Prop)(te:TE)(tl th:TO):TE:=fun σ H Q=>te σ H fun x H1=>tl σ H1 fun l H2=>th σ H2 fun u H3=>r x l u H3 Q
theorem Ey(hr:Dn X r)(he:PE X e te)(hl:PO X lo tl)(hu:PO X hi th):PE X (.Subscript e (.Slice lo hi none p2) pos) (Mt r te tl th):=by
 intro pins s σ H Q I h;refine Sc (bZ (he pins s σ H _ I h) fun v s1 zz=>?_);obtain⟨x,H1,I1,r1,q1⟩:=zz;refine wpAny_Slice (bZ (hl pins s1 σ H1 _ I1 q1) fun vl s2 zz=>?_);obtain⟨l,H2,I2,pl,q2⟩:=zz;refine bZ (hu pins s2 σ H2 _ I2 q2) fun vu s3 zz=>?_;obtain⟨u,H3,I3,pu,q3⟩:=zz;rw[evalPart_none];refine MV ?_;have I4:Inv X pins σ H3 { s3 with heap:=s3.heap.push { cls:=.type "slice",data:=.fields #[vl,vu,.none] } }:=I3.kept (t':=s3.toks) fun b ob q=>MX _ q
 obtain⟨T,id,hT,ht,hg⟩:=hr pins { s3 with heap:=s3.heap.push { cls:=.type "slice",data:=.fields #[vl,vu,.none] } } σ H3 x v vl vu l u s3.heap.objs.size Q I4 r1 (Heap.IsSliceOf.new ..) pl pu q3
 show MZ (M0 X.prog X.w) X.A (Q5 e (.Slice lo hi none p2) v (.ref s3.heap.objs.size)) (EP X pins σ Q) X.xe { s3 with heap:=s3.heap.push { cls:=.type "slice",data:=.fields #[vl,vu,.none] } }
 exact tail_any (ops:=[.ref s3.heap.objs.size,v]) ht hT hg (by with_unfolding_all rfl)
def zS(xs:List V)(lo hi:Option Int):List V:=(xs.drop (HT.sIx xs.length 0 lo)).take (HT.sIx xs.length xs.length hi - HT.sIx xs.length 0 lo)
theorem rB(xs:List V)(lo hi:Option Int):(zS xs lo hi).length<=xs.length:=by
 unfold zS;rw[NQ,PJ];omega
def LP(K:Po):V->Option Int->Option Int->Hp->VK->Prop:=fun x lo hi H Q=>∃ a xs,x=.ref a/\ke K H a xs/\
 ¬ (HT.sIx xs.length 0 lo=0/\HT.sIx xs.length xs.length hi=xs.length)/\∀ p,H p=none->Q (.ref p) (aR H p (.tup (zS xs lo hi)))
theorem Im:Dn X (LP X.K):=by
 intro pins s σ H x v vl vu lo hi sl Q I rx hs pl pu h;obtain⟨a,xs,rfl,hx,hw,q⟩:=h;cases rx;obtain⟨its,r,ht,hz⟩:=I.tuple hx;have hlen:its.toArray.size=xs.length:=by rw[M8];exact r.length.symm
 refine⟨"tuple",_,PyProof.Rows.slot_tuple_getitem.lookup,ht.typeIs,?_⟩;refine HT.getItem_tuple_cut ht hs pl pu (by rw[hlen];exact hw) ?_ (by rw[hlen];exact hz)
 rw[hlen];refine⟨.ref s.heap.objs.size,_,I.laid (t':=s.toks) (o:=.tup (zS xs lo hi)) (fun b ob q=>MX _ q) (le_refl _) ?_,rfl,q _ (I.hok.fresh (le_refl _))⟩;exact⟨le_trans (rB xs lo hi) hz,_,(r.drop (HT.sIx xs.length 0 lo)).take (HT.sIx xs.length xs.length hi - HT.sIx xs.length 0 lo),vF.new _ _⟩
def Kc(K:Po):R2:=fun x y H Q=>∃ a b xs ys,x=.ref a/\y=.ref b/\ke K H a xs/\ke K H b ys/\xs≠[]/\xs.length+ys.length<=M1/\
 (ys=[]->Q (.ref a) H)/\(ys≠[]->∀ p,H p=none->Q (.ref p) (aR H p (.tup (xs ++ ys))))
theorem Vals.nil_iff(r:Vals xs us):us=[]↔xs=[]:=by
 cases r with
 | nil=>simp
 | cons _ _=>simp
theorem Gy:gf X (Oh .Add) (Kc X.K):=by
 intro pins s σ H x y v u Q I rx ry h;obtain⟨a,b,xs,ys,rfl,rfl,ha,hb,hx,hz,q1,q2⟩:=h;cases rx;cases ry;obtain⟨its,r1,p1,_⟩:=I.tuple ha;obtain⟨its2,r2,p2,_⟩:=I.tuple hb;refine HT.cat_tup p1 p2 (fun z=>hx (r1.nil_iff.mp z)) (fun z=>⟨.ref a,H,I,rfl,q1 (r2.nil_iff.mp z)⟩) (fun z=>?_) (by rw[<- r1.length,<- r2.length];exact hz)
 refine⟨.ref s.heap.objs.size,_,I.laid (t':=s.toks) (o:=.tup (xs ++ ys)) (fun b ob q=>MX _ q) (le_refl _) ?_,rfl,q2 (fun w=>z (r2.nil_iff.mpr w)) _ (I.hok.fresh (le_refl _))⟩;exact⟨by rw[NJ];exact hz,_,r1.append r2,vF.new _ _⟩
end
def HN(n:Nat)(i:Int):Option Nat:=if 0<=i then (if i < n then some i.toNat else none)else if -(n:Int)<=i then some (i+n).toNat else none
def iI{α:Type}(xs:List α)(i:Int):Option α:=(HN xs.length i).bind fun j=>xs[j]?
theorem BY(h:HN n i=some j):seqIndex? i n=some j/\j < n/\-(n:Int)<=i/\i < n:=by
 unfold HN at h
 by_cases h0:0<=i
 ·rw[if_pos h0]at h
  by_cases h1:i < n
  ·rw[if_pos h1]at h;have e:i.toNat=j:=Option.some.inj h;exact⟨by rw[RC h0 h1,e],by walk_at "o",by walk_at "o",h1⟩
  ·rw[if_neg h1]at h;cases h
 ·rw[if_neg h0]at h
  by_cases h1:-(n:Int)<=i
  ·rw[if_pos h1]at h;have e:(i+n).toNat=j:=Option.some.inj h;exact⟨by rw[seqIndex_neg (by walk_at "o") h1,e],by walk_at "o",h1,by walk_at "o"⟩
  ·rw[if_neg h1]at h;cases h
theorem xT{α:Type}{xs:List α}{i:Int}{v:α}(h:iI xs i=some v):∃ j,seqIndex? i xs.length=some j/\xs[j]?=some v/\j < xs.length/\-(xs.length:Int)<=i/\i < xs.length:=by
 unfold iI at h;cases e:HN xs.length i with
 | none=>rw[e]at h;cases h
 | some j=>
  rw[e]at h;obtain⟨h1,h2,h3,h4⟩:=BY e;exact⟨j,h1,h,h2,h3,h4⟩
def Cc(b:Nh):Prop:=∀ o i,QK b false o i=operate [o,i] (P5 o i)
def Dp(X:Cx)(r:R2):Prop:=
 ∀ (value slice:Nh) (pins:List (MT×Obj)) (s:MU) (σ:St) (H:Hp) (x y:V) (v u:MS) (Q:VK),Inv X pins σ H s->aH x v->aH y u->r x y H Q->
  QK slice false v u=operate [v,u] (P5 v u)->MZ (M0 X.prog X.w) X.A (Q5 value slice v u) (EP X pins σ Q) X.xe s
def MK(X:Cx)(id:String)(r:V->List V->Hp->VK->Prop):Prop:=
 ∀ (pins:List (MT×Obj)) (s:MU) (σ:St) (H:Hp) (x:V) (xs:List V) (v:MS) (us:List MS) (Q:VK),Inv X pins σ H s->aH x v->Vals xs us->r x xs H Q->
  MZ (M0 X.prog X.w) X.A (call (.builtin id) (v::us)) (EP X pins σ Q) X.xe s
section
variable{X:Cx}{a b:Nh}{ta tb:TE}{pos:Pos}
theorem Dp.or(h:Dp X r)(h':Dp X r'):Dp X (fun x y H Q=>r x y H Q\/r' x y H Q):=by
 intro value slice pins s σ H x y v u Q I rx ry q hs;rcases q with q|q
 ·exact h value slice pins s σ H x y v u Q I rx ry q hs
 ·exact h' value slice pins s σ H x y v u Q I rx ry q hs
theorem Kk(hr:Dp X r)(ha:PE X a ta)(hb:PE X b tb)(hs:Cc b):PE X (.Subscript a b pos) (JN r ta tb):=by
 intro pins s σ H Q I h;exact Sc (JC ha hb I h fun v u s2 x y H2 I2 rx ry q=>hr a b pins s2 σ H2 x y v u Q I2 rx ry q (hs _ _))
def Kb(K:Po):R2:=fun x y H Q=>∃ p xs i v,x=.ref p/\y=.int i/\kg K H p xs/\iI xs i=some v/\Q v H
def J_(K:Po):R2:=fun x y H Q=>∃ p xs i v,x=.ref p/\y=.int i/\ke K H p xs/\iI xs i=some v/\Q v H
def Ka:R2:=fun x y H Q=>∃ z i c,x=.str z/\y=.int i/\z.length<=M1/\iI z.cps.toList i=some c/\Q (.str ⟨#[c]⟩) H
theorem GQ:Dp X (Kb X.K):=by
 intro value slice pins s σ H x y v u Q I rx ry h hs;obtain⟨p,xs,i,z,rfl,rfl,hq,he,q⟩:=h;cases rx;obtain⟨t,rfl⟩:=ry;obtain⟨its,r,pl,hz⟩:=I.list hq;obtain⟨j,h1,h2,h3,h4,h5⟩:=xT he;obtain⟨w,ew,rw'⟩:=r.get h2;have hl:=r.length;have hn:=lD;have fin:EP X pins σ Q w s:=⟨z,H,I,rw',q⟩
 by_cases h0:0<=i
 ·have hj:i.toNat=j:=by
   rw[RC h0 h5]at h1;exact Option.some.inj h1
  exact item_listR pl.isList h0 (by walk_at "o") (by rw[hj];simpa using ew) fin hs
 ·have hj:(i+(its.toArray.size:Int)).toNat=j:=by
   rw[seqIndex_neg (by walk_at "o") h4]at h1
   rw[M8,<- hl];exact Option.some.inj h1
  exact Rl (x:=w) pl.isList.typeIs slot_list_getitem.lookup
   (wpAny_getItem_list_neg (Q:=fun r s'=>r=w/\EP X pins σ Q r s') pl.isList (by walk_at "o") (by rw[M8]<;>omega) (by walk_at "o") (by rw[hj];simpa using ew) ⟨rfl,fin⟩) hs
theorem Jh:Dp X (J_ X.K):=by
 intro value slice pins s σ H x y v u Q I rx ry h hs;obtain⟨p,xs,i,z,rfl,rfl,hq,he,q⟩:=h;cases rx;obtain⟨t,rfl⟩:=ry;obtain⟨its,r,pl,hz⟩:=I.tuple hq;obtain⟨j,h1,h2,h3,h4,h5⟩:=xT he;obtain⟨w,ew,rw'⟩:=r.get h2;have hl:=r.length;have hn:=lD;have fin:EP X pins σ Q w s:=⟨z,H,I,rw',q⟩;exact Rl (x:=w) pl.typeIs slot_tuple_getitem.lookup
  (getItem_tuple (j:=j) (Q:=fun r s'=>r=w/\EP X pins σ Q r s') pl (by walk_at "o") (by walk_at "o") (by rw[M8,<- hl];exact h1) (by simpa using ew) ⟨rfl,fin⟩) hs
theorem Ji:Dp X Ka:=by
 intro value slice pins s σ H x y v u Q I rx ry h hs;obtain⟨z,i,c,rfl,rfl,hz,he,q⟩:=h;obtain⟨t,rfl⟩:=rx;obtain⟨t',rfl⟩:=ry;obtain⟨j,h1,h2,h3,h4,h5⟩:=xT he;have hl:z.cps.toList.length=z.length:=by simp[Qu]
 rw[hl]at h1 h4 h5;have hn:=lD;exact tail_any (R1 s z t) slot_str_getitem.lookup (getItem_str (c:=c) (by
  have e1:decide (i < -(2 ^ 63:Int))=false:=decide_eq_false (by walk_at "o")
  have e2:decide (i>=2 ^ 63)=false:=decide_eq_false (by walk_at "o")
  rw[e1,e2,Bool.or_false]) (by rw[h1];simpa using h2) ⟨.str ⟨#[c]⟩,H,I.tok _,⟨_,rfl⟩,q⟩) hs
def My(K:Po):R2:=fun x y H Q=>Kb K x y H Q\/J_ K x y H Q\/Ka x y H Q
theorem Jj:Dp X (My X.K):=GQ.or (Jh.or Ji)
theorem AT(its:List MS)(n j:Nat)(u:MS):OD (·.setIfInBounds j u) { cls:=.type "list",data:=.seq its.toArray n }={ cls:=.type "list",data:=.seq (its.set j u).toArray n }:=by
 simp[OD]
theorem Inv.lst{pins:List (MT×Obj)}{σ:St}{H:Hp}{s:MU}{p:MT}{xs:List V}(I:Inv X pins σ H s)(h:H p=some (.lst xs)):
  ∃ (its:List MS) (n:Nat),Vals xs its/\s.heap.get? p=some { cls:=.type "list",data:=.seq its.toArray n }/\xs.length<=M1:=by
 obtain⟨z,its,n,r,e⟩:=I.hok p _ h;exact⟨its,n,r,e,z⟩
theorem Inv.lstUpd{pins:List (MT×Obj)}{σ:St}{H:Hp}{s:MU}{p:MT}{xs ys:List V}{its its':List MS}{n n':Nat}{f:Obj->Obj}(I:Inv X pins σ H s)(h:H p=some (.lst xs))
  (ho:s.heap.get? p=some { cls:=.type "list",data:=.seq its.toArray n }) (hf:f { cls:=.type "list",data:=.seq its.toArray n }={ cls:=.type "list",data:=.seq its'.toArray n' }) (r:Vals ys its') (hz:ys.length<=M1) (t:Nat):
  Inv X pins σ (aR H p (.lst ys)) { s with heap:=s.heap.update p f,toks:=t }:=by
 have e:(s.heap.update p f).get? p=some { cls:=.type "list",data:=.seq its'.toArray n' }:=by
  rw[N9 f ho (by rw[hf]<;>rfl),hf]
 refine I.write (x:=p) (e:=p) (by rw[h];trivial) (.inl rfl) (fun b u hb q=>(Ny _ _ (Ne.symm hb)).trans q) ⟨_,e⟩ ?_
 exact⟨hz,its',n',r,e⟩
def J9:V->V->V->Hp->(Hp->Prop)->Prop:=fun o i v H Q=>∃ p xs k j,o=.ref p/\i=.int k/\H p=some (.lst xs)/\HN xs.length k=some j/\Q (aR H p (.lst (xs.set j v)))
theorem DQ:JJ X J9:=by
 intro pins s σ H o i v ov iv u Q I ro ri rv h;obtain⟨p,xs,k,j,rfl,rfl,hp,hj,q⟩:=h;cases ro;obtain⟨t,rfl⟩:=ri;obtain⟨its,n,r,ho,hz⟩:=I.lst hp;obtain⟨h1,h2,h3,h4⟩:=BY hj;have hl:=r.length;have hn:=lD;have I':Inv X pins σ (aR H p (.lst (xs.set j v))) { s with heap:=s.heap.update p (OD (·.setIfInBounds j u)) }:=
  I.lstUpd hp ho (AT its n j u) (r.set rv j) (by rw[List.length_set];exact hz) s.toks
 by_cases h0:0<=k
 ·have hk:k.toNat=j:=by
   rw[RC h0 h4]at h1;exact Option.some.inj h1
  exact PySem.W.ki_setAt ho h0 (by walk_at "o") (by rw[M8,<- hl];exact h4) (by rw[hk];exact⟨_,I',q⟩)
 ·have hk:(k+(its.toArray.size:Int)).toNat=j:=by
   rw[seqIndex_neg (by walk_at "o") h3]at h1
   rw[M8,<- hl];exact Option.some.inj h1
  exact PySem.W.ki_setBack ho (by walk_at "o") (by rw[M8,<- hl];exact h3) (by walk_at "o") (by rw[hk];exact⟨_,I',q⟩)
theorem wK(lo hi:Option Int)(n:Nat):(OH lo hi none n).1=((HT.sIx n 0 lo:Nat):Int)/\(OH lo hi none n).2.1=((HT.sIx n n hi:Nat):Int)/\(OH lo hi none n).2.2=1:=by
 refine⟨?_,?_,rfl⟩
 ·cases lo with
  | none=>simp[OH,HT.sIx]
  | some i=>
   simp only[OH,HT.sIx,Option.getD_none,show (1:Int) > 0 by decide,if_true]
   by_cases h:i < 0
   ·simp only[h,if_true]<;>omega
   ·simp only[h,if_false]<;>omega
 ·cases hi with
  | none=>simp[OH,HT.sIx]
  | some i=>
   simp only[OH,HT.sIx,Option.getD_none,show (1:Int) > 0 by decide,if_true]
   by_cases h:i < 0
   ·simp only[h,if_true]<;>omega
   ·simp only[h,if_false]<;>omega
theorem uT(its:List MS)(lo hi:Option Int):slicePick its.toArray lo hi none=((its.drop (HT.sIx its.length 0 lo)).take (HT.sIx its.length its.length hi - HT.sIx its.length 0 lo)).toArray:=by
 obtain⟨h1,h2,h3⟩:=wK lo hi its.toArray.size;unfold slicePick;rw[h1,h2,h3];simp only[sliceRange_one,pick_run,M8]<;>rfl
def LQ(K:Po):V->Option Int->Option Int->Hp->VK->Prop:=fun x lo hi H Q=>∃ a xs,x=.ref a/\kg K H a xs/\∀ p,H p=none->Q (.ref p) (aR H p (.lst (zS xs lo hi)))
theorem FU:Dn X (LQ X.K):=by
 intro pins s σ H x v vl vu lo hi sl Q I rx hs pl pu h;obtain⟨a,xs,rfl,hx,q⟩:=h;cases rx;obtain⟨its,r,ht,hz⟩:=I.list hx;have hlen:=r.length;refine⟨"list",_,slot_list_getitem.lookup,ht.isList.typeIs,?_⟩;refine wpAny_getItem_list_slice ht.isList hs pl pu .none (by simp) ?_ (by rw[M8]<;>omega)
 rw[uT,<- hlen];refine⟨.ref s.heap.objs.size,_,I.laid (t':=s.toks) (o:=.lst (zS xs lo hi)) (fun b ob q=>MX _ q) (le_refl _) ?_,rfl,q _ (I.hok.fresh (le_refl _))⟩;exact⟨le_trans (rB xs lo hi) hz,_,0,(r.drop (HT.sIx xs.length 0 lo)).take (HT.sIx xs.length xs.length hi - HT.sIx xs.length 0 lo),M3 _ rfl⟩
theorem xP:d9 X (.builtin "len") (fun xs H Q=>∃ p ys,xs=[.ref p]/\(kg X.K H p ys\/ke X.K H p ys)/\Q (.int ys.length) H):=by
 intro pins s σ H xs us Q I r h;obtain⟨p,ys,rfl,hq,q⟩:=h;obtain⟨u,rfl,rx⟩:=yF r;cases rx;have hn:=lD;rcases hq with hq|hq
 ·obtain⟨its,r',pl,hz⟩:=I.list hq;have hlen:=r'.length;exact Calls.call_len_list pl.isList (by simp only[M8]<;>omega) ⟨.int ys.length,H,I.tok _,⟨s.toks+1,by rw[M8,hlen]⟩,q⟩
 ·obtain⟨its,r',pl,hz⟩:=I.tuple hq;have hlen:=r'.length;exact len_tuple pl (by simp only[M8]<;>omega) ⟨.int ys.length,H,I.tok _,⟨s.toks+1,by rw[M8,hlen]⟩,q⟩
theorem xO:d9 X (.builtin "len") (fun xs H Q=>∃ z,xs=[.str z]/\z.length<=M1/\Q (.int z.length) H):=by
 intro pins s σ H xs us Q I r h;obtain⟨z,rfl,hz,q⟩:=h;obtain⟨u,rfl,t,rfl⟩:=yF r;have hn:=lD;exact len_str (by walk_at "o") ⟨.int z.length,H,I.tok _,⟨_,rfl⟩,q⟩
theorem d9.or(h:d9 X f r)(h':d9 X f r'):d9 X f (fun xs H Q=>r xs H Q\/r' xs H Q):=by
 intro pins s σ H xs us Q I rs q;rcases q with q|q
 ·exact h pins s σ H xs us Q I rs q
 ·exact h' pins s σ H xs us Q I rs q
theorem xN:d9 X (.type "list") (fun xs H Q=>∃ p ys,xs=[.ref p]/\(kg X.K H p ys\/ke X.K H p ys)/\∀ l,H l=none->Q (.ref l) (aR H l (.lst ys))):=by
 intro pins s σ H xs us Q I r h;obtain⟨p,ys,rfl,hq,q⟩:=h;obtain⟨u,rfl,rx⟩:=yF r;cases rx;have fin:∀ (its:List MS),Vals ys its->ys.length<=M1->∀ (h':Nf) (c':Nat),(∀ b o',s.heap.get? b=some o'->h'.get? b=some o')->
   h'.get? s.heap.objs.size=some { cls:=.type "list",dict:=none,data:=.seq its.toArray c',slots:=#[] }->EP X pins σ Q (.ref s.heap.objs.size) { s with heap:=h' }:=fun its r' hz h' c' kp e=>
  ⟨.ref s.heap.objs.size,_,I.laid (t':=s.toks) kp (le_refl _) (show ba X.prog X.w _ h' _ (.lst ys)from ⟨hz,its,c',r',e⟩),rfl,q _ (I.hok.fresh (le_refl _))⟩
 rcases hq with hq|hq
 ·obtain⟨its,r',pl,hz⟩:=I.list hq;have hlen:=r'.length;obtain⟨o,ho,hc,n,hd⟩:=pl.isList;exact call_list_seq p (.inl rfl) ho hc hd (fun h' c' kp e=>fin its r' hz h' c' kp e) (by simp only[M8]<;>omega)
 ·obtain⟨its,r',pl,hz⟩:=I.tuple hq;have hlen:=r'.length;obtain⟨o,ho,hc,n,hd⟩:=pl;exact call_list_seq p (.inr rfl) ho hc hd (fun h' c' kp e=>fin its r' hz h' c' kp e) (by simp only[M8]<;>omega)
theorem vD:d9 X (.type "tuple") (fun xs H Q=>∃ p ys,xs=[.ref p]/\((kg X.K H p ys/\∀ l,H l=none->Q (.ref l) (aR H l (.tup ys)))\/(ke X.K H p ys/\Q (.ref p) H))):=by
 intro pins s σ H xs us Q I r h;obtain⟨p,ys,rfl,h⟩:=h;obtain⟨u,rfl,rx⟩:=yF r;cases rx;rcases h with ⟨hq,q⟩|⟨hq,q⟩
 ·obtain⟨its,r',pl,hz⟩:=I.list hq;have hlen:=r'.length;refine call_tuple_list pl.isList (fun h' kp=>?_) (by simp only[M8]<;>omega)
  have I1:Inv X pins σ H { s with heap:=h' }:=I.kept (t':=s.toks) kp
  have I2:Inv X pins σ (aR H h'.objs.size (.tup ys)) { s with heap:=h'.push { cls:=.type "tuple",data:=.seq its.toArray } }:=
   I1.laid (t':=s.toks) (fun b o e=>MX _ e) (le_refl _) (show ba X.prog X.w _ _ _ (.tup ys)from ⟨hz,its,r',vF.new _ _⟩)
  exact⟨.ref h'.objs.size,_,I2,rfl,q _ (I1.hok.fresh (le_refl _))⟩
 ·obtain⟨its,r',pl,hz⟩:=I.tuple hq;exact call_tuple_same pl ⟨.ref p,H,I,rfl,q⟩
def Mn(K:Po)(T:String)(x:V)(H:Hp):Prop:=match x with
 | .str _=>T="str"
 | .int _=>T="int"
 | .ref p=>(T="list"/\∃ xs,kg K H p xs)\/(T="tuple"/\∃ o,K.lookup p=some o/\o.cls=.type "tuple"/\o.dict=none)\/
   (T="dict"/\((∃ kvs,H p=some (.dK kvs))\/∃ kvs,H p=some (.dT kvs)))\/(T="set"/\∃ S n,H p=some (.set S n))
 | _=>False
theorem Ic{pins:List (MT×Obj)}{σ:St}{H:Hp}{s:MU}{T:String}{x:V}{v:MS}(I:Inv X pins σ H s)(r:aH x v)(ty:Mn X.K T x H):
  s.TypeIs v T/\∀ a,v=.ref a->∃ ob,s.heap.get? a=some ob/\ob.dict=none:=by
 cases x with
 | str z=>
  obtain⟨t,rfl⟩:=r;cases (show T="str" from ty)
  exact⟨R1 s z t,fun _ e=>nomatch e⟩
 | int i=>
  obtain⟨t,rfl⟩:=r;cases (show T="int" from ty)
  exact⟨typeIs_int s i t,fun _ e=>nomatch e⟩
 | ref p=>
  cases r;rcases ty with ⟨rfl,xs,hq⟩|⟨rfl,o,hk,hc,hd⟩|⟨rfl,hk⟩|⟨rfl,S,n,hk⟩
  ·obtain⟨its,_,pl,_⟩:=I.list hq;refine⟨pl.isList.typeIs,fun a e=>?_⟩;cases e;obtain⟨o,n,e,c,hd,_⟩:=pl;exact⟨o,e,hd⟩
  ·refine⟨⟨o,I.kIn p o hk,hc⟩,fun a e=>?_⟩;cases e;exact⟨o,I.kIn _ o hk,hd⟩
  ·have z:∃ o,s.heap.get? p=some o/\o.ExactDict:=by
    rcases hk with ⟨kvs,hk⟩|⟨kvs,hk⟩
    ·obtain⟨_,_,_,_,o,_,_,e,ex,_⟩:=I.hok p _ hk;exact⟨o,e,ex⟩
    ·obtain⟨_,_,_,_,o,_,_,e,ex,_⟩:=I.hok p _ hk;exact⟨o,e,ex⟩
   obtain⟨o,e,ex⟩:=z;refine⟨⟨o,e,ex.1⟩,fun a e2=>?_⟩;cases e2;exact⟨o,e,ex.2.1⟩
  ·obtain⟨o,_,_,_,e,ex,_⟩:=I.hok p _ hk;refine⟨⟨o,e,ex.1⟩,fun a e2=>?_⟩;cases e2;exact⟨o,e,ex.2.1⟩
 | _=>exact False.elim ty
def Mv(K:Po)(T:String)(r:V->List V->Hp->VK->Prop)(to:TE)(t:TA):TE:=fun σ H Q=>to σ H fun x H1=>Mn K T x H1/\t σ H1 fun xs H2=>r x xs H2 Q
variable{o e:Nh}{es:List Nh}{to:TE}{t:TA}{name:Str}{apos cpos:Pos}{T id:String}{r:V->List V->Hp->VK->Prop}
theorem Km(pa:PlainAttrs T)(slot:Slot T name id)(hty:typeOf (.builtin id)=pure (.type "method_descriptor"))(hm:MK X id r)(ho:PE X o to)(ha:PA X (e::es) t)(Sz:Op o name X.env (eval o X.env)=eval o X.env:=by rfl)(T6:((NZ cpos (M5 (e::es) X.env)).all (fun x=>!x.1) && (O0 cpos (Oo [] X.env)).all (fun x=>x.1.isSome)
   && decide ((e::es).length+([]:List QT).length+(if ([]:List QT).isEmpty then 0 else 1) < 30))=true:=by rfl)(SG:(apos.endLine == cpos.line)=true:=by rfl)(hs:M5 (e::es) X.env=(false,eval e X.env)::M5 es X.env:=by rfl)(SR:(NZ cpos (M5 es X.env)).any (·.1)=false:=by rfl):
  PE X (.Call (.Attribute o name apos) (e::es) [] cpos) (Mv X.K T r to t):=by
 intro pins s σ H Q I h;refine wpAny_Call_method_late Sz T6 SG rfl (bZ (ho pins s σ H _ I h) fun v s1 zz=>?_);obtain⟨x,H1,I1,r1,ty,q1⟩:=zz;obtain⟨h1,h2⟩:=Ic I1 r1 ty;refine⟨T,id,pa,slot,hty,h1,h2,?_⟩;have hA:=ha cpos pins s1 σ H1 _ I1 q1;rw[hs]at hA ⊢;refine Pe (by show (false || (NZ cpos (M5 es X.env)).any (·.1))=false;rw[SR]<;>rfl) (RM ?_)
 exact bZ hA fun us s2 ⟨vs,H2,I2,r2,q2⟩=>hm pins s2 σ H2 x vs v us Q I2 r1 r2 q2
end
def ML(X:Cx)(id:String)(r:V->List V->Hp->VK->Prop):Prop:=
 ∀ (pins:List (MT×Obj)) (s:MU) (σ:St) (H:Hp) (x:V) (xs:List V) (v:MS) (us:List MS) (Q:VK),Inv X pins σ H s->aH x v->Vals xs us->r x xs H Q->
  MZ (M0 X.prog X.w) X.A (call (.builtin id) (v::us)) (EP X pins σ Q) X.xe s
section
variable{X:Cx}{pins:List (MT×Obj)}{σ:St}{H:Hp}{s:MU}{l b:MT}{xs ys zs:List V}
theorem Inv.lset{its its':List MS}{n:Nat}{f:Array MS->Array MS}{t':Nat}(I:Inv X pins σ H s)(hH:H l=some (.lst xs))
  (e:s.heap.get? l=some { cls:=.type "list",data:=.seq its.toArray n }) (hf:f its.toArray=its'.toArray) (hv:Vals ys its') (hz:ys.length<=M1):
  Inv X pins σ (aR H l (.lst ys)) { s with heap:=s.heap.update l (OD f),toks:=t' }:=by
 have q:=PySem.IsL.update e f;rw[hf]at q;refine I.write (x:=l) (e:=l) (by rw[hH];exact trivial) (.inl rfl) (fun b' u hb hu=>(Ny s.heap (OD f) (Ne.symm hb)).trans hu) ⟨_,q⟩ ?_
 exact⟨hz,its',_,hv,q⟩
theorem Inv.lnew(I:Inv X pins σ H s)(hv:Vals ys its)(hz:ys.length<=M1):
  Inv X pins σ (aR H s.heap.objs.size (.lst ys)) { s with heap:=s.heap.push { cls:=.type "list",data:=.seq its.toArray },toks:=t' }:=
 I.laid (fun _ _ q=>MX _ q) (le_refl _) ⟨hz,its,0,hv,M3 _ rfl⟩
theorem Inv.fresh(I:Inv X pins σ H s):H s.heap.objs.size=none:=I.hok.fresh (le_refl _)
theorem Inv.lstM(I:Inv X pins σ H s)(hH:H l=some (.lst xs)):xs.length<=M1/\∃ (its:List MS) (n:Nat),Vals xs its/\xs.length=its.length/\s.heap.get? l=some { cls:=.type "list",data:=.seq its.toArray n }:=by
 obtain⟨z,its,n,r,e⟩:=I.hok l _ hH;exact⟨z,its,n,r,r.length,e⟩
end
section
variable{X:Cx}
def rAppend:V->List V->Hp->VK->Prop:=fun x vs H Q=>∃ l xs y,x=.ref l/\vs=[y]/\H l=some (.lst xs)/\xs.length < M1/\Q .non (aR H l (.lst (xs ++ [y])))
theorem v8:ML X "list.append" rAppend:=by
 intro pins s σ H x vs v us Q I rx rv h;obtain⟨l,xs,y,rfl,rfl,hH,hz,q⟩:=h;cases rx;obtain⟨u,rfl,ru⟩:=yF rv;obtain⟨z,its,n,r,hl,e⟩:=I.lstM hH;refine Sa F.slot_list_append ⟨_,e,rfl⟩ F.entry_list_append (F.args_list_append_2 _ _) (PySem.list_append l its.toArray n u (by rw[M8];omega)) ⟨e,?_⟩
 refine⟨.non,_,I.lset (its':=its ++ [u]) hH e (by simp) (r.append (.cons ru .nil)) ?_,rfl,q⟩
 rw[NJ,List.length_singleton];omega
end
end L2
namespace Att
open PySem PySem.W PySem.Calls PyProof.Rows
theorem r6:∀ (ns:List Int) (vs:List MS),WellAll P h vs (ns.map WData.int)->Rs vs ns:=by
 intro ns
 induction ns with
 | nil=>
  intro vs w;rw[PF]at w;cases w;exact .nil
 | cons n ns ih=>
  intro vs w;rw[Nk]at w;cases w with
  | cons a b=>
   cases a;exact .cons _ _ (ih _ b)
theorem Co{l:OpenLaw}{n:Nat}(hn:l.most=some n){P:Params}{h:Nf}{args:List WData}{vals:List MS}
  (S9:l.row.toRowW.claim.pre args=true) (hwl:WellAll P h vals args):
  ∃ a vs ns,vals=[Value.ref a]/\args=[WData.list (ns.map WData.int)]/\h.get? a=some { cls:=.type "list",data:=.seq vs.toArray }/\Rs vs ns/\ns.length<=n:=by
 have hsh:WShape.hasAll [] args [.list .int]=true:=(pre_splitW S9).1;have hc:l.pre.holds [] { args:=args }=true:=(pre_splitW S9).2;obtain⟨d,r,rfl,h1,h2⟩:=hasAllW_cons hsh;obtain rfl:=hasAllW_nil h2;obtain⟨xs,rfl,h3⟩:=hasW_list h1;obtain⟨ns,rfl⟩:=items_int h3;have hlen:ns.length<=n:=by
  unfold OpenLaw.pre at hc;have h4:(WTm.not (.lt (.lit (.int (n:Int))) (.len (.arg 0)))).holds [] { args:=[.list (ns.map .int)] }=true:=by
   have h4:=(holds_andW hc).1;rw[hn]at h4;exact h4
  have h5:=condW_of h4 (w_not (w_lt w_lit (w_len_list (w_arg rfl))));rw[MY]at h5;refine Nat.le_of_not_lt fun q=>?_;have q':(n:Int) < ((ns.length:Nat):Int):=by walk_at "o"
  first
   | (rw[decide_eq_true q']at h5;exact absurd h5 (by decide))
   | (simp at h5;omega)
 cases hwl with
 | cons w1 w2=>
  cases w2;cases w1 with
  | list ho hall=>exact⟨_,_,ns,rfl,rfl,ho,r6 ns _ hall,hlen⟩
theorem Cv(l:OpenLaw)(args:List WData):l.row.toRowW.claim.post args (.bool true) args=true:=
 postW_of (r:=l.row.toRowW) (X:=(true == true))
  (show WShape.has [] (.bool true) .bool=true by first|rfl|decide|simp[WShape.has,WShape.arms,WShape.armsAll])
  (show (WTm.eq .res (.lit (.bool true))).value [] { args:=args,res:=some (.bool true),after:=args }=some (.bool (true == true))from w_eq_bool (w_res rfl) w_lit) rfl
theorem attach_call{l:OpenLaw}{n:Nat}{q:M9}{loose:List Str}{XP:(Str->Option MS)->Nf->Prop}{YP:Ng->Nf->Prop}{d:DefRec}
  (hn:l.most=some n) (hdf:d.params.defaults=[])
  (call:∀ (w:Ng) (s₀ s₁:MU) (mg mb:Str->Option MS) (fa:MT) (o:Obj) (pm cd doc:MS) (a:MT) (vs:List MS) (ns:List Int),
   Ground q loose [] XP w s₀ mg mb s₁.heap->YP w s₁.heap->
   s₁.heap.get? fa=some o->o.data=.func (docDef d.name d.params d.body d.scope pm cd doc)->s₁.heap.CodeRec cd d.name->mg d.name=some (.ref fa)->
   s₁.heap.get? a=some { cls:=.type "list",data:=.seq vs.toArray }->Rs vs ns->ns.length<=n->s₁.gens=#[]->
   Oz (M0 l.prog w) Qn (.call (.ref fa) ⟨[.ref a],[]⟩) (fun r s'=>r=.ok (.ret (.bool true))/\OldK s₁.heap s'.heap/\s'.os=s₁.os/\PM s'.gens) s₁):
  WalkO q loose XP YP l.row.toRowW d [] (fun f vs=>PySem.call f vs):=by
 intro w s₀ s₁ mg mb G Y fa o pm cd doc dV kV ho hd hcd hD hmg hg args vals as S9 hlay hrd hwl hlo;obtain rfl:dV=.none:=Dflts.none hD hdf;obtain rfl:kV=.none:=Dflts.noKw hD;obtain⟨a,vs,ns,rfl,rfl,SJ,hints,hlen⟩:=Co hn S9 hwl;refine enter_call (Oy (call w s₀ s₁ mg mb fa o pm cd doc a vs ns G Y ho (fd_plain hd) hcd hmg SJ hints hlen hg) fun r s' hq=>?_);obtain⟨rfl,h2,h3,h4⟩:=hq;exact⟨.inl ⟨.bool true,.bool true,[],rfl,fun _=>rfl,.bool true,Cv l _,fun _=>⟨List.Pairwise.nil,fun _ hm=>(nomatch hm)⟩⟩,h2,h3,h4⟩
end Att
namespace L2
open PySem PySem.Spec PyProof.Rows
theorem vO:∀ {vs:List MS} {ns:List Int},Rs vs ns->Vals (ns.map V.int) vs
 | _,_,.nil=>.nil
 | _,_,.cons n t h=>.cons ⟨t,rfl⟩ (vO h)
def Hn(H:Hp):Prop:=∀ b,H b=none\/∃ o xs,H b=some (.frz o (.lst xs))
theorem EW{P:M9}{w:Ng}{K:Po}{mg mb:Str->Option MS}{CX:Dv}{k:Nat}{fa a:MT}{fd:N4}{x:Str}{sp:Sp}{s₁:MU}{vs:List MS}{ns:List Int}
  (KX:K.In s₁.heap) (hns:s₁.heap.Ns Na mg) (hb:s₁.heap.Ns Sb mb) (hbb:∀ x:Str,x≠"__name__"->mb x=Of x) (Uy:s₁.heap.NoLimit) (hg:s₁.gens=#[])
  (ha:s₁.heap.get? a=some { cls:=.type "list",data:=.seq vs.toArray }) (hi:Rs vs ns) (hl:ns.length<=M1) (hr:Room k Qn)
  (F:∀ base:Nf,K.In base->base.Ns Na mg->FnOk P w K mg base CX k fa fd [x] sp) (Uk:∀ (s:MU) (u:MS),QU s fd ⟨[u],[]⟩ [(x,u)])
  (hsp:∀ H:Hp,Hn H->kg K H a (ns.map V.int)->sp [.ref a] H (fun v _=>v=.bl true) fun _ _ _=>False)
  (hCX:∀ H e s',CX [] H s₁ (fun _ _ _=>False) e s'->False):
  Oz (M0 P w) Qn (.call (.ref fa) ⟨[.ref a],[]⟩) (fun r s'=>r=.ok (.ret (.bool true))/\OldK s₁.heap s'.heap/\s'.os=s₁.os/\PM s'.gens) s₁:=by
 have rv:=vO hi;have Us:=hi.length;have core:∀ H:Hp,Hn H->kg K H a (ns.map V.int)->l8 P w H s₁.heap->(∀ b,H b≠none->b=a)->(H a≠none->K.lookup a=none)->
   Oz (M0 P w) Qn (.call (.ref fa) ⟨[.ref a],[]⟩) (fun r s'=>r=.ok (.ret (.bool true))/\OldK s₁.heap s'.heap/\s'.os=s₁.os/\PM s'.gens) s₁:=by
  intro H hO hS hok hA hK;have S2:∀ {b:MT} {o:Obj},s₁.heap.get? b=some o->H b=none->(xF s₁.heap H).get? b=some o:=fun e n=>E9 e n;have noA:∀ {b:MT} {o:Obj} {es:Array Rg} {ep:Nat},s₁.heap.get? b=some o->o.data=.dict es ep->H b=none:=fun {b o es ep} e d=>by
   cases q:H b with
   | none=>rfl
   | some u=>
    have e':b=a:=hA b (by rw[q];simp)
    subst e';rw[ha]at e;cases e;have d':Data.seq vs.toArray _=Data.dict es ep:=d;cases d'
  have nsK:∀ {b:MT} {m:Str->Option MS},s₁.heap.Ns b m->(xF s₁.heap H).Ns b m:=fun {b m} ⟨o,es,ep,e,d,r⟩=>⟨o,es,ep,S2 e (noA e d),d,r⟩;have hKb:K.In (xF s₁.heap H):=fun b o e=>S2 (KX b o e) (by
   cases q:H b with
   | none=>rfl
   | some u=>
    have e':b=a:=hA b (by rw[q];simp)
    subst e';rw[hK (by rw[q];simp)]at e;cases e)
  have hM:Mod K mg (xF s₁.heap H):=⟨hKb,nsK hns,⟨mb,nsK hb,hbb⟩,let ⟨mc,h1,h2⟩:=Uy;⟨mc,nsK h1,h2⟩⟩;have e0:Env0 P w K mg (xF s₁.heap H) Qn [] s₁ H:=⟨rfl,hM,fun b o e=>GA e,Qf (CZ _ _),trivial,fun b hb=>absurd (show b∈([]:List MT)from hb) (by simp),hok,.of_eq hg⟩
  refine Oy ((F _ hKb (nsK hns)).run Qn [] s₁ H ⟨[.ref a],[]⟩ [.ref a] [.ref a] _ _ hr e0 (Uk s₁ (.ref a)) (.cons rfl .nil) (hsp H hO hS)) fun r s' h=>?_;cases r with
  | error e=>exact (hCX H e s' h).elim
  | ok fl=>
   cases fl with
   | next=>exact False.elim h
   | brk=>exact False.elim h
   | cont=>exact False.elim h
   | ret u=>
    obtain⟨v,H',os,bare,un,hok',r',q⟩:=h;have q':v=.bl true:=q;subst q';obtain rfl:u=Value.bool true:=r';refine⟨rfl,OldK.of_keep fun b o e=>?_,os,bare⟩;cases q:H b with
    | none=>exact un.keep b o e q (by intro z;exact absurd (show b∈([]:List MT)from z) (by simp)) (by simp)
    | some u=>
     rcases hO b with z|⟨ob,xs,z⟩
     ·rw[q]at z;cases z
     ·have z2:=un.frzs b ob _ z;obtain⟨e1,_⟩:=hok b _ z;obtain⟨e2,_⟩:=hok' b _ z2;rw[e]at e1;cases e1;exact e2
 cases hk:K.lookup a with
 | some o=>
  have e:=KX a o hk;rw[ha]at e;cases e;refine core (fun _=>none) (fun _=>.inl rfl) (.inr ⟨_,vs.toArray,_,hk,rfl,rfl,rfl,by rw[M8,Us];exact hl,by simpa using rv⟩) (fun b u z=>by have z':(none:Option HO)=some u:=z;cases z') (fun b z=>absurd rfl z) fun z=>absurd rfl z
 | none=>
  refine core (fun b=>if b=a then some (.frz { cls:=.type "list",data:=.seq vs.toArray } (.lst (ns.map V.int)))else none) (fun b=>?_) (.inl (.inr ⟨{ cls:=.type "list",data:=.seq vs.toArray },if_pos rfl⟩)) (fun b u z=>?_) (fun b z=>?_) fun _=>hk
  ·by_cases hb:b=a
   ·exact .inr ⟨_,_,if_pos hb⟩
   ·exact .inl (if_neg hb)
  ·by_cases hb:b=a
   ·have z':=(if_pos hb).symm.trans z;cases z';subst hb;exact⟨ha,by rw[MY];exact hl,vs,_,rv,ha⟩
   ·have z':=(if_neg hb).symm.trans z;cases z'
  ·by_cases hb:b=a
   ·exact hb
   ·exact absurd (if_neg hb) z
abbrev MQ{K:Po}{h:Nf}(_:K.In h):Po:=K
theorem walk_of{l:PySem.W.OpenLaw}{n k:Nat}{q:M9}{loose:List Str}{XP:(Str->Option MS)->Nf->Prop}{YP:Ng->Nf->Prop}{d:DefRec}{K:Params->Po}{CX:Ng->Dv}{sp:Ng->Sp}{x:Str}
  (hn:l.most=some n) (hn2:n<=M1) (hdf:d.params.defaults=[]) (hr:Room k Qn)
  (hY:∀ (w:Ng) (h:Nf),YP w h->(K w.params).In h)
  (F:∀ (w:Ng) (mg:Str->Option MS) (fa:MT) (h:Nf),(K w.params).In h->h.Ns Na mg->mg d.name=some (.ref fa)->
   ∃ fd:N4,(∀ (s:MU) (u:MS),QU s fd ⟨[u],[]⟩ [(x,u)])/\
    ∀ base:Nf,(K w.params).In base->base.Ns Na mg->FnOk l.prog w (K w.params) mg base (CX w) k fa fd [x] (sp w))
  (hsp:∀ (w:Ng) (H:Hp) (a:MT) (ns:List Int),ns.length<=n->Hn H->kg (K w.params) H a (ns.map V.int)->sp w [.ref a] H (fun v _=>v=.bl true) fun _ _ _=>False)
  (hCX:∀ (w:Ng) (H:Hp) (s:MU) (e:MS) (s':MU),CX w [] H s (fun _ _ _=>False) e s'->False):
  PySem.W.WalkO q loose XP YP l.row.toRowW d [] (fun f vs=>PySem.call f vs):=by
 refine Att.attach_call hn hdf fun w s₀ s₁ mg mb fa o pm cd doc a vs ns G Y ho hd hcd hmg SJ hints hlen hg=>?_;have KX:=hY w _ Y;obtain⟨fd,hb,hF⟩:=F w mg fa _ KX G.T.g hmg;exact EW KX G.T.g G.T.b G.T.builtins G.T.nolimit hg SJ hints (le_trans hlen hn2) hr hF hb (fun H hO hS=>hsp w H a ns hlen hO hS) fun H e s'=>hCX w H s₁ e s'
def aM(s:No)(j:Nat):No:=match s with
 | .ClassDef _ _ _ body _ _ _ _ _ _ _=>body.getD j (.Pass ⟨0,0,0,0⟩)
 | _=>.Pass ⟨0,0,0,0⟩
def eM(s:No):Arguments:=match s with
 | .FunctionDef _ a _ _ _ _ _ _ _ _=>a
 | _=>{ posonlyargs:=[],args:=[],vararg:=none,kwonlyargs:=[],kw_defaults:=[],kwarg:=none,defaults:=[] }
def cT(s:No):List No:=match s with
 | .FunctionDef _ _ b _ _ _ _ _ _ _=>b
 | _=>[]
def ah(s:No):O_:=match s with
 | .FunctionDef _ _ _ _ _ _ sc _ _ _=>sc
 | _=>{ kind:=.function,names:=[],isGenerator:=false,isCoroutine:=false }
abbrev pJ:Dv:=fun _ _ _ _ _ _=>False
abbrev E0:XK:=fun _ _ _=>False
theorem v5:lO pJ X E0:=fun _ _ _ _ _ _ _ h=>h.elim
theorem iteF{A B:Prop}(h:B):if false=true then A else B:=by
 rw[if_neg Bool.false_ne_true];exact h
theorem iteT{A B:Prop}(h:A):if true=true then A else B:=by
 rw[if_pos rfl];exact h
section
variable{κ:Type}[DecidableEq κ]
def m7(kvs:List (κ×V))(k:κ):Option V:=(kvs.find? fun kv=>decide (kv.1=k)).map (·.2)
def oU(kvs:List (κ×V))(k:κ)(v:V):List (κ×V):=
 if (kvs.any fun kv=>decide (kv.1=k))=true then kvs.map (fun kv=>if kv.1=k then (kv.1,v)else kv)else kvs ++ [(k,v)]
theorem nQ{p:κ×V}{r:List (κ×V)}{k:κ}(e:p.1=k):m7 (p::r) k=some p.2:=by simp[m7,Nw,e]
theorem nR{p:κ×V}{r:List (κ×V)}{k:κ}(e:¬ p.1=k):m7 (p::r) k=m7 r k:=by simp[m7,Nw,e]
theorem sC(k:κ):∀ kvs:List (κ×V),(kvs.any fun kv=>decide (kv.1=k))=(m7 kvs k).isSome
 | []=>rfl
 | p::r=>by
  rw[Qj]
  by_cases e:p.1=k
  ·simp only[nQ e,decide_eq_true e,Bool.true_or,Option.isSome_some]
  ·rw[nR e,decide_eq_false e,Bool.false_or];exact sC k r
theorem rj(kvs:List (κ×V))(k:κ)(v:V):(oU kvs k v).length<=kvs.length+1:=by
 unfold oU;split
 ·rw[MY];omega
 ·rw[NJ,Nc,NA];omega
theorem kL.isSome_eq(r:kL o u):o.isSome=u.isSome:=by
 cases o with
 | none=>cases u with
  | none=>rfl
  | some _=>exact (show False from r).elim
 | some _=>cases u with
  | none=>exact (show False from r).elim
  | some _=>rfl
theorem kL.getD(r:kL o u)(rd:aH d d'):aH (o.getD d) (u.getD d'):=by
 cases o with
 | none=>cases u with
  | none=>exact rd
  | some _=>exact (show False from r).elim
 | some _=>cases u with
  | none=>exact (show False from r).elim
  | some _=>exact r
theorem KV.val(r:KV kvs vs)(k:κ):kL (m7 kvs k) (Qx vs k):=by
 unfold KV at r
 induction r with
 | nil=>exact True.intro
 | @cons p q ps qs h t ih=>
  obtain⟨h1,h2⟩:=h
  by_cases e:p.1=k
  ·have e':q.1=k:=h1.symm.trans e;have b:Qx (q::qs) k=some q.2:=by simp[Qx,Nw,e']
   rw[nQ e,b];exact h2
  ·have e':¬ q.1=k:=fun z=>e (h1.trans z);have b:Qx (q::qs) k=Qx qs k:=by simp[Qx,Nw,e']
   rw[nR e,b];exact ih
theorem KV.any(r:KV kvs vs)(k:κ):(kvs.any fun kv=>decide (kv.1=k))=vs.any fun kv=>decide (kv.1=k):=by
 unfold KV at r
 induction r with
 | nil=>rfl
 | cons h t ih=>rw[Qj,Qj,ih,h.1]
theorem KV.repl{kvs:List (κ×V)}{vs:List (κ×MS)}(r:KV kvs vs)(k:κ){y:V}{u:MS}(ry:aH y u):
  KV (kvs.map fun kv=>if kv.1=k then (kv.1,y)else kv) (vs.map fun kv=>if kv.1=k then (kv.1,u)else kv):=by
 unfold KV at r ⊢
 induction r with
 | nil=>exact .nil
 | @cons p q ps qs h t ih=>
  rw[Nk,Nk];refine .cons ?_ ih;obtain⟨h1,h2⟩:=h
  by_cases e:p.1=k
  ·rw[if_pos e,if_pos (h1.symm.trans e)];exact⟨h1,ry⟩
  ·rw[if_neg e,if_neg (fun z=>e (h1.trans z))];exact⟨h1,h2⟩
theorem KV.put{kvs:List (κ×V)}{vs:List (κ×MS)}(r:KV kvs vs)(k:κ){y:V}{u:MS}(ry:aH y u):KV (oU kvs k y) (stored vs k u):=by
 unfold oU stored;rw[r.any k]
 by_cases e:(vs.any fun kv=>decide (kv.1=k))=true
 ·rw[if_pos e,if_pos e];exact r.repl k ry
 ·rw[if_neg e,if_neg e];exact QN r ⟨rfl,ry⟩
theorem KV.length{kvs:List (κ×V)}{vs:List (κ×MS)}(r:KV kvs vs):kvs.length=vs.length:=Pl r
end
theorem we(r:aH (kV k) u):(aW P w).is k u=true:=by
 cases k with
 | inl i=>obtain⟨t,e⟩:=(show ∃ t,u=Value.int i t from r);subst e;exact zo P w i t
 | inr x=>obtain⟨t,e⟩:=(show ∃ t,u=Value.str x t from r);subst e;exact zn P w x t
theorem qy:∀ {ks:List aB} {us:List MS},Vals (ks.map kV) us->ItemsAre (aW P w) ks us
 | [],_,r=>by rw[PF]at r;cases r;exact .nil
 | k::ks,_,r=>by
  rw[Nk]at r;cases r with
  | cons h t=>exact .cons (we h) (qy t)
abbrev KT(H:Hp):List (List aB×V)->List (List aB×MT×MS)->Prop:=PP fun p q=>p.1=q.1/\H q.2.1=some (.tup (p.1.map kV))/\aH p.2 q.2.2
theorem KT.val(r:KT H kvs xs)(k:List aB):kL (m7 kvs k) ((Pn xs k).map (·.2)):=by
 induction r with
 | nil=>exact True.intro
 | @cons p q ps qs h t ih=>
  obtain⟨h1,_,h2⟩:=h
  by_cases e:p.1=k
  ·have e':q.1=k:=h1.symm.trans e;have b:Pn (q::qs) k=some q.2:=by simp[Pn,Nw,e']
   rw[nQ e,b];exact h2
  ·have e':¬ q.1=k:=fun z=>e (h1.trans z);have b:Pn (q::qs) k=Pn qs k:=by simp[Pn,Nw,e']
   rw[nR e,b];exact ih
theorem KT.repl{H:Hp}{kvs:List (List aB×V)}{xs:List (List aB×MT×MS)}(r:KT H kvs xs)(k:List aB){y:V}{u:MS}(ry:aH y u):
  KT H (kvs.map fun kv=>if kv.1=k then (kv.1,y)else kv) (xs.map (putAt k u)):=by
 induction r with
 | nil=>exact .nil
 | @cons p q ps qs h t ih=>
  rw[Nk,Nk];refine .cons ?_ ih;obtain⟨h1,h2,h3⟩:=h;unfold putAt
  by_cases e:p.1=k
  ·rw[if_pos e,if_pos (h1.symm.trans e)];exact⟨h1,h2,ry⟩
  ·rw[if_neg e,if_neg (fun z=>e (h1.trans z))];exact⟨h1,h2,h3⟩
theorem KT.put{H:Hp}{kvs:List (List aB×V)}{xs:List (List aB×MT×MS)}(r:KT H kvs xs)(k:List aB){b:MT}{y:V}{u:MS}(hb:H b=some (.tup (k.map kV)))(ry:aH y u):
  KT H (oU kvs k y) (Qk xs k b u):=by
 have e:(kvs.any fun kv=>decide (kv.1=k))=(Pn xs k).isSome:=by
  rw[sC,(r.val k).isSome_eq,Option.isSome_map]
 unfold oU Qk;rw[e]
 by_cases q:(Pn xs k).isSome=true
 ·rw[if_pos q,if_pos q];exact r.repl k ry
 ·rw[if_neg q,if_neg q];exact QN r ⟨rfl,hb,ry⟩
theorem KT.keeps(r:KT H kvs xs)(ht:∀ b ys,H b=some (.tup ys)->H' b=some (.tup ys)):KT H' kvs xs:=
 Paired.mapP r fun _ _ z=>⟨z.1,ht _ _ z.2.1,z.2.2⟩
section
variable{P:M9}{w:Ng}{H:Hp}{h:Nf}{a:MT}
theorem HB(ok:l8 P w H h)(e:Rd H a u):ba P w H h a u:=e.ok ok
theorem wn(ok:l8 P w H h)(e:Rd H a (.dK kvs)):kvs.length<=M1/\(a == NC)=false/\∃ vs,KV kvs vs/\h.DictOf (aW P w) a vs:=
 show ba P w H h a (.dK kvs)from HB ok e
theorem KN(ok:l8 P w H h)(e:H a=some (.dK kvs)):kvs.length<=M1/\(a == NC)=false/\∃ vs,KV kvs vs/\h.DictOf (aW P w) a vs:=wn ok (.inl e)
theorem qv(ok:l8 P w H h)(e:H a=some (.tup (ks.map kV))):(Oa (aW P w)).is h ks a:=by
 obtain⟨_,its,r,o,h1,h2,n,h3⟩:=(show ba P w H h a (.tup (ks.map kV))from ok a _ e)
 exact⟨o,its.toArray,n,h1,h2.1,h3,by simpa using qy r⟩
theorem wm(ok:l8 P w H h)(e:Rd H a (.dT kvs)):kvs.length<=M1/\(a == NC)=false/\
  ∃ xs,KT H kvs xs/\h.DictOfH (Oa (aW P w)) a xs:=by
 obtain⟨z,y,xs,r,o,es,ep,h1,h2,h3,h4,h5⟩:=(show ba P w H h a (.dT kvs)from HB ok e)
 refine⟨z,y,xs,r,o,es,ep,h1,h2,h3,h4,fun x hx=>?_,h5⟩;have all:∀ {l:List (List aB×V)} {m:List (List aB×MT×MS)},KT H l m->∀ x∈m,(Oa (aW P w)).is h x.1 x.2.1:=by
  intro l m q
  induction q with
  | nil=>intro x hx;exact nomatch hx
  | @cons p q ps qs hq t ih=>
   intro x hx;rcases NH.mp hx with e|hx
   ·subst e;exact qv ok (by rw[<- hq.1];exact hq.2.1)
   ·exact ih x hx
 exact all r x hx
theorem KM(ok:l8 P w H h)(e:H a=some (.dT kvs)):kvs.length<=M1/\(a == NC)=false/\
  ∃ xs,KT H kvs xs/\h.DictOfH (Oa (aW P w)) a xs:=wm ok (.inl e)
end
def yA(H:Hp)(a:MT)(y:V)(r:Option V):Prop:=
 (∃ kvs k,Rd H a (.dK kvs)/\y=kV k/\r=m7 kvs k)\/∃ kvs k b,Rd H a (.dT kvs)/\y=.ref b/\H b=some (.tup (k.map kV))/\r=m7 kvs k
def Hr(H:Hp)(a:MT)(y v:V)(H':Hp):Prop:=
 (∃ kvs k,H a=some (.dK kvs)/\y=kV k/\kvs.length < M1/\H'=aR H a (.dK (oU kvs k v)))\/
 ∃ kvs k b,H a=some (.dT kvs)/\y=.ref b/\H b=some (.tup (k.map kV))/\kvs.length < M1/\H'=aR H a (.dT (oU kvs k v))
theorem yA.k{H:Hp}{a:MT}{kvs:List (aB×V)}{k:aB}(e:H a=some (.dK kvs)):yA H a (kV k) (m7 kvs k):=.inl ⟨kvs,k,.inl e,rfl,rfl⟩
theorem Hr.k{H:Hp}{a:MT}{kvs:List (aB×V)}{k:aB}{v:V}(e:H a=some (.dK kvs))(hl:kvs.length < M1):Hr H a (kV k) v (aR H a (.dK (oU kvs k v))):=.inl ⟨kvs,k,e,rfl,hl,rfl⟩
section
variable{X:Cx}{pins:List (MT×Obj)}{σ:St}{H:Hp}{s:MU}{a:MT}{y v:V}{u r:MS}{o:Option V}{A:Nb}{E:MS->MU->Prop}
theorem Inv.big(I:Inv X pins σ H s):NC < s.heap.objs.size:=by
 have h:Na < s.heap.objs.size:=(I.mod.glob.keeps I.bk).lt;exact Nat.lt_trans (by decide) h
theorem Df(hu:A.units+1 < NF)(I:Inv X pins σ H s)(g:yA H a y (some v))(ry:aH y u)(h:∀ w' s',Inv X pins σ H s'->aH v w'->Q w' s'):
  MZ (M0 X.prog X.w) A (P5 (.ref a) u) Q E s:=by
 rcases g with ⟨kvs,k,e,ey,l⟩|⟨kvs,k,b,e,ey,eb,l⟩
 ·subst ey;obtain⟨z,hd,vs,rel,dd⟩:=wn I.hok e;obtain⟨w',hw,rw'⟩:=kL.some_of (v:=v) (o:=Qx vs k) (by rw[l];exact rel.val k)
  exact wpAny_getItem_of (we ry) dd.mapOf hw (h w' _ (I.tok _) rw')
 ·subst ey;cases (show u=Value.ref b from ry)
  obtain⟨z,hd,xs,rel,dd⟩:=wm I.hok e;obtain⟨w',hw,rw'⟩:=kL.some_of (v:=v) (o:=(Pn xs k).map (·.2)) (by rw[l];exact rel.val k)
  obtain⟨p,hp,hp2⟩:=Option.map_eq_some_iff.mp hw;refine RY (NN hu) (qv I.hok eb) dd hp ?_;rw[hp2];exact h w' _ (I.tok _) rw'
theorem Ma(hu:A.units+1 < NF)(I:Inv X pins σ H s)(g:yA H a y o)(ry:aH y u)(h:∀ s',Inv X pins σ H s'->Q (.bool o.isSome) s'):
  MZ (M0 X.prog X.w) A (Nr .In u (.ref a)) Q E s:=by
 rcases g with ⟨kvs,k,e,ey,l⟩|⟨kvs,k,b,e,ey,eb,l⟩
 ·subst ey;obtain⟨z,hd,vs,rel,dd⟩:=wn I.hok e;refine wpAny_in_of (we ry) hd dd.mapOf ?_;rw[<- (rel.val k).isSome_eq,<- l];exact h _ (I.tok _)
 ·subst ey;cases (show u=Value.ref b from ry)
  obtain⟨z,hd,xs,rel,dd⟩:=wm I.hok e;refine wpAny_in_heap (NN hu) (qv I.hok eb) hd dd ?_;have q:=(rel.val k).isSome_eq;rw[Option.isSome_map]at q;rw[<- q,<- l];exact h _ (I.tok _)
theorem G_(hu:A.units+1 < NF)(I:Inv X pins σ H s)(g:yA H a y o)(ry:aH y u)(h:∀ s',Inv X pins σ H s'->Q (.bool (!o.isSome)) s'):
  MZ (M0 X.prog X.w) A (Nr .NotIn u (.ref a)) Q E s:=by
 rcases g with ⟨kvs,k,e,ey,l⟩|⟨kvs,k,b,e,ey,eb,l⟩
 ·subst ey;obtain⟨z,hd,vs,rel,dd⟩:=wn I.hok e;refine wpAny_notIn_of (we ry) hd dd.mapOf ?_;rw[<- (rel.val k).isSome_eq,<- l];exact h _ (I.tok _)
 ·subst ey;cases (show u=Value.ref b from ry)
  obtain⟨z,hd,xs,rel,dd⟩:=wm I.hok e;refine wpAny_notIn_heap (NN hu) (qv I.hok eb) hd dd ?_;have q:=(rel.val k).isSome_eq;rw[Option.isSome_map]at q;rw[<- q,<- l];exact h _ (I.tok _)
theorem su(I:Inv X pins σ H s)(mu:FB (H a))(hs:ON a s.heap h')(he:∃ q,h'.get? a=some q)(new:ba X.prog X.w (aR H a ob) h' a ob):
  Inv X pins σ (aR H a ob) { s with heap:=h',toks:=t' }:=
 I.write (x:=a) (e:=a) mu (.inl rfl) (fun b q hb z=>(hs.2 b hb).trans z) he new
theorem Jq(z:kvs.length<=M1)(hd:(a == NC)=false)(rel:KV kvs vs)(dd:h'.DictOf (aW P w) a vs):
  ba P w H' h' a (.dK kvs):=⟨z,hd,vs,rel,dd⟩
theorem De(hu:A.units+1 < NF)(I:Inv X pins σ H s)(g:Hr H a y v H')(ry:aH y u)(rv:aH v r)(h:∀ s',Inv X pins σ H' s'->Q () s'):
  MZ (M0 X.prog X.w) A (Sh (.ref a) u r) Q E s:=by
 rcases g with ⟨kvs,k,e,ey,l,eH⟩|⟨kvs,k,b,e,ey,eb,l,eH⟩
 ·subst ey eH;obtain⟨z,hd,vs,rel,dd⟩:=KN I.hok e;have hz:vs.length<=M1:=by rw[<- rel.length];exact z
  have hl:(oU kvs k v).length<=M1:=by have:=rj kvs k v;omega
  refine wpAny_setItem_pairs (hsz:=hz) (we ry) dd fun h' dd' hs=>h _ ?_;have he:∃ q,h'.get? a=some q:=let ⟨q,_,_,hq,_⟩:=dd';⟨q,hq⟩;exact su I (by rw[e];exact True.intro) hs he (Jq hl hd (rel.put k rv) dd')
 ·subst ey eH;cases (show u=Value.ref b from ry)
  obtain⟨z,hd,xs,rel,dd⟩:=KM I.hok e;have hz:xs.length<=M1:=by rw[<- Pl rel];exact z
  have hl:(oU kvs k v).length<=M1:=by have:=rj kvs k v;omega
  refine RX (hsz:=hz) (NN hu) (qv I.hok eb) dd fun h' dd' hs=>h _ ?_;obtain⟨q,es,ep,hq,h2,h3,h4,_,h5⟩:=dd';refine su I (by rw[e];exact True.intro) hs ⟨q,hq⟩ ⟨hl,hd,_,(rel.put k eb rv).keeps fun c ys ec=>?_,q,es,ep,hq,h2,h3,h4,h5⟩
  rw[ar (Kx ec e (fun z=>nomatch z))];exact ec
end
def Le(i:Nh):Prop:=∀ ov iv,QK i false ov iv=operate [ov,iv] (P5 ov iv)
theorem FP{prog:M9}{w:Ng}{A:Nb}{E:MS->MU->Prop}{s:MU}{env:Env}{value slice:Nh}{pos:Pos}{T id:String}{Q:MS->MU->Prop}
  (hl:P0 (.type T) "__getitem__"=pure (some (.builtin id))) (hs:Le slice)
  (h:MZ (M0 prog w) A (eval value env) (fun o s₁=>MZ (M0 prog w) A (eval slice env) (fun i s₂=>s₂.TypeIs o T/\MZ (M0 prog w) A (P5 o i) Q E s₂) E s₁) E s):
  MZ (M0 prog w) A (eval (.Subscript value slice pos) env) Q E s:=by
 refine Sc (Nn h (fun o s₁ h₁=>Nn h₁ (fun i s₂ h₂=>?_) fun _ _ x=>x) fun _ _ x=>x);obtain⟨hT,h₂⟩:=h₂;unfold Q5;refine MR ?_;rw[getitemInPython_of_ne hT.not_modules];refine MR (wpAny_specialOf hT hl ?_);have fin:MZ (M0 prog w) A (QK slice false o i) (fun r s₃=>MZ (M0 prog w) A (letTemporaryGo value o r >>= fun _=>pure r) Q E s₃) E s₂:=by
  rw[hs o i];exact wpAny_operating (Nn h₂ (fun r s₃ h₃=>MR (wpAny_letTemporaryGo (MV h₃))) fun _ _ x=>x)
 first
  | exact MV (MR fin)
  | exact MR (MV (MR fin))
  | exact MR fin
theorem Fm(h:Nf)(hb:NC < h.objs.size):ba P w H (h.push { cls:=.type "dict",data:=.dict #[] }) h.objs.size (.dK []):=
 ⟨N0 _,beq_eq_false_iff_ne.mpr (Ne.symm (Np hb)),[],.nil,Heap.DictOf.new h⟩
def Ik:TE:=fun _ H Q=>∀ p,H p=none->Q (.ref p) (aR H p (.dK []))
section
variable{X:Cx}{pos:Pos}
theorem EB:PE X (.Dict [] [] pos) Ik:=fun pins s σ H Q I h=>
 wpAny_Dict_empty ⟨.ref s.heap.objs.size,_,I.laid (a:=s.heap.objs.size) (o:=.dK []) (t':=s.toks) (fun _ _ q=>MX _ q) (le_refl _) (Fm s.heap I.big),rfl,h _ (I.hok.fresh (le_refl _))⟩
end
structure M2(X:Cx)(o:Nh)(m:Str)(apos:Pos)(e f:Nh)(cpos:Pos):Prop where
 base:Op o m X.env (eval o X.env)=eval o X.env
 few:((NZ cpos (M5 [e,f] X.env)).all (fun x=>!x.1) && (O0 cpos (Oo [] X.env)).all (fun x=>x.1.isSome)
  && decide (([e,f]:List Nh).length+([]:List QT).length+(if ([]:List QT).isEmpty then 0 else 1) < 30))=true
 line:(apos.endLine == cpos.line)=true
 trees:NZ cpos (M5 [e,f] X.env)=[(false,eval e X.env),(false,eval f X.env)]
def MN(H:Hp)(a:MT):Prop:=(∃ kvs,Rd H a (.dK kvs))\/∃ kvs,Rd H a (.dT kvs)
theorem Jl{X:Cx}{pins:List (MT×Obj)}{σ:St}{H:Hp}{s:MU}{a:MT}(I:Inv X pins σ H s)(d:MN H a):
  s.TypeIs (.ref a) "dict"/\(∀ b,Value.ref a=.ref b->∃ ob,s.heap.get? b=some ob/\ob.dict=none)/\(a == NC)=false:=by
 rcases d with ⟨kvs,e⟩|⟨kvs,e⟩
 ·obtain⟨_,hd,vs,_,dd⟩:=wn I.hok e;refine⟨dd.typeIs,fun b q=>?_,hd⟩;cases q;obtain⟨ob,_,_,h1,h2,_⟩:=dd;exact⟨ob,h1,h2.2.1⟩
 ·obtain⟨_,hd,xs,_,dd⟩:=wm I.hok e;refine⟨dd.typeIs,fun b q=>?_,hd⟩;cases q;obtain⟨ob,_,_,h1,h2,_⟩:=dd;exact⟨ob,h1,h2.2.1⟩
section
variable{X:Cx}{pins:List (MT×Obj)}{σ:St}{H:Hp}{s:MU}{a:MT}{y d:V}{u r:MS}{o:Option V}{A:Nb}{E:MS->MU->Prop}
theorem Js(hu:A.units+1 < NF)(I:Inv X pins σ H s)(g:yA H a y o)(ry:aH y u)(rd:aH d r)(h:∀ w' s',Inv X pins σ H s'->aH (o.getD d) w'->Q w' s'):
  MZ (M0 X.prog X.w) A (call (.builtin "dict.get") [.ref a,u,r]) Q E s:=by
 rcases g with ⟨kvs,k,e,ey,l⟩|⟨kvs,k,b,e,ey,eb,l⟩
 ·subst ey;obtain⟨z,hd,vs,rel,dd⟩:=wn I.hok e;refine P7 PySem.F.slot_dict_get dd.typeIs PySem.F.entry_dict_get (PySem.F.args_dict_get_3 _ _ _) (meets_dict_get_default (aW X.prog X.w) a (we ry) hd r) ⟨_,dd.mapOf,h _ _ (I.tok _) ?_⟩;rw[l];exact (rel.val k).getD rd
 ·subst ey;cases (show u=Value.ref b from ry)
  obtain⟨z,hd,xs,rel,dd⟩:=wm I.hok e;refine P7 PySem.F.slot_dict_get dd.typeIs PySem.F.entry_dict_get (PySem.F.args_dict_get_3 _ _ _) (Q_ (Oa (aW X.prog X.w)) a b hd r) ⟨NN hu,k,xs,qv I.hok eb,dd,h _ _ (I.tok _) ?_⟩;rw[l];exact (rel.val k).getD rd
end
end L2
namespace L3
open PySem PySem.Spec PyProof.Rows L2
abbrev St:=L2.St
inductive D where
 | non|bl (b:Bool)|int (i:Int)|str (x:Str)|tup (ds:List D)|lst (ds:List D)|fl (ds:List D)|ref (a:MT)|ty (n:String)
inductive GO where
 | lst (ds:List D)
 | ins (C:MT) (L:List Str) (ds:List D)
 | dK (kvs:List (aB×D))
 | dT (hw:List aB->Int) (kvs:List (List aB×D))
 | dF (ob:Obj) (hw:List aB->Int) (xs:List (List aB×MT×MS)) (kvs:List (List aB×D))
abbrev Gp:=MT->Option GO
def gset(G:Gp)(a:MT)(o:GO):Gp:=fun b=>if b=a then some o else G b
def fL(G:Gp)(a:MT):Gp:=fun b=>if b=a then none else G b
theorem ax:gset G a o a=some o:=by unfold gset;rw[if_pos rfl]
theorem ai(h:b≠a):gset G a o b=G b:=by unfold gset;rw[if_neg h]
theorem dM:gset (gset G a o) a u=gset G a u:=by
 funext b;unfold gset;split<;>rfl
theorem eh:fL G a a=none:=by unfold fL;rw[if_pos rfl]
theorem em(h:b≠a):fL G a b=G b:=by unfold fL;rw[if_neg h]
def FD(K:Po)(H:Hp)(a:MT)(xs:List V):Prop:=
 (∃ o,H a=some (.frz o (.lst xs)))\/
  ∃ (o:Obj) (its:Array MS) (n:Nat),K.lookup a=some o/\o.cls=.type "list"/\o.dict=none/\o.data=.seq its n/\its.size<=M1/\Vals xs its.toList
theorem FD.sq{K:Po}{H:Hp}{a:MT}{xs:List V}(h:FD K H a xs):kg K H a xs:=by
 rcases h with ⟨o,e⟩|h
 ·exact .inl (.inr ⟨o,e⟩)
 ·exact .inr h
mutual
def RD(K:Po)(H:Hp):D->V->Prop
 | .non,v=>v=.non
 | .bl b,v=>v=.bl b
 | .int i,v=>v=.int i
 | .str x,v=>v=.str x
 | .ref a,v=>v=.ref a
 | .ty n,v=>v=.ty n
 | .fl _,_=>False
 | .tup ds,v=>∃ a xs,v=.ref a/\ke K H a xs/\RDs K H ds xs
 | .lst ds,v=>∃ a xs,v=.ref a/\FD K H a xs/\RDs K H ds xs
def RDs(K:Po)(H:Hp):List D->List V->Prop
 | [],xs=>xs=[]
 | d::ds,xs=>∃ x r,xs=x::r/\RD K H d x/\RDs K H ds r
end
structure Stb(K:Po)(H H':Hp):Prop where
 t:∀ a xs,ke K H a xs->ke K H' a xs
 l:∀ a xs,FD K H a xs->FD K H' a xs
mutual
theorem RD.mono{K:Po}{H H':Hp}(s:Stb K H H'):∀ (d:D) (v:V),RD K H d v->RD K H' d v
 | .non,v,h=>by simp only[RD]at h ⊢;exact h
 | .bl b,v,h=>by simp only[RD]at h ⊢;exact h
 | .int i,v,h=>by simp only[RD]at h ⊢;exact h
 | .str x,v,h=>by simp only[RD]at h ⊢;exact h
 | .ref a,v,h=>by simp only[RD]at h ⊢;exact h
 | .ty n,v,h=>by simp only[RD]at h ⊢;exact h
 | .fl _,v,h=>by simp only[RD]at h
 | .tup ds,v,h=>by
  simp only[RD]at h ⊢;obtain⟨a,xs,e,q,r⟩:=h;exact⟨a,xs,e,s.t _ _ q,RDs.mono s ds xs r⟩
 | .lst ds,v,h=>by
  simp only[RD]at h ⊢;obtain⟨a,xs,e,q,r⟩:=h;exact⟨a,xs,e,s.l _ _ q,RDs.mono s ds xs r⟩
theorem RDs.mono{K:Po}{H H':Hp}(s:Stb K H H'):∀ (ds:List D) (xs:List V),RDs K H ds xs->RDs K H' ds xs
 | [],xs,h=>by simp only[RDs]at h ⊢;exact h
 | d::ds,xs,h=>by
  simp only[RDs]at h ⊢;obtain⟨x,r,e,h1,h2⟩:=h;exact⟨x,r,e,RD.mono s d x h1,RDs.mono s ds r h2⟩
end
section
variable{K:Po}{H:Hp}
theorem RDs.nil:RDs K H [] []:=by simp only[RDs]
theorem RDs.cons(h:RD K H d x)(t:RDs K H ds xs):RDs K H (d::ds) (x::xs):=by
 simp only[RDs];exact⟨x,xs,rfl,h,t⟩
theorem RDs.inv_nil(h:RDs K H [] xs):xs=[]:=by simpa only[RDs]using h
theorem RDs.inv_cons(h:RDs K H (d::ds) xs):∃ x r,xs=x::r/\RD K H d x/\RDs K H ds r:=by simpa only[RDs]using h
theorem RDs.length:∀ {ds:List D} {xs:List V},RDs K H ds xs->ds.length=xs.length
 | [],xs,h=>by rw[h.inv_nil];rfl
 | d::ds,xs,h=>by
  obtain⟨x,r,e,_,h2⟩:=h.inv_cons;subst e;simp[RDs.length h2]
theorem RDs.get:∀ {ds:List D} {xs:List V} {i:Nat} {d:D},RDs K H ds xs->ds[i]?=some d->∃ x,xs[i]?=some x/\RD K H d x
 | [],xs,i,d,h,e=>by simp at e
 | c::ds,xs,0,d,h,e=>by
  obtain⟨x,r,e1,h1,h2⟩:=h.inv_cons;subst e1;simp at e;subst e;exact⟨x,rfl,h1⟩
 | c::ds,xs,i+1,d,h,e=>by
  obtain⟨x,r,e1,h1,h2⟩:=h.inv_cons;subst e1;obtain⟨y,q1,q2⟩:=RDs.get (i:=i) (d:=d) h2 (by simpa using e)
  exact⟨y,by simpa using q1,q2⟩
theorem RDs.append:∀ {ds es:List D} {xs ys:List V},RDs K H ds xs->RDs K H es ys->RDs K H (ds ++ es) (xs ++ ys)
 | [],es,xs,ys,h,h'=>by rw[h.inv_nil];exact h'
 | d::ds,es,xs,ys,h,h'=>by
  obtain⟨x,r,e,h1,h2⟩:=h.inv_cons;subst e;exact RDs.cons h1 (RDs.append h2 h')
theorem RDs.take:∀ {ds:List D} {xs:List V} (n:Nat),RDs K H ds xs->RDs K H (ds.take n) (xs.take n)
 | _,_,0,_=>by simp only[List.take_zero];exact RDs.nil
 | [],xs,n+1,h=>by rw[h.inv_nil];simp only[List.take_nil];exact RDs.nil
 | d::ds,xs,n+1,h=>by
  obtain⟨x,r,e,h1,h2⟩:=h.inv_cons;subst e;exact RDs.cons h1 (RDs.take n h2)
theorem RDs.drop:∀ {ds:List D} {xs:List V} (n:Nat),RDs K H ds xs->RDs K H (ds.drop n) (xs.drop n)
 | _,_,0,h=>by simpa only[QG]using h
 | [],xs,n+1,h=>by rw[h.inv_nil];simp only[List.drop_nil];exact RDs.nil
 | d::ds,xs,n+1,h=>by
  obtain⟨x,r,e,h1,h2⟩:=h.inv_cons;subst e;exact RDs.drop n h2
theorem RDs.set:∀ {ds:List D} {xs:List V} {d:D} {x:V} (n:Nat),RDs K H ds xs->RD K H d x->RDs K H (ds.set n d) (xs.set n x)
 | [],xs,d,x,n,h,_=>by rw[h.inv_nil];simp only[List.set_nil];exact RDs.nil
 | c::ds,xs,d,x,0,h,h'=>by
  obtain⟨y,r,e,h1,h2⟩:=h.inv_cons;subst e;exact RDs.cons h' h2
 | c::ds,xs,d,x,n+1,h,h'=>by
  obtain⟨y,r,e,h1,h2⟩:=h.inv_cons;subst e;exact RDs.cons h1 (RDs.set n h2 h')
theorem RDs.ints:∀ ns:List Int,RDs K H (ns.map D.int) (ns.map V.int)
 | []=>RDs.nil
 | n::r=>RDs.cons (by simp only[RD]) (RDs.ints r)
theorem RDs.strs:∀ ns:List Str,RDs K H (ns.map D.str) (ns.map V.str)
 | []=>RDs.nil
 | n::r=>RDs.cons (by simp only[RD]) (RDs.strs r)
end
def pI(hw:List aB->Int)(a:MT)(xs:List (List aB×MT×MS)):Nf->Prop:=fun h=>(a == NC)=false/\∃ o es ep,h.get? a=some o/\o.ExactDict/\o.data=.dict es ep/\es.toList=xs.map fun x=>(⟨hw x.1,.ref x.2.1,x.2.2⟩:Rg)
def Du(ob:Obj)(hw:List aB->Int)(a:MT)(xs:List (List aB×MT×MS)):Nf->Prop:=fun h=>h.get? a=some ob/\pI hw a xs h
def m3(K:Po)(H:Hp):List (List aB×D)->List (List aB×MT×MS)->Prop:=PP fun p q=>p.1=q.1/\ke K H q.2.1 (p.1.map kV)/\∃ v,RD K H p.2 v/\aH v q.2.2
def Ac(K:Po)(H:Hp):List (aB×D)->List (aB×V)->Prop:=PP fun p q=>p.1=q.1/\RD K H p.2 q.2
def RO(K:Po)(H:Hp)(a:MT):GO->HO->Prop
 | .lst ds,.lst xs=>RDs K H ds xs
 | .ins C L ds,.ins C' _ gs=>C'=C/\gs.map (·.1)=L/\RDs K H ds (gs.map (·.2))
 | .dK kvs,.dK hs=>Ac K H kvs hs
 | .dT hw kvs,.ext φ=>∃ xs,φ=pI hw a xs/\m3 K H kvs xs/\(kvs.map (·.1)).Nodup/\kvs.length<=M1
 | .dF ob hw xs kvs,.ext φ=>φ=Du ob hw a xs/\m3 K H kvs xs/\(kvs.map (·.1)).Nodup/\kvs.length<=M1
 | _,_=>False
def RG(K:Po)(H:Hp)(G:Gp):Prop:=∀ a o,G a=some o->∃ h,H a=some h/\RO K H a o h
def Kp(G:Gp)(H:Hp)(G':Gp)(H':Hp):Prop:=∀ a h,H a=some h->G a=none->H' a=some h/\G' a=none
def JL(G:Gp)(H:Hp)(p:MT):Prop:=∀ h,H p=some h->G p≠none
section
variable{K:Po}{H H' H1 H2:Hp}{G G' G1 G2:Gp}{p:MT}
theorem m3.mono(s:Stb K H H')(r:m3 K H kvs xs):m3 K H' kvs xs:=Paired.mapP r fun _ _ zz=>by
 obtain⟨a,b,v,c,d⟩:=zz;exact (
  ⟨a,s.t _ _ b,v,RD.mono s _ _ c,d⟩)
theorem Ac.mono(s:Stb K H H')(r:Ac K H kvs xs):Ac K H' kvs xs:=Paired.mapP r fun _ _ zz=>by
 obtain⟨a,b⟩:=zz;exact (
  ⟨a,RD.mono s _ _ b⟩)
theorem RO.mono(s:Stb K H H')(r:RO K H a o h):RO K H' a o h:=by
 cases o<;>cases h<;>first
  | exact r.elim
  | exact RDs.mono s _ _ r
  | exact⟨r.1,r.2.1,RDs.mono s _ _ r.2.2⟩
  | exact Ac.mono s r
  | (obtain⟨xs,e,q,n⟩:=r;exact⟨xs,e,q.mono s,n⟩)
  | exact⟨r.1,r.2.1.mono s,r.2.2⟩
theorem RG.none_of(rg:RG K H G)(e:H a=some h)(n:∀ o,¬ RO K H a o h):G a=none:=by
 cases q:G a with
 | none=>rfl
 | some o=>
  obtain⟨h',e',r⟩:=rg a o q;rw[e]at e';cases e';exact absurd r (n o)
theorem RG.free(rg:RG K H G)(e:H p=none):G p=none:=by
 cases q:G p with
 | none=>rfl
 | some o=>
  obtain⟨h',e',r⟩:=rg p o q;rw[e]at e';cases e'
theorem IX(o:GO)(xs:List V):¬ RO K H a o (.tup xs):=by cases o<;>exact id
theorem EL(o:GO)(ob:Obj)(u:HO):¬ RO K H a o (.frz ob u):=by cases o<;>exact id
theorem Kp.refl:Kp G H G H:=fun _ _ e n=>⟨e,n⟩
theorem Kp.trans(a:Kp G H G1 H1)(b:Kp G1 H1 G2 H2):Kp G H G2 H2:=fun x h e n=>b x h (a x h e n).1 (a x h e n).2
theorem Kp.stb(k:Kp G H G' H')(rg:RG K H G):Stb K H H' where
 t:=fun a xs q=>by
  rcases q with (q|⟨o,q⟩)|q
  ·exact .inl (.inl (k a _ q (rg.none_of q fun o=>IX o xs)).1)
  ·exact .inl (.inr ⟨o,(k a _ q (rg.none_of q fun o'=>EL o' o _)).1⟩)
  ·exact .inr q
 l:=fun a xs q=>by
  rcases q with ⟨o,q⟩|q
  ·exact .inl ⟨o,(k a _ q (rg.none_of q fun o'=>EL o' o _)).1⟩
  ·exact .inr q
theorem Kp.fr(k:Kp G H G1 H1)(f:JL G1 H1 p):JL G H p:=fun h e n=>f h (k p h e n).1 (k p h e n).2
theorem sj(e:H p=none):JL G H p:=fun h q=>by rw[e]at q;cases q
theorem Kp.laid(e:H p=none):Kp G H G (aR H p o):=fun a h q n=>⟨by rw[ar (bH q e)];exact q,n⟩
theorem RG.laid(rg:RG K H G)(e:H p=none):RG K (aR H p o) G:=fun a o' q=>by
 obtain⟨h,e1,r⟩:=rg a o' q;exact⟨h,by rw[ar (bH e1 e)];exact e1,r.mono ((Kp.laid (G:=G) e).stb rg)⟩
end
abbrev dO:=List (Option D)
def Do(K:Po)(H:Hp):Option D->Option V->Prop
 | some d,some v=>RD K H d v
 | none,_=>True
 | some _,none=>False
def RS(K:Po)(H:Hp)(σ:dO)(τ:St):Prop:=PP (Do K H) σ τ
section
variable{K:Po}{H H':Hp}
theorem Do.mono(s:Stb K H H'):∀ {a:Option D} {b:Option V},Do K H a b->Do K H' a b
 | some d,some v,r=>RD.mono s d v r
 | none,_,_=>trivial
 | some _,none,r=>r.elim
theorem RS.mono(s:Stb K H H')(r:RS K H σ τ):RS K H' σ τ:=Paired.mapP r fun _ _ q=>q.mono s
theorem RS.get:∀ {σ:dO} {τ:St} {i:Nat} {d:D},RS K H σ τ->σ[i]?=some (some d)->∃ v,τ[i]?=some (some v)/\RD K H d v
 | _,_,_,_,.nil,e=>by simp at e
 | _,_,0,d,.cons (b:=b) r _,e=>by
  simp at e;subst e;cases b with
  | none=>exact r.elim
  | some v=>exact⟨v,rfl,r⟩
 | _,_,i+1,d,.cons _ t,e=>by
  obtain⟨v,h1,h2⟩:=RS.get (i:=i) (d:=d) t (by simpa using e)
  exact⟨v,by simpa using h1,h2⟩
theorem RS.set(r:RD K H d v):∀ {σ:dO} {τ:St} (i:Nat),RS K H σ τ->RS K H (σ.set i (some d)) (τ.set i (some v))
 | _,_,_,.nil=>.nil
 | _,_,0,.cons _ t=>.cons (show Do K H (some d) (some v)from r) t
 | _,_,i+1,.cons q t=>.cons q (RS.set r i t)
end
def RE(K:Po)(G:Gp)(H:Hp)(G':Gp)(H':Hp)(d:D)(v:V):Prop:=
 (∃ ds p xs,d=.fl ds/\v=.ref p/\H' p=some (.lst xs)/\G' p=none/\RDs K H' ds xs/\JL G H p)\/RD K H' d v
section
variable{K:Po}{H H' H1 H2:Hp}{G G' G1 G2:Gp}{d:D}{v:V}
theorem RE.of(r:RD K H' d v):RE K G H G' H' d v:=.inr r
theorem RE.wait(r:RE K G H G1 H1 d v)(k:Kp G1 H1 G2 H2)(rg:RG K H1 G1):RE K G H G2 H2 d v:=by
 rcases r with ⟨ds,p,xs,e1,e2,e3,e4,e5,e6⟩|r
 ·exact .inl ⟨ds,p,xs,e1,e2,(k p _ e3 e4).1,(k p _ e3 e4).2,RDs.mono (k.stb rg) _ _ e5,e6⟩
 ·exact .inr (RD.mono (k.stb rg) _ _ r)
theorem RE.base(r:RE K G1 H1 G2 H2 d v)(k:Kp G H G1 H1):RE K G H G2 H2 d v:=by
 rcases r with ⟨ds,p,xs,e1,e2,e3,e4,e5,e6⟩|r
 ·exact .inl ⟨ds,p,xs,e1,e2,e3,e4,e5,k.fr e6⟩
 ·exact .inr r
theorem RE.rd(r:RE K G H G' H' d v)(h:∀ ds,d≠.fl ds):RD K H' d v:=by
 rcases r with ⟨ds,p,xs,e1,_⟩|r
 ·exact absurd e1 (h ds)
 ·exact r
theorem RE.int(r:RE K G H G' H' (.int i) v):v=.int i:=by
 have:=r.rd (by intro ds h;cases h);simpa only[RD]using this
theorem RE.str(r:RE K G H G' H' (.str i) v):v=.str i:=by
 have:=r.rd (by intro ds h;cases h);simpa only[RD]using this
theorem RE.bl(r:RE K G H G' H' (.bl i) v):v=.bl i:=by
 have:=r.rd (by intro ds h;cases h);simpa only[RD]using this
theorem RE.non(r:RE K G H G' H' .non v):v=.non:=by
 have:=r.rd (by intro ds h;cases h);simpa only[RD]using this
theorem RE.ref(r:RE K G H G' H' (.ref a) v):v=.ref a:=by
 have:=r.rd (by intro ds h;cases h);simpa only[RD]using this
theorem RE.tup(r:RE K G H G' H' (.tup ds) v):∃ a xs,v=.ref a/\ke K H' a xs/\RDs K H' ds xs:=by
 have:=r.rd (by intro ds h;cases h);simpa only[RD]using this
theorem RE.lst(r:RE K G H G' H' (.lst ds) v):∃ a xs,v=.ref a/\FD K H' a xs/\RDs K H' ds xs:=by
 have:=r.rd (by intro ds h;cases h);simpa only[RD]using this
theorem RE.fl(r:RE K G H G' H' (.fl ds) v):∃ p xs,v=.ref p/\H' p=some (.lst xs)/\G' p=none/\RDs K H' ds xs/\JL G H p:=by
 rcases r with ⟨ds',p,xs,e1,e2,e3,e4,e5,e6⟩|r
 ·cases e1;exact⟨p,xs,e2,e3,e4,e5,e6⟩
 ·simp only[RD]at r
theorem eA:RD K H (.int i) (.int i):=by simp only[RD]
theorem jt:RD K H (.str i) (.str i):=by simp only[RD]
theorem ff:RD K H (.bl i) (.bl i):=by simp only[RD]
theorem wX:RD K H .non .non:=by simp only[RD]
theorem eT:RD K H (.ref a) (.ref a):=by simp only[RD]
theorem qc(h:ke K H a xs)(r:RDs K H ds xs):RD K H (.tup ds) (.ref a):=by
 simp only[RD];exact⟨a,xs,rfl,h,r⟩
theorem qd(h:FD K H a xs)(r:RDs K H ds xs):RD K H (.lst ds) (.ref a):=by
 simp only[RD];exact⟨a,xs,rfl,h,r⟩
end
def xV(G:Gp):D->Option (List D)
 | .lst ds=>some ds
 | .fl ds=>some ds
 | .ref a=>match G a with
  | some (.lst ds)=>some ds
  | _=>none
 | _=>none
def FE(G:Gp):D->Option (List D)
 | .tup ds=>some ds
 | d=>xV G d
section
variable{K:Po}{H H':Hp}{G G':Gp}{d:D}{v:V}{ds:List D}
theorem qI(h:xV G' d=some ds)(r:RE K G H G' H' d v)(rg:RG K H' G'):∃ a xs,v=.ref a/\kg K H' a xs/\RDs K H' ds xs:=by
 cases d with
 | lst es=>
  obtain⟨a,xs,e,f,q⟩:=r.lst;simp only[xV,Option.some.injEq]at h;subst h;exact⟨a,xs,e,f.sq,q⟩
 | fl es=>
  obtain⟨a,xs,e,f,_,q,_⟩:=r.fl;simp only[xV,Option.some.injEq]at h;subst h;exact⟨a,xs,e,kg.of f,q⟩
 | ref a=>
  have e:=r.ref;simp only[xV]at h;cases q:G' a with
  | none=>rw[q]at h;cases h
  | some o=>
   rw[q]at h;cases o with
   | lst es=>
    simp only[Option.some.injEq]at h;subst h;obtain⟨ho,e1,e2⟩:=rg a _ q;cases ho with
    | lst xs=>exact⟨a,xs,e,kg.of e1,e2⟩
    | _=>exact e2.elim
   | _=>cases h
 | _=>simp[xV]at h
theorem uL(h:FE G' d=some ds)(r:RE K G H G' H' d v)(rg:RG K H' G'):∃ a xs,v=.ref a/\(kg K H' a xs\/ke K H' a xs)/\RDs K H' ds xs:=by
 cases d with
 | tup es=>
  obtain⟨a,xs,e,f,q⟩:=r.tup;simp only[FE,Option.some.injEq]at h;subst h;exact⟨a,xs,e,.inr f,q⟩
 | _=>
  obtain⟨a,xs,e,f,q⟩:=qI (by simpa only[FE]using h) r rg
  exact⟨a,xs,e,.inl f,q⟩
theorem uz(rg:RG K H G)(e:H p=none)(r:RDs K H ds xs):RE K G H G (aR H p (.lst xs)) (.fl ds) (.ref p):=
 .inl ⟨ds,p,xs,rfl,rfl,aF,rg.free e,RDs.mono ((Kp.laid (G:=G) e).stb rg) _ _ r,sj e⟩
theorem lT(rg:RG K H G)(e:H p=none)(r:RDs K H ds xs):RD K (aR H p (.tup xs)) (.tup ds) (.ref p):=
 qc (ke.of aF) (RDs.mono ((Kp.laid (G:=G) e).stb rg) _ _ r)
end
end L3
namespace L2
open PySem PySem.Spec PyProof.Rows
section
variable{X:Cx}
theorem PE.imp(h:PE X e t)(i:∀ σ H Q,t' σ H Q->t σ H Q):PE X e t':=fun pins s σ H Q I q=>h pins s σ H Q I (i σ H Q q)
theorem PT.imp(h:PT X e t)(i:∀ σ H Q,t' σ H Q->t σ H Q):PT X e t':=fun pins s σ H Q I q=>h pins s σ H Q I (i σ H Q q)
theorem PW.imp(h:PW X e t)(i:∀ σ H Q,t' σ H Q->t σ H Q):PW X e t':=fun wh pins s σ H Q I q=>h wh pins s σ H Q I (i σ H Q q)
theorem PA.imp(h:PA X es t)(i:∀ σ H Q,t' σ H Q->t σ H Q):PA X es t':=fun pos pins s σ H Q I q=>h pos pins s σ H Q I (i σ H Q q)
theorem PS.imp(h:PS X e t)(i:∀ D σ H,t' D σ H->t D σ H):PS X e t':=fun pins s σ H D I q=>h pins s σ H D I (i D σ H q)
theorem iJ.imp(h:iJ X e t)(i:∀ D σ H,t' D σ H->t D σ H):iJ X e t':=fun pins s σ H D I q=>h pins s σ H D I (i D σ H q)
theorem gf.imp(h:gf X f r)(i:∀ x y H Q,r' x y H Q->r x y H Q):gf X f r':=fun pins s σ H x y v u Q I rx ry q=>h pins s σ H x y v u Q I rx ry (i x y H Q q)
theorem d9.imp(h:d9 X f r)(i:∀ xs H Q,r' xs H Q->r xs H Q):d9 X f r':=fun pins s σ H xs us Q I r q=>h pins s σ H xs us Q I r (i xs H Q q)
theorem Dn.imp(h:Dn X r)(i:∀ x lo hi H Q,r' x lo hi H Q->r x lo hi H Q):Dn X r':=fun pins s σ H x v vl vu lo hi sl Q I rx hs pl pu q=>h pins s σ H x v vl vu lo hi sl Q I rx hs pl pu (i x lo hi H Q q)
theorem Dp.imp(h:Dp X r)(i:∀ x y H Q,r' x y H Q->r x y H Q):Dp X r':=fun value slice pins s σ H x y v u Q I rx ry q hs=>h value slice pins s σ H x y v u Q I rx ry (i x y H Q q) hs
theorem Inv.freeze{pins:List (MT×Obj)}{σ:St}{H:Hp}{s:MU}{p:MT}{xs:List V}(I:Inv X pins σ H s)(e:H p=some (.lst xs)):∃ o,Inv X pins σ (aR H p (.frz o (.lst xs))) s:=by
 obtain⟨its,n,rv,ho,hz⟩:=I.lst e;have stay:∀ b,H b=none->(aR H p (.frz { cls:=.type "list",data:=.seq its.toArray n } (.lst xs))) b=none:=fun b hb=>by
  rw[ar (fun z=>by subst z;rw[hb]at e;cases e)];exact hb
 refine⟨{ cls:=.type "list",data:=.seq its.toArray n },⟨I.ok,I.os,I.bare,⟨I.base.keep,I.base.slot,fun b o h1 h2 h3=>stay b (I.base.free b o h1 h2 h3),I.base.there,fun b ys q=>?_,fun b o u q=>?_,fun b ps q=>?_⟩,I.loc,I.cell,stay _ I.free,fun x c hc=>stay c (I.freeC x c hc),fun q hq=>?_,fun b u q=>?_,I.len⟩⟩
 ·have q':=I.base.tups b ys q;rw[ar (fun z=>by subst z;rw[e]at q';cases q')];exact q'
 ·have q':=I.base.frzs b o u q;rw[ar (fun z=>by subst z;rw[e]at q';cases q')];exact q'
 ·obtain⟨more,q'⟩:=I.base.tbls b ps q;exact⟨more,by rw[ar (fun z=>by subst z;rw[e]at q';cases q')];exact q'⟩
 ·obtain⟨h1,h2,h3⟩:=I.pin q hq;exact⟨h1,stay _ h2,h3⟩
 ·by_cases hb:b=p
  ·subst hb;rw[aF]at q;cases q;exact⟨ho,hz,its,n,rv,ho⟩
  ·rw[ar hb]at q;refine (I.hok b u q).stay (fun _ _ _ z=>z) (fun c z=>?_) fun c ys z=>?_
   ·rw[ar (fun y=>by subst y;rw[e]at z;cases z)];exact z
   ·rw[ar (fun y=>by subst y;rw[e]at z;cases z)];exact z
def gh(t:TE):TE:=fun σ H Q=>t σ H fun v H1=>Q v H1\/∃ p xs,v=.ref p/\H1 p=some (.lst xs)/\∀ o,Q v (aR H1 p (.frz o (.lst xs)))
theorem Kl(h:PE X e t):PE X e (gh t):=fun pins s σ H Q I q=>
 bZ (h pins s σ H _ I q) fun u s' zz=>by
  obtain⟨v,H',I',r,q'⟩:=zz;rcases q' with q'|⟨p,xs,rfl,e,q'⟩
  ·exact⟨v,H',I',r,q'⟩
  ·obtain⟨o,I2⟩:=I'.freeze e;exact⟨.ref p,_,I2,r,q' o⟩
end
end L2
namespace L3
open PySem PySem.Spec PyProof.Rows L2
abbrev jh:=D->Gp->Prop
abbrev aV:=dO->Gp->jh->Prop
abbrev mv:=dO->Gp->(Bool->Gp->Prop)->Prop
abbrev kK:=dO->Gp->(List D->Gp->Prop)->Prop
set_option genInjectivity false in
structure Ends3 where
 nx:dO->Gp->Prop
 rt:jh
 bk:dO->Gp->Prop:=fun _ _=>False
 ct:dO->Gp->Prop:=fun _ _=>False
abbrev bc:=Ends3->dO->Gp->Prop
def r_(K:Po)(G:Gp)(H:Hp)(Q3:jh)(Q:VK):Prop:=∀ d G' v H',Q3 d G'->Kp G H G' H'->RG K H' G'->RE K G H G' H' d v->Q v H'
def aA(K:Po)(t:aV):TE:=fun τ H Q=>∃ σ G Q3,RS K H σ τ/\RG K H G/\t σ G Q3/\r_ K G H Q3 Q
def b8(K:Po)(t:mv):TT:=fun τ H Q=>∃ σ G Q3,RS K H σ τ/\RG K H G/\t σ G Q3/\∀ b G' H',Q3 b G'->Kp G H G' H'->RG K H' G'->Q b H'
def dN(K:Po)(t:kK):TA:=fun τ H Q=>∃ σ G Q3,RS K H σ τ/\RG K H G/\t σ G Q3/\∀ ds G' vs H',Q3 ds G'->Kp G H G' H'->RG K H' G'->RDs K H' ds vs->Q vs H'
structure EndsOk(K:Po)(G:Gp)(H:Hp)(D3:Ends3)(D:Ends):Prop where
 nx:∀ σ G' τ H',D3.nx σ G'->Kp G H G' H'->RG K H' G'->RS K H' σ τ->D.nx τ H'
 rt:r_ K G H D3.rt D.rt
 bk:∀ σ G' τ H',D3.bk σ G'->Kp G H G' H'->RG K H' G'->RS K H' σ τ->D.bk τ H'
 ct:∀ σ G' τ H',D3.ct σ G'->Kp G H G' H'->RG K H' G'->RS K H' σ τ->D.ct τ H'
def bN(K:Po)(t:bc):TS:=fun D τ H=>∃ σ G D3,RS K H σ τ/\RG K H G/\t D3 σ G/\EndsOk K G H D3 D
theorem r_.base{K:Po}{G G1:Gp}{H H1:Hp}{Q3:jh}{Q:VK}(f:r_ K G H Q3 Q)(k:Kp G H G1 H1):r_ K G1 H1 Q3 Q:=
 fun d G' v H' q k' rg re=>f d G' v H' q (k.trans k') rg (re.base k)
theorem EndsOk.base{K:Po}{G G1:Gp}{H H1:Hp}{D3:Ends3}{D:Ends}(f:EndsOk K G H D3 D)(k:Kp G H G1 H1):EndsOk K G1 H1 D3 D:=
 ⟨fun σ G' τ H' q k'=>f.nx σ G' τ H' q (k.trans k'),f.rt.base k,fun σ G' τ H' q k'=>f.bk σ G' τ H' q (k.trans k'),fun σ G' τ H' q k'=>f.ct σ G' τ H' q (k.trans k')⟩
def val:D->D
 | .fl ds=>.lst ds
 | d=>d
def tW(K:Po)(t:aV):TE:=fun τ H Q=>∃ σ G Q3,RS K H σ τ/\RG K H G/\t σ G Q3/\∀ d G' v H',Q3 d G'->Kp G H G' H'->RG K H' G'->RD K H' (val d) v->Q v H'
section
variable{X:Cx}{e:Nh}{t:aV}
theorem A5{K:Po}{G G':Gp}{H H':Hp}{p:MT}{o:HO}(k:Kp G H G' H')(f:JL G H p):Kp G H G' (aR H' p o):=fun a h e n=>by
 have:a≠p:=fun z=>by subst z;exact f h e n
 exact⟨by rw[ar this];exact (k a h e n).1,(k a h e n).2⟩
theorem A4{K:Po}{G':Gp}{H':Hp}{p:MT}{xs:List V}{o:Obj}(rg:RG K H' G')(e:H' p=some (.lst xs))(n:G' p=none):RG K (aR H' p (.frz o (.lst xs))) G'/\Stb K H' (aR H' p (.frz o (.lst xs))):=by
 have st:Stb K H' (aR H' p (.frz o (.lst xs))):=by
  constructor
  ·intro a ys q;rcases q with (q|⟨ob,q⟩)|q
   ·exact .inl (.inl (by rw[ar (fun z=>by subst z;rw[e]at q;cases q)];exact q))
   ·exact .inl (.inr ⟨ob,by rw[ar (fun z=>by subst z;rw[e]at q;cases q)];exact q⟩)
   ·exact .inr q
  ·intro a ys q;rcases q with ⟨ob,q⟩|q
   ·exact .inl ⟨ob,by rw[ar (fun z=>by subst z;rw[e]at q;cases q)];exact q⟩
   ·exact .inr q
 refine⟨fun a o' q=>?_,st⟩;obtain⟨h,e1,r⟩:=rg a o' q;exact⟨h,by rw[ar (fun z=>by subst z;rw[n]at q;cases q)];exact e1,r.mono st⟩
theorem c7(h:PE X e (aA X.K t)):PE X e (tW X.K t):=(Kl h).imp fun τ H Q zz=>by
 obtain⟨σ,G,Q3,rs,rg,ht,hk⟩:=zz;refine⟨σ,G,Q3,rs,rg,ht,fun d G' v H' q k rg' re=>?_⟩;cases d with
 | fl ds=>
  obtain⟨p,xs,rfl,e1,e2,e3,e4⟩:=re.fl;refine .inr ⟨p,xs,rfl,e1,fun o=>?_⟩;obtain⟨rg2,st⟩:=A4 (o:=o) rg' e1 e2;exact hk _ G' _ _ q (A5 (K:=X.K) k e4) rg2 (qd (.inl ⟨o,aF⟩) (RDs.mono st _ _ e3))
 | _=>exact .inl (hk _ G' v H' q k rg' (re.rd (by intro ds z;cases z)))
end
def cv:bc:=fun D σ G=>D.nx σ G
def sSeq(t u:bc):bc:=fun D σ G=>t { D with nx:=u D } σ G
section
variable{X:Cx}{st:No}{c8:List No}{t u:bc}{e:Nh}{te:aV}{pos:Pos}
theorem cD:iJ X [] (bN X.K cv):=Ga.imp fun D τ H zz=>by
 obtain⟨σ,G,D3,rs,rg,h,k⟩:=zz;exact (
  k.nx σ G τ H h Kp.refl rg rs)
theorem au(h1:PS X st (bN X.K t))(h2:iJ X c8 (bN X.K u)):iJ X (st::c8) (bN X.K (sSeq t u)):=(ze h1 h2).imp fun D τ H zz=>by
 obtain⟨σ,G,D3,rs,rg,h,k⟩:=zz;exact (
   ⟨σ,G,{ D3 with nx:=u D3 },rs,rg,h,⟨fun σ' G' τ' H' q k' rg' rs'=>⟨σ',G',D3,rs',rg',q,k.base k'⟩,k.rt,k.bk,k.ct⟩⟩)
theorem ay(h1:PS X st (bN X.K t)):iJ X [st] (bN X.K t):=sh h1
def eG(te:aV):bc:=fun D σ G=>te σ G fun _ G'=>D.nx σ G'
theorem dY(he:PE X e (aA X.K te))(hs:Ob e none pos.line X.env=pure false:=by rfl):PS X (.Expr e pos) (bN X.K (eG te)):=(BF he hs).imp fun D τ H zz=>by
 obtain⟨σ,G,D3,rs,rg,h,k⟩:=zz;exact (
   ⟨σ,G,fun _ G'=>D3.nx σ G',rs,rg,h,fun d G' v H' q k' rg' _=>k.nx σ G' τ H' q k' rg' (rs.mono (k'.stb rg))⟩)
def aT(te:aV):bc:=fun D σ G=>te σ G D.rt
theorem aK(he:PE X e (aA X.K te)):PS X (.Return (some e) pos) (bN X.K (aT te)):=(El he).imp fun D τ H zz=>by
 obtain⟨σ,G,D3,rs,rg,h,k⟩:=zz;exact (
  ⟨σ,G,D3.rt,rs,rg,h,k.rt⟩)
def J7:bc:=fun D _ G=>D.rt .non G
def Ir:bc:=fun D σ G=>D.bk σ G
def J8:bc:=fun D σ G=>D.ct σ G
def il(c:mv)(t u:bc):bc:=fun D σ G=>c σ G fun b G'=>if b=true then t D σ G' else u D σ G'
theorem e9(hc:PT X c (b8 X.K tc))(ha:iJ X a (bN X.K t))(hb:iJ X b (bN X.K u)):PS X (.If c a b pos) (bN X.K (il tc t u)):=
 (Eo hc ha hb).imp fun D τ H zz=>by
 obtain⟨σ,G,D3,rs,rg,h,k⟩:=zz;exact (
  ⟨σ,G,_,rs,rg,h,fun b G' H' q k' rg'=>by
    cases b with
    | true=>exact⟨σ,G',D3,rs.mono (k'.stb rg),rg',q,k.base k'⟩
    | false=>exact⟨σ,G',D3,rs.mono (k'.stb rg),rg',q,k.base k'⟩⟩)
def gy:bc:=fun _ _ _=>False
theorem oR:PS X st (bN X.K gy):=En.imp fun D τ H zz=>by
 obtain⟨σ,G,D3,rs,rg,h,k⟩:=zz;exact (
  h)
theorem oQ:iJ X c8 (bN X.K gy):=Cu.imp fun D τ H zz=>by
 obtain⟨σ,G,D3,rs,rg,h,k⟩:=zz;exact (
  h)
def bK(i:Nat)(te:aV):bc:=fun D σ G=>te σ G fun d G'=>D.nx (σ.set i (some (val d))) G'
theorem aZ(hN:X.N.Nodup)(hi:X.N[i]?=some x)(hx:JK X.env.scope x)(he:PE X e (aA X.K te))(hs:Ob e (some (.Name x pos')) pos.line X.env=pure false:=by rfl)(hf:X.fn x=true\/X.env.scope.names.lookup x=some .local:=by first|exact .inl rfl|exact .inr rfl|assumption):PS X (.Assign [.Name x pos'] e pos) (bN X.K (bK i te)):=
 (AG hN hi hx (c7 he) hs hf).imp fun D τ H zz=>by
 obtain⟨σ,G,D3,rs,rg,h,k⟩:=zz;exact (
  ⟨σ,G,_,rs,rg,h,fun d G' v H' q k' rg' rd=>k.nx _ G' _ H' q k' rg' ((rs.mono (k'.stb rg)).set rd i)⟩)
def FY(i:Nat)(te:aV):bc:=fun D σ G=>te σ G fun d G'=>∃ ds,d=.fl ds/\∀ p,G' p=none->D.nx (σ.set i (some (.ref p))) (gset G' p (.lst ds))
theorem EH{K:Po}{G:Gp}{H:Hp}{p:MT}{xs:List V}{ds:List D}(rg:RG K H G)(e:H p=some (.lst xs))(r:RDs K H ds xs):RG K H (gset G p (.lst ds)):=fun a o q=>by
 by_cases ha:a=p
 ·subst ha;rw[ax]at q;cases q;exact⟨_,e,r⟩
 ·rw[ai ha]at q;exact rg a o q
theorem EI(k:Kp G H G' H')(f:JL G H p):Kp G H (gset G' p o) H':=fun a h e n=>by
 have:a≠p:=fun z=>by subst z;exact f h e n
 exact⟨(k a h e n).1,by rw[ai this];exact (k a h e n).2⟩
theorem HD(hN:X.N.Nodup)(hi:X.N[i]?=some x)(hx:JK X.env.scope x)(he:PE X e (aA X.K te))(hs:Ob e (some (.Name x pos')) pos.line X.env=pure false:=by rfl)(hf:X.fn x=true\/X.env.scope.names.lookup x=some .local:=by first|exact .inl rfl|exact .inr rfl|assumption):PS X (.Assign [.Name x pos'] e pos) (bN X.K (FY i te)):=
 (AG hN hi hx he hs hf).imp fun D τ H zz=>by
 obtain⟨σ,G,D3,rs,rg,h,k⟩:=zz;exact (
  ⟨σ,G,_,rs,rg,h,fun d G' v H' q k' rg' re=>by
    obtain⟨ds,rfl,q⟩:=q;obtain⟨p,xs,rfl,e1,e2,e3,e4⟩:=re.fl;exact k.nx _ _ _ H' (q p e2) (EI k' e4) (EH rg' e1 e3) ((rs.mono (k'.stb rg)).set eT i)⟩)
def iu(i:Nat):bc:=fun D σ G=>match σ[i]? with
 | some (some (.ref p))=>match G p with
  | some (.lst ds)=>D.rt (.fl ds) (fL G p)
  | _=>False
 | _=>False
theorem za{i:Nat}{x:Str}{pos':Pos}(hN:X.N[i]?=some x)(hv:JH X.env.scope x)(hd:(x == ("__debug__":Str))=false:=by decide)(hcd:(x == ("__classdict__":Str))=false:=by decide):
  PS X (.Return (some (.Name x pos')) pos) (bN X.K (iu i)):=(El (tK hN hv hd hcd)).imp fun D τ H zz=>by
 obtain⟨σ,G,D3,rs,rg,h,k⟩:=zz;unfold iu at h;split at h
 ·rename_i p hp;split at h
  ·rename_i ds hg;obtain⟨v,e1,r⟩:=rs.get hp;simp only[RD]at r;subst r;obtain⟨ho,e2,ro⟩:=rg p _ hg;refine⟨_,e1,?_⟩;cases ho with
   | lst xs=>
    have rg2:RG X.K H (fL G p):=fun a o q=>by
     by_cases ha:a=p
     ·subst ha;rw[eh]at q;cases q
     ·rw[em ha]at q;exact rg a o q
    refine k.rt _ _ _ H h (fun a ha e n=>⟨e,?_⟩) rg2 (.inl ⟨ds,p,xs,rfl,rfl,e2,eh,ro,fun h' _=>by rw[hg];exact fun z=>nomatch z⟩)
    by_cases hap:a=p
    ·subst hap;exact eh
    ·rw[em hap];exact n
   | _=>exact ro.elim
  ·exact h.elim
 ·exact h.elim
end
def ae(i:Nat):aV:=fun σ G Q=>match σ[i]? with
 | some (some d)=>Q d G
 | _=>False
def eC(d:D):aV:=fun _ G Q=>Q d G
section
variable{X:Cx}{pos:Pos}{j:Nat}
theorem Ko(hN:X.N[i]?=some x)(hv:JH X.env.scope x)(hd:(x == ("__debug__":Str))=false:=by decide)(hcd:(x == ("__classdict__":Str))=false:=by decide):PE X (.Name x pos) (aA X.K (ae i)):=
 (tK hN hv hd hcd).imp fun τ H Q zz=>by
  obtain⟨σ,G,Q3,rs,rg,h,k⟩:=zz;unfold ae at h;split at h
  ·rename_i d hp;obtain⟨v,e1,r⟩:=rs.get hp;exact⟨v,e1,k d G v H h Kp.refl rg (.of r)⟩
  ·exact h.elim
theorem am(i:Nat)(hN:X.N[i]?=some x:=by rfl)(hv:JH X.env.scope x:=by first|exact Or.inl rfl|exact Or.inr (Or.inl rfl)|exact Or.inr (Or.inr rfl))(hd:(x == ("__debug__":Str))=false:=by decide)(hcd:(x == ("__classdict__":Str))=false:=by decide):PE X (.Name x pos) (aA X.K (ae i)):=Ko hN hv hd hcd
theorem JO(h:PE X e (tC v))(r:∀ H,RD X.K H d v):PE X e (aA X.K (eC d)):=h.imp fun τ H Q zz=>by
 obtain⟨σ,G,Q3,rs,rg,hq,k⟩:=zz;exact (
  k d G v H hq Kp.refl rg (.of (r H)))
theorem aD:PE X (.Constant (.int i) j pos) (aA X.K (eC (.int i))):=JO IG fun _=>eA
theorem rR:PE X (.Constant (.bool b) j pos) (aA X.K (eC (.bl b))):=JO Kn fun _=>ff
theorem HE:PE X (.Constant .none j pos) (aA X.K (eC .non)):=JO IE fun _=>wX
theorem cf:PE X (.Constant (.str x) j pos) (aA X.K (eC (.str x))):=JO Ew fun _=>jt
end
abbrev R3:=D->D->Gp->jh->Prop
def dh(K:Po)(r3:R3):R2:=fun v u H Q=>∃ x y G0 H0 G Q3,RE K G0 H0 G H x v/\RE K G0 H0 G H y u/\RG K H G/\r3 x y G Q3/\r_ K G H Q3 Q
def cz(r:R3)(ta tb:aV):aV:=fun σ G Q=>ta σ G fun x G1=>tb σ G1 fun y G2=>r x y G2 Q
section
variable{X:Cx}{a b c:Nh}{ta tb tc:aV}{pos:Pos}{r r':R3}
theorem two{K:Po}{r2:R2}{Q:VK}{τ:St}{H:Hp}(hr:r2=dh K r)(h:aA K (cz r ta tb) τ H Q):JN r2 (aA K ta) (aA K tb) τ H Q:=by
 subst hr;obtain⟨σ,G,Q3,rs,rg,h,k⟩:=h;refine⟨σ,G,fun x G1=>tb σ G1 fun y G2=>r x y G2 Q3,rs,rg,h,fun x G1 v H1 h1 k1 rg1 re1=>⟨σ,G1,fun y G2=>r x y G2 Q3,rs.mono (k1.stb rg),rg1,h1,fun y G2 u H2 h2 k2 rg2 re2=>?_⟩⟩;exact⟨x,y,G,H,G2,Q3,re1.wait k2 rg1,re2.base k1,rg2,h2,k.base (k1.trans k2)⟩
theorem dE(ho:gf X (Oh op) (dh X.K r))(ha:PE X a (aA X.K ta))(hb:PE X b (aA X.K tb)):PE X (.BinOp a op b pos) (aA X.K (cz r ta tb)):=
 (Kj ho ha hb).imp fun _ _ _ h=>two rfl h
def br(t:aV):mv:=fun σ G Q=>t σ G fun d G'=>match d with
 | .bl b=>Q b G'
 | _=>False
theorem wH{K:Po}{t:aV}{τ:St}{H:Hp}{Q:Bool->Hp->Prop}(h:b8 K (br t) τ H Q):DK (aA K t) τ H Q:=by
 obtain⟨σ,G,Q3,rs,rg,h,k⟩:=h;refine⟨σ,G,_,rs,rg,h,fun d G' v H' q k' rg' re=>?_⟩;cases d with
 | bl b=>exact⟨b,re.bl,k b G' H' q k' rg'⟩
 | _=>exact q.elim
theorem tM(ho:gf X (Nr op) (dh X.K r))(ha:PE X a (aA X.K ta))(hb:PE X b (aA X.K tb))(hm:NW op b=false):PT X (.Compare a [op] [b] pos) (b8 X.K (br (cz r ta tb))):=
 (wZ ho ha hb hm).imp fun _ _ _ h=>two rfl (wH h)
def qF(r r':R3)(ta tb tc:aV):aV:=fun σ G Q=>ta σ G fun x G1=>tb σ G1 fun y G2=>r x y G2 fun z G3=>match z with
 | .bl k=>if k=true then tc σ G3 fun w G4=>r' y w G4 Q else Q (.bl false) G3
 | _=>False
theorem KR{K:Po}{Q:VK}{τ:St}{H:Hp}(h:aA K (qF r r' ta tb tc) τ H Q):DN (dh K r) (dh K r') (aA K ta) (aA K tb) (aA K tc) τ H Q:=by
 obtain⟨σ,G,Q3,rs,rg,h,k⟩:=h;refine⟨σ,G,_,rs,rg,h,fun x G1 v H1 h1 k1 rg1 re1=>⟨σ,G1,_,rs.mono (k1.stb rg),rg1,h1,fun y G2 u H2 h2 k2 rg2 re2=>?_⟩⟩;refine⟨x,y,G,H,G2,_,re1.wait k2 rg1,re2.base k1,rg2,h2,fun z G3 w H3 h3 k3 rg3 re3=>?_⟩;have k13:=k1.trans (k2.trans k3);cases z with
 | bl kk=>
  refine⟨kk,re3.bl,?_⟩;cases kk with
  | true=>
   refine iteT ?_;refine⟨σ,G3,_,rs.mono (k13.stb rg),rg3,h3,fun w' G4 w4 H4 h4 k4 rg4 re4=>?_⟩;exact⟨y,w',G,H,G4,Q3,(re2.base k1).wait (k3.trans k4) rg2,re4.base k13,rg4,h4,k.base (k13.trans k4)⟩
  | false=>exact iteF (k _ G3 _ H3 h3 k13 rg3 (.of ff))
 | _=>exact h3.elim
theorem tN(ho:gf X (Nr op) (dh X.K r))(ho':gf X (Nr op') (dh X.K r'))(ha:PE X a (aA X.K ta))(hb:PE X b (aA X.K tb))(hc:PE X c (aA X.K tc))(hm:lastMarks [op,op'] [b,c]=false:=by with_unfolding_all rfl):PT X (.Compare a [op,op'] [b,c] pos) (b8 X.K (br (qF r r' ta tb tc))):=
 (Ej ho ho' ha hb hc hm).imp fun τ H Q h=>by
  obtain⟨σ,G,Q3,rs,rg,h,k⟩:=h;refine KR (Q:=fun x H'=>∃ k,x=.bl k/\Q k H') ⟨σ,G,_,rs,rg,h,fun d G' v H' q k' rg' re=>?_⟩;cases d with
  | bl b=>exact⟨b,re.bl,k b G' H' q k' rg'⟩
  | _=>exact q.elim
def sG(t u:mv):mv:=fun σ G Q=>t σ G fun c G1=>if c=true then u σ G1 Q else Q false G1
def As(t u:mv):mv:=fun σ G Q=>t σ G fun c G1=>if c=true then Q true G1 else u σ G1 Q
def sE(t:mv):mv:=fun σ G Q=>t σ G fun c G1=>Q (!c) G1
variable{tA tB:mv}{es:List Nh}
theorem DD(ha:PT X a (b8 X.K tA)):PW X (.BoolOp .And [a] pos) (b8 X.K tA):=F7 ha
theorem Hu(ha:PT X a (b8 X.K tA)):PW X (.BoolOp .Or [a] pos) (b8 X.K tA):=Iw ha
theorem Hv(ha:PT X a (b8 X.K tA))(hb:PW X (.BoolOp .And (b::es) pos) (b8 X.K tB)):PW X (.BoolOp .And (a::b::es) pos) (b8 X.K (sG tA tB)):=(Ix ha hb).imp fun τ H Q zz=>by
 obtain⟨σ,G,Q3,rs,rg,h,k⟩:=zz;exact (
   ⟨σ,G,_,rs,rg,h,fun c G1 H1 q k1 rg1=>by
    cases c with
    | true=>exact iteT ⟨σ,G1,Q3,rs.mono (k1.stb rg),rg1,q,fun b' G' H' q' k' rg'=>k b' G' H' q' (k1.trans k') rg'⟩
    | false=>exact iteF (k false G1 H1 q k1 rg1)⟩)
theorem JW(ha:PT X a (b8 X.K tA))(hb:PW X (.BoolOp .Or (b::es) pos) (b8 X.K tB)):PW X (.BoolOp .Or (a::b::es) pos) (b8 X.K (As tA tB)):=(Kf ha hb).imp fun τ H Q zz=>by
 obtain⟨σ,G,Q3,rs,rg,h,k⟩:=zz;exact (
   ⟨σ,G,_,rs,rg,h,fun c G1 H1 q k1 rg1=>by
    cases c with
    | false=>exact iteF ⟨σ,G1,Q3,rs.mono (k1.stb rg),rg1,q,fun b' G' H' q' k' rg'=>k b' G' H' q' (k1.trans k') rg'⟩
    | true=>exact iteT (k true G1 H1 q k1 rg1)⟩)
theorem tL(ha:PT X a (b8 X.K tA)):PT X (.UnaryOp .Not a pos) (b8 X.K (sE tA)):=(Iz ha).imp fun τ H Q zz=>by
 obtain⟨σ,G,Q3,rs,rg,h,k⟩:=zz;exact (
  ⟨σ,G,_,rs,rg,h,fun c G1 H1 q k1 rg1=>k (!c) G1 H1 q k1 rg1⟩)
def L_(ta tb:aV):aV:=fun σ G Q=>ta σ G fun x G1=>match x with
 | .bl c=>if c=true then tb σ G1 Q else Q (.bl false) G1
 | _=>False
def MG(ta tb:aV):aV:=fun σ G Q=>ta σ G fun x G1=>match x with
 | .bl c=>if c=true then Q (.bl true) G1 else tb σ G1 Q
 | _=>False
def KI(ta:aV):aV:=fun σ G Q=>ta σ G fun x G1=>match x with
 | .bl c=>Q (.bl (!c)) G1
 | _=>False
def MH(c:mv)(ta tb:aV):aV:=fun σ G Q=>c σ G fun b G1=>if b=true then ta σ G1 Q else tb σ G1 Q
def Ig(G:Gp):D->Option Bool
 | .non=>some false
 | .bl b=>some b
 | .int i=>some (i != 0)
 | .str y=>some ((y.length:Int) != 0)
 | d=>(FE G d).map fun ds=>!ds.isEmpty
def sF(t:aV):mv:=fun σ G Q=>t σ G fun d G'=>match Ig G' d with
 | some b=>(match d with|.str y=>y.length<=M1|_=>True)/\Q b G'
 | none=>False
theorem ib(ha:PE X a (aA X.K ta))(he:∀ whole,Rp a X.env whole=(do let v <- whole;O2 a.pos;holding [v] (truthy v)):=by intro _;rfl):PT X a (b8 X.K (sF ta)):=
 (Eh ha he).imp fun τ H Q zz=>by
 obtain⟨σ,G,Q3,rs,rg,h,k⟩:=zz;exact (
  ⟨σ,G,_,rs,rg,h,fun d G' v H' q k' rg' re=>by
    cases d with
    | non=>rw[re.non];exact⟨false,rfl,k _ G' H' q.2 k' rg'⟩
    | bl b=>rw[re.bl];exact⟨b,rfl,k _ G' H' q.2 k' rg'⟩
    | int i=>rw[re.int];exact⟨_,rfl,k _ G' H' q.2 k' rg'⟩
    | str y=>rw[re.str];exact⟨_,⟨q.1,rfl⟩,k _ G' H' q.2 k' rg'⟩
    | ty n=>exact q.elim
    | _=>
     split at q
     ·rename_i b hb;simp only[Ig,Option.map_eq_some_iff]at hb;obtain⟨ds,hq,rfl⟩:=hb;obtain⟨a,xs,rfl,s,r⟩:=uL hq re rg';have el:(!ds.isEmpty)=!xs.isEmpty:=by
       have:=r.length;cases ds<;>cases xs<;>simp_all
      refine⟨!xs.isEmpty,?_,k _ G' H' (by rw[<- el];exact q.2) k' rg'⟩
      rcases s with s|s
      ·exact .inl ⟨xs,s,rfl⟩
      ·exact .inr (.inl ⟨xs,s,rfl⟩)
     ·exact q.elim⟩)
end
end L3
namespace L2
open PySem PySem.Spec PyProof.Rows
section
variable{X:Cx}
def Kd(K:Po):R2:=fun x y H Q=>∃ l b xs zs,x=.ref l/\y=.ref b/\kg K H l xs/\kg K H b zs/\xs.length+zs.length<=M1/\∀ p,H p=none->Q (.ref p) (aR H p (.lst (xs ++ zs)))
theorem Gz:gf X (Oh .Add) (Kd X.K):=by
 intro pins s σ H x y v u Q I rx ry h;obtain⟨l,b,xs,zs,rfl,rfl,hH,hB,hz,q⟩:=h;cases rx;cases ry;obtain⟨its,r,pl,z⟩:=I.list hH;obtain⟨its2,r2,pl2,z2⟩:=I.list hB;obtain⟨⟨cls,dd,data,sl⟩,ho,hc,n,hd⟩:=pl.isList;obtain⟨⟨cls2,dd2,data2,sl2⟩,ho2,hc2,n2,hd2⟩:=pl2.isList;simp only at hc hd hc2 hd2;subst hc hd hc2 hd2;have hl:=r.length;have hl2:=r2.length;have e:its.toArray ++ its2.toArray=(its ++ its2).toArray:=by simp
 refine Rr ⟨_,ho,rfl⟩ ⟨_,ho2,rfl⟩ noFill_list_add seq_list_add PySem.F.slot_list_add PySem.F.entry_list_add (PySem.F.args_list_add_2 _ _) (list_addW l b its.toArray its2.toArray n n2 dd dd2 sl sl2 (by simp only[M8];omega)) ⟨ho,ho2,?_⟩
 rw[e];exact⟨.ref _,_,I.lnew (t':=s.toks) (r.append r2) (by rw[NJ];omega),rfl,q _ I.fresh⟩
end
end L2
namespace L3
open PySem PySem.Spec PyProof.Rows L2
section
variable{X:Cx}
def lB:R3:=fun x y G Q=>match x,y with
 | .int i,.int j=>Q (.int (i+j)) G
 | .str i,.str j=>i.length+j.length<=M1/\Q (.str (i ++ j)) G
 | .tup xs,.tup ys=>xs≠[]/\xs.length+ys.length<=M1/\Q (.tup (xs ++ ys)) G
 | x,y=>match xV G x,xV G y with
  | some xs,some ys=>xs.length+ys.length<=M1/\Q (.fl (xs ++ ys)) G
  | _,_=>False
theorem ip:gf X (Oh .Add) (dh X.K lB):=by
 refine ((IN (X:=X)).or ((AN (X:=X)).or ((Gy (X:=X)).or (Gz (X:=X))))).imp fun v u H Q zz=>?_;obtain⟨x,y,G0,H0,G,Q3,rx,ry,rg,h,k⟩:=zz;unfold lB at h;split at h
 ·rename_i i j;exact .inl ⟨i,j,rx.int,ry.int,k _ G _ H h Kp.refl rg (.of eA)⟩
 ·rename_i i j;exact .inr (.inl ⟨i,j,rx.str,ry.str,h.1,k _ G _ H h.2 Kp.refl rg (.of jt)⟩)
 ·rename_i ds es;obtain⟨a,xs,rfl,s1,r1⟩:=rx.tup;obtain⟨b,ys,rfl,s2,r2⟩:=ry.tup;have l1:=r1.length;have l2:=r2.length;refine .inr (.inr (.inl ⟨a,b,xs,ys,rfl,rfl,s1,s2,fun z=>h.1 ?_,by have:=h.2.1;omega,fun z=>?_,fun _ p hp=>?_⟩))
  ·subst z;exact length_eq_zero_iff.mp l1
  ·subst z;have:es=[]:=length_eq_zero_iff.mp l2;subst this;have hh:=h.2.2;rw[Od]at hh;exact k _ G _ H hh Kp.refl rg (.of (qc s1 r1))
  ·exact k _ G _ _ h.2.2 (Kp.laid hp) (rg.laid hp) (.of (lT rg hp (r1.append r2)))
 ·split at h
  ·rename_i ds es hx hy;obtain⟨a,xs,rfl,s1,r1⟩:=qI hx rx rg;obtain⟨b,ys,rfl,s2,r2⟩:=qI hy ry rg;have l1:=r1.length;have l2:=r2.length;exact .inr (.inr (.inr ⟨a,b,xs,ys,rfl,rfl,s1,s2,by have:=h.1;omega,fun p hp=>k _ G _ _ h.2 (Kp.laid hp) (rg.laid hp) (uz rg hp (r1.append r2))⟩))
  ·exact h.elim
def oI(C:Int->Int->Prop)(g:Int->Int->D):R3:=fun x y G Q=>match x,y with
 | .int i,.int j=>C i j/\Q (g i j) G
 | _,_=>False
def HG(g:Int->Int->D):R3:=fun x y G Q=>match x,y with
 | .int i,.int j=>Q (g i j) G
 | _,_=>False
theorem Lv(h:gf X f (rI C g))(r:∀ i j H,RD X.K H (g3 i j) (g i j)):gf X f (dh X.K (oI C g3)):=
 h.imp fun v u H Q zz=>by
  obtain⟨x,y,G0,H0,G,Q3,rx,ry,rg,h,k⟩:=zz;unfold oI at h;split at h
  ·rename_i i j;exact⟨i,j,rx.int,ry.int,h.1,k _ G _ H h.2 Kp.refl rg (.of (r i j H))⟩
  ·exact h.elim
theorem FL(h:gf X f (HC g))(r:∀ i j H,RD X.K H (g3 i j) (g i j)):gf X f (dh X.K (HG g3)):=
 h.imp fun v u H Q zz=>by
  obtain⟨x,y,G0,H0,G,Q3,rx,ry,rg,h,k⟩:=zz;unfold HG at h;split at h
  ·rename_i i j;exact⟨i,j,rx.int,ry.int,k _ G _ H h Kp.refl rg (.of (r i j H))⟩
  ·exact h.elim
def GB:R3:=HG fun i j=>.int (i - j)
theorem Ht:gf X (Oh .Sub) (dh X.K GB):=FL IJ fun _ _ _=>eA
def jx:R3:=oI (fun _ j=>0 < j) fun i j=>.int (i % j)
theorem fR:gf X (Oh .Mod) (dh X.K jx):=Lv IM fun _ _ _=>eA
def IV:R3:=oI Ll fun i j=>.int (i / j)
theorem JV:gf X (Oh .FloorDiv) (dh X.K IV):=Lv Gx fun _ _ _=>eA
def IR:R3:=oI Lk fun i j=>.int (i ^ j.toNat)
theorem JR:gf X (Oh .Pow) (dh X.K IR):=Lv IK fun _ _ _=>eA
def IT:R3:=HG fun i j=>.bl (decide (i < j))
theorem DA:gf X (Nr .Lt) (dh X.K IT):=FL Kr fun _ _ _=>ff
def JQ:R3:=HG fun i j=>.bl (decide (i<=j))
theorem FK:gf X (Nr .LtE) (dh X.K JQ):=FL Ks fun _ _ _=>ff
def Lo:R3:=HG fun i j=>.bl (decide (j < i))
theorem Lu:gf X (Nr .Gt) (dh X.K Lo):=FL Kt fun _ _ _=>ff
def MC:R3:=HG fun i j=>.bl (decide (j<=i))
def av:kK:=fun _ G Q=>Q [] G
def af(ta:aV)(tr:kK):kK:=fun σ G Q=>ta σ G fun x G1=>tr σ G1 fun xs G2=>Q (val x::xs) G2
variable{e:Nh}{es:List Nh}{te:aV}{t:kK}{pos:Pos}
theorem ak:PA X [] (dN X.K av):=EE.imp fun τ H Q zz=>by
 obtain⟨σ,G,Q3,rs,rg,h,k⟩:=zz;exact (
  k [] G [] H h Kp.refl rg RDs.nil)
theorem aa(ha:PE X e (aA X.K te))(hr:PA X es (dN X.K t))(hs:M5 (e::es) X.env=(false,eval e X.env)::M5 es X.env:=by rfl):PA X (e::es) (dN X.K (af te t)):=
 (xm (c7 ha) hr hs).imp fun τ H Q zz=>by
 obtain⟨σ,G,Q3,rs,rg,h,k⟩:=zz;exact (
  ⟨σ,G,_,rs,rg,h,fun x G1 v H1 q k1 rg1 rd=>⟨σ,G1,_,rs.mono (k1.stb rg),rg1,q,fun ds G2 vs H2 q2 k2 rg2 rds=>
    k _ G2 _ H2 q2 (k1.trans k2) rg2 (RDs.cons (RD.mono (k2.stb rg1) _ _ rd) rds)⟩⟩)
def im(t:kK):aV:=fun σ G Q=>t σ G fun ds G1=>ds.length<=M1/\Q (.tup ds) G1
def kJ(t:kK):aV:=fun σ G Q=>t σ G fun ds G1=>ds.length<=M1/\Q (.fl ds) G1
theorem eZ{x1}(h:PA X es (dN X.K t)):PE X (.Tuple es x1 pos) (aA X.K (im t)):=(Eu h).imp fun τ H Q zz=>by
 obtain⟨σ,G,Q3,rs,rg,h,k⟩:=zz;exact (
  ⟨σ,G,_,rs,rg,h,fun ds G1 vs H1 q k1 rg1 rds=>
   ⟨by rw[<- rds.length];exact q.1,fun p hp=>k _ G1 _ _ q.2 (k1.trans (Kp.laid hp)) (rg1.laid hp) (.of (lT rg1 hp rds))⟩⟩)
theorem iD(h:PA X es (dN X.K t)):PE X (.List es pos) (aA X.K (kJ t)):=(IF h).imp fun τ H Q zz=>by
 obtain⟨σ,G,Q3,rs,rg,h,k⟩:=zz;exact (
  ⟨σ,G,_,rs,rg,h,fun ds G1 vs H1 q k1 rg1 rds=>
   ⟨by rw[<- rds.length];exact q.1,fun p hp=>k _ G1 _ _ q.2 (k1.trans (Kp.laid hp)) (rg1.laid hp) ((uz rg1 hp rds).base k1)⟩⟩)
def Hz(x:Str)(i:Int):Option D:=(iI x.cps.toList i).map fun c=>.str ⟨#[c]⟩
def gA:R3:=fun x y G Q=>match x,y with
 | .str z,.int i=>z.length<=M1/\match Hz z i with
  | some d=>Q d G
  | none=>False
 | x,.int i=>match FE G x with
  | some ds=>match iI ds i with
   | some d=>Q d G
   | none=>False
  | none=>False
 | _,_=>False
theorem Hg{K:Po}{H:Hp}{ds:List D}{xs:List V}{i:Int}{d:D}(r:RDs K H ds xs)(h:iI ds i=some d):∃ v,iI xs i=some v/\RD K H d v:=by
 unfold iI at h ⊢;rw[<- r.length];cases e:HN ds.length i with
 | none=>rw[e]at h;cases h
 | some j=>
  rw[e]at h;exact r.get h
theorem Lr:Dp X (dh X.K gA):=(Jj (X:=X)).imp fun v u H Q zz=>by
 obtain⟨x,y,G0,H0,G,Q3,rx,ry,rg,h,k⟩:=zz;unfold gA at h;split at h
 ·rename_i z i;obtain⟨h1,h2⟩:=h;split at h2
  ·rename_i d hd;unfold Hz at hd;rw[Option.map_eq_some_iff]at hd;obtain⟨c,hc,rfl⟩:=hd;exact .inr (.inr ⟨z,i,c,rx.str,ry.int,h1,hc,k _ G _ H h2 Kp.refl rg (.of jt)⟩)
  ·exact h2.elim
 ·rename_i i _;split at h
  ·rename_i ds hds;split at h
   ·rename_i d hd;obtain⟨a,xs,rfl,s,r⟩:=uL hds rx rg;obtain⟨w,hw,rd⟩:=Hg r hd;have fin:=k _ G _ H h Kp.refl rg (.of rd);rcases s with s|s
    ·exact .inl ⟨a,xs,i,w,rfl,ry.int,s,hw,fin⟩
    ·exact .inr (.inl ⟨a,xs,i,w,rfl,ry.int,s,hw,fin⟩)
   ·exact h.elim
  ·exact h.elim
 ·exact h.elim
variable{a b:Nh}{ta tb:aV}
theorem cC(ha:PE X a (aA X.K ta))(hb:PE X b (aA X.K tb))(hs:Cc b:=by exact fun _ _=>rfl):PE X (.Subscript a b pos) (aA X.K (cz gA ta tb)):=(Kk Lr ha hb hs).imp fun _ _ _ h=>two rfl h
abbrev JI:=dO->Gp->(Option Int->Gp->Prop)->Prop
def BV(K:Po)(t:JI):TO:=fun τ H Q=>∃ σ G Q3,RS K H σ τ/\RG K H G/\t σ G Q3/\∀ o G' H',Q3 o G'->Kp G H G' H'->RG K H' G'->Q o H'
theorem PO.imp{e:Option Nh}{t t':TO}(h:PO X e t)(i:∀ σ H Q,t' σ H Q->t σ H Q):PO X e t':=fun pins s σ H Q I q=>h pins s σ H Q I (i σ H Q q)
def Kv:JI:=fun _ G Q=>Q none G
def oW(t:aV):JI:=fun σ G Q=>t σ G fun x G1=>match x with
 | .int i=>Q (some i) G1
 | _=>False
theorem AQ:PO X none (BV X.K Kv):=PO.imp Ge fun τ H Q zz=>by
 obtain⟨σ,G,Q3,rs,rg,h,k⟩:=zz;exact (
  k none G H h Kp.refl rg)
theorem nw(h:PE X e (aA X.K te)):PO X (some e) (BV X.K (oW te)):=PO.imp (Gd h) fun τ H Q ⟨σ,G,Q3,rs,rg,h,k⟩=>⟨σ,G,_,rs,rg,h,fun d G1 v H1 q k1 rg1 re=>by
 cases d with
 | int i=>exact⟨i,re.int,k _ G1 H1 q k1 rg1⟩
 | _=>exact q.elim⟩
abbrev Ld:=D->Option Int->Option Int->Gp->jh->Prop
def EU(K:Po)(r:Ld):V->Option Int->Option Int->Hp->VK->Prop:=fun v lo hi H Q=>∃ x G0 H0 G Q3,RE K G0 H0 G H x v/\RG K H G/\r x lo hi G Q3/\r_ K G H Q3 Q
def Jn(r:Ld)(te:aV)(tl th:JI):aV:=fun σ G Q=>te σ G fun x G1=>tl σ G1 fun l G2=>th σ G2 fun u G3=>r x l u G3 Q
theorem oV{r:Ld}{lo hi:Option Nh}{tl th:JI}{p2:Pos}(hr:Dn X (EU X.K r))(he:PE X e (aA X.K te))(hl:PO X lo (BV X.K tl))(hu:PO X hi (BV X.K th)):PE X (.Subscript e (.Slice lo hi none p2) pos) (aA X.K (Jn r te tl th)):=
 (Ey hr he hl hu).imp fun τ H Q zz=>by
 obtain⟨σ,G,Q3,rs,rg,h,k⟩:=zz;exact (
  ⟨σ,G,_,rs,rg,h,fun x G1 v H1 q1 k1 rg1 re=>⟨σ,G1,_,rs.mono (k1.stb rg),rg1,q1,fun l G2 H2 q2 k2 rg2=>
    ⟨σ,G2,_,rs.mono ((k1.trans k2).stb rg),rg2,q2,fun u G3 H3 q3 k3 rg3=>⟨x,G,H,G3,Q3,re.wait (k2.trans k3) rg1,rg3,q3,k.base (k1.trans (k2.trans k3))⟩⟩⟩⟩)
def cutD(ds:List D)(lo hi:Option Int):List D:=(ds.drop (HT.sIx ds.length 0 lo)).take (HT.sIx ds.length ds.length hi - HT.sIx ds.length 0 lo)
theorem B2{K:Po}{H:Hp}{ds:List D}{xs:List V}(r:RDs K H ds xs)(lo hi:Option Int):RDs K H (cutD ds lo hi) (zS xs lo hi):=by
 unfold cutD zS;rw[r.length];exact (r.drop _).take _
end
end L3
namespace L2
open PySem PySem.Spec PyProof.Rows
def Mj(xs:List V):It:=⟨fun i _=>i < xs.length,fun i H x H'=>H'=H/\xs[i]?=some x,fun i _=>i=xs.length⟩
def dz(x:Str):List V:=x.cps.toList.map fun c=>V.str ⟨#[c]⟩
theorem mB(x:Str):(dz x).length=x.cps.size:=by simp[dz]
theorem DI{P:M9}{w:Ng}{K:Po}{tg:Nh}(it:MT)(x:Str)(t:Tok)(ty:String)(hty:ty="str_ascii_iterator"\/ty="str_iterator"):
  Turn P w K tg (Mj (dz x)) [it] it (fun i h=>h.IsStrIter it ty x t i) where
 mem:=by simp
 obj:=fun i h st b hb=>by
  have e:b=it:=by simpa using hb
  subst e;obtain⟨o,e,c,d⟩:=st;exact⟨o,e,fun v z=>by rw[d]at z;cases z⟩
 keep:=fun i h h' st k=>let ⟨o,ho,r⟩:=st;⟨o,k it (by simp) o ho,r⟩
 item:=by
  intro X hP hw hK hc i pins s σ H E I hf st hg;subst hP hw hK;obtain⟨f0,f1,f2,f3,f4,f5⟩:=hf it (by simp)
  have W:Walks X.prog X.w X.A it [it] [it] x.cps.size (SignAt x) (fun i h=>h.IsStrIter it ty x t i):=by
   rcases hty with rfl|rfl
   ·exact Walks.strAscii (I.ok.hd hc) it x t
   ·exact Walks.strWide (I.ok.hd hc) it x t
  refine W.item i s _ _ (by have:i < (dz x).length:=hg;rw[mB]at this;exact this) st fun v h' tk hv st' kk=>?_
  obtain⟨c,u,hc',rfl⟩:=hv;have I1:Inv X pins σ H { s with heap:=h',toks:=tk }:=I.turned (fun b o hb e=>kk b o (by simpa using hb) e) f0 f1 f3 f4 f5
  obtain⟨o,e,c1,d⟩:=id st';refine⟨_,rfl,wg (s:={ s with heap:=h',toks:=tk }) e c1 d (by rcases hty with rfl|rfl<;>decide) ⟨.str ⟨#[c]⟩,H,I1,⟨u,rfl⟩,⟨rfl,?_⟩,st',fun b hb=>(hf b hb).1⟩⟩
  simp only[dz,Nd,Array.getElem?_toList,hc',Option.map_some]
 done:=by
  intro X hP hw hK hc i pins s σ H E I hf st hg;subst hP hw hK;obtain⟨f0,f1,f2,f3,f4,f5⟩:=hf it (by simp)
  have W:Walks X.prog X.w X.A it [it] [it] x.cps.size (SignAt x) (fun i h=>h.IsStrIter it ty x t i):=by
   rcases hty with rfl|rfl
   ·exact Walks.strAscii (I.ok.hd hc) it x t
   ·exact Walks.strWide (I.ok.hd hc) it x t
  have e:i=x.cps.size:=by have:i=(dz x).length:=hg;rw[mB]at this;exact this
  subst e;exact W.done s _ _ st fun h' tk kk=>⟨rfl,I.turned (fun b o hb e=>kk b o (by simpa using hb) e) f0 f1 f3 f4 f5⟩
 self:=fun A i s Q E st h=>by
  rcases hty with rfl|rfl
  ·exact wpAny_pyIter_striter_ascii st h
  ·exact wpAny_pyIter_striter_wide st h
section
variable{X:Cx}{tg:Nh}
theorem Bf:∀ (names:List (Str×Px)) (sc:O_),sc.names=names->(∀ x∈names,x.2=.free->∃ c,env.cells.lookup x.1=some c)->
  ∃ cl,R9 sc env=pure cl/\(∀ x c,cl.lookup x=some c->env.cells.lookup x=some c)/\(∀ x∈names,x.2=.free->∃ c,cl.lookup x.1=some c):=by
 have loop:∀ (names:List (Str×Px)) (cs:List (Str×MT)),(∀ x∈names,x.2=.free->∃ c,env.cells.lookup x.1=some c)->(∀ x c,cs.lookup x=some c->env.cells.lookup x=some c)->
   ∃ cl,(forIn names cs fun (x:Str×Px) (r:List (Str×MT))=>(match x with
    | (name,kind)=>if (kind == NameKind.free)=true then (do let a <- cellOf env name;pure (ForInStep.yield ((name,a)::r)))else pure (ForInStep.yield r):Sem (ForInStep (List (Str×MT)))))=(pure cl:Sem (List (Str×MT)))/\
    (∀ x c,cl.lookup x=some c->env.cells.lookup x=some c)/\(∀ x,(∃ c,cs.lookup x=some c)->∃ c,cl.lookup x=some c)/\(∀ x∈names,x.2=.free->∃ c,cl.lookup x.1=some c):=by
  intro names
  induction names with
  | nil=>intro cs _ h2;exact⟨cs,rfl,h2,fun _ z=>z,fun _ z=>nomatch z⟩
  | cons y r ih=>
   obtain⟨name,kind⟩:=y;intro cs h1 h2;cases hk:(kind == NameKind.free) with
   | false=>
    obtain⟨cl,e,a,b,c⟩:=ih cs (fun x hx=>h1 x (M7 _ hx)) h2;refine⟨cl,?_,a,b,fun x hx hf=>?_⟩
    ·rw[O5];simp only[hk,Bool.false_eq_true,if_false];exact e
    ·rcases NH.mp hx with rfl|hx
     ·rw[show kind=NameKind.free from hf]at hk;cases hk
     ·exact c x hx hf
   | true=>
    have hkf:kind=NameKind.free:=by simpa using hk
    obtain⟨ca,hca⟩:=h1 (name,kind) M_ hkf;have Uj:env.cells.lookup name=some ca:=hca;have nx:∀ x c,((name,ca)::cs).lookup x=some c->env.cells.lookup x=some c:=fun x c hx=>by
     rw[On]at hx;split at hx
     ·rename_i hb;have:x=name:=by simpa using hb
      cases hx;rw[this];exact Uj
     ·exact h2 x c hx
    obtain⟨cl,e,a,b,c⟩:=ih ((name,ca)::cs) (fun x hx=>h1 x (M7 _ hx)) nx;refine⟨cl,?_,a,fun x ⟨c',hx⟩=>?_,fun x hx hf=>?_⟩
    ·rw[O5];simp only[hk,if_true];unfold cellOf;rw[Uj];exact e
    ·by_cases hxn:x=name
     ·exact b x ⟨ca,by rw[On,hxn,beq_self_eq_true]⟩
     ·exact b x ⟨c',by rw[On,show (x == name)=false by simpa using hxn];exact hx⟩
    ·rcases NH.mp hx with rfl|hx
     ·exact b name ⟨ca,by rw[On,beq_self_eq_true]⟩
     ·exact c x hx hf
 intro names sc hsc h;subst hsc;obtain⟨cl,e,a,_,c⟩:=loop sc.names [] h (fun x c z=>by simp at z)
 refine⟨cl,?_,a,c⟩;unfold R9;show (forIn sc.names [] _ >>= fun r=>pure r)=_
 refine Eq.trans ?_ (congrArg (fun m=>m >>= fun r=>(pure r:Sem (List (Str×MT)))) e);rfl
def aU(X:Cx)(N':List Str)(scope:O_)(cl:List (Str×MT))(C:MT)(s₀:MU)(H₀:Hp)(fp:List MT):Cx:=
 { X with N:=N',s₀:=s₀,H₀:=H₀,env:=compEnvC scope cl C X.env,outer:=X.stack,ex:=fp,fn:=fun _=>false,pn:=[],xe:=fun _ _=>False }
end
section
variable{prog:M9}{w:Ng}{A:Nb}{R:P8->MU->Prop}{s:MU}
theorem lN(J:Nat->MU->Prop)(turn:∀ n s,J n s->MZ (M0 prog w) A (OK it) (fun r s₁=>match r with
   | none=>R (.ok .next) s₁
   | some v=>MZ (M0 prog w) A (O4 target it v) (fun _ s₁'=>MZ (M0 prog w) A (assign target env v) (fun _ s₂=>
     MZ (M0 prog w) A (forIn ifs true fun c r=>if r=true then do let ok <- Rp c env (eval c env);pure (ForInStep.yield ok)else pure (ForInStep.yield r)) (fun ok s₃=>
      if ok=true then MZ (M0 prog w) A (eval elt env) (fun x s₄=>
       MZ (M0 prog w) A (call (.builtin "list.append") [acc,x]) (fun _ s₅=>∃ m,m < n/\J m s₅) (fun _ _=>False) s₄) (fun _ _=>False) s₃
      else ∃ m,m < n/\J m s₃) (fun _ _=>False) s₂) (fun _ _=>False) s₁') (fun _ _=>False) s₁) (fun _ _=>False) s)(n:Nat)(h:J n s):Oz (M0 prog w) A (.compLoop (.ListComp elt [⟨target,iter,ifs,0⟩] scope pos) 0 it acc env) R s:=by
 refine codeAny_loop rfl J (fun n s hI=>?_) n h;show MZ _ A ((compTurn (.ListComp elt [⟨target,iter,ifs,0⟩] scope pos) 0 it acc env).onRaise (fun x=>do Q8 x env;theTreesLotGoes x)) _ _ s
 refine wpAny_noted ?_;rw[compTurn_list];refine MR (Pj (MR (Nn (turn n s hI) (fun r s₁ h₁=>?_) fun _ _ h'=>h'.elim)));cases r with
 | none=>exact MV h₁
 | some v=>
  refine MR (Nn h₁ (fun _ s₁' h₁'=>?_) fun _ _ h'=>h'.elim);refine MR (Nn h₁' (fun _ s₂ h₂=>MR (Nn h₂ (fun ok s₃ h₃=>?_) fun _ _ h'=>h'.elim)) fun _ _ h'=>h'.elim);cases ok with
  | false=>exact MV ⟨rfl,h₃⟩
  | true=>exact MR (MR (Nn h₃ (fun x s₄ h₄=>MR (Nn h₄ (fun _ s₅ h₅=>MV (MV ⟨rfl,h₅⟩)) fun _ _ h'=>h'.elim)) fun _ _ h'=>h'.elim))
end
def Dt(X:Cx)(ifs:List Nh)(tt:TT):Prop:=
 ∀ (pins:List (MT×Obj)) (s:MU) (σ:St) (H:Hp) (Q:Bool->Hp->Prop),Inv X pins σ H s->tt σ H Q->
  MZ (M0 X.prog X.w) X.A (forIn ifs true fun c r=>if r=true then do let ok <- Rp c X.env (eval c X.env);pure (ForInStep.yield ok)else pure (ForInStep.yield r)) (TP X pins σ Q) X.xe s
theorem F_:Dt X [] (fun _ H Q=>Q true H):=fun pins s σ H Q I h=>wpAny_tests_nil ⟨H,I,h⟩
theorem F9(h:PT X c tt):Dt X [c] tt:=fun pins s σ H Q I q=>wpAny_tests_one (h pins s σ H Q I q)
def yK(ent:St->St)(wi:TI)(g:TG)(tt:TT)(te:TE):TE:=fun σ H Q=>wi σ H fun J H1=>∀ D,H1 D=none->∃ W:Nat->Nat->List V->St->Hp->Prop,(∃ m,W 0 m [] (ent σ) (aR H1 D (.lst [])))/\
 ∀ i m ys σ1 H2,W i m ys σ1 H2->H2 D=some (.lst ys)/\((J.stop i H2/\Q (.ref D) H2)\/(J.go i H2/\∃ N:List V->St->Hp->Prop,(∀ ys' σ' H',N ys' σ' H'->∃ m',m' < m/\W (i+1) m' ys' σ' H')/\
  ∀ x H',J.yld i H2 x H'->g x σ1 H' fun σ2 H3=>tt σ2 H3 fun b H4=>if b=true then te σ2 H4 fun y H5=>H5 D=some (.lst ys)/\ys.length < M1/\N (ys ++ [y]) σ2 (aR H5 D (.lst (ys ++ [y])))else N ys σ2 H4))
theorem gP(SM:∀ y∈scope.names,y.2≠.cell)(h:(QR scope env).names.lookup x=some .cell\/(QR scope env).names.lookup x=some .free):∃ y∈scope.names,y.1=x/\y.2=.free:=by
 have go:∀ (names:List (Str×Px)),(∀ y∈names,y.2≠.cell)->∀ k,(names.map fun (n,k)=>if (k == .free && env.scope.kind == .function && env.kindOf n == some .cell)then (n,NameKind.cell)else (n,k)).lookup x=some k->(k=.cell\/k=.free)->∃ y∈names,y.1=x/\y.2=.free:=by
  intro names
  induction names with
  | nil=>intro _ k e _;simp at e
  | cons y r ih=>
   obtain⟨n,kd⟩:=y;intro hc k e hk;rw[Nk,On]at e;split at e
   ·rename_i hb;cases e;have nc:kd≠.cell:=hc (n,kd) M_;refine⟨(n,kd),M_,?_,?_⟩
    ·split at hb
     ·simpa using (eq_of_beq hb).symm
     ·simpa using (eq_of_beq hb).symm
    ·split at hk
     ·rename_i hq;simp only[Bool.and_eq_true]at hq
      simpa using hq.1.1
     ·rcases hk with hk|hk
      ·exact absurd hk nc
      ·exact hk
   ·obtain⟨y,hy,q⟩:=ih (fun y hy=>hc y (M7 _ hy)) k e hk;exact⟨y,M7 _ hy,q⟩
 rcases h with h|h
 ·exact go scope.names SM _ h (.inl rfl)
 ·exact go scope.names SM _ h (.inr rfl)
theorem mI(h:(QR scope env).names.lookup x=some .local):∃ y∈scope.names,y.1=x/\y.2=.local:=by
 have go:∀ (names:List (Str×Px)),(names.map fun (n,k)=>if (k == .free && env.scope.kind == .function && env.kindOf n == some .cell)then (n,NameKind.cell)else (n,k)).lookup x=some .local->∃ y∈names,y.1=x/\y.2=.local:=by
  intro names
  induction names with
  | nil=>intro e;simp at e
  | cons y r ih=>
   obtain⟨n,kd⟩:=y;intro e;rw[Nk,On]at e;split at e
   ·rename_i hb;refine⟨(n,kd),M_,?_,?_⟩
    ·split at hb
     ·simpa using (eq_of_beq hb).symm
     ·simpa using (eq_of_beq hb).symm
    ·split at e
     ·cases e
     ·simpa using e
   ·obtain⟨y,hy,q⟩:=ih e;exact⟨y,M7 _ hy,q⟩
 exact go scope.names h
structure CompOk(X:Cx)(scope:O_)(T M:List Str):Prop where
 calm:X.calm=true
 kind:scope.kind=.function
 cell:∀ y∈scope.names,y.2≠.cell
 names:∀ y∈scope.names,y.2=.local->scope.names.lookup y.1=some .local
 loc:∀ y∈scope.names,y.2=.local->y.1∈((".0":Str)::T)
 len:M.length=X.N.length
 sub:∀ (i:Nat) x,M[i]?=some x->X.N[i]?=some x\/∀ y∈scope.names,y.1≠x
 off:∀ x∈M,x∉((".0":Str)::T)
 free:∀ y∈scope.names,y.2=.free->X.env.kindOf y.1=some .cell\/X.env.kindOf y.1=some .free
def ent(T:List Str)(σ:St):St:=T.map (fun _=>none) ++ σ
section
variable{X:Cx}{pins:List (MT×Obj)}{σ:St}{H:Hp}{s:MU}
theorem Inv.block(I:Inv X pins σ H s)(ok:CompOk X scope T M)(hf:∀ b∈fp,pE X pins H b)(ho:∀ b∈fp,∃ o,s.heap.get? b=some o)(hc1:∀ x c,cl.lookup x=some c->X.env.cells.lookup x=some c)(hc2:∀ x∈scope.names,x.2=.free->∃ c,cl.lookup x.1=some c)(hns:h₁.Ns s.heap.objs.size fun _=>none)(kp:∀ b o,s.heap.get? b=some o->h₁.get? b=some o):
  Inv (aU X (T ++ M) scope cl s.heap.objs.size s H fp) [] (ent T σ) H { s with heap:=h₁,toks:=tk }:=by
 have fpC:∀ b∈fp,b≠s.heap.objs.size:=fun b hb z=>by
  obtain⟨o,e⟩:=ho b hb;exact absurd (M4 e) (by rw[z];exact Nat.lt_irrefl _)
 have cellsOk:∀ x c,(aU X (T ++ M) scope cl s.heap.objs.size s H fp).env.cells.lookup x=some c->X.env.cells.lookup x=some c:=hc1;refine⟨⟨I.ok.mod,ok.kind,I.ok.glob,I.ok.blt,le_refl _,fun x y c h1 h2=>I.ok.inj x y c (hc1 x c h1) (hc1 y c h2),fun x hx=>?_,(fun x c h=>absurd h (by show ¬ (false=true);decide)),I.ok.hd,I.ok.frames,.inl rfl,fun b hb=>⟨fpC b hb,fun x c e=>(hf b hb).2.2.2.2.1 x c (hc1 x c e)⟩,I.bs,le_trans I.ok.bsz I.sz,fun b o e hb=>?_,fun b hb hs=>?_,I.stack,I.stkFree⟩,
  rfl,I.bare,Un.kept kp,⟨_,hns,fun i x v e1 e2 e3=>?_⟩,fun x c e=>?_,I.hok.fresh (le_refl _),fun x c e=>I.freeC x c (hc1 x c e),fun p hp=>absurd (show p∈([]:List (MT×Obj))from hp) (by simp),I.hok.kept kp,?_⟩
 ·obtain⟨y,hy,e,hfr⟩:=gP ok.cell hx;rw[<- e];exact hc2 y hy hfr
 ·rcases (hf b hb).2.2.2.1 with z|z
  ·exact I.ok.noex b o e z
  ·exact absurd (Nl (M4 e) (le_trans I.ok.bsz z)) (Nat.lt_irrefl _)
 ·rcases NH.mp (I.stkSub b hs)with z|z
  ·exact (hf b hb).2.1 z
  ·exact (hf b hb).2.2.1 z
 ·-- a name that is known: it is drawn from around
  have hi:T.length<=i:=by
   refine Nat.le_of_not_lt fun hlt=>?_;unfold ent at e2;rw[List.getElem?_append_left (by simpa using hlt),Nd]at e2
   cases q:T[i]? with
   | none=>rw[q]at e2;cases e2
   | some z=>rw[q]at e2;cases e2
  have e0':M[i - T.length]?=some x:=by
   have:=e1;show M[i - T.length]?=some x
   rw[<- List.getElem?_append_right hi];exact this
  have e1':X.N[i - T.length]?=some x:=by
   rcases ok.sub _ x e0' with z|z
   ·exact z
   ·exfalso;rcases e3 with e3|e3|e3
    ·obtain⟨y,hy,e,hl⟩:=mI e3;exact z y hy e
    ·obtain⟨y,hy,e,_⟩:=gP ok.cell (.inl e3);exact z y hy e
    ·obtain⟨y,hy,e,_⟩:=gP ok.cell (.inr e3);exact z y hy e
  have e2':σ[i - T.length]?=some (some v):=by
   unfold ent at e2;rw[List.getElem?_append_right (by simpa using hi),MY]at e2
   exact e2
  have SL:(QR scope X.env).names.lookup x=some .cell\/(QR scope X.env).names.lookup x=some .free:=by
   rcases e3 with e3|e3|e3
   ·obtain⟨y,hy,e,hl⟩:=mI e3;exact absurd (by rw[<- e];exact ok.loc y hy hl) (ok.off x (Ni e0'))
   ·exact .inl e3
   ·exact .inr e3
  obtain⟨y,hy,e,hfr⟩:=gP ok.cell SL;subst e;have hk:=ok.free y hy hfr;obtain⟨m,hn,hl⟩:=I.loc;obtain⟨u,r,l⟩:=hl _ _ v e1' e2' (by rcases hk with hk|hk;exact .inr (.inl hk);exact .inr (.inr hk))
  refine⟨u,r,.inr ⟨SL,?_⟩⟩;rcases l with ⟨l1,_⟩|⟨_,c,ec,z⟩
  ·rcases hk with hk|hk
   ·rw[hk]at l1;cases l1
   ·rw[hk]at l1;cases l1
  ·obtain⟨c',ec'⟩:=hc2 y hy hfr;have:=hc1 _ _ ec';rw[ec]at this;cases this;obtain⟨o,ho',hd⟩:=z;exact⟨c,ec',o,kp _ _ ho',hd⟩
 ·obtain⟨v,o,ho',hd⟩:=I.cell x c (hc1 x c e);exact⟨v,o,kp _ _ ho',hd⟩
 ·show (ent T σ).length=(T ++ M).length;unfold ent;rw[NJ,NJ,MY,I.len,ok.len]
end
section
variable{X:Cx}{elt tg iter:Nh}{ifs:List Nh}{scope:O_}{T M:List Str}{pos:Pos}{wi:TI}{g:TG}{tt:TT}{te:TE}
theorem zT{σ:St}{H1:Hp}{Q:VK}{tn:Nat->Nf->Prop}{RR:MS->MT->P8->MU->Prop}{E:MS->MU->Prop}(ok:CompOk X scope T M)(hin:∀ cl C s₀ H₀ fp,PG (aU X (T ++ M) scope cl C s₀ H₀ fp) tg g/\Dt (aU X (T ++ M) scope cl C s₀ H₀ fp) ifs tt/\PE (aU X (T ++ M) scope cl C s₀ H₀ fp) elt te)(hc1:∀ x c,cl.lookup x=some c->X.env.cells.lookup x=some c)(hc2:∀ x∈scope.names,x.2=.free->∃ c,cl.lookup x.1=some c)(I2:Inv X pins σ H1 s2)(Tn:Turn X.prog X.w X.K tg J fp it tn)(st2:tn 0 s2.heap)(f2:∀ b∈fp,pE X pins H1 b)(h:∀ D,H1 D=none->∃ W:Nat->Nat->List V->St->Hp->Prop,(∃ m,W 0 m [] (ent T σ) (aR H1 D (.lst [])))/\
   ∀ i m ys σ1 H2,W i m ys σ1 H2->H2 D=some (.lst ys)/\((J.stop i H2/\Q (.ref D) H2)\/(J.go i H2/\∃ N:List V->St->Hp->Prop,(∀ ys' σ' H',N ys' σ' H'->∃ m',m' < m/\W (i+1) m' ys' σ' H')/\
    ∀ x H',J.yld i H2 x H'->g x σ1 H' fun σ2 H3=>tt σ2 H3 fun b H4=>if b=true then te σ2 H4 fun y H5=>H5 D=some (.lst ys)/\ys.length < M1/\N (ys ++ [y]) σ2 (aR H5 D (.lst (ys ++ [y])))else N ys σ2 H4)))(hRR:∀ D C H' s',Inv X pins σ H' s'->(∃ m,s'.heap.Ns C m)->H' C=none->C≠X.env.locals->X.s₀.heap.objs.size<=C->(∀ x c,X.env.cells.lookup x=some c->c≠C)->(∀ p∈X.pn ++ pins,p.1≠C)->Q (.ref D) H'->RR (.ref D) C (.ok .next) s'):
  MZ (M0 X.prog X.w) X.A (newList []) (fun acc s₃=>MZ (M0 X.prog X.w) X.A (newFunctionEnv scope X.env.globals cl [] X.env.qual none .none (some X.env)) (fun cenv s₄=>
   Oz (M0 X.prog X.w) X.A (.compStart (.ListComp elt [⟨tg,iter,ifs,0⟩] scope pos) 0 (.ref it) acc { cenv with scope:=QR scope X.env }) (RR acc cenv.locals) s₄) E s₃) E s2:=by
 refine Nx ?_;have hD:H1 s2.heap.objs.size=none:=I2.hok.fresh (le_refl _);obtain⟨W,⟨m0,w0⟩,turn⟩:=h _ hD;have I3:Inv X pins σ (aR H1 s2.heap.objs.size (.lst [])) { s2 with heap:=s2.heap.push { cls:=.type "list",data:=.seq ([]:List MS).toArray } }:=I2.lnew (t':=s2.toks) .nil (N0 _)
 have f3:∀ b∈fp,pE X pins (aR H1 s2.heap.objs.size (.lst [])) b:=fun b hb=>by
  have q:=f2 b hb;obtain⟨o,e,_⟩:=Tn.obj 0 _ st2 b hb;exact⟨by rw[ar (Np (M4 e))];exact q.1,q.2⟩
 have st3:tn 0 (s2.heap.push { cls:=.type "list",data:=.seq ([]:List MS).toArray }):=Tn.keep _ _ _ st2 fun b _ o e=>MX _ e;generalize hs3:({ s2 with heap:=s2.heap.push { cls:=.type "list",data:=.seq ([]:List MS).toArray } }:MU)=s3 at I3 ⊢
 have Ua:tn 0 s3.heap:=by rw[<- hs3];exact st3
 generalize hH3:aR H1 s2.heap.objs.size (.lst [])=H3 at I3 f3 w0;generalize hDD:s2.heap.objs.size=D at *
 refine wpAny_newFunctionEnv ok.cell (by intro y hy;simp at hy) (fun h₁ Ux hsb₁=>?_) ok.kind
 have kp:∀ b o,s3.heap.get? b=some o->h₁.get? b=some o:=fun b o e=>hsb₁.extBut b o (Np (M4 e)) (MX _ e);have hns:h₁.Ns s3.heap.objs.size fun _=>none:=by simpa using Ux
 have I4:Inv (aU X (T ++ M) scope cl s3.heap.objs.size s3 H3 fp) [] (ent T σ) H3 { s3 with heap:=h₁,toks:=s3.toks+([]:List (Str×MS)).length }:=
  I3.block ok f3 (fun b hb=>let ⟨o,e,_⟩:=Tn.obj 0 _ Ua b hb;⟨o,e⟩) hc1 hc2 hns kp
 have st4:tn 0 h₁:=Tn.keep _ _ _ Ua fun b _ o e=>kp b o e;obtain⟨hG,hT,hE⟩:=hin cl s3.heap.objs.size s3 H3 fp;have back:∀ {SE:List (MT×Obj)} {σ':St} {H':Hp} {s':MU},Inv (aU X (T ++ M) scope cl s3.heap.objs.size s3 H3 fp) SE σ' H' s'->Inv X pins σ H' s':=fun {SE σ' H' s'} I'=>
  I3.call' (ch:=fp) I'.os I'.base I'.hok I'.bare fun b hb=>let q:=f3 b hb;⟨q.2.2.2.1,q.2.1,q.2.2.2.2.1,q.2.2.2.2.2⟩
 have loop:∀ s4:MU,Inv (aU X (T ++ M) scope cl s3.heap.objs.size s3 H3 fp) [] (ent T σ) H3 s4->tn 0 s4.heap->
   Oz (M0 X.prog X.w) X.A (.compLoop (.ListComp elt [⟨tg,iter,ifs,0⟩] scope pos) 0 (.ref it) (.ref D) (compEnvC scope cl s3.heap.objs.size X.env)) (RR (.ref D) s3.heap.objs.size) s4:=by
  intro s4 I4 st4;have fpX:∀ {SE:List (MT×Obj)} {H':Hp},SE=[]->(∀ b∈fp,H' b=none)->∀ b∈fp,pE (aU X (T ++ M) scope cl s3.heap.objs.size s3 H3 fp) SE H' b:=fun {SE H'} ep hn b hb=>by
   subst ep;refine⟨hn b hb,(I4.ok.exf b hb).1,I4.ok.exfs b hb,.inl hb,(I4.ok.exf b hb).2,fun p hp=>absurd (show p∈([]:List (MT×Obj))from hp) (by simp)⟩
  refine lN (fun n s'=>∃ i ys σ' H',Inv (aU X (T ++ M) scope cl s3.heap.objs.size s3 H3 fp) [] σ' H' s'/\tn i s'.heap/\(∀ b∈fp,H' b=none)/\W i n ys σ' H') ?_ m0 ⟨0,[],ent T σ,H3,I4,st4,fun b hb=>(f3 b hb).1,w0⟩
  rintro n s5 ⟨i,ys,σ5,H5,I5,st5,fr5,w5⟩
  obtain⟨hDl,hstep⟩:=turn i n ys σ5 H5 w5;rcases hstep with ⟨stop,qn⟩|⟨go,N,hN,step⟩
  ·refine bZ (Tn.done (aU X (T ++ M) scope cl s3.heap.objs.size s3 H3 fp) rfl rfl rfl ok.calm i [] s5 _ H5 _ I5 (fpX rfl fr5) st5 stop) fun r s6 zz=>?_;obtain⟨hr,I6⟩:=zz;subst hr;have I7:=back I6;obtain⟨m,hm,_⟩:=I6.loc;refine hRR D s3.heap.objs.size H5 s6 I7 ⟨m,hm⟩ I6.free ?_ ?_ ?_ ?_ qn
   ·exact Ps I3.lt
   ·exact I3.sz
   ·intro x c e z;obtain⟨v,q⟩:=I3.cell x c e;exact absurd q.lt (by rw[z];exact Nat.lt_irrefl _)
   ·intro p hp z;exact absurd (M4 (I3.pin p hp).1) (by rw[z];exact Nat.lt_irrefl _)
  ·refine bZ (Tn.item (aU X (T ++ M) scope cl s3.heap.objs.size s3 H3 fp) rfl rfl rfl ok.calm i [] s5 _ H5 _ I5 (fpX rfl fr5) st5 go) fun r s6 zz=>?_;obtain⟨u,hr,h6⟩:=zz;subst hr;refine bZ h6 fun _ s7 zz=>?_;obtain⟨x,H7,I7,r7,y7,st7,fr7⟩:=zz;have I7':=I7.pinned (fpX rfl fr7) (Tn.obj _ _ st7);refine bZ (hG _ s7 _ H7 x u _ I7' r7 (step x H7 y7)) fun _ s8 zz=>?_;obtain⟨σ8,H8,I8,q8⟩:=zz;have again:∀ {s9:MU} {H9:Hp} {ys':List V},Inv (aU X (T ++ M) scope cl s3.heap.objs.size s3 H3 fp) ([] ++ qf fp s7.heap) σ8 H9 s9->N ys' σ8 H9->
     ∃ m,m < n/\∃ i ys σ' H',Inv (aU X (T ++ M) scope cl s3.heap.objs.size s3 H3 fp) [] σ' H' s9/\tn i s9.heap/\(∀ b∈fp,H' b=none)/\W i m ys σ' H':=fun {s9 H9 ys'} I9 n9=>by
    obtain⟨m',hm,w9⟩:=hN ys' σ8 H9 n9;refine⟨m',hm,i+1,ys',σ8,H9,I9.unpinned,Tn.keep _ _ _ st7 fun b hb o e=>(I9.pin (b,o) (ND _ (ND _ (ie hb e)))).1,fun b hb=>?_,w9⟩;obtain⟨o,e,d⟩:=Tn.obj _ _ st7 b hb;exact (I9.pin (b,o) (ND _ (ND _ (ie hb e)))).2.1
   refine bZ (hT _ s8 σ8 H8 _ I8 q8) fun b s9 zz=>?_;obtain⟨H9,I9,q9⟩:=zz;cases b with
   | false=>exact again I9 q9
   | true=>
    refine bZ (hE _ s9 σ8 H9 _ I9 q9) fun u10 s10 zz=>?_;obtain⟨y,H10,I10,r10,e10,l10,n10⟩:=zz;refine bZ (v8 (X:=aU X (T ++ M) scope cl s3.heap.objs.size s3 H3 fp) _ s10 σ8 H10 (.ref D) [y] (.ref D) [u10] (fun v H'=>v=.non/\H'=aR H10 D (.lst (ys ++ [y]))) I10 rfl (.cons r10 .nil) ⟨D,ys,y,rfl,rfl,e10,l10,rfl,rfl⟩) fun u11 s11 zz=>?_;obtain⟨z,H11,I11,r11,_,e11⟩:=zz;subst e11;exact again I11 n10
 exact codeAny_compStart_list (loop _ I4 st4) (Tn.self _ 0 _ _ _ st4 (loop _ I4 st4))
theorem B4(ok:CompOk X scope T M){pins:List (MT×Obj)}{σ:St}{H:Hp}{s:MU}(I:Inv X pins σ H s):∃ cl,R9 scope X.env=pure cl/\(∀ x c,cl.lookup x=some c->X.env.cells.lookup x=some c)/\(∀ x∈scope.names,x.2=.free->∃ c,cl.lookup x.1=some c):=
 Bf scope.names scope rfl fun x hx hf=>I.ok.has x.1 (ok.free x hx hf)
theorem xl(ok:CompOk X scope T M)(hin:∀ cl C s₀ H₀ fp,PG (aU X (T ++ M) scope cl C s₀ H₀ fp) tg g/\Dt (aU X (T ++ M) scope cl C s₀ H₀ fp) ifs tt/\PE (aU X (T ++ M) scope cl C s₀ H₀ fp) elt te)(hi:PI X tg iter wi)(hs:∀ x,NM iter X.env x=pure x:=by intro _;rfl):PE X (.ListComp elt [⟨tg,iter,ifs,0⟩] scope pos) (yK (ent T) wi g tt te):=by
 intro pins s σ H Q I h;obtain⟨cl,hcl,hc1,hc2⟩:=B4 ok I;rw[eval_ListComp];refine Q4 (use:=none) rfl hs hcl ok.kind ok.names (bZ (hi pins s σ H _ I h) fun v s1 h1=>bZ h1 fun itv s2 h2=>?_);obtain⟨it,fp,tn,J,H2,e,I2,Tn,st2,f2,hh⟩:=h2;subst e;refine zT (Q:=Q) (RR:=fun acc C=>compPost (M0 X.prog X.w) X.A X.xe none (EP X pins σ Q) acc C) ok hin hc1 hc2 I2 Tn st2 f2 hh ?_;intro D C H' s' I' hm hn n1 n2 n3 n4 q;obtain⟨m,hm⟩:=hm;exact⟨m,hm,fun h' sb=>⟨.ref D,H',I'.turned (t':=s'.toks) (fun b o hb e=>(sb.2 b hb).trans e) hn (Ne.symm (Ne.symm n1)) (.inr n2) n3 n4,rfl,q⟩⟩
theorem BG{i:Nat}{x:Str}{px spos:Pos}(ok:CompOk X scope T M)(hN:X.N.Nodup)(hix:X.N[i]?=some x)(hx:X.env.scope.names.lookup x=some .local)
  (hin:∀ cl C s₀ H₀ fp,PG (aU X (T ++ M) scope cl C s₀ H₀ fp) tg g/\Dt (aU X (T ++ M) scope cl C s₀ H₀ fp) ifs tt/\PE (aU X (T ++ M) scope cl C s₀ H₀ fp) elt te)
  (hi:PI X tg iter wi) (hsw:Ob (.ListComp elt [⟨tg,iter,ifs,0⟩] scope pos) (some (.Name x px)) spos.line X.env=pure true:=by rfl) (hs:∀ x,NM iter X.env x=pure x:=by intro _;rfl):
  PS X (.Assign [.Name x px] (.ListComp elt [⟨tg,iter,ifs,0⟩] scope pos) spos) (Il (gh (yK (ent T) wi g tt te)) (zL i)):=by
 intro pins s σ H D3 I h;obtain⟨cl,hcl,hc1,hc2⟩:=B4 ok I;rw[exec_Assign_Name_used _ _ _ _ hsw];refine MR (Pj (MR ?_));show MZ _ X.A (do let _ <- comprehension (.ListComp elt [⟨tg,iter,ifs,0⟩] scope pos) scope X.env _ (newList []) false (eval iter X.env) (some (assign (.Name x px) X.env))) _ _ s
 refine MR (Nn (Q4 (use:=some (assign (.Name x px) X.env)) (Q:=fun _ s'=>SP X pins D3 .next s') rfl hs hcl ok.kind ok.names
  (bZ (hi pins s σ H _ I h) fun v s1 h1=>bZ h1 fun itv s2 h2=>?_)) (fun _ s' hq=>MV (MV hq)) fun _ _ e=>e)
 obtain⟨it,fp,tn,J,H2,e,I2,Tn,st2,f2,hh⟩:=h2;subst e;refine zT (Q:=fun v H1=>zL i v σ H1 D3.nx\/∃ p xs,v=.ref p/\H1 p=some (.lst xs)/\∀ o,zL i v σ (aR H1 p (.frz o (.lst xs))) D3.nx) (RR:=fun acc C=>compPost (M0 X.prog X.w) X.A X.xe (some (assign (.Name x px) X.env)) (fun _ s'=>SP X pins D3 .next s') acc C) ok hin hc1 hc2 I2 Tn st2 f2 hh ?_;intro D C H' s' I' hm hn n1 n2 n3 n4 q;obtain⟨m,hm⟩:=hm;have fin:∀ {H'':Hp},Inv X pins σ H'' s'->H'' C=none->D3.nx (σ.set i (some (.ref D))) H''->
   MZ (M0 X.prog X.w) X.A (assign (.Name x px) X.env (.ref D)) (fun _ s''=>∃ m,s''.heap.Ns C m/\∀ h',ON C s''.heap h'->SP X pins D3 .next { s'' with heap:=h' }) X.xe s':=fun {H''} J' hn' q'=>by
  refine Sg (vP (v:=V.ref D) J' hN hix (.inl hx) rfl (fun s'' I'' ⟨a,sb,ha⟩=>?_) (.inr hx));have aC:C≠a:=by
   rcases ha with z|z
   ·rw[z];exact n1
   ·exact fun y=>n3 _ _ z y.symm
  refine⟨m,hm.sameBut sb aC,fun h' sb'=>⟨_,H'',I''.turned (t':=s''.toks) (fun b o hb e=>(sb'.2 b hb).trans e) hn' n1 (.inr n2) n3 n4,q'⟩⟩
 rcases q with q|⟨p,xs,ep,e1,q⟩
 ·exact fin I' hn q
 ·obtain⟨o,I''⟩:=I'.freeze e1;refine fin I'' ?_ (q o);rw[ar (fun z=>by subst z;rw[hn]at e1;cases e1)];exact hn
end
section
variable{X:Cx}{tg:Nh}
theorem PG.imp(h:PG X e t)(i:∀ v σ H Q,t' v σ H Q->t v σ H Q):PG X e t':=fun pins s σ H v u Q I r q=>h pins s σ H v u Q I r (i v σ H Q q)
theorem Fz.imp(h:Fz X es t)(i:∀ vs σ H Q,t' vs σ H Q->t vs σ H Q):Fz X es t':=fun pins s σ H v u Q I r q=>h pins s σ H v u Q I r (i v σ H Q q)
theorem PI.imp(h:PI X tg e t)(i:∀ σ H R,t' σ H R->t σ H R):PI X tg e t':=fun pins s σ H R I q=>h pins s σ H R I (i σ H R q)
variable{pins:List (MT×Obj)}{σ:St}{H:Hp}{s:MU}{R:It->Hp->Prop}{E:MS->MU->Prop}{a:MT}{xs:List V}
theorem qw(I:Inv X pins σ H s)(hq:kg X.K H a xs)(q:R (Lg X.K a) H):MZ (M0 X.prog X.w) X.A (Pr (.ref a)) (HU X pins σ tg R) E s:=by
 obtain⟨its,rv,p,hz⟩:=I.list hq;refine Pz p.isList ?_;refine⟨s.heap.objs.size,[s.heap.objs.size],_,_,H,rfl,I.kept (t':=s.toks) fun b o e=>MX _ e,Cg a _,⟨_,M3 _ rfl,rfl,rfl⟩,fun b hb=>?_,q⟩;have e:b=s.heap.objs.size:=by simpa using hb
 subst e;exact I.fpOk (le_refl _) (I.hok.fresh (le_refl _))
theorem zG(I:Inv X pins σ H s)(hq:ke X.K H a xs)(q:R (Mi X.K a) H):MZ (M0 X.prog X.w) X.A (Pr (.ref a)) (HU X pins σ tg R) E s:=by
 obtain⟨its,rv,p,hz⟩:=I.tuple hq;refine wpAny_pyIter_tuple (show s.heap.IsTuple a its.toArray from p) ?_
 refine⟨s.heap.objs.size,[s.heap.objs.size],_,_,H,rfl,I.kept (t':=s.toks) fun b o e=>MX _ e,Ao a _,⟨_,M3 _ rfl,rfl,rfl⟩,fun b hb=>?_,q⟩;have e:b=s.heap.objs.size:=by simpa using hb
 subst e;exact I.fpOk (le_refl _) (I.hok.fresh (le_refl _))
theorem zH(I:Inv X pins σ H s)(q:R (Mj (dz z)) H):MZ (M0 X.prog X.w) X.A (Pr (.str z t)) (HU X pins σ tg R) E s:=by
 have fin:∀ (ty:String),(ty="str_ascii_iterator"\/ty="str_iterator")->HU X pins σ tg R (.ref s.heap.objs.size) { s with heap:=s.heap.push { cls:=.type ty,data:=.fields #[.str z t,.int 0 0] } }:=fun ty hty=>by
  refine⟨s.heap.objs.size,[s.heap.objs.size],_,_,H,rfl,I.kept (t':=s.toks) fun b o e=>MX _ e,DI _ z t ty hty,⟨_,M3 _ rfl,rfl,rfl⟩,fun b hb=>?_,q⟩;have e:b=s.heap.objs.size:=by simpa using hb
  subst e;exact I.fpOk (le_refl _) (I.hok.fresh (le_refl _))
 cases ha:z.cps.all (· < 128)
 ·exact wpAny_pyIter_wide ha (fin _ (.inr rfl))
 ·exact wpAny_pyIter_ascii ha (fin _ (.inl rfl))
end
end L2
namespace L3
open PySem PySem.Spec PyProof.Rows L2
abbrev sv:=D->dO->Gp->(dO->Gp->Prop)->Prop
abbrev Dm:=List D->dO->Gp->(dO->Gp->Prop)->Prop
def gM(K:Po)(g:sv):TG:=fun v τ H Q=>∃ d σ G Q3,RD K H d v/\RS K H σ τ/\RG K H G/\g d σ G Q3/\∀ σ' G' τ' H',Q3 σ' G'->Kp G H G' H'->RG K H' G'->RS K H' σ' τ'->Q τ' H'
def xz(K:Po)(g:Dm):Hl:=fun vs τ H Q=>∃ ds σ G Q3,RDs K H ds vs/\RS K H σ τ/\RG K H G/\g ds σ G Q3/\∀ σ' G' τ' H',Q3 σ' G'->Kp G H G' H'->RG K H' G'->RS K H' σ' τ'->Q τ' H'
def gN(i:Nat):sv:=fun d σ G Q=>Q (σ.set i (some d)) G
def ur:Dm:=fun ds σ G Q=>match ds with
 | []=>Q σ G
 | _=>False
def ig(t:sv)(u:Dm):Dm:=fun ds σ G Q=>match ds with
 | d::r=>t d σ G fun σ' G'=>u r σ' G' Q
 | []=>False
def uo(n:Nat)(t:Dm):sv:=fun d σ G Q=>match d with
 | .tup ds=>ds.length=n/\t ds σ G Q
 | _=>False
section
variable{X:Cx}{pos:Pos}{e:Nh}{es:List Nh}{t:sv}{u:Dm}
theorem bd(hN:X.N.Nodup)(hi:X.N[i]?=some x)(hx:JK X.env.scope x)(hf:X.fn x=true\/X.env.scope.names.lookup x=some .local:=by first|exact .inl rfl|exact .inr rfl|assumption):PG X (.Name x pos) (gM X.K (gN i)):=
 (Gh hN hi hx hf).imp fun v τ H Q zz=>by
 obtain⟨d,σ,G,Q3,rd,rs,rg,h,k⟩:=zz;exact (
  k _ G _ H h Kp.refl rg (rs.set rd i))
theorem Fd:Fz X [] (xz X.K ur):=Gg.imp fun vs τ H Q zz=>by
 obtain⟨ds,σ,G,Q3,rd,rs,rg,h,k⟩:=zz;cases ds with
 | nil=>exact⟨rd.inv_nil,k _ G _ H h Kp.refl rg rs⟩
 | cons _ _=>exact h.elim
theorem qB(h1:PG X e (gM X.K t))(h2:Fz X es (xz X.K u))(hs:(OM (e::es) X.env).map (·.2)=assign e X.env::(OM es X.env).map (·.2):=by rfl):Fz X (e::es) (xz X.K (ig t u)):=
 (Et h1 h2 hs).imp fun vs τ H Q zz=>by
  obtain⟨ds,σ,G,Q3,rd,rs,rg,h,k⟩:=zz;cases ds with
  | nil=>exact h.elim
  | cons d r=>
   obtain⟨x,xs,e1,r1,r2⟩:=rd.inv_cons;refine⟨x,xs,e1,d,σ,G,_,r1,rs,rg,h,fun σ' G' τ' H' q k' rg' rs'=>⟨r,σ',G',Q3,RDs.mono (k'.stb rg) _ _ r2,rs',rg',q,fun σ2 G2 τ2 H2 q2 k2=>k σ2 G2 τ2 H2 q2 (k'.trans k2)⟩⟩
theorem Fc{k:Nat}{n:Nat}(hc:X.calm=true)(h:Fz X es (xz X.K u))(hn:(OM es X.env).length=n:=by rfl)(hst:(OM es X.env).findIdx? (·.1)=none:=by rfl):PG X (.Tuple es k pos) (gM X.K (uo n u)):=
 (IB hc h hn hst).imp fun v τ H Q zz=>by
  obtain⟨d,σ,G,Q3,rd,rs,rg,h,k⟩:=zz;cases d with
  | tup ds=>
   simp only[RD]at rd;obtain⟨a,xs,e1,q,r⟩:=rd;exact⟨a,xs,e1,q,by rw[<- r.length];exact h.1,ds,σ,G,Q3,r,rs,rg,h.2,k⟩
  | _=>exact h.elim
end
abbrev FF:=dO->Gp->(List D->Gp->Prop)->Prop
def x8(K:Po)(G0:Gp)(H0:Hp)(ds:List D)(J:It):Prop:=∀ i G H,Kp G0 H0 G H->RG K H G->
 (i < ds.length->J.go i H/\∀ x H',J.yld i H x H'->Kp G H G H'/\RG K H' G/\∃ d,ds[i]?=some d/\RD K H' d x)/\(i=ds.length->J.stop i H)
def rh(K:Po)(ti:FF):TI:=fun τ H R=>∃ σ G Q3,RS K H σ τ/\RG K H G/\ti σ G Q3/\∀ ds G' J H',Q3 ds G'->Kp G H G' H'->RG K H' G'->x8 K G' H' ds J->R J H'
def signs(x:Str):List D:=x.cps.toList.map fun c=>D.str ⟨#[c]⟩
theorem BZ{K:Po}{G0:Gp}{H0:Hp}{ds:List D}{xs:List V}(r:∀ H,RDs K H ds xs):x8 K G0 H0 ds (Mj xs):=fun i G H _ rg=>by
 have hl:=(r H).length;refine⟨fun hi=>⟨(show i < xs.length by walk_at "o"),fun x H' y=>?_⟩,fun e=>(show i=xs.length by walk_at "o")⟩
 obtain⟨rfl,hx⟩:=y;refine⟨Kp.refl,rg,ds[i],by simp[hi],?_⟩
 obtain⟨y,e,q⟩:=(r H').get (i:=i) (d:=ds[i]) (by simp[hi])
 rw[hx]at e;cases e;exact q
theorem B0{K:Po}{G0:Gp}{H0:Hp}{ds:List D}{xs:List V}{a:MT}(rg0:RG K H0 G0)(f:FD K H0 a xs)(r:RDs K H0 ds xs):x8 K G0 H0 ds (Lg K a):=fun i G H k rg=>by
 have hl:=r.length;have f':=(k.stb rg0).l _ _ f;have r':=RDs.mono (k.stb rg0) _ _ r;refine⟨fun hi=>⟨⟨xs,xs[i]'(by walk_at "o"),f'.sq,by simp[show i < xs.length by walk_at "o"]⟩,fun x H' y=>?_⟩,fun e=>⟨xs,f'.sq,by walk_at "o"⟩⟩
 obtain⟨rfl,hx⟩:=y;refine⟨Kp.refl,rg,ds[i],by simp[hi],?_⟩
 obtain⟨y,e,q⟩:=r'.get (i:=i) (d:=ds[i]) (by simp[hi])
 rw[hx xs f'.sq]at e;cases e;exact q
theorem EZ{K:Po}{G0:Gp}{H0:Hp}{ds:List D}{xs:List V}{a:MT}(rg0:RG K H0 G0)(f:ke K H0 a xs)(r:RDs K H0 ds xs):x8 K G0 H0 ds (Mi K a):=fun i G H k rg=>by
 have hl:=r.length;have f':=(k.stb rg0).t _ _ f;have r':=RDs.mono (k.stb rg0) _ _ r;refine⟨fun hi=>⟨⟨xs,xs[i]'(by walk_at "o"),f',by simp[show i < xs.length by walk_at "o"]⟩,fun x H' y=>?_⟩,fun e=>⟨xs,f',by walk_at "o"⟩⟩
 obtain⟨rfl,hx⟩:=y;refine⟨Kp.refl,rg,ds[i],by simp[hi],?_⟩
 obtain⟨y,e,q⟩:=r'.get (i:=i) (d:=ds[i]) (by simp[hi])
 rw[hx xs f']at e;cases e;exact q
def eL:D->Option (List D)
 | .lst ds=>some ds
 | .fl ds=>some ds
 | .tup ds=>some ds
 | .str x=>some (signs x)
 | _=>none
def fB(te:aV):FF:=fun σ G Q=>te σ G fun d G'=>match eL d with
 | some ds=>Q ds G'
 | none=>False
def fJ(lo:Int)(n:Nat):List D:=(List.range n).map fun k=>D.int (lo+(k:Nat))
theorem zK{K:Po}{G0:Gp}{H0:Hp}{lo:Int}{n:Nat}:x8 K G0 H0 (fJ lo n) (Lf lo n):=fun i G H _ rg=>by
 have hl:(fJ lo n).length=n:=by simp[fJ]
 rw[hl];refine⟨fun hi=>⟨hi,fun x H' y=>?_⟩,fun e=>(show n<=i by walk_at "o")⟩
 obtain⟨rfl,rfl⟩:=y;exact⟨Kp.refl,rg,.int (lo+(i:Nat)),by simp[fJ,hi],eA⟩
def L5(ta:kK):FF:=fun σ G Q=>ta σ G fun ds G'=>match ds with
 | [.int j]=>(-(2 ^ 62)<=j/\j < 2 ^ 62)/\Q (fJ 0 j.toNat) G'
 | _=>False
def L4(ta:kK):FF:=fun σ G Q=>ta σ G fun ds G'=>match ds with
 | [.int i,.int j]=>(-(2 ^ 62)<=i/\i < 2 ^ 62/\-(2 ^ 62)<=j/\j < 2 ^ 62)/\Q (fJ i (j - i).toNat) G'
 | _=>False
section
variable{X:Cx}{tg e:Nh}{te:aV}
theorem e8(h:PE X e (aA X.K te)):PI X tg e (rh X.K (fB te)):=by
 intro pins s τ H R I hq;obtain⟨σ,G,Q3,rs,rg,hq,k⟩:=hq;refine bZ (c7 h pins s τ H (fun v H1=>∃ d G1,Kp G H G1 H1/\RG X.K H1 G1/\RD X.K H1 (val d) v/\(match eL d with|some ds=>Q3 ds G1|none=>False)) I ⟨σ,G,_,rs,rg,hq,fun d G' v H' q k' rg' rd=>⟨d,G',k',rg',rd,q⟩⟩) fun u s1 zz=>?_
 obtain⟨v,H1,I1,r1,d,G1,k1,rg1,rd,q⟩:=zz;have seq:∀ {a:MT} {xs:List V} {ds:List D},FD X.K H1 a xs->RDs X.K H1 ds xs->Q3 ds G1->MZ (M0 X.prog X.w) X.A (Pr (.ref a)) (HU X pins τ tg R) X.xe s1:=fun f r q=>qw I1 f.sq (k _ G1 _ H1 q k1 rg1 (B0 rg1 f r));cases d with
 | lst ds=>
  simp only[val,RD]at rd;obtain⟨a,xs,rfl,f,r⟩:=rd;cases r1;exact seq f r q
 | fl ds=>
  simp only[val,RD]at rd;obtain⟨a,xs,rfl,f,r⟩:=rd;cases r1;exact seq f r q
 | tup ds=>
  simp only[val,RD]at rd;obtain⟨a,xs,rfl,f,r⟩:=rd;cases r1;exact zG I1 f (k _ G1 _ H1 q k1 rg1 (EZ rg1 f r))
 | str z=>
  simp only[val,RD]at rd;subst rd;obtain⟨t,rfl⟩:=r1;refine zH I1 (k _ G1 _ H1 q k1 rg1 (BZ fun H'=>?_));have:signs z=(z.cps.toList.map fun c=>(⟨#[c]⟩:Str)).map D.str:=by simp[signs]
  rw[this];have e2:dz z=(z.cps.toList.map fun c=>(⟨#[c]⟩:Str)).map V.str:=by simp[dz]
  rw[e2];exact RDs.strs _
 | _=>exact q.elim
theorem E8(hg:Gl X "range")(hm:X.mg "range"=none)(ha:PA X [a] (dN X.K ta))(hs:M5 [a] X.env=[(false,eval a X.env)]:=by rfl):PI X tg (.Call (.Name "range" p) [a] [] pos) (rh X.K (L5 ta)):=
 (Cy hg hm ha hs).imp fun τ H R zz=>by
 obtain⟨σ,G,Q3,rs,rg,h,k⟩:=zz;exact (
  ⟨σ,G,_,rs,rg,h,fun ds G1 vs H1 q k1 rg1 rds=>by
    split at q
    ·rename_i j;obtain⟨x,r,e1,r1,r2⟩:=rds.inv_cons;have:=r2.inv_nil;simp only[RD]at r1;subst e1 this r1;exact⟨j,rfl,q.1.1,q.1.2,k _ G1 _ H1 q.2 k1 rg1 zK⟩
    ·exact q.elim⟩)
theorem E7{a b:Nh}{ta:kK}{p pos:Pos}(hg:Gl X "range")(hm:X.mg "range"=none)(ha:PA X [a,b] (dN X.K ta))(hs:M5 [a,b] X.env=[(false,eval a X.env),(false,eval b X.env)]:=by rfl)(hs2:M5 [b] X.env=[(false,eval b X.env)]:=by rfl):
  PI X tg (.Call (.Name "range" p) [a,b] [] pos) (rh X.K (L4 ta)):=
 (Cw hg hm ha hs hs2).imp fun τ H R zz=>by
 obtain⟨σ,G,Q3,rs,rg,h,k⟩:=zz;exact (
  ⟨σ,G,_,rs,rg,h,fun ds G1 vs H1 q k1 rg1 rds=>by
    split at q
    ·rename_i i j;obtain⟨x,r,e1,r1,r2⟩:=rds.inv_cons;obtain⟨x',r',e1',r1',r2'⟩:=r2.inv_cons;have:=r2'.inv_nil;simp only[RD]at r1 r1';subst e1 e1' this r1 r1';exact⟨i,j,rfl,q.1,k _ G1 _ H1 q.2 k1 rg1 zK⟩
    ·exact q.elim⟩)
end
def ForIn(g:sv)(tb:bc)(E:Ends3)(σ:dO)(ds:List D)(G1:Gp):Prop:=∃ Pv:Nat->dO->Gp->Prop,Pv 0 σ G1/\
 (∀ (i:Nat) d σ' G',ds[i]?=some d->Pv i σ' G'->g d σ' G' fun σ2 G2=>tb { E with nx:=Pv (i+1),ct:=Pv (i+1),bk:=E.nx } σ2 G2)/\∀ σ' G',Pv ds.length σ' G'->E.nx σ' G'
def iV(ti:FF)(g:sv)(tb:bc):bc:=fun D σ G=>ti σ G fun ds G1=>ForIn g tb D σ ds G1
theorem i9(hp:Qo (M0 X.prog X.w) X.A X.env X.xe)(hc:X.calm=true)(hi:PI X tg iter (rh X.K ti))(hg:PG X tg (gM X.K g))(hb:iJ X body (bN X.K tb))(hs:∀ x,NM iter X.env x=pure x:=by intro _;rfl):PS X (.For tg iter body [] pos) (bN X.K (iV ti g tb)):=
 (Ep hp hc hi hg hb hs).imp fun D τ H zz=>by
 obtain⟨σ,G,D3,rs,rg,h,k⟩:=zz;exact (
  ⟨σ,G,_,rs,rg,h,fun ds G1 J H1 q k1 rg1 it=>by
    obtain⟨Pv,p0,step,fin⟩:=q;refine⟨fun i m τ' H'=>m=ds.length - i/\i<=ds.length/\∃ σ' G',RS X.K H' σ' τ'/\RG X.K H' G'/\Pv i σ' G'/\Kp G1 H1 G' H',⟨ds.length,rfl,N0 _,σ,G1,rs.mono (k1.stb rg),rg1,p0,Kp.refl⟩,?_⟩
    rintro i m τ' H' ⟨rfl,hi',σ',G',rs',rg',pv,k'⟩
    obtain⟨hgo,hstop⟩:=it i G' H' k' rg'
    by_cases hlt:i < ds.length
    ·obtain⟨go,yld⟩:=hgo hlt;refine .inr ⟨go,fun τ2 H2=>∃ σ2 G2,RS X.K H2 σ2 τ2/\RG X.K H2 G2/\Pv (i+1) σ2 G2/\Kp G1 H1 G2 H2,fun τ2 H2 ⟨σ2,G2,a,b,c,d⟩=>⟨ds.length - (i+1),by walk_at "o",rfl,hlt,σ2,G2,a,b,c,d⟩,fun x H2 y=>?_⟩
     obtain⟨ky,rgy,d,hd,rd⟩:=yld x H2 y;refine⟨d,σ',G',_,rd,rs'.mono (ky.stb rg'),rgy,step i d σ' G' hd pv,fun σ3 G3 τ3 H3 q3 k3 rg3 rs3=>?_⟩;have kk:Kp G1 H1 G3 H3:=k'.trans (ky.trans k3);have kG:Kp G H G3 H3:=k1.trans kk;refine⟨σ3,G3,_,rs3,rg3,q3,⟨fun σ4 G4 τ4 H4 q4 k4 rg4 rs4=>⟨σ4,G4,rs4,rg4,q4,kk.trans k4⟩,k.rt.base kG,fun σ4 G4 τ4 H4 q4 k4=>k.nx σ4 G4 τ4 H4 q4 (kG.trans k4),fun σ4 G4 τ4 H4 q4 k4 rg4 rs4=>⟨σ4,G4,rs4,rg4,q4,kk.trans k4⟩⟩⟩
    ·have e:i=ds.length:=by walk_at "o"
     refine .inl ⟨hstop e,k.nx σ' G' τ' H' (fin σ' G' (by rw[<- e];exact pv)) (k1.trans k') rg' rs'⟩⟩)
def jM:mv:=fun _ G Q=>Q true G
def yB(k:Nat)(g:sv)(tt:mv)(te:aV)(σ:dO)(ds:List D)(G1:Gp)(Q:jh):Prop:=ds.length<=M1/\∃ Pv:Nat->List D->Gp->Prop,Pv 0 [] G1/\
 (∀ (i:Nat) d acc G',ds[i]?=some d->Pv i acc G'->g d (List.replicate k none ++ σ) G' fun σ2 G2=>(k<=σ2.length/\σ2.drop k=σ)/\tt σ2 G2 fun b G3=>if b=true then te σ2 G3 fun y G4=>Pv (i+1) (acc ++ [val y]) G4 else Pv (i+1) acc G3)/\
 ∀ acc G',Pv ds.length acc G'->Q (.fl acc) G'
def fE(k:Nat)(ti:FF)(g:sv)(tt:mv)(te:aV):aV:=fun σ G Q=>ti σ G fun ds G1=>yB k g tt te σ ds G1 Q
theorem f9(f:D->D)(hl:ds.length<=M1)(he:∀ d∈ds,∀ P:jh,(∀ y,val y=f d->P y G1)->g d (List.replicate k none ++ σ) G1 fun σ2 G2=>(k<=σ2.length/\σ2.drop k=σ)/\te σ2 G2 P)(hq:Q (.fl (ds.map f)) G1):yB k g jM te σ ds G1 Q:=by
 refine⟨hl,fun i acc G'=>acc=(ds.take i).map f/\G'=G1,⟨by simp,rfl⟩,fun i d acc G' hd ⟨ha,hG⟩=>?_,fun acc G' ⟨ha,hG⟩=>?_⟩
 ·subst hG;exact he d (Ni hd) (fun y G4=>acc ++ [val y]=(ds.take (i+1)).map f/\G4=G') fun y hy=>⟨by rw[ha,hy,NK,hd];simp,rfl⟩
 ·subst hG;rw[ha,NB];exact hq
theorem zU(p:D->Bool)(f:D->D)(hl:ds.length<=M1)(he:∀ d∈ds,∀ (P:jh) (R:Gp->Prop),(p d=true->∀ y,val y=f d->P y G1)->(p d=false->R G1)->g d (List.replicate k none ++ σ) G1 fun σ2 G2=>(k<=σ2.length/\σ2.drop k=σ)/\tt σ2 G2 fun b G3=>if b=true then te σ2 G3 P else R G3)(hq:Q (.fl ((ds.filter p).map f)) G1):yB k g tt te σ ds G1 Q:=by
 refine⟨hl,fun i acc G'=>acc=((ds.take i).filter p).map f/\G'=G1,⟨by simp,rfl⟩,fun i d acc G' hd ⟨ha,hG⟩=>?_,fun acc G' ⟨ha,hG⟩=>?_⟩
 ·subst hG;have e:(ds.take (i+1)).filter p=(ds.take i).filter p ++ (if p d=true then [d]else []):=by
   rw[NK,hd,OC];cases hp:p d<;>simp[hp]
  refine he d (Ni hd) (fun y G4=>acc ++ [val y]=((ds.take (i+1)).filter p).map f/\G4=G') (fun G4=>acc=((ds.take (i+1)).filter p).map f/\G4=G') (fun hp y hy=>⟨?_,rfl⟩) fun hp=>⟨?_,rfl⟩
  ·rw[e,hp,ha,hy];simp
  ·rw[e,hp,ha];simp
 ·subst hG;rw[ha,NB];exact hq
section
variable{X:Cx}{elt tg iter:Nh}{ifs:List Nh}{scope:O_}{T M:List Str}{pos:Pos}{ti:FF}{g:sv}{tt:mv}{te:aV}
theorem DW{K:Po}{H:Hp}{σ:dO}{τ:St}(T:List Str)(r:RS K H σ τ):RS K H (List.replicate T.length none ++ σ) (ent T τ):=by
 unfold ent
 induction T with
 | nil=>exact r
 | cons a t ih=>exact .cons (show Do K H none none from trivial) ih
theorem pW{K:Po}{H:Hp}:∀ (k:Nat) {σ:dO} {τ:St},k<=σ.length->RS K H σ τ->RS K H (List.replicate k none ++ σ.drop k) τ
 | 0,_,_,_,r=>r
 | k+1,[],_,h,_=>absurd h (by simp)
 | k+1,a::t,_,h,.cons _ r=>.cons (show Do K H none _ from trivial) (pW k (by simpa using h) r)
theorem wp{K:Po}{τ:St}{H:Hp}{Q:VK}(h:aA K (fE T.length ti g tt te) τ H Q):
  yK (ent T) (rh K ti) (gM K g) (b8 K tt) (tW K te) τ H Q:=by
 obtain⟨σ,G,Q3,rs,rg,h,k⟩:=h;refine⟨σ,G,_,rs,rg,h,fun ds G1 J H1 q k1 rg1 it Da hD=>?_⟩;obtain⟨hsz,Pv,p0,step,fin⟩:=q;have kD:Kp G1 H1 G1 (aR H1 Da (.lst [])):=Kp.laid hD;have rgD:RG K (aR H1 Da (.lst [])) G1:=rg1.laid hD;have gD:G1 Da=none:=rg1.free hD;refine⟨fun i m ys τ2 H2=>m=ds.length - i/\i<=ds.length/\∃ acc G2,H2 Da=some (.lst ys)/\G2 Da=none/\RG K H2 G2/\RS K H2 (List.replicate T.length none ++ σ) τ2/\RDs K H2 acc ys/\acc.length<=i/\Pv i acc G2/\(∀ a h,a≠Da->H1 a=some h->G1 a=none->H2 a=some h/\G2 a=none),
  ⟨ds.length,rfl,N0 _,[],G1,aF,gD,rgD,DW T (rs.mono ((k1.trans kD).stb rg)),RDs.nil,le_refl _,p0,fun a h ha e n=>⟨by rw[ar ha];exact e,n⟩⟩,?_⟩
 rintro i m ys τ2 H2 ⟨rfl,hi',acc,G2,eD,nD,rg2,rs2,ra,la,pv,k2⟩
 have k2':Kp G1 H1 G2 H2:=fun a h e n=>k2 a h (bH e hD) e n;refine⟨eD,?_⟩;obtain⟨hgo,hstop⟩:=it i G2 H2 k2' rg2
 by_cases hlt:i < ds.length
 ·obtain⟨go,yld⟩:=hgo hlt;refine .inr ⟨go,fun ys' τ' H'=>∃ acc G',H' Da=some (.lst ys')/\G' Da=none/\RG K H' G'/\RS K H' (List.replicate T.length none ++ σ) τ'/\RDs K H' acc ys'/\acc.length<=i+1/\Pv (i+1) acc G'/\(∀ a h,a≠Da->H1 a=some h->G1 a=none->H' a=some h/\G' a=none),
   fun ys' τ' H' q'=>⟨ds.length - (i+1),by walk_at "o",rfl,hlt,q'⟩,fun x H3 y=>?_⟩
  obtain⟨ky,rgy,d,hd,rd⟩:=yld x H3 y;refine⟨d,List.replicate T.length none ++ σ,G2,_,rd,rs2.mono (ky.stb rg2),rgy,step i d acc G2 hd pv,fun σ4 G4 τ4 H4 q4 k4 rg4 rs4=>?_⟩;obtain⟨⟨hlen,hdrop⟩,q4⟩:=q4;have rs4':RS K H4 (List.replicate T.length none ++ σ) τ4:=by
   have:=pW T.length hlen rs4;rw[hdrop]at this;exact this
  refine⟨σ4,G4,_,rs4,rg4,q4,fun b G5 H5 q5 k5 rg5=>?_⟩;have e3:H3 Da=some (.lst ys):=(ky Da _ eD nD).1;have e4:=k4 Da _ e3 nD;have e5:=k5 Da _ e4.1 e4.2;have kk:∀ {G6:Gp} {H6:Hp},Kp G5 H5 G6 H6->∀ a h,a≠Da->H1 a=some h->G1 a=none->H6 a=some h/\G6 a=none:=fun k6 a h ha e n=>((((Kp.trans k2' ky).trans k4).trans k5).trans k6) a h e n;cases b with
  | false=>
   refine iteF ⟨acc,G5,e5.1,e5.2,rg5,rs4'.mono (k5.stb rg4),RDs.mono (((ky.trans k4).trans k5).stb rg2) _ _ ra,by walk_at "o",q5,kk Kp.refl⟩
  | true=>
   refine iteT ⟨σ4,G5,_,rs4.mono (k5.stb rg4),rg5,q5,fun yv G6 v H6 q6 k6 rg6 rd6=>?_⟩;have e6:=k6 Da _ e5.1 e5.2;have la':=ra.length;have st:Stb K H6 (aR H6 Da (.lst (ys ++ [v]))):=by
    constructor
    ·intro a zs q;rcases q with (q|⟨o,q⟩)|q
     ·exact .inl (.inl (by rw[ar (fun z=>by subst z;rw[e6.1]at q;cases q)];exact q))
     ·exact .inl (.inr ⟨o,by rw[ar (fun z=>by subst z;rw[e6.1]at q;cases q)];exact q⟩)
     ·exact .inr q
    ·intro a zs q;rcases q with ⟨o,q⟩|q
     ·exact .inl ⟨o,by rw[ar (fun z=>by subst z;rw[e6.1]at q;cases q)];exact q⟩
     ·exact .inr q
   refine⟨e6.1,by walk_at "o",acc ++ [val yv],G6,aF,e6.2,fun a o q=>?_,(rs4'.mono ((k5.trans k6).stb rg4)).mono st,?_,by simp;omega,q6,fun a h ha e n=>?_⟩
   ·obtain⟨h',q1,q2⟩:=rg6 a o q;exact⟨h',by rw[ar (fun z=>by subst z;rw[e6.2]at q;cases q)];exact q1,q2.mono st⟩
   ·exact RDs.append (RDs.mono st _ _ (RDs.mono ((((ky.trans k4).trans k5).trans k6).stb rg2) _ _ ra)) (RDs.cons (RD.mono st _ _ rd6) RDs.nil)
   ·rw[ar ha];exact kk k6 a h ha e n
 ·have e:i=ds.length:=by walk_at "o"
  refine .inl ⟨hstop e,k _ G2 _ H2 (fin acc G2 (by rw[<- e];exact pv)) (k1.trans k2') rg2 (.inl ⟨acc,Da,ys,rfl,rfl,eD,nD,ra,?_⟩)⟩
  exact k1.fr (sj hD)
theorem jm:Dt X [] (b8 X.K jM):=fun pins s τ H Q I h=>by
 obtain⟨σ,G,Q3,rs,rg,h,k⟩:=h;exact F_ pins s τ H Q I (k true G H h Kp.refl rg)
theorem m8(h:PT X c (b8 X.K tc)):Dt X [c] (b8 X.K tc):=F9 h
theorem jw(ok:CompOk X scope T M)(hin:∀ cl C s₀ H₀ fp,PG (aU X (T ++ M) scope cl C s₀ H₀ fp) tg (gM X.K g)/\Dt (aU X (T ++ M) scope cl C s₀ H₀ fp) ifs (b8 X.K tt)/\PE (aU X (T ++ M) scope cl C s₀ H₀ fp) elt (aA X.K te))(hi:PI X tg iter (rh X.K ti))(hs:∀ x,NM iter X.env x=pure x:=by intro _;rfl):PE X (.ListComp elt [⟨tg,iter,ifs,0⟩] scope pos) (aA X.K (fE T.length ti g tt te)):=
 (xl ok (fun cl C s₀ H₀ fp=>let ⟨a,b,c⟩:=hin cl C s₀ H₀ fp;⟨a,b,c7 c⟩) hi hs).imp fun _ _ _ h=>wp h
theorem Ed{i:Nat}{x:Str}{px spos:Pos}(ok:CompOk X scope T M)(hN:X.N.Nodup)(hix:X.N[i]?=some x)(hx:X.env.scope.names.lookup x=some .local)
  (hin:∀ cl C s₀ H₀ fp,PG (aU X (T ++ M) scope cl C s₀ H₀ fp) tg (gM X.K g)/\Dt (aU X (T ++ M) scope cl C s₀ H₀ fp) ifs (b8 X.K tt)/\PE (aU X (T ++ M) scope cl C s₀ H₀ fp) elt (aA X.K te))
  (hi:PI X tg iter (rh X.K ti)) (hsw:Ob (.ListComp elt [⟨tg,iter,ifs,0⟩] scope pos) (some (.Name x px)) spos.line X.env=pure true:=by rfl) (hs:∀ x,NM iter X.env x=pure x:=by intro _;rfl):
  PS X (.Assign [.Name x px] (.ListComp elt [⟨tg,iter,ifs,0⟩] scope pos) spos) (bN X.K (bK i (fE T.length ti g tt te))):=
 (BG ok hN hix hx (fun cl C s₀ H₀ fp=>let ⟨a,b,c⟩:=hin cl C s₀ H₀ fp;⟨a,b,c7 c⟩) hi hsw hs).imp fun D τ H zz=>by
  obtain⟨σ,G,D3,rs,rg,h,k⟩:=zz;refine wp (Q:=fun v H1=>D.nx (τ.set i (some v)) H1\/∃ p xs,v=.ref p/\H1 p=some (.lst xs)/\∀ o,D.nx (τ.set i (some v)) (aR H1 p (.frz o (.lst xs)))) ⟨σ,G,_,rs,rg,h,fun d G' v H' q k' rg' re=>?_⟩;cases d with
  | fl ds=>
   obtain⟨p,xs,rfl,e1,e2,e3,e4⟩:=re.fl;refine .inr ⟨p,xs,rfl,e1,fun o=>?_⟩;obtain⟨rg2,st⟩:=A4 (o:=o) rg' e1 e2;exact k.nx _ G' _ _ q (A5 (K:=X.K) k' e4) rg2 (((rs.mono (k'.stb rg)).mono st).set (qd (.inl ⟨o,aF⟩) (RDs.mono st _ _ e3)) i)
  | _=>exact .inl (k.nx _ G' _ H' q k' rg' ((rs.mono (k'.stb rg)).set (re.rd (by intro ds z;cases z)) i))
end
open PySem.SeqAt
def dC(x y:D):Bool:=@decide (x=y) (Classical.propDecidable _)
theorem pj:dC x y=true↔x=y:=by unfold dC;exact @decide_eq_true_iff _ (Classical.propDecidable _)
theorem a_(x:D):dC x x=true:=pj.mpr rfl
theorem Fj(h:x=y):dC x y=true:=pj.mpr h
theorem bo(h:x≠y):dC x y=false:=by
 cases e:dC x y with
 | false=>rfl
 | true=>exact absurd (pj.mp e) h
theorem pr(h:(b=true)↔x=y):dC x y=b:=by
 cases b with
 | true=>exact Fj (h.mp rfl)
 | false=>exact bo fun e=>nomatch h.mpr e
def pl:Nat->D->Prop
 | _,.non=>True
 | _,.int _=>True
 | _,.str _=>True
 | n+1,.tup ds=>∀ d∈ds,pl n d
 | n+1,.lst ds=>∀ d∈ds,pl n d
 | _,_=>False
section
variable{X:Cx}{pins:List (MT×Obj)}{σ:St}{H:Hp}{s:MU}
theorem BM(I:Inv X pins σ H s)(h1:ke X.K H a xs)(h2:kg X.K H a ys):False:=by
 obtain⟨_,_,⟨o,e,c,_⟩,_⟩:=I.tuple h1;obtain⟨_,_,p,_⟩:=I.list h2;obtain⟨o',e',c',_⟩:=p.isList;rw[e]at e';cases e';rw[c]at c';injection c' with z
 exact absurd z (by decide)
theorem D6(I:Inv X pins σ H s):∀ (n:Nat) {x y:D} {v:V},pl n x->pl n y->RD X.K H x v->RD X.K H y v->x=y:=by
 intro n
 induction n with
 | zero=>
  intro x y v px py rx ry;cases x<;>first|exact px.elim|(cases y<;>first|exact py.elim|(simp only[RD]at rx ry;subst rx;first|rfl|(cases ry;rfl)|cases ry))
 | succ n ih=>
  have seq:∀ {ds es:List D} {xs:List V},(∀ d∈ds,pl n d)->(∀ d∈es,pl n d)->RDs X.K H ds xs->RDs X.K H es xs->ds=es:=by
   intro ds
   induction ds with
   | nil=>
    intro es xs _ _ r1 r2;have:=r1.inv_nil;subst this;cases es with
    | nil=>rfl
    | cons e t=>have:=r2.length;simp at this
   | cons d t ihd=>
    intro es xs p1 p2 r1 r2;obtain⟨v,vs,e1,a1,b1⟩:=r1.inv_cons;subst e1;cases es with
    | nil=>have:=r2.length;simp at this
    | cons e u=>
     obtain⟨v',vs',e2,a2,b2⟩:=r2.inv_cons;cases e2;rw[ih (p1 d M_) (p2 e M_) a1 a2,ihd (fun z hz=>p1 z (M7 _ hz)) (fun z hz=>p2 z (M7 _ hz)) b1 b2]
  intro x y v px py rx ry;cases x with
  | tup ds=>
   simp only[RD]at rx;obtain⟨a,xs,rfl,s1,r1⟩:=rx;cases y with
   | tup es=>
    simp only[RD]at ry;obtain⟨b,ys,e,s2,r2⟩:=ry;cases e;have:=I.tuple_inj s1 s2;subst this;rw[seq px py r1 r2]
   | lst es=>
    simp only[RD]at ry;obtain⟨b,ys,e,s2,r2⟩:=ry;cases e;exact (BM I s1 s2.sq).elim
   | _=>first|exact py.elim|(simp only[RD]at ry;cases ry)
  | lst ds=>
   simp only[RD]at rx;obtain⟨a,xs,rfl,s1,r1⟩:=rx;cases y with
   | lst es=>
    simp only[RD]at ry;obtain⟨b,ys,e,s2,r2⟩:=ry;cases e;have:=I.list_inj s1.sq s2.sq;subst this;rw[seq px py r1 r2]
   | tup es=>
    simp only[RD]at ry;obtain⟨b,ys,e,s2,r2⟩:=ry;cases e;exact (BM I s2 s1.sq).elim
   | _=>first|exact py.elim|(simp only[RD]at ry;cases ry)
  | _=>first|exact px.elim|(cases y with
   | tup es=>simp only[RD]at rx ry;obtain⟨b,ys,e,_⟩:=ry;rw[rx]at e;cases e
   | lst es=>simp only[RD]at rx ry;obtain⟨b,ys,e,_⟩:=ry;rw[rx]at e;cases e
   | _=>first|exact py.elim|(simp only[RD]at rx ry;subst rx;first|rfl|(cases ry;rfl)|cases ry))
structure Cmp3(A:Nb)(s:MU)(v u:MS)(b:Bool):Prop where
 eq:EqAt A s v u b
 rc:RcAt A s v u b
 ne:RcNeAt A s v u (!b)
theorem xW(n:Nat)(hn:n=min ds.length es.length):((List.range n).all (fun j=>dC (ds.getD j .non) (es.getD j .non)) && ds.length == es.length)=dC (.tup ds) (.tup es):=by
 symm;refine pr ?_;rw[Bool.and_eq_true,List.all_eq_true,beq_iff_eq];constructor
 ·rintro⟨h1,h2⟩
  congr 1;refine List.ext_getElem h2 fun i hi hj=>?_;have:=pj.mp (h1 i (mem_range.mpr (by walk_at "o")))
  rw[Nj,Nj,M6 hi,M6 hj]at this
  simpa using this
 ·intro h;cases h;exact⟨fun i _=>a_ _,rfl⟩
theorem GW:dC (.lst ds) (.lst es)=dC (.tup ds) (.tup es):=pr (by rw[pj];constructor<;>(intro h;cases h;rfl))
theorem Vals.getV:∀ {xs:List V} {us:List MS} {i:Nat} {u:MS},Vals xs us->us[i]?=some u->∃ x,xs[i]?=some x/\aH x u
 | _,_,_,_,.nil,e=>by simp at e
 | _,_,0,_,.cons r _,e=>by simp at e;subst e;exact⟨_,rfl,r⟩
 | _,_,i+1,u,.cons _ t,e=>by
  obtain⟨x,h1,h2⟩:=Vals.getV (i:=i) (u:=u) t (by simpa using e)
  exact⟨x,by simpa using h1,h2⟩
theorem RDs.getV{K:Po}{H:Hp}:∀ {ds:List D} {xs:List V} {i:Nat} {x:V},RDs K H ds xs->xs[i]?=some x->∃ d,ds[i]?=some d/\RD K H d x
 | [],xs,i,x,h,e=>by rw[h.inv_nil]at e;simp at e
 | d::ds,xs,i,x,h,e=>by
  obtain⟨y,r,e1,h1,h2⟩:=h.inv_cons;subst e1;cases i with
  | zero=>simp at e;subst e;exact⟨d,rfl,h1⟩
  | succ i=>
   obtain⟨z,q1,q2⟩:=RDs.getV (i:=i) (x:=x) h2 (by simpa using e)
   exact⟨z,by simpa using q1,q2⟩
def sc:D->Prop
 | .non=>True
 | .int _=>True
 | .str _=>True
 | _=>False
theorem Jy:Cmp3 A s .none (.int j t) (dC .non (.int j)):=by rw[bo (by intro z;cases z)];exact⟨EqAt.none_int _ _,RcAt.none_int _ _,RcNeAt.none_int _ _⟩
theorem Jw:Cmp3 A s .none (.str j t) (dC .non (.str j)):=by rw[bo (by intro z;cases z)];exact⟨EqAt.none_str _ _,RcAt.none_str _ _,RcNeAt.none_str _ _⟩
theorem JA:Cmp3 A s (.int j t) .none (dC (.int j) .non):=by rw[bo (by intro z;cases z)];exact⟨EqAt.int_none _ _,RcAt.int_none _ _,RcNeAt.int_none _ _⟩
theorem Ju:Cmp3 A s (.str j t) .none (dC (.str j) .non):=by rw[bo (by intro z;cases z)];exact⟨EqAt.str_none _ _,RcAt.str_none _ _,RcNeAt.str_none _ _⟩
theorem Jz:Cmp3 A s (.int i t) (.str j u) (dC (.int i) (.str j)):=by rw[bo (by intro z;cases z)];exact⟨EqAt.int_str _ _ _ _,RcAt.int_str _ _ _ _,RcNeAt.int_str _ _ _ _⟩
theorem Jv:Cmp3 A s (.str i t) (.int j u) (dC (.str i) (.int j)):=by rw[bo (by intro z;cases z)];exact⟨EqAt.str_int _ _ _ _,RcAt.str_int _ _ _ _,RcNeAt.str_int _ _ _ _⟩
theorem JB:Cmp3 A s (.int i t) (.int j u) (dC (.int i) (.int j)):=by
 have e:dC (.int i) (.int j)=(i == j):=pr (by rw[beq_iff_eq];exact⟨fun z=>by rw[z],fun z=>by cases z;rfl⟩)
 rw[e];exact⟨EqAt.int_int _ _ _ _,RcAt.int_int _ _ _ _,RcNeAt.int_int _ _ _ _⟩
theorem Jt:Cmp3 A s (.str i t) (.str j u) (dC (.str i) (.str j)):=by
 have e:dC (.str i) (.str j)=(i == j):=pr (by rw[beq_iff_eq];exact⟨fun z=>by rw[z],fun z=>by cases z;rfl⟩)
 rw[e];exact⟨EqAt.str_str _ _ _ _,RcAt.str_str _ _ _ _,RcNeAt.str_str _ _ _ _⟩
theorem Jx:Cmp3 A s .none .none (dC .non .non):=by rw[a_];exact⟨Rf _,RcAt.none_none,RcNeAt.none_none⟩
theorem pP{K:Po}{x:D}{v:V}{v':MS}(h:sc x)(r:RD K H x v)(l:aH v v'):(x=.non/\v'=.none)\/(∃ i t,x=.int i/\v'=.int i t)\/(∃ i t,x=.str i/\v'=.str i t):=by
 cases x with
 | non=>simp only[RD]at r;subst r;exact .inl ⟨rfl,l⟩
 | int i=>simp only[RD]at r;subst r;obtain⟨t,e⟩:=l;exact .inr (.inl ⟨i,t,rfl,e⟩)
 | str i=>simp only[RD]at r;subst r;obtain⟨t,e⟩:=l;exact .inr (.inr ⟨i,t,rfl,e⟩)
 | _=>exact h.elim
theorem Ft{K:Po}{A:Nb}{x y:D}{v u:V}{v' u':MS}(h1:sc x)(h2:sc y)(rx:RD K H x v)(ry:RD K H y u)(lx:aH v v')(ly:aH u u'):Cmp3 A s v' u' (dC x y):=by
 rcases pP h1 rx lx with ⟨rfl,rfl⟩|⟨i,t,rfl,rfl⟩|⟨i,t,rfl,rfl⟩
 ·rcases pP h2 ry ly with ⟨rfl,rfl⟩|⟨j,u,rfl,rfl⟩|⟨j,u,rfl,rfl⟩
  ·exact Jx
  ·exact Jy
  ·exact Jw
 ·rcases pP h2 ry ly with ⟨rfl,rfl⟩|⟨j,u,rfl,rfl⟩|⟨j,u,rfl,rfl⟩
  ·exact JA
  ·exact JB
  ·exact Jz
 ·rcases pP h2 ry ly with ⟨rfl,rfl⟩|⟨j,u,rfl,rfl⟩|⟨j,u,rfl,rfl⟩
  ·exact Ju
  ·exact Jv
  ·exact Jt
theorem vU(p:pl n x):sc x\/(∃ m ds,n=m+1/\x=.tup ds/\∀ d∈ds,pl m d)\/(∃ m ds,n=m+1/\x=.lst ds/\∀ d∈ds,pl m d):=by
 cases x with
 | non=>exact .inl trivial
 | int _=>exact .inl trivial
 | str _=>exact .inl trivial
 | tup ds=>cases n with
  | zero=>exact p.elim
  | succ m=>exact .inr (.inl ⟨m,ds,rfl,rfl,p⟩)
 | lst ds=>cases n with
  | zero=>exact p.elim
  | succ m=>exact .inr (.inr ⟨m,ds,rfl,rfl,p⟩)
 | bl _=>cases n<;>exact p.elim
 | fl _=>cases n<;>exact p.elim
 | ref _=>cases n<;>exact p.elim
 | ty _=>cases n<;>exact p.elim
theorem Fq{K:Po}{A:Nb}{b:MT}{its:Array MS}{es:List D}(hu0:A.units < NF)(t2:s.heap.IsTuple b its){x:D}{v:V}{v':MS}(h:sc x)(rx:RD K H x v)(lx:aH v v'):Cmp3 A s v' (.ref b) (dC x (.tup es))/\Cmp3 A s (.ref b) v' (dC (.tup es) x):=by
 rcases pP h rx lx with ⟨rfl,rfl⟩|⟨i,t,rfl,rfl⟩|⟨i,t,rfl,rfl⟩
 ·rw[bo (by intro z;cases z),bo (by intro z;cases z)]
  exact⟨⟨EqAt.none_tuple t2 hu0,RcAt.none_tuple t2 hu0,RcNeAt.none_tuple t2 hu0⟩,⟨EqAt.tuple_none t2 hu0,RcAt.tuple_none t2 hu0,RcNeAt.tuple_none t2 hu0⟩⟩
 ·rw[bo (by intro z;cases z),bo (by intro z;cases z)]
  exact⟨⟨EqAt.int_tuple _ _ t2 hu0,RcAt.int_tuple _ _ t2 hu0,RcNeAt.int_tuple _ _ t2 hu0⟩,⟨EqAt.tuple_int _ _ t2 hu0,RcAt.tuple_int _ _ t2 hu0,RcNeAt.tuple_int _ _ t2 hu0⟩⟩
 ·rw[bo (by intro z;cases z),bo (by intro z;cases z)]
  exact⟨⟨EqAt.str_tuple _ _ t2 hu0,RcAt.str_tuple _ _ t2 hu0,RcNeAt.str_tuple _ _ t2 hu0⟩,⟨EqAt.tuple_str _ _ t2 hu0,RcAt.tuple_str _ _ t2 hu0,RcNeAt.tuple_str _ _ t2 hu0⟩⟩
theorem Fs{K:Po}{A:Nb}{b:MT}{its:Array MS}{es:List D}(hu0:A.units < NF)(t2:s.heap.IsList b its){x:D}{v:V}{v':MS}(h:sc x)(rx:RD K H x v)(lx:aH v v'):Cmp3 A s v' (.ref b) (dC x (.lst es))/\Cmp3 A s (.ref b) v' (dC (.lst es) x):=by
 rcases pP h rx lx with ⟨rfl,rfl⟩|⟨i,t,rfl,rfl⟩|⟨i,t,rfl,rfl⟩
 ·rw[bo (by intro z;cases z),bo (by intro z;cases z)]
  exact⟨⟨EqAt.none_list t2 hu0,RcAt.none_list t2 hu0,RcNeAt.none_list t2 hu0⟩,⟨EqAt.list_none t2 hu0,RcAt.list_none t2 hu0,RcNeAt.list_none t2 hu0⟩⟩
 ·rw[bo (by intro z;cases z),bo (by intro z;cases z)]
  exact⟨⟨EqAt.int_list _ _ t2 hu0,RcAt.int_list _ _ t2 hu0,RcNeAt.int_list _ _ t2 hu0⟩,⟨EqAt.list_int _ _ t2 hu0,RcAt.list_int _ _ t2 hu0,RcNeAt.list_int _ _ t2 hu0⟩⟩
 ·rw[bo (by intro z;cases z),bo (by intro z;cases z)]
  exact⟨⟨EqAt.str_list _ _ t2 hu0,RcAt.str_list _ _ t2 hu0,RcNeAt.str_list _ _ t2 hu0⟩,⟨EqAt.list_str _ _ t2 hu0,RcAt.list_str _ _ t2 hu0,RcNeAt.list_str _ _ t2 hu0⟩⟩
theorem zV(I:Inv X pins σ H s):∀ (n:Nat) {x y:D} {v u:V} {v' u':MS} {A:Nb},pl n x->pl n y->RD X.K H x v->RD X.K H y u->aH v v'->aH u u'->A.units+n < NF->Cmp3 A s v' u' (dC x y):=by
 intro n
 induction n with
 | zero=>
  intro x y v u v' u' A px py rx ry lx ly hu;rcases vU px with h1|⟨m,_,e,_⟩|⟨m,_,e,_⟩
  ·rcases vU py with h2|⟨m,_,e,_⟩|⟨m,_,e,_⟩
   ·exact Ft h1 h2 rx ry lx ly
   ·cases e
   ·cases e
  ·cases e
  ·cases e
 | succ n ih=>
  intro x y v u v' u' A px py rx ry lx ly hu;have hu0:A.units < NF:=by walk_at "o"
  have hu1:A.in1.units+n < NF:=by show A.units+1+n < NF;omega
  have items:∀ {ds es:List D} {xs ys:List V} {its its2:List MS},(∀ d∈ds,pl n d)->(∀ d∈es,pl n d)->RDs X.K H ds xs->RDs X.K H es ys->Vals xs its->Vals ys its2->
    ∀ j (h1:j < its.toArray.size) (h2:j < its2.toArray.size),EqAt A.in1 s its.toArray[j] its2.toArray[j] (dC (ds.getD j .non) (es.getD j .non)):=by
   intro ds es xs ys its its2 p1 p2 r1 r2 w1 w2 j h1 h2;obtain⟨x1,e1,q1⟩:=Vals.getV (i:=j) (u:=its.toArray[j]) w1 (by simp at h1;simp[h1])
   obtain⟨x2,e2,q2⟩:=Vals.getV (i:=j) (u:=its2.toArray[j]) w2 (by simp at h2;simp[h2])
   obtain⟨d1,f1,g1⟩:=RDs.getV r1 e1;obtain⟨d2,f2,g2⟩:=RDs.getV r2 e2;have:=(ih (A:=A.in1) (p1 d1 (Ni f1)) (p2 d2 (Ni f2)) g1 g2 q1 q2 hu1).eq;rw[Nj,Nj,f1,f2];exact this
  rcases vU px with h1|⟨m,ds,e1,rfl,p1⟩|⟨m,ds,e1,rfl,p1⟩
  ·rcases vU py with h2|⟨m,es,e2,rfl,p2⟩|⟨m,es,e2,rfl,p2⟩
   ·exact Ft h1 h2 rx ry lx ly
   ·simp only[RD]at ry;obtain⟨b,ys,rfl,s2,r2⟩:=ry;cases ly;obtain⟨its2,w2,t2,z2⟩:=I.tuple s2;exact (Fq hu0 t2 h1 rx lx).1
   ·simp only[RD]at ry;obtain⟨b,ys,rfl,s2,r2⟩:=ry;cases ly;obtain⟨its2,w2,t2,z2⟩:=I.list s2.sq;exact (Fs hu0 t2.isList h1 rx lx).1
  ·cases e1;simp only[RD]at rx;obtain⟨a,xs,rfl,s1,r1⟩:=rx;cases lx;obtain⟨its,w1,t1,z1⟩:=I.tuple s1;have l1:=w1.length;have l1':=r1.length;rcases vU py with h2|⟨m,es,e2,rfl,p2⟩|⟨m,es,e2,rfl,p2⟩
   ·exact (Fq hu0 t1 h2 ry ly).2
   ·cases e2;simp only[RD]at ry;obtain⟨b,ys,rfl,s2,r2⟩:=ry;cases ly;obtain⟨its2,w2,t2,z2⟩:=I.tuple s2;have l2:=w2.length;have l2':=r2.length;have he:=items p1 p2 r1 r2 w1 w2;have hsz:its.toArray.size=ds.length:=by simp only[M8];omega
    have S4:its2.toArray.size=es.length:=by simp only[M8];omega
    have rc:=RcAt.tuples (A:=A) t1 t2 hu0 he;have rn:=RcNeAt.tuples (A:=A) t1 t2 hu0 he;rw[hsz,S4,xW _ rfl]at rc;rw[hsz,S4,xW _ rfl]at rn;refine⟨?_,rc,rn⟩
    by_cases hab:a=b
    ·subst hab;have:D.tup ds=D.tup es:=D6 I (n+1) (v:=.ref a) px py (qc s1 r1) (qc s2 r2);rw[this,a_];exact Rf _
    ·exact EqAt.of_refs hab rc
   ·simp only[RD]at ry;obtain⟨b,ys,rfl,s2,r2⟩:=ry;cases ly;obtain⟨its2,w2,t2,z2⟩:=I.list s2.sq;rw[bo (by intro z;cases z)]
    exact⟨EqAt.tuple_list t1 t2.isList hu0,RcAt.tuple_list t1 t2.isList hu0,RcNeAt.tuple_list t1 t2.isList hu0⟩
  ·cases e1;simp only[RD]at rx;obtain⟨a,xs,rfl,s1,r1⟩:=rx;cases lx;obtain⟨its,w1,t1,z1⟩:=I.list s1.sq;have l1:=w1.length;have l1':=r1.length;rcases vU py with h2|⟨m,es,e2,rfl,p2⟩|⟨m,es,e2,rfl,p2⟩
   ·exact (Fs hu0 t1.isList h2 ry ly).2
   ·simp only[RD]at ry;obtain⟨b,ys,rfl,s2,r2⟩:=ry;cases ly;obtain⟨its2,w2,t2,z2⟩:=I.tuple s2;rw[bo (by intro z;cases z)]
    exact⟨EqAt.list_tuple t1.isList t2 hu0,RcAt.list_tuple t1.isList t2 hu0,RcNeAt.list_tuple t1.isList t2 hu0⟩
   ·cases e2;simp only[RD]at ry;obtain⟨b,ys,rfl,s2,r2⟩:=ry;cases ly;obtain⟨its2,w2,t2,z2⟩:=I.list s2.sq;have l2:=w2.length;have l2':=r2.length;have he:=items p1 p2 r1 r2 w1 w2;have hsz:its.toArray.size=ds.length:=by simp only[M8];omega
    have S4:its2.toArray.size=es.length:=by simp only[M8];omega
    have rc:RcAt A s (.ref a) (.ref b) (dC (.lst ds) (.lst es))/\RcNeAt A s (.ref a) (.ref b) (!dC (.lst ds) (.lst es)):=by
     rw[GW]
     by_cases hl:ds.length=es.length
     ·have rc:=RcAt.lists (A:=A) t1.isList t2.isList (by walk_at "o") hu0 he
      have rn:=RcNeAt.lists (A:=A) t1.isList t2.isList (by walk_at "o") hu0 he
      have e:=xW (ds:=ds) (es:=es) its.toArray.size (by walk_at "o")
      rw[hl,beq_self_eq_true,Bool.and_true]at e;rw[e]at rc rn;exact⟨rc,rn⟩
     ·rw[bo (by intro z;cases z;exact hl rfl)]
      exact⟨RcAt.lists_lengths t1.isList t2.isList (by rw[hsz,S4];simpa using hl) hu0,RcNeAt.lists_lengths t1.isList t2.isList (by rw[hsz,S4];simpa using hl) hu0⟩
    refine⟨?_,rc.1,rc.2⟩
    by_cases hab:a=b
    ·subst hab;have:D.lst ds=D.lst es:=D6 I (n+1) (v:=.ref a) px py (qd s1 r1) (qd s2 r2);rw[this,a_];exact Rf _
    ·exact EqAt.of_refs hab rc.1
end
end L3
namespace L2
open PySem PySem.Spec PyProof.Rows
def pA(cs:List Nat)(lo hi:Option Int):List Nat:=(cs.drop (HT.sIx cs.length 0 lo)).take (HT.sIx cs.length cs.length hi - HT.sIx cs.length 0 lo)
theorem Es(cs:Array Nat)(i k:Nat):(List.range k).filterMap (fun m=>cs[i+m]?)=(cs.toList.drop i).take k:=by
 induction k generalizing i with
 | zero=>simp
 | succ k ih=>
  rw[List.range_succ_eq_map,Og,List.filterMap_map];have e:(fun m=>cs[i+m]?) ∘ Nat.succ=fun m=>cs[(i+1)+m]?:=by funext m;simp[Nat.succ_eq_add_one];congr 1;omega
  rw[e,ih (i+1)];cases h:cs.toList.drop i with
  | nil=>
   have hl:cs.toList.length<=i:=List.drop_eq_nil_iff.mp h;have h1:cs[i+0]?=none:=by simp at hl;simp[hl]
   have h2:cs.toList.drop (i+1)=[]:=List.drop_eq_nil_iff.mpr (by walk_at "o")
   rw[h1,h2];simp
  | cons c r=>
   have hlt:i < cs.toList.length:=by
    refine Nat.lt_of_not_le fun hle=>?_;rw[List.drop_eq_nil_iff.mpr hle]at h;cases h
   have h0:=List.drop_eq_getElem_cons hlt;rw[h]at h0;cases h0;have h1:cs[i+0]?=some cs.toList[i]:=by simp at hlt;simp[hlt]
   rw[h1,List.take_succ_cons]
theorem zW(n:Nat)(o:Option Int)(d:Nat)(hd:d<=n):(match o with
  | none=>(d:Int)
  | some i=>max 0 (min (if i < 0 then i+(n:Int)else i) (n:Int)))=((HT.sIx n d o:Nat):Int):=by
 cases o with
 | none=>rfl
 | some i=>
  simp only[HT.sIx]
  by_cases h:i < 0
  ·simp only[h,if_true];omega
  ·simp only[h,if_false];omega
theorem um(lo hi:Option Int)(n:Nat):Om lo hi 1 n=(List.range (HT.sIx n n hi - HT.sIx n 0 lo)).map fun m=>HT.sIx n 0 lo+m:=by
 have h1:=zW n lo 0 (N0 _);have h2:=zW n hi n (le_refl _);have e:Om lo hi 1 n=R5 ((HT.sIx n 0 lo:Nat):Int) ((HT.sIx n n hi:Nat):Int) 1:=by
  rw[<- h1,<- h2];unfold Om;cases lo<;>cases hi<;>simp
 rw[e];unfold R5;simp only[show (1:Int) > 0 by decide,if_true]
 have c:(if ((HT.sIx n 0 lo:Nat):Int) < ((HT.sIx n n hi:Nat):Int)then (((HT.sIx n n hi:Nat):Int) - ((HT.sIx n 0 lo:Nat):Int)+1 - 1) / 1 else 0).toNat=HT.sIx n n hi - HT.sIx n 0 lo:=by
  rw[Int.ediv_one];split<;>omega
 rw[c];refine Ot fun k _=>?_;omega
theorem uG(cs:List Nat)(lo hi:Option Int):(pA cs lo hi).length<=cs.length:=by
 unfold pA;rw[NQ,PJ];omega
theorem Ck(x:Str)(lo hi:Option Int):Txt.slice x lo hi=⟨(pA x.cps.toList lo hi).toArray⟩:=by
 have hn:x.length=x.cps.toList.length:=by simp[Qu]
 have key:(Om lo hi 1 x.length).filterMap (x.cps[·]?)=pA x.cps.toList lo hi:=by
  rw[um,List.filterMap_map];unfold pA;rw[<- hn,<- Es];rfl
 unfold Txt.slice;split
 ·rename_i h;rw[Bool.and_eq_true]at h;have hl:(Om lo hi 1 x.length).length=x.length:=by simpa using h.2
  rw[um,MY,List.length_range]at hl;have b1:HT.sIx x.length x.length hi<=x.length:=HT.sIx_le _ _ (le_refl _) _;have h0:HT.sIx x.length 0 lo=0\/x.length=0:=by walk_at "o"
  have e:pA x.cps.toList lo hi=x.cps.toList:=by
   unfold pA;rw[<- hn];rcases h0 with h0|h0
   ·have h3:HT.sIx x.length x.length hi=x.length:=by walk_at "o"
    rw[h0,h3,QG,Qy,hn,NB]
   ·have:x.cps.toList=[]:=length_eq_zero_iff.mp (by walk_at "o")
    rw[this];simp
  rw[e]
 ·rw[key]
section
variable{X:Cx}
def yZ(x:Str)(k:Nat):Str:=⟨(List.replicate k x.cps.toList).flatten.toArray⟩
theorem qC(x:Array Nat):∀ (k:Nat) (acc:List Nat),(List.replicate k x).foldl (· ++ ·) acc.toArray=(acc ++ (List.replicate k x.toList).flatten).toArray
 | 0,acc=>by simp
 | k+1,acc=>by
  rw[List.replicate_succ,P6,List.replicate_succ,List.flatten_cons];have:acc.toArray ++ x=(acc ++ x.toList).toArray:=by simp
  rw[this,qC x k];simp
theorem AM:gf X (Oh .Mult) (fun x y H Q=>∃ z n,x=.str z/\y=.int n/\-(2 ^ 63)<=n/\n < 2 ^ 63/\z.length*n.toNat<=M1/\Q (.str (yZ z n.toNat)) H):=by
 intro pins s σ H x y v u Q I rx ry h;obtain⟨z,n,rfl,rfl,h1,h2,hl,q⟩:=h;obtain⟨t,rfl⟩:=rx;obtain⟨t',rfl⟩:=ry;have hn:=lD;have len_rep:(yZ z n.toNat).length=z.length*n.toNat:=by
  simp[yZ,Qu,Nat.mul_comm]
 have bound:¬ n < 1->(z.length:Int)<=(2 ^ 63 - 1) / n:=fun h=>by
  rw[Int.le_ediv_iff_mul_le (by walk_at "o")]
  have e:(z.length:Int)*n=((z.length*n.toNat:Nat):Int):=by
   rw[Int.natCast_mul,Int.toNat_of_nonneg (by walk_at "o")]
  rw[e];omega
 refine PySem.P.mul_str (by rw[decide_eq_false (by walk_at "o"),decide_eq_false (by walk_at "o")];rfl) (fun h _=>by have:=bound h;omega) (fun h _=>?_) ?_
 ·unfold Builtin.Str.tooLong;exact decide_eq_false (by walk_at "o")
 ·have fin:∀ tk s',Inv X pins σ H s'->∀ w,w=yZ z n.toNat->EP X pins σ Q (.str w tk) s':=fun tk s' I' w e=>⟨.str (yZ z n.toNat),H,I',⟨tk,by rw[e]⟩,q⟩
  split
  ·rename_i hlt;have:n.toNat=0:=by walk_at "o"
   exact⟨by decide,fin _ _ (I.tok _) _ (by rw[this];rfl)⟩
  ·split
   ·rename_i hlt he;refine fin _ _ I _ ?_;rw[Bool.or_eq_true]at he;rcases he with he|he
    ·have:n=1:=by simpa using he
     subst this;simp[yZ]
    ·have hz:z.length=0:=by simpa using he
     have hz':z.cps=#[]:=Array.eq_empty_of_size_eq_zero hz;cases z;simp only at hz';subst hz';simp[yZ]
   ·refine⟨?_,fin _ _ (I.tok _) _ ?_⟩
    ·show (⟨_⟩:Str).length<=M1;have e:=qC z.cps n.toNat [];simp only[Ph]at e;rw[show (#[]:Array Nat)=[].toArray from rfl,e]
     exact le_trans (Qf len_rep) hl
    ·have e:=qC z.cps n.toNat [];simp only[Ph]at e;rw[show (#[]:Array Nat)=[].toArray from rfl,e]
     rfl
theorem Io:Dn X (fun x lo hi H Q=>∃ z,x=.str z/\z.length<=M1/\Q (.str ⟨(pA z.cps.toList lo hi).toArray⟩) H):=by
 intro pins s σ H x v vl vu lo hi sl Q I rx hs pl pu h;obtain⟨z,rfl,hz,q⟩:=h;obtain⟨t,rfl⟩:=rx;refine⟨"str",_,PySem.F.slot_str_getitem.lookup,R1 _ _ _,?_⟩;have part:∀ {v:MS} {o:Option Int},Qv v o->∃ p:Option (Int×Tok),v=partValue p/\p.map (·.1)=o:=by
  intro v o h;cases h with
  | none=>exact⟨none,rfl,rfl⟩
  | int i t=>exact⟨some (i,t),rfl,rfl⟩
 obtain⟨pl',e1,f1⟩:=part pl;obtain⟨pu',e2,f2⟩:=part pu;subst e1 e2;refine wpAny_getItem_str_slice (l:=pl') (u:=pu') (st:=none) ?_ rfl ?_
 ·obtain⟨o,a,b,c⟩:=hs;exact⟨o,a,b,c⟩
 ·unfold sliceMade;subst f1 f2;have e:(if (((none:Option (Int×Tok)).map (·.1)).getD 1 == 1 && (slicePicked z pl' pu' none).length == z.length)=true then z else ⟨((slicePicked z pl' pu' none).filterMap (z.cps[·]?)).toArray⟩)=(⟨(pA z.cps.toList (pl'.map (·.1)) (pu'.map (·.1))).toArray⟩:Str):=by
   rw[<- Ck];rfl
  refine post_val_or_str ⟨?_,fun t' k=>?_⟩
  ·rw[e];show (pA z.cps.toList (pl'.map (·.1)) (pu'.map (·.1))).toArray.size<=M1
   rw[M8];refine le_trans (uG _ _ _) ?_
   simpa[Qu]using hz
  ·rw[e];exact⟨.str _,H,I.tok k,⟨t',rfl⟩,q⟩
end
end L2
namespace L3
open PySem PySem.Spec PyProof.Rows L2
def iF(K:Po)(r3:R3):R2:=fun v u H Q=>∃ x y G Q3,RD K H x v/\RD K H y u/\RG K H G/\r3 x y G Q3/\r_ K G H Q3 Q
def cF(r:R3)(ta tb:aV):aV:=fun σ G Q=>ta σ G fun x G1=>tb σ G1 fun y G2=>r (val x) (val y) G2 Q
section
variable{X:Cx}{a b c:Nh}{ta tb tc:aV}{pos:Pos}{r:R3}
theorem JX{K:Po}{Q:VK}{τ:St}{H:Hp}(h:aA K (cF r ta tb) τ H Q):JN (iF K r) (tW K ta) (tW K tb) τ H Q:=by
 obtain⟨σ,G,Q3,rs,rg,h,k⟩:=h;refine⟨σ,G,_,rs,rg,h,fun x G1 v H1 h1 k1 rg1 re1=>⟨σ,G1,_,rs.mono (k1.stb rg),rg1,h1,fun y G2 u H2 h2 k2 rg2 re2=>?_⟩⟩;exact⟨val x,val y,G2,Q3,RD.mono (k2.stb rg1) _ _ re1,re2,rg2,h2,k.base (k1.trans k2)⟩
theorem EG(ho:gf X (Nr op) (iF X.K r))(ha:PE X a (aA X.K ta))(hb:PE X b (aA X.K tb))(hm:NW op b=false):PE X (.Compare a [op] [b] pos) (aA X.K (cF r ta tb)):=
 (Gk ho (c7 ha) (c7 hb) hm).imp fun _ _ _ h=>JX h
theorem bF(ho:gf X (Nr op) (iF X.K r))(ha:PE X a (aA X.K ta))(hb:PE X b (aA X.K tb))(hm:NW op b=false):PT X (.Compare a [op] [b] pos) (b8 X.K (br (cF r ta tb))):=
 (wZ ho (c7 ha) (c7 hb) hm).imp fun _ _ _ h=>JX (wH h)
def xr:R3:=fun x y G Q=>match x,y with
 | .bl a,.bl b=>Q (.bl (a == b)) G
 | x,y=>pl 8 x/\pl 8 y/\Q (.bl (dC x y)) G
def xq:R3:=fun x y G Q=>match x,y with
 | .bl a,.bl b=>Q (.bl (!(a == b))) G
 | x,y=>pl 8 x/\pl 8 y/\Q (.bl (!dC x y)) G
theorem pL(hu:X.A.units+8 < NF):gf X (Nr .Eq) (iF X.K xr):=by
 rintro pins s σ H v u v' u' Q I rv ru ⟨x,y,G,Q3,rx,ry,rg,h,k⟩
 unfold xr at h;split at h
 ·rename_i a b;simp only[RD]at rx ry;subst rx ry;cases rv;cases ru;exact SeqAt.RcAt.bool_bool a b X.prog X.w X.xe _ ⟨.bl (a == b),H,I,rfl,k _ G _ H h Kp.refl rg (.of ff)⟩
 ·obtain⟨p1,p2,q⟩:=h;exact (zV I 8 p1 p2 rx ry rv ru hu).rc X.prog X.w X.xe _ ⟨.bl _,H,I,rfl,k _ G _ H q Kp.refl rg (.of ff)⟩
theorem sA(hu:X.A.units+8 < NF):gf X (Nr .NotEq) (iF X.K xq):=by
 rintro pins s σ H v u v' u' Q I rv ru ⟨x,y,G,Q3,rx,ry,rg,h,k⟩
 unfold xq at h;split at h
 ·rename_i a b;simp only[RD]at rx ry;subst rx ry;cases rv;cases ru;exact SeqAt.RcNeAt.bool_bool a b X.prog X.w X.xe _ ⟨.bl (!(a == b)),H,I,rfl,k _ G _ H h Kp.refl rg (.of ff)⟩
 ·obtain⟨p1,p2,q⟩:=h;exact (zV I 8 p1 p2 rx ry rv ru hu).ne X.prog X.w X.xe _ ⟨.bl _,H,I,rfl,k _ G _ H q Kp.refl rg (.of ff)⟩
abbrev cG:=List D->Gp->jh->Prop
def b9(K:Po)(sp:cG):Sp:=fun vs H Q _=>∃ ds G Q3,RDs K H ds vs/\RG K H G/\sp ds G Q3/\r_ K G H Q3 Q
def b7(N:List Str)(ds:List D):dO:=ds.map some ++ List.replicate (N.length - ds.length) none
theorem yU{K:Po}{H:Hp}{N:List Str}{ds:List D}{vs:List V}(r:RDs K H ds vs):RS K H (b7 N ds) (L2.start N vs):=by
 unfold b7 L2.start;have hl:=r.length;rw[hl];have rep:∀ n:Nat,PP (Do K H) (List.replicate n none) (List.replicate n none):=fun n=>by
  induction n with
  | zero=>exact .nil
  | succ n ih=>exact .cons (show Do K H none none from trivial) ih
 have go:∀ {ds:List D} {vs:List V} {σ:dO} {τ:St},RDs K H ds vs->PP (Do K H) σ τ->PP (Do K H) (ds.map some ++ σ) (vs.map some ++ τ):=by
  intro ds
  induction ds with
  | nil=>intro vs σ τ r q;rw[r.inv_nil];exact q
  | cons d t ih=>
   intro vs σ τ r q;obtain⟨x,xs,e,h1,h2⟩:=r.inv_cons;subst e;exact .cons (show Do K H (some d) (some x)from h1) (ih h2 q)
 exact go r (rep _)
variable{P:M9}{w:Ng}{K:Po}{mg:Str->Option MS}{base:Nf}
structure Fn3(P:M9)(w:Ng)(K:Po)(mg:Str->Option MS)(base:Nf)(k:Nat)(x:Str)(dds:List D)(sp:cG):Prop where
 ex:∃ f fd ps ds dvs,FnOk P w K mg base pJ k f fd ps (b9 K sp)/\mg x=some (.ref f)/\Ro K (.ref f)=true/\eJ K fd ps ds/\Vals dvs ds/\∀ H,RDs K H dds dvs
structure Mt3(P:M9)(w:Ng)(K:Po)(mg:Str->Option MS)(base:Nf)(k:Nat)(C:MT)(m:Str)(dds:List D)(sp:cG):Prop where
 cl:Cls K C
 ex:∃ f fd ps ds dvs,FnOk P w K mg base pJ k f fd ps (b9 K sp)/\Meth K C m f/\eJ K fd ps ds/\Vals dvs ds/\∀ H,RDs K H dds dvs
structure Mk3(P:M9)(w:Ng)(K:Po)(mg:Str->Option MS)(base:Nf)(k:Nat)(x:Str)(C:MT)(dds:List D)(sp:cG):Prop where
 ex:∃ f fd ps ds dvs,Mk K C f/\mg x=some (.ref C)/\FnOk P w K mg base pJ k f fd ps (b9 K sp)/\eJ K fd ps ds/\Vals dvs ds/\∀ H,RDs K H dds dvs
def aJ(sp:cG)(dds:List D)(ta:kK):aV:=fun σ G Q=>ta σ G fun ds G1=>sp (ds ++ dds) G1 Q
def bY(C:MT)(L:List Str)(sp:cG)(dds:List D)(to:aV)(ta:kK):aV:=fun σ G Q=>to σ G fun x G1=>match x with
 | .ref a=>match G1 a with
  | some (.ins C' L' _)=>(C'=C/\L'=L)/\ta σ G1 fun ds G2=>sp (.ref a::(ds ++ dds)) G2 Q
  | _=>False
 | _=>False
def lL(C:MT)(sp:cG)(dds:List D)(ta:kK):aV:=fun σ G Q=>ta σ G fun ds G1=>∀ a,G1 a=none->sp (.ref a::(ds ++ dds)) (gset G1 a (.ins C [] [])) fun d G2=>d=.non/\Q (.ref a) G2
variable{e o:Nh}{es:List Nh}{t:kK}{te to:aV}{k:Nat}{x m:Str}{p apos:Pos}{dds:List D}{sp:cG}{C:MT}
theorem Di{Q:VK}{τ:St}{H:Hp}{dvs:List V}(hd:∀ H,RDs K H dds dvs)(h:aA K (aJ sp dds t) τ H Q)(E:XK):Hy (b9 K sp) dvs E (dN K t) τ H Q:=by
 obtain⟨σ,G,Q3,rs,rg,h,kk⟩:=h;exact⟨σ,G,_,rs,rg,h,fun ds G1 vs H1 q k1 rg1 rds=>⟨ds ++ dds,G1,Q3,rds.append (hd H1),rg1,q,kk.base k1⟩⟩
theorem aL(F:Fn3 X.prog X.w X.K X.mg X.base k x dds sp)(hr:Room k X.A)(hg:Gl X x)(ha:PA X (e::es) (dN X.K t))(hdb:(x == ("__debug__":Str))=false:=by decide)(he:M5 (e::es) X.env=(false,eval e X.env)::M5 es X.env:=by rfl)(hpl:(NZ pos (M5 es X.env)).any (·.1)=false:=by rfl):PE X (.Call (.Name x p) (e::es) [] pos) (aA X.K (aJ sp dds t)):=by
 obtain⟨f,fd,ps,ds,dvs,ok,hm,hk,hb,hv,hd⟩:=F.ex;exact (Gm ok hr hg hm hk hb hv v5 ha hdb he hpl).imp fun _ _ _ h=>Di hd h E0
theorem gV{K:Po}{gs:List (Str×V)}{L:List Str}{m:Str}(h:gs.map (·.1)=L)(n:m∉L):gs.lookup m=none:=by
 subst h
 induction gs with
 | nil=>rfl
 | cons g r ih=>
  obtain⟨y,v⟩:=g;rw[Nk,NH,not_or]at n;rw[On,show (m == y)=false by simpa using n.1]
  exact ih n.2
theorem CK{Q:VK}{τ:St}{H:Hp}{dvs:List V}{L:List Str}(hL:m∉L)(hd:∀ H,RDs K H dds dvs)(h:aA K (bY C L sp dds to t) τ H Q)(E:XK):DM C m (b9 K sp) dvs E (aA K to) (dN K t) τ H Q:=by
 obtain⟨σ,G,Q3,rs,rg,h,kk⟩:=h;refine⟨σ,G,_,rs,rg,h,fun d G1 v H1 q k1 rg1 re=>?_⟩;cases d with
 | ref a=>
  dsimp only at q;split at q
  ·rename_i C' L' ds hg;obtain⟨⟨rfl,rfl⟩,q⟩:=q;obtain⟨ho,e1,ro⟩:=rg1 a _ hg;cases ho with
   | ins C2 dx gs=>
    obtain⟨rfl,r2,r3⟩:=ro;refine⟨a,dx,gs,re.ref,e1,gV (K:=K) r2 hL,σ,G1,_,rs.mono (k1.stb rg),rg1,q,fun ds' G2 vs H2 q2 k2 rg2 rds=>?_⟩;rw[re.ref];exact⟨.ref a::(ds' ++ dds),G2,Q3,RDs.cons eT (rds.append (hd H2)),rg2,q2,kk.base (k1.trans k2)⟩
   | _=>exact ro.elim
  ·exact q.elim
 | _=>exact q.elim
theorem eE{pl:Sem Bool}{L:List Str}(F:Mt3 X.prog X.w X.K X.mg X.base k C m dds sp)(hL:m∉L)(hr:Room k X.A)(ho:PE X o (aA X.K to))(ha:PA X (e::es) (dN X.K t))
  (hst:M5 (e::es) X.env=(false,eval e X.env)::M5 es X.env:=by rfl) (hpl:(NZ pos (M5 es X.env)).any (·.1)=false:=by rfl)
  (ht:eval (.Call (.Attribute o m apos) (e::es) [] pos) X.env=(do
   let ov <- eval o X.env
   O2 apos.atName
   let (f,first) <- holding [ov] (OW ov m pl)
   Pw pos f first (NZ pos (M5 (e::es) X.env)) (O0 pos (Oo [] X.env))):=by rfl):
  PE X (.Call (.Attribute o m apos) (e::es) [] pos) (aA X.K (bY C L sp dds to t)):=by
 obtain⟨f,fd,ps,ds,dvs,ok,hm,hb,hv,hd⟩:=F.ex;exact (xk ho F.cl hm ok hr hb hv v5 ha hst hpl ht).imp fun _ _ _ h=>CK hL hd h E0
theorem dA{pl:Sem Bool}{L:List Str}(F:Mt3 X.prog X.w X.K X.mg X.base k C m dds sp)(hL:m∉L)(hr:Room k X.A)(ho:PE X o (aA X.K to))
  (ht:eval (.Call (.Attribute o m apos) [] [] pos) X.env=(do
   let ov <- eval o X.env
   O2 apos.atName
   let (f,first) <- holding [ov] (OW ov m pl)
   Pw pos f first (NZ pos (M5 [] X.env)) (O0 pos (Oo [] X.env))):=by rfl):
  PE X (.Call (.Attribute o m apos) [] [] pos) (aA X.K (bY C L sp dds to av)):=by
 obtain⟨f,fd,ps,ds,dvs,ok,hm,hb,hv,hd⟩:=F.ex;refine (Ez ho F.cl hm ok hr hb hv v5 ht).imp fun τ H Q h=>?_;obtain⟨σ,G,Q3,rs,rg,h,kk⟩:=h;refine⟨σ,G,_,rs,rg,h,fun d G1 v H1 q k1 rg1 re=>?_⟩;cases d with
 | ref a=>
  dsimp only at q;split at q
  ·rename_i C' L' ds hg;obtain⟨⟨rfl,rfl⟩,q⟩:=q;obtain⟨ho,e1,ro⟩:=rg1 a _ hg;cases ho with
   | ins C2 dx gs=>
    obtain⟨rfl,r2,r3⟩:=ro;refine⟨a,dx,gs,re.ref,e1,gV (K:=X.K) r2 hL,?_⟩;rw[re.ref];exact⟨.ref a::([] ++ dds),G1,Q3,RDs.cons eT (hd H1),rg1,q,kk.base k1⟩
   | _=>exact ro.elim
  ·exact q.elim
 | _=>exact q.elim
theorem CL{Q:VK}{τ:St}{H:Hp}{dvs:List V}(hd:∀ H,RDs K H dds dvs)(h:aA K (lL C sp dds t) τ H Q)(E:XK):Hx C (b9 K sp) dvs E (dN K t) τ H Q:=by
 obtain⟨σ,G,Q3,rs,rg,h,kk⟩:=h;refine⟨σ,G,_,rs,rg,h,fun ds G1 vs H1 q k1 rg1 rds a dx na nd ne=>?_⟩;have kd:Kp G1 H1 G1 (aR H1 dx (.own a)):=Kp.laid nd;have rgd:RG K (aR H1 dx (.own a)) G1:=rg1.laid nd;have na':aR H1 dx (.own a) a=none:=by rw[ar (Ne.symm ne)];exact na
 have ka:Kp G1 H1 (gset G1 a (.ins C [] [])) (aR (aR H1 dx (.own a)) a (.ins C dx [])):=fun b h' e n=>by
  have:b≠a:=bH e na;exact⟨by rw[ar this,ar (bH e nd)];exact e,by rw[ai this];exact n⟩
 have st:Stb K H1 (aR (aR H1 dx (.own a)) a (.ins C dx [])):=ka.stb rg1;have rga:RG K (aR (aR H1 dx (.own a)) a (.ins C dx [])) (gset G1 a (.ins C [] [])):=fun b o q=>by
  by_cases hb:b=a
  ·subst hb;rw[ax]at q;cases q;exact⟨_,aF,rfl,rfl,RDs.nil⟩
  ·rw[ai hb]at q;obtain⟨h',e1,r⟩:=rg1 b o q;exact⟨h',by rw[ar hb,ar (bH e1 nd)];exact e1,r.mono st⟩
 refine⟨.ref a::(ds ++ dds),_,_,RDs.cons eT (RDs.append (RDs.mono st _ _ rds) (hd _)),rga,q a (rg1.free na),fun d G2 v H2 q2 k2 rg2 re=>?_⟩;obtain⟨rfl,q2⟩:=q2;exact⟨re.non,kk _ G2 _ H2 q2 (k1.trans (ka.trans k2)) rg2 (.of eT)⟩
theorem lu(F:Mk3 X.prog X.w X.K X.mg X.base k x C dds sp)(hr:Room (k+1) X.A)(hg:Gl X x)(ha:PA X (e::es) (dN X.K t))(hdb:(x == ("__debug__":Str))=false:=by decide)(he:M5 (e::es) X.env=(false,eval e X.env)::M5 es X.env:=by rfl)(hpl:(NZ pos (M5 es X.env)).any (·.1)=false:=by rfl):PE X (.Call (.Name x p) (e::es) [] pos) (aA X.K (lL C sp dds t)):=by
 obtain⟨f,fd,ps,ds,dvs,M,hm,ok,hb,hv,hd⟩:=F.ex;exact (Gj M ok hr hg hm hb hv v5 ha hdb he hpl).imp fun _ _ _ h=>CL hd h E0
def ij(C:MT)(L:List Str)(i:Nat)(to:aV):aV:=fun σ G Q=>to σ G fun x G1=>match x with
 | .ref a=>match G1 a with
  | some (.ins C' L' ds)=>(C'=C/\L'=L)/\match ds[i]? with
   | some d=>Q d G1
   | none=>False
  | _=>False
 | _=>False
def vJ(L:List Str)(f:Str)(i:Nat):Prop:=L[i]?=some f/\∀ j,j < i->L[j]?≠some f
theorem BU:∀ {gs:List (Str×V)} {f:Str} {i:Nat} {v:V},vJ (gs.map (·.1)) f i->(gs.map (·.2))[i]?=some v->gs.lookup f=some v
 | [],f,i,v,h,e=>by simp at e
 | (g,u)::r,f,0,v,h,e=>by
  have:g=f:=by simpa using h.1
  subst this;simp at e;subst e;rw[On,beq_self_eq_true]
 | (g,u)::r,f,i+1,v,h,e=>by
  have ne:g≠f:=fun z=>h.2 0 (Nat.succ_pos _) (by simp[z])
  rw[On,show (f == g)=false by simpa using Ne.symm ne]
  exact BU (i:=i) ⟨by simpa using h.1,fun j hj z=>h.2 (j+1) (Nat.succ_lt_succ hj) (by simpa using z)⟩ (by simpa using e)
theorem Ee:∀ {gs:List (Str×V)} {f:Str} {i:Nat} (v:V),vJ (gs.map (·.1)) f i->(fh f v gs).map (·.1)=gs.map (·.1)/\(fh f v gs).map (·.2)=(gs.map (·.2)).set i v
 | [],f,i,v,h=>by have:=h.1;simp at this
 | (g,u)::r,f,0,v,h=>by
  have:g=f:=by simpa using h.1
  subst this;simp[fh]
 | (g,u)::r,f,i+1,v,h=>by
  have ne:g≠f:=fun z=>h.2 0 (Nat.succ_pos _) (by simp[z])
  have ih:=Ee (gs:=r) (i:=i) v ⟨by simpa using h.1,fun j hj z=>h.2 (j+1) (Nat.succ_lt_succ hj) (by simpa using z)⟩
  simp only[fh,if_neg ne,Nk,NI,ih.1,ih.2,and_self]
theorem put_new:∀ {gs:List (Str×V)} {f:Str} (v:V),f∉gs.map (·.1)->fh f v gs=gs ++ [(f,v)]
 | [],f,v,h=>rfl
 | (g,u)::r,f,v,h=>by
  rw[Nk,NH,not_or]at h;simp only[fh,if_neg (Ne.symm h.1),put_new v h.2,O9]
theorem e7(cl:Cls X.K C)(na:cH X.K C f)(hi:vJ L f i)(ho:PE X o (aA X.K to))(hb:Op o f X.env (eval o X.env)=eval o X.env:=by rfl):PE X (.Attribute o f pos) (aA X.K (ij C L i to)):=
 (EA ho hb).imp fun τ H Q zz=>by
 obtain⟨σ,G,Q3,rs,rg,h,kk⟩:=zz;exact (
  ⟨σ,G,_,rs,rg,h,fun d G1 v H1 q k1 rg1 re=>by
    cases d with
    | ref a=>
     dsimp only at q;split at q
     ·rename_i C' L' ds hg;obtain⟨⟨rfl,rfl⟩,q⟩:=q;split at q
      ·rename_i d hd;obtain⟨ho,e1,ro⟩:=rg1 a _ hg;cases ho with
       | ins C2 dx gs=>
        obtain⟨rfl,r2,r3⟩:=ro;subst r2;obtain⟨w,hw,rd⟩:=r3.get hd;exact⟨a,_,dx,gs,w,re.ref,e1,cl,na,BU hi hw,kk _ G1 _ H1 q k1 rg1 (.of rd)⟩
       | _=>exact ro.elim
      ·exact q.elim
     ·exact q.elim
    | _=>exact q.elim⟩)
def BC(C:MT)(L:List Str)(i:Nat)(to tv:aV):bc:=fun D σ G=>tv σ G fun d G1=>to σ G1 fun x G2=>match x with
 | .ref a=>match G2 a with
  | some (.ins C' L' ds)=>(C'=C/\L'=L)/\D.nx σ (gset G2 a (.ins C L (ds.set i (val d))))
  | _=>False
 | _=>False
def sR(C:MT)(L:List Str)(f:Str)(to tv:aV):bc:=fun D σ G=>tv σ G fun d G1=>to σ G1 fun x G2=>match x with
 | .ref a=>match G2 a with
  | some (.ins C' L' ds)=>(C'=C/\L'=L)/\D.nx σ (gset G2 a (.ins C (L ++ [f]) (ds ++ [val d])))
  | _=>False
 | _=>False
theorem AF{H:Hp}{G:Gp}{a:MT}{C2 dx:MT}{gs gs':List (Str×V)}{L':List Str}{ds':List D}(rg:RG K H G)(e1:H a=some (.ins C2 dx gs))(r1:gs'.map (·.1)=L')(r2:RDs K H ds' (gs'.map (·.2)))(hg:G a≠none):
  Kp G H (gset G a (.ins C2 L' ds')) (aR H a (.ins C2 dx gs'))/\RG K (aR H a (.ins C2 dx gs')) (gset G a (.ins C2 L' ds')):=by
 have kp:Kp G H (gset G a (.ins C2 L' ds')) (aR H a (.ins C2 dx gs')):=fun b h e n=>by
  have:b≠a:=fun z=>by subst z;exact hg n
  exact⟨by rw[ar this];exact e,by rw[ai this];exact n⟩
 have st:=kp.stb rg;refine⟨kp,fun b o q=>?_⟩
 by_cases hb:b=a
 ·subst hb;rw[ax]at q;cases q;exact⟨_,aF,rfl,r1,RDs.mono st _ _ r2⟩
 ·rw[ai hb]at q;obtain⟨h',e2,r⟩:=rg b o q;exact⟨h',by rw[ar hb];exact e2,r.mono st⟩
theorem Ke(cl:Cls X.K C)(na:cH X.K C f)(hi:vJ L f i)(hl:L.length < 1000)(ho:PE X o (aA X.K to))(hv:PE X e (aA X.K te))(hs:Ob e (some (.Attribute o f pos')) pos.line X.env=pure false:=by rfl):
  PS X (.Assign [.Attribute o f pos'] e pos) (bN X.K (BC C L i to te)):=
 (AH ho (c7 hv) hs).imp fun D τ H zz=>by
 obtain⟨σ,G,D3,rs,rg,h,kk⟩:=zz;exact (
  ⟨σ,G,_,rs,rg,h,fun d G1 v H1 q1 k1 rg1 rd=>⟨σ,G1,_,rs.mono (k1.stb rg),rg1,q1,fun x G2 u H2 q2 k2 rg2 re=>by
    cases x with
    | ref a=>
     dsimp only at q2;split at q2
     ·rename_i C' L' ds hg;obtain⟨⟨rfl,rfl⟩,q2⟩:=q2;obtain⟨ho,e1,ro⟩:=rg2 a _ hg;cases ho with
      | ins C2 dx gs=>
       obtain⟨rfl,r2,r3⟩:=ro;subst r2;obtain⟨p1,p2⟩:=Ee (gs:=gs) v hi;have rd2:=RD.mono (k2.stb rg1) _ _ rd;obtain⟨kp,rg3⟩:=AF (gs':=fh f v gs) (L':=gs.map (·.1)) (ds':=ds.set i (val d)) rg2 e1 p1 (by rw[p2];exact r3.set i rd2) (by rw[hg];exact fun z=>nomatch z)
       exact⟨a,_,dx,gs,re.ref,e1,cl,na,by simpa using hl,kk.nx _ _ _ _ q2 ((k1.trans k2).trans kp) rg3 (rs.mono ((((k1.trans k2).trans kp)).stb rg))⟩
      | _=>exact ro.elim
     ·exact q2.elim
    | _=>exact q2.elim⟩⟩)
theorem tG(cl:Cls X.K C)(na:cH X.K C f)(hi:f∉L)(hl:L.length < 1000)(ho:PE X o (aA X.K to))(hv:PE X e (aA X.K te))(hs:Ob e (some (.Attribute o f pos')) pos.line X.env=pure false:=by rfl):
  PS X (.Assign [.Attribute o f pos'] e pos) (bN X.K (sR C L f to te)):=
 (AH ho (c7 hv) hs).imp fun D τ H zz=>by
 obtain⟨σ,G,D3,rs,rg,h,kk⟩:=zz;exact (
  ⟨σ,G,_,rs,rg,h,fun d G1 v H1 q1 k1 rg1 rd=>⟨σ,G1,_,rs.mono (k1.stb rg),rg1,q1,fun x G2 u H2 q2 k2 rg2 re=>by
    cases x with
    | ref a=>
     dsimp only at q2;split at q2
     ·rename_i C' L' ds hg;obtain⟨⟨rfl,rfl⟩,q2⟩:=q2;obtain⟨ho,e1,ro⟩:=rg2 a _ hg;cases ho with
      | ins C2 dx gs=>
       obtain⟨rfl,r2,r3⟩:=ro;subst r2;have rd2:=RD.mono (k2.stb rg1) _ _ rd;obtain⟨kp,rg3⟩:=AF (gs':=fh f v gs) (L':=gs.map (·.1) ++ [f]) (ds':=ds ++ [val d]) rg2 e1 (by rw[put_new v hi];simp) (by rw[put_new v hi,NP];exact r3.append (RDs.cons rd2 RDs.nil)) (by rw[hg];exact fun z=>nomatch z)
       exact⟨a,_,dx,gs,re.ref,e1,cl,na,by simpa using hl,kk.nx _ _ _ _ q2 ((k1.trans k2).trans kp) rg3 (rs.mono ((((k1.trans k2).trans kp)).stb rg))⟩
      | _=>exact ro.elim
     ·exact q2.elim
    | _=>exact q2.elim⟩⟩)
def LO(te:aV)(g:sv):bc:=fun D σ G=>te σ G fun d G'=>g (val d) σ G' D.nx
abbrev Bk:=List D->Gp->jh->Prop
def mW(K:Po)(r3:Bk):List V->Hp->VK->Prop:=fun vs H Q=>∃ ds G Q3,RDs K H ds vs/\RG K H G/\r3 ds G Q3/\r_ K G H Q3 Q
def eB(r:Bk)(ta:kK):aV:=fun σ G Q=>ta σ G fun ds G1=>r ds G1 Q
variable{id T:String}{r3:Bk}
theorem HR{Q:VK}{τ:St}{H:Hp}(h:aA K (eB r3 t) τ H Q):LK (mW K r3) (dN K t) τ H Q:=by
 obtain⟨σ,G,Q3,rs,rg,h,kk⟩:=h;exact⟨σ,G,_,rs,rg,h,fun ds G1 vs H1 q k1 rg1 rds=>⟨ds,G1,Q3,rds,rg1,q,kk.base k1⟩⟩
theorem bp(hc:d9 X (.builtin id) (mW X.K r3))(hg:Gl X x)(hm:X.mg x=none)(hv:Of x=some (.builtin id))(ha:PA X (e::es) (dN X.K t))(hn:x≠"__name__":=by decide)(hdb:(x == ("__debug__":Str))=false:=by decide)(he:M5 (e::es) X.env=(false,eval e X.env)::M5 es X.env:=by rfl)(hpl:(NZ pos (M5 es X.env)).any (·.1)=false:=by rfl):PE X (.Call (.Name x p) (e::es) [] pos) (aA X.K (eB r3 t)):=
 (ED hc hg hm hv ha hn hdb he hpl).imp fun _ _ _ h=>HR h
theorem tO(hc:d9 X (.type T) (mW X.K r3))(hg:Gl X x)(hm:X.mg x=none)(hv:Of x=some (.type T))(ha:PA X (e::es) (dN X.K t))(hn:x≠"__name__":=by decide)(hdb:(x == ("__debug__":Str))=false:=by decide)(he:M5 (e::es) X.env=(false,eval e X.env)::M5 es X.env:=by rfl)(hpl:(NZ pos (M5 es X.env)).any (·.1)=false:=by rfl):PE X (.Call (.Name x p) (e::es) [] pos) (aA X.K (eB r3 t)):=
 (CF hc hg hm hv ha hn hdb he hpl).imp fun _ _ _ h=>HR h
def pB:Bk:=fun ds G Q=>match ds with
 | [.str z]=>z.length<=M1/\Q (.int z.length) G
 | [d]=>match FE G d with
  | some es=>Q (.int es.length) G
  | none=>False
 | _=>False
theorem fk(r:RDs K H [d] vs):∃ v,vs=[v]/\RD K H d v:=by
 obtain⟨v,t,e,h1,h2⟩:=r.inv_cons;have:=h2.inv_nil;subst this;exact⟨v,e,h1⟩
theorem b_len:d9 X (.builtin "len") (mW X.K pB):=((xO (X:=X)).or (xP (X:=X))).imp fun vs H Q zz=>by
 obtain⟨ds,G,Q3,rds,rg,h,kk⟩:=zz;unfold pB at h;split at h
 ·rename_i z;obtain⟨v,rfl,rd⟩:=fk rds;simp only[RD]at rd;subst rd;exact .inl ⟨z,rfl,h.1,kk _ G _ H h.2 Kp.refl rg (.of eA)⟩
 ·rename_i d _;obtain⟨v,rfl,rd⟩:=fk rds;split at h
  ·rename_i es he;obtain⟨a,xs,rfl,s,r⟩:=uL (G:=G) (H:=H) he (.of rd) rg;exact .inr ⟨a,xs,rfl,s,by rw[<- r.length];exact kk _ G _ H h Kp.refl rg (.of eA)⟩
  ·exact h.elim
 ·exact h.elim
def z9:Bk:=fun ds G Q=>match ds with
 | [d]=>match FE G d with
  | some es=>Q (.fl es) G
  | none=>False
 | _=>False
theorem b_list:d9 X (.type "list") (mW X.K z9):=(xN (X:=X)).imp fun vs H Q zz=>by
 obtain⟨ds,G,Q3,rds,rg,h,kk⟩:=zz;unfold z9 at h;split at h
 ·rename_i d;obtain⟨v,rfl,rd⟩:=fk rds;split at h
  ·rename_i es he;obtain⟨a,xs,rfl,s,r⟩:=uL (G:=G) (H:=H) he (.of rd) rg;exact⟨a,xs,rfl,s,fun p hp=>kk _ G _ _ h (Kp.laid hp) (rg.laid hp) (uz rg hp r)⟩
  ·exact h.elim
 ·exact h.elim
def xR:Bk:=fun ds G Q=>match ds with
 | [d]=>match FE G d with
  | some es=>Q (.tup es) G
  | none=>False
 | _=>False
theorem b_tuple:d9 X (.type "tuple") (mW X.K xR):=(vD (X:=X)).imp fun vs H Q zz=>by
 obtain⟨ds,G,Q3,rds,rg,h,kk⟩:=zz;unfold xR at h;split at h
 ·rename_i d;obtain⟨v,rfl,rd⟩:=fk rds;split at h
  ·rename_i es he;obtain⟨a,xs,rfl,s,r⟩:=uL (G:=G) (H:=H) he (.of rd) rg;refine⟨a,xs,rfl,?_⟩;rcases s with s|s
   ·exact .inl ⟨s,fun p hp=>kk _ G _ _ h (Kp.laid hp) (rg.laid hp) (.of (lT rg hp r))⟩
   ·exact .inr ⟨s,kk _ G _ H h Kp.refl rg (.of (qc s r))⟩
  ·exact h.elim
 ·exact h.elim
def Mb:Bk:=fun ds G Q=>match ds with
 | [d]=>∃ ns:List Int,xV G d=some (ns.map D.int)/\Q (.int ns.sum) G
 | _=>False
def Fw:Bk:=fun ds G Q=>match ds with
 | [.int i,.int j]=>Q (.int (if j < i then j else i)) G
 | _=>False
def Mc:Bk:=fun ds G Q=>match ds with
 | [.int i,.int j]=>Q (.int (if j > i then j else i)) G
 | _=>False
theorem DH(r:RDs K H [.int i,.int j] vs):vs=[.int i,.int j]:=by
 obtain⟨v,t,e,h1,h2⟩:=r.inv_cons;obtain⟨u,e2,h3⟩:=fk h2;simp only[RD]at h1 h3;subst e e2 h1 h3;rfl
theorem b_min(hc:X.calm=true):d9 X (.builtin "min") (mW X.K Fw):=(Dj (X:=X) hc).imp fun vs H Q zz=>by
 obtain⟨ds,G,Q3,rds,rg,h,kk⟩:=zz;unfold Fw at h;split at h
 ·rename_i i j;exact⟨i,j,DH rds,kk _ G _ H h Kp.refl rg (.of eA)⟩
 ·exact h.elim
end
section
variable{X:Cx}
def CH:R3:=fun x y G Q=>match x,y with
 | .int i,.int j=>Hs i j/\Q (.int (i*j)) G
 | .str z,.int n=>(-(2 ^ 63)<=n/\n < 2 ^ 63/\z.length*n.toNat<=M1)/\Q (.str (yZ z n.toNat)) G
 | _,_=>False
theorem Dz:gf X (Oh .Mult) (dh X.K CH):=((IL (X:=X)).or (AM (X:=X))).imp fun v u H Q zz=>by
 obtain⟨x,y,G0,H0,G,Q3,rx,ry,rg,h,k⟩:=zz;unfold CH at h;split at h
 ·rename_i i j;exact .inl ⟨i,j,rx.int,ry.int,h.1,k _ G _ H h.2 Kp.refl rg (.of eA)⟩
 ·rename_i z n;exact .inr ⟨z,n,rx.str,ry.int,h.1.1,h.1.2.1,h.1.2.2,k _ G _ H h.2 Kp.refl rg (.of jt)⟩
 ·exact h.elim
def HA:Ld:=fun x lo hi G Q=>match x with
 | .str z=>z.length<=M1/\Q (.str ⟨(pA z.cps.toList lo hi).toArray⟩) G
 | .tup ds=>¬ (HT.sIx ds.length 0 lo=0/\HT.sIx ds.length ds.length hi=ds.length)/\Q (.tup (cutD ds lo hi)) G
 | x=>match xV G x with
  | some ds=>Q (.fl (cutD ds lo hi)) G
  | none=>False
theorem Dy:Dn X (EU X.K HA):=((Io (X:=X)).or ((Im (X:=X)).or (FU (X:=X)))).imp fun v lo hi H Q zz=>by
 obtain⟨x,G0,H0,G,Q3,rx,rg,h,k⟩:=zz;unfold HA at h;split at h
 ·rename_i z;exact .inl ⟨z,rx.str,h.1,k _ G _ H h.2 Kp.refl rg (.of jt)⟩
 ·rename_i ds;obtain⟨a,xs,rfl,s,r⟩:=rx.tup;refine .inr (.inl ⟨a,xs,rfl,s,by rw[<- r.length];exact h.1,fun p hp=>k _ G _ _ h.2 (Kp.laid hp) (rg.laid hp) (.of (lT rg hp (B2 r lo hi)))⟩)
 ·split at h
  ·rename_i ds hds;obtain⟨a,xs,rfl,s,r⟩:=qI hds rx rg;exact .inr (.inr ⟨a,xs,rfl,s,fun p hp=>k _ G _ _ h (Kp.laid hp) (rg.laid hp) (uz rg hp (B2 r lo hi))⟩)
  ·exact h.elim
def KL(to:aV)(ta:kK):aV:=fun σ G Q=>to σ G fun x G1=>match x with
 | .str z=>ta σ G1 fun ds G2=>match ds with
  | [d]=>∃ ys:List Str,xV G2 d=some (ys.map D.str)/\(ys.map (·.length)).sum+ys.length*z.length<=16777216/\Q (.str (Txt.join z ys)) G2
  | _=>False
 | _=>False
variable{o e:Nh}{es:List Nh}{to te:aV}{t:kK}{apos cpos pos p:Pos}
def jI(to:aV)(ta:kK):aV:=fun σ G Q=>to σ G fun x G1=>match x with
 | .ref a=>(∃ ds,G1 a=some (.lst ds))/\ta σ G1 fun es G2=>match es with
  | [d]=>match G2 a with
   | some (.lst ds)=>ds.length < M1/\Q .non (gset G2 a (.lst (ds ++ [d])))
   | _=>False
  | _=>False
 | _=>False
theorem GK{K:Po}{H:Hp}{G:Gp}{a:MT}{xs ys:List V}{ds':List D}(rg:RG K H G)(e1:H a=some (.lst xs))(r2:RDs K H ds' ys)(hg:G a≠none):
  Kp G H (gset G a (.lst ds')) (aR H a (.lst ys))/\RG K (aR H a (.lst ys)) (gset G a (.lst ds')):=by
 have kp:Kp G H (gset G a (.lst ds')) (aR H a (.lst ys)):=fun b h e n=>by
  have:b≠a:=fun z=>by subst z;exact hg n
  exact⟨by rw[ar this];exact e,by rw[ai this];exact n⟩
 have st:=kp.stb rg;refine⟨kp,fun b o q=>?_⟩
 by_cases hb:b=a
 ·subst hb;rw[ax]at q;cases q;exact⟨_,aF,RDs.mono st _ _ r2⟩
 ·rw[ai hb]at q;obtain⟨h',e2,r⟩:=rg b o q;exact⟨h',by rw[ar hb];exact e2,r.mono st⟩
theorem tV{K:Po}{H:Hp}{G:Gp}{a:MT}{ds:List D}(rg:RG K H G)(e:G a=some (.lst ds)):∃ xs,H a=some (.lst xs)/\RDs K H ds xs:=by
 obtain⟨ho,e1,ro⟩:=rg a _ e;cases ho with
 | lst xs=>exact⟨xs,e1,ro⟩
 | _=>exact ro.elim
theorem tP(ho:PE X o (aA X.K to))(ha:PA X [e] (dN X.K t))(Sz:Op o "append" X.env (eval o X.env)=eval o X.env:=by rfl)(T6:((NZ cpos (M5 [e] X.env)).all (fun x=>!x.1) && (O0 cpos (Oo [] X.env)).all (fun x=>x.1.isSome)
   && decide (([e]:List Nh).length+([]:List QT).length+(if ([]:List QT).isEmpty then 0 else 1) < 30))=true:=by rfl)(SG:(apos.endLine == cpos.line)=true:=by rfl)(hs:M5 [e] X.env=(false,eval e X.env)::M5 [] X.env:=by rfl)(SR:(NZ cpos (M5 [] X.env)).any (·.1)=false:=by rfl):
  PE X (.Call (.Attribute o "append" apos) [e] [] cpos) (aA X.K (jI to t)):=
 (Km PySem.F.plainAttrs_list PySem.F.slot_list_append PySem.F.type_list_append v8 ho ha Sz T6 SG hs SR).imp fun τ H Q zz=>by
 obtain⟨σ,G,Q3,rs,rg,h,k⟩:=zz;exact (
  ⟨σ,G,_,rs,rg,h,fun d G1 v H1 q k1 rg1 re=>by
    cases d with
    | ref a=>
     rw[re.ref];obtain⟨⟨ds,hg⟩,q⟩:=q;obtain⟨xs,e1,r1⟩:=tV rg1 hg;refine⟨.inl ⟨rfl,xs,kg.of e1⟩,σ,G1,_,rs.mono (k1.stb rg),rg1,q,fun es G2 vs H2 q2 k2 rg2 rds=>?_⟩;split at q2
     ·rename_i d;obtain⟨v2,rfl,rd⟩:=fk rds;split at q2
      ·rename_i ds2 hg2;obtain⟨xs2,e2,r2⟩:=tV rg2 hg2;have rr:RDs X.K H2 (ds2 ++ [d]) (xs2 ++ [v2]):=r2.append (RDs.cons rd RDs.nil);obtain⟨kp,rg3⟩:=GK rg2 e2 rr (by rw[hg2];exact fun z=>nomatch z)
       exact⟨a,xs2,v2,rfl,rfl,e2,by rw[<- r2.length];exact q2.1,k _ _ _ _ q2.2 ((k1.trans k2).trans kp) rg3 (.of wX)⟩
      ·exact q2.elim
     ·exact q2.elim
    | _=>exact q.elim⟩)
def xD(G:Gp):D->Option String
 | .int _=>some "int"
 | .str _=>some "str"
 | .bl _=>some "bool"
 | .tup _=>some "tuple"
 | d=>(xV G d).map fun _=>"list"
def Md:Bk:=fun ds G Q=>match ds with
 | [d,.ty T]=>xD G d=some T/\Q (.bl true) G
 | _=>False
theorem Kq(hg:Gl X x)(hm:X.mg x=none)(hv:Of x=some (.type T))(hn:x≠"__name__":=by decide)(hd:(x == ("__debug__":Str))=false:=by decide):PE X (.Name x pos) (aA X.K (eC (.ty T))):=
 JO (Gn (v:=.ty T) hg hm hv rfl hn hd) fun _=>by simp only[RD]
theorem xo(hg:Gl X x)(hm:X.mg x=some u)(r:aH v u)(rd:∀ H,RD X.K H d v)(hd:(x == ("__debug__":Str))=false:=by decide):PE X (.Name x pos) (aA X.K (eC d)):=JO (BJ hg hm r hd) rd
def L9(te:aV):aV:=fun σ G Q=>te σ G fun x G1=>match x with
 | .int i=>Q (.int (-i)) G1
 | _=>False
end
theorem pc(h:L.findIdx? (· == f)=some i):vJ L f i:=by
 rw[List.findIdx?_eq_some_iff_getElem]at h;obtain⟨hi,h1,h2⟩:=h;refine⟨?_,fun j hj e=>?_⟩
 ·rw[M6 hi]
  simpa using h1
 ·have hj':j < L.length:=Nat.lt_trans hj hi;have:=h2 j hj;rw[M6 hj']at e;simp only[Option.some.injEq]at e;rw[e]at this;simp at this
def B3(N:List Str)(osc scope:O_)(T M:List Str):Bool:=
 decide (scope.kind=.function) && scope.names.all (fun y=>decide (y.2≠.cell) && (decide (y.2≠.local) || (decide (scope.names.lookup y.1=some .local) && ((".0":Str)::T).contains y.1)) &&
  (decide (y.2≠.free) || (decide (osc.names.lookup y.1=some .cell) || decide (osc.names.lookup y.1=some .free)))) && (M.all fun x=>!((".0":Str)::T).contains x) && decide (M.length=N.length) &&
  ((M.zip N).all fun p=>decide (p.1=p.2) || scope.names.all fun y=>decide (y.1≠p.1))
theorem bJ(hc:X.calm=true)(h:B3 X.N X.env.scope scope T M=true):CompOk X scope T M:=by
 unfold B3 at h;rw[Bool.and_eq_true,Bool.and_eq_true,Bool.and_eq_true]at h;obtain⟨⟨⟨h12,h3⟩,h4⟩,h5⟩:=h;have hlen:M.length=X.N.length:=of_decide_eq_true h4;simp only[Bool.and_eq_true,List.all_eq_true,Bool.or_eq_true,decide_eq_true_eq,Bool.not_eq_true',List.contains_eq_mem]at h12 h3 h5;obtain⟨h1,h2⟩:=h12;refine⟨hc,h1,fun y hy=>(h2 y hy).1.1,fun y hy hl=>?_,fun y hy hl=>?_,hlen,fun i x hx=>?_,fun x hx=>?_,fun y hy hf=>?_⟩
 ·rcases (h2 y hy).1.2 with z|z
  ·exact absurd hl z
  ·exact z.1
 ·rcases (h2 y hy).1.2 with z|z
  ·exact absurd hl z
  ·simpa using z.2
 ·have hi:i < M.length:=(List.getElem?_eq_some_iff.mp hx).1;have hi2:i < X.N.length:=by walk_at "o"
  have hm:(x,X.N[i])∈M.zip X.N:=by
   refine Ni (i:=i) ?_;rw[List.getElem?_zip_eq_some];exact⟨hx,M6 hi2⟩
  rcases h5 _ hm with z|z
  ·left;rw[M6 hi2];exact congrArg some (show x=X.N[i]from z).symm
  ·exact .inr fun y hy=>z y hy
 ·simpa using h3 x hx
 ·rcases (h2 y hy).2 with z|z
  ·exact absurd hf z
  ·exact z
structure Fun3(K:Po)(x qual:Str)(st:No)(f:MT)(fd:N4):Prop where
 ex:∃ (oc:MS) (od:Option MT) (dV kV doc pm:MS) (an:Option MT) (cdv ct:MS) (osl:Array (Option MS)),
  fd=UH x qual (eM st) (cT st) (ah st) dV kV doc pm an cdv ct/\K.lookup f=some ⟨oc,od,.func fd,osl⟩/\R8 K cdv qual=true
section
variable{P:M9}{w:Ng}{K:Po}{mg:Str->Option MS}{base:Nf}
theorem Fun3.ok3{x qual:Str}{st:No}{f:MT}{fd:N4}{N ps:List Str}{k:Nat}{sp:cG}(F:Fun3 K x qual st f fd)(S:FnScope N ps (ah st))(len:∀ ds G Q,sp ds G Q->ds.length=ps.length)
  (SH:∀ (cdv:MS) (A:Nb) (outer:List Env) (s:MU) (H:Hp) (E:XK),Room k (A.deeper (Pd qual (ah st) s.heap.objs.size f cdv))->
   ∃ t:bc,iJ (vC pJ P w K mg base N qual (ah st) f cdv A outer s H E).nox (cT st) (bN K t)/\∀ ds G Q,sp ds G Q->t { nx:=fun _ G'=>Q .non G',rt:=Q } (b7 N ds) G):FnOk P w K mg base pJ (k+1) f fd ps (b9 K sp):=by
 obtain⟨oc,od,dV,kV,doc,pm,an,cdv,ct,osl,rfl,lk,hcd⟩:=F.ex;refine Fg lk hcd S (fun vs H Q E ⟨ds,G,Q3,rds,rg,h,kk⟩=>by rw[<- rds.length];exact len ds G Q3 h) fun A outer s H vs Q E hr hsp=>?_
 obtain⟨ds,G,Q3,rds,rg,h,kk⟩:=hsp;obtain⟨t,ht,hq⟩:=SH cdv A outer s H E hr;refine⟨bN K t,ht.nox,b7 N ds,G,{ nx:=fun _ G'=>Q3 .non G',rt:=Q3 },yU rds,rg,hq ds G Q3 h,⟨fun σ' G' τ' H' q k' rg' rs'=>kk _ G' _ H' q k' rg' (.of wX),kk,fun _ _ _ _ q=>q.elim,fun _ _ _ _ q=>q.elim⟩⟩
theorem iG{x qual:Str}{st:No}{f:MT}{oc:MS}{od an:Option MT}{osl:Array (Option MS)}{dV kV doc pm cdv ct:MS}(l:K.lookup f=some ⟨oc,od,.func (UH x qual (eM st) (cT st) (ah st) dV kV doc pm an cdv ct),osl⟩)
  (c:R8 K cdv qual=true):Fun3 K x qual st f (UH x qual (eM st) (cT st) (ah st) dV kV doc pm an cdv ct):=⟨⟨oc,od,dV,kV,doc,pm,an,cdv,ct,osl,rfl,l,c⟩⟩
end
theorem ag{t u:bc}{D:Ends3}{σ:dO}{G:Gp}:sSeq t u D σ G=t { D with nx:=u D } σ G:=rfl
theorem Hc(h:0<=i):cutD ds none (some i)=ds.take i.toNat:=by
 have:HT.sIx ds.length ds.length (some i)=min i.toNat ds.length:=by simp only[HT.sIx];rw[if_neg (by walk_at "o")]
 unfold cutD;rw[this];simp only[HT.sIx,QG,Qy];rw[List.take_eq_take_iff];omega
theorem uF(h:0<=i)(h2:0<=j):cutD ds (some i) (some j)=(ds.drop i.toNat).take (j.toNat - i.toNat):=by
 have e1:HT.sIx ds.length 0 (some i)=min i.toNat ds.length:=by simp only[HT.sIx];rw[if_neg (by walk_at "o")]
 have e2:HT.sIx ds.length ds.length (some j)=min j.toNat ds.length:=by simp only[HT.sIx];rw[if_neg (by walk_at "o")]
 unfold cutD;rw[e1,e2]
 by_cases hi:i.toNat<=ds.length
 ·rw[Nat.min_eq_left hi,List.take_eq_take_iff,PJ]
  by_cases hj:j.toNat<=ds.length
  ·rw[Nat.min_eq_left hj]
  ·have hj':=Nat.le_of_not_le hj;rw[Nat.min_eq_right hj',Nat.min_self,Nat.min_eq_right (Nat.sub_le_sub_right hj' _)]
 ·rw[Nat.min_eq_right (Nat.le_of_not_le hi),List.drop_length,List.drop_eq_nil_of_le (le_of_lt (Nat.lt_of_not_le hi))];simp
theorem Hd(h:0<=i):pA cs none (some i)=cs.take i.toNat:=by
 have:HT.sIx cs.length cs.length (some i)=min i.toNat cs.length:=by simp only[HT.sIx];rw[if_neg (by walk_at "o")]
 unfold pA;rw[this];simp only[HT.sIx,QG,Qy];rw[List.take_eq_take_iff];omega
def S(cs:List Nat):Str:=⟨cs.toArray⟩
theorem z_{ds:List D}{i:Int}(h0:0<=i)(h:i < ds.length):iI ds i=some (ds[i.toNat]'(by walk_at "o")):=by
 unfold iI HN;rw[if_pos h0,if_pos h];simp[show i.toNat < ds.length by walk_at "o"]
theorem aj:1000000<=M1:=by decide
theorem iM(lo:Int)(n:Nat):(fJ lo n).length=n:=by simp[fJ]
theorem AD{lo:Int}{n i:Nat}{d:D}(h:(fJ lo n)[i]?=some d):i < n/\d=.int (lo+(i:Nat)):=by
 have hl:i < (fJ lo n).length:=(List.getElem?_eq_some_iff.mp h).1;rw[iM]at hl;refine⟨hl,?_⟩;rw[fJ,Nd,List.getElem?_range hl]at h
 simpa using h.symm
def wJ:cG:=fun vs _ Q=>match vs with
 | [.lst ds]=>∃ ns:List Int,ds=ns.map D.int/\ns.length<=63/\∀ G',Q (.bl true) G'
 | _=>False
theorem CP{K:Po}{H:Hp}{a:MT}{ns:List Int}(hl:ns.length<=63)(hO:Hn H)(hS:kg K H a (ns.map V.int))(E:XK):b9 K wJ [.ref a] H (fun v _=>v=.bl true) E:=by
 have hF:FD K H a (ns.map V.int):=by
  rcases hS with (h|⟨o,h⟩)|h
  ·rcases hO a with e|⟨o,xs,e⟩
   ·rw[h]at e;cases e
   ·rw[h]at e;cases e
  ·exact .inl ⟨o,h⟩
  ·exact .inr h
 refine⟨[.lst (ns.map D.int)],fun _=>none,fun d _=>d=.bl true,RDs.cons (qd hF (RDs.ints ns)) RDs.nil,(fun b o q=>nomatch q),⟨ns,rfl,hl,fun _=>rfl⟩,fun d G' v H' q _ _ re=>?_⟩;subst q;exact re.bl
theorem walk3{l:PySem.W.OpenLaw}{q:M9}{loose:List Str}{XP:(Str->Option MS)->Nf->Prop}{YP:Ng->Nf->Prop}{d:DefRec}{K:Params->Po}{k:Nat}{x:Str}(hn:l.most=some 63)(hdf:d.params.defaults=[])(hr:Room k Qn)
  (hY:∀ (w:Ng) (h:Nf),YP w h->(K w.params).In h)
  (F:∀ (w:Ng) (mg:Str->Option MS) (fa:MT) (h:Nf),(K w.params).In h->h.Ns Na mg->mg d.name=some (.ref fa)->
   ∃ fd:N4,(∀ (s:MU) (u:MS),QU s fd ⟨[u],[]⟩ [(x,u)])/\∀ base:Nf,(K w.params).In base->base.Ns Na mg->FnOk l.prog w (K w.params) mg base pJ k fa fd [x] (b9 (K w.params) wJ)):
  PySem.W.WalkO q loose XP YP l.row.toRowW d [] (fun f vs=>PySem.call f vs):=
 L2.walk_of (n:=63) (k:=k) (x:=x) (CX:=fun _=>pJ) (sp:=fun w=>b9 (K w.params) wJ) hn (by decide) hdf hr hY F (fun _ _ _ _ hl hO hS=>CP hl hO hS _) fun _ _ _ _ _ z=>z
end L3
namespace L2
open PySem PySem.Spec PyProof.Rows
end L2
namespace L3
open PySem PySem.Spec PyProof.Rows L2
def LM(i:Nat)(t:bc):bc:=fun D σ G=>match σ[i]? with
 | some (some (.ref p))=>match G p with
  | some (.lst ds)=>t D (σ.set i (some (.lst ds))) (fL G p)
  | _=>False
 | some (some (.lst _))=>t D σ G
 | _=>False
def LZ(ta:kK):FF:=fun σ G Q=>ta σ G fun ds G'=>match ds with
 | [.lst es]=>Q es.reverse G'
 | _=>False
theorem La{a:D}:iI [a] 0=some a:=rfl
theorem K_{a b:D}:iI [a,b] 0=some a:=rfl
theorem K9{a b:D}:iI [a,b] 1=some b:=rfl
theorem K8{a b c:D}:iI [a,b,c] 0=some a:=rfl
theorem K7{a b c:D}:iI [a,b,c] 1=some b:=rfl
theorem K6{a b c:D}:iI [a,b,c] 2=some c:=rfl
theorem K4{a b c d:D}:iI [a,b,c,d] 0=some a:=rfl
theorem K3{a b c d:D}:iI [a,b,c,d] 1=some b:=rfl
theorem K2{a b c d:D}:iI [a,b,c,d] 2=some c:=rfl
theorem K1{a b c d:D}:iI [a,b,c,d] 3=some d:=rfl
theorem K0{a b c d e:D}:iI [a,b,c,d,e] 0=some a:=rfl
theorem KZ{a b c d e:D}:iI [a,b,c,d,e] 1=some b:=rfl
theorem KY{a b c d e:D}:iI [a,b,c,d,e] 2=some c:=rfl
theorem KW{a b c d e:D}:iI [a,b,c,d,e] 3=some d:=rfl
theorem KU{a b c d e:D}:iI [a,b,c,d,e] 4=some e:=rfl
theorem aY(b:Bool)(hc:∀ K:Bool->Gp->Prop,K b G->c σ G K)(h:if b=true then t E σ G else u E σ G):il c t u E σ G:=hc _ h
theorem nh{t u:bc}{G:Gp}{NX:dO->Gp->Prop}(h2:∀ σ' G',NX σ' G'->u E σ' G')(h1:∀ NX':dO->Gp->Prop,(∀ σ' G',NX σ' G'->NX' σ' G')->t { E with nx:=NX' } σ G):sSeq t u E σ G:=h1 (u E) h2
open PySem.SeqAt
def LV(x:D)(ds:List D):Bool:=ds.any fun d=>dC d x
def IS:R3:=fun x y G Q=>match FE G y with
 | some ds=>(pl 7 x/\∀ d∈ds,pl 7 d)/\Q (.bl (!LV x ds)) G
 | none=>False
section
variable{κ:Type}[DecidableEq κ]
def bL(kvs:List (κ×D))(k:κ):Option D:=(kvs.find? fun kv=>decide (kv.1=k)).map (·.2)
def bg(kvs:List (κ×D))(k:κ)(v:D):List (κ×D):=
 if (kvs.any fun kv=>decide (kv.1=k))=true then kvs.map (fun kv=>if kv.1=k then (kv.1,v)else kv)else kvs ++ [(k,v)]
theorem pD(k:κ):∀ kvs:List (κ×D),(kvs.any fun kv=>decide (kv.1=k))=(bL kvs k).isSome
 | []=>rfl
 | p::r=>by
  by_cases e:p.1=k
  ·simp[bL,Nw,e]
  ·have ih:=pD k r;simp only[Qj,e,decide_false,Bool.false_or,ih];simp[bL,Nw,e]
theorem eX(kvs:List (κ×D))(k:κ)(v:D):(bg kvs k v).length<=kvs.length+1:=by
 unfold bg;split<;>simp
theorem qe(kvs:List (κ×D))(k:κ)(v:D):(bg kvs k v).map (·.1)=if k∈kvs.map (·.1)then kvs.map (·.1)else kvs.map (·.1) ++ [k]:=by
 unfold bg;have e:((kvs.any fun kv=>decide (kv.1=k))=true)↔k∈kvs.map (·.1):=by
  rw[List.any_eq_true,mem_map];constructor
  ·rintro⟨p,hp,q⟩;exact⟨p,hp,of_decide_eq_true q⟩
  ·rintro⟨p,hp,rfl⟩;exact⟨p,hp,decide_eq_true rfl⟩
 by_cases h:k∈kvs.map (·.1)
 ·rw[if_pos (e.mpr h),if_pos h,Nq];refine Ot fun p _=>?_;simp only[Function.comp_apply];split<;>rfl
 ·rw[if_neg (fun z=>h (e.mp z)),if_neg h];simp
theorem h_(k:κ)(v:D)(h:(kvs.map (·.1)).Nodup):((bg kvs k v).map (·.1)).Nodup:=by
 rw[qe];split
 ·exact h
 ·rename_i hk;rw[List.nodup_append];refine⟨h,by simp,fun a ha b hb=>?_⟩
  have:b=k:=by simpa using hb
  subst this;exact fun z=>hk (z ▸ ha)
end
def GP:D->Option aB
 | .int i=>some (.inl i)
 | .str x=>some (.inr x)
 | _=>none
def kD:aB->D
 | .inl i=>.int i
 | .inr x=>.str x
def zC:List D->Option (List aB)
 | []=>some []
 | d::r=>match GP d,zC r with
  | some k,some ks=>some (k::ks)
  | _,_=>none
def nJ:D->Option (List aB)
 | .tup ds=>zC ds
 | _=>none
theorem Jg(k:aB):GP (kD k)=some k:=by cases k<;>rfl
theorem BX:∀ ks:List aB,zC (ks.map kD)=some ks
 | []=>rfl
 | k::r=>by simp only[Nk,zC,Jg,BX r]
section
variable{K:Po}{H:Hp}
theorem AY(h:GP d=some k)(r:RD K H d v):v=kV k:=by
 cases d with
 | int i=>simp only[GP,Option.some.injEq]at h;subst h;simp only[RD]at r;exact r
 | str i=>simp only[GP,Option.some.injEq]at h;subst h;simp only[RD]at r;exact r
 | _=>simp[GP]at h
theorem zB:∀ {ds:List D} {ks:List aB} {vs:List V},zC ds=some ks->RDs K H ds vs->vs=ks.map kV
 | [],ks,vs,h,r=>by
  simp only[zC,Option.some.injEq]at h;subst h;exact r.inv_nil
 | d::t,ks,vs,h,r=>by
  obtain⟨x,u,e,h1,h2⟩:=r.inv_cons;subst e;simp only[zC]at h;split at h
  ·rename_i k kr e1 e2;simp only[Option.some.injEq]at h;subst h;rw[AY e1 h1,zB e2 h2];rfl
  ·cases h
theorem o9(h:nJ d=some ks)(r:RD K H d v):∃ b,v=.ref b/\ke K H b (ks.map kV):=by
 cases d with
 | tup ds=>
  simp only[RD]at r;obtain⟨a,xs,e,q,rr⟩:=r;exact⟨a,e,by rw[<- zB h rr];exact q⟩
 | _=>simp[nJ]at h
theorem m3.keys(r:m3 K H kvs xs):kvs.map (·.1)=xs.map (·.1):=by
 unfold m3 at r
 induction r with
 | nil=>rfl
 | cons h _ ih=>rw[Nk,Nk,h.1,ih]
theorem m3.val(r:m3 K H kvs xs)(k:List aB):
  (bL kvs k=none/\Pn xs k=none)\/∃ d b u v,bL kvs k=some d/\Pn xs k=some (b,u)/\RD K H d v/\aH v u:=by
 unfold m3 at r
 induction r with
 | nil=>exact .inl ⟨rfl,rfl⟩
 | @cons p q ps qs h t ih=>
  obtain⟨h1,_,v,h2,h3⟩:=h
  by_cases e:p.1=k
  ·have e':q.1=k:=h1.symm.trans e;exact .inr ⟨p.2,q.2.1,q.2.2,v,by simp[bL,Nw,e],by simp[Pn,Nw,e'],h2,h3⟩
  ·have e':¬ q.1=k:=fun z=>e (h1.trans z);have a1:bL (p::ps) k=bL ps k:=by simp[bL,Nw,e]
   have a2:Pn (q::qs) k=Pn qs k:=by simp[Pn,Nw,e']
   rw[a1,a2];exact ih
theorem m3.put{kvs:List (List aB×D)}{xs:List (List aB×MT×MS)}(r:m3 K H kvs xs)(k:List aB){b:MT}{d:D}{v:V}{u:MS}(hb:ke K H b (k.map kV))(hd:RD K H d v)(hu:aH v u):m3 K H (bg kvs k d) (Qk xs k b u):=by
 have e:(kvs.any fun kv=>decide (kv.1=k))=(Pn xs k).isSome:=by
  rw[pD];rcases r.val k with ⟨a,b⟩|⟨_,_,_,_,a,b,_⟩<;>rw[a,b]<;>rfl
 unfold bg Qk;rw[e]
 by_cases q:(Pn xs k).isSome=true
 ·rw[if_pos q,if_pos q];unfold m3 at r ⊢;clear e q
  induction r with
  | nil=>exact .nil
  | @cons p q ps qs h t ih=>
   rw[Nk,Nk];refine .cons ?_ ih;obtain⟨h1,h2,v',h3,h4⟩:=h;unfold putAt
   by_cases e:p.1=k
   ·rw[if_pos e,if_pos (h1.symm.trans e)];exact⟨h1,h2,v,hd,hu⟩
   ·rw[if_neg e,if_neg (fun z=>e (h1.trans z))];exact⟨h1,h2,v',h3,h4⟩
 ·rw[if_neg q,if_neg q];exact QN r ⟨rfl,hb,v,hd,hu⟩
theorem Ac.val(r:Ac K H kvs xs)(k:aB):(bL kvs k=none/\m7 xs k=none)\/∃ d v,bL kvs k=some d/\m7 xs k=some v/\RD K H d v:=by
 unfold Ac at r
 induction r with
 | nil=>exact .inl ⟨rfl,rfl⟩
 | @cons p q ps qs h t ih=>
  obtain⟨h1,h2⟩:=h
  by_cases e:p.1=k
  ·have e':q.1=k:=h1.symm.trans e;exact .inr ⟨p.2,q.2,by simp[bL,Nw,e],nQ e',h2⟩
  ·have e':¬ q.1=k:=fun z=>e (h1.trans z);have a1:bL (p::ps) k=bL ps k:=by simp[bL,Nw,e]
   rw[a1,nR e'];exact ih
theorem Ac.put{kvs:List (aB×D)}{xs:List (aB×V)}(r:Ac K H kvs xs)(k:aB){d:D}{v:V}(hd:RD K H d v):Ac K H (bg kvs k d) (oU xs k v):=by
 have e:(kvs.any fun kv=>decide (kv.1=k))=(xs.any fun kv=>decide (kv.1=k)):=by
  rw[pD,sC];rcases r.val k with ⟨a,b⟩|⟨_,_,a,b,_⟩<;>rw[a,b]<;>rfl
 unfold bg oU;rw[e]
 by_cases q:(xs.any fun kv=>decide (kv.1=k))=true
 ·rw[if_pos q,if_pos q];unfold Ac at r ⊢;clear e q
  induction r with
  | nil=>exact .nil
  | @cons p q ps qs h t ih=>
   rw[Nk,Nk];refine .cons ?_ ih;obtain⟨h1,h2⟩:=h
   by_cases e:p.1=k
   ·rw[if_pos e,if_pos (h1.symm.trans e)];exact⟨h1,hd⟩
   ·rw[if_neg e,if_neg (fun z=>e (h1.trans z))];exact⟨h1,h2⟩
 ·rw[if_neg q,if_neg q];exact QN r ⟨rfl,hd⟩
theorem Ac.length(r:Ac K H kvs xs):kvs.length=xs.length:=Pl r
theorem m3.length(r:m3 K H kvs xs):kvs.length=xs.length:=Pl r
end
def aI(P:M9)(w:Ng):List aB->Int:=tupleKeyHash (aW P w)
section
variable{X:Cx}{pins:List (MT×Obj)}{σ:St}{H:Hp}{s:MU}{a:MT}
theorem key_at(I:Inv X pins σ H s){b:MT}{ks:List aB}(h:ke X.K H b (ks.map kV)):(Oa (aW X.prog X.w)).is s.heap ks b:=by
 obtain⟨its,r,⟨o,h1,h2,n,h3⟩,_⟩:=I.tuple h;exact⟨o,its.toArray,n,h1,h2,h3,by simpa using qy r⟩
theorem sm(I:Inv X pins σ H s)(e:H a=some (.ext φ))(r:m3 X.K H kvs xs)(nd:(kvs.map (·.1)).Nodup)(hφ:∀ h,φ h->pI (aI X.prog X.w) a xs h:=by exact fun _ z=>z):
  (a == NC)=false/\s.heap.DictOfH (Oa (aW X.prog X.w)) a xs:=by
 obtain⟨hd,o,es,ep,h1,h2,h3,h4⟩:=hφ _ (show ba X.prog X.w H s.heap a (.ext φ)from I.hok a _ e).1
 refine⟨hd,o,es,ep,h1,h2,h3,h4,?_,by rw[<- r.keys];exact nd⟩
 unfold m3 at r;clear h4 e nd hφ
 induction r with
 | nil=>intro x hx;exact nomatch hx
 | @cons p q ps qs hq t ih=>
  intro x hx;rcases NH.mp hx with e|hx
  ·subst e;exact key_at I (by rw[<- hq.1];exact hq.2.1)
  ·exact ih x hx
theorem nL(h1:pI hw a xs h):ba P w H' h a (.ext (pI hw a xs)):=by
 obtain⟨hd,o,es,ep,e,r⟩:=h1;exact⟨⟨hd,o,es,ep,e,r⟩,⟨o,e⟩,fun h1 h2 ⟨hd,o,es,ep,e,r⟩ k=>⟨hd,o,es,ep,k o e,r⟩⟩
end
section
variable{K:Po}{H:Hp}{G:Gp}
theorem GT(rg:RG K H G)(e:H p=none)(ro:∀ H':Hp,Stb K H H'->RO K H' p o ho):Kp G H (gset G p o) (aR H p ho)/\RG K (aR H p ho) (gset G p o):=by
 have kp:Kp G H (gset G p o) (aR H p ho):=fun b h q n=>by
  have:b≠p:=bH q e;exact⟨by rw[ar this];exact q,by rw[ai this];exact n⟩
 refine⟨kp,fun b u q=>?_⟩
 by_cases hb:b=p
 ·subst hb;rw[ax]at q;cases q;exact⟨_,aF,ro _ (kp.stb rg)⟩
 ·rw[ai hb]at q;obtain⟨h,q1,q2⟩:=rg b u q;exact⟨h,by rw[ar hb];exact q1,q2.mono (kp.stb rg)⟩
theorem qA(rg:RG K H G)(hg:G a≠none)(ro:∀ H':Hp,Stb K H H'->RO K H' a o ho):Kp G H (gset G a o) (aR H a ho)/\RG K (aR H a ho) (gset G a o):=by
 have kp:Kp G H (gset G a o) (aR H a ho):=fun b h e n=>by
  have:b≠a:=fun z=>by subst z;exact hg n
  exact⟨by rw[ar this];exact e,by rw[ai this];exact n⟩
 refine⟨kp,fun b u q=>?_⟩
 by_cases hb:b=a
 ·subst hb;rw[ax]at q;cases q;exact⟨_,aF,ro _ (kp.stb rg)⟩
 ·rw[ai hb]at q;obtain⟨h,q1,q2⟩:=rg b u q;exact⟨h,by rw[ar hb];exact q1,q2.mono (kp.stb rg)⟩
end
def mY(hw:List aB->Int):aV:=fun _ G Q=>∀ p,G p=none->Q (.ref p) (gset G p (.dT hw []))
def Fl:aV:=fun _ G Q=>∀ p,G p=none->Q (.ref p) (gset G p (.dK []))
section
variable{X:Cx}{pos:Pos}
theorem lA:PE X (.Dict [] [] pos) (aA X.K (mY (aI X.prog X.w))):=fun pins s τ H Q I zz=>by
 obtain⟨σ,G,Q3,rs,rg,h,k⟩:=zz;have hf:H s.heap.objs.size=none:=I.hok.fresh (le_refl _);obtain⟨kp,rg2⟩:=GT (o:=.dT (aI X.prog X.w) []) (ho:=.ext (pI (aI X.prog X.w) s.heap.objs.size [])) rg hf fun H' _=>⟨[],rfl,.nil,Ql,N0 _⟩;have hd:(s.heap.objs.size == NC)=false:=beq_eq_false_iff_ne.mpr (Ne.symm (Np I.big));exact wpAny_Dict_empty ⟨.ref s.heap.objs.size,_,I.laid (a:=s.heap.objs.size) (t':=s.toks) (fun _ _ q=>MX _ q) (le_refl _) (nL ⟨hd,_,#[],0,M3 _ rfl,⟨rfl,rfl,rfl⟩,rfl,rfl⟩),rfl,
  k _ _ _ _ (h _ (rg.free hf)) kp rg2 (.of eT)⟩
theorem IH:PE X (.Dict [] [] pos) (aA X.K Fl):=EB.imp fun τ H Q ⟨σ,G,Q3,rs,rg,h,k⟩ p hp=>by
 obtain⟨kp,rg2⟩:=GT (o:=.dK []) (ho:=.dK []) rg hp fun H' _=>(show Ac X.K H' [] []from .nil)
 exact k _ _ _ _ (h _ (rg.free hp)) kp rg2 (.of eT)
end
def iE(hw:List aB->Int):D->D->D->Gp->(Gp->Prop)->Prop:=fun o i v G Q=>match o with
 | .ref a=>match G a with
  | some (.dT hw' kvs)=>hw'=hw/\∃ ks,nJ i=some ks/\kvs.length < M1/\Q (gset G a (.dT hw (bg kvs ks v)))
  | some (.dK kvs)=>∃ k,GP i=some k/\kvs.length < M1/\Q (gset G a (.dK (bg kvs k v)))
  | some (.lst ds)=>match i with
   | .int j=>∃ m,HN ds.length j=some m/\Q (gset G a (.lst (ds.set m v)))
   | _=>False
  | _=>False
 | _=>False
def GL(K:Po)(r:D->D->D->Gp->(Gp->Prop)->Prop):Hk:=fun o i v H Q=>∃ x y z G Q3,RD K H x o/\RD K H y i/\RD K H z v/\RG K H G/\r x y z G Q3/\∀ G' H',Q3 G'->Kp G H G' H'->RG K H' G'->Q H'
def de(hw:List aB->Int)(to ti te:aV):bc:=fun E σ G=>te σ G fun v G1=>to σ G1 fun o G2=>ti σ G2 fun i G3=>iE hw (val o) (val i) (val v) G3 fun G4=>E.nx σ G4
section
variable{X:Cx}
theorem H_(hu:X.A.units+8 < NF):JJ X (GL X.K (iE (aI X.prog X.w))):=by
 rintro pins s σ H o i v ov iv u Q I ro ri rv ⟨x,y,z,G,Q3,rx,ry,rz,rg,h,k⟩
 unfold iE at h;split at h
 ·rename_i a;simp only[RD]at rx;subst rx;cases ro;split at h
  ·rename_i hw' kvs hg;obtain⟨rfl,ks,hk,hl,h⟩:=h;obtain⟨b,rfl,sq⟩:=o9 hk ry;cases ri;obtain⟨ho,e,r⟩:=rg a _ hg;cases ho with
   | ext φ=>
    obtain⟨xs,rfl,rt,nd,_⟩:=r;obtain⟨hd,dd⟩:=sm I e rt nd;have hz:xs.length<=M1:=by rw[<- rt.length];omega
    refine RX (hsz:=hz) (NN (show X.A.units+1 < NF by walk_at "o")) (key_at I sq) dd fun h' dd' hs=>?_
    obtain⟨q,es,ep,hq,h2,h3,h4,_,h5⟩:=dd';obtain⟨kp,rg2⟩:=qA (a:=a) (o:=.dT (aI X.prog X.w) (bg kvs ks z)) (ho:=.ext (pI (aI X.prog X.w) a (Qk xs ks b u))) rg (by rw[hg];exact fun z=>nomatch z)
     fun H' st=>⟨_,rfl,(rt.put ks sq rz rv).mono st,h_ ks z nd,by have:=eX kvs ks z;omega⟩
    exact⟨_,su I (by rw[e];exact True.intro) hs ⟨q,hq⟩ (nL ⟨hd,q,es,ep,hq,h2,h3,h4⟩),k _ _ h kp rg2⟩
   | _=>exact r.elim
  ·rename_i kvs hg;obtain⟨kk,hk,hl,h⟩:=h;have ei:=AY hk ry;subst ei;obtain⟨ho,e,r⟩:=rg a _ hg;cases ho with
   | dK xs=>
    have r':Ac X.K H kvs xs:=r;obtain⟨kp,rg2⟩:=qA (a:=a) (o:=.dK (bg kvs kk z)) (ho:=.dK (oU xs kk v)) rg (by rw[hg];exact fun z=>nomatch z) fun H' st=>(r'.put kk rz).mono st
    exact De (by walk_at "o") I (Hr.k e (by rw[<- r'.length];exact hl)) ri rv fun s' I'=>⟨_,I',k _ _ h kp rg2⟩
   | _=>exact r.elim
  ·rename_i ds hg;split at h
   ·rename_i j;obtain⟨m,hm,h⟩:=h;simp only[RD]at ry;subst ry;obtain⟨ho,e,r⟩:=rg a _ hg;cases ho with
    | lst xs=>
     have r':RDs X.K H ds xs:=r;obtain⟨kp,rg2⟩:=qA (a:=a) (o:=.lst (ds.set m z)) (ho:=.lst (xs.set m v)) rg (by rw[hg];exact fun z=>nomatch z) fun H' st=>RDs.mono st _ _ (r'.set m rz)
     exact DQ pins s σ H (.ref a) _ _ _ _ _ _ I rfl ri rv ⟨a,xs,j,m,rfl,rfl,e,by rw[<- r'.length];exact hm,k _ _ h kp rg2⟩
    | _=>exact r.elim
   ·exact h.elim
  ·exact h.elim
 ·exact h.elim
theorem fg{o i e:Nh}{to ti te:aV}{pos pos':Pos}(hu:X.A.units+8 < NF)(ho:PE X o (aA X.K to))(hi:PE X i (aA X.K ti))(he:PE X e (aA X.K te))
  (hs:swapsWithSole [.Subscript o i pos'] e pos.line X.env=pure false:=by rfl) (hw:swappedStores [.Subscript o i pos'] e X.env=pure none:=by rfl) (h1:(OM [.Subscript o i pos'] X.env).map (·.2)=[assign (.Subscript o i pos') X.env]:=by rfl)
  (ha:∀ v,assign (.Subscript o i pos') X.env v=(do
   let ov <- holding [v] (eval o X.env)
   let iv <- holding [v,ov] (eval i X.env)
   O2 pos'
   holding [v,ov,iv] (Sh ov iv v)
   release [v,ov,iv] []):=by intro _;rfl):PS X (.Assign [.Subscript o i pos'] e pos) (bN X.K (de (aI X.prog X.w) to ti te)):=
 (IA (c7 he) (IC (c7 ho) (c7 hi) (H_ hu) ha) hs hw h1).imp fun E τ H zz=>by
 obtain⟨σ,G,E3,rs,rg,h,k⟩:=zz;exact (
  ⟨σ,G,_,rs,rg,h,fun v G1 u H1 q1 k1 rg1 rd1=>
    ⟨σ,G1,_,rs.mono (k1.stb rg),rg1,q1,fun o G2 u2 H2 q2 k2 rg2 rd2=>⟨σ,G2,_,rs.mono ((k1.trans k2).stb rg),rg2,q2,fun i G3 u3 H3 q3 k3 rg3 rd3=>
     ⟨val o,val i,val v,G3,_,RD.mono (k3.stb rg2) _ _ rd2,rd3,RD.mono ((k2.trans k3).stb rg1) _ _ rd1,rg3,q3,fun G4 H4 q4 k4 rg4=>k.nx σ G4 τ H4 q4 (k1.trans (k2.trans (k3.trans k4))) rg4 (rs.mono ((k1.trans (k2.trans (k3.trans k4))).stb rg))⟩⟩⟩⟩)
end
def b_(hw:List aB->Int)(G:Gp)(o i:D)(r:Option D):Prop:=match o with
 | .ref a=>match G a with
  | some (.dT hw' kvs)=>hw'=hw/\∃ ks,nJ i=some ks/\r=bL kvs ks
  | some (.dK kvs)=>∃ k,GP i=some k/\r=bL kvs k
  | some (.dF _ hw' _ kvs)=>hw'=hw/\∃ ks,nJ i=some ks/\r=bL kvs ks
  | _=>False
 | _=>False
def j_(G:Gp)(o:D):Prop:=match o with
 | .ref a=>match G a with
  | some (.dT _ _)=>True
  | some (.dK _)=>True
  | some (.dF _ _ _ _)=>True
  | _=>False
 | _=>False
section
variable{X:Cx}{pins:List (MT×Obj)}{σ:St}{H:Hp}{s:MU}{G:Gp}{A:Nb}{E:MS->MU->Prop}{x y d z:D}{o i zv:V}{ov iv zu:MS}{r:Option D}
theorem b_.split(h:b_ (aI X.prog X.w) G x y r)(I:Inv X pins σ H s)(rg:RG X.K H G)(rx:RD X.K H x o)(ro:aH o ov)(ry:RD X.K H y i)(ri:aH i iv):
  ∃ a,ov=.ref a/\((∃ hs k,H a=some (.dK hs)/\i=kV k/\((r=none/\m7 hs k=none)\/∃ d v,r=some d/\m7 hs k=some v/\RD X.K H d v))\/
   ∃ xs ks b,(a == NC)=false/\s.heap.DictOfH (Oa (aW X.prog X.w)) a xs/\iv=.ref b/\(Oa (aW X.prog X.w)).is s.heap ks b/\
    ((r=none/\Pn xs ks=none)\/∃ d b' u v,r=some d/\Pn xs ks=some (b',u)/\RD X.K H d v/\aH v u)):=by
 unfold b_ at h;split at h
 ·rename_i a;simp only[RD]at rx;subst rx;cases ro;refine⟨a,rfl,?_⟩;split at h
  ·rename_i hw' kvs hg;obtain⟨rfl,ks,hk,rfl⟩:=h;obtain⟨b,rfl,sq⟩:=o9 hk ry;cases ri;obtain⟨ho,e,q⟩:=rg a _ hg;cases ho with
   | ext φ=>
    obtain⟨xs,rfl,rt,nd,_⟩:=q;obtain⟨hd,dd⟩:=sm I e rt nd;exact .inr ⟨xs,ks,b,hd,dd,rfl,key_at I sq,rt.val ks⟩
   | _=>exact q.elim
  ·rename_i kvs hg;obtain⟨k,hk,rfl⟩:=h;obtain⟨ho,e,q⟩:=rg a _ hg;cases ho with
   | dK hs=>
    have q':Ac X.K H kvs hs:=q;exact .inl ⟨hs,k,e,AY hk ry,q'.val k⟩
   | _=>exact q.elim
  ·rename_i ob hw' xs kvs hg;obtain⟨rfl,ks,hk,rfl⟩:=h;obtain⟨b,rfl,sq⟩:=o9 hk ry;cases ri;obtain⟨ho,e,q⟩:=rg a _ hg;cases ho with
   | ext φ=>
    obtain⟨rfl,rt,nd,_⟩:=q;obtain⟨hd,dd⟩:=sm I e rt nd fun _ z=>z.2;exact .inr ⟨xs,ks,b,hd,dd,rfl,key_at I sq,rt.val ks⟩
   | _=>exact q.elim
  ·exact h.elim
 ·exact h.elim
theorem j_.at(h:j_ G x)(I:Inv X pins σ H s)(rg:RG X.K H G)(rx:RD X.K H x o)(ro:aH o ov):
  s.TypeIs ov "dict"/\(∀ b,ov=.ref b->∃ ob,s.heap.get? b=some ob/\ob.dict=none):=by
 unfold j_ at h;split at h
 ·rename_i a;simp only[RD]at rx;subst rx;cases ro;split at h
  ·rename_i hw' kvs hg;obtain⟨ho,e,q⟩:=rg a _ hg;cases ho with
   | ext φ=>
    obtain⟨xs,rfl,rt,nd,_⟩:=q;obtain⟨hd,ob,es,ep,h1,h2,h3,h4⟩:=(show ba X.prog X.w H s.heap a (.ext (pI hw' a xs))from I.hok a _ e).1
    refine⟨⟨ob,h1,h2.1⟩,fun b hb=>?_⟩;cases hb;exact⟨ob,h1,h2.2.1⟩
   | _=>exact q.elim
  ·rename_i kvs hg;obtain⟨ho,e,q⟩:=rg a _ hg;cases ho with
   | dK hs=>
    obtain⟨t1,t2,_⟩:=Jl I (.inl ⟨hs,.inl e⟩);exact⟨t1,t2⟩
   | _=>exact q.elim
  ·rename_i ob hw' xs kvs hg;obtain⟨ho,e,q⟩:=rg a _ hg;cases ho with
   | ext φ=>
    obtain⟨rfl,rt,nd,_⟩:=q;obtain⟨_,hd,ob,es,ep,h1,h2,h3,h4⟩:=(show ba X.prog X.w H s.heap a (.ext (Du _ hw' a xs))from I.hok a _ e).1
    exact⟨⟨ob,h1,h2.1⟩,fun b hb=>by cases hb;exact⟨ob,h1,h2.2.1⟩⟩
   | _=>exact q.elim
  ·exact h.elim
 ·exact h.elim
theorem b_.dct(h:b_ hw G x y r):j_ G x:=by
 unfold b_ at h;unfold j_;split at h
 ·split at h
  ·rename_i e;simp only[e]
  ·rename_i e;simp only[e]
  ·rename_i e;simp only[e]
  ·exact h.elim
 ·exact h.elim
theorem Ha(hu:A.units+1 < NF)(I:Inv X pins σ H s)(rg:RG X.K H G)(h:b_ (aI X.prog X.w) G x y (some d))(rx:RD X.K H x o)(ro:aH o ov)(ry:RD X.K H y i)(ri:aH i iv)(q:∀ v u s',Inv X pins σ H s'->RD X.K H d v->aH v u->Q u s'):MZ (M0 X.prog X.w) A (P5 ov iv) Q E s:=by
 obtain⟨a,rfl,⟨hs,k,e,rfl,r⟩|⟨xs,ks,b,hd,dd,rfl,hk,r⟩⟩:=h.split I rg rx ro ry ri
 ·rcases r with ⟨z,_⟩|⟨d',v,e1,e2,rd⟩
  ·cases z
  ·cases e1;exact Df hu I (.inl ⟨hs,k,.inl e,rfl,e2.symm⟩) ri fun u s' I' rv=>q v u s' I' rd rv
 ·rcases r with ⟨z,_⟩|⟨d',b',u,v,e1,e2,rd,rv⟩
  ·cases z
  ·cases e1;exact RY (NN hu) hk dd e2 (q v u _ (I.tok _) rd rv)
theorem HQ(hu:A.units+1 < NF)(I:Inv X pins σ H s)(rg:RG X.K H G)(h:b_ (aI X.prog X.w) G x y r)(rx:RD X.K H x o)(ro:aH o ov)(ry:RD X.K H y i)(ri:aH i iv)(q:∀ s',Inv X pins σ H s'->Q (.bool r.isSome) s'):MZ (M0 X.prog X.w) A (Nr .In iv ov) Q E s:=by
 obtain⟨a,rfl,⟨hs,k,e,rfl,l⟩|⟨xs,ks,b,hd,dd,rfl,hk,l⟩⟩:=h.split I rg rx ro ry ri
 ·refine Ma hu I (yA.k e) ri fun s' I'=>?_;rcases l with ⟨rfl,e2⟩|⟨d,v,rfl,e2,_⟩<;>rw[e2]<;>exact q s' I'
 ·refine wpAny_in_heap (NN hu) hk hd dd ?_;rcases l with ⟨rfl,e2⟩|⟨d,b',u,v,rfl,e2,_⟩<;>rw[e2]<;>exact q _ (I.tok _)
theorem zR(hu:A.units+1 < NF)(I:Inv X pins σ H s)(rg:RG X.K H G)(h:b_ (aI X.prog X.w) G x y r)(rx:RD X.K H x o)(ro:aH o ov)(ry:RD X.K H y i)(ri:aH i iv)(q:∀ s',Inv X pins σ H s'->Q (.bool (!r.isSome)) s'):MZ (M0 X.prog X.w) A (Nr .NotIn iv ov) Q E s:=by
 obtain⟨a,rfl,⟨hs,k,e,rfl,l⟩|⟨xs,ks,b,hd,dd,rfl,hk,l⟩⟩:=h.split I rg rx ro ry ri
 ·refine G_ hu I (yA.k e) ri fun s' I'=>?_;rcases l with ⟨rfl,e2⟩|⟨d,v,rfl,e2,_⟩<;>rw[e2]<;>exact q s' I'
 ·refine wpAny_notIn_heap (NN hu) hk hd dd ?_;rcases l with ⟨rfl,e2⟩|⟨d,b',u,v,rfl,e2,_⟩<;>rw[e2]<;>exact q _ (I.tok _)
theorem Hb(hu:A.units+1 < NF)(I:Inv X pins σ H s)(rg:RG X.K H G)(h:b_ (aI X.prog X.w) G x y r)(rx:RD X.K H x o)(ro:aH o ov)(ry:RD X.K H y i)(ri:aH i iv)(rz:RD X.K H z zv)(rzu:aH zv zu)(q:∀ v u s',Inv X pins σ H s'->RD X.K H (r.getD z) v->aH v u->Q u s'):MZ (M0 X.prog X.w) A (call (.builtin "dict.get") [ov,iv,zu]) Q E s:=by
 obtain⟨a,rfl,⟨hs,k,e,rfl,l⟩|⟨xs,ks,b,hd,dd,rfl,hk,l⟩⟩:=h.split I rg rx ro ry ri
 ·refine Js hu I (yA.k e) ri rzu fun u s' I' rv=>?_;rcases l with ⟨rfl,e2⟩|⟨d,v,rfl,e2,rd⟩<;>rw[e2]at rv
  ·exact q _ u s' I' rz rv
  ·exact q _ u s' I' rd rv
 ·refine P7 PySem.F.slot_dict_get dd.typeIs PySem.F.entry_dict_get (PySem.F.args_dict_get_3 _ _ _) (Q_ (Oa (aW X.prog X.w)) a b hd zu) ⟨NN hu,ks,xs,hk,dd,?_⟩;rcases l with ⟨rfl,e2⟩|⟨d,b',u,v,rfl,e2,rd,rv⟩<;>rw[e2]
  ·exact q zv _ _ (I.tok _) rz rzu
  ·exact q v _ _ (I.tok _) rd rv
end
def nK(hw:List aB->Int)(to ti:aV):aV:=fun σ G Q=>to σ G fun x G1=>ti σ G1 fun y G2=>∃ d,b_ hw G2 (val x) (val y) (some d)/\Q d G2
def uC(hw:List aB->Int)(ti to:aV):aV:=fun σ G Q=>ti σ G fun y G1=>to σ G1 fun x G2=>∃ r,b_ hw G2 (val x) (val y) r/\Q (.bl r.isSome) G2
def et(hw:List aB->Int)(ti to:aV):aV:=fun σ G Q=>ti σ G fun y G1=>to σ G1 fun x G2=>∃ r,b_ hw G2 (val x) (val y) r/\Q (.bl (!r.isSome)) G2
def qE(hw:List aB->Int)(to ti tz:aV):aV:=fun σ G Q=>to σ G fun x G1=>j_ G1 (val x)/\ti σ G1 fun y G2=>tz σ G2 fun z G3=>∃ r,b_ hw G3 (val x) (val y) r/\Q (r.getD (val z)) G3
section
variable{X:Cx}{o i e f:Nh}{to ti tz:aV}{pos apos cpos:Pos}
theorem cE{t:aV}{e:Nh}(h:PE X e (aA X.K t)){pins:List (MT×Obj)}{s:MU}{τ:St}{H:Hp}{σ:dO}{G:Gp}{Q3:jh}(I:Inv X pins τ H s)(rs:RS X.K H σ τ)(rg:RG X.K H G)(ht:t σ G Q3):
  MZ (M0 X.prog X.w) X.A (eval e X.env) (EP X pins τ fun v H1=>∃ d G1,Q3 d G1/\Kp G H G1 H1/\RG X.K H1 G1/\RD X.K H1 (val d) v) X.xe s:=
 c7 h pins s τ H _ I ⟨σ,G,Q3,rs,rg,ht,fun d G' v H' q k rg' rd=>⟨d,G',q,k,rg',rd⟩⟩
theorem j8(hu:X.A.units+8 < NF)(ho:PE X o (aA X.K to))(hi:PE X i (aA X.K ti))(hs:Le i:=by exact fun _ _=>rfl):PE X (.Subscript o i pos) (aA X.K (nK (aI X.prog X.w) to ti)):=by
 rintro pins s τ H Q I ⟨σ,G,Q3,rs,rg,h,k⟩
 refine FP PySem.F.slot_dict_getitem.lookup hs (bZ (cE ho I rs rg h) fun ov s1 zz=>?_);obtain⟨ox,H1,I1,rox,x,G1,q1,k1,rg1,rd1⟩:=zz;refine bZ (cE hi I1 (rs.mono (k1.stb rg)) rg1 q1) fun iv s2 zz=>?_;obtain⟨iy,H2,I2,riy,y,G2,q2,k2,rg2,rd2⟩:=zz;obtain⟨d,l,q2⟩:=q2;have rx:=RD.mono (k2.stb rg1) _ _ rd1;exact⟨(l.dct.at I2 rg2 rx rox).1,Ha (by walk_at "o") I2 rg2 l rx rox rd2 riy fun v u s3 I3 rd rv=>⟨v,H2,I3,rv,k _ G2 _ H2 q2 (k1.trans k2) rg2 (.of rd)⟩⟩
theorem HF(hu:X.A.units+8 < NF)(hi:PE X i (aA X.K ti))(ho:PE X o (aA X.K to))(hm:NW .In o=false:=by rfl):PE X (.Compare i [.In] [o] pos) (aA X.K (uC (aI X.prog X.w) ti to)):=by
 refine EC (op:=.In) (fun pins s τ H Q I zz=>?_) hm;obtain⟨σ,G,Q3,rs,rg,h,k⟩:=zz;refine bZ (cE hi I rs rg h) fun iv s1 zz=>?_;obtain⟨iy,H1,I1,riy,y,G1,q1,k1,rg1,rd1⟩:=zz;refine bZ (cE ho I1 (rs.mono (k1.stb rg)) rg1 q1) fun ov s2 zz=>?_;obtain⟨ox,H2,I2,rox,x,G2,q2,k2,rg2,rd2⟩:=zz;obtain⟨r,l,q2⟩:=q2;exact HQ (by walk_at "o") I2 rg2 l rd2 rox (RD.mono (k2.stb rg1) _ _ rd1) riy fun s3 I3=>⟨.bl r.isSome,H2,I3,rfl,k _ G2 _ H2 q2 (k1.trans k2) rg2 (.of ff)⟩
theorem EF(hu:X.A.units+8 < NF)(hi:PE X i (aA X.K ti))(ho:PE X o (aA X.K to))(hm:NW .NotIn o=false:=by rfl):PE X (.Compare i [.NotIn] [o] pos) (aA X.K (et (aI X.prog X.w) ti to)):=by
 refine EC (op:=.NotIn) (fun pins s τ H Q I zz=>?_) hm;obtain⟨σ,G,Q3,rs,rg,h,k⟩:=zz;refine bZ (cE hi I rs rg h) fun iv s1 zz=>?_;obtain⟨iy,H1,I1,riy,y,G1,q1,k1,rg1,rd1⟩:=zz;refine bZ (cE ho I1 (rs.mono (k1.stb rg)) rg1 q1) fun ov s2 zz=>?_;obtain⟨ox,H2,I2,rox,x,G2,q2,k2,rg2,rd2⟩:=zz;obtain⟨r,l,q2⟩:=q2;exact zR (by walk_at "o") I2 rg2 l rd2 rox (RD.mono (k2.stb rg1) _ _ rd1) riy fun s3 I3=>⟨.bl (!r.isSome),H2,I3,rfl,k _ G2 _ H2 q2 (k1.trans k2) rg2 (.of ff)⟩
theorem xn(hu:X.A.units+8 < NF)(ho:PE X o (aA X.K to))(he:PE X e (aA X.K ti))(hf:PE X f (aA X.K tz))(m:M2 X o "get" apos e f cpos:=by exact⟨rfl,rfl,rfl,rfl⟩):PE X (.Call (.Attribute o "get" apos) [e,f] [] cpos) (aA X.K (qE (aI X.prog X.w) to ti tz)):=by
 rintro pins s τ H Q I ⟨σ,G,Q3,rs,rg,h,k⟩
 refine wpAny_Call_method m.base m.few m.line PySem.F.plainAttrs_dict PySem.F.slot_dict_get PySem.F.type_dict_get (bZ (cE ho I rs rg h) fun ov s1 zz=>?_);obtain⟨ox,H1,I1,rox,x,G1,q1,k1,rg1,rd1⟩:=zz;obtain⟨t1,t2⟩:=q1.1.at I1 rg1 rd1 rox;refine⟨t1,t2,?_⟩;rw[m.trees];refine Pe rfl (RM (Oe (bZ (cE he I1 (rs.mono (k1.stb rg)) rg1 q1.2) fun iv s2 ⟨iy,H2,I2,riy,y,G2,q2,k2,rg2,rd2⟩=>Oe (bZ (cE hf I2 (rs.mono ((k1.trans k2).stb rg)) rg2 q2) fun fv s3 zz=>?_))));obtain⟨fz,H3,I3,rfz,z,G3,q3,k3,rg3,rd3⟩:=zz;refine OA ?_;obtain⟨r,l,q3⟩:=q3;exact Hb (by walk_at "o") I3 rg3 l (RD.mono ((k2.trans k3).stb rg1) _ _ rd1) rox (RD.mono (k3.stb rg2) _ _ rd2) riy rd3 rfz fun v u s4 I4 rd rv=>⟨v,H3,I4,rv,k _ G3 _ H3 q3 (k1.trans (k2.trans k3)) rg3 (.of rd)⟩
end
end L3
namespace PySem.W
open PySem PyProof.Rows
def KasT.run{α:Type}(lt:Nat->Nat->Bool):Se α->α
 | .ret a=>a
 | .ask i j k=>(k (lt i j)).run lt
theorem KasT.run_bind{α β:Type}(lt:Nat->Nat->Bool)(f:α->Se β):∀ t:Se α,(t.bind f).run lt=(f (t.run lt)).run lt
 | .ret _=>rfl
 | .ask i j k=>by
  show ((k (lt i j)).bind f).run lt=_
  rw[KasT.run_bind lt f (k (lt i j))];rfl
section
variable(r:Nat->Nat)
def ms(i j:Nat):Bool:=decide (r i < r j)
def RR(p:Array Nat)(i:Nat):Nat:=r (p.getD i 0)
def m6(p:Array Nat)(n:Nat):Prop:=∀ i,i+1 < n->RR r p i<=RR r p (i+1)
def uR(p:Array Nat)(n:Nat):Prop:=∀ i,i+1 < n->RR r p (i+1)<=RR r p i
end
section
variable{r:Nat->Nat}{p:Array Nat}
theorem m6.le(h:m6 r p n)(hij:i<=j)(hj:j < n):RR r p i<=RR r p j:=by
 induction j with
 | zero=>
      have:i=0:=by walk_at "o"
      subst this;exact le_refl _
 | succ j ih=>
  rcases OV i (j+1)with h1|h1
  ·exact le_trans (ih (by walk_at "o") (by walk_at "o")) (h j hj)
  ·have:i=j+1:=by walk_at "o"
   subst this;exact le_refl _
theorem uR.le(h:uR r p n)(hij:i<=j)(hj:j < n):RR r p j<=RR r p i:=by
 induction j with
 | zero=>
      have:i=0:=by walk_at "o"
      subst this;exact le_refl _
 | succ j ih=>
  rcases OV i (j+1)with h1|h1
  ·exact le_trans (h j hj) (ih (by walk_at "o") (by walk_at "o"))
  ·have:i=j+1:=by walk_at "o"
   subst this;exact le_refl _
theorem Ab(h:p[i]?=q[j]?):RR r p i=RR r q j:=by
 unfold RR;rw[Array.getD_eq_getD_getElem?,Array.getD_eq_getD_getElem?,h]
theorem xX(hj:j<=p.size)(k:Nat):RR r (OS p i j) k=if i<=k/\k < j then RR r p (i+j - 1 - k)else RR r p k:=by
 have e:=getElem?_mirror_all (xs:=p) (i:=i) hj k;unfold OS;split
 ·rename_i h;rw[if_pos h]at e;exact Ab e
 ·rename_i h;rw[if_neg h]at e;exact Ab e
theorem hJ(i j:Nat):(OS p i j).size=p.size:=mirror_size _ _ _ _
theorem qJ(hj:j<=p.size)(he:∀ k,i<=k->k < j->RR r p k=RR r p (j - 1))(k:Nat):RR r (OS p i j) k=RR r p k:=by
 rw[xX hj];split
 ·rename_i h;rw[he _ (by walk_at "o") (by walk_at "o"),he k h.1 h.2]
 ·rfl
theorem uJ:ms r i j=true↔r i < r j:=by unfold ms;exact decide_eq_true_iff
theorem jg:ms r i j=false↔r j<=r i:=by unfold ms;rw[decide_eq_false_iff_not];omega
theorem Bh:∀ (f n:Nat),1<=n->∃ m,(kas_asc p f n).run (ms r)=m/\n<=m/\m<=n+f/\(∀ i,n<=i->i < m->RR r p (i - 1)<=RR r p i)/\(m < n+f->RR r p m < RR r p (m - 1))
 | 0,n,_=>⟨n,rfl,le_refl _,le_refl _,fun i h1 h2=>absurd h1 (by walk_at "o"),fun h=>absurd h (by walk_at "o")⟩
 | f+1,n,hn=>by
  show ∃ m,((fun c=>if c=true then KasT.ret n else kas_asc p f (n+1)) (ms r (p.getD n 0) (p.getD (n - 1) 0))).run (ms r)=m/\_
  cases e:ms r (p.getD n 0) (p.getD (n - 1) 0) with
  | true=>exact⟨n,rfl,le_refl _,by walk_at "o",fun i h1 h2=>absurd h1 (by walk_at "o"),fun _=>uJ.mp e⟩
  | false=>
   obtain⟨m,e1,h1,h2,h3,h4⟩:=Bh f (n+1) (by walk_at "o")
   refine⟨m,e1,by walk_at "o",by walk_at "o",fun i h5 h6=>?_,fun h=>h4 (by walk_at "o")⟩
   rcases OV n i with h7|h7
   ·exact h3 i h7 h6
   ·have:i=n:=by walk_at "o"
    subst this;exact jg.mp e
structure DSt(r:Nat->Nat)(p:Array Nat)(n q:Nat):Prop where
 hq:q+1<=n
 hn:n<=p.size
 dec:uR r p n
 eq:∀ k,n - (q+1)<=k->k < n->RR r p k=RR r p (n - 1)
theorem EJ:∀ k,n+1 - (0+1)<=k->k < n+1->RR r p k=RR r p (n+1 - 1):=fun k h1 h2=>by
 have:k=n+1 - 1:=by walk_at "o"
 subst this;rfl
theorem xL:∀ (f:Nat) (p:Array Nat) (n q:Nat),DSt r p n q->n+f<=p.size->∃ p' n' q',(Pc f p n q).run (ms r)=(p',n',q')/\DSt r p' n' q'/\n<=n'/\n'<=n+f/\p'.size=p.size/\p'.Perm p
 | 0,p,n,q,h,_=>⟨p,n,q,rfl,h,le_refl _,le_refl _,rfl,Array.Perm.refl _⟩
 | f+1,p,n,q,h,hf=>by
  have hq:=h.hq;show ∃ p' n' q',((fun c=>if c=true then (if q > 0 then Pc f (OS p (n - (q+1)) n) (n+1) 0 else Pc f p (n+1) 0)
   else .ask (p.getD (n - 1) 0) (p.getD n 0) fun d=>if d=true then .ret (p,n,q)else Pc f p (n+1) (q+1)) (ms r (p.getD n 0) (p.getD (n - 1) 0))).run (ms r)=(p',n',q')/\_
  cases e:ms r (p.getD n 0) (p.getD (n - 1) 0) with
  | true=>
   have lt:RR r p n < RR r p (n - 1):=uJ.mp e;have next:∀ p1:Array Nat,p1.size=p.size->p1.Perm p->(∀ k,RR r p1 k=RR r p k)->∃ p' n' q',(Pc f p1 (n+1) 0).run (ms r)=(p',n',q')/\DSt r p' n' q'/\n<=n'/\n'<=n+(f+1)/\p'.size=p.size/\p'.Perm p:=fun p1 hz hp hR=>by
    have hn:=h.hn;have dc:uR r p1 (n+1):=fun i hi=>by
     rw[hR,hR];rcases OV (i+1) n with h7|h7
     ·exact h.dec i h7
     ·have e2:n=i+1:=by walk_at "o"
      have e3:i=n - 1:=by walk_at "o"
      rw[<- e2,e3];exact le_of_lt lt
    obtain⟨p',n',q',e1,h1,h2,h3,h4,h5⟩:=xL f p1 (n+1) 0 ⟨by walk_at "o",by walk_at "o",dc,EJ⟩ (by walk_at "o")
    exact⟨p',n',q',e1,h1,by walk_at "o",by walk_at "o",by walk_at "o",h5.trans hp⟩
   show ∃ p' n' q',(if q > 0 then Pc f (OS p (n - (q+1)) n) (n+1) 0 else Pc f p (n+1) 0).run (ms r)=(p',n',q')/\_
   by_cases hq0:q > 0
   ·rw[if_pos hq0];exact next _ (hJ _ _) (QM _ _ _ _) (qJ (by walk_at "o") h.eq)
   ·rw[if_neg hq0];exact next p rfl (Array.Perm.refl _) fun _=>rfl
  | false=>
   have ge:RR r p (n - 1)<=RR r p n:=jg.mp e;show ∃ p' n' q',((fun d=>if d=true then KasT.ret (p,n,q)else Pc f p (n+1) (q+1)) (ms r (p.getD (n - 1) 0) (p.getD n 0))).run (ms r)=(p',n',q')/\_
   cases e2:ms r (p.getD (n - 1) 0) (p.getD n 0) with
   | true=>exact⟨p,n,q,rfl,h,le_refl _,by walk_at "o",rfl,Array.Perm.refl _⟩
   | false=>
    have le:RR r p n<=RR r p (n - 1):=jg.mp e2;have dc:uR r p (n+1):=fun i hi=>by
     rcases OV (i+1) n with h7|h7
     ·exact h.dec i h7
     ·have e2:n=i+1:=by walk_at "o"
      have e3:i=n - 1:=by walk_at "o"
      rw[<- e2,e3];exact le
    have eqq:∀ k,n+1 - (q+1+1)<=k->k < n+1->RR r p k=RR r p (n+1 - 1):=fun k h1 h2=>by
     show RR r p k=RR r p n
     rcases OV k n with h7|h7
     ·rw[h.eq k (by walk_at "o") h7];omega
     ·have:k=n:=by walk_at "o"
      subst this;rfl
    obtain⟨p',n',q',e1,h1,h2,h3,h4,h5⟩:=xL f p (n+1) (q+1) ⟨by walk_at "o",by walk_at "o",dc,eqq⟩ (by walk_at "o")
    exact⟨p',n',q',e1,h1,by walk_at "o",by walk_at "o",h4,h5⟩
theorem yI(h1:1<=n)(hn:n<=nrem)(hz:nrem<=p.size)(hd:uR r p n):∃ m p',(O7 n nrem p).run (ms r)=(m,p')/\1<=m/\m<=nrem/\p'.size=p.size/\p'.Perm p/\m6 r p' m:=by
 unfold O7;rw[KasT.run_bind];obtain⟨m,e,a1,a2,a3,_⟩:=Bh (r:=r) (p:=OS p 0 n) (nrem - n) n h1;rw[e];refine⟨m,_,rfl,by walk_at "o",by walk_at "o",hJ _ _,QM _ _ _ _,fun i hi=>?_⟩
 rcases OV (i+1) n with h7|h7
 ·rw[xX (by walk_at "o"),xX (by walk_at "o"),if_pos (by walk_at "o"),if_pos (by walk_at "o")]
  exact hd.le (by walk_at "o") (by walk_at "o")
 ·exact a3 (i+1) h7 hi
theorem rq(h1:1<=n)(hn:n+1<=nrem)(hz:nrem<=p.size)(hd:uR r p (n+1)):∃ m p',(P3 n nrem p).run (ms r)=(m,p')/\1<=m/\m<=nrem/\p'.size=p.size/\p'.Perm p/\m6 r p' m:=by
 unfold P3;rw[KasT.run_bind];obtain⟨p1,n1,q1,e,d,a1,a2,a3,a4⟩:=xL (r:=r) (nrem - (n+1)) p (n+1) 0 ⟨by walk_at "o",by walk_at "o",hd,EJ⟩ (by walk_at "o")
 rw[e];have hq:=d.hq
 by_cases hq0:q1 > 0
 ·show ∃ m p',(if q1 > 0 then O7 n1 nrem (OS p1 (n1 - (q1+1)) n1)else O7 n1 nrem p1).run (ms r)=(m,p')/\_
  rw[if_pos hq0];have hR:=qJ (r:=r) (p:=p1) (i:=n1 - (q1+1)) (j:=n1) d.hn d.eq;obtain⟨m,p',b1,b2,b3,b4,b5,b6⟩:=yI (r:=r) (p:=OS p1 (n1 - (q1+1)) n1) (n:=n1) (nrem:=nrem) (by walk_at "o") (by walk_at "o") (by rw[hJ];omega) (fun i hi=>by rw[hR,hR];exact d.dec i hi)
  exact⟨m,p',b1,b2,b3,by rw[b4,hJ,a3],(b5.trans (QM _ _ _ _)).trans a4,b6⟩
 ·show ∃ m p',(if q1 > 0 then O7 n1 nrem (OS p1 (n1 - (q1+1)) n1)else O7 n1 nrem p1).run (ms r)=(m,p')/\_
  rw[if_neg hq0];obtain⟨m,p',b1,b2,b3,b4,b5,b6⟩:=yI (r:=r) (p:=p1) (n:=n1) (nrem:=nrem) (by walk_at "o") (by walk_at "o") (by walk_at "o") d.dec
  exact⟨m,p',b1,b2,b3,by rw[b4,a3],b5.trans a4,b6⟩
theorem Fo(h1:1<=nrem)(hz:nrem<=p.size):∃ m p',(Ra nrem p).run (ms r)=(m,p')/\1<=m/\m<=nrem/\p'.size=p.size/\p'.Perm p/\m6 r p' m:=by
 unfold Ra;rw[KasT.run_bind];obtain⟨n,e,a1,a2,a3,a4⟩:=Bh (r:=r) (p:=p) (nrem - 1) 1 (le_refl _);rw[e];have adj:m6 r p n:=fun i hi=>a3 (i+1) (by walk_at "o") hi
 by_cases h2:n=nrem
 ·rw[if_pos (by simpa using h2)]
  exact⟨n,p,rfl,by walk_at "o",by walk_at "o",rfl,Array.Perm.refl _,adj⟩
 ·rw[if_neg (by simpa using h2)]
  have dn:RR r p n < RR r p (n - 1):=a4 (by walk_at "o")
  by_cases h3:n > 1
  ·rw[if_pos h3];show ∃ m p',((fun c=>if c=true then KasT.ret (n,p)else P3 n nrem (OS p 0 n)) (ms r (p.getD 0 0) (p.getD (n - 1) 0))).run (ms r)=(m,p')/\_
   cases e2:ms r (p.getD 0 0) (p.getD (n - 1) 0) with
   | true=>exact⟨n,p,rfl,by walk_at "o",by walk_at "o",rfl,Array.Perm.refl _,adj⟩
   | false=>
    have ge:RR r p (n - 1)<=RR r p 0:=jg.mp e2;have eq:∀ k,0<=k->k < n->RR r p k=RR r p (n - 1):=fun k _ hk=>by
     have:=adj.le (N0 k) hk;have:=adj.le (show k<=n - 1 by walk_at "o") (by walk_at "o")
     omega
    have hR:=qJ (r:=r) (p:=p) (i:=0) (j:=n) (by walk_at "o") eq
    obtain⟨m,p',b1,b2,b3,b4,b5,b6⟩:=rq (r:=r) (p:=OS p 0 n) (n:=n) (nrem:=nrem) (by walk_at "o") (by walk_at "o") (by rw[hJ];omega) (fun i hi=>by
     rw[hR,hR];rcases OV (i+1) n with h7|h7
     ·rw[eq i (by walk_at "o") (by walk_at "o"),eq (i+1) (by walk_at "o") h7];exact le_refl _
     ·have e3:n=i+1:=by walk_at "o"
      have e4:i=n - 1:=by walk_at "o"
      rw[<- e3,e4];exact le_of_lt dn)
    exact⟨m,p',b1,b2,b3,by rw[b4,hJ],b5.trans (QM _ _ _ _),b6⟩
  ·rw[if_neg h3];have e1:n=1:=by walk_at "o"
   subst e1;exact rq (by walk_at "o") (by walk_at "o") hz (fun i hi=>by
    have:i=0:=by walk_at "o"
    subst this;exact le_of_lt dn)
theorem tI(hs:m6 r p k):∀ (f l u:Nat),l<=u->u<=k->u - l<=f->(∀ i,i < l->RR r p i<=RR r p k)->(∀ i,u<=i->i < k->RR r p k < RR r p i)->
  ∃ m,(Qm p k f l u).run (ms r)=m/\m<=k/\(∀ i,i < m->RR r p i<=RR r p k)/\(∀ i,m<=i->i < k->RR r p k < RR r p i)
 | 0,l,u,h1,h2,h3,h4,h5=>⟨l,rfl,by walk_at "o",h4,fun i a b=>h5 i (by walk_at "o") b⟩
 | f+1,l,u,h1,h2,h3,h4,h5=>by
  unfold Qm
  by_cases hlu:l>=u
  ·rw[if_pos hlu];exact⟨l,rfl,by walk_at "o",h4,fun i a b=>h5 i (by walk_at "o") b⟩
  ·rw[if_neg hlu];show ∃ m,((fun c=>if c=true then Qm p k f l ((l+u) / 2)else Qm p k f ((l+u) / 2+1) u) (ms r (p.getD k 0) (p.getD ((l+u) / 2) 0))).run (ms r)=m/\_
   cases e:ms r (p.getD k 0) (p.getD ((l+u) / 2) 0) with
   | true=>
    have lt:RR r p k < RR r p ((l+u) / 2):=uJ.mp e;exact tI hs f l ((l+u) / 2) (by walk_at "o") (by walk_at "o") (by walk_at "o") h4 fun i a b=>Nl lt (hs.le a b)
   | false=>
    have ge:RR r p ((l+u) / 2)<=RR r p k:=jg.mp e;exact tI hs f ((l+u) / 2+1) u (by walk_at "o") h2 (by walk_at "o") (fun i a=>le_trans (hs.le (show i<=(l+u) / 2 by walk_at "o") (by walk_at "o")) ge) h5
theorem qK(hs:src < p.size)(hd:d<=src)(k:Nat):RR r (bubble p src d) k=if k=src - d then RR r p src else if src - d < k/\k<=src then RR r p (k - 1)else RR r p k:=by
 have e:=getElem?_bubble hs d hd k;split
 ·rename_i h;rw[if_pos h]at e;exact Ab e
 ·rename_i h;rw[if_neg h]at e;split
  ·rename_i h2;rw[if_pos h2]at e;exact Ab e
  ·rename_i h2;rw[if_neg h2]at e;exact Ab e
theorem Fu:∀ (f:Nat) (p:Array Nat) (k:Nat),k+f=p.size->m6 r p k->∃ p',(QS f p k).run (ms r)=p'/\p'.size=p.size/\p'.Perm p/\m6 r p' p.size
 | 0,p,k,h,a=>⟨p,rfl,rfl,Array.Perm.refl _,by rw[<- h];exact a⟩
 | f+1,p,k,h,a=>by
  unfold QS;rw[KasT.run_bind];obtain⟨l,e,b1,b2,b3⟩:=tI (r:=r) a k 0 k (by walk_at "o") (le_refl _) (by walk_at "o") (fun i z=>absurd z (by walk_at "o")) (fun i x y=>absurd x (by walk_at "o"))
  rw[e];have hk:k < p.size:=by walk_at "o"
  obtain⟨p',c1,c2,c3,c4⟩:=Fu f (bubble p k (k - l)) (k+1) (by rw[RK];omega) (fun i hi=>by
   have e1:=qK (r:=r) hk (show k - l<=k by walk_at "o") i
   have e2:=qK (r:=r) hk (show k - l<=k by walk_at "o") (i+1)
   have ek:k - (k - l)=l:=by walk_at "o"
   rw[ek]at e1 e2;rw[e1,e2];rcases Nat.lt_trichotomy i l with hil|hil|hil
   ·rw[if_neg (by walk_at "o"),if_neg (by walk_at "o")]
    by_cases h2:i+1=l
    ·rw[if_pos h2];exact b2 i hil
    ·rw[if_neg h2,if_neg (by walk_at "o")];exact a i (by walk_at "o")
   ·rw[if_pos hil,if_neg (by walk_at "o"),if_pos (by walk_at "o")]
    have:i+1 - 1=i:=by walk_at "o"
    rw[this];exact le_of_lt (b3 i (by walk_at "o") (by walk_at "o"))
   ·rw[if_neg (by walk_at "o"),if_pos (by walk_at "o"),if_neg (by walk_at "o"),if_pos (by walk_at "o")]
    have:i+1 - 1=(i - 1)+1:=by walk_at "o"
    rw[this];exact a (i - 1) (by walk_at "o"))
  rw[RK]at c2 c4;exact⟨p',c1,c2,c3.trans (bubble_perm _ _ _),c4⟩
theorem FR(r:Nat->Nat)(n:Nat)(hn:1<=n):∃ p,(RI n).run (ms r)=p/\p.toList.Perm (List.range n)/\m6 r p n:=by
 unfold RI;rw[KasT.run_bind];have hz:(List.toArray (List.range n)).size=n:=by simp
 obtain⟨m,p1,e,a1,a2,a3,a4,a5⟩:=Fo (r:=r) (p:=List.toArray (List.range n)) (nrem:=n) hn (by rw[hz];exact le_refl _)
 rw[e];have toL:∀ {p:Array Nat},p.Perm (List.toArray (List.range n))->p.toList.Perm (List.range n):=fun h=>by simpa using Array.perm_iff_toList_perm.mp h
 show ∃ p,(if m < n then QS (n - max m 1) p1 (max m 1)else KasT.ret p1).run (ms r)=p/\_
 by_cases h:m < n
 ·rw[if_pos h];obtain⟨p',b1,b2,b3,b4⟩:=Fu (r:=r) (n - max m 1) p1 (max m 1) (by rw[a3,hz];omega) (by rw[show max m 1=m by walk_at "o"];exact a5)
  exact⟨p',b1,toL (b3.trans a4),by rw[a3,hz]at b4;exact b4⟩
 ·rw[if_neg h];have:m=n:=by walk_at "o"
  subst this;exact⟨p1,rfl,toL a4,a5⟩
end
section
variable{κ:Type}(blt:κ->κ->Bool)
structure SWO:Prop where
 irrefl:∀ a,blt a a=false
 trans:∀ a b c,blt a b=true->blt b c=true->blt a c=true
 neg:∀ a b c,blt a c=true->blt a b=true\/blt b c=true
def rankIn(ks:List κ)(a:κ):Nat:=ks.countP fun k=>blt k a
end
section
variable{κ:Type}{blt:κ->κ->Bool}
theorem wo(ks:List κ)(h:∀ x,p x=true->q x=true):ks.countP p<=ks.countP q:=by
 induction ks with
 | nil=>exact le_refl _
 | cons x r ih=>
  rw[Qh,Qh];cases hp:p x with
  | false=>simp;split<;>omega
  | true=>rw[h x hp];simp;omega
theorem Dg{p q:κ->Bool}{ks:List κ}(h:∀ x,p x=true->q x=true){y:κ}(hy:y∈ks)(h1:p y=false)(h2:q y=true):ks.countP p < ks.countP q:=by
 induction ks with
 | nil=>simp at hy
 | cons x r ih=>
  rw[Qh,Qh];rcases NH.mp hy with rfl|hy
  ·have:=wo r h;rw[h1,h2];simp;omega
  ·have:=ih hy;cases hp:p x with
   | false=>simp;split<;>omega
   | true=>rw[h x hp];simp;omega
theorem rank_lt(o:SWO blt)(ha:a∈ks):blt a b=decide (rankIn blt ks a < rankIn blt ks b):=by
 cases e:blt a b with
 | true=>
  symm;rw[decide_eq_true_iff];exact Dg (fun x hx=>o.trans _ _ _ hx e) ha (o.irrefl a) e
 | false=>
  symm;rw[decide_eq_false_iff_not,not_lt];refine wo ks fun x hx=>?_;rcases o.neg x a b hx with h|h
  ·exact h
  ·rw[e]at h;cases h
end
def KasT.allR{α:Type}(n:Nat)(P:α->Prop):Se α->Prop
 | .ret a=>P a
 | .ask i j k=>i < n/\j < n/\∀ b,(k b).allR n P
theorem KasT.allR_mono{α:Type}{P P':α->Prop}(h:∀ a,P a->P' a):∀ {t:Se α},t.allR n P->t.allR n P'
 | .ret a,q=>h a q
 | .ask i j k,q=>⟨q.1,q.2.1,fun b=>KasT.allR_mono h (q.2.2 b)⟩
theorem KasT.allR_bind{α β:Type}{P:α->Prop}{P':β->Prop}{f:α->Se β}(h:∀ a,P a->(f a).allR n P'):∀ {t:Se α},t.allR n P->(t.bind f).allR n P'
 | .ret a,q=>h a q
 | .ask i j k,q=>⟨q.1,q.2.1,fun b=>KasT.allR_bind h (q.2.2 b)⟩
theorem KasT.walked{α:Type}{P:α->Prop}{lt:Nat->Nat->Bool}{J:MU->Prop}{cmp:Nat->Nat->(Bool->MU->Prop)->MU->Prop}{Q:α->MU->Prop}(hc:∀ i j C s,i < n->j < n->J s->(∀ s',J s'->C (lt i j) s')->cmp i j C s):∀ (t:Se α) (s:MU),t.allR n P->J s->(∀ s',J s'->P (t.run lt)->Q (t.run lt) s')->t.kasWp cmp Q s
 | .ret a,s,q,j,h=>h s j q
 | .ask i j k,s,q,hj,h=>hc i j _ s q.1 q.2.1 hj fun s' hj'=>KasT.walked hc (k (lt i j)) s' (q.2.2 _) hj' h
structure EntN(n:Nat)(p:Array Nat):Prop where
 size:p.size=n
 ent:∀ i,p.getD i 0 < n
section
variable{N:Nat}{p:Array Nat}
theorem EntN.rev(e:EntN N p)(hj:j<=N):EntN N (OS p i j):=by
 refine⟨by rw[hJ];exact e.size,fun k=>?_⟩
 have h:=xX (r:=id) (p:=p) (i:=i) (j:=j) (by rw[e.size];exact hj) k
 unfold RR at h;simp only[id]at h;rw[h];split<;>exact e.ent _
theorem EntN.bub(e:EntN N p)(hs:src < N)(hd:d<=src):EntN N (bubble p src d):=by
 refine⟨by rw[RK];exact e.size,fun k=>?_⟩
 have h:=qK (r:=id) (p:=p) (src:=src) (d:=d) (by rw[e.size];exact hs) hd k
 unfold RR at h;simp only[id]at h;rw[h];split
 ·exact e.ent _
 ·split<;>exact e.ent _
theorem Bi(e:EntN N p):∀ (f n:Nat),(kas_asc p f n).allR N fun m=>n<=m/\m<=n+f
 | 0,n=>⟨le_refl _,le_refl _⟩
 | f+1,n=>⟨e.ent _,e.ent _,fun b=>by
   cases b with
   | true=>exact⟨le_refl _,by walk_at "o"⟩
   | false=>exact KasT.allR_mono (fun m h=>⟨by walk_at "o",by walk_at "o"⟩) (Bi e f (n+1))⟩
theorem sr:∀ (f:Nat) (p:Array Nat) (n q:Nat),EntN N p->n+f<=N->(Pc f p n q).allR N fun r=>EntN N r.1/\n<=r.2.1/\r.2.1<=n+f
 | 0,p,n,q,e,_=>⟨e,le_refl _,le_refl _⟩
 | f+1,p,n,q,e,h=>⟨e.ent _,e.ent _,fun b=>by
   have mono:∀ {t:Se (Array Nat×Nat×Nat)},(t.allR N fun r=>EntN N r.1/\n+1<=r.2.1/\r.2.1<=n+1+f)->t.allR N fun r=>EntN N r.1/\n<=r.2.1/\r.2.1<=n+(f+1):=fun h=>KasT.allR_mono (fun r z=>⟨z.1,by walk_at "o",by walk_at "o"⟩) h
   cases b with
   | true=>
    show KasT.allR N _ (if q > 0 then Pc f (OS p (n - (q+1)) n) (n+1) 0 else Pc f p (n+1) 0)
    split
    ·exact mono (sr f _ (n+1) 0 (e.rev (by walk_at "o")) (by walk_at "o"))
    ·exact mono (sr f _ (n+1) 0 e (by walk_at "o"))
   | false=>exact⟨e.ent _,e.ent _,fun d=>by
     cases d with
     | true=>exact⟨e,le_refl _,show n<=n+(f+1)by walk_at "o"⟩
     | false=>exact mono (sr f p (n+1) (q+1) e (by walk_at "o"))⟩⟩
theorem yJ(e:EntN N p)(hn:n<=N):(O7 n nrem p).allR N fun r=>EntN N r.2:=by
 unfold O7;refine KasT.allR_bind (fun m _=>?_) (Bi (e.rev (i:=0) hn) (nrem - n) n);exact (e.rev hn:EntN N (OS p 0 n))
theorem rA(e:EntN N p)(hn:n+1<=nrem)(hz:nrem<=N):(P3 n nrem p).allR N fun r=>EntN N r.2:=by
 unfold P3;refine KasT.allR_bind (fun r h=>?_) (sr (nrem - (n+1)) p (n+1) 0 e (by walk_at "o"))
 obtain⟨p1,n1,q1⟩:=r;obtain⟨h1,h2,h3⟩:=h;show KasT.allR N _ (if q1 > 0 then O7 n1 nrem (OS p1 (n1 - (q1+1)) n1)else O7 n1 nrem p1)
 have hn1:n1<=N:=by simp only at h3;omega
 split
 ·exact yJ (h1.rev hn1) hn1
 ·exact yJ h1 hn1
theorem Fp(e:EntN N p)(h1:1<=nrem)(hz:nrem<=N):(Ra nrem p).allR N fun r=>EntN N r.2:=by
 unfold Ra;refine KasT.allR_bind (fun n h=>?_) (Bi e _ _)
 by_cases h2:n=nrem
 ·rw[if_pos (by simpa using h2)];exact e
 ·rw[if_neg (by simpa using h2)]
  by_cases h3:n > 1
  ·rw[if_pos h3];refine⟨e.ent _,e.ent _,fun b=>?_⟩;cases b with
   | true=>exact e
   | false=>exact rA (e.rev (by walk_at "o")) (by walk_at "o") hz
  ·rw[if_neg h3];exact rA e (by walk_at "o") hz
theorem tJ(e:EntN N p)(k:Nat):∀ (f l u:Nat),(Qm p k f l u).allR N fun _=>True
 | 0,l,u=>trivial
 | f+1,l,u=>by
  unfold Qm;split
  ·exact trivial
  ·exact⟨e.ent _,e.ent _,fun b=>by
    cases b with
    | true=>exact tJ e k f _ _
    | false=>exact tJ e k f _ _⟩
theorem Fv:∀ (f:Nat) (p:Array Nat) (k:Nat),EntN N p->k+f<=N->(QS f p k).allR N (EntN N)
 | 0,p,k,e,_=>e
 | f+1,p,k,e,h=>by
  unfold QS;refine KasT.allR_bind (fun l _=>?_) (tJ e k k 0 k);exact Fv f _ (k+1) (e.bub (by walk_at "o") (by walk_at "o")) (by walk_at "o")
theorem FS(hn:1<=n):(RI n).allR n (EntN n):=by
 have e:EntN n (List.toArray (List.range n)):=⟨by simp,fun i=>by
  rw[Array.getD_eq_getD_getElem?,List.getElem?_toArray];cases h:(List.range n)[i]? with
  | none=>exact hn
  | some x=>exact mem_range.mp (Ni h)⟩
 unfold RI;refine KasT.allR_bind (fun r h=>?_) (Fp e hn (le_refl _));obtain⟨m,p⟩:=r;show KasT.allR n _ (if m < n then QS (n - max m 1) p (max m 1)else KasT.ret p)
 split
 ·exact Fv _ _ _ h (by walk_at "o")
 ·exact h
end
section
variable{α:Type}(blt:α->α->Bool)
structure STO:Prop where
 irrefl:∀ a,blt a a=false
 trans:∀ a b c,blt a b=true->blt b c=true->blt a c=true
 tot:∀ a b,blt a b=false->blt b a=false->a=b
def vg[DecidableEq α]:List α->List α->Bool
 | [],[]=>false
 | [],_::_=>true
 | _::_,[]=>false
 | a::r,b::t=>if a=b then vg r t else blt a b
end
section
variable{α:Type}{blt:α->α->Bool}
variable[DecidableEq α]
theorem lY(a b:α)(r t:List α):vg blt (a::r) (b::t)=if a=b then vg blt r t else blt a b:=rfl
theorem BW(o:STO blt):STO (vg blt) where
 irrefl:=by
  intro a
  induction a with
  | nil=>rfl
  | cons x r ih=>rw[lY,if_pos rfl,ih]
 trans:=by
  intro a
  induction a with
  | nil=>
   intro b c h1 h2;cases c with
   | nil=>cases b<;>cases h2
   | cons _ _=>rfl
  | cons x r ih=>
   intro b c h1 h2;cases b with
   | nil=>cases h1
   | cons y t=>
    cases c with
    | nil=>cases h2
    | cons z u=>
     rw[lY]at h1 h2 ⊢
     by_cases e1:x=y
     ·subst e1;rw[if_pos rfl]at h1
      by_cases e2:x=z
      ·subst e2;rw[if_pos rfl]at h2 ⊢;exact ih t u h1 h2
      ·rw[if_neg e2]at h2 ⊢;exact h2
     ·rw[if_neg e1]at h1
      by_cases e2:y=z
      ·subst e2;rw[if_neg e1];exact h1
      ·rw[if_neg e2]at h2;have h3:=o.trans _ _ _ h1 h2;rw[if_neg (fun e=>by subst e;rw[o.irrefl]at h3;cases h3)]
       exact h3
 tot:=by
  intro a
  induction a with
  | nil=>
   intro b h1 h2;cases b with
   | nil=>rfl
   | cons _ _=>cases h1
  | cons x r ih=>
   intro b h1 h2;cases b with
   | nil=>cases h2
   | cons y t=>
    rw[lY]at h1 h2
    by_cases e1:x=y
    ·subst e1;rw[if_pos rfl]at h1 h2;rw[ih t h1 h2]
    ·rw[if_neg e1]at h1;rw[if_neg (Ne.symm e1)]at h2;exact absurd (o.tot _ _ h1 h2) e1
end
def zm(a b:Nat):Bool:=decide (a < b)
theorem BN:STO zm:=⟨fun a=>by simp[zm],fun a b c h1 h2=>by simp only[zm,decide_eq_true_eq]at *;omega,fun a b h1 h2=>by simp only[zm,decide_eq_false_iff_not]at *;omega⟩
theorem tX:∀ a b:List Nat,vg zm a b=decide (a < b)
 | [],[]=>by simp[vg]
 | [],b::t=>by simp[vg]
 | a::r,[]=>by simp[vg]
 | a::r,b::t=>by
  rw[lY]
  by_cases e:a=b
  ·subst e;rw[if_pos rfl,tX r t];simp
  ·rw[if_neg e];simp[zm,List.cons_lt_cons_iff,e]
end PySem.W
namespace L3
open PySem PySem.Spec PyProof.Rows L2 PySem.SeqAt
open PySem.AutoSeq1 (wpAny_loadPart')
open PySem.MeetsSeq PySem.MeetsSeq2 PySem.MeetsSeq3
def dP(blt:D->D->Bool):List D->List D->Bool
 | [],[]=>false
 | [],_::_=>true
 | _::_,[]=>false
 | a::r,b::t=>if dC a b=true then dP blt r t else blt a b
def mm:Nat->D->D->Bool
 | _,.int a,.int b=>decide (a < b)
 | _,.str x,.str y=>decide (x.cps.toList < y.cps.toList)
 | n+1,.tup xs,.tup ys=>dP (mm n) xs ys
 | _,_,_=>false
def KP(n:Nat)(P:D->D->Prop):List D->List D->Prop
 | a::r,b::t=>(pl n a/\pl n b)/\(a≠b->P a b)/\KP n P r t
 | _,_=>True
def Fn:Nat->D->D->Prop
 | _,.int _,.int _=>True
 | _,.str _,.str _=>True
 | n+1,.tup xs,.tup ys=>KP n (Fn n) xs ys
 | _,_,_=>False
def Hm(op:PX)(A:Nb)(s:MU)(v u:MS)(b:Bool):Prop:=
 ∀ (prog:M9) (w:Ng) (E:MS->MU->Prop) (Q:MS->MU->Prop),Q (.bool b) s->MZ (M0 prog w) A (richCompare op v u) Q E s
def wB(op:PX)(fin:Bool)(A:Nb)(s:MU):List MS->List MS->Bool->Prop
 | v::vs,u::us,out=>∃ e,EqAt A s v u e/\(e=true->wB op fin A s vs us out)/\(e=false->Hm op A s v u out)
 | _,_,out=>out=fin
theorem CO:∀ {vs us:List MS},wB op fin A s vs us out->vs.zip us=[]->out=fin
 | [],_,h,_=>h
 | _::_,[],h,_=>h
 | _::_,_::_,_,e=>by rw[Pi]at e;cases e
theorem Aq(l b:MT)(items items2:Array MS)(n n2:Nat)(dd dd2:Option MT)(sl sl2:Array (Option MS))(out:Bool):
  Meets (Builtin.«tuple.__lt__» ⟨[.ref l,.ref b],[]⟩)
   (fun A R s=>s.heap.get? l=some { cls:=.type "tuple",dict:=dd,data:=.seq items n,slots:=sl }/\s.heap.get? b=some { cls:=.type "tuple",dict:=dd2,data:=.seq items2 n2,slots:=sl2 }/\
    wB .Lt (decide (items.size < items2.size)) A.in1 s items.toList items2.toList out/\R (.ok (.ret (.bool out))) s):=
 .of_wp fun prog w A R s h=>by
  obtain⟨hp,g,d,tk,os⟩:=s;obtain⟨hl,hb,hx,h⟩:=h;have f2:=AutoSeq1.sub_tuple_tuple
  wp_walk using wpAny_loadPart' hl,wpAny_loadPart' hb,wpAny_forIn_list _ (fun c8 b s'=>b.1=none/\s'=⟨hp,g,d,tk,os⟩/\∃ vs ws,c8=vs.zip ws/\wB .Lt (decide (items.size < items2.size)) A.in1 ⟨hp,g,d,tk,os⟩ vs ws out) _
  case turn=>
   rintro⟨y,x⟩ c8 b s' ⟨hb',rfl,vs,ws,hz,lx⟩
   cases vs with
   | nil=>rw[List.zip_nil_left]at hz;cases hz
   | cons v vs=>
    cases ws with
    | nil=>rw[List.zip_nil_right]at hz;cases hz
    | cons u ws=>
     rw[Pi]at hz;injection hz with hyx S6
     injection hyx with hy hx'
     subst hy hx';obtain⟨e,he,l1,l2⟩:=lx;refine MR (he prog w _ _ ?_);cases e with
     | true=>
      wp_walk
      exact⟨rfl,rfl,_,_,S6,l1 rfl⟩
     | false=>
      have hri:=l2 rfl prog w
      wp_walk using hri
      exact⟨_,rfl,by simpa using h⟩
  case fin=>
   rintro⟨b1,b2⟩ s' ⟨hb',rfl,vs,ws,hz,lx⟩
   simp only at hb';subst hb';have hv:=CO lx hz.symm;rw[hv]at h
   wp_walk
   exact⟨_,rfl,by simpa[Builtin.Tuple.tupleCompareSizes]using h⟩
  case h=>
   exact⟨rfl,rfl,items.toList,items2.toList,rfl,hx⟩
theorem ER(hl:s.heap.IsTuple l items)(hb:s.heap.IsTuple b items2)(hu:A.units < NF)(hx:wB .Lt (decide (items.size < items2.size)) A.in1 s items.toList items2.toList out):Hm .Lt A s (.ref l) (.ref b) out:=fun prog w E Q h=>by
 obtain⟨⟨cls,dd,data,sl⟩,ho,hc,n,hd⟩:=id hl;obtain⟨⟨cls2,dd2,data2,sl2⟩,ho2,hc2,n2,hd2⟩:=id hb;simp only at hc hd hc2 hd2;subst hc hd hc2 hd2;exact richCompare_meets_room (op:=.Lt) ⟨_,ho,rfl⟩ ⟨_,ho2,rfl⟩ PySem.F.slot_tuple_lt PySem.F.entry_tuple_lt (PySem.F.args_tuple_lt_2 _ _) (Aq l b items items2 n n2 dd dd2 sl sl2 out)
  ⟨ho,ho2,hx,show Value.bool out≠Value.notImplemented/\Q (.bool out) s from ⟨(fun x=>nomatch x),h⟩⟩ hu
section
variable{X:Cx}{pins:List (MT×Obj)}{σ:St}{H:Hp}{s:MU}
theorem zt(I:Inv X pins σ H s)(hu:A.units+n < NF)(ih:∀ {x y:D} {v u:V} {v' u':MS},Fn n x y->RD X.K H x v->RD X.K H y u->aH v v'->aH u u'->Hm .Lt A s v' u' ( mm n x y)):
  ∀ {ds es:List D} {xs ys:List V} {us ws:List MS},KP n (Fn n) ds es->RDs X.K H ds xs->RDs X.K H es ys->Vals xs us->Vals ys ws->ds.length+N2=es.length+N1->wB .Lt (decide (N1 < N2)) A s us ws ( dP (mm n) ds es)
 | [],es,xs,ys,us,ws,_,r1,r2,w1,w2,hl=>by
  rw[r1.inv_nil]at w1;cases w1;show ( dP (mm n) [] es)=decide (N1 < N2)
  cases es with
  | nil=>
   simp only[NA]at hl;have e1:N2=N1:=by walk_at "o"
   subst e1;simp[dP]
  | cons b t=>
   simp only[NA,Nc]at hl;have:N1 < N2:=by walk_at "o"
   simp[dP];omega
 | a::r,[],xs,ys,us,ws,_,r1,r2,w1,w2,hl=>by
  rw[r2.inv_nil]at w2;cases w2;obtain⟨x1,t1,e1,_,_⟩:=r1.inv_cons;subst e1;cases w1;show ( dP (mm n) (a::r) [])=decide (N1 < N2)
  simp only[NA,Nc]at hl;have:N2 < N1:=by walk_at "o"
  simp[dP];omega
 | a::r,b::t,xs,ys,us,ws,⟨p,c,q⟩,r1,r2,w1,w2,hl=>by
  obtain⟨x1,t1,e1,g1,g2⟩:=r1.inv_cons;subst e1;obtain⟨x2,t2,e2,f1,f2⟩:=r2.inv_cons;subst e2;cases w1 with
  | cons k1 w1=>
  cases w2 with
  | cons k2 w2=>
   refine⟨dC a b,(zV I n p.1 p.2 g1 f1 k1 k2 hu).eq,fun e=>?_,fun e=>?_⟩
   ·rw[show dP (mm n) (a::r) (b::t)=dP (mm n) r t by simp[dP,e]]
    simp only[Nc]at hl;exact zt I hu ih q g2 f2 w1 w2 (by walk_at "o")
   ·rw[show dP (mm n) (a::r) (b::t)=mm n a b by simp[dP,e]]
    exact ih (c fun z=>by rw[z,a_]at e;cases e) g1 f1 k1 k2
theorem II(I:Inv X pins σ H s):∀ (n:Nat) {x y:D} {v u:V} {v' u':MS} {A:Nb},Fn n x y->RD X.K H x v->RD X.K H y u->aH v v'->aH u u'->A.units+n < NF->Hm .Lt A s v' u' ( mm n x y):=by
 intro n
 induction n with
 | zero=>
  intro x y v u v' u' A c rx ry lx ly hu;cases x<;>cases y<;>first|exact c.elim|skip
  ·simp only[RD]at rx ry;subst rx ry;obtain⟨t,rfl⟩:=lx;obtain⟨t',rfl⟩:=ly;intro prog w E Q h;exact (PyProof.Rows.lt_int h:MZ (M0 prog w) A (Nr .Lt (.int _ t) (.int _ t')) Q E s)
  ·simp only[RD]at rx ry;subst rx ry;obtain⟨t,rfl⟩:=lx;obtain⟨t',rfl⟩:=ly;intro prog w E Q h;exact (PySem.P.lt_str h:MZ (M0 prog w) A (Nr .Lt (.str _ t) (.str _ t')) Q E s)
 | succ n ih=>
  intro x y v u v' u' A c rx ry lx ly hu;cases x<;>cases y<;>first|exact c.elim|skip
  ·simp only[RD]at rx ry;subst rx ry;obtain⟨t,rfl⟩:=lx;obtain⟨t',rfl⟩:=ly;intro prog w E Q h;exact (PyProof.Rows.lt_int h:MZ (M0 prog w) A (Nr .Lt (.int _ t) (.int _ t')) Q E s)
  ·simp only[RD]at rx ry;subst rx ry;obtain⟨t,rfl⟩:=lx;obtain⟨t',rfl⟩:=ly;intro prog w E Q h;exact (PySem.P.lt_str h:MZ (M0 prog w) A (Nr .Lt (.str _ t) (.str _ t')) Q E s)
  ·rename_i ds es;simp only[RD]at rx ry;obtain⟨a,xs,rfl,s1,r1⟩:=rx;obtain⟨b,ys,rfl,s2,r2⟩:=ry;cases lx;cases ly;obtain⟨its,w1,t1,z1⟩:=I.tuple s1;obtain⟨its2,w2,t2,z2⟩:=I.tuple s2;have l1:=w1.length;have l1':=r1.length;have l2:=w2.length;have l2':=r2.length;refine ER t1 t2 (by walk_at "o") ?_
   exact zt I (A:=A.in1) (by show A.units+1+n < NF;omega) (fun c rx ry lx ly=>ih c rx ry lx ly (by show A.units+1+n < NF;omega)) c r1 r2 w1 w2 (by simp only[M8];omega)
end
def LS:R3:=fun x y G Q=>Fn 4 x y/\Q (.bl (! mm 4 x y)) G
open PySem.W
def mz(h:Nf)(d:MT)(vs:List MS)(ep:Nat):Prop:=∃ o es,h.get? d=some o/\o.ExactDict/\o.data=.dict es ep/\es.toList.map (·.val)=vs
section
variable{prog:M9}{w:Ng}{A:Nb}{E:MS->MU->Prop}{s:MU}{d r it:MT}{vs:List MS}{ep i:Nat}
theorem mz.ty(x:mz s.heap d vs ep):s.TypeIs (.ref d) "dict":=let ⟨o,_,e,z,_⟩:=x;⟨o,e,z.1⟩
theorem mz.there(x:mz h d vs ep):d < h.objs.size:=let ⟨_,_,e,_⟩:=x;M4 e
theorem mz.stay(x:mz h d vs ep)(k:∀ o,h.get? d=some o->h'.get? d=some o):mz h' d vs ep:=let ⟨o,es,e,z⟩:=x;⟨o,es,k o e,z⟩
theorem tE(hs:(d == NC)=false):MeetsIn prog w (Builtin.«dict.values» ⟨[.ref d],[]⟩) (fun _ R s=>(∃ vs ep,mz s.heap d vs ep)/\
  R (.ok (.ret (.ref s.heap.objs.size))) { s with heap:=s.heap.push { cls:=.type "dict_values",data:=.fields #[.ref d] } }):=
 .of_wp fun A R s zz=>by
  obtain⟨⟨vs,ep,x⟩,q⟩:=zz;refine MR ?_;unfold Builtin.Dict.noArgs;refine MR (Pf x.ty ?_);show MZ _ _ (pure d) _ _ s;refine MV ?_
  show MZ _ _ (OQ d >>= _) _ _ s;unfold OQ
  rw[if_neg (fun z=>by rw[hs]at z;cases z)];refine MR (MV ?_)
  exact MR (Nx (MV ⟨_,rfl,q⟩))
theorem D9(hr:s.heap.IsValuesView r d)(x:mz s.heap d vs ep)(q:Q (.ref s.heap.objs.size) { s with heap:=s.heap.push { cls:=.type "dict_valueiterator",data:=.fields #[.ref d,.int 0 0,.int vs.length 0,.int ep 0] } }):MZ (M0 prog w) A (Pr (.ref r)) Q E s:=by
 obtain⟨ov,e1,c1,d1⟩:=id hr;obtain⟨o,es,e2,c2,d2,rfl⟩:=x;refine Qw hr.typeIs Re (NY Re hr.typeIs F.entry_dict_values_iter ?_ (F.args_dict_values_iter_1 _));unfold Builtin.«dict_values.__iter__»;refine MR (MV ?_);refine MR ?_;unfold Builtin.Dict_items.dictOf;refine MR (N3 e1 d1 (x:=.ref d) rfl (MV ?_));refine MR ?_;unfold Builtin.Dict_items.newIterator;refine MR (Oi e2 d2 ?_);refine MR (OO e2 d2 ?_);have own:Ol "dict_valueiterator"=false:=by decide
 simp only[own,Bool.false_eq_true,if_false];refine Nx (MV ⟨_,rfl,"dict_valueiterator",_,⟨_,M3 _ rfl,rfl⟩,OE.lookup,?_⟩)
 simpa[Ov]using q
theorem D_(hi:s.heap.IsValIter it d i vs.length ep)(x:mz s.heap d vs ep)(hv:vs[i]?=some v)(q:∀ h',h'.IsValIter it d (i+1) vs.length ep->ON it s.heap h'->Q (some v) { s with heap:=h' }):MZ (M0 prog w) A (OK (.ref it)) Q E s:=by
 obtain⟨o,e1,c1,d1⟩:=id hi;obtain⟨od,es,e2,c2,d2,rfl⟩:=x;unfold OK;refine MR (OB (N5 (name:=MW "__next__") hi.typeIs OE (NY OE hi.typeIs QD ?_ (QB _))));refine MR (MV ?_);refine MR ?_;refine MR ?_
 first|refine MR (OF hi.typeIs (MV ?_))|refine MR (OY hi.typeIs (MV ?_))
 refine MR (Qd e1 d1 ?_);have own:Ol "dict_valueiterator"=false:=by decide
 simp only[own,Bool.false_eq_true,if_false];show MZ _ _ (if (Value.ref d == Value.none)=true then _ else _) _ _ s;rw[if_neg (show ¬ ((Value.ref d == Value.none)=true)from Bool.false_ne_true)]
 refine MR (MV ?_);refine MR (Oi e2 d2 ?_);have z:es.size=(es.toList.map (·.val)).length:=by simp
 rw[if_neg (by rw[z];simp)];refine MR (MV ?_);refine MR (OO e2 d2 ?_)
 rw[if_neg (by simp)];refine MV ?_
 have lt:i < es.size:=by
  rw[z];rcases OV i (es.toList.map (·.val)).length with h|h
  ·exact h
  ·rw[Oc h]at hv;cases hv
 have val:es[i].val=v:=by
  rw[Nd]at hv
  simpa[lt]using hv
 simp only[show ¬ ((i:Int) < 0)from by walk_at "o",if_false,Int.toNat_natCast,Array.getElem?_eq_getElem lt];refine MR ?_
 first|refine MR (OF hi.typeIs (MV ?_))|refine MR (OY hi.typeIs (MV ?_))
 refine MR (Qa hi.typeIs ?_);show MZ _ _ (QX (.ref it) 1 (Ov ((i:Int)+1)) >>= _) _ _ s;refine MR (OT e1 d1 (by simp) ?_)
 have hi':(s.heap.update it (NE (·.setIfInBounds 1 (Ov ((i:Int)+1))))).IsValIter it d (i+1) (es.toList.map (·.val)).length ep:=
  ⟨_,N9 _ e1 (Ou (NT d1 _)),(PL ..).trans c1,by rw[NT d1];simp[Ov]⟩
 refine MR (Nz ?_);refine MR (Qa (s:={ s with heap:=s.heap.update it (NE (·.setIfInBounds 1 (Ov ((i:Int)+1)))) }) hi'.typeIs ?_)
 refine MR (Qa (s:={ s with heap:=s.heap.update it (NE (·.setIfInBounds 1 (Ov ((i:Int)+1)))) }) hi'.typeIs ?_);show MZ _ _ (pure es[i].val) _ _ _
 exact MV (MV ⟨_,rfl,MV (val ▸ q _ hi' (Pq ..))⟩)
theorem F4(hh:A.handled=none)(hi:s.heap.IsValIter it d i vs.length ep)(x:mz s.heap d vs ep)(hv:vs[i]?=none)(q:∀ h',Heap.ExtBut it s.heap h'->Q none { s with heap:=h' }):MZ (M0 prog w) A (OK (.ref it)) Q E s:=by
 obtain⟨o,e1,c1,d1⟩:=id hi;obtain⟨od,es,e2,c2,d2,rfl⟩:=x;unfold OK;refine MR (OB (N5 (name:=MW "__next__") hi.typeIs OE (NY OE hi.typeIs QD ?_ (QB _))));refine MR (MV ?_);refine MR ?_;refine MR ?_
 first|refine MR (OF hi.typeIs (MV ?_))|refine MR (OY hi.typeIs (MV ?_))
 refine MR (Qd e1 d1 ?_);have own:Ol "dict_valueiterator"=false:=by decide
 simp only[own,Bool.false_eq_true,if_false];show MZ _ _ (if (Value.ref d == Value.none)=true then _ else _) _ _ s;rw[if_neg (show ¬ ((Value.ref d == Value.none)=true)from Bool.false_ne_true)]
 refine MR (MV ?_);refine MR (Oi e2 d2 ?_);have z:es.size=(es.toList.map (·.val)).length:=by simp
 rw[if_neg (by rw[z];simp)];refine MR (MV ?_);refine MR (OO e2 d2 ?_)
 rw[if_neg (by simp)];refine MV ?_
 have ge:es.size<=i:=by rw[z];simpa using hv
 simp only[show ¬ ((i:Int) < 0)from by walk_at "o",if_false,Int.toNat_natCast,Array.getElem?_eq_none ge];refine MR ?_
 first|refine MR (OF hi.typeIs (MV ?_))|refine MR (OY hi.typeIs (MV ?_))
 show MZ _ _ (QX (.ref it) 0 .none >>= _) _ _ s;refine MR (OT e1 d1 (by simp) ?_)
 show MZ _ _ (newExc (.type "StopIteration") [] >>= _) _ _ _;refine MR ?_
 simp only[newExc,newTuple];refine MR (Nx ?_ (by size_fits))
 refine MR (m:=Qg _ _) (wpAny_of_eq (a:=Value.none) (by first|rfl|(simp only[Qg];rfl)) ?_);refine Nx ?_ (by size_fits)
 simp only[raiseNew];refine MR (wpAny_handled ?_);rw[show A.in1.handled=none from hh]
 refine MR (MV (wpAny_throw ?_));refine MR (PQ (T:="StopIteration") (b:=true) ⟨_,M3 _ rfl,rfl⟩ QZ ?_);exact MV (q _ (((Pq ..).extBut.push _).push _))
theorem D8(hh:A.handled=none)(hne:d≠it):Walks prog w A it [it,d] [it] vs.length (fun i v=>vs[i]?=some v) (fun i h=>h.IsValIter it d i vs.length ep/\mz h d vs ep) where
 sub:=fun b hb=>by rw[Q6.mp hb];exact M_
 frame:=fun _ _ _ t k=>⟨t.1.at fun o e=>k it M_ o e,t.2.stay fun o e=>k d (M7 _ M_) o e⟩
 item:=fun i s Q E hi t q=>by
  obtain⟨v,hv⟩:∃ v,vs[i]?=some v:=⟨vs[i],by simp[hi]⟩
  refine D_ t.1 t.2 hv fun h' a b=>?_;exact q v h' s.toks hv ⟨a,t.2.stay fun o e=>b.extBut d o hne e⟩ fun c o hc e=>b.extBut c o (fun z=>hc (by rw[z];exact M_)) e
 done:=fun s Q E t q=>F4 hh t.1 t.2 (by simp) fun h' b=>q h' s.toks fun c o hc e=>b c o (fun z=>hc (by rw[z];exact M_)) e
 self:=fun _ _ _ _ t q=>wpAny_pyIter_valiter t.1 q
theorem BE:KdlSrc prog w "dict_values" r d vs.length (fun i v=>vs[i]?=some v) (fun h=>h.IsValuesView r d/\mz h d vs ep) where
 type:=fun _ x=>x.1.typeIs
 there:=fun _ x=>⟨let ⟨_,e,_⟩:=x.1;M4 e,x.2.there⟩
 keep:=fun _ _ x k=>⟨let ⟨o,e,z⟩:=x.1;⟨o,k r (.inl rfl) o e,z⟩,x.2.stay fun o e=>k d (.inr rfl) o e⟩
 notList:=by decide
 notTuple:=by decide
 hint:=fun _ _ _ _ x q=>kdl_hint_values x.1.typeIs q
 iter:=fun _ _ hh x=>⟨_,_,(fun _ _ q=>D9 x.1 x.2 q),D8 hh (Np x.2.there),⟨⟨_,M3 _ rfl,rfl,rfl⟩,x.2.stay fun o e=>MX _ e⟩⟩
end
def XO(a:MT)(o:Obj):HO:=.ext fun h=>h.get? a=some o
theorem Dx(e:h.get? a=some o):ba P w H h a (XO a o):=⟨e,⟨o,e⟩,fun _ _ p k=>k _ p⟩
section
variable{X:Cx}{pins:List (MT×Obj)}{τ:St}{H H0:Hp}{s:MU}{G:Gp}{a:MT}{o:Obj}{u:HO}
theorem lH(I:Inv X pins τ H s)(e:H a=some (XO a o)):s.heap.get? a=some o:=(show ba X.prog X.w H s.heap a (XO a o)from I.hok a _ e).1
theorem qz(I:Inv X pins τ H s)(ha:s.heap.objs.size=a)(hh:h'=s.heap.push o)(hf:o.isFreed=false:=by rfl):Inv X pins τ (aR H a (XO a o)) { s with heap:=h',toks:=t' }:=by
 subst ha hh;exact I.laid (fun _ _ e=>MX _ e) (le_refl _) (Dx (M3 _ hf))
theorem uj(I:Inv X pins τ H s)(e:H a=some (XO a o))(e':(s.heap.update a f).get? a=some o'):Inv X pins τ (aR H a (XO a o')) { s with heap:=s.heap.update a f,toks:=t' }:=
 I.write (x:=a) (e:=a) (by rw[e];exact trivial) (.inl rfl) (fun b u hb hu=>(Ny s.heap f (Ne.symm hb)).trans hu) ⟨_,e'⟩ (Dx e')
theorem ng{K:Po}(mu:FB (H a)):Stb K H (aR H a u) where
 t:=fun b xs q=>by
  rcases q with (q|⟨z,q⟩)|q
  ·exact .inl (.inl (by rw[ar (fun e=>by subst e;rw[q]at mu;exact mu)];exact q))
  ·exact .inl (.inr ⟨z,by rw[ar (fun e=>by subst e;rw[q]at mu;exact mu)];exact q⟩)
  ·exact .inr q
 l:=fun b xs q=>by
  rcases q with ⟨z,q⟩|q
  ·exact .inl ⟨z,by rw[ar (fun e=>by subst e;rw[q]at mu;exact mu)];exact q⟩
  ·exact .inr q
theorem BD{K:Po}(rg:RG K H G)(g:G a=none)(mu:FB (H a)):RG K (aR H a u) G:=fun b z q=>by
 obtain⟨h,e1,r⟩:=rg b z q;have hb:b≠a:=fun e=>by subst e;rw[q]at g;cases g
 exact⟨h,by rw[ar hb];exact e1,r.mono (ng mu)⟩
theorem zD(k:Kp G H0 G H)(n:H0 a=none):Kp G H0 G (aR H a u):=fun b h e g=>⟨by rw[ar (bH e n)];exact (k b h e g).1,g⟩
theorem GN(F:FnOk X.prog X.w X.K X.mg X.base pJ k f fd ps (b9 X.K sp))(hb:eJ X.K fd ps [])(hr:Room k A)(hA:Env0 X.prog X.w X.K X.mg X.base A X.stack s H)(I:Inv X pins τ H s)(rg:RG X.K H G)(rd:RD X.K H d v)(rv:aH v x)(hs:sp [d] G fun z G'=>z=kd/\G'=G)(nf:∀ l,kd≠.fl l)(q:∀ u v' H' s',Inv X pins τ H' s'->Kp G H G H'->RG X.K H' G->RD X.K H' kd v'->aH v' u->Q u s'):MZ (M0 X.prog X.w) A (call (.ref f) [x]) Q E s:=by
 have sp1:b9 X.K sp [v] H (fun v' H'=>Kp G H G H'/\RG X.K H' G/\RD X.K H' kd v') (fun _ _ _=>False):=
  ⟨[d],G,_,RDs.cons rd RDs.nil,rg,hs,fun z G' v' H' e k1 rg1 re=>by obtain⟨rfl,rfl⟩:=e;exact⟨k1,rg1,re.rd nf⟩⟩
 have r2:Vals [v] [x]:=.cons rv .nil;have hl:([x] ++ ([]:List MS)).length=ps.length:=by
  have:=F.len _ _ _ _ sp1
  simpa using this
 refine Pg (Oy (F.run A X.stack s H ⟨[x],[]⟩ ([x] ++ []) [v] _ _ hr hA (hb s [x] I.kIn hl) (by simpa using r2) sp1) fun r s' hq=>?_)
 cases r with
 | error e=>exact False.elim hq
 | ok fl=>
  cases fl with
  | ret u=>
   obtain⟨v',H',I',rv',k1,rg1,rd1⟩:=I.after hq;exact q u v' H' s' I' k1 rg1 rd1 rv'
  | next=>exact False.elim hq
  | brk=>exact False.elim hq
  | cont=>exact False.elim hq
end
theorem zE{X:Cx}{pins:List (MT×Obj)}{τ:St}{H0:Hp}{G:Gp}{k:Nat}{f:MT}{fd:N4}{ps:List Str}{sp:cG}{A:Nb}{E:MS->MU->Prop}(F:FnOk X.prog X.w X.K X.mg X.base pJ k f fd ps (b9 X.K sp))(hb:eJ X.K fd ps [])(hr:Room k A)
  (hA:∀ {s H},Inv X pins τ H s->Env0 X.prog X.w X.K X.mg X.base A X.stack s H) {S D0:MT} {oD:Obj} (nS:H0 S=none) (nD:H0 D0=none) (gS:G S=none) (gD:G D0=none) (hne:S≠D0)
  {body:MS->PUnit->Sem (ForInStep PUnit)}
  (hbd:∀ x s Q,MZ (M0 X.prog X.w) A (call (.ref f) [x]) (fun u s'=>MZ (M0 X.prog X.w) A (Builtin.List.listUpdate (.ref S) (·.push u)) (fun _=>Q (.yield ⟨⟩)) E s') (fun _ _=>False) s->MZ (M0 X.prog X.w) A (body x ⟨⟩) Q E s):
  ∀ {ds ks:List D} {vs:List V} {us:List MS},ks.length=ds.length->(∀ (i:Nat) d kd,ds[i]?=some d->ks[i]?=some kd->(sp [d] G fun z G'=>z=kd/\G'=G)/\∀ l,kd≠.fl l)->
   ∀ {H:Hp} {s:MU} {done:List D} {kv:List V} {ku:List MS} {n:Nat},Inv X pins τ H s->Kp G H0 G H->RG X.K H G->RDs X.K H ds vs->Vals vs us->H D0=some (XO D0 oD)->H S=some (XO S (OJ "list" ku.toArray n))->RDs X.K H done kv->Vals kv ku->ku.length+us.length < 64->
   ∀ {Q:PUnit->MU->Prop},(∀ H' s' kv' ku' n',Inv X pins τ H' s'->Kp G H0 G H'->RG X.K H' G->H' D0=some (XO D0 oD)->H' S=some (XO S (OJ "list" ku'.toArray n'))->RDs X.K H' (done ++ ks) kv'->Vals kv' ku'->Stb X.K H H'->Q ⟨⟩ s')->
   MZ (M0 X.prog X.w) A (forIn us PUnit.unit body) Q E s
 | [],ks,vs,us,hl,hk,H,s,done,kv,ku,n,I,kp,rg,rds,rv,eD,eS,rdk,rvk,hz,Q,q=>by
  rw[rds.inv_nil]at rv;cases rv;rw[PV];have:ks=[]:=length_eq_zero_iff.mp (by simpa using hl)
  subst this;exact MV (q H s kv ku n I kp rg eD eS (by rw[Od];exact rdk) rvk ⟨fun _ _ z=>z,fun _ _ z=>z⟩)
 | d::ds,[],vs,us,hl,_,_,_,_,_,_,_,_,_,_,_,_,_,_,_,_,_,_,_=>by simp at hl
 | d::ds,kd::ks,vs,us,hl,hk,H,s,done,kv,ku,n,I,kp,rg,rds,rv,eD,eS,rdk,rvk,hz,Q,q=>by
  obtain⟨v,t,e,h1,h2⟩:=rds.inv_cons;subst e;cases rv with
  | @cons _ x _ us l rv=>
   rw[O5];obtain⟨hs,nf⟩:=hk 0 d kd rfl rfl;refine MR (hbd x s _ (GN F hb hr (hA I) I rg h1 l hs nf fun u v' H' s' I' k1 rg1 rd1 rv1=>?_));have eS':=(k1 S _ eS gS).1;have eD':=(k1 D0 _ eD gD).1;have st1:=k1.stb rg;have oS:=lH I' eS';simp only[Nc]at hz;refine Qq oS rfl ?_ (by rw[M8,N6];omega) (by rw[Array.size_push,M8,N6];omega)
   have ea:ku.toArray.push u=(ku ++ [u]).toArray:=by simp
   have e2:=P9 oS (·.push u);rw[ea]at e2;generalize (if ((ku ++ [u]).toArray.size == ku.toArray.size)=true then n else n+1)=n2 at e2
   have mu:FB (H' S):=by rw[eS'];exact trivial
   have I2:=uj (t':=s'.toks) I' eS' e2;have st2:Stb X.K H' (aR H' S (XO S (OJ "list" (ku ++ [u]).toArray n2))):=ng mu;refine zE F hb hr hA nS nD gS gD hne hbd (ds:=ds) (ks:=ks) (by simpa using hl) (fun i d' kd' a b=>hk (i+1) d' kd' (by simpa using a) (by simpa using b)) I2 (zD (kp.trans k1) nS) (BD rg1 gS mu)
    (RDs.mono st2 _ _ (RDs.mono st1 _ _ h2)) rv (by rw[ar hne.symm];exact eD') aF (done:=done ++ [kd]) (kv:=kv ++ [v']) (RDs.append (RDs.mono st2 _ _ (RDs.mono st1 _ _ rdk)) (RDs.cons (RD.mono st2 _ _ rd1) RDs.nil)) (rvk.append (.cons rv1 .nil)) (by simp;omega)
    fun H3 s3 kv3 ku3 n3 I3 kp3 rg3 eD3 eS3 rd3 rv3 st3=>q H3 s3 kv3 ku3 n3 I3 kp3 rg3 eD3 eS3 (by simpa using rd3) rv3 ⟨fun b xs z=>st3.t _ _ (st2.t _ _ (st1.t _ _ z)),fun b xs z=>st3.l _ _ (st2.l _ _ (st1.l _ _ z))⟩
section
variable{X:Cx}{pins:List (MT×Obj)}{τ:St}{H H0:Hp}{s:MU}{G:Gp}
theorem HL(I:L2.Inv X pins τ H s)(hu:A.units+n < NF):
  ∀ {ds es:List D} {xs ys:List V} {us ws:List MS} {i:Nat},(b && i == 0)=false->KP n (Fn n) ds es->RDs X.K H ds xs->RDs X.K H es ys->Vals xs us->Vals ys ws->ds.length+N2=es.length+N1->Q (dP (mm n) ds es) s->
   KatLex X.prog X.w A b (decide (N1 < N2)) Q (us.zip ws) i s
 | [],es,xs,ys,us,ws,i,hb,c,r1,r2,w1,w2,hl,q=>by
  rw[r1.inv_nil]at w1;cases w1;rw[List.zip_nil_left];refine kat_nil ?_;cases es with
  | nil=>
   simp only[NA]at hl;rw[decide_eq_false (by walk_at "o")]
   exact q
  | cons b t=>
   simp only[NA,Nc]at hl;rw[decide_eq_true (by walk_at "o")]
   exact q
 | a::r,[],xs,ys,us,ws,i,hb,c,r1,r2,w1,w2,hl,q=>by
  rw[r2.inv_nil]at w2;cases w2;rw[List.zip_nil_right];refine kat_nil ?_;simp only[NA,Nc]at hl;rw[decide_eq_false (by walk_at "o")]
  exact q
 | a::r,b'::t,xs,ys,us,ws,i,hb,⟨p,c,z⟩,r1,r2,w1,w2,hl,q=>by
  obtain⟨x1,t1,e1,g1,g2⟩:=r1.inv_cons;subst e1;obtain⟨x2,t2,e2,f1,f2⟩:=r2.inv_cons;subst e2;cases w1 with
  | cons k1 w1=>
  cases w2 with
  | cons k2 w2=>
   rw[Pi];refine kat_cons ((zV I n p.1 p.2 g1 f1 k1 k2 hu).eq X.prog X.w _ _ (kat_go (fun e=>kat_yes ?_) fun e=>kat_no ?_))
   ·rw[show dP (mm n) (a::r) (b'::t)=dP (mm n) r t by simp[dP,e]]at q
    simp only[Nc]at hl;exact HL I hu (by simp) z g2 f2 w1 w2 (by walk_at "o") q
   ·rw[show dP (mm n) (a::r) (b'::t)=mm n a b' by simp[dP,e]]at q
    rw[hb];refine kat_one _ _ ?_;exact (II I n (c fun y=>by rw[y,a_]at e;cases e) g1 f1 k1 k2 hu) X.prog X.w _ _ q
def CU(d:D):Prop:=∃ t r,d=.tup (.int t::r)
theorem Lb(I:L2.Inv X pins τ H s)(hu:A.units+4 < NF)(cp:Fn 4 kx ky)(hx:CU kx)(hy:CU ky)(rx:RD X.K H kx v)(ry:RD X.K H ky u)(lx:aH v v')(ly:aH u u')(q:C (mm 4 kx ky) s):MZ (M0 X.prog X.w) A (keyLt' (tuples' true) v' u') C E s:=by
 obtain⟨i,r,rfl⟩:=hx;obtain⟨j,t,rfl⟩:=hy;simp only[RD]at rx ry;obtain⟨a,xs,rfl,s1,r1⟩:=rx;obtain⟨b,ys,rfl,s2,r2⟩:=ry;cases lx;cases ly;obtain⟨its,w1,⟨o1,h1,c1,n1,d1⟩,z1⟩:=I.tuple s1;obtain⟨its2,w2,⟨o2,h2,c2,n2,d2⟩,z2⟩:=I.tuple s2;refine kat_lt h1 d1 h2 d2 ?_;have l1:=w1.length;have l1':=r1.length;have l2:=w2.length;have l2':=r2.length;obtain⟨x1,t1,e1,g1,g2⟩:=RDs.inv_cons (d:=.int i) (ds:=r) r1;subst e1;obtain⟨x2,t2,e2,f1,f2⟩:=RDs.inv_cons (d:=.int j) (ds:=t) r2;subst e2;simp only[RD]at g1 f1;subst g1 f1;cases w1 with
 | @cons _ u1 _ m1 k1 w1=>
 cases w2 with
 | @cons _ u2 _ m2 k2 w2=>
  obtain⟨tk,rfl⟩:=k1;obtain⟨tk',rfl⟩:=k2;obtain⟨p,c,z⟩:=(show KP 3 (Fn 3) (.int i::r) (.int j::t)from cp)
  have q':C (dP (mm 3) (.int i::r) (.int j::t)) s:=q;show KatLex _ _ _ _ _ _ ((_::m1).zip (_::m2)) 0 s
  rw[Pi];refine kat_cons ((zV I 3 (x:=.int i) (y:=.int j) (v:=.int i) (u:=.int j) p.1 p.2 eA eA ⟨tk,rfl⟩ ⟨tk',rfl⟩ (by walk_at "o")).eq X.prog X.w _ _ (kat_go (fun e=>kat_yes ?_) fun e=>kat_no ?_))
  ·rw[show dP (mm 3) (.int i::r) (.int j::t)=dP (mm 3) r t by simp[dP,e]]at q'
   simp only[Nc]at l1 l1' l2 l2';exact HL I (by walk_at "o") (by simp) z g2 f2 w1 w2 (by simp only[M8,Nc];omega) q'
  ·rw[show dP (mm 3) (.int i::r) (.int j::t)=mm 3 (.int i) (.int j)by simp[dP,e]]at q'
   show MZ _ _ (oneLt' true _ _) _ _ _
   exact oneLt_int q'
theorem I_(I:L2.Inv X pins τ H s)(hk:∀ d∈ks,CU d)(r:RDs X.K H ks kv)(w:Vals kv ku)(hn:0 < ks.length)(q:Q (tuples' true) s):
  MZ (M0 X.prog X.w) A (keyKind' ku.toArray) Q E s:=by
 have go:∀ {ks:List D} {kv:List V} {ku:List MS},(∀ d∈ks,CU d)->RDs X.K H ks kv->Vals kv ku->∃ fs,KatTups s.heap ku fs/\fs.length=ks.length/\∀ v∈fs,∃ i t,v=Value.int i t:=by
  intro ks
  induction ks with
  | nil=>
   intro kv ku _ r w;rw[r.inv_nil]at w;cases w;exact⟨[],KatTups.nil,rfl,fun v hv=>by simp at hv⟩
  | cons d t ih=>
   intro kv ku hk r w;obtain⟨x1,t1,e1,g1,g2⟩:=r.inv_cons;subst e1;cases w with
   | cons k1 w=>
    obtain⟨fs,h1,h2,h3⟩:=ih (fun d hd=>hk d (M7 _ hd)) g2 w;obtain⟨i,rr,rfl⟩:=hk d M_;simp only[RD]at g1;obtain⟨a,xs,rfl,s1,r1⟩:=g1;cases k1;obtain⟨its,w1,⟨o1,e1,c1,n1,d1⟩,z1⟩:=I.tuple s1;obtain⟨y1,u1,e2,g3,_⟩:=RDs.inv_cons (d:=.int i) (ds:=rr) r1;subst e2;simp only[RD]at g3;subst g3;cases w1 with
    | cons k2 w1=>
     obtain⟨tk,rfl⟩:=k2;refine⟨.int i tk::fs,KatTups.cons e1 c1 d1 (by simp) h1,by simp[h2],fun v hv=>?_⟩
     rcases NH.mp hv with rfl|hv
     ·exact⟨i,tk,rfl⟩
     ·exact h3 v hv
 obtain⟨fs,h1,h2,h3⟩:=go hk r w;refine kat_kind (T:=.type "int") h1 (by walk_at "o") (fun v hv=>?_) (by decide) ?_
 ·obtain⟨i,t,rfl⟩:=h3 v hv;exact Looks.of_pure rfl
 ·rw[show (Value.type "int" != Value.type "tuple")=true by decide]
  exact q
end
section
variable{X:Cx}{pins:List (MT×Obj)}{τ:St}{H H0:Hp}{s:MU}{G:Gp}{S D0:MT}{A:Nb}{E:MS->MU->Prop}{P:PySem.Fin->MU->Prop}
theorem yH(I:L2.Inv X pins τ H s)(rg:RG X.K H G)(kp:Kp G H0 G H)(nS:H0 S=none)(nD:H0 D0=none)(gS:G S=none)(gD:G D0=none)(hne:S≠D0){e1 n:Nat}{ku out:List MS}{ov:List V}{st:SortSt}
  (eD:H D0=some (XO D0 (OJ "list" #[] e1))) (eS:H S=some (XO S (OJ "list" ku.toArray n))) (hz:ku.length < 64) (ho:(arrOf st).map (·.2)=out.toArray) (hf:failedOf st=none) (hv:Vals ov out) (hl:out.length < 64)
  (q:∀ H' s',L2.Inv X pins τ H' s'->Kp G H0 G H'->RG X.K H' G->H' D0=some (.lst ov)->Stb X.K H H'->P (.done (.ret .none)) s'):MZ (M0 X.prog X.w) A (ksk_tail D0 false e1 (.ref S) st) P E s:=by
 unfold ksk_tail;dsimp only;rw[ho];simp only[Bool.false_eq_true,if_false];have oS:=lH I eS;have e2:=P9 oS (fun _=>(#[]:Array MS));have mu:FB (H S):=by rw[eS];exact trivial
 have I1:=uj (t':=s.toks) I eS e2;have eD1:(aR H S (XO S (OJ "list" #[] (if ((#[]:Array MS).size == ku.toArray.size)=true then n else n+1)))) D0=some (XO D0 (OJ "list" #[] e1)):=by rw[ar hne.symm];exact eD
 have oD:=lH I1 eD1;have mu2:FB ((aR H S (XO S (OJ "list" #[] (if ((#[]:Array MS).size == ku.toArray.size)=true then n else n+1)))) D0):=by rw[eD1];exact trivial
 have e3:=P9 oD (fun _=>out.toArray);refine MR (Qq oS rfl ?_ (by rw[M8,N6];omega) (N0 _))
 refine MR (QJ ?_);refine MR (seqEpoch_at oD rfl ?_);refine MR (Qq oD rfl ?_ (N0 _) (by rw[M8,N6];omega))
 rw[hf];simp only[bne_self_eq_false,Bool.false_eq_true,if_false];have I2:=I1.write (x:=D0) (e:=D0) (o:=.lst ov) (t':=s.toks) mu2 (.inl rfl) (fun b u hb hu=>(Ny _ (OD fun _=>out.toArray) (Ne.symm hb)).trans hu) ⟨_,e3⟩ ⟨by rw[hv.length,N6];omega,out,_,hv,e3⟩
 refine MV (q _ _ I2 (zD (zD kp nS) nD) (BD (BD rg gS mu) gD mu2) aF ?_);exact⟨fun b xs z=>(ng mu2).t _ _ ((ng mu).t _ _ z),fun b xs z=>(ng mu2).l _ _ ((ng mu).l _ _ z)⟩
theorem C8(w:Vals vs us)(i:Nat)(hi:i < vs.length):aH (vs.getD i .non) (us.getD i .none):=by
 have hl:=w.length;obtain⟨v,e,r⟩:=Vals.getV (i:=i) (u:=us[i]'(by walk_at "o")) w (by simp)
 rw[Nj,Nj,e,M6 (by walk_at "o")]
 exact r
theorem zp(w:Vals vs us):∀ {p:List Nat},(∀ i∈p,i < vs.length)->Vals (p.map fun i=>vs.getD i .non) (p.map fun i=>us.getD i .none)
 | [],_=>.nil
 | i::r,h=>.cons (C8 w i (h i M_)) (zp w fun j hj=>h j (M7 _ hj))
theorem Fb{K:Po}{ds:List D}{vs:List V}(r:RDs K H ds vs)(i:Nat)(hi:i < vs.length):RD K H (ds.getD i .non) (vs.getD i .non):=by
 obtain⟨d,e,q⟩:=RDs.getV (i:=i) r (M6 hi);rw[Nj,Nj,e,M6 hi];exact q
theorem BS{K:Po}{ds:List D}{vs:List V}(r:RDs K H ds vs):∀ {p:List Nat},(∀ i∈p,i < vs.length)->RDs K H (p.map fun i=>ds.getD i .non) (p.map fun i=>vs.getD i .non)
 | [],_=>RDs.nil
 | i::t,h=>RDs.cons (Fb r i (h i M_)) (BS r fun j hj=>h j (M7 _ hj))
theorem range_getD{α:Type}(l:List α)(d:α):(List.range l.length).map (fun i=>l.getD i d)=l:=by
 refine List.ext_getElem (by simp) fun i h1 h2=>?_
 simp[h2]
theorem GY(I:L2.Inv X pins τ H s)(rg:RG X.K H G)(kp:Kp G H0 G H)(nS:H0 S=none)(nD:H0 D0=none)(gS:G S=none)(gD:G D0=none)(hne:S≠D0)(eD:H D0=some (XO D0 (OJ "list" #[] e1)))(eS:H S=some (XO S (OJ "list" ku.toArray n)))(rk:RDs X.K H ks kv)(wk:Vals kv ku)(wv:Vals vs us)(hl:ku.length=us.length)(hz:us.length < 64)(hu:A.units+4 < NF)(hk:∀ d∈ks,CU d)(hc:∀ a∈ks,∀ b∈ks,Fn 4 a b)(r:Nat->Nat)(hr:∀ i j a b,ks[i]?=some a->ks[j]?=some b->mm 4 a b=decide (r i < r j))(q:∀ (p:List Nat) H' s',p.Perm (List.range us.length)->(p.map r).Pairwise (·<=·)->L2.Inv X pins τ H' s'->Kp G H0 G H'->RG X.K H' G->H' D0=some (.lst (p.map fun i=>vs.getD i .non))->Stb X.K H H'->P (.done (.ret .none)) s'):
  MZ (M0 X.prog X.w) A (ksk_end D0 false us.toArray e1 (.ref S) ku.toArray) P E s:=by
 have lk:=wk.length;have lk':=rk.length;have lv:=wv.length;unfold ksk_end;dsimp only;simp only[Bool.false_eq_true,if_false]
 by_cases h2:us.length < 2
 ·have hs:us.toArray.size < 2:=by rw[M8];exact h2
  rw[if_pos hs,if_pos hs];refine MR (MV ?_);refine MR (MV ?_);refine yH I rg kp nS nD gS gD hne eD eS (by walk_at "o") (out:=us) (ov:=vs) (st:=SortSt.mk' general' (ku.toArray.zip us.toArray) #[] 7 none) ?_ rfl wv hz fun H' s' I' kp' rg' e' st'=>?_
  ·apply Array.toList_inj.mp;show ((ku.toArray.zip us.toArray).map (·.2)).toList=_
   rw[Array.toList_map,ksk_zip];simp[List.map_snd_zip,hl]
  ·refine q (List.range us.length) H' s' (List.Perm.refl _) ?_ I' kp' rg' (by rw[<- lv,range_getD];exact e') st'
   have:us.length=0\/us.length=1:=by walk_at "o"
   rcases this with e|e<;>rw[e]<;>simp[List.range_succ]
 ·have hs:¬ us.toArray.size < 2:=by rw[M8];exact h2
  rw[if_neg hs,if_neg hs];obtain⟨p,ep,hp,adj⟩:=FR r us.length (by walk_at "o")
  refine MR (I_ I hk rk wk (by walk_at "o") ?_)
  refine MR (Nn (kat_run (Q:=fun st' s'=>∃ p':Array Nat,arrOf st'=p'.map (kas_item (ku.toArray.zip us.toArray))/\failedOf st'=none/\s'=s/\p'=p) hl (by walk_at "o") hz (G:=fun p' s'=>s'=s/\p'=p)
   (fun p' st' s' a1 a2 a3 a4=>⟨p',a2,a3,a4.1,a4.2⟩) ?_) ?_ fun _ _ x=>x)
  ·refine KasT.walked (lt:=ms r) (J:=fun s'=>s'=s) (fun i j C s' hi hj e c=>?_) _ s (FS (by walk_at "o")) rfl fun s' e _=>⟨e,ep⟩
   subst e;unfold kas_ask;obtain⟨v1,f1,g1⟩:=Vals.getV (i:=i) (u:=ku[i]'(by walk_at "o")) wk (by simp)
   obtain⟨v2,f2,g2⟩:=Vals.getV (i:=j) (u:=ku[j]'(by walk_at "o")) wk (by simp)
   obtain⟨d1,b1,c1⟩:=RDs.getV rk f1;obtain⟨d2,b2,c2⟩:=RDs.getV rk f2;have m1:=Ni b1;have m2:=Ni b2;rw[show ku.getD i Value.none=ku[i]'(by walk_at "o")by simp[show i < ku.length by walk_at "o"],show ku.getD j Value.none=ku[j]'(by walk_at "o")by simp[show j < ku.length by walk_at "o"]]
   refine Lb I hu (hc _ m1 _ m2) (hk _ m1) (hk _ m2) c1 c2 g1 g2 ?_;rw[hr i j d1 d2 b1 b2];exact c _ rfl
  ·rintro⟨⟨⟩,st'⟩ s' ⟨p',har,hf,rfl,rfl⟩
   dsimp only;have lp:p'.toList.length=us.length:=by rw[hp.length_eq,List.length_range]
   have inr:∀ i∈p'.toList,i < us.length:=fun i hi=>mem_range.mp (hp.mem_iff.mp hi);refine yH I rg kp nS nD gS gD hne eD eS (by walk_at "o") (out:=p'.toList.map fun i=>us.getD i Value.none) (ov:=p'.toList.map fun i=>vs.getD i .non) (kat_snds hl har) hf (zp wv fun i hi=>by rw[lv];exact inr i hi) (by rw[MY,lp];exact hz) fun H' s' I' kp' rg' e' st'=>?_
   refine q p'.toList H' s' hp ?_ I' kp' rg' e' st';rw[List.pairwise_map,List.pairwise_iff_getElem];intro i j hi hj hij;have h:=adj.le (le_of_lt hij) (by walk_at "o")
   unfold RR at h;have gi:p'.getD i 0=p'.toList[i]:=by
    have:i < p'.size:=by simpa using hi
    simp[Array.getD,this]
   have gj:p'.getD j 0=p'.toList[j]:=by
    have:j < p'.size:=by simpa using hj
    simp[Array.getD,this]
   rw[gi,gj]at h;exact h
end
structure SortBy(sp:cG)(G:Gp)(ds:List D)(ks:List D)(r:Nat->Nat):Prop where
 few:ds.length < 64
 len:ks.length=ds.length
 key:∀ (i:Nat) d kd,ds[i]?=some d->ks[i]?=some kd->sp [d] G fun z G'=>z=kd/\G'=G
 ki:∀ d∈ks,CU d
 cp:∀ a∈ks,∀ b∈ks,Fn 4 a b
 lt:∀ i j a b,ks[i]?=some a->ks[j]?=some b->mm 4 a b=decide (r i < r j)
section
variable{X:Cx}{pins:List (MT×Obj)}{τ:St}{H H0:Hp}{s:MU}{G:Gp}{S D0:MT}{A:Nb}{E:MS->MU->Prop}{P:PySem.Fin->MU->Prop}
 {k:Nat} {f:MT} {fd:N4} {ps:List Str} {sp:cG} {ds ks:List D} {r:Nat->Nat} {vs:List V} {us:List MS}
theorem DY(F:FnOk X.prog X.w X.K X.mg X.base pJ k f fd ps (b9 X.K sp))(hb:eJ X.K fd ps [])(hr:Room k A)(hA:∀ {s H},L2.Inv X pins τ H s->Env0 X.prog X.w X.K X.mg X.base A X.stack s H)(sb:SortBy sp G ds ks r)(hu:A.units+4 < NF)(I:L2.Inv X pins τ H s)(rg:RG X.K H G)(kp:Kp G H0 G H)(nS:H0 S=none)(nD:H0 D0=none)(gS:G S=none)(gD:G D0=none)(hne:S≠D0)(eD:H D0=some (XO D0 (OJ "list" #[] e1)))(eS:H S=some (XO S (OJ "list" #[] 0)))(rd:RDs X.K H ds vs)(wv:Vals vs us)(q:∀ (p:List Nat) H' s',p.Perm (List.range ds.length)->(p.map r).Pairwise (·<=·)->L2.Inv X pins τ H' s'->Kp G H0 G H'->RG X.K H' G->H' D0=some (.lst (p.map fun i=>vs.getD i .non))->Stb X.K H H'->P (.done (.ret .none)) s'):
  MZ (M0 X.prog X.w) A (ksk_rest D0 (.ref f) false us.toArray e1 (.ref S)) P E s:=by
 have l1:=rd.length;have l2:=wv.length;have few:=sb.few;unfold ksk_rest;refine MR (PZ ?_)
 first
  | rw[List.forIn_toArray]
  | (rw[<- Array.forIn_toList];simp only[List.toList_toArray])
  | rw[<- Array.forIn_toList]
 refine MR (zE F hb hr hA nS nD gS gD hne (fun x s' Q' h=>?_) sb.len (fun i d kd a b=>⟨sb.key i d kd a b,fun l e=>?_⟩) I kp rg rd wv eD (ku:=[]) (n:=0) (done:=[]) (kv:=[]) eS RDs.nil .nil (by simp only[NA];omega)
  fun H' s' kv' ku' n' I' kp' rg' eD' eS' rk wk st=>?_)
 ·refine MR (OB (Nn h (fun u s'' hu'=>?_) fun _ _ hF=>hF.elim));dsimp only;exact MR (Nn hu' (fun _ s3 hq=>MV hq) fun _ _ x=>x)
 ·obtain⟨t,rr,e2⟩:=sb.ki kd (Ni b);rw[e2]at e;cases e
 ·have l3:=rk.length;have l4:=wk.length;have sl:=sb.len;simp only[Ph]at rk l3;refine MR (listItems_at (lH I' eS') rfl ?_);refine GY I' rg' kp' nS nD gS gD hne eD' eS' rk wk wv (by walk_at "o") (by walk_at "o") hu sb.ki sb.cp r sb.lt fun p H'' s'' hp hs I'' Uu Uo e'' st''=>?_
  refine q p H'' s'' (by rw[show ds.length=us.length by walk_at "o"];exact hp) hs I'' Uu Uo e'' ⟨fun b xs z=>st''.t _ _ (st.t _ _ z),fun b xs z=>st''.l _ _ (st.l _ _ z)⟩
theorem DJ(F:FnOk X.prog X.w X.K X.mg X.base pJ k f fd ps (b9 X.K sp))(hb:eJ X.K fd ps [])(hr:Room k A)(hA:∀ {s H},L2.Inv X pins τ H s->Env0 X.prog X.w X.K X.mg X.base A X.stack s H)(sb:SortBy sp G ds ks r)(hu:A.units+4 < NF)(I:L2.Inv X pins τ H s)(rg:RG X.K H G)(kp:Kp G H0 G H)(h0:∀ a,H a=none->H0 a=none)(nD:H0 D0=none)(gD:G D0=none)(eD:H D0=some (XO D0 (OJ "list" us.toArray n)))(rd:RDs X.K H ds vs)(wv:Vals vs us)(q:∀ (p:List Nat) H' s',p.Perm (List.range ds.length)->(p.map r).Pairwise (·<=·)->L2.Inv X pins τ H' s'->Kp G H0 G H'->RG X.K H' G->H' D0=some (.lst (p.map fun i=>vs.getD i .non))->Stb X.K H H'->P (.done (.ret .none)) s'):
  MZ (M0 X.prog X.w) A (ksk_tree D0 (.ref f) false) P E s:=by
 have l1:=rd.length;have l2:=wv.length;have few:=sb.few;have oD:=lH I eD;have mu:FB (H D0):=by rw[eD];exact trivial
 have e2:=P9 oD (fun _=>(#[]:Array MS));generalize (if ((#[]:Array MS).size == us.toArray.size)=true then n else n+1)=e1 at e2
 have I1:=uj (t':=s.toks) I eD e2;unfold ksk_tree;refine MR (listItems_at oD rfl ?_);refine MR (Qq oD rfl ?_ (by rw[M8,N6];omega) (N0 _))
 refine MR (seqEpoch_at e2 rfl ?_);refine MR (QV ?_ (by show us.length<=_;rw[N6];omega))
 refine MR (wpAny_newList ?_ (N0 _));refine Nz ?_;have I2:L2.Inv X pins τ _ { s with heap:=(s.heap.update D0 (OD fun _=>#[])).push { cls:=.type "tuple",data:=.seq us.toArray } }:=I1.kept (t':=s.toks) fun b u e=>MX _ e
 have fS:=I2.fresh;have I3:=qz (t':=s.toks) (o:=OJ "list" #[] 0) I2 rfl rfl;have hS0:H ((s.heap.update D0 (OD fun _=>(#[]:Array MS))).push { cls:=.type "tuple",data:=.seq us.toArray }).objs.size=none:=by
  by_cases e:((s.heap.update D0 (OD fun _=>(#[]:Array MS))).push { cls:=.type "tuple",data:=.seq us.toArray }).objs.size=D0
  ·rw[e]at fS;rw[aF]at fS;cases fS
  ·rw[ar e]at fS;exact fS
 have hne:((s.heap.update D0 (OD fun _=>(#[]:Array MS))).push { cls:=.type "tuple",data:=.seq us.toArray }).objs.size≠D0:=fun e=>by rw[e,eD]at hS0;cases hS0
 have rg1:RG X.K (aR H D0 (XO D0 (OJ "list" #[] e1))) G:=BD rg gD mu;have st1:Stb X.K H (aR H D0 (XO D0 (OJ "list" #[] e1))):=ng mu;have st2:Stb X.K (aR H D0 (XO D0 (OJ "list" #[] e1))) (aR (aR H D0 (XO D0 (OJ "list" #[] e1))) ((s.heap.update D0 (OD fun _=>(#[]:Array MS))).push { cls:=.type "tuple",data:=.seq us.toArray }).objs.size (XO ((s.heap.update D0 (OD fun _=>(#[]:Array MS))).push { cls:=.type "tuple",data:=.seq us.toArray }).objs.size (OJ "list" #[] 0))):=(Kp.laid (G:=G) fS).stb rg1;refine DY F hb hr hA sb hu I3 (rg1.laid fS) (zD (zD kp nD) (h0 _ hS0)) (h0 _ hS0) nD (rg.free hS0) gD hne (by rw[ar hne.symm,aF]) aF (RDs.mono st2 _ _ (RDs.mono st1 _ _ rd)) wv fun p H' s' hp hs I' kp' rg' e' st'=>?_
 exact q p H' s' hp hs I' kp' rg' e' ⟨fun b xs z=>st'.t _ _ (st2.t _ _ (st1.t _ _ z)),fun b xs z=>st'.l _ _ (st2.l _ _ (st1.l _ _ z))⟩
theorem Au(F:FnOk X.prog X.w X.K X.mg X.base pJ k f fd ps (b9 X.K sp))(hb:eJ X.K fd ps [])(hr:Room (k+2) X.A)(sb:SortBy sp G ds ks r)(hu:X.A.units+8 < NF)(hh:X.A.handled=none)(I:L2.Inv X pins τ H s)(rg:RG X.K H G)(hv:s.heap.IsValuesView vw d)(dr:mz s.heap d us ep)(rd:RDs X.K H ds vs)(wv:Vals vs us)(q:∀ (p:List Nat) D0 H' s',p.Perm (List.range ds.length)->(p.map r).Pairwise (·<=·)->L2.Inv X pins τ H' s'->Kp G H G H'->RG X.K H' G->H D0=none->H' D0=some (.lst (p.map fun i=>vs.getD i .non))->RDs X.K H' (p.map fun i=>ds.getD i .non) (p.map fun i=>vs.getD i .non)->Q (.ref D0) s'):
  MZ (M0 X.prog X.w) X.A (call (.builtin "sorted") [.ref vw] [(MW "key",.ref f)]) Q E s:=by
 have l1:=rd.length;have l2:=wv.length;have few:=sb.few;refine call_function_entry_kw kind_sorted plain_sorted entry_sorted (ksk_s1 _ _) ?_;unfold Builtin.«sorted»;refine MR (m:=checkCount "sorted" 1 1 _) (MV ?_);refine MR (kdu_collect (A:=X.A.in1) (BE (r:=vw) (d:=d) (vs:=us) (ep:=ep)) hh ⟨hv,dr⟩ (by rw[N6];omega) fun h' tk acc hk hacc=>?_)
 have ea:acc.toList=us:=by
  refine List.ext_getElem? fun i=>?_;rcases OV i acc.size with h|h
  ·have e:acc[i]?=some acc[i]:=by simp[h]
   have:=hacc.2 i _ e;rw[this];simp[h]
  ·rw[Oc (by simpa using h),Oc (by rw[<- hacc.1];exact h)]
 rw[ea];have I1:L2.Inv X pins τ H { s with heap:=h',toks:=tk }:=I.kept hk
 refine MR (wpAny_newList ?_ (by rw[N6];omega))
 have fD:=I1.fresh;have I2:=qz (t':=tk) (o:=OJ "list" us.toArray 0) I1 rfl rfl;have st:Stb X.K H (aR H h'.objs.size (XO h'.objs.size (OJ "list" us.toArray 0))):=(Kp.laid (G:=G) fD).stb rg;refine MR (Nz (wpAny_call_entry_kw slot_list_sort ⟨_,lH I2 aF,rfl⟩ entry_list_sort ?_ (ksk_l1 _ _)));rw[ksk_t1];refine DJ F hb (hr.in1.in1) (fun J=>J.env0.in1.in1) sb (by show X.A.units+1+1+4 < NF;omega) I2 (rg.laid fD) (Kp.laid fD) (fun a e=>?_) fD (rg.free fD) aF (RDs.mono st _ _ rd) wv fun p H' s' hp hs I' kp' rg' e' st'=>⟨_,rfl,?_⟩
 ·by_cases h:a=h'.objs.size
  ·subst h;exact fD
  ·rw[ar h]at e;exact e
 ·refine MV ⟨_,rfl,q p _ H' s' hp hs I' kp' rg' fD e' (BS (RDs.mono st' _ _ (RDs.mono st _ _ rd)) fun i hi=>?_)⟩;rw[<- l1];exact mem_range.mp (hp.mem_iff.mp hi)
end
def A9(sp:cG)(to:aV):aV:=fun σ G Q=>to σ G fun x G1=>match val x with
 | .ref a=>match G1 a with
  | some (.dT _ kvs)=>∃ ks r,SortBy sp G1 (kvs.map (·.2)) ks r/\∀ p:List Nat,p.Perm (List.range (kvs.map (·.2)).length)->(p.map r).Pairwise (·<=·)->Q (.fl (p.map fun i=>(kvs.map (·.2)).getD i .non)) G1
  | _=>False
 | _=>False
theorem yT{K:Po}{H:Hp}{kvs:List (List aB×D)}{xs:List (List aB×MT×MS)}(r:m3 K H kvs xs):∃ vs,RDs K H (kvs.map (·.2)) vs/\Vals vs (xs.map (·.2.2)):=by
 unfold m3 at r
 induction r with
 | nil=>exact⟨[],RDs.nil,.nil⟩
 | cons h _ ih=>
  obtain⟨_,_,v,h1,h2⟩:=h;obtain⟨vs,a,b⟩:=ih;exact⟨v::vs,RDs.cons h1 a,.cons h2 b⟩
theorem Go{X:Cx}{k:Nat}{f:Str}{sp:cG}{o:Nh}{to:aV}{p0 apos cpos np Ut pos:Pos}(F:Fn3 X.prog X.w X.K X.mg X.base k f [] sp)(hr:Room (k+2) X.A)(hc:X.calm=true)(hgf:Gl X f)(hg:Gl X "sorted")(hm:X.mg "sorted"=none)(ho:PE X o (aA X.K to))
  (Sz:Op o "values" X.env (eval o X.env)=eval o X.env:=by rfl) (SG:(apos.endLine == cpos.line)=true:=by rfl) (hdf:(f == ("__debug__":Str))=false:=by decide):
  PE X (.Call (.Name "sorted" p0) [.Call (.Attribute o "values" apos) [] [] cpos] [⟨some "key",.Name f np,Ut⟩] pos) (aA X.K (A9 sp to)):=by
 obtain⟨fa,fd,ps,dv,dvs,ok,hmf,_,hb,hv0,hd0⟩:=F.ex;have e0:dvs=[]:=(hd0 (fun _=>none)).inv_nil;subst e0;cases hv0;have hu:=hr.units
 rintro pins s τ H Q I ⟨σ,G,Q3,rs,rg,h,kf⟩
 refine OI (gB I hg hm (u:=.builtin "sorted") (by decide +kernel) ?_ (by decide) (by decide))
 refine callWith_kw (id:="sorted") ?_;show MZ _ _ (spliced [(false,eval (.Call (.Attribute o "values" apos) [] [] cpos) X.env)]) _ _ _
 refine Oe (Q7 Sz SG (bZ (cE ho I rs rg h) fun ov s1 zz=>?_));obtain⟨ox,H1,I1,rox,x,G1,q1,k1,rg1,rd1⟩:=zz;split at q1
 ·rename_i a hx;rw[hx]at rd1;simp only[RD]at rd1;subst rd1;cases rox;split at q1
  ·rename_i hw kvs hga;obtain⟨ks,r,sb,q1⟩:=q1;obtain⟨hob,eo,ro⟩:=rg1 a _ hga;cases hob with
   | ext φ=>
    obtain⟨xs,rfl,rt,nd,hz⟩:=ro;obtain⟨hsm,o1,es,ep,g1,g2,g3,g4⟩:=(show ba X.prog X.w H1 s1.heap a (.ext (pI hw a xs))from I1.hok a _ eo).1
    obtain⟨vs,rv,wv⟩:=yT rt;have dr:mz s1.heap a (xs.map (·.2.2)) ep:=⟨o1,es,g1,g2,g3,by rw[g4,Nq];rfl⟩
    refine⟨"dict","dict.values",PySem.F.plainAttrs_dict,PySem.F.slot_dict_values,PySem.F.type_dict_values,dr.ty,fun b e=>?_,?_⟩
    ·cases e;exact⟨o1,g1,g2.2.1⟩
    ·refine Pe rfl (PySem.evalArgs_none (P7 PySem.F.slot_dict_values dr.ty PySem.F.entry_dict_values (PySem.F.args_dict_values_1 _) (tE hsm) ⟨⟨_,ep,dr⟩,?_⟩));refine OA ?_;have I2:L2.Inv X pins τ H1 { s1 with heap:=s1.heap.push { cls:=.type "dict_values",data:=.fields #[.ref a] } }:=I1.kept (t':=s1.toks) fun b u e=>MX _ e
     show MZ _ _ (evalAll [(do let v <- eval (.Name f np) X.env;O2 pos;pure v)]) _ _ _
     refine wpAny_evalAll_cons (MR (jE I2 hgf hmf (MR (Pj (MV (wpAny_evalAll_nil ?_)))) hdf));show MZ _ _ (call (.builtin "sorted") [.ref s1.heap.objs.size] [(MW "key",.ref fa)]) _ _ _
     refine Au ok hb hr sb (by walk_at "o") (I.ok.hd hc) I2 rg1 (ep:=ep) ⟨_,M3 _ rfl,rfl,rfl⟩ (dr.stay fun b e=>MX _ e) rv wv fun p D0 H' s' hp hs I' kp' rg' n0 e' rd'=>?_
     exact⟨.ref D0,H',I',rfl,kf _ G1 _ H' (q1 p hp hs) (k1.trans kp') rg' (.inl ⟨_,D0,_,rfl,rfl,e',rg1.free n0,rd',k1.fr (sj n0)⟩)⟩
   | _=>exact ro.elim
  ·exact q1.elim
 ·exact q1.elim
def KJ(te:aV):aV:=fun σ G Q=>te σ G fun x G1=>match xV G1 (val x) with
 | some ds=>Q (.fl ds.reverse) G1
 | none=>False
def Jp(to:aV):aV:=fun σ G Q=>to σ G fun x G1=>match x with
 | .ref a=>match G1 a with
  | some (.lst _)=>Q .non (gset G1 a (.lst []))
  | _=>False
 | _=>False
def Kg{α:Type}(xs:List α)(lo hi st:Option Int):List α:=
 (R5 (OH lo hi st xs.length).1 (OH lo hi st xs.length).2.1 (OH lo hi st xs.length).2.2).filterMap (xs[·]?)
def KH(te:aV)(tl th ts:JI):aV:=fun σ G Q=>te σ G fun x G1=>tl σ G1 fun l G2=>th σ G2 fun u G3=>ts σ G3 fun st G4=>st≠some 0/\match xV G4 (val x) with
 | some ds=>Q (.fl (Kg ds l u st)) G4
 | none=>False
def jL(K:Po)(mg:Str->Option MS)(x:Str)(d:D):Prop:=∃ u v,mg x=some u/\aH v u/\∀ H,RD K H d v
theorem df(hg:Gl X x)(h:jL X.K X.mg x d)(hd:(x == ("__debug__":Str))=false:=by decide):PE X (.Name x pos) (aA X.K (eC d)):=by
 obtain⟨u,v,hm,r,rd⟩:=h;exact xo hg hm r rd hd
theorem Dh{K:Po}{mg:Str->Option MS}{x:Str}{ds:List D}{vs:List V}{its:Array MS}{a:MT}{n:Nat}{sl:Array (Option MS)}(hm:mg x=some (.ref a))(hl:K.lookup a=some ⟨.type "tuple",none,.seq its n,sl⟩)
  (hz:its.size<=M1) (w:Vals vs its.toList) (r:∀ H,RDs K H ds vs):jL K mg x (.tup ds):=
 ⟨.ref a,.ref a,hm,rfl,fun H=>qc (.inr ⟨_,its,n,hl,⟨rfl,rfl⟩,rfl,hz,w⟩) (r H)⟩
end L3
namespace L2
open PySem PySem.Spec PyProof.Rows
theorem Inv.turnedL{X:Cx}{pins:List (MT×Obj)}{σ:St}{H:Hp}{s:MU}{h':Nf}{t':Nat}{fp:List MT}(I:Inv X pins σ H s)(k:∀ b o,b∉fp->s.heap.get? b=some o->h'.get? b=some o)(hf:∀ b∈fp,pE X pins H b):
  Inv X pins σ H { s with heap:=h',toks:=t' }:=by
 have nit:∀ b u,H b=some u->b∉fp:=fun b u e z=>by rw[(hf b z).1]at e;cases e
 have hL:X.env.locals∉fp:=fun z=>(hf _ z).2.1 rfl;refine I.step (g':=s.gens) (d':=s.drawn) (ch:=fp) (fun b hb=>⟨(hf b hb).2.2.2.1,(hf b hb).2.1,(hf b hb).2.2.2.2.1,(hf b hb).2.2.2.2.2⟩) (fun b o _ _ hc e _=>k b o hc e) (fun b o _ _ hc e _=>⟨o.slots,k b o hc e⟩) (fun _ _ _ _ n=>n)
  (fun b o hc e=>⟨o,k b o hc e⟩) (fun _ _ e=>e) (fun _ _ _ e=>e) (fun b ps e=>⟨#[],by rw[e];simp⟩) (fun m hm=>?_) (fun b u e=>?_) I.bare
 ·obtain⟨o,es,ep,ho,r⟩:=hm;exact⟨o,es,ep,k _ o hL ho,r⟩
 ·refine (I.hok b u e).stay (fun c v hc q=>k c v ?_ q) (fun _ q=>q) fun _ _ q=>q;rcases hc with z|z
  ·rw[z];exact nit b u e
  ·exact nit c _ z
end L2
namespace L3
open PySem PySem.Spec PyProof.Rows L2
def LY(a b:String):Bool:=(a == b) || ((a == "bool") && (b == "int"))
def IZ(b:String):Prop:=b="int"\/b="bool"\/b="str"\/b="tuple"\/b="list"
def Me:Bk:=fun ds G Q=>match ds with
 | [d,.ty T]=>IZ T/\∃ T',xD G d=some T'/\Q (.bl (LY T' T)) G
 | _=>False
def KS:Bk:=fun ds G Q=>match ds with
 | [.bl b]=>Q (.int (if b then 1 else 0)) G
 | _=>False
theorem qG{K:Po}{mg:Str->Option MS}{x z:Str}{t:Tok}(hm:mg x=some (.str z t)):jL K mg x (.str z):=⟨.str z t,.str z,hm,⟨t,rfl⟩,fun _=>jt⟩
end L3
namespace L2
open PySem PySem.Spec PyProof.Rows
end L2
namespace L3
open PySem PySem.Spec PyProof.Rows L2
def Lh(a:MT)(g:sv)(tb:bc)(E:Ends3)(σ:dO)(ds:List D)(G1:Gp):Prop:=∃ Pv:Nat->dO->Gp->Prop,Pv 0 σ G1/\(∀ i σ' G',Pv i σ' G'->G' a=some (.lst ds))/\
 (∀ (i:Nat) d σ' G',ds[i]?=some d->Pv i σ' G'->g d σ' G' fun σ2 G2=>tb { E with nx:=Pv (i+1),ct:=Pv (i+1),bk:=E.nx } σ2 G2)/\∀ σ' G',Pv ds.length σ' G'->E.nx σ' G'
def DS(te:aV)(g:sv)(tb:bc):bc:=fun E σ G=>te σ G fun d G1=>match d with
 | .ref a=>∃ ds,G1 a=some (.lst ds)/\Lh a g tb E σ ds G1
 | d=>match eL d with
  | some ds=>ForIn g tb E σ ds G1
  | none=>False
section
variable{X:Cx}{tg e:Nh}{te:aV}
theorem BH(h:PE X e (aA X.K te)):PI X tg e (fun τ H R=>∃ σ G Q3,RS X.K H σ τ/\RG X.K H G/\te σ G Q3/\∀ d G1 H1,Q3 d G1->Kp G H G1 H1->RG X.K H1 G1->match d with
  | .ref a=>(∃ ds,G1 a=some (.lst ds))/\R (Lg X.K a) H1
  | d=>∃ ds,eL d=some ds/\∀ J,x8 X.K G1 H1 ds J->R J H1):=by
 intro pins s τ H R I hq;obtain⟨σ,G,Q3,rs,rg,hq,k⟩:=hq;refine bZ (c7 h pins s τ H (fun v H1=>∃ d G1,Kp G H G1 H1/\RG X.K H1 G1/\RD X.K H1 (val d) v/\Q3 d G1) I ⟨σ,G,_,rs,rg,hq,fun d G' v H' q k' rg' rd=>⟨d,G',k',rg',rd,q⟩⟩) fun u s1 zz=>?_;obtain⟨v,H1,I1,r1,d,G1,k1,rg1,rd,q⟩:=zz;have kk:=k d G1 H1 q k1 rg1;have seq:∀ {a:MT} {xs:List V} {ds:List D},FD X.K H1 a xs->RDs X.K H1 ds xs->(∀ J,x8 X.K G1 H1 ds J->R J H1)->MZ (M0 X.prog X.w) X.A (Pr (.ref a)) (HU X pins τ tg R) X.xe s1:=fun f r q=>qw I1 f.sq (q _ (B0 rg1 f r));cases d with
 | ref a=>
  simp only[val,RD]at rd;subst rd;cases r1;obtain⟨⟨ds,hg⟩,kr⟩:=kk;obtain⟨xs,e1,r⟩:=tV rg1 hg;exact qw I1 (kg.of e1) kr
 | lst ds=>
  simp only[val,RD]at rd;obtain⟨a,xs,rfl,f,r⟩:=rd;cases r1;obtain⟨ds',e,kr⟩:=kk;cases e;exact seq f r kr
 | fl ds=>
  simp only[val,RD]at rd;obtain⟨a,xs,rfl,f,r⟩:=rd;cases r1;obtain⟨ds',e,kr⟩:=kk;cases e;exact seq f r kr
 | tup ds=>
  simp only[val,RD]at rd;obtain⟨a,xs,rfl,f,r⟩:=rd;cases r1;obtain⟨ds',e,kr⟩:=kk;cases e;exact zG I1 f (kr _ (EZ rg1 f r))
 | str z=>
  simp only[val,RD]at rd;subst rd;obtain⟨t,rfl⟩:=r1;obtain⟨ds',e,kr⟩:=kk;cases e;refine zH I1 (kr _ (BZ fun H'=>?_));have:signs z=(z.cps.toList.map fun c=>(⟨#[c]⟩:Str)).map D.str:=by simp[signs]
  rw[this];have e2:dz z=(z.cps.toList.map fun c=>(⟨#[c]⟩:Str)).map V.str:=by simp[dz]
  rw[e2];exact RDs.strs _
 | _=>
  obtain⟨ds',e,_⟩:=kk;cases e
end
theorem Iu(hp:Qo (M0 X.prog X.w) X.A X.env X.xe)(hc:X.calm=true)(hi:PE X iter (aA X.K te))(hg:PG X tg (gM X.K g))(hb:iJ X body (bN X.K tb))(hs:∀ x,NM iter X.env x=pure x:=by intro _;rfl):PS X (.For tg iter body [] pos) (bN X.K (DS te g tb)):=
 (Ep hp hc (BH hi) hg hb hs).imp fun Dd τ H zz=>by
 obtain⟨σ,G,D3,rs,rg,h,k⟩:=zz;exact (
  ⟨σ,G,_,rs,rg,h,fun d G1 H1 q k1 rg1=>by
    have core:∀ (ds:List D) (J:It) (Pv:Nat->dO->Gp->Prop),Pv 0 σ G1->
      (∀ i σ' G' H',Pv i σ' G'->Kp G1 H1 G' H'->RG X.K H' G'->(i < ds.length->J.go i H'/\∀ x H2,J.yld i H' x H2->Kp G' H' G' H2/\RG X.K H2 G'/\∃ d,ds[i]?=some d/\RD X.K H2 d x)/\(i=ds.length->J.stop i H'))->
      (∀ (i:Nat) d σ' G',ds[i]?=some d->Pv i σ' G'->g d σ' G' fun σ2 G2=>tb { D3 with nx:=Pv (i+1),ct:=Pv (i+1),bk:=D3.nx } σ2 G2)->(∀ σ' G',Pv ds.length σ' G'->D3.nx σ' G')->
      ∃ W:Nat->Nat->St->Hp->Prop,(∃ m,W 0 m τ H1)/\∀ i m σ H,W i m σ H->
       (J.stop i H/\Dd.nx σ H)\/(J.go i H/\∃ N:St->Hp->Prop,(∀ σ' H',N σ' H'->∃ m',m' < m/\W (i+1) m' σ' H')/\∀ x H',J.yld i H x H'->gM X.K g x σ H' fun σ2 H2=>bN X.K tb { Dd with nx:=N,ct:=N,bk:=Dd.nx } σ2 H2):=by
     intro ds J Pv p0 it step fin;refine⟨fun i m τ' H'=>m=ds.length - i/\i<=ds.length/\∃ σ' G',RS X.K H' σ' τ'/\RG X.K H' G'/\Pv i σ' G'/\Kp G1 H1 G' H',⟨ds.length,rfl,N0 _,σ,G1,rs.mono (k1.stb rg),rg1,p0,Kp.refl⟩,?_⟩
     rintro i m τ' H' ⟨rfl,hi',σ',G',rs',rg',pv,k'⟩
     obtain⟨hgo,hstop⟩:=it i σ' G' H' pv k' rg'
     by_cases hlt:i < ds.length
     ·obtain⟨go,yld⟩:=hgo hlt;refine .inr ⟨go,fun τ2 H2=>∃ σ2 G2,RS X.K H2 σ2 τ2/\RG X.K H2 G2/\Pv (i+1) σ2 G2/\Kp G1 H1 G2 H2,fun τ2 H2 ⟨σ2,G2,a,b,c,d⟩=>⟨ds.length - (i+1),by walk_at "o",rfl,hlt,σ2,G2,a,b,c,d⟩,fun x H2 y=>?_⟩
      obtain⟨ky,rgy,d,hd,rd⟩:=yld x H2 y;refine⟨d,σ',G',_,rd,rs'.mono (ky.stb rg'),rgy,step i d σ' G' hd pv,fun σ3 G3 τ3 H3 q3 k3 rg3 rs3=>?_⟩;have kk:Kp G1 H1 G3 H3:=k'.trans (ky.trans k3);have kG:Kp G H G3 H3:=k1.trans kk;refine⟨σ3,G3,_,rs3,rg3,q3,⟨fun σ4 G4 τ4 H4 q4 k4 rg4 rs4=>⟨σ4,G4,rs4,rg4,q4,kk.trans k4⟩,k.rt.base kG,fun σ4 G4 τ4 H4 q4 k4=>k.nx σ4 G4 τ4 H4 q4 (kG.trans k4),fun σ4 G4 τ4 H4 q4 k4 rg4 rs4=>⟨σ4,G4,rs4,rg4,q4,kk.trans k4⟩⟩⟩
     ·have e:i=ds.length:=by walk_at "o"
      refine .inl ⟨hstop e,k.nx σ' G' τ' H' (fin σ' G' (by rw[<- e];exact pv)) (k1.trans k') rg' rs'⟩
    cases d with
    | ref a=>
     obtain⟨ds,hg,Pv,p0,live,step,fin⟩:=q;refine⟨⟨ds,hg⟩,core ds _ Pv p0 (fun i σ' G' H' pv k' rg'=>?_) step fin⟩;obtain⟨xs,e1,r⟩:=tV rg' (live i σ' G' pv);have hl:=r.length;refine⟨fun hi=>⟨⟨xs,xs[i]'(by walk_at "o"),kg.of e1,by simp[show i < xs.length by walk_at "o"]⟩,fun x H2 y=>?_⟩,fun e=>⟨xs,kg.of e1,by walk_at "o"⟩⟩
     obtain⟨rfl,hx⟩:=y;refine⟨Kp.refl,rg',ds[i],by simp[hi],?_⟩
     obtain⟨y,e,q⟩:=r.get (i:=i) (d:=ds[i]) (by simp[hi])
     rw[hx xs (kg.of e1)]at e;cases e;exact q
    | lst ds=>
     obtain⟨Pv,p0,step,fin⟩:=q;exact⟨_,rfl,fun J it=>core _ J Pv p0 (fun i σ' G' H' _ k' rg'=>it i G' H' k' rg') step fin⟩
    | fl ds=>
     obtain⟨Pv,p0,step,fin⟩:=q;exact⟨_,rfl,fun J it=>core _ J Pv p0 (fun i σ' G' H' _ k' rg'=>it i G' H' k' rg') step fin⟩
    | tup ds=>
     obtain⟨Pv,p0,step,fin⟩:=q;exact⟨_,rfl,fun J it=>core _ J Pv p0 (fun i σ' G' H' _ k' rg'=>it i G' H' k' rg') step fin⟩
    | str z=>
     obtain⟨Pv,p0,step,fin⟩:=q;exact⟨_,rfl,fun J it=>core _ J Pv p0 (fun i σ' G' H' _ k' rg'=>it i G' H' k' rg') step fin⟩
    | _=>exact q.elim⟩)
def Ay(c:mv)(tb:bc):bc:=fun E σ G=>∃ W:Nat->dO->Gp->Prop,(∃ m,W m σ G)/\∀ m σ' G',W m σ' G'->
 c σ' G' fun b G1=>if b=true then ∃ N:dO->Gp->Prop,(∀ σ2 G2,N σ2 G2->∃ m',m' < m/\W m' σ2 G2)/\tb { E with nx:=N,ct:=N,bk:=E.nx } σ' G1 else E.nx σ' G1
theorem F5(hp:Qo (M0 X.prog X.w) X.A X.env X.xe)(hc:PT X c (b8 X.K tc))(hb:iJ X body (bN X.K tb)):PS X (.While c body [] pos) (bN X.K (Ay tc tb)):=
 (Ek hp hc hb).imp fun D τ H ⟨σ,G,D3,rs,rg,⟨W,⟨m0,w0⟩,turn⟩,k⟩=>by
  refine⟨fun m τ' H'=>∃ σ' G',RS X.K H' σ' τ'/\RG X.K H' G'/\W m σ' G'/\Kp G H G' H',⟨m0,σ,G,rs,rg,w0,Kp.refl⟩,?_⟩
  rintro m τ' H' ⟨σ',G',rs',rg',w',k'⟩
  refine⟨σ',G',_,rs',rg',turn m σ' G' w',fun b G1 H1 q k1 rg1=>?_⟩;cases b with
  | true=>
   rw[if_pos rfl]at q ⊢;obtain⟨N,hN,q⟩:=q;refine⟨fun τ2 H2=>∃ σ2 G2,RS X.K H2 σ2 τ2/\RG X.K H2 G2/\N σ2 G2/\Kp G H G2 H2,fun τ2 H2 ⟨σ2,G2,a,b,n,d⟩=>?_,?_⟩
   ·obtain⟨m',hm,w2⟩:=hN σ2 G2 n;exact⟨m',hm,σ2,G2,a,b,w2,d⟩
   ·have kG:=k'.trans k1;exact⟨σ',G1,_,rs'.mono (k1.stb rg'),rg1,q,⟨fun σ4 G4 τ4 H4 q4 k4 rg4 rs4=>⟨σ4,G4,rs4,rg4,q4,kG.trans k4⟩,k.rt.base kG,fun σ4 G4 τ4 H4 q4 k4=>k.nx σ4 G4 τ4 H4 q4 (kG.trans k4),fun σ4 G4 τ4 H4 q4 k4 rg4 rs4=>⟨σ4,G4,rs4,rg4,q4,kG.trans k4⟩⟩⟩
  | false=>
   rw[if_neg Bool.false_ne_true]at q ⊢;exact k.nx σ' G1 τ' H1 q (k'.trans k1) rg1 (rs'.mono (k1.stb rg'))
def fC:List Str->List D->Str->Option D
 | g::L,d::ds,f=>if g=f then some d else fC L ds f
 | _,_,_=>none
def i_(L:List Str)(f:Str):List Str:=match L with
 | []=>[f]
 | g::r=>if g=f then g::r else g::i_ r f
def h9:List Str->List D->Str->D->List D
 | g::L,x::ds,f,d=>if g=f then d::ds else x::h9 L ds f d
 | _,_,_,d=>[d]
section
variable{K:Po}{H:Hp}
theorem ux:∀ {gs:List (Str×V)} {ds:List D} {f:Str} {d:D},RDs K H ds (gs.map (·.2))->fC (gs.map (·.1)) ds f=some d->∃ v,gs.lookup f=some v/\RD K H d v
 | [],ds,f,d,r,e=>by simp[fC]at e
 | (g,u)::t,ds,f,d,r,e=>by
  cases ds with
  | nil=>simp[fC]at e
  | cons x ds=>
   obtain⟨y,q,e1,h1,h2⟩:=r.inv_cons;rw[Nk,List.cons.injEq]at e1;obtain⟨rfl,e1⟩:=e1;simp only[Nk,fC]at e;split at e
   ·rename_i hg;cases e;subst hg;exact⟨u,by rw[On,beq_self_eq_true],h1⟩
   ·rename_i hg;obtain⟨v,e2,h3⟩:=ux (gs:=t) (by rw[e1];exact h2) e
    exact⟨v,by rw[On,show (f == g)=false by simpa using Ne.symm hg];exact e2,h3⟩
theorem zb:∀ {gs:List (Str×V)} {f:Str} {v:V},(fh f v gs).map (·.1)=i_ (gs.map (·.1)) f
 | [],f,v=>rfl
 | (g,u)::t,f,v=>by
  simp only[fh,Nk,i_];split
  ·rename_i hg;simp[hg]
  ·simp[zb (gs:=t)]
theorem zc:∀ {gs:List (Str×V)} {ds:List D} {f:Str} {v:V} {d:D},RDs K H ds (gs.map (·.2))->RD K H d v->RDs K H (h9 (gs.map (·.1)) ds f d) ((fh f v gs).map (·.2))
 | [],ds,f,v,d,r,h=>by
  have:h9 ([]:List Str) ds f d=[d]:=by unfold h9;rfl
  exact RDs.cons h RDs.nil
 | (g,u)::t,ds,f,v,d,r,h=>by
  cases ds with
  | nil=>exact absurd r.length (by simp)
  | cons x ds=>
   obtain⟨y,q,e1,h1,h2⟩:=r.inv_cons;rw[Nk,List.cons.injEq]at e1;obtain⟨rfl,e1⟩:=e1;simp only[fh,Nk,h9];split
   ·rename_i hg;subst e1;exact RDs.cons h h2
   ·exact RDs.cons h1 (zc (gs:=t) (by rw[e1];exact h2) h)
end
def bz(cs:List MT)(f:Str)(to:aV):aV:=fun σ G Q=>to σ G fun x G1=>match x with
 | .ref a=>match G1 a with
  | some (.ins C L ds)=>C∈cs/\match fC L ds f with
   | some d=>Q d G1
   | none=>False
  | _=>False
 | _=>False
def iW(cs:List MT)(f:Str)(to tv:aV):bc:=fun D σ G=>tv σ G fun d G1=>to σ G1 fun x G2=>match x with
 | .ref a=>match G2 a with
  | some (.ins C L ds)=>(C∈cs/\L.length < 1000)/\D.nx σ (gset G2 a (.ins C (i_ L f) (h9 L ds f (val d))))
  | _=>False
 | _=>False
def eF(cs:List (MT×cG))(m:Str)(dds:List D)(to:aV)(ta:kK):aV:=fun σ G Q=>to σ G fun x G1=>match x with
 | .ref a=>match G1 a with
  | some (.ins C L _)=>m∉L/\∃ sp,(C,sp)∈cs/\ta σ G1 fun ds G2=>sp (.ref a::(ds ++ dds)) G2 Q
  | _=>False
 | _=>False
section
variable{X:Cx}{o e:Nh}{es:List Nh}{to te:aV}{t:kK}{pos apos:Pos}{k:Nat}{m:Str}{dds:List D}{sp:cG}
theorem bG(tab:∀ C∈cs,Cls X.K C/\cH X.K C f)(ho:PE X o (aA X.K to))(hb:Op o f X.env (eval o X.env)=eval o X.env:=by rfl):PE X (.Attribute o f pos) (aA X.K (bz cs f to)):=
 (EA ho hb).imp fun τ H Q zz=>by
 obtain⟨σ,G,Q3,rs,rg,h,kk⟩:=zz;exact (
  ⟨σ,G,_,rs,rg,h,fun d G1 v H1 q k1 rg1 re=>by
    cases d with
    | ref a=>
     dsimp only at q;split at q
     ·rename_i C L ds hg;obtain⟨hc,q⟩:=q;split at q
      ·rename_i d hd;obtain⟨ho,e1,ro⟩:=rg1 a _ hg;cases ho with
       | ins C2 dx gs=>
        obtain⟨rfl,r2,r3⟩:=ro;subst r2;obtain⟨w,hw,rd⟩:=ux r3 hd;exact⟨a,_,dx,gs,w,re.ref,e1,(tab _ hc).1,(tab _ hc).2,hw,kk _ G1 _ H1 q k1 rg1 (.of rd)⟩
       | _=>exact ro.elim
      ·exact q.elim
     ·exact q.elim
    | _=>exact q.elim⟩)
theorem h8(tab:∀ C∈cs,Cls X.K C/\cH X.K C f)(ho:PE X o (aA X.K to))(hv:PE X e (aA X.K te))(hs:Ob e (some (.Attribute o f pos')) pos.line X.env=pure false:=by rfl):
  PS X (.Assign [.Attribute o f pos'] e pos) (bN X.K (iW cs f to te)):=
 (AH ho (c7 hv) hs).imp fun Dd τ H zz=>by
 obtain⟨σ,G,D3,rs,rg,h,kk⟩:=zz;exact (
  ⟨σ,G,_,rs,rg,h,fun d G1 v H1 q1 k1 rg1 rd=>⟨σ,G1,_,rs.mono (k1.stb rg),rg1,q1,fun x G2 u H2 q2 k2 rg2 re=>by
    cases x with
    | ref a=>
     dsimp only at q2;split at q2
     ·rename_i C L ds hg;obtain⟨⟨hc,hl⟩,q2⟩:=q2;obtain⟨ho,e1,ro⟩:=rg2 a _ hg;cases ho with
      | ins C2 dx gs=>
       obtain⟨rfl,r2,r3⟩:=ro;subst r2;have rd2:=RD.mono (k2.stb rg1) _ _ rd;obtain⟨kp,rg3⟩:=AF (gs':=fh f v gs) (L':=i_ (gs.map (·.1)) f) (ds':=h9 (gs.map (·.1)) ds f (val d)) rg2 e1 zb (zc r3 rd2) (by rw[hg];exact fun z=>nomatch z)
       exact⟨a,_,dx,gs,re.ref,e1,(tab _ hc).1,(tab _ hc).2,by simpa using hl,kk.nx _ _ _ _ q2 ((k1.trans k2).trans kp) rg3 (rs.mono ((((k1.trans k2).trans kp)).stb rg))⟩
      | _=>exact ro.elim
     ·exact q2.elim
    | _=>exact q2.elim⟩⟩)
theorem f7{pl:Sem Bool}{cs:List (MT×cG)}(tab:∀ c∈cs,∃ k',k'<=k/\Mt3 X.prog X.w X.K X.mg X.base k' c.1 m dds c.2)(hr:Room k X.A)(ho:PE X o (aA X.K to))
  (ht:eval (.Call (.Attribute o m apos) [] [] pos) X.env=(do
   let ov <- eval o X.env
   O2 apos.atName
   let (f,first) <- holding [ov] (OW ov m pl)
   Pw pos f first (NZ pos (M5 [] X.env)) (O0 pos (Oo [] X.env))):=by rfl):
  PE X (.Call (.Attribute o m apos) [] [] pos) (aA X.K (eF cs m dds to av)):=by
 rintro pins s τ H Q I ⟨σ,G,Q3,rs,rg,h,kk⟩
 refine Pk (pl:=pl) (bZ (cE ho I rs rg h) fun u s1 zz=>?_) ht;obtain⟨x,H1,I1,rx,d,G1,q,k1,rg1,rd⟩:=zz;cases d with
 | ref a=>
  simp only[val,RD]at rd;subst rd;obtain rfl:u=Value.ref a:=rx;dsimp only at q;split at q
  ·rename_i C L ds hg;obtain⟨hL,sp,hc,q⟩:=q;obtain⟨k',hk,F⟩:=tab _ hc;obtain⟨f,fd,ps,ds',dvs,ok,hm,hb,hv,hd⟩:=F.ex;obtain⟨ho,e1,ro⟩:=rg1 a _ hg;cases ho with
   | ins C2 dx gs=>
    obtain⟨rfl,r2,r3⟩:=ro;refine jF I1 e1 F.cl hm (gV (K:=X.K) r2 hL) ?_;exact PySem.W.callWith_K0 (first:=[.ref a]) I1.kIn hm.kp (sT (us:=[.ref a]) (vs:=[.ref a]) ok (hr.mono hk) hb hv v5 I1 (.cons rfl .nil) ⟨.ref a::([] ++ dds),G1,Q3,RDs.cons eT (hd H1),rg1,q,kk.base k1⟩)
   | _=>exact ro.elim
  ·exact q.elim
 | _=>exact q.elim
structure Cf3(P:M9)(w:Ng)(K:Po)(mg:Str->Option MS)(base:Nf)(k:Nat)(x m:Str)(dds:List D)(sp:cG):Prop where
 ex:∃ C f fd ps ds dvs,FnOk P w K mg base pJ k f fd ps (b9 K sp)/\mg x=some (.ref C)/\QE K (.ref C) "__getattribute__"=some (some (.builtin "type.__getattribute__"))/\PySem.W.readsIn K C (.type "type")=true/\
  PySem.W.findCls K (.ref C) (.type "type") m=some (.val (.ref f))/\Ro K (.ref f)=true/\eJ K fd ps ds/\Vals dvs ds/\∀ H,RDs K H dds dvs
theorem lW{pl:Sem Bool}{x:Str}{p:Pos}(F:Cf3 X.prog X.w X.K X.mg X.base k x m dds sp)(hr:Room k X.A)(hg:Gl X x)(ha:PA X (e::es) (dN X.K t))(hdb:(x == ("__debug__":Str))=false:=by decide)
  (hst:M5 (e::es) X.env=(false,eval e X.env)::M5 es X.env:=by rfl) (hpl:(NZ pos (M5 es X.env)).any (·.1)=false:=by rfl)
  (ht:eval (.Call (.Attribute (.Name x p) m apos) (e::es) [] pos) X.env=(do
   let ov <- eval (.Name x p) X.env
   O2 apos.atName
   let (f,first) <- holding [ov] (OW ov m pl)
   Pw pos f first (NZ pos (M5 (e::es) X.env)) (O0 pos (Oo [] X.env))):=by rfl):
  PE X (.Call (.Attribute (.Name x p) m apos) (e::es) [] pos) (aA X.K (aJ sp dds t)):=by
 obtain⟨C,f,fd,ps,ds,dvs,ok,hm,hga,hrd,hfc,hk,hb,hv,hd⟩:=F.ex;intro pins s τ H Q I h;refine Pk (pl:=pl) (bZ (BJ (v:=.ref C) hg hm rfl hdb pins s τ H (fun v H1=>v=.ref C/\H1=H) I ⟨rfl,rfl⟩) fun u s1 zz=>?_) ht;obtain⟨v,H1,I1,rx,e1,e2⟩:=zz;subst e1 e2;obtain rfl:u=Value.ref C:=rx;refine PySem.W.method_cls I1.kIn hga (PySem.W.cls_value I1.kIn hrd hfc rfl ?_);have I2:=I1.tok (s1.toks+1);obtain⟨σ,G,Q3,rs,rg,h,kk⟩:=h;refine Pu (first:=[]) (h₀:=X.base) I.ok.mod.kin hk (bZ (ha pos pins _ τ H1 (fun vs H2=>∃ ds G1,sp (ds ++ dds) G1 Q3/\Kp G H1 G1 H2/\RG X.K H2 G1/\RDs X.K H2 ds vs) I2 ⟨σ,G,_,rs,rg,h,fun ds G1 vs H2 q k1 rg1 rds=>⟨ds,G1,q,k1,rg1,rds⟩⟩) fun us s2 ⟨vs,H2,I3,r,ds1,G1,q2,k1,rg1,rds⟩=>⟨I3.kIn,?_⟩) hst hpl
 exact sT (us:=us) (vs:=vs) ok hr hb hv v5 I3 r ⟨ds1 ++ dds,G1,Q3,rds.append (hd _),rg1,q2,kk.base k1⟩
end
end L3
theorem L3.all_cons{α:Type}{p:α->Prop}{a:α}{l:List α}(h:p a)(t:∀ x∈l,p x):∀ x∈a::l,p x:=fun x hx=>by
 rcases NH.mp hx with rfl|hx
 ·exact h
 ·exact t x hx
namespace L3
open PySem PySem.Spec PyProof.Rows L2 PySem.SeqAt PySem.W
def uh:D->Bool
 | .non=>true
 | _=>false
def LU:R3:=fun x y G Q=>match y with
 | .non=>Q (.bl (uh x)) G
 | _=>False
def zi:R3:=fun x y G Q=>match y with
 | .non=>Q (.bl (!uh x)) G
 | _=>False
section
variable{X:Cx}
theorem D4{K:Po}{G0 G:Gp}{H0 H:Hp}{x:D}{v:V}{u:MS}(r:RE K G0 H0 G H x v)(l:aH v u):(u == Value.none)=uh x:=by
 cases x with
 | non=>rw[r.non]at l;cases l;rfl
 | fl ds=>
  obtain⟨p,xs,rfl,_⟩:=r.fl;cases l;rfl
 | lst ds=>
  obtain⟨a,xs,rfl,_⟩:=r.lst;cases l;rfl
 | tup ds=>
  obtain⟨a,xs,rfl,_⟩:=r.tup;cases l;rfl
 | int i=>rw[r.int]at l;obtain⟨t,rfl⟩:=l;rfl
 | str i=>rw[r.str]at l;obtain⟨t,rfl⟩:=l;rfl
 | bl i=>rw[r.bl]at l;cases l;rfl
 | ref a=>rw[r.ref]at l;cases l;rfl
 | ty T=>
  have:=r.rd (by intro ds z;cases z)
  simp only[RD]at this;subst this;cases l;rfl
theorem Ia:gf X (Nr .IsNot) (dh X.K zi):=by
 rintro pins s σ H v u v' u' Q I rv ru ⟨x,y,G0,H0,G,Q3,rx,ry,rg,h,k⟩
 unfold zi at h;split at h
 ·rw[ry.non]at ru;cases ru;refine isnot_none_gen ?_;rw[D4 rx rv];exact⟨.bl _,H,I,rfl,k _ G _ H h Kp.refl rg (.of ff)⟩
 ·exact h.elim
end
section
variable{X:Cx}{o i:Nh}{to ti:aV}{pos:Pos}
theorem AK(hu:X.A.units+8 < NF)(hi:PE X i (aA X.K ti))(ho:PE X o (aA X.K to))(hm:NW .In o=false:=by rfl):PT X (.Compare i [.In] [o] pos) (b8 X.K (br (uC (aI X.prog X.w) ti to))):=by
 refine (Ei (op:=.In) (t:=aA X.K (uC (aI X.prog X.w) ti to)) (fun pins s τ H Q I ⟨σ,G,Q3,rs,rg,h,k⟩=>?_) hm).imp fun τ H Q h=>wH h;refine bZ (cE hi I rs rg h) fun iv s1 zz=>?_;obtain⟨iy,H1,I1,riy,y,G1,q1,k1,rg1,rd1⟩:=zz;refine bZ (cE ho I1 (rs.mono (k1.stb rg)) rg1 q1) fun ov s2 zz=>?_;obtain⟨ox,H2,I2,rox,x,G2,q2,k2,rg2,rd2⟩:=zz;obtain⟨r,l,q2⟩:=q2;exact HQ (by walk_at "o") I2 rg2 l rd2 rox (RD.mono (k2.stb rg1) _ _ rd1) riy fun s3 I3=>⟨.bl r.isSome,H2,I3,rfl,k _ G2 _ H2 q2 (k1.trans k2) rg2 (.of ff)⟩
theorem jc(hu:X.A.units+8 < NF)(hi:PE X i (aA X.K ti))(ho:PE X o (aA X.K to))(hm:NW .NotIn o=false:=by rfl):PT X (.Compare i [.NotIn] [o] pos) (b8 X.K (br (et (aI X.prog X.w) ti to))):=by
 refine (Ei (op:=.NotIn) (t:=aA X.K (et (aI X.prog X.w) ti to)) (fun pins s τ H Q I ⟨σ,G,Q3,rs,rg,h,k⟩=>?_) hm).imp fun τ H Q h=>wH h;refine bZ (cE hi I rs rg h) fun iv s1 zz=>?_;obtain⟨iy,H1,I1,riy,y,G1,q1,k1,rg1,rd1⟩:=zz;refine bZ (cE ho I1 (rs.mono (k1.stb rg)) rg1 q1) fun ov s2 zz=>?_;obtain⟨ox,H2,I2,rox,x,G2,q2,k2,rg2,rd2⟩:=zz;obtain⟨r,l,q2⟩:=q2;exact zR (by walk_at "o") I2 rg2 l rd2 rox (RD.mono (k2.stb rg1) _ _ rd1) riy fun s3 I3=>⟨.bl (!r.isSome),H2,I3,rfl,k _ G2 _ H2 q2 (k1.trans k2) rg2 (.of ff)⟩
end
def Bd(hw:List aB->Int)(tk tv:aV):aV:=fun σ G Q=>∀ p,G p=none->tk σ (gset G p (.dT hw [])) fun x G1=>tv σ G1 fun y G2=>match G2 p with
 | some (.dT hw' [])=>hw'=hw/\∃ ks,nJ (val x)=some ks/\Q (.ref p) (gset G2 p (.dT hw [(ks,val y)]))
 | _=>False
section
variable{X:Cx}{pos:Pos}
theorem Gv(hu:X.A.units+8 < NF)(hk:PE X k (aA X.K tk))(hv:PE X v (aA X.K tv)):PE X (.Dict [some k] [v] pos) (aA X.K (Bd (aI X.prog X.w) tk tv)):=fun pins s τ H Q I zz=>by
 obtain⟨σ,G,Q3,rs,rg,h,kk⟩:=zz;have hf:H s.heap.objs.size=none:=I.hok.fresh (le_refl _);obtain⟨kp,rg2⟩:=GT (o:=.dT (aI X.prog X.w) []) (ho:=.ext (pI (aI X.prog X.w) s.heap.objs.size [])) rg hf fun H' _=>⟨[],rfl,.nil,Ql,N0 _⟩;have hd:(s.heap.objs.size == NC)=false:=beq_eq_false_iff_ne.mpr (Ne.symm (Np I.big));have I1:=I.laid (a:=s.heap.objs.size) (t':=s.toks) (fun _ _ q=>MX _ q) (le_refl _) (nL (P:=X.prog) (w:=X.w) (hw:=aI X.prog X.w) (xs:=[]) ⟨hd,_,#[],0,M3 (h:=s.heap) (o:={ cls:=.type "dict",data:=.dict #[] }) rfl,⟨rfl,rfl,rfl⟩,rfl,rfl⟩);refine wpAny_Dict_any (by rfl) (by rfl) (by simp) (by simp) ?_
 refine pairTrees_cons_walk (bZ (cE hk I1 (rs.mono (kp.stb rg)) rg2 (h _ (rg.free hf))) fun kv s1 zz=>?_);obtain⟨ox,H1,I2,rox,x,G1,q1,k1,rg1,rd1⟩:=zz;refine bZ (cE hv I2 (rs.mono ((kp.trans k1).stb rg)) rg1 q1) fun vv s2 zz=>?_;obtain⟨oy,H2,I3,roy,y,G2,q2,k2,rgb,rd2⟩:=zz;refine pairTrees_nil_walk ?_;unfold storeAll;rw[O5];split at q2
 ·rename_i hw' hg;obtain⟨rfl,ks,hks,q2⟩:=q2;have Up:=RD.mono (k2.stb rg1) _ _ rd1;obtain⟨b,rfl,sq⟩:=o9 hks Up;cases rox;obtain⟨ho,e,r⟩:=rgb _ _ hg;cases ho with
  | ext φ=>
   obtain⟨xs,rfl,rt,nd,_⟩:=r;have e0:xs=[]:=by
    have:=rt.length;exact length_eq_zero_iff.mp this.symm
   subst e0;obtain⟨hd2,dd⟩:=sm I3 e rt nd;refine MR (MR (RZ (hsz:=N0 _) (show X.A.units < NF by walk_at "o") (key_at I3 sq) dd fun h' dd' hs=>MV ?_))
   dsimp only;rw[PV];refine MV ?_;obtain⟨q,es,ep,hq,h2,h3,h4,_,h5⟩:=dd';obtain⟨kp3,rg3⟩:=qA (a:=s.heap.objs.size) (o:=.dT (aI X.prog X.w) (bg [] ks (val y))) (ho:=.ext (pI (aI X.prog X.w) s.heap.objs.size (Qk [] ks b vv))) rgb (by rw[hg];exact fun z=>nomatch z)
    fun H' st=>⟨_,rfl,(rt.put ks sq rd2 roy).mono st,h_ ks (val y) nd,by have:=eX ([]:List (List aB×D)) ks (val y);have hs:=aj;simp only[NA]at this;omega⟩
   exact⟨.ref _,_,su I3 (by rw[e];exact True.intro) hs ⟨q,hq⟩ (nL ⟨hd2,q,es,ep,hq,h2,h3,h4⟩),rfl,kk _ _ _ _ q2 (kp.trans (k1.trans (k2.trans kp3))) rg3 (.of eT)⟩
  | _=>exact r.elim
 ·exact q2.elim
end
def E6(x:D):List D->Nat
 | []=>0
 | d::r=>if dC d x then 0 else E6 x r+1
def Jo(to:aV)(ta:kK):aV:=fun σ G Q=>to σ G fun x G1=>match x with
 | .lst ds=>ta σ G1 fun es G2=>match es with
  | [y]=>(pl 7 y/\(∀ d∈ds,pl 7 d)/\y∈ds)/\Q (.int (E6 y ds)) G2
  | _=>False
 | _=>False
def Jm(sp:cG)(to:aV):aV:=fun σ G Q=>to σ G fun x G1=>match xV G1 (val x) with
 | some ds=>∃ ks r,SortBy sp G1 ds ks r/\∀ p:List Nat,p.Perm (List.range ds.length)->(p.map r).Pairwise (·<=·)->Q (.fl (p.map fun i=>ds.getD i .non)) G1
 | none=>False
section
variable{X:Cx}{pins:List (MT×Obj)}{τ:St}{H H0:Hp}{s:MU}{G:Gp}{E:MS->MU->Prop}
 {k:Nat} {f:MT} {fd:N4} {ps:List Str} {sp:cG} {ds ks:List D} {r:Nat->Nat} {vs:List V} {us:List MS}
end
def tm(c:Bool):Nat:=if c then 31 else 7
def Tb(c:Bool)(pl:Array Nat)(led plain:Bool):SetTable:={ mask:=tm c,place:=pl,dummies:=#[],finger:=0,led:=led,moves:=if c then 1 else 0,plain:=plain }
abbrev Pb:=SetTable.Probe
def look(c:Bool)(pl:Array Nat)(hs:Nat->Int)(same:Nat->Bool)(h:Int):Nat->Pb->Option (Option Nat)
 | 0,_=>none
 | f+1,p=>match (Tb c pl false false).probe hs h p with
  | none=>none
  | some (.empty j _)=>some (some j)
  | some (.candidate _ i next)=>if same i then some none else look c pl hs same h f next
def Mx(es:Array (Int×MS))(ep:Nat)(t:SetTable):Obj:={ cls:=.type "set",dict:=none,data:=.set es ep t }
section
variable{prog:M9}{w:Ng}{κ:Type}[DecidableEq κ]{kn:KeyKind prog w κ}{A:Nb}{E:MS->MU->Prop}{s:MU}{a b:MT}
abbrev hK(kn:KeyKind prog w κ):List κ->Int:=tupleKeyHash kn
def MF(kn:KeyKind prog w κ)(xs:List (List κ×MT)):Array (Int×MS):=(xs.map fun x=>(hK kn x.1,Value.ref x.2)).toArray
end
set_option maxRecDepth 100000
def MP(first:MS)(i n ep:Nat)(S:MT):Obj:={ cls:=.type "set_iterator",data:=.fields #[first,.int i 0,.ref S,.int n 0,.int ep 0] }
set_option maxRecDepth 100000
set_option maxRecDepth 100000
set_option maxRecDepth 100000
def MB(a b:Str×Int):Bool:=if a.1=b.1 then decide (a.2 < b.2)else decide (a.1.cps.toList < b.1.cps.toList)
def Srt(l:List (Str×Int)):Prop:=l.Pairwise fun a b=>MB b a=false
structure InsAsk(K:Po)(C:MT):Prop where
 cl:Cls K C
 ca:Qt K (.ref C) "__class__"=some (some (.builtin "object.__class__"))
 gs:QE K (.builtin "object.__class__") "__get__"=some (some (.builtin "getset_descriptor.__get__"))
 tk:UK K (.builtin "object.__class__")=some true
 mo:UE K C (.type "object")=some true
def xS(cs:List (MT×Bool))(c:MT):Bk:=fun ds G Q=>match ds with
 | [.ref a,.ref c']=>c'=c/\match G a with
  | some (.ins C _ _)=>∃ b,(C,b)∈cs/\Q (.bl b) G
  | _=>False
 | _=>False
theorem xp(hg:Gl X nm)(hm:X.mg nm=some (.ref C))(hd:(nm == ("__debug__":Str))=false:=by decide):PE X (.Name nm pos) (aA X.K (eC (.ref C))):=xo (v:=.ref C) hg hm rfl (fun _=>by simp only[RD]) hd
theorem B7(tab:∀ p∈cs,InsAsk X.K p.1/\ST X.K (.ref p.1) (.ref c)=some p.2):d9 X (.builtin "isinstance") (mW X.K (xS cs c)):=by
 rintro pins s σ H vs us Q I rv ⟨ds,G,Q3,rds,rg,h,kk⟩
 unfold xS at h;split at h
 ·rename_i a c';obtain⟨rfl,h⟩:=h;split at h
  ·rename_i C L es hg;obtain⟨b,hb,hq⟩:=h;obtain⟨v,t,e,h1,h2⟩:=rds.inv_cons;obtain⟨u2,e2,h3⟩:=fk h2;simp only[RD]at h1 h3;subst e e2 h1 h3;obtain⟨u,w',rfl,ru,rw'⟩:=DE rv;cases ru;cases rw';obtain⟨ho,e1,ro⟩:=rg a _ hg;cases ho with
   | ins C2 dx gs=>
    obtain⟨rfl,r2,r3⟩:=ro;obtain⟨t1,t2⟩:=tab _ hb;exact CV (x:=V.ref a) I rfl (TyOf.ins e1 t1.cl t1.ca t1.gs t1.tk t1.mo) t2 fun tk=>⟨.bl _,H,I.tok tk,rfl,kk _ G _ H hq Kp.refl rg (.of ff)⟩
   | _=>exact ro.elim
  ·exact h.elim
 ·exact h.elim
end L3
namespace RQ
open PySem PySem.Spec PyProof.Rows L2 L3
structure Rw where
 pen:Str
 num:Int
 time:Int
 act:D
instance:Inhabited Rw:=⟨⟨"",0,0,.non⟩⟩
def Rw.d(r:Rw):D:=.tup [.tup [.str r.pen,.int r.num],.int r.time,r.act]
def Rw.key(r:Rw):D:=.tup [.int r.time,.tup [.str r.pen,.int r.num]]
def Rw.ok(r:Rw):Prop:=pl 4 r.act
def Rw.lt(a b:Rw):Bool:=if a.time=b.time then (if a.pen=b.pen then decide (a.num < b.num)else decide (a.pen.cps.toList < b.pen.cps.toList))else decide (a.time < b.time)
def gC(rs:List Rw):Prop:=rs.Pairwise fun a b=>a.lt b=true
def lS(a b:Rw):Prop:=¬ (a.pen=b.pen/\a.num=b.num)
def l7(rs:List Rw):Prop:=∀ a∈rs,∀ b∈rs,a.pen=b.pen->a.num=b.num->a=b
abbrev HW:=List aB->Int
open PySem.W (SWO STO vg zm BN BW tX rankIn rank_lt)
theorem xM:STO (fun a b:List Nat=>decide (a < b)):=by
 have e:(fun a b:List Nat=>decide (a < b))=vg zm:=by funext a b;exact (tX a b).symm
 rw[e];exact BW BN
theorem He{x y:Str}(h:x.cps.toList=y.cps.toList):x=y:=by
 cases x;cases y;simp only at h;rw[Array.toList_inj.mp h]
theorem lt_irrefl(a:Rw):a.lt a=false:=by simp[Rw.lt]
theorem lt_trans(a b c:Rw)(h1:a.lt b=true)(h2:b.lt c=true):a.lt c=true:=by
 unfold Rw.lt at *
 by_cases e1:a.time=b.time
 ·rw[if_pos e1]at h1
  by_cases e2:b.time=c.time
  ·rw[if_pos e2]at h2;rw[if_pos (e1.trans e2)]
   by_cases p1:a.pen=b.pen
   ·rw[if_pos p1]at h1
    by_cases p2:b.pen=c.pen
    ·rw[if_pos p2]at h2;rw[if_pos (p1.trans p2)];simp only[decide_eq_true_eq]at *
     omega
    ·rw[if_neg p2]at h2;rw[p1,if_neg p2];exact h2
   ·rw[if_neg p1]at h1
    by_cases p2:b.pen=c.pen
    ·rw[<- p2,if_neg p1];exact h1
    ·rw[if_neg p2]at h2;have h3:=xM.trans _ _ _ h1 h2;rw[if_neg (fun e=>by rw[e,xM.irrefl]at h3;cases h3)]
     exact h3
  ·rw[if_neg e2]at h2;rw[e1,if_neg e2];exact h2
 ·rw[if_neg e1]at h1
  by_cases e2:b.time=c.time
  ·rw[<- e2,if_neg e1];exact h1
  ·rw[if_neg e2]at h2;simp only[decide_eq_true_eq]at *
   rw[if_neg (by walk_at "o")]
   simp only[decide_eq_true_eq];omega
theorem ES(a b:Rw)(h1:a.lt b=false)(h2:b.lt a=false):a.pen=b.pen/\a.num=b.num/\a.time=b.time:=by
 unfold Rw.lt at *
 by_cases e1:a.time=b.time
 ·rw[if_pos e1]at h1;rw[if_pos e1.symm]at h2
  by_cases p1:a.pen=b.pen
  ·rw[if_pos p1]at h1;rw[if_pos p1.symm]at h2;simp only[decide_eq_false_iff_not]at *
   exact⟨p1,by walk_at "o",e1⟩
  ·rw[if_neg p1]at h1;rw[if_neg (Ne.symm p1)]at h2;exact absurd (He (xM.tot _ _ h1 h2)) p1
 ·rw[if_neg e1]at h1;rw[if_neg (Ne.symm e1)]at h2;simp only[decide_eq_false_iff_not]at *
  omega
theorem ET{a b:Rw}(h:a.lt b=true):b.lt a=false:=by
 cases e:b.lt a with
 | false=>rfl
 | true=>have:=lt_trans _ _ _ h e;rw[lt_irrefl]at this;cases this
theorem GJ{a b c:Rw}(p:a.pen=b.pen)(n:a.num=b.num)(t:a.time=b.time):a.lt c=b.lt c/\c.lt a=c.lt b:=by
 unfold Rw.lt;rw[p,n,t];exact⟨rfl,rfl⟩
theorem DU:SWO Rw.lt where
 irrefl:=lt_irrefl
 trans:=lt_trans
 neg:=fun a b c h=>by
  cases e:a.lt b with
  | true=>exact .inl rfl
  | false=>
   cases e2:b.lt c with
   | true=>exact .inr rfl
   | false=>
    cases e3:b.lt a with
    | true=>have:=lt_trans _ _ _ e3 h;rw[e2]at this;cases this
    | false=>
     obtain⟨p,n,t⟩:=ES a b e e3;rw[(GJ (c:=c) p n t).1,e2]at h;cases h
theorem iK:∀ {xs ys:List Rw},gC xs->gC ys->(∀ r,r∈xs↔r∈ys)->xs=ys
 | [],ys,_,_,h=>by
  cases ys with
  | nil=>rfl
  | cons y t=>have:=(h y).mpr M_;simp at this
 | x::xs,[],_,_,h=>by have:=(h x).mp M_;simp at this
 | x::xs,y::ys,h1,h2,h=>by
  unfold gC at h1 h2;rw[List.pairwise_cons]at h1 h2;have hxy:x=y:=by
   rcases NH.mp ((h x).mp M_)with e|m1
   ·exact e
   ·rcases NH.mp ((h y).mpr M_)with e|m2
    ·exact e.symm
    ·have a1:=h2.1 x m1;have a2:=h1.1 y m2;rw[ET a1]at a2;cases a2
  subst hxy;have nx:x∉xs:=fun m=>by have:=h1.1 x m;rw[lt_irrefl]at this;cases this
  have ny:x∉ys:=fun m=>by have:=h2.1 x m;rw[lt_irrefl]at this;cases this
  rw[iK h1.2 h2.2 fun r=>⟨fun m=>?_,fun m=>?_⟩]
  ·rcases NH.mp ((h r).mp (M7 _ m))with e|m'
   ·subst e;exact absurd m nx
   ·exact m'
  ·rcases NH.mp ((h r).mpr (M7 _ m))with e|m'
   ·subst e;exact absurd m ny
   ·exact m'
theorem e_(h:gC xs):xs.Nodup:=List.Pairwise.imp (fun {a b} q e=>by subst e;rw[lt_irrefl]at q;cases q) h
theorem rD{xs:List Rw}(h:xs.Pairwise lS):xs.Nodup:=List.Pairwise.imp (fun {a b} q e=>by subst e;exact q ⟨rfl,rfl⟩) h
open Classical in
theorem f8:∀ {xs ys:List Rw},xs.Nodup->(∀ r∈xs,r∈ys)->xs.length<=ys.length
 | [],_,_,_=>N0 _
 | x::xs,ys,h,s=>by
  rw[OL]at h;have hx:=s x M_;have:=f8 (ys:=ys.erase x) h.2 fun r hr=>(List.mem_erase_of_ne (fun e=>by subst e;exact h.1 hr)).mpr (s r (M7 _ hr))
  rw[List.length_erase_of_mem hx]at this;have hp:0 < ys.length:=List.length_pos_of_mem hx;rw[Nc];omega
theorem l6(h:rs.Pairwise lS):l7 rs:=by
 induction h with
 | nil=>intro a ha;simp at ha
 | @cons x xs h1 h2 ih=>
  intro a ha b hb p n;rcases NH.mp ha with e|ha
  ·rcases NH.mp hb with e'|hb
   ·rw[e,e']
   ·rw[e]at p n;exact absurd ⟨p,n⟩ (h1 b hb)
  ·rcases NH.mp hb with e|hb
   ·rw[e]at p n;exact absurd ⟨p.symm,n.symm⟩ (h1 a ha)
   ·exact ih a ha b hb p n
theorem Jc(a b:Rw):mm 4 a.key b.key=a.lt b:=by
 show dP (mm 3) [.int a.time,.tup [.str a.pen,.int a.num]] [.int b.time,.tup [.str b.pen,.int b.num]]=_
 unfold Rw.lt
 by_cases e:a.time=b.time
 ·rw[if_pos e];have h1:dC (.int a.time) (.int b.time)=true:=by rw[e];exact a_ _
  rw[show dP (mm 3) [.int a.time,.tup [.str a.pen,.int a.num]] [.int b.time,.tup [.str b.pen,.int b.num]]=dP (mm 3) [.tup [.str a.pen,.int a.num]] [.tup [.str b.pen,.int b.num]]by simp[dP,h1]]
  have inner:mm 3 (.tup [.str a.pen,.int a.num]) (.tup [.str b.pen,.int b.num])=if a.pen=b.pen then decide (a.num < b.num)else decide (a.pen.cps.toList < b.pen.cps.toList):=by
   show dP (mm 2) [.str a.pen,.int a.num] [.str b.pen,.int b.num]=_
   by_cases p:a.pen=b.pen
   ·have h2:dC (.str a.pen) (.str b.pen)=true:=by rw[p];exact a_ _
    rw[if_pos p]
    by_cases n:a.num=b.num
    ·have h3:dC (.int a.num) (.int b.num)=true:=by rw[n];exact a_ _
     simp[dP,h2,n,a_]
    ·have h3:dC (.int a.num) (.int b.num)=false:=bo (by simpa using n)
     simp[dP,h2,h3,mm]
   ·have h2:dC (.str a.pen) (.str b.pen)=false:=bo (by simpa using p)
    rw[if_neg p];simp[dP,h2,mm]
  by_cases t:(D.tup [.str a.pen,.int a.num])=.tup [.str b.pen,.int b.num]
  ·have h2:=Fj t;simp only[D.tup.injEq,List.cons.injEq,D.str.injEq,D.int.injEq,and_true]at t;simp[dP,t.1,t.2,a_]
  ·rw[<- inner];simp[dP,bo t]
 ·rw[if_neg e];have h1:dC (.int a.time) (.int b.time)=false:=bo (by simpa using e)
  simp[dP,h1,mm]
theorem Jf(a b:Rw):Fn 4 a.key b.key:=by
 refine⟨⟨trivial,trivial⟩,fun _=>trivial,⟨fun d hd=>?_,fun d hd=>?_⟩,fun _=>?_,trivial⟩
 ·simp only[NH,NO,or_false]at hd;rcases hd with rfl|rfl<;>trivial
 ·simp only[NH,NO,or_false]at hd;rcases hd with rfl|rfl<;>trivial
 ·exact⟨⟨trivial,trivial⟩,fun _=>trivial,⟨trivial,trivial⟩,fun _=>trivial,trivial⟩
def q_(r:Rw):List aB:=[.inr r.pen,.inl r.num]
def qt(r:Rw):List aB×D:=(q_ r,r.d)
theorem v7:q_ a=q_ b↔a.pen=b.pen/\a.num=b.num:=by
 simp[q_]
theorem Iy{vs:List Rw}{r:Rw}(h:r∈vs)(o:∀ a∈vs,a.pen=r.pen->a.num=r.num->a=r):bg (vs.map qt) (q_ r) r.d=vs.map qt:=by
 unfold bg;rw[if_pos (by rw[List.any_eq_true];exact⟨qt r,List.mem_map_of_mem h,decide_eq_true rfl⟩),Nq]
 refine Ot fun a ha=>?_;simp only[Function.comp_apply];split
 ·rename_i e;obtain⟨p,n⟩:=v7.mp e;have:=o a ha p n;subst this;rfl
 ·rfl
theorem put_new(h:∀ a∈vs,lS a r):bg (vs.map qt) (q_ r) r.d=(vs ++ [r]).map qt:=by
 unfold bg;rw[if_neg]
 ·rw[NP];rfl
 ·rw[Bool.not_eq_true,List.any_eq_false];intro kv hkv;obtain⟨a,ha,rfl⟩:=mem_map.mp hkv;simp only[decide_eq_true_eq];intro e;exact h a ha (v7.mp e)
theorem DO{vs:List Rw}(hv:vs.Pairwise lS){p:List Nat}(hp:p.Perm (List.range vs.length))(hs:(p.map fun i=>rankIn Rw.lt vs (vs.getD i default)).Pairwise (·<=·)):
  gC (p.map fun i=>vs.getD i default)/\∀ r,r∈(p.map fun i=>vs.getD i default)↔r∈vs:=by
 have inr:∀ i∈p,i < vs.length:=fun i hi=>mem_range.mp (hp.mem_iff.mp hi);have gm:∀ i,i < vs.length->vs.getD i default∈vs:=fun i hi=>by rw[Nj,M6 hi];exact PK hi
 constructor
 ·unfold gC;rw[List.pairwise_map]at hs ⊢;have nd:p.Nodup:=hp.nodup_iff.mpr List.nodup_range;refine (hs.and nd).imp_of_mem fun {i j} hi hj h=>?_;have li:=inr i hi;have lj:=inr j hj;have nlt:(vs.getD j default).lt (vs.getD i default)=false:=by
   rw[rank_lt DU (gm j lj),decide_eq_false_iff_not,not_lt];exact h.1
  cases e:(vs.getD i default).lt (vs.getD j default) with
  | true=>rfl
  | false=>
   obtain⟨pp,nn,_⟩:=ES _ _ e nlt;have ap:lS (vs.getD i default) (vs.getD j default):=by
    rw[Nj,Nj,M6 li,M6 lj];rcases Nat.lt_or_gt_of_ne h.2 with l|l
    ·exact List.pairwise_iff_getElem.mp hv i j li lj l
    ·exact fun z=>List.pairwise_iff_getElem.mp hv j i lj li l ⟨z.1.symm,z.2.symm⟩
   exact absurd ⟨pp,nn⟩ ap
 ·intro r;have e:((List.range vs.length).map fun i=>vs.getD i default)=vs:=L3.range_getD vs default;have q:=hp.map fun i=>vs.getD i default;rw[e]at q;exact q.mem_iff
theorem fP{κ:Type}[DecidableEq κ](k k':κ)(v:D):∀ kvs:List (κ×D),bL (bg kvs k v) k'=if k'=k then some v else bL kvs k':=by
 have go:∀ kvs:List (κ×D),(kvs.any fun kv=>decide (kv.1=k))=true->bL (kvs.map fun kv=>if kv.1=k then (kv.1,v)else kv) k'=if k'=k then some v else bL kvs k':=by
  intro kvs
  induction kvs with
  | nil=>intro h;simp at h
  | cons p r ih=>
   intro h
   by_cases e:p.1=k
   ·by_cases e':k'=k
    ·rw[if_pos e'];simp[bL,Nw,e,e']
    ·rw[if_neg e'];have n1:¬ k=k':=fun z=>e' z.symm;have skip:∀ q:List (κ×D),bL (((p.1,v):κ×D)::q) k'=bL q k':=fun q=>by simp[bL,Nw,e,n1]
     have Ub:bL (p::r) k'=bL r k':=by simp[bL,Nw,e,n1]
     rw[Nk,if_pos e,skip,Ub]
     by_cases hr:(r.any fun kv=>decide (kv.1=k))=true
     ·have:=ih hr;rw[if_neg e']at this;exact this
     ·have:r.map (fun kv=>if kv.1=k then (kv.1,v)else kv)=r:=by
       rw[Bool.not_eq_true,List.any_eq_false]at hr
       conv=>rhs;rw[<- List.map_id r]
       refine Ot fun a ha=>?_;have:=hr a ha;simp only[decide_eq_true_eq]at this;rw[if_neg this];rfl
      rw[this]
   ·have hr:(r.any fun kv=>decide (kv.1=k))=true:=by simpa[e]using h
    rw[Nk,if_neg e]
    by_cases e2:p.1=k'
    ·have n1:¬ k'=k:=fun z=>e (e2.trans z);rw[if_neg n1];simp[bL,Nw,e2]
    ·have s1:∀ q:List (κ×D),bL (p::q) k'=bL q k':=fun q=>by simp[bL,Nw,e2]
     rw[s1,s1];exact ih hr
 intro kvs;unfold bg
 by_cases h:(kvs.any fun kv=>decide (kv.1=k))=true
 ·rw[if_pos h];exact go kvs h
 ·rw[if_neg h]
  by_cases e':k'=k
  ·rw[if_pos e'];subst e';have hn:bL kvs k'=none:=by
    have:=pD k' kvs;rw[Bool.not_eq_true]at h;rw[h]at this;cases q:bL kvs k' with
    | none=>rfl
    | some _=>rw[q]at this;cases this
   unfold bL at hn ⊢;rw[List.find?_append];cases q:kvs.find? fun kv=>decide (kv.1=k') with
   | none=>simp
   | some z=>rw[q]at hn;cases hn
  ·rw[if_neg e'];unfold bL;rw[List.find?_append];cases q:kvs.find? fun kv=>decide (kv.1=k') with
   | none=>simp;exact fun z=>e' z.symm
   | some z=>rfl
set_option genInjectivity false in
structure Sl where
 pen:Str
 n:Int
 k:Int
deriving DecidableEq
instance:Inhabited Sl:=⟨⟨"",0,0⟩⟩
def Sl.d(s:Sl):D:=.tup [.str s.pen,.int s.n,.int s.k]
def Sl.key(s:Sl):List aB:=[.inr s.pen,.inl s.n,.inl s.k]
theorem Sl.key_inj{a b:Sl}(h:a.key=b.key):a=b:=by
 obtain⟨a1,a2,a3⟩:=a;obtain⟨b1,b2,b3⟩:=b;simp only[Sl.key,List.cons.injEq,Sum.inr.injEq,Sum.inl.injEq,and_true]at h;obtain⟨rfl,rfl,rfl⟩:=h;rfl
theorem Sl.d_inj{a b:Sl}(h:a.d=b.d):a=b:=by
 obtain⟨a1,a2,a3⟩:=a;obtain⟨b1,b2,b3⟩:=b;simp only[Sl.d,D.tup.injEq,List.cons.injEq,D.str.injEq,D.int.injEq,and_true]at h;obtain⟨rfl,rfl,rfl⟩:=h;rfl
theorem xE(s:Sl):nJ s.d=some s.key:=rfl
def aE:Sl:=⟨MW "",0,0⟩
set_option genInjectivity false in
inductive Act where
 | put (a:Sl) (x:Str)
 | strike (ns:List Sl)
 | dress (ns:List Sl) (w:Str)
 | move (ns:List Sl) (a:Sl)
def Act.d:Act->D
 | .put a x=>.tup [.str "put",a.d,.str x]
 | .strike ns=>.tup [.str "strike",.tup (ns.map Sl.d)]
 | .dress ns w=>.tup [.str "dress",.tup (ns.map Sl.d),.str w]
 | .move ns a=>.tup [.str "move",.tup (ns.map Sl.d),a.d]
def Act.many:Act->Nat
 | .put _ x=>x.length
 | .move ns _=>ns.length
 | _=>0
def Act.anch:Act->Sl
 | .put a _=>a
 | .move _ a=>a
 | _=>aE
set_option genInjectivity false in
structure Sk where
 pen:Str
 num:Int
 time:Int
 act:Act
instance:Inhabited Sk:=⟨⟨"",0,0,.strike []⟩⟩
def Sk.rw(s:Sk):Rw:=⟨s.pen,s.num,s.time,s.act.d⟩
def Sk.d(s:Sk):D:=.tup [.tup [.str s.pen,.int s.num],.int s.time,s.act.d]
def Sk.ok(s:Sk):Prop:=1<=s.num/\s.act.many<=1000
def dZ(pen:Str)(n:Int)(m:Nat):List Sl:=(List.range m).map fun (k:Nat)=>⟨pen,n,(k:Int)+1⟩
def made(s:Sk):List Sl:=dZ s.pen s.num s.act.many
def fK(m:Nat):List Sl:=dZ (MW "") 0 m
theorem cq(p:Str)(n:Int)(m:Nat):(dZ p n m).length=m:=by simp[dZ]
theorem ic(p:Str)(n:Int)(m:Nat):(dZ p n m).Nodup:=by
 unfold dZ List.Nodup;rw[List.pairwise_map];refine List.Pairwise.imp ?_ (List.nodup_range (n:=m));intro a b h e;injection e with e1 e2 e3
 exact h (by walk_at "o")
theorem fm(h:x∈dZ p n m):x.pen=p/\x.n=n/\1<=x.k:=by
 unfold dZ at h;obtain⟨k,_,rfl⟩:=mem_map.mp h;exact⟨rfl,rfl,by show 1<=(k:Int)+1;omega⟩
def Ds:List Sl->D
 | []=>.non
 | s::_=>s.d
def nx:List Sl->Sl->D
 | [],_=>.non
 | a::t,c=>if a=c then Ds t else nx t c
def kI:List Sl->Sl->Sl->List Sl
 | [],_,_=>[]
 | a::t,b,x=>if a=b then a::x::t else a::kI t b x
def bO:List Sl->Sl->List Sl->List Sl
 | W,_,[]=>W
 | W,b,x::t=>bO (kI W b x) x t
theorem ft(hb:b∈W):∀ c,c∈kI W b x↔c∈W\/c=x:=by
 induction W with
 | nil=>simp at hb
 | cons a t ih=>
  intro c;unfold kI
  by_cases e:a=b
  ·rw[if_pos e];simp only[NH];constructor
   ·rintro (h|h|h)
    ·exact .inl (.inl h)
    ·exact .inr h
    ·exact .inl (.inr h)
   ·rintro ((h|h)|h)
    ·exact .inl h
    ·exact .inr (.inr h)
    ·exact .inr (.inl h)
  ·rw[if_neg e];have hb':b∈t:=by
    rcases NH.mp hb with z|z
    ·exact absurd z.symm e
    ·exact z
   simp only[NH,ih hb' c];constructor
   ·rintro (h|h|h)
    ·exact .inl (.inl h)
    ·exact .inl (.inr h)
    ·exact .inr h
   ·rintro ((h|h)|h)
    ·exact .inl h
    ·exact .inr (.inl h)
    ·exact .inr (.inr h)
theorem lJ(hb:b∈W):(kI W b x).length=W.length+1:=by
 induction W with
 | nil=>simp at hb
 | cons a t ih=>
  unfold kI
  by_cases e:a=b
  ·rw[if_pos e];simp
  ·rw[if_neg e];have hb':b∈t:=by
    rcases NH.mp hb with z|z
    ·exact absurd z.symm e
    ·exact z
   simp[ih hb']
theorem A2(hW:W.Nodup)(hx:x∉W)(hb:b∈W):(kI W b x).Nodup:=by
 induction W with
 | nil=>simp at hb
 | cons a t ih=>
  unfold kI;rw[OL]at hW
  by_cases e:a=b
  ·rw[if_pos e,OL,OL];simp only[NH,not_or]at hx;refine⟨?_,hx.2,hW.2⟩;rw[NH,not_or];exact⟨Ne.symm hx.1,hW.1⟩
  ·rw[if_neg e];have hb':b∈t:=by
    rcases NH.mp hb with z|z
    ·exact absurd z.symm e
    ·exact z
   simp only[NH,not_or]at hx;rw[OL];refine⟨fun z=>?_,ih hW.2 hx.2 hb'⟩;rcases (ft hb' a).mp z with z|z
   ·exact hW.1 z
   ·exact hx.1 z.symm
theorem E5:Ds (kI W b x)=Ds W:=by
 cases W with
 | nil=>rfl
 | cons a t=>
  unfold kI;split<;>rfl
theorem GR(hW:W.Nodup)(hx:x∉W)(hb:b∈W):∀ c,nx (kI W b x) c=if c=x then nx W b else if c=b then x.d else nx W c:=by
 induction W with
 | nil=>simp at hb
 | cons a t ih=>
  intro c;rw[OL]at hW;simp only[NH,not_or]at hx;unfold kI
  by_cases e:a=b
  ·subst e;rw[if_pos rfl];simp only[nx]
   by_cases c1:c=x
   ·subst c1;rw[if_neg (Ne.symm hx.1),if_pos rfl,if_pos rfl];simp
   ·rw[if_neg c1]
    by_cases c2:c=a
    ·subst c2;simp[Ds]
    ·rw[if_neg (Ne.symm c2),if_neg (fun z=>c1 z.symm),if_neg c2,if_neg (Ne.symm c2)]
  ·rw[if_neg e];have hb':b∈t:=by
    rcases NH.mp hb with z|z
    ·exact absurd z.symm e
    ·exact z
   simp only[nx];rw[E5,ih hW.2 hx.2 hb' c]
   by_cases c0:a=c
   ·subst c0;rw[if_pos rfl,if_neg (fun z=>hx.1 z.symm),if_neg e,if_pos rfl]
   ·rw[if_neg c0,if_neg c0,if_neg e]
def Dq(kvs:List (List aB×D))(W:List Sl):Prop:=W.Nodup/\kvs.length=W.length/\(∀ s,s∉W->bL kvs s.key=none)/\∀ s∈W,bL kvs s.key=some (nx W s)
theorem tH{κ:Type}[DecidableEq κ]{kvs:List (κ×D)}{k:κ}{v:D}:(bg kvs k v).length=if (bL kvs k).isSome=true then kvs.length else kvs.length+1:=by
 unfold bg;rw[pD];split<;>simp
theorem Ff(h:Dq kvs W)(hb:b∈W)(hx:x∉W):Dq (bg (bg kvs x.key (nx W b)) b.key x.d) (kI W b x):=by
 obtain⟨h1,h2,h3,h4⟩:=h;have hne:b≠x:=fun z=>hx (z ▸ hb);have at2:∀ c:Sl,bL (bg (bg kvs x.key (nx W b)) b.key x.d) c.key=if c=b then some x.d else if c=x then some (nx W b)else bL kvs c.key:=fun c=>by
  rw[fP,fP]
  by_cases e1:c=b
  ·subst e1;rw[if_pos rfl,if_pos rfl]
  ·rw[if_neg (fun z=>e1 (Sl.key_inj z)),if_neg e1]
   by_cases e2:c=x
   ·subst e2;rw[if_pos rfl,if_pos rfl]
   ·rw[if_neg (fun z=>e2 (Sl.key_inj z)),if_neg e2]
 refine⟨A2 h1 hx hb,?_,fun c hc=>?_,fun c hc=>?_⟩
 ·rw[tH,tH,h3 x hx,fP,if_neg (fun z=>hne (Sl.key_inj z)),h4 b hb,lJ hb,h2];simp
 ·have hc':c∉W/\c≠x:=⟨fun z=>hc ((ft hb c).mpr (.inl z)),fun z=>hc ((ft hb c).mpr (.inr z))⟩;rw[at2,if_neg (fun (z:c=b)=>hc'.1 (by rw[z];exact hb)),if_neg hc'.2]
  exact h3 c hc'.1
 ·rw[at2,GR h1 hx hb]
  by_cases e1:c=b
  ·subst e1;rw[if_pos rfl,if_neg hne,if_pos rfl]
  ·rw[if_neg e1]
   by_cases e2:c=x
   ·rw[if_pos e2,if_pos e2]
   ·rw[if_neg e2,if_neg e2,if_neg e1];rcases (ft hb c).mp hc with z|z
    ·exact h4 c z
    ·exact absurd z e2
theorem C_(v:List Sl->Prop):Dq [(aE.key,.non)] [aE]:=by
 refine⟨by simp,rfl,fun s hs=>?_,fun s hs=>?_⟩
 ·have:s≠aE:=by simpa using hs
  simp only[bL,Nw,List.find?_nil];rw[decide_eq_false (fun z=>this (Sl.key_inj z).symm)];rfl
 ·have:s=aE:=by simpa using hs
  subst this;simp[bL,nx,Ds]
def fb(W:List Sl)(s:Sk):List Sl:=if s.act.anch∈W then bO W s.act.anch (made s)else W
def no(n:Nat)(out:List Sk):List Sl:=out.foldl fb (bO [aE] aE (fK n))
theorem uk:∀ {ss W:List Sl} {b:Sl},b∈W->∀ c,c∈bO W b ss↔c∈W\/c∈ss
 | [],W,b,hb,c=>by simp[bO]
 | x::t,W,b,hb,c=>by
  unfold bO;rw[uk (ss:=t) ((ft hb x).mpr (.inr rfl)) c,ft hb c,NH];constructor
  ·rintro ((h|h)|h)
   ·exact .inl h
   ·exact .inr (.inl h)
   ·exact .inr (.inr h)
  ·rintro (h|h|h)
   ·exact .inl (.inl h)
   ·exact .inl (.inr h)
   ·exact .inr h
theorem mX:∀ {ss W:List Sl} {b:Sl},b∈W->(bO W b ss).length=W.length+ss.length
 | [],W,b,hb=>by simp[bO]
 | x::t,W,b,hb=>by
  unfold bO;rw[mX (ss:=t) ((ft hb x).mpr (.inr rfl)),lJ hb,Nc];omega
theorem A1(h:b∉pre):kI (pre ++ b::post) b x=pre ++ b::x::post:=by
 induction pre with
 | nil=>simp[kI]
 | cons a t ih=>
  simp only[NH,not_or]at h;simp only[O9,kI];rw[if_neg (Ne.symm h.1),ih h.2]
theorem pd:∀ {ss pre post:List Sl} {b:Sl},b∉pre->ss.Nodup->(∀ x∈ss,x∉pre/\x≠b)->bO (pre ++ b::post) b ss=pre ++ b::(ss ++ post)
 | [],pre,post,b,_,_,_=>by simp[bO]
 | x::t,pre,post,b,h,nd,hs=>by
  unfold bO;rw[A1 h];rw[OL]at nd;have hx:=hs x M_;have e:pre ++ b::x::post=(pre ++ [b]) ++ x::post:=by simp
  rw[e,pd (ss:=t) (pre:=pre ++ [b]) (post:=post) (b:=x) (by simp[hx.1,hx.2]) nd.2 (fun y hy=>?_)]
  ·simp
  ·have hy':=hs y (M7 _ hy);refine⟨by simp[hy'.1,hy'.2],fun z=>nd.1 (z ▸ hy)⟩
def Bo(done:List Sk)(W:List Sl):Prop:=∀ x∈W,x.n=0\/∃ s∈done,x.pen=s.pen/\x.n=s.num
theorem Fe(h:Bo done W)(hs:1<=s.num)(ap:∀ r∈done,¬ (r.pen=s.pen/\r.num=s.num)):∀ x∈made s,x∉W:=fun x hx hW=>by
 obtain⟨p1,p2,_⟩:=fm hx;rcases h x hW with z|⟨r,hr,z1,z2⟩
 ·omega
 ·exact ap r hr ⟨z1.symm.trans p1,z2.symm.trans p2⟩
theorem C9(h:Bo done W):Bo (done ++ [s]) (fb W s):=fun x hx=>by
 unfold fb at hx;have up:x∈W->x.n=0\/∃ r∈done ++ [s],x.pen=r.pen/\x.n=r.num:=fun z=>by
  rcases h x z with q|⟨r,hr,q⟩
  ·exact .inl q
  ·exact .inr ⟨r,List.mem_append_left _ hr,q⟩
 split at hx
 ·rename_i ha;rcases (uk ha x).mp hx with z|z
  ·exact up z
  ·obtain⟨p1,p2,_⟩:=fm z;exact .inr ⟨s,by simp,p1,p2⟩
 ·exact up hx
theorem dm(n:Nat):bO [aE] aE (fK n)=aE::fK n:=by
 have:=pd (ss:=fK n) (pre:=[]) (post:=[]) (b:=aE) (by simp) (ic _ _ _) (fun x hx=>⟨by simp,fun z=>by
  obtain⟨_,_,h⟩:=fm hx;rw[z]at h;exact absurd h (by decide)⟩)
 simpa using this
theorem A6(n:Nat):Bo [] (bO [aE] aE (fK n)):=fun x hx=>by
 rw[dm]at hx;rcases NH.mp hx with z|z
 ·subst z;exact .inl rfl
 ·exact .inl (fm z).2.1
theorem zM(n:Nat):∀ (out done:List Sk) (W:List Sl),Bo done W->Bo (done ++ out) (out.foldl fb W)
 | [],done,W,h=>by simpa using h
 | s::t,done,W,h=>by
  have:=zM n t (done ++ [s]) (fb W s) (C9 h)
  simpa using this
theorem Cj(h:W=aE::R):∃ R',fb W s=aE::R':=by
 unfold fb;split
 ·rename_i ha;clear ha;generalize made s=ss;generalize s.act.anch=b
  induction ss generalizing W b R with
  | nil=>exact⟨R,h⟩
  | cons x t ih=>
   unfold bO;subst h;unfold kI;split
   ·exact ih rfl _
   ·exact ih rfl _
 ·exact⟨R,h⟩
theorem yV(n:Nat):∀ (out:List Sk) (W R:List Sl),W=aE::R->∃ R',out.foldl fb W=aE::R'
 | [],W,R,h=>⟨R,h⟩
 | s::t,W,R,h=>by
  obtain⟨R',h'⟩:=Cj (s:=s) h;exact yV n t _ R' h'
def iw(n:Nat)(out:List Sk):List Sl:=(no n out).tail
theorem sf(n:Nat)(out:List Sk):no n out=aE::iw n out:=by
 obtain⟨R,h⟩:=yV n out _ (fK n) (dm n);unfold iw;have:no n out=aE::R:=h;rw[this];rfl
theorem vZ(n:Nat)(out:List Sk)(s:Sk):no n (out ++ [s])=fb (no n out) s:=by simp[no]
theorem xt(W:List Sl):val (Ds W)=Ds W:=by cases W<;>rfl
theorem IW(W:List Sl)(c:Sl):val (nx W c)=nx W c:=by
 induction W with
 | nil=>rfl
 | cons a t ih=>
  unfold nx;split
  ·exact xt t
  ·exact ih
end RQ
open RQ
namespace L3
open PySem PySem.Spec PyProof.Rows L2 PySem.SeqAt PySem.W
end L3
namespace L3
open PySem PySem.Spec PyProof.Rows L2 PySem.SeqAt PySem.W
def jJ(h:Nf)(d:MT)(vs:List MS)(ep:Nat):Prop:=∃ o es,h.get? d=some o/\o.ExactDict/\o.data=.dict es ep/\es.toList.map (·.key)=vs
section
variable{prog:M9}{w:Ng}{A:Nb}{E:MS->MU->Prop}{s:MU}{d r it:MT}{vs:List MS}{ep i:Nat}
theorem jJ.ty(x:jJ s.heap d vs ep):s.TypeIs (.ref d) "dict":=let ⟨o,_,e,z,_⟩:=x;⟨o,e,z.1⟩
theorem jJ.there(x:jJ h d vs ep):d < h.objs.size:=let ⟨_,_,e,_⟩:=x;M4 e
theorem jJ.stay(x:jJ h d vs ep)(k:∀ o,h.get? d=some o->h'.get? d=some o):jJ h' d vs ep:=let ⟨o,es,e,z⟩:=x;⟨o,es,k o e,z⟩
theorem tF(hi:s.heap.IsKeyIter it d i vs.length ep)(x:jJ s.heap d vs ep)(hv:vs[i]?=some v)(q:∀ h',h'.IsKeyIter it d (i+1) vs.length ep->ON it s.heap h'->Q (some v) { s with heap:=h' }):MZ (M0 prog w) A (OK (.ref it)) Q E s:=by
 obtain⟨o,e1,c1,d1⟩:=id hi;obtain⟨od,es,e2,c2,d2,rfl⟩:=x;unfold OK;refine MR (OB (N5 (name:=MW "__next__") hi.typeIs OP (NY OP hi.typeIs QP ?_ (QH _))));refine MR (MV ?_);refine MR ?_;refine MR ?_
 first|refine MR (OG hi.typeIs (MV ?_))|refine MR (OZ hi.typeIs (MV ?_))
 refine MR (Qd e1 d1 ?_);have own:Ol "dict_keyiterator"=false:=by decide
 simp only[own,Bool.false_eq_true,if_false];show MZ _ _ (if (Value.ref d == Value.none)=true then _ else _) _ _ s;rw[if_neg (show ¬ ((Value.ref d == Value.none)=true)from Bool.false_ne_true)]
 refine MR (MV ?_);refine MR (Oi e2 d2 ?_);have z:es.size=(es.toList.map (·.key)).length:=by simp
 rw[if_neg (by rw[z];simp)];refine MR (MV ?_);refine MR (OO e2 d2 ?_)
 rw[if_neg (by simp)];refine MV ?_
 have lt:i < es.size:=by
  rw[z];rcases OV i (es.toList.map (·.key)).length with h|h
  ·exact h
  ·rw[Oc h]at hv;cases hv
 have val:es[i].key=v:=by
  rw[Nd]at hv
  simpa[lt]using hv
 simp only[show ¬ ((i:Int) < 0)from by walk_at "o",if_false,Int.toNat_natCast,Array.getElem?_eq_getElem lt];refine MR ?_
 first|refine MR (OG hi.typeIs (MV ?_))|refine MR (OZ hi.typeIs (MV ?_))
 refine MR (Rz hi.typeIs ?_);show MZ _ _ (QX (.ref it) 1 (Ov ((i:Int)+1)) >>= _) _ _ s;refine MR (OT e1 d1 (by simp) ?_)
 have hi':(s.heap.update it (NE (·.setIfInBounds 1 (Ov ((i:Int)+1))))).IsKeyIter it d (i+1) (es.toList.map (·.key)).length ep:=
  ⟨_,N9 _ e1 (Ou (NT d1 _)),(PL ..).trans c1,by rw[NT d1];simp[Ov]⟩
 refine MR (Nz ?_);refine MR (Rz (s:={ s with heap:=s.heap.update it (NE (·.setIfInBounds 1 (Ov ((i:Int)+1)))) }) hi'.typeIs ?_)
 show MZ _ _ (pure es[i].key) _ _ _
 exact MV (MV ⟨_,rfl,MV (val ▸ q _ hi' (Pq ..))⟩)
theorem wY(hh:A.handled=none)(hi:s.heap.IsKeyIter it d i vs.length ep)(x:jJ s.heap d vs ep)(hv:vs[i]?=none)(q:∀ h',Heap.ExtBut it s.heap h'->Q none { s with heap:=h' }):MZ (M0 prog w) A (OK (.ref it)) Q E s:=by
 obtain⟨o,e1,c1,d1⟩:=id hi;obtain⟨od,es,e2,c2,d2,rfl⟩:=x;unfold OK;refine MR (OB (N5 (name:=MW "__next__") hi.typeIs OP (NY OP hi.typeIs QP ?_ (QH _))));refine MR (MV ?_);refine MR ?_;refine MR ?_
 first|refine MR (OG hi.typeIs (MV ?_))|refine MR (OZ hi.typeIs (MV ?_))
 refine MR (Qd e1 d1 ?_);have own:Ol "dict_keyiterator"=false:=by decide
 simp only[own,Bool.false_eq_true,if_false];show MZ _ _ (if (Value.ref d == Value.none)=true then _ else _) _ _ s;rw[if_neg (show ¬ ((Value.ref d == Value.none)=true)from Bool.false_ne_true)]
 refine MR (MV ?_);refine MR (Oi e2 d2 ?_);have z:es.size=(es.toList.map (·.key)).length:=by simp
 rw[if_neg (by rw[z];simp)];refine MR (MV ?_);refine MR (OO e2 d2 ?_)
 rw[if_neg (by simp)];refine MV ?_
 have ge:es.size<=i:=by rw[z];simpa using hv
 simp only[show ¬ ((i:Int) < 0)from by walk_at "o",if_false,Int.toNat_natCast,Array.getElem?_eq_none ge];refine MR ?_
 first|refine MR (OG hi.typeIs (MV ?_))|refine MR (OZ hi.typeIs (MV ?_))
 show MZ _ _ (QX (.ref it) 0 .none >>= _) _ _ s;refine MR (OT e1 d1 (by simp) ?_)
 show MZ _ _ (newExc (.type "StopIteration") [] >>= _) _ _ _;refine MR ?_
 simp only[newExc,newTuple];refine MR (Nx ?_ (by size_fits))
 refine MR (m:=Qg _ _) (wpAny_of_eq (a:=Value.none) (by first|rfl|(simp only[Qg];rfl)) ?_);refine Nx ?_ (by size_fits)
 simp only[raiseNew];refine MR (wpAny_handled ?_);rw[show A.in1.handled=none from hh]
 refine MR (MV (wpAny_throw ?_));refine MR (PQ (T:="StopIteration") (b:=true) ⟨_,M3 _ rfl,rfl⟩ QZ ?_);exact MV (q _ (((Pq ..).extBut.push _).push _))
theorem Ea(hh:A.handled=none)(hne:d≠it):Walks prog w A it [it,d] [it] vs.length (fun i v=>vs[i]?=some v) (fun i h=>h.IsKeyIter it d i vs.length ep/\jJ h d vs ep) where
 sub:=fun b hb=>by rw[Q6.mp hb];exact M_
 frame:=fun _ _ _ t k=>⟨t.1.at fun o e=>k it M_ o e,t.2.stay fun o e=>k d (M7 _ M_) o e⟩
 item:=fun i s Q E hi t q=>by
  obtain⟨v,hv⟩:∃ v,vs[i]?=some v:=⟨vs[i],by simp[hi]⟩
  refine tF t.1 t.2 hv fun h' a b=>?_;exact q v h' s.toks hv ⟨a,t.2.stay fun o e=>b.extBut d o hne e⟩ fun c o hc e=>b.extBut c o (fun z=>hc (by rw[z];exact M_)) e
 done:=fun s Q E t q=>wY hh t.1 t.2 (by simp) fun h' b=>q h' s.toks fun c o hc e=>b c o (fun z=>hc (by rw[z];exact M_)) e
 self:=fun _ _ _ _ t q=>RB t.1 q
end
open HT
section
variable{X:Cx}{prog:M9}{w:Ng}{A:Nb}{E:MS->MU->Prop}{s:MU}
def Mw:Ld:=fun x lo hi G Q=>match x with
 | .tup ds=>Q (.tup (cutD ds lo hi)) G
 | _=>False
end
def IU:R3:=fun x y G Q=>∃ bs:List Bool,(x=.lst (bs.map D.bl)/\y=.lst (bs.map D.bl))/\Q (.bl true) G
theorem JU(hu:X.A.units+8 < NF):gf X (Nr .Eq) (iF X.K IU):=by
 rintro pins s σ H v u v' u' Q I rv ru ⟨x,y,G,Q3,rx,ry,rg,h,k⟩
 obtain⟨bs,⟨rfl,rfl⟩,h⟩:=h;simp only[RD]at rx ry;obtain⟨a,xs,rfl,s1,r1⟩:=rx;obtain⟨b,ys,rfl,s2,r2⟩:=ry;cases rv;cases ru;obtain⟨its,w1,t1,z1⟩:=I.list s1.sq;obtain⟨its2,w2,t2,z2⟩:=I.list s2.sq;have l1:=w1.length;have l1':=r1.length;have l2:=w2.length;have l2':=r2.length;have he:∀ j (h1:j < its.toArray.size) (h2:j < its2.toArray.size),EqAt X.A.in1 s its.toArray[j] its2.toArray[j] ((fun _=>true) j):=by
  intro j h1 h2;obtain⟨x1,e1,q1⟩:=Vals.getV (i:=j) (u:=its.toArray[j]) w1 (by simp at h1;simp[h1])
  obtain⟨x2,e2,q2⟩:=Vals.getV (i:=j) (u:=its2.toArray[j]) w2 (by simp at h2;simp[h2])
  obtain⟨d1,f1,g1⟩:=RDs.getV r1 e1;obtain⟨d2,f2,g2⟩:=RDs.getV r2 e2;rw[f1]at f2;cases f2;rw[Nd]at f1;cases hb:bs[j]? with
  | none=>rw[hb]at f1;cases f1
  | some t=>
   rw[hb]at f1;cases f1;simp only[RD]at g1 g2;subst g1 g2;rw[show its.toArray[j]=Value.bool t from q1,show its2.toArray[j]=Value.bool t from q2]
   exact Rf _
 have rc:=RcAt.lists (A:=X.A) t1.isList t2.isList (by simp only[M8];omega) (by walk_at "o") he
 have ea:(List.range its.toArray.size).all (fun _=>true)=true:=by simp
 rw[ea]at rc;exact rc X.prog X.w X.xe _ ⟨.bl true,H,I,rfl,k _ G _ H h Kp.refl rg (.of ff)⟩
end L3
namespace L2
open PySem PySem.Spec PyProof.Rows
end L2
namespace L3
open PySem PySem.Spec PyProof.Rows L2
theorem RDs.bls_inv{K:Po}{H:Hp}:∀ (ns:List Bool) {xs:List V},RDs K H (ns.map D.bl) xs->xs=ns.map V.bl
 | [],xs,h=>h.inv_nil
 | n::r,xs,h=>by
  obtain⟨x,t,e,h1,h2⟩:=RDs.inv_cons (d:=.bl n) (ds:=r.map D.bl) h;simp only[RD]at h1;subst e h1;rw[RDs.bls_inv r h2];rfl
theorem zZ:∀ {ns:List Bool} {us:List MS},Vals (ns.map V.bl) us->us=ns.map Value.bool
 | [],us,w=>by cases w;rfl
 | n::r,us,w=>by
  rw[Nk]at w;cases w with
  | cons h w=>
   cases h;rw[zZ w];rfl
def B8:Bk:=fun ds G Q=>match ds with
 | [d]=>∃ bs:List Bool,xV G d=some (bs.map D.bl)/\Q (.bl (bs.all id)) G
 | _=>False
theorem wz:∀ (bs:List Bool),(List.range bs.length).all (fun i=>bs.getD i false)=bs.all id
 | []=>rfl
 | b::r=>by
  rw[Nc,List.range_succ_eq_map,List.all_cons,List.all_cons,List.all_map];have:=wz r;rw[<- this];rfl
theorem JD(hc:X.calm=true):d9 X (.builtin "all") (mW X.K B8):=by
 rintro pins s σ H vs us Q I rv ⟨ds,G,Q3,rds,rg,h,kk⟩
 unfold B8 at h;split at h
 ·rename_i d;obtain⟨v,rfl,rd⟩:=fk rds;obtain⟨bs,he,h⟩:=h;obtain⟨a,xs,rfl,sq,r⟩:=qI (G:=G) (H:=H) he (.of rd) rg;obtain⟨u,rfl,ru⟩:=yF rv;cases ru;rw[RDs.bls_inv bs r]at sq;obtain⟨its,w,pl,hz⟩:=I.list sq;have ei:its=bs.map Value.bool:=zZ w;have ll:a < s.heap.objs.size:=let ⟨o,e,_⟩:=pl.isList;M4 e;refine call_all_walk (Pz pl.isList ?_);refine⟨s.heap.objs.size,_,_,_,_,_,fun i=>bs.getD i false,rfl,Walks.list (A:=X.A.in1) (I.ok.hd hc) _ a (Np ll) its.toArray,⟨⟨_,M3 _ rfl,rfl,rfl⟩,pl.isList.push _⟩,fun i v s Q E hP hQ=>?_,fun h' tk hk=>?_⟩
  ·have e:v=.bool (bs.getD i false):=by
    have hP':its[i]?=some v:=by simpa using hP
    rw[ei,Nd]at hP';cases hb:bs[i]? with
    | none=>rw[hb]at hP';cases hP'
    | some b=>
     rw[hb]at hP';cases hP';rw[Nj,hb];rfl
   rw[e];exact OR hQ
  ·have el:its.toArray.size=bs.length:=by rw[M8,ei,MY]
   rw[el,wz];refine⟨.bl _,H,I.kept fun b o e=>hk b o (fun z=>?_) (MX _ e),rfl,kk _ G _ H h Kp.refl rg (.of ff)⟩;rw[Q6.mp z]at e;exact absurd (M4 e) (Nat.lt_irrefl _)
 ·exact h.elim
end L3
namespace L2
open PySem PySem.Spec PyProof.Rows
abbrev f_(h:Nf)(z TI TO:MT)(f0 f1:MS):Prop:=
 h.get? z=some { cls:=.type "zip",dict:=none,data:=.fields #[f0,f1,.bool false,.ref TI,.ref TO],slots:=#[] }
def Bm(f0:MS):Prop:=f0=.none\/∃ T:MT,f0=Ov T
structure ZApart(z TI TO i1 i2:MT)(fp1 fp2:List MT):Prop where
 a1:TI≠z
 a2:TO≠z
 a3:i1≠z
 a4:i2≠z
 a5:TI≠TO
 a6:TI≠i1
 a7:TI≠i2
 a8:TO≠i1
 a9:TO≠i2
 a10:i1≠i2
 f1:∀ b∈fp1,b≠z/\b≠TO/\b≠i2
 f2:∀ b∈fp2,b≠z/\b≠TO/\b≠i1
section
variable{prog:M9}{w:Ng}{A:Nb}{E:MS->MU->Prop}{s:MU}
theorem DB{α:Type}{M:RL}{a:MT}{k:Option Obj->Sem α}{Q:α->MU->Prop}(h:MZ M A (k (s.heap.get? a)) Q E s):MZ M A (RH a >>= k) Q E s:=fun Γ p hΓ=>by
 have e:(RH a >>= k)=Sem.loadIfAlive a k:=rfl;rw[e,Sem.wp_loadIfAlive];exact h Γ p hΓ
theorem yC{z TI TO:MT}{f0 f1:MS}{Q:Bool->MU->Prop}(hz:f_ s.heap z TI TO f0 f1)(hf:Bm f0)(q1:Q true s)
  (q2:∀ h' f1',f_ h' z TI TO f0 f1'->ON z s.heap h'->Q false { s with heap:=h' }):MZ (M0 prog w) A (Oq (.ref z)) Q E s:=by
 unfold Oq;refine MR (N3 hz rfl (x:=f0) rfl ?_);rcases hf with rfl|⟨T,rfl⟩
 ·exact MV q1
 ·show MZ _ _ (RH _ >>= _) _ _ _;refine DB ?_;cases hT:s.heap.get? (Int.toNat (T:Int)) with
  | none=>exact MV q1
  | some o=>
   show MZ _ _ (field (.ref z) 1 >>= _) _ _ _
   refine MR (N3 hz rfl (x:=f1) rfl ?_)
   by_cases e:(f1 != Value.bool true)=true
   ·rw[if_pos e];exact MR (N_ hz (by simp) fun h1 hz1 hs1=>MV (q2 h1 _ hz1 hs1))
   ·rw[if_neg e];exact MR (MV (MV (q2 s.heap f1 hz (Sn ..))))
theorem yD{z TI TO i1 i2:MT}{f0 f1 a b:MS}{i:Nat}{fp1 fp2:List MT}{n1 n2:Nat}{P1 P2:Nat->MS->Prop}{St1 St2:Nat->Nf->Prop}{Q:Option MS->MU->Prop}
  (D1:Sr prog w A.in1 i1 fp1 n1 P1 St1) (D2:Sr prog w A.in1 i2 fp2 n2 P2 St2) (D:ZApart z TI TO i1 i2 fp1 fp2) (hz:f_ s.heap z TI TO f0 f1) (hf:Bm f0) (hTI:O6 s.heap TI (.ref i1) (.ref i2)) (hTO:O6 s.heap TO a b)
  (h1:St1 i s.heap) (h2:St2 i s.heap) (l1:i < n1) (l2:i < n2)
  (hQ:∀ h' tk x y f0' f1' a' b',P1 i x->P2 i y->Bm f0'->f_ h' z TI TO f0' f1'->O6 h' TO a' b'->St1 (i+1) h'->St2 (i+1) h'->O6 h' s.heap.objs.size x y->h'.objs.size=s.heap.objs.size+1->
   (∀ c o,c≠z->c≠TO->c≠i1->c≠i2->s.heap.get? c=some o->h'.get? c=some o)->Q (some (.ref s.heap.objs.size)) { s with heap:=h',toks:=tk }):
  MZ (M0 prog w) A (OK (.ref z)) Q E s:=by
 have hT:s.TypeIs (.ref z) "zip":=⟨_,hz,rfl⟩;unfold OK;refine MR (OB (N5 (name:=MW "__next__") hT P_ (NY P_ hT F.entry_zip_next ?_ (Sq _))));show MZ _ _ (field (.ref z) 2 >>= _) _ _ _;refine MR (N3 hz rfl (x:=.bool false) rfl ?_)
 show MZ _ _ (field (.ref z) 3 >>= _) _ _ _;refine MR (N3 hz rfl (x:=.ref TI) rfl ?_)
 refine MR (OU hTI rfl ?_);show MZ _ _ (Oq (.ref z) >>= _) _ _ _;refine MR (yC hz hf ?_ fun h0 f1' hz0 hs0=>?_)
 ·simp only[if_true];refine MR (PZ ?_);refine MR (N3 hz rfl (x:=.ref TO) rfl ?_);refine MR (N_ hz (by simp) fun g1 z1 s1=>?_)
  replace z1:f_ g1 z TI TO .ellipsis f1:=z1
  refine MR ?_;simp only[List.zipIdx_cons,List.zipIdx_nil,O5,PV];refine MR (MR (PN ?_));show MZ _ _ (NG (.ref i1) >>= _) _ _ _;refine MR (D1.item i { s with heap:=g1 } _ _ l1 (D1.frame i _ _ h1 fun b hb o e=>s1.extBut _ _ (D.f1 b hb).1 e) fun x g2 t2 p1 st1 s2=>MV ?_)
  have o2:O6 g2 TO a b:=s2.extBut _ _ D.a8 (s1.extBut _ _ D.a2 hTO);refine MR (OU o2 rfl ?_);refine MR (Qc o2 fun g3 o3 s3=>?_)
  replace o3:O6 g3 TO x b:=o3
  refine MR (QJ (MV ?_));refine MR (MR (PN ?_));show MZ _ _ (NG (.ref i2) >>= _) _ _ _;refine MR (D2.item i { s with heap:=g3,toks:=t2 } _ _ l2 (D2.frame i _ _ h2 fun b hb o e=>s3.extBut _ _ (D.f2 b hb).2.1 (s2.extBut _ _ (D.f2 b hb).2.2 (s1.extBut _ _ (D.f2 b hb).1 e))) fun y g4 t4 p2 st2 s4=>MV ?_)
  have o4:O6 g4 TO x b:=s4.extBut _ _ D.a9 o3;refine MR (OU o4 rfl ?_);refine MR (Qc o4 fun g5 o5 s5=>?_)
  replace o5:O6 g5 TO x y:=o5
  refine MR (QJ (MV (MV ?_)));refine MR (OU o5 rfl ?_);refine MR (QV ?_);have sz:g5.objs.size=s.heap.objs.size:=by rw[s5.1,s4.1,s3.1,s2.1,s1.1]
  have z5:f_ g5 z TI TO .ellipsis f1:=s5.extBut _ _ D.a2.symm (s4.extBut _ _ D.a4.symm (s3.extBut _ _ D.a2.symm (s2.extBut _ _ D.a3.symm z1)));have k5:∀ c o,c≠z->c≠TO->c≠i1->c≠i2->s.heap.get? c=some o->g5.get? c=some o:=fun c o c1 c2 c3 c4 e=>s5.extBut _ _ c2 (s4.extBut _ _ c4 (s3.extBut _ _ c2 (s2.extBut _ _ c3 (s1.extBut _ _ c1 e))));have lz:z < g5.objs.size:=M4 z5;show MZ _ _ (Qp (.ref z) (.ref g5.objs.size) >>= _) _ _ _;refine MR ?_;unfold Qp
  have z6:f_ (g5.push { cls:=.type "tuple",data:=.seq #[x,y] }) z TI TO .ellipsis f1:=MX _ z5;refine MR (N_ z6 (by simp) fun g7 z7 s7=>?_)
  replace z7:f_ g7 z TI TO (Ov g5.objs.size) f1:=z7
  refine N_ z7 (by simp) fun g8 z8 s8=>?_
  replace z8:f_ g8 z TI TO (Ov g5.objs.size) (.bool false):=z8
  have up:∀ c o,c≠z->g5.get? c=some o->g8.get? c=some o:=fun c o c1 e=>s8.extBut _ _ c1 (s7.extBut _ _ c1 (MX _ e));have t8:O6 g8 g5.objs.size x y:=s8.extBut _ _ (Ps lz) (s7.extBut _ _ (Ps lz) (M3 _ rfl));have sz8:g8.objs.size=g5.objs.size+1:=by rw[s8.1,s7.1,N8]
  have r1:St1 (i+1) g8:=D1.frame _ _ _ st1 fun b hb o e=>up b o (D.f1 b hb).1 (s5.extBut _ _ (D.f1 b hb).2.1 (s4.extBut _ _ (D.f1 b hb).2.2 (s3.extBut _ _ (D.f1 b hb).2.1 e)));have r2:St2 (i+1) g8:=D2.frame _ _ _ st2 fun b hb o e=>up b o (D.f2 b hb).1 (s5.extBut _ _ (D.f2 b hb).2.1 e);rw[sz]at z8 t8 sz8;refine MV ⟨.ref g5.objs.size,rfl,MV ?_⟩;rw[sz];exact hQ g8 t4 x y _ _ x y p1 p2 (.inr ⟨_,rfl⟩) z8 (up _ _ D.a2 o5) r1 r2 t8 sz8 fun c o c1 c2 c3 c4 e=>up c o c1 (k5 c o c1 c2 c3 c4 e)
 ·simp only[Bool.false_eq_true,if_false];rw[<- Array.forIn_toList];simp only[O5,PV];refine MR (MR (MR (Nz ?_)));show MZ _ _ (NG (.ref i1) >>= _) _ _ _
  refine MR (D1.item i { s with heap:=h0 } _ _ l1 (D1.frame i _ _ h1 fun b hb o e=>hs0.extBut _ _ (D.f1 b hb).1 e) fun x g2 t2 p1 st1 s2=>MV (MV ?_))
  refine MR (MR (Nz ?_));show MZ _ _ (NG (.ref i2) >>= _) _ _ _
  refine MR (D2.item i { s with heap:=g2,toks:=t2 } _ _ l2 (D2.frame i _ _ h2 fun b hb o e=>s2.extBut _ _ (D.f2 b hb).2.2 (hs0.extBut _ _ (D.f2 b hb).1 e)) fun y g4 t4 p2 st2 s4=>MV (MV (MV ?_)))
  refine MR (QV ?_ (by show 2<=M1;decide))
  have sz:g4.objs.size=s.heap.objs.size:=by rw[s4.1,s2.1,hs0.1]
  have k4:∀ c o,c≠z->c≠TO->c≠i1->c≠i2->s.heap.get? c=some o->g4.get? c=some o:=fun c o c1 _ c3 c4 e=>s4.extBut _ _ c4 (s2.extBut _ _ c3 (hs0.extBut _ _ c1 e));have z4:f_ g4 z TI TO f0 f1':=s4.extBut _ _ D.a4.symm (s2.extBut _ _ D.a3.symm hz0);have o4:O6 g4 TO a b:=s4.extBut _ _ D.a9 (s2.extBut _ _ D.a8 (hs0.extBut _ _ D.a2 hTO));refine MV ⟨.ref g4.objs.size,rfl,MV ?_⟩;have up:∀ c o,g4.get? c=some o->(g4.push { cls:=.type "tuple",data:=.seq #[x,y] }).get? c=some o:=fun c o e=>MX _ e;have t8:O6 (g4.push { cls:=.type "tuple",data:=.seq #[x,y] }) g4.objs.size x y:=M3 _ rfl;have sz8:(g4.push { cls:=.type "tuple",data:=.seq #[x,y] }).objs.size=g4.objs.size+1:=N8 ..;rw[sz]at t8 sz8 ⊢;exact hQ _ t4 x y _ _ a b p1 p2 hf (up _ _ z4) (up _ _ o4) (D1.frame _ _ _ st1 fun b hb o e=>up _ _ (s4.extBut _ _ (D.f1 b hb).2.2 e)) (D2.frame _ _ _ st2 fun b _ o e=>up b o e) t8 sz8 fun c o c1 c2 c3 c4 e=>up _ _ (k4 c o c1 c2 c3 c4 e)
theorem Am{z TI TO i1 i2:MT}{f0 f1 a b:MS}{i:Nat}{fp1 fp2:List MT}{n1 n2:Nat}{P1 P2:Nat->MS->Prop}{St1 St2:Nat->Nf->Prop}{Q:Option MS->MU->Prop}
  (D1:Sr prog w A.in1 i1 fp1 n1 P1 St1) (D2:Sr prog w A.in1 i2 fp2 n2 P2 St2) (D:ZApart z TI TO i1 i2 fp1 fp2) (hz:f_ s.heap z TI TO f0 f1) (hf:Bm f0) (hTI:O6 s.heap TI (.ref i1) (.ref i2)) (hTO:O6 s.heap TO a b)
  (h1:St1 i s.heap) (h2:St2 i s.heap) (le:i=n1\/(i < n1/\i=n2))
  (hQ:∀ h' tk,(∀ c o,c≠z->c≠TO->c≠i1->c≠i2->s.heap.get? c=some o->h'.get? c=some o)->Q none { s with heap:=h',toks:=tk }):
  MZ (M0 prog w) A (OK (.ref z)) Q E s:=by
 have hT:s.TypeIs (.ref z) "zip":=⟨_,hz,rfl⟩;unfold OK;have fin:∀ {h':Nf} {tk:Nat} {e:MT},(∀ c o,c≠z->c≠TO->c≠i1->c≠i2->s.heap.get? c=some o->h'.get? c=some o)->(∃ o,h'.get? e=some o/\o.cls=.type "StopIteration")->
   MZ (M0 prog w) A (do if <- Qs (.ref e) (.type "StopIteration")then pure none else throw (.ref e)) Q E { s with heap:=h',toks:=tk }:=fun hk ⟨o,ho,hc⟩=>
  MR (PQ (T:="StopIteration") (b:=true) ⟨o,ho,hc⟩ QZ (MV (hQ _ _ hk)))
 refine MR (OB (N5 (name:=MW "__next__") hT P_ (NY P_ hT F.entry_zip_next ?_ (Sq _))));show MZ _ _ (field (.ref z) 2 >>= _) _ _ _;refine MR (N3 hz rfl (x:=.bool false) rfl ?_)
 show MZ _ _ (field (.ref z) 3 >>= _) _ _ _;refine MR (N3 hz rfl (x:=.ref TI) rfl ?_)
 refine MR (OU hTI rfl ?_);show MZ _ _ (Oq (.ref z) >>= _) _ _ _;refine MR (yC hz hf ?_ fun h0 f1' hz0 hs0=>?_)
 ·simp only[if_true];refine MR (PZ ?_);refine MR (N3 hz rfl (x:=.ref TO) rfl ?_);refine MR (N_ hz (by simp) fun g1 z1 s1=>?_)
  replace z1:f_ g1 z TI TO .ellipsis f1:=z1
  refine MR ?_;simp only[List.zipIdx_cons,List.zipIdx_nil,O5,PV];refine MR (MR (PN ?_));show MZ _ _ (NG (.ref i1) >>= _) _ _ _;have st0:St1 i g1:=D1.frame i _ _ h1 fun b hb o e=>s1.extBut _ _ (D.f1 b hb).1 e;rcases le with rfl|⟨l1,rfl⟩
  ·refine MR (D1.done { s with heap:=g1 } _ _ st0 fun g2 e s2 he=>?_)
   obtain⟨oe,hoe,hce⟩:=he;have z2:f_ g2 z TI TO .ellipsis f1:=s2 _ _ D.a3.symm z1;have hez:e≠z:=fun x=>by subst x;rw[z2]at hoe;cases hoe;simp at hce
   exact N_ z2 (by simp) fun g3 _ s3=>fin (tk:=s.toks) (fun c o c1 _ c3 _ x=>s3.extBut _ _ c1 (s2 _ _ c3 (s1.extBut _ _ c1 x))) ⟨oe,s3.extBut _ _ hez hoe,hce⟩
  ·refine MR (D1.item i { s with heap:=g1 } _ _ l1 st0 fun x g2 t2 p1 st1 s2=>MV ?_)
   have o2:O6 g2 TO a b:=s2.extBut _ _ D.a8 (s1.extBut _ _ D.a2 hTO);refine MR (OU o2 rfl ?_);refine MR (Qc o2 fun g3 o3 s3=>?_);refine MR (QJ (MV ?_));refine MR (MR (PN ?_));show MZ _ _ (NG (.ref i2) >>= _) _ _ _;refine MR (D2.done { s with heap:=g3,toks:=t2 } _ _ (D2.frame i _ _ h2 fun b hb o e=>s3.extBut _ _ (D.f2 b hb).2.1 (s2.extBut _ _ (D.f2 b hb).2.2 (s1.extBut _ _ (D.f2 b hb).1 e))) fun g4 e s4 he=>?_)
   obtain⟨oe,hoe,hce⟩:=he;have z4:f_ g4 z TI TO .ellipsis f1:=s4 _ _ D.a4.symm (s3.extBut _ _ D.a2.symm (s2.extBut _ _ D.a3.symm z1));have hez:e≠z:=fun x=>by subst x;rw[z4]at hoe;cases hoe;simp at hce
   exact N_ z4 (by simp) fun g5 _ s5=>fin (tk:=t2) (fun c o c1 c2 c3 c4 x=>s5.extBut _ _ c1 (s4 _ _ c4 (s3.extBut _ _ c2 (s2.extBut _ _ c3 (s1.extBut _ _ c1 x))))) ⟨oe,s5.extBut _ _ hez hoe,hce⟩
 ·simp only[Bool.false_eq_true,if_false];rw[<- Array.forIn_toList];simp only[O5,PV];refine MR (MR (MR (Nz ?_)));show MZ _ _ (NG (.ref i1) >>= _) _ _ _
  have st0:St1 i h0:=D1.frame i _ _ h1 fun b hb o e=>hs0.extBut _ _ (D.f1 b hb).1 e;rcases le with rfl|⟨l1,rfl⟩
  ·exact MR (D1.done { s with heap:=h0 } _ _ st0 fun g2 e s2 he=>fin (tk:=s.toks) (fun c o c1 _ c3 _ x=>s2 _ _ c3 (hs0.extBut _ _ c1 x)) he)
  ·refine MR (D1.item i { s with heap:=h0 } _ _ l1 st0 fun x g2 t2 p1 st1 s2=>MV (MV ?_))
   refine MR (MR (Nz ?_));show MZ _ _ (NG (.ref i2) >>= _) _ _ _
   exact MR (D2.done { s with heap:=g2,toks:=t2 } _ _ (D2.frame i _ _ h2 fun b hb o e=>s2.extBut _ _ (D.f2 b hb).2.2 (hs0.extBut _ _ (D.f2 b hb).1 e)) fun g4 e s4 he=>fin (tk:=t2) (fun c o c1 _ c3 c4 x=>s4 _ _ c4 (s2.extBut _ _ c3 (hs0.extBut _ _ c1 x))) he)
theorem HX{tg:Nh}{z TI TO:MT}{f0 f1 u:MS}{Q:Unit->MU->Prop}(hz:f_ s.heap z TI TO f0 f1)(hf:Bm f0)
  (hQ:∀ h' f0',Bm f0'->f_ h' z TI TO f0' f1->ON z s.heap h'->Q () { s with heap:=h' }):MZ (M0 prog w) A (O4 tg (.ref z) u) Q E s:=by
 have same:Q () s:=hQ s.heap f0 hf hz (Sn ..);unfold O4;cases tg<;>first
  | exact MV same
  | (cases u<;>first
    | exact MV same
    | (refine MR (wpAny_load hz ?_)
       dsimp only;split
       ·refine MR (PZ ?_);exact N_ hz (by simp) fun h1 z1 s1=>hQ h1 _ (.inl rfl) z1 s1
       ·exact MV same))
end
set_option genInjectivity false in
inductive Zk where
 | lst (l:MT) (xs:List V)
 | txt (z:Str) (t:Tok)
def Zk.vs:Zk->List V
 | .lst _ xs=>xs
 | .txt z _=>dz z
def Zk.val:Zk->MS
 | .lst l _=>.ref l
 | .txt z t=>.str z t
def Zk.here(K:Po)(H:Hp):Zk->Prop
 | .lst l xs=>kg K H l xs
 | .txt _ _=>True
def Zk.ready(h:Nf):Zk->Prop
 | .lst l xs=>∃ us,Vals xs us/\h.IsList l us.toArray
 | .txt _ _=>True
def Zk.it(it:MT)(i:Nat)(h:Nf):Zk->Prop
 | .lst l _=>h.IsListIter it l i
 | .txt z t=>h.IsStrIter it (PD z) z t i
theorem m_(z:Str):PD z="str_ascii_iterator"\/PD z="str_iterator":=by unfold PD;split;exact .inl rfl;exact .inr rfl
theorem Zk.obj{k:Zk}{it:MT}{i:Nat}{h:Nf}(x:k.it it i h):∃ o,h.get? it=some o/\(∀ v,o.data≠.cell v)/\o.cls≠.type "list"/\o.cls≠.type "tuple"/\o.cls≠.type "zip":=by
 cases k with
 | lst l xs=>
  obtain⟨o,e,c,d⟩:=x;exact⟨o,e,(fun v z=>by rw[d]at z;cases z),by rw[c];decide,by rw[c];decide,by rw[c];decide⟩
 | txt z t=>
  obtain⟨o,e,c,d⟩:=x;refine⟨o,e,(fun v z=>by rw[d]at z;cases z),?_⟩
  rw[c];rcases m_ z with q|q<;>rw[q]<;>decide
theorem Zk.keep{k:Zk}{it:MT}{i:Nat}{h h':Nf}(x:k.it it i h)(q:∀ o,h.get? it=some o->h'.get? it=some o):k.it it i h':=by
 cases k with
 | lst l xs=>exact x.at fun o e=>q o e
 | txt z t=>
  obtain⟨o,e,c⟩:=x;exact⟨o,q o e,c⟩
theorem Zk.of{X:Cx}{pins:List (MT×Obj)}{σ:St}{H:Hp}{s:MU}{k:Zk}(I:Inv X pins σ H s)(x:k.here X.K H):k.ready s.heap:=by
 cases k with
 | lst l xs=>
  obtain⟨its,rv,p,_⟩:=I.list x;exact⟨its,rv,p.isList⟩
 | txt z t=>exact True.intro
theorem Zk.draws{P:M9}{w:Ng}{k:Zk}{it:MT}{h:Nf}{j:Nat}(x:k.ready h)(y:k.it it j h):∃ (fp:List MT) (Pv:Nat->MS->Prop) (St:Nat->Nf->Prop),(∀ A:Nb,A.handled=none->Sr P w A it fp k.vs.length Pv St)/\(∀ i v,Pv i v->∃ u,k.vs[i]?=some u/\aH u v)/\
  (∀ i,k.it it i h->St i h)/\(∀ i h',St i h'->k.it it i h')/\∀ b∈fp,b=it\/∃ o,h.get? b=some o/\o.cls=.type "list":=by
 cases k with
 | lst l xs=>
  obtain⟨us,rv,p⟩:=x;obtain⟨o,e,c,d⟩:=id y;obtain⟨o',e',c',d'⟩:=id p;have hne:l≠it:=fun z=>by subst z;rw[e]at e';cases e';rw[c]at c';exact absurd c' (by decide)
  have hl:us.toArray.size=xs.length:=by rw[M8];exact rv.length.symm
  refine⟨[it,l],fun i v=>us.toArray[i]?=some v,fun i h=>h.IsListIter it l i/\h.IsList l us.toArray,fun A hh=>?_,fun i v q=>?_,fun i q=>⟨q,p⟩,fun i h' q=>q.1,fun b hb=>?_⟩
  ·have:=Draws.list (prog:=P) (w:=w) hh it l hne us.toArray;rw[hl]at this;exact this
  ·have q':us[i]?=some v:=by simpa using q
   obtain⟨u,e1,r⟩:=L3.Vals.getV rv q';exact⟨u,e1,r⟩
  ·have hb':b=it\/b=l:=by simpa using hb
   rcases hb' with rfl|rfl
   ·exact .inl rfl
   ·exact .inr ⟨o',e',c'⟩
 | txt z t=>
  have hz:(dz z).length=z.cps.size:=by simp[dz]
  refine⟨[it],fun i v=>∃ c u,z.cps[i]?=some c/\v=.str ⟨#[c]⟩ u,fun i h=>h.IsStrIter it (PD z) z t i,fun A hh=>?_,fun i v q=>?_,fun i q=>q,fun i h' q=>q,fun b hb=>.inl (by simpa using hb)⟩
  ·show Sr P w A it [it] (dz z).length _ _;rw[hz];rcases m_ z with q|q<;>rw[q]
   ·exact Draws.strAscii hh it z t
   ·exact Draws.strWide hh it z t
  ·obtain⟨c,u,e1,rfl⟩:=q;have e2:z.cps.toList[i]?=some c:=by simpa using e1
   exact⟨.str ⟨#[c]⟩,by simp[Zk.vs,dz,e2],⟨u,rfl⟩⟩
def Cb(k1 k2:Zk)(z TI TO i1 i2:MT)(i:Nat)(h:Nf):Prop:=
 (∃ f0 f1,Bm f0/\f_ h z TI TO f0 f1)/\O6 h TI (.ref i1) (.ref i2)/\(∃ a b,O6 h TO a b)/\k1.it i1 i h/\k2.it i2 i h
structure ZAp(z TI TO i1 i2:MT):Prop where
 t:TI≠TO
 i:i1≠i2
theorem Cb.apart{k1 k2:Zk}{z TI TO i1 i2:MT}{i:Nat}{h:Nf}{fp1 fp2:List MT}(D:ZAp z TI TO i1 i2)(x:Cb k1 k2 z TI TO i1 i2 i h)(q1:∀ b∈fp1,b=i1\/∃ o,h.get? b=some o/\o.cls=.type "list")(q2:∀ b∈fp2,b=i2\/∃ o,h.get? b=some o/\o.cls=.type "list"):ZApart z TI TO i1 i2 fp1 fp2:=by
 obtain⟨⟨f0,f1,_,hz⟩,hTI,⟨a,b,hTO⟩,h1,h2⟩:=x;obtain⟨o1,e1,_,c1,c2,c3⟩:=Zk.obj h1;obtain⟨o2,e2,_,d1,d2,d3⟩:=Zk.obj h2;have ne:∀ {a b:MT} {o o':Obj},h.get? a=some o->h.get? b=some o'->o.cls≠o'.cls->a≠b:=fun ha hb hc z=>by subst z;rw[ha]at hb;cases hb;exact hc rfl
 have y1:i1≠z:=ne e1 hz c3;have y2:i2≠z:=ne e2 hz d3;have y3:TO≠i1:=(ne e1 hTO c2).symm;have y4:TO≠i2:=(ne e2 hTO d2).symm;have tz:Value.type "tuple"≠Value.type "zip":=by decide
 have lz:Value.type "list"≠Value.type "zip":=by decide
 have lt:Value.type "list"≠Value.type "tuple":=by decide
 refine⟨ne hTI hz tz,ne hTO hz tz,y1,y2,D.t,(ne e1 hTI c2).symm,(ne e2 hTI d2).symm,y3,y4,D.i,fun b hb=>?_,fun b hb=>?_⟩
 ·rcases q1 b hb with rfl|⟨o,e,c⟩
  ·exact⟨y1,y3.symm,D.i⟩
  ·exact⟨ne e hz (by rw[c];exact lz),ne e hTO (by rw[c];exact lt),ne e e2 (by rw[c];exact d1.symm)⟩
 ·rcases q2 b hb with rfl|⟨o,e,c⟩
  ·exact⟨y2,y4.symm,D.i.symm⟩
  ·exact⟨ne e hz (by rw[c];exact lz),ne e hTO (by rw[c];exact lt),ne e e1 (by rw[c];exact c1.symm)⟩
section
variable{prog:M9}{w:Ng}{A:Nb}{E:MS->MU->Prop}{s:MU}{k1 k2:Zk}{z TI TO i1 i2:MT}{i:Nat}
theorem Bs(hh:A.in1.handled=none)(D:ZAp z TI TO i1 i2)(x:Cb k1 k2 z TI TO i1 i2 i s.heap)(r1:k1.ready s.heap)(r2:k2.ready s.heap)(l1:i < k1.vs.length)(l2:i < k2.vs.length)(hQ:∀ h' tk x y u v,k1.vs[i]?=some u->k2.vs[i]?=some v->aH u x->aH v y->Cb k1 k2 z TI TO i1 i2 (i+1) h'->O6 h' s.heap.objs.size x y->h'.objs.size=s.heap.objs.size+1->
   (∀ c o,c∉[z,TI,TO,i1,i2]->s.heap.get? c=some o->h'.get? c=some o)->Q (some (.ref s.heap.objs.size)) { s with heap:=h',toks:=tk }):MZ (M0 prog w) A (OK (.ref z)) Q E s:=by
 obtain⟨fp1,P1,St1,D1,v1,t1,b1,q1⟩:=Zk.draws (P:=prog) (w:=w) r1 x.2.2.2.1;obtain⟨fp2,P2,St2,D2,v2,t2,b2,q2⟩:=Zk.draws (P:=prog) (w:=w) r2 x.2.2.2.2;have ap:=x.apart D q1 q2;obtain⟨⟨f0,f1,hf,hz⟩,hTI,⟨a,b,hTO⟩,h1,h2⟩:=x;refine yD (D1 _ hh) (D2 _ hh) ap hz hf hTI hTO (t1 i h1) (t2 i h2) l1 l2 fun h' tk x y f0' f1' a' b' p1 p2 hf' z' o' s1 s2 tp sz kp=>?_;obtain⟨u,e1,ru⟩:=v1 i x p1;obtain⟨v,e2,rv⟩:=v2 i y p2;exact hQ h' tk x y u v e1 e2 ru rv ⟨⟨f0',f1',hf',z'⟩,kp _ _ ap.a1 ap.a5 ap.a6 ap.a7 hTI,⟨a',b',o'⟩,b1 _ _ s1,b2 _ _ s2⟩ tp sz fun c o hc e=>kp c o (fun q=>hc (by simp[q])) (fun q=>hc (by simp[q])) (fun q=>hc (by simp[q])) (fun q=>hc (by simp[q])) e
theorem Dw(hh:A.in1.handled=none)(D:ZAp z TI TO i1 i2)(x:Cb k1 k2 z TI TO i1 i2 i s.heap)(r1:k1.ready s.heap)(r2:k2.ready s.heap)(l:i=min k1.vs.length k2.vs.length)(hQ:∀ h' tk,(∀ c o,c∉[z,TI,TO,i1,i2]->s.heap.get? c=some o->h'.get? c=some o)->Q none { s with heap:=h',toks:=tk }):MZ (M0 prog w) A (OK (.ref z)) Q E s:=by
 obtain⟨fp1,P1,St1,D1,v1,t1,b1,q1⟩:=Zk.draws (P:=prog) (w:=w) r1 x.2.2.2.1;obtain⟨fp2,P2,St2,D2,v2,t2,b2,q2⟩:=Zk.draws (P:=prog) (w:=w) r2 x.2.2.2.2;have ap:=x.apart D q1 q2;obtain⟨⟨f0,f1,hf,hz⟩,hTI,⟨a,b,hTO⟩,h1,h2⟩:=x;exact Am (D1 _ hh) (D2 _ hh) ap hz hf hTI hTO (t1 i h1) (t2 i h2) (by walk_at "o") fun h' tk kp=>hQ h' tk fun c o hc e=>kp c o (fun q=>hc (by simp[q])) (fun q=>hc (by simp[q])) (fun q=>hc (by simp[q])) (fun q=>hc (by simp[q])) e
theorem Cb.keep(x:Cb k1 k2 z TI TO i1 i2 i h)(q:∀ b∈[z,TI,TO,i1,i2],∀ o,h.get? b=some o->h'.get? b=some o):Cb k1 k2 z TI TO i1 i2 i h':=by
 obtain⟨⟨f0,f1,hf,hz⟩,hTI,⟨a,b,hTO⟩,h1,h2⟩:=x;exact⟨⟨f0,f1,hf,q z (by simp) _ hz⟩,q TI (by simp) _ hTI,⟨a,b,q TO (by simp) _ hTO⟩,Zk.keep h1 fun o e=>q i1 (by simp) o e,Zk.keep h2 fun o e=>q i2 (by simp) o e⟩
end
def Mr(K:Po)(k1 k2:Zk):It:=
 ⟨fun i H=>(i < k1.vs.length/\i < k2.vs.length)/\k1.here K H/\k2.here K H,fun i H x H'=>∃ p u v,H p=none/\x=.ref p/\H'=aR H p (.tup [u,v])/\k1.vs[i]?=some u/\k2.vs[i]?=some v,fun i H=>i=min k1.vs.length k2.vs.length/\k1.here K H/\k2.here K H⟩
theorem sD{P:M9}{w:Ng}{K:Po}{tg:Nh}(k1 k2:Zk)(z TI TO i1 i2:MT)(D:ZAp z TI TO i1 i2):Turn P w K tg (Mr K k1 k2) [z,TI,TO,i1,i2] z (Cb k1 k2 z TI TO i1 i2) where
 mem:=by simp
 obj:=fun i h st b hb=>by
  obtain⟨⟨f0,f1,hf,hz⟩,hTI,⟨a,b',hTO⟩,h1,h2⟩:=st;obtain⟨o1,e1,c1,_⟩:=Zk.obj h1;obtain⟨o2,e2,c2,_⟩:=Zk.obj h2;simp only[NH,NO,or_false]at hb;rcases hb with rfl|rfl|rfl|rfl|rfl
  ·exact⟨_,hz,fun v q=>by cases q⟩
  ·exact⟨_,hTI,fun v q=>by cases q⟩
  ·exact⟨_,hTO,fun v q=>by cases q⟩
  ·exact⟨o1,e1,c1⟩
  ·exact⟨o2,e2,c2⟩
 keep:=fun i h h' st q=>st.keep q
 item:=by
  intro X hP hw hK hc i pins s σ H E I hf st hg;subst hP hw hK;obtain⟨⟨l1,l2⟩,e1,e2⟩:=hg;refine Bs (I.ok.hd hc) D st (Zk.of I e1) (Zk.of I e2) l1 l2 fun h' tk x y u v q1 q2 ru rv st' tp sz kp=>?_;refine⟨_,rfl,?_⟩;obtain⟨⟨f0,f1,hl,hz⟩,hTI,⟨a,b,hTO⟩,h1,h2⟩:=id st';refine HX (s:={ s with heap:=h',toks:=tk }) hz hl fun h2' f0' hl' hz' sb=>?_
  have hn:H s.heap.objs.size=none:=I.hok.fresh (le_refl _);have lt:∀ b∈[z,TI,TO,i1,i2],b≠s.heap.objs.size:=fun b hb=>by
   obtain⟨o,e,_⟩:=(show ∃ o,s.heap.get? b=some o/\True from by
    obtain⟨⟨g0,g1,_,gz⟩,gTI,⟨ga,gb,gTO⟩,k1',k2'⟩:=st;obtain⟨o1,x1,_⟩:=Zk.obj k1';obtain⟨o2,x2,_⟩:=Zk.obj k2';simp only[NH,NO,or_false]at hb;rcases hb with rfl|rfl|rfl|rfl|rfl
    ·exact⟨_,gz,True.intro⟩
    ·exact⟨_,gTI,True.intro⟩
    ·exact⟨_,gTO,True.intro⟩
    ·exact⟨_,x1,True.intro⟩
    ·exact⟨_,x2,True.intro⟩)
   exact Np (M4 e)
  have up:∀ c o,c≠z->h'.get? c=some o->h2'.get? c=some o:=fun c o hc e=>sb.extBut _ _ hc e;have hzs:z≠s.heap.objs.size:=lt z (by simp)
  have I0:Inv X pins σ (aR H s.heap.objs.size (.tup [u,v])) { s with heap:=s.heap.push { cls:=.type "tuple",data:=.seq #[x,y] },toks:=s.toks }:=by
   refine I.laid (t':=s.toks) (fun b v q=>MX _ q) (le_refl _) ?_;exact⟨by show 2<=M1;decide,[x,y],.cons ru (.cons rv .nil),vF.new _ _⟩
  have I1:Inv X pins σ (aR H s.heap.objs.size (.tup [u,v])) { s with heap:=h2',toks:=tk }:=by
   have:=Inv.turnedL (s:={ s with heap:=s.heap.push { cls:=.type "tuple",data:=.seq #[x,y] },toks:=s.toks }) (h':=h2') (t':=tk) (fp:=[z,TI,TO,i1,i2]) I0 (fun b o hb q=>?_) fun b hb=>?_
   ·exact this
   ·have hbz:b≠z:=fun q=>hb (by simp[q])
    have q':(s.heap.push { cls:=.type "tuple",data:=.seq #[x,y] }).get? b=some o:=q
    by_cases hbs:b=s.heap.objs.size
    ·subst hbs;rw[M3 _ rfl]at q';cases q';exact up _ _ hbz tp
    ·rw[Sm _ _ _ hbs]at q';exact up _ _ hbz (kp b o hb q')
   ·obtain⟨g0,g1,g2,g3,g4,g5⟩:=hf b hb;exact⟨by rw[ar (lt b hb)];exact g0,g1,g2,g3,g4,g5⟩
  have ap:=st'.apart (fp1:=[]) (fp2:=[]) D (fun b hb=>by simp at hb) fun b hb=>by simp at hb
  refine⟨.ref s.heap.objs.size,_,I1,rfl,⟨_,u,v,hn,rfl,rfl,q1,q2⟩,⟨⟨f0',f1,hl',hz'⟩,up _ _ ap.a1 hTI,⟨a,b,up _ _ ap.a2 hTO⟩,Zk.keep h1 fun o e=>up _ _ ap.a3 e,Zk.keep h2 fun o e=>up _ _ ap.a4 e⟩,fun b hb=>?_⟩;rw[ar (lt b hb)];exact (hf b hb).1
 done:=by
  intro X hP hw hK hc i pins s σ H E I hf st hg;subst hP hw hK;obtain⟨l,e1,e2⟩:=hg;exact Dw (I.ok.hd hc) D st (Zk.of I e1) (Zk.of I e2) l fun h' tk kp=>⟨rfl,I.turnedL (t':=tk) (fp:=[z,TI,TO,i1,i2]) kp hf⟩
 self:=fun _ _ _ _ _ st h=>by
  obtain⟨⟨f0,f1,_,hz⟩,_⟩:=st;have hT:=(⟨_,hz,rfl⟩:Shared.TypeIs _ (.ref z) "zip");refine Qw hT F.slot_zip_iter (NY F.slot_zip_iter hT F.entry_zip_iter ?_ (F.args_zip_iter_1 _));show MZ _ _ (ret (.ref z)) _ _ _
  exact MV ⟨_,rfl,"zip",_,hT,P_.lookup,h⟩
def Zk.itObj:Zk->Obj
 | .lst l _=>{ cls:=.type "list_iterator",data:=.fields #[.ref l,.int 0 0] }
 | .txt z t=>{ cls:=.type (PD z),data:=.fields #[.str z t,.int 0 0] }
theorem Zk.iter{prog:M9}{w:Ng}{A:Nb}{E:MS->MU->Prop}{s:MU}{k:Zk}{Q:MS->MU->Prop}(r:k.ready s.heap)(hQ:Q (.ref s.heap.objs.size) { s with heap:=s.heap.push k.itObj }):MZ (M0 prog w) A (Pr k.val) Q E s:=by
 cases k with
 | lst l xs=>
  obtain⟨us,_,p⟩:=r;exact Pz p hQ
 | txt z t=>exact wpAny_pyIter_strU hQ
theorem Zk.grow{k:Zk}{h h':Nf}(r:k.ready h)(q:∀ c o,h.get? c=some o->h'.get? c=some o):k.ready h':=by
 cases k with
 | lst l xs=>
  obtain⟨us,rv,p⟩:=r;exact⟨us,rv,p.at fun o e=>q l o e⟩
 | txt z t=>exact True.intro
theorem Zk.it0{k:Zk}{h:Nf}{it:MT}(e:h.get? it=some k.itObj):k.it it 0 h:=by
 cases k with
 | lst l xs=>exact⟨_,e,rfl,rfl⟩
 | txt z t=>exact⟨_,e,rfl,rfl⟩
theorem Zk.alive{k:Zk}{h:Nf}:(h.push k.itObj).get? h.objs.size=some k.itObj:=by
 cases k with
 | lst l xs=>exact M3 _ rfl
 | txt z t=>exact M3 _ rfl
abbrev FJ(h:Nf)(k1:Zk):Nf:=h.push k1.itObj
abbrev FI(h:Nf)(k1 k2:Zk):Nf:=(FJ h k1).push k2.itObj
abbrev FH(h:Nf)(k1 k2:Zk):Nf:=(FI h k1 k2).push { cls:=.type "tuple",data:=.seq #[.ref h.objs.size,.ref (FJ h k1).objs.size] }
abbrev FG(h:Nf)(k1 k2:Zk):Nf:=(FH h k1 k2).push { cls:=.type "tuple",data:=.seq #[.none,.none] }
abbrev Al(h:Nf)(k1 k2:Zk):Nf:=(FG h k1 k2).push { cls:=.type "zip",data:=.fields #[.none,.bool false,.bool false,.ref (FI h k1 k2).objs.size,.ref (FH h k1 k2).objs.size] }
theorem AS(k1 k2:Zk):Meets (Builtin.«zip.__new__» ⟨[.type "zip",k1.val,k2.val],[]⟩) (fun _ R s=>k1.ready s.heap/\k2.ready s.heap/\R (.ok (.ret (.ref (FG s.heap k1 k2).objs.size))) { s with heap:=Al s.heap k1 k2 }):=
 .of_wp fun prog w A R s h=>by
  obtain⟨hp,g,d,tk,os⟩:=s;obtain⟨r1,r2,h⟩:=h;have hsub:=sub_zip;have q2:k2.ready (Shared.heap ⟨hp.push k1.itObj,g,d,tk,os⟩):=Zk.grow r2 fun c o e=>MX _ e
  wp_walk using Zk.iter (k:=k1) (s:=⟨hp,g,d,tk,os⟩) r1,Zk.iter (k:=k2) (s:=⟨hp.push k1.itObj,g,d,tk,os⟩) q2
  exact⟨_,rfl,h⟩
theorem wq(r1:k1.ready s.heap)(r2:k2.ready s.heap)(h:∀ h',Cb k1 k2 (s.heap.objs.size+4) (s.heap.objs.size+2) (s.heap.objs.size+3) s.heap.objs.size (s.heap.objs.size+1) 0 h'->h'.objs.size=s.heap.objs.size+5->
   (∀ c o,s.heap.get? c=some o->h'.get? c=some o)->Q (.ref (s.heap.objs.size+4)) { s with heap:=h' }):MZ (M0 prog w) A (call (.type "zip") [k1.val,k2.val]) Q E s:=by
 refine callType_new F.called_zip (by decide) (F.typeCall_zip_2 _ _) (F.newCall_zip_2 _ _) (fun obj=>F.args_object_init_3 obj _ _) F.entry_zip_new (AS k1 k2) ⟨r1,r2,?_⟩
 have z1:(FJ s.heap k1).objs.size=s.heap.objs.size+1:=N8 ..;have z2:(FI s.heap k1 k2).objs.size=s.heap.objs.size+2:=by rw[N8,z1]
 have z3:(FH s.heap k1 k2).objs.size=s.heap.objs.size+3:=by rw[N8,z2]
 have z4:(FG s.heap k1 k2).objs.size=s.heap.objs.size+4:=by rw[N8,z3]
 have z5:(Al s.heap k1 k2).objs.size=s.heap.objs.size+5:=by rw[N8,z4]
 have u:∀ {h:Nf} {c:MT} {o o':Obj},h.get? c=some o->(h.push o').get? c=some o:=fun e=>MX _ e;have g5:(Al s.heap k1 k2).get? (FG s.heap k1 k2).objs.size=some _:=M3 _ rfl;have g4:(Al s.heap k1 k2).get? (FH s.heap k1 k2).objs.size=some _:=u (M3 _ rfl);have g3:(Al s.heap k1 k2).get? (FI s.heap k1 k2).objs.size=some _:=u (u (M3 _ rfl));have g2:(Al s.heap k1 k2).get? (FJ s.heap k1).objs.size=some k2.itObj:=u (u (u Zk.alive));have g1:(Al s.heap k1 k2).get? s.heap.objs.size=some k1.itObj:=u (u (u (u Zk.alive)));show _/\_
 rw[z2,z3,z4]at g5;rw[z1,z2]at g3;rw[z3]at g4;rw[z1]at g2;rw[z4];exact⟨⟨_,g5,rfl⟩,h _ ⟨⟨_,_,.inl rfl,g5⟩,g3,⟨_,_,g4⟩,Zk.it0 g1,Zk.it0 g2⟩ z5 fun c o x=>u (u (u (u (u x))))⟩
end L2
namespace L3
open PySem PySem.Spec PyProof.Rows L2
def fF:D->Option (List D)
 | .lst ds=>some ds
 | .str x=>some (signs x)
 | _=>none
def nP:List D->List D->List D
 | a::r,b::t=>.tup [a,b]::nP r t
 | _,_=>[]
theorem kM:∀ (a b:List D),(nP a b).length=min a.length b.length
 | [],_=>by simp[nP]
 | _::_,[]=>by simp[nP]
 | _::r,_::t=>by simp only[nP,Nc,kM r t];omega
theorem sx:∀ {a b:List D} {i:Nat} {x y:D},a[i]?=some x->b[i]?=some y->(nP a b)[i]?=some (.tup [x,y])
 | _::_,_::_,0,_,_,h,h'=>by simp at h h';subst h h';rfl
 | _::r,_::t,i+1,_,_,h,h'=>by simp only[NS]at h h';simpa[nP]using sx h h'
 | [],_,_,_,_,h,_=>by simp at h
 | _::_,[],_,_,_,_,h=>by simp at h
theorem vS{K:Po}{H:Hp}(z:Str):RDs K H (signs z) (dz z):=by
 have e1:signs z=(z.cps.toList.map fun c=>(⟨#[c]⟩:Str)).map D.str:=by simp[signs]
 have e2:dz z=(z.cps.toList.map fun c=>(⟨#[c]⟩:Str)).map V.str:=by simp[dz]
 rw[e1,e2];exact RDs.strs _
theorem Bt{K:Po}{H:Hp}{d:D}{v:V}{u:MS}{ds:List D}(e:fF d=some ds)(r:RD K H d v)(ru:aH v u):
  ∃ k:Zk,u=k.val/\RDs K H ds k.vs/\∀ (G:Gp) (G':Gp) (H':Hp),RG K H G->Kp G H G' H'->k.here K H'/\RDs K H' ds k.vs:=by
 cases d with
 | lst es=>
  simp only[fF,Option.some.injEq]at e;subst e;simp only[RD]at r;obtain⟨a,xs,rfl,f,rr⟩:=r;cases ru;exact⟨.lst a xs,rfl,rr,fun G G' H' rg k=>⟨((k.stb rg).l _ _ f).sq,RDs.mono (k.stb rg) _ _ rr⟩⟩
 | str z=>
  simp only[fF,Option.some.injEq]at e;subst e;simp only[RD]at r;subst r;obtain⟨t,rfl⟩:=ru;exact⟨.txt z t,rfl,vS z,fun _ _ _ _ _=>⟨True.intro,vS z⟩⟩
 | _=>simp[fF]at e
theorem Jk{K:Po}{G0:Gp}{H0:Hp}{ds es:List D}{k1 k2:Zk}(rg0:RG K H0 G0)(r1:∀ (G:Gp) (G':Gp) (H':Hp),RG K H0 G->Kp G H0 G' H'->k1.here K H'/\RDs K H' ds k1.vs)(r2:∀ (G:Gp) (G':Gp) (H':Hp),RG K H0 G->Kp G H0 G' H'->k2.here K H'/\RDs K H' es k2.vs):
  x8 K G0 H0 (nP ds es) (Mr K k1 k2):=fun i G H k rg=>by
 obtain⟨a1,q1⟩:=r1 G0 G H rg0 k;obtain⟨a2,q2⟩:=r2 G0 G H rg0 k;have n1:=q1.length;have n2:=q2.length;rw[kM];refine⟨fun hi=>⟨⟨⟨by walk_at "o",by walk_at "o"⟩,a1,a2⟩,fun x H' y=>?_⟩,fun e=>⟨by walk_at "o",a1,a2⟩⟩
 obtain⟨p,u,v,hn,rfl,rfl,e1,e2⟩:=y;have i1:i < ds.length:=by walk_at "o"
 have i2:i < es.length:=by walk_at "o"
 obtain⟨u',f1,g1⟩:=q1.get (M6 i1);obtain⟨v',f2,g2⟩:=q2.get (M6 i2);rw[e1]at f1;cases f1;rw[e2]at f2;cases f2;exact⟨Kp.laid hn,rg.laid hn,_,sx (M6 i1) (M6 i2),lT rg hn (RDs.cons g1 (RDs.cons g2 RDs.nil))⟩
def CY(ta:kK):FF:=fun σ G Q=>ta σ G fun ds G'=>match ds with
 | [x,y]=>∃ a b,(fF x=some a/\fF y=some b)/\Q (nP a b) G'
 | _=>False
theorem zY:Of "zip"=some (.type "zip"):=by kernel_rfl
theorem wG{K:Po}{H:Hp}{x y:D}{vs:List V}(h:RDs K H [x,y] vs):∃ v u,vs=[v,u]/\RD K H x v/\RD K H y u:=by
 obtain⟨v,t,rfl,h1,h2⟩:=h.inv_cons;obtain⟨u,rfl,h3⟩:=fk h2;exact⟨v,u,rfl,h1,h3⟩
end L3
namespace L2
open PySem PySem.Spec PyProof.Rows
theorem xy:P0 (.type "list") "keys"=pure none:=by rw[QQ,Qb];kernel_rfl
theorem zq:P0 (.type "zip") "keys"=pure none:=by rw[QQ,Qb];kernel_rfl
theorem pK:P0 (.type "zip") "__getattr__"=pure none:=by rw[QQ,Qb];kernel_rfl
theorem xJ:entryFor table "zip.__getattribute__"=some Builtin.«object.__getattribute__»:=entryFor_alias (id':="object.__getattribute__") (by kernel_rfl) (by first|rfl|decide +kernel) (by decide +kernel) (by kernel_rfl)
theorem CJ:(["__module__","__name__","__qualname__","__doc__","__annotations__"]:List Str).contains (MW "keys")=false:=by decide +kernel
theorem vQ:(MW "keys").length+100<=M1:=by rw[N6];decide +kernel
theorem tU(a:MT)(vs:Array MS)(u:Tok):Meets (Builtin.«object.__getattribute__» ⟨[.ref a,.str "keys" u],[]⟩) (fun A R s=>s.heap.get? a=some { cls:=.type "zip",dict:=none,data:=.fields vs,slots:=#[] }/\raisesAttr (.ref a) "keys" A R s):=
 Meets.of_wp fun prog w A R s hs=>by
  obtain⟨hp,g,d,tk,os⟩:=s;obtain⟨hx,hs⟩:=hs;have hT:(⟨hp,g,d,tk,os⟩:MU).TypeIs (.ref a) "zip":=⟨_,hx,rfl⟩;have f4:=zq;unfold Builtin.«object.__getattribute__»
  repeat (any_goals (first|assumption|wp_step))
  exact wpAny_raiseAttrError hs.1 hs.2 (attrMsg_fits (by decide +kernel) vQ)
section
variable{prog:M9}{w:Ng}{A:Nb}{E:MS->MU->Prop}{s:MU}{a:MT}{Q:Option MS->MU->Prop}
theorem xu(hx:s.heap.get? a=some { cls:=.type "list",dict:=none,data:=.seq xs k,slots:=sl })(hA:A.in1.handled=none)(h:∀ h' tk,(∀ c o,s.heap.get? c=some o->h'.get? c=some o)->Q none { s with heap:=h',toks:=tk }):MZ (M0 prog w) A (PU (.ref a) "keys") Q E s:=by
 obtain⟨hp,g,d,tk,os⟩:=s;have hT:∀ tk',(⟨hp,g,d,tk',os⟩:MU).TypeIs (.ref a) "list":=fun _=>⟨_,hx,rfl⟩;have f1:=R4;have f3:=F.slot_list_getattribute.lookup;have f4:=F.slot_list_getattribute.bind (.ref a);have f5:=am_list_getattr_none;unfold PU R7
 repeat (any_goals (first|assumption|exact hT _|((with_reducible show MZ _ _ (call _ _ _) _ _ _);refine Sa F.slot_list_getattribute (hT _) am_entry_list_getattribute (F.args_list_getattribute_2 _ _) (meets_getattribute_miss_list a xs k sl _ _ xy CJ vQ) ⟨hx,hA,fun h' t' e hx'=>?_⟩)|wp_step))
 obtain⟨t1,u1,he⟩:=hx'.there;show MZ _ _ (Pt _ _ _ _ _ _ _) _ _ _
 unfold Pt
 repeat (any_goals (first|assumption|wp_step))
 exact h _ _ hx'.keeps
theorem zj(hx:s.heap.get? a=some { cls:=.type "zip",dict:=none,data:=.fields vs,slots:=#[] })(hA:A.in1.handled=none)(h:∀ h' tk,(∀ c o,s.heap.get? c=some o->h'.get? c=some o)->Q none { s with heap:=h',toks:=tk }):MZ (M0 prog w) A (PU (.ref a) "keys") Q E s:=by
 obtain⟨hp,g,d,tk,os⟩:=s;have hT:∀ tk',(⟨hp,g,d,tk',os⟩:MU).TypeIs (.ref a) "zip":=fun _=>⟨_,hx,rfl⟩;have f1:=R4;have f3:=F.slot_zip_getattribute.lookup;have f4:=F.slot_zip_getattribute.bind (.ref a);have f5:=pK;unfold PU R7
 repeat (any_goals (first|assumption|exact hT _|((with_reducible show MZ _ _ (call _ _ _) _ _ _);refine Sa F.slot_zip_getattribute (hT _) xJ (F.args_zip_getattribute_2 _ _) (tU a vs _) ⟨hx,hA,fun h' t' e hx'=>?_⟩)|wp_step))
 obtain⟨t1,u1,he⟩:=hx'.there;show MZ _ _ (Pt _ _ _ _ _ _ _) _ _ _
 unfold Pt
 repeat (any_goals (first|assumption|wp_step))
 exact h _ _ hx'.keeps
end
structure PWalk(prog:M9)(w:Ng)(A:Nb)(it:MT)(wr:List MT)(n:Nat)(Pv:Nat->MS->MS->Prop)(St:Nat->Nf->Prop):Prop where
 frame:∀ i h h',St i h->(∀ c o,o.cls≠.type "dict"->h.get? c=some o->h'.get? c=some o)->St i h'
 item:∀ i (s:MU) (Q:Option MS->MU->Prop) (E:MS->MU->Prop),i < n->St i s.heap->
  (∀ h' tk p k v,Pv i k v->(∃ o m,h'.get? p=some o/\o.cls=.type "tuple"/\o.data=.seq #[k,v] m)->St (i+1) h'->(∀ c o,c∉wr->s.heap.get? c=some o->h'.get? c=some o)->Q (some (.ref p)) { s with heap:=h',toks:=tk })->
  MZ (M0 prog w) A (OK (.ref it)) Q E s
 done:∀ (s:MU) (Q:Option MS->MU->Prop) (E:MS->MU->Prop),St n s.heap->(∀ h' tk,(∀ c o,c∉wr->s.heap.get? c=some o->h'.get? c=some o)->Q none { s with heap:=h',toks:=tk })->
  MZ (M0 prog w) A (OK (.ref it)) Q E s
theorem fj:plainId "dict.update.loop"=true:=by decide +kernel
theorem lK:entryFor table "dict.update.loop"=some Builtin.«dict.update.loop»:=entryFor_of_tree (by kernel_rfl)
section
variable{prog:M9}{w:Ng}{A:Nb}{it d:MT}{wr:List MT}{n:Nat}{Pv:Nat->MS->MS->Prop}{St:Nat->Nf->Prop}{R:P8->MU->Prop}{h0:Nf}
def Lj(prog:M9)(w:Ng)(h:Nf)(d:MT)(xs:List (List aB×MT×MS)):Prop:=
 ∃ o es ep,h.get? d=some o/\o.ExactDict/\o.data=.dict es ep/\es.toList=xs.map (entryOfKey (Oa (aW prog w)))/\(xs.map (·.1)).Nodup
theorem AJ(h:∃ o m,s.heap.get? p=some o/\o.cls=.type "tuple"/\o.data=.seq #[k,v] m)(q:Q [k,v] s):MZ (M0 prog w) A (Ru (.ref p)) Q E s:=by
 obtain⟨o,m,e,c,dt⟩:=h;unfold Ru;refine MR (Rj (T:="tuple") ⟨o,e,c⟩ ?_);rw[if_pos (by decide)]
 exact MR (OU e dt (MV q))
theorem DF(W:PWalk prog w A.in1 it wr n Pv St)(hu:A.units+1 < NF)(hd:d∉wr)(hn:n<=M1)(Acc:Nat->List (List aB×MT×MS)->Prop)(hk:∀ i k v xs,Pv i k v->Acc i xs->∃ ks b,k=.ref b/\Acc (i+1) (Qk xs ks b v)/\∀ h,(∀ c o,c∉wr->c≠d->h0.get? c=some o->h.get? c=some o)->(Oa (aW prog w)).is h ks b)(hx:∀ i xs,Acc i xs->xs.length<=i/\∀ x∈xs,∀ h,(∀ c o,c∉wr->c≠d->h0.get? c=some o->h.get? c=some o)->(Oa (aW prog w)).is h x.1 x.2.1):
  ∀ (k i:Nat) (s:MU) (xs:List (List aB×MT×MS)),n - i=k->i<=n->St i s.heap->(∀ c o,c∉wr->c≠d->h0.get? c=some o->s.heap.get? c=some o)->Lj prog w s.heap d xs->Acc i xs->
   (∀ h' tk ys,(∀ c o,c∉wr->c≠d->h0.get? c=some o->h'.get? c=some o)->(∀ c o,c∉wr->c≠d->s.heap.get? c=some o->h'.get? c=some o)->Lj prog w h' d ys->Acc n ys->R (.ok (.ret .none)) { s with heap:=h',toks:=tk })->
   Oz (M0 prog w) A (.builtin "dict.update.loop" ⟨[.ref d,.ref it,Ov i,.none],[]⟩) R s:=by
 intro k
 induction k with
 | zero=>
  intro i s xs hk' hi st keep dr ac hR;have hin:i=n:=by walk_at "o"
  subst hin;refine codeAny_builtin lK ?_;rw[RN fj _];show MZ _ A.in1 (OK (.ref it) >>= _) _ _ s
  refine MR (W.done s _ _ st fun h' tk kp=>?_);show MZ _ _ (Builtin.Dict.addKeywords d [] >>= _) _ _ _
  refine MR (MV (MV ?_));obtain⟨o,es,ep,e,r⟩:=dr;exact hR h' tk xs (fun c o hc hcd q=>kp c o hc (keep c o hc hcd q)) (fun c o hc _ q=>kp c o hc q) ⟨o,es,ep,kp d o hd e,r⟩ ac
 | succ k ih=>
  intro i s xs hk' hi st keep dr ac hR;have hlt:i < n:=by walk_at "o"
  refine codeAny_builtin lK ?_;rw[RN fj _];show MZ _ A.in1 (OK (.ref it) >>= _) _ _ s
  refine MR (W.item i s _ _ hlt st fun h1 t1 p kv vv pv tp st1 kp=>?_);obtain⟨ks,b,rfl,ac',key⟩:=hk i kv vv xs pv ac;refine MR (Nz (MR (wpAny_tryCatch (AJ tp ?_))));refine Nz ?_;obtain⟨o,es,ep,e,r1,r2,r3,r4⟩:=dr;have S3:∀ c o,c∉wr->c≠d->h0.get? c=some o->h1.get? c=some o:=fun c o hc hcd q=>kp c o hc (keep c o hc hcd q);obtain⟨len,keys⟩:=hx i xs ac;have dd:Heap.DictOfH (Oa (aW prog w)) h1 d xs:=⟨o,es,ep,kp d o hd e,r1,r2,r3,fun x hx'=>keys x hx' h1 S3,r4⟩;refine RZ (s:={ s with heap:=h1,toks:=t1 }) (hsz:=by walk_at "o") (show A.in1.units < NF from hu) (key h1 S3) dd fun h2 dd2 sb=>?_
  obtain⟨o2,es2,ep2,e2,q1,q2,q3,_,q4⟩:=dd2;have up:∀ c o,c≠d->h1.get? c=some o->h2.get? c=some o:=fun c o hc q=>sb.extBut _ _ hc q;have kpd:h1.get? d=some o:=kp d o hd e;refine MV ⟨plainId_quiet fj _,?_⟩;have:=ih (i+1) { s with heap:=h2,toks:=t1+(Oa (aW prog w)).draws ks } (Qk xs ks b vv) (by walk_at "o") hlt (W.frame _ _ _ st1 fun c o' hc q=>up c o' (fun z=>by subst z;rw[kpd]at q;cases q;exact hc r1.1) q) (fun c o hc hcd q=>up c o hcd (S3 c o hc hcd q)) ⟨o2,es2,ep2,e2,q1,q2,q3,q4⟩ ac'
   fun h' tk ys k1 k2 k3 k4=>hR h' tk ys k1 (fun c o hc hcd q=>k2 c o hc hcd (up c o hcd (kp c o hc q))) k3 k4
  exact this
end
end L2
namespace L3
open PySem PySem.Spec PyProof.Rows L2
def zh(kv:List aB×D):D:=.tup [.tup (kv.1.map kD),kv.2]
def dictOf(kvs:List (List aB×D)):List (List aB×D):=kvs.foldl (fun a kv=>bg a kv.1 kv.2) []
theorem pf(kvs:List (List aB×D)):∀ a:List (List aB×D),(kvs.foldl (fun a kv=>bg a kv.1 kv.2) a).length<=a.length+kvs.length:=by
 induction kvs with
 | nil=>intro a;exact le_refl _
 | cons kv r ih=>
  intro a;have h1:=ih (bg a kv.1 kv.2);have h2:=eX a kv.1 kv.2;simp only[P6,Nc];omega
theorem zQ{kvs:List (List aB×D)}{i:Nat}{kv:List aB×D}(h:kvs[i]?=some kv):dictOf (kvs.take (i+1))=bg (dictOf (kvs.take i)) kv.1 kv.2:=by
 unfold dictOf;rw[NK,h,List.foldl_append];rfl
theorem xK(kvs:List (List aB×D)):((dictOf kvs).map (·.1)).Nodup:=by
 unfold dictOf
 suffices h:∀ a:List (List aB×D),(a.map (·.1)).Nodup->((kvs.foldl (fun a kv=>bg a kv.1 kv.2) a).map (·.1)).Nodup from h [] Ql
 induction kvs with
 | nil=>intro a h;exact h
 | cons kv r ih=>intro a h;exact ih _ (h_ kv.1 kv.2 h)
theorem Dc(hT:∃ o,s.heap.get? src=some o/\o.cls=.type T)(hne:(Value.type T != Value.type "dict")=true)(hno:∀ (s':MU) (Q':Option MS->MU->Prop) (E':MS->MU->Prop),(∀ c o,s.heap.get? c=some o->s'.heap.get? c=some o)->(∀ h' tk,(∀ c o,s'.heap.get? c=some o->h'.get? c=some o)->Q' none { s' with heap:=h',toks:=tk })->MZ (M0 prog w) A.in1.in1 (PU (.ref src) "keys") Q' E' s')(h:∀ h' tk,(∀ c o,s.heap.get? c=some o->h'.get? c=some o)->h'.get? s.heap.objs.size=some { cls:=.type "dict",data:=.dict #[] }->
   MZ (M0 prog w) A.in1.in1 (Pr (.ref src)) (fun it s2=>Oz (M0 prog w) A.in1 (.builtin "dict.update.loop" ⟨[.ref s.heap.objs.size,it,Ov 0,.none],[]⟩) (wants (fun r s₂=>r=.none/\Q (.ref s.heap.objs.size) s₂) E) s2) (fun e s'=>wants (fun r s₂=>r=.none/\Q (.ref s.heap.objs.size) s₂) E (.error e) s') { s with heap:=h',toks:=tk }):
  MZ (M0 prog w) A (call (.type "dict") [.ref src]) Q E s:=by
 refine callType_codes (Q₁:=fun obj s₁=>obj=.ref s.heap.objs.size/\s₁={ s with heap:=s.heap.push { cls:=.type "dict",data:=.dict #[] } }) F.kt_called_dict (F.kt_typeCall_dict_1 _) F.entry_dict_init (kt_code_dict_new _ ⟨rfl,rfl⟩) ?_
 rintro obj s₁ ⟨rfl,rfl⟩
 have hd:(s.heap.push { cls:=.type "dict",data:=.dict #[] }).get? s.heap.objs.size=some { cls:=.type "dict",data:=.dict #[] }:=M3 _ rfl;have tyd:Shared.TypeIs { s with heap:=s.heap.push { cls:=.type "dict",data:=.dict #[] } } (.ref s.heap.objs.size) "dict":=⟨_,hd,rfl⟩
 obtain⟨o,e,c⟩:=hT;have up:∀ c o,s.heap.get? c=some o->(s.heap.push { cls:=.type "dict",data:=.dict #[] }).get? c=some o:=fun c o e=>MX _ e;refine⟨tyd,F.args_dict_init_2 _ _,?_⟩;unfold Builtin.«dict.__init__»;refine MR ?_;unfold Builtin.Dict.selfAndRest;refine MR (Pf tyd ?_);show MZ _ _ (pure (s.heap.objs.size,[Value.ref src])) _ _ _;refine MV ?_
 show MZ _ _ (Ri "dict.__init__" s.heap.objs.size (.ref src) [] .none) _ _ _
 unfold Ri;refine MR (Rj (T:=T) ⟨o,up _ _ e,c⟩ ?_);rw[if_pos hne];refine MR (hno _ _ _ up fun h' tk kp=>?_);simp only[Option.isNone_none,if_true];refine MR (PZ ?_);refine MR (Nn (h h' tk (fun c o e=>kp c o (up c o e)) (kp _ _ hd)) (fun it s2 q=>MV ⟨plainId_quiet fj _,q⟩) fun _ _ q=>q)
section
variable{X:Cx}{pins:List (MT×Obj)}{τ:St}{H1:Hp}{s1:MU}{G1:Gp}
theorem zP(hu:X.A.units+8 < NF)(I1:L2.Inv X pins τ H1 s1)(rg1:RG X.K H1 G1)(hz:kvs.length<=900000)(hT:∃ o,s1.heap.get? src=some o/\o.cls=.type T)(hne:(Value.type T != Value.type "dict")=true)(hno:∀ (s':MU) (Q':Option MS->MU->Prop) (E':MS->MU->Prop),(∀ c o,s1.heap.get? c=some o->s'.heap.get? c=some o)->(∀ h' tk,(∀ c o,s'.heap.get? c=some o->h'.get? c=some o)->Q' none { s' with heap:=h',toks:=tk })->MZ (M0 X.prog X.w) X.A.in1.in1 (PU (.ref src) "keys") Q' E' s')(hit:∀ (h2:Nf) (tk2:Nat) (Q':MS->MU->Prop) (E':MS->MU->Prop),(∀ c o,s1.heap.get? c=some o->h2.get? c=some o)->s1.heap.objs.size < h2.objs.size->
   (∀ it wr Pv St h3,PWalk X.prog X.w X.A.in1.in1 it wr kvs.length Pv St->St 0 h3->(∀ c o,h2.get? c=some o->h3.get? c=some o)->(∀ b∈wr,pE X pins H1 b/\b≠s1.heap.objs.size)->
    (∀ i k v,Pv i k v->∃ kv b x,kvs[i]?=some kv/\k=.ref b/\ke X.K H1 b (kv.1.map kV)/\RD X.K H1 kv.2 x/\aH x v)->Q' (.ref it) { s1 with heap:=h3,toks:=tk2 })->
   MZ (M0 X.prog X.w) X.A.in1.in1 (Pr (.ref src)) Q' E' { s1 with heap:=h2,toks:=tk2 })(q:∀ s' H',L2.Inv X pins τ H' s'->H1 s1.heap.objs.size=none->Kp G1 H1 (gset G1 s1.heap.objs.size (.dT (aI X.prog X.w) (dictOf kvs))) H'->RG X.K H' (gset G1 s1.heap.objs.size (.dT (aI X.prog X.w) (dictOf kvs)))->Q (.ref s1.heap.objs.size) s'):
  MZ (M0 X.prog X.w) X.A (call (.type "dict") [.ref src]) Q X.xe s1:=by
 have hsl:=aj;have sle:=N6;refine Dc hT hne hno fun h2 tk2 kp2 hd2=>?_;refine hit h2 tk2 _ _ kp2 (M4 hd2) fun it wr Pv St h3 W st0 kp3 hwr hpv=>?_;have hf:H1 s1.heap.objs.size=none:=I1.hok.fresh (le_refl _);have hdw:s1.heap.objs.size∉wr:=fun z=>(hwr _ z).2 rfl;have ltk:∀ {b:MT} {ks:List aB},ke X.K H1 b (ks.map kV)->b∉wr/\b≠s1.heap.objs.size/\∀ h:Nf,(∀ c o,c∉wr->c≠s1.heap.objs.size->s1.heap.get? c=some o->h.get? c=some o)->(Oa (aW X.prog X.w)).is h ks b:=fun {b ks} sq=>by
  have key:=key_at I1 sq;obtain⟨o,its,n,e,c,dd,ii⟩:=id key;have hb1:b≠s1.heap.objs.size:=Np (M4 e);have hb2:b∉wr:=fun z=>by
   obtain⟨⟨g0,g1,g2,g3,g4,g5⟩,_⟩:=hwr b z;rcases sq with (e1|⟨o',e1⟩)|⟨o',its',n',kl,_⟩
   ·rw[g0]at e1;cases e1
   ·rw[g0]at e1;cases e1
   ·have e2:X.base.get? b=some o':=I1.mod.kin b o' kl;rcases g3 with g3|g3
    ·exact I1.ok.noex b o' e2 g3
    ·exact absurd (M4 (I1.ok.bs b o' e2).1) (not_lt.mpr g3)
  exact⟨hb2,hb1,fun h kp=>⟨o,its,n,kp b o hb2 hb1 e,c,dd,ii⟩⟩
 have UC:∀ {i:Nat} {xs:List (List aB×MT×MS)},m3 X.K H1 (dictOf (kvs.take i)) xs->xs.length<=i/\∀ x∈xs,ke X.K H1 x.2.1 (x.1.map kV):=fun {i xs} r=>by
  refine⟨?_,?_⟩
  ·rw[<- r.length];have:=pf (kvs.take i) [];rw[NQ]at this;unfold dictOf;simp only[NA]at this;omega
  ·unfold m3 at r;generalize dictOf (kvs.take i)=ks at r
   induction r with
   | nil=>intro x hx;exact nomatch hx
   | @cons p q ps qs hq t ih=>
    intro x hx;rcases NH.mp hx with e|hx
    ·subst e;rw[<- hq.1];exact hq.2.1
    ·exact ih x hx
 refine DF (A:=X.A.in1) (h0:=s1.heap) (d:=s1.heap.objs.size) W (show X.A.units+1+1 < NF by walk_at "o") hdw (by walk_at "o") (fun i xs=>m3 X.K H1 (dictOf (kvs.take i)) xs) (fun i k v xs pv ac=>?_) (fun i xs ac=>?_) kvs.length 0 { s1 with heap:=h3,toks:=tk2 } [] (Qy _) (N0 _) st0 (fun c o _ _ e=>kp3 c o (kp2 c o e)) ⟨_,#[],0,kp3 _ _ hd2,⟨rfl,rfl,rfl⟩,rfl,rfl,Ql⟩ .nil fun h' tk ys k1 k2 dr ac=>?_
 ·obtain⟨kv,b,x,e,rfl,sq,rd,rv⟩:=hpv i k v pv;refine⟨kv.1,b,rfl,?_,(ltk sq).2.2⟩;show m3 X.K H1 (dictOf (kvs.take (i+1))) _
  rw[zQ e];exact m3.put ac kv.1 sq rd rv
 ·obtain⟨len,ks⟩:=UC ac;exact⟨len,fun x hx h kp=>(ltk (ks x hx)).2.2 h kp⟩
 ·rw[NB]at ac;obtain⟨o,es,ep,e,r1,r2,r3,r4⟩:=dr;have hsm:(s1.heap.objs.size == NC)=false:=beq_eq_false_iff_ne.mpr (Ne.symm (Np I1.big));have fd:o.isFreed=false:=by
   obtain⟨c,dd,dt,sl⟩:=o;have r2':dt=.dict es ep:=r2;subst r2';rfl
  obtain⟨kpp,rg2⟩:=GT (o:=.dT (aI X.prog X.w) (dictOf kvs)) (ho:=.ext (pI (aI X.prog X.w) s1.heap.objs.size ys)) rg1 hf fun H' st=>⟨ys,rfl,ac.mono st,xK kvs,by
   have:=pf kvs [];unfold dictOf;simp only[NA]at this;omega⟩
  have I2:L2.Inv X pins τ (aR H1 s1.heap.objs.size (.ext (pI (aI X.prog X.w) s1.heap.objs.size ys))) { s1 with heap:=s1.heap.push o,toks:=s1.toks }:=
   I1.laid (fun _ _ q=>MX _ q) (le_refl _) (nL ⟨hsm,o,es,ep,M3 _ fd,r1,r2,r3⟩)
  have I3:=Inv.turnedL (s:={ s1 with heap:=s1.heap.push o,toks:=s1.toks }) (h':=h') (t':=tk) (fp:=wr) I2 (fun b o' hb qb=>by
   have qb':(s1.heap.push o).get? b=some o':=qb
   by_cases hbs:b=s1.heap.objs.size
   ·subst hbs;rw[M3 _ fd]at qb';cases qb';exact e
   ·rw[Sm _ _ _ hbs]at qb';exact k1 b o' hb hbs qb') fun b hb=>by
   obtain⟨⟨g0,g1,g2,g3,g4,g5⟩,nb⟩:=hwr b hb;exact⟨by rw[ar nb];exact g0,g1,g2,g3,g4,g5⟩
  exact⟨rfl,q _ _ I3 hf kpp rg2⟩
end
end L3
namespace L2
open PySem PySem.Spec PyProof.Rows
theorem AE{prog:M9}{w:Ng}{A:Nb}{it l:MT}{us:List MS}{Pv:Nat->MS->MS->Prop}(hh:A.handled=none):
  PWalk prog w A it [it] us.length Pv (fun i h=>h.IsListIter it l i/\h.IsList l us.toArray/\∀ j u,us[j]?=some u->∃ p kk vv,u=.ref p/\(∃ o m,h.get? p=some o/\o.cls=.type "tuple"/\o.data=.seq #[kk,vv] m)/\Pv j kk vv) where
 frame:=fun i h h' ⟨⟨o1,e1,c1,d1⟩,⟨o2,e2,c2,d2⟩,ps⟩ kp=>⟨⟨o1,kp _ _ (by rw[c1];decide) e1,c1,d1⟩,⟨o2,kp _ _ (by rw[c2];decide) e2,c2,d2⟩,fun j u hu=>by
  obtain⟨p,kk,vv,e,⟨o,m,g,c,dt⟩,pv⟩:=ps j u hu;exact⟨p,kk,vv,e,⟨o,m,kp _ _ (by rw[c];decide) g,c,dt⟩,pv⟩⟩
 item:=fun i s Q E hi ⟨x1,x2,ps⟩ q=>by
  have hu:us[i]?=some us[i]:=M6 hi;obtain⟨p,kk,vv,e,tp,pv⟩:=ps i _ hu;refine Rk x1 x2 (x:=us[i]) (by simpa using hu) fun h' st' sb=>?_
  obtain⟨o1,e1,c1,_⟩:=x1;obtain⟨o2,e2,c2,_⟩:=id x2;have ne:∀ {b:MT} {o:Obj} {T:String},s.heap.get? b=some o->o.cls=.type T->Value.type T≠.type "list_iterator"->b≠it:=fun hb hc hT z=>by subst z;rw[e1]at hb;cases hb;rw[c1]at hc;exact hT hc.symm
  have lk:∀ {p:MT} {kk vv:MS},(∃ o m,s.heap.get? p=some o/\o.cls=.type "tuple"/\o.data=.seq #[kk,vv] m)->∃ o m,h'.get? p=some o/\o.cls=.type "tuple"/\o.data=.seq #[kk,vv] m:=fun⟨o,m,g,c,dt⟩=>⟨o,m,(sb.2 _ (ne g c (by decide))).trans g,c,dt⟩
  rw[e];refine q h' s.toks p kk vv pv (lk tp) ⟨st',x2.at fun o g=>(sb.2 l (ne e2 c2 (by decide))).trans g,fun j u hu=>?_⟩ fun c o hc g=>(sb.2 c (fun z=>hc (by simp[z]))).trans g
  obtain⟨p',k',v',e',tp',pv'⟩:=ps j u hu;exact⟨p',k',v',e',lk tp',pv'⟩
 done:=fun s Q E ⟨x1,x2,ps⟩ q=>Rx hh x1 x2 (by simp) fun h' eb=>q h' s.toks fun c o hc g=>eb c o (fun z=>hc (by simp[z])) g
theorem Cb.wr{k1 k2:Zk}{z TI TO i1 i2:MT}{i:Nat}{h:Nf}(x:Cb k1 k2 z TI TO i1 i2 i h):∀ b∈[z,TI,TO,i1,i2],∃ o,h.get? b=some o/\o.cls≠.type "list"/\o.cls≠.type "dict":=by
 obtain⟨⟨f0,f1,_,hz⟩,hTI,⟨a,b',hTO⟩,h1,h2⟩:=x;have nd:∀ {k:Zk} {it:MT},k.it it i h->∃ o,h.get? it=some o/\o.cls≠.type "list"/\o.cls≠.type "dict":=fun {k it} y=>by
  cases k with
  | lst l xs=>
   obtain⟨o,e,c,_⟩:=y;exact⟨o,e,by rw[c];decide,by rw[c];decide⟩
  | txt z t=>
   obtain⟨o,e,c,_⟩:=y;refine⟨o,e,?_⟩;rw[c];rcases m_ z with q|q<;>rw[q]<;>decide
 intro b hb;simp only[NH,NO,or_false]at hb;rcases hb with rfl|rfl|rfl|rfl|rfl
 ·exact⟨_,hz,by show Value.type "zip"≠_;decide,by show Value.type "zip"≠_;decide⟩
 ·exact⟨_,hTI,by show Value.type "tuple"≠_;decide,by show Value.type "tuple"≠_;decide⟩
 ·exact⟨_,hTO,by show Value.type "tuple"≠_;decide,by show Value.type "tuple"≠_;decide⟩
 ·exact nd h1
 ·exact nd h2
theorem Zk.stay{k:Zk}{h h':Nf}(r:k.ready h)(q:∀ c o,o.cls=.type "list"->h.get? c=some o->h'.get? c=some o):k.ready h':=by
 cases k with
 | lst l xs=>
  obtain⟨us,rv,o,e,c,d⟩:=r;exact⟨us,rv,o,q l o c e,c,d⟩
 | txt z t=>exact True.intro
theorem Cs{prog:M9}{w:Ng}{A:Nb}{k1 k2:Zk}{z TI TO i1 i2:MT}(hh:A.in1.handled=none)(D:ZAp z TI TO i1 i2):
  PWalk prog w A z [z,TI,TO,i1,i2] (min k1.vs.length k2.vs.length) (fun i k v=>∃ u x,k1.vs[i]?=some u/\k2.vs[i]?=some x/\aH u k/\aH x v) (fun i h=>Cb k1 k2 z TI TO i1 i2 i h/\k1.ready h/\k2.ready h) where
 frame:=fun i h h' ⟨st,r1,r2⟩ kp=>⟨st.keep fun b hb o e=>by
  obtain⟨o',e',_,c⟩:=st.wr b hb;rw[e]at e';cases e';exact kp b o c e,Zk.stay r1 fun c o hc e=>kp c o (by rw[hc];decide) e,Zk.stay r2 fun c o hc e=>kp c o (by rw[hc];decide) e⟩
 item:=fun i s Q E hi ⟨st,r1,r2⟩ q=>by
  refine Bs hh D st r1 r2 (by walk_at "o") (by walk_at "o") fun h' tk x y u v e1 e2 ru rv st' tp sz kp=>?_
  have ls:∀ c o,o.cls=.type "list"->s.heap.get? c=some o->h'.get? c=some o:=fun c o hc e=>kp c o (fun hb=>by
   obtain⟨o',e',c',_⟩:=st.wr c hb;rw[e]at e';cases e';exact c' hc) e
  exact q h' tk _ x y ⟨u,v,e1,e2,ru,rv⟩ ⟨_,_,tp,rfl,rfl⟩ ⟨st',Zk.stay r1 ls,Zk.stay r2 ls⟩ kp
 done:=fun s Q E ⟨st,r1,r2⟩ q=>Dw hh D st r1 r2 rfl fun h' tk kp=>q h' tk kp
end L2
namespace L3
open PySem PySem.Spec PyProof.Rows L2
theorem wt:Of "dict"=some (.type "dict"):=by kernel_rfl
theorem HP{X:Cx}{tg:Nh}{a b:Nh}{ta:kK}{p pos:Pos}(hg:Gl X "zip")(hm:X.mg "zip"=none)(ha:PA X [a,b] (dN X.K ta))(hs:M5 [a,b] X.env=[(false,eval a X.env),(false,eval b X.env)]:=by rfl)(hs2:M5 [b] X.env=[(false,eval b X.env)]:=by rfl):
  PI X tg (.Call (.Name "zip" p) [a,b] [] pos) (rh X.K (CY ta)):=by
 intro pins s τ H R I h;obtain⟨σ,G,Q3,rs,rg,hq,k⟩:=h;refine Rh (gB I hg hm zY (PyProof.Rows.callWith_type1 (bZ (ha pos pins s τ H (fun vs H1=>∃ ds G1,(match ds with|[x,y]=>∃ a b,(fF x=some a/\fF y=some b)/\Q3 (nP a b) G1|_=>False)/\Kp G H G1 H1/\RG X.K H1 G1/\RDs X.K H1 ds vs) I
  ⟨σ,G,_,rs,rg,hq,fun ds G1 vs H1 q k1 rg1 rds=>⟨ds,G1,q,k1,rg1,rds⟩⟩) fun us s1 ⟨vs,H1,I1,r1,q1⟩=>?_) (by rw[hs,hs2]) (by rw[hs2];rfl)))
 obtain⟨ds,G1,q,k1,rg1,rds⟩:=q1;split at q
 ·rename_i x y;obtain⟨as,bs,⟨ea,eb⟩,q⟩:=q;obtain⟨v,v',rfl,rd1,rd2⟩:=wG rds;obtain⟨u,u',rfl,ru1,ru2⟩:=DE r1;obtain⟨z1,rfl,_,w1⟩:=Bt ea rd1 ru1;obtain⟨z2,rfl,_,w2⟩:=Bt eb rd2 ru2;have hr1:=(w1 G1 G1 H1 rg1 Kp.refl).1;have hr2:=(w2 G1 G1 H1 rg1 Kp.refl).1;refine wq (Zk.of I1 hr1) (Zk.of I1 hr2) fun h' zs hsz kp=>?_;have D:ZAp (s1.heap.objs.size+4) (s1.heap.objs.size+2) (s1.heap.objs.size+3) s1.heap.objs.size (s1.heap.objs.size+1):=⟨Np (Pa (s1.heap.objs.size+2)),Np (Pa s1.heap.objs.size)⟩;refine (sD (P:=X.prog) (w:=X.w) (K:=X.K) (tg:=tg) z1 z2 _ _ _ _ _ D).self _ 0 _ _ _ zs ?_;refine⟨s1.heap.objs.size+4,[s1.heap.objs.size+4,s1.heap.objs.size+2,s1.heap.objs.size+3,s1.heap.objs.size,s1.heap.objs.size+1],_,_,H1,rfl,I1.kept (t':=s1.toks) kp,sD z1 z2 _ _ _ _ _ D,zs,fun c hc=>?_,k _ G1 _ H1 q k1 rg1 (Jk rg1 w1 w2)⟩;have hc':s1.heap.objs.size<=c:=by
   simp only[NH,NO,or_false]at hc;rcases hc with rfl|rfl|rfl|rfl|rfl<;>first|exact le_refl _|exact Nat.le_add_right _ _
  exact I1.fpOk hc' (I1.hok.fresh hc')
 ·exact q.elim
def Bc(hw:List aB->Int)(te:aV):aV:=fun σ G Q=>te σ G fun x G1=>match xV G1 (val x) with
 | some ds=>∃ kvs:List (List aB×D),(ds=kvs.map zh/\kvs.length<=900000)/\∀ p,G1 p=none->Q (.ref p) (gset G1 p (.dT hw (dictOf kvs)))
 | none=>False
def Bb(hw:List aB->Int)(ta:kK):aV:=fun σ G Q=>ta σ G fun ds G1=>match ds with
 | [x,y]=>∃ a b,∃ kvs:List (List aB×D),(fF x=some a/\fF y=some b/\nP a b=kvs.map zh/\kvs.length<=900000)/\∀ p,G1 p=none->Q (.ref p) (gset G1 p (.dT hw (dictOf kvs)))
 | _=>False
theorem HM{K:Po}{H:Hp}{ks:List aB}{v:V}(r:RD K H (.tup (ks.map kD)) v):∃ b,v=.ref b/\ke K H b (ks.map kV):=o9 (d:=.tup (ks.map kD)) (BX ks) r
theorem Gu(hu:X.A.units+8 < NF)(hc:X.calm=true)(hg:Gl X "dict")(hm:X.mg "dict"=none)(he:PE X e (aA X.K te))(hs:M5 [e] X.env=[(false,eval e X.env)]:=by rfl):
  PE X (.Call (.Name "dict" p1) [e] [] pos) (aA X.K (Bc (aI X.prog X.w) te)):=by
 rintro pins s τ H Q I ⟨σ,G,Q3,rs,rg,h,k⟩
 refine Rh (gB I hg hm wt (PyProof.Rows.callWith_type1 ?_ hs rfl) (by decide) (by decide))
 rw[show NZ pos (M5 [e] X.env)=[(false,eval e X.env)]by rw[hs];rfl]
 refine Oe (bZ (cE he I rs rg h) fun ov s1 ⟨ox,H1,I1,rox,x,G1,q1,k1,rg1,rd1⟩=>OA ?_);split at q1
 ·rename_i ds hq;obtain⟨kvs,⟨rfl,hz⟩,q1⟩:=q1;obtain⟨l,xs,rfl,sq,r⟩:=qI (G:=G1) (H:=H1) hq (.of rd1) rg1;cases rox;obtain⟨its,rv,pl,_⟩:=I1.list sq;have n1:=r.length;have n2:=rv.length;rw[MY]at n1;obtain⟨lo,ln,le,lc,ld,ldat⟩:=id pl;have tps:∀ (j:Nat) u,its[j]?=some u->∃ p kk vv,u=.ref p/\(∃ o m,s1.heap.get? p=some o/\o.cls=.type "tuple"/\o.data=.seq #[kk,vv] m)/\∃ kv b x,kvs[j]?=some kv/\kk=.ref b/\ke X.K H1 b (kv.1.map kV)/\RD X.K H1 kv.2 x/\aH x vv:=fun j u hu=>by
   obtain⟨v,e1,ru⟩:=Vals.getV rv hu;obtain⟨d,e2,rd⟩:=RDs.getV r e1;rw[Nd]at e2;cases hkv:kvs[j]? with
   | none=>rw[hkv]at e2;cases e2
   | some kv=>
    rw[hkv]at e2;cases e2;unfold zh at rd;simp only[RD]at rd;obtain⟨p,ys,rfl,sqp,ry⟩:=rd;obtain⟨y1,y2,rfl,ra,rb⟩:=wG ry;obtain⟨b,rfl,sb⟩:=HM (ks:=kv.1) (by simpa only[RD]using ra)
    cases ru;obtain⟨its2,rv2,tp,_⟩:=I1.tuple sqp;obtain⟨o,g1,g2,m,g3⟩:=tp;obtain⟨w1,w2,rfl,rw1,rw2⟩:=DE rv2;cases rw1;exact⟨p,_,w2,rfl,⟨o,m,g1,g2,by simpa using g3⟩,kv,b,y2,rfl,rfl,sb,rb,rw2⟩
  refine zP (T:="list") (kvs:=kvs) hu I1 rg1 hz ⟨lo,le,lc⟩ (by decide) (fun s' Q' E' kp q'=>?_) (fun h2 tk2 Q' E' kp hlt q'=>?_) fun s' H' I' hf kp rg'=>⟨.ref s1.heap.objs.size,H',I',rfl,k _ _ _ H' (q1 _ (rg1.free hf)) (k1.trans kp) rg' (.of eT)⟩
  ·obtain⟨c0,d0,t0,s0⟩:=lo;simp only at lc ld ldat;subst lc ld ldat;exact xu (kp _ _ le) (I.ok.hd hc) q'
  ·refine Pz (pl.isList.at fun o e=>kp _ _ e) ?_;have hln:kvs.length=its.length:=n1.trans n2;have W:=AE (prog:=X.prog) (w:=X.w) (A:=X.A.in1.in1) (it:=h2.objs.size) (l:=l) (us:=its) (Pv:=fun (j:Nat) (kk vv:MS)=>∃ (kv:List aB×D) (b:MT) (x:V),kvs[j]?=some kv/\kk=Value.ref b/\ke X.K H1 b (kv.1.map kV)/\RD X.K H1 kv.2 x/\aH x vv) (I.ok.hd hc);rw[<- hln]at W;refine q' h2.objs.size [h2.objs.size] _ _ _ W ⟨⟨_,M3 _ rfl,rfl,rfl⟩,(pl.isList.at fun o e=>kp _ _ e).push _,fun j u hu=>?_⟩ (fun c o e=>MX _ e) (fun b hb=>?_) fun i k v pv=>pv
   ·obtain⟨p,kk,vv,e,⟨o,m,g1,g2,g3⟩,pv⟩:=tps j u hu;exact⟨p,kk,vv,e,⟨o,m,MX _ (kp _ _ g1),g2,g3⟩,pv⟩
   ·have e:=Q6.mp hb;subst e;exact⟨I1.fpOk (le_of_lt hlt) (I1.hok.fresh (le_of_lt hlt)),Ps hlt⟩
 ·exact q1.elim
theorem Gs{X:Cx}{a b:Nh}{ta:kK}{p1 p2 pos SN:Pos}(hu:X.A.units+8 < NF)(hc:X.calm=true)(hg1:Gl X "dict")(hm1:X.mg "dict"=none)(hg2:Gl X "zip")(hm2:X.mg "zip"=none)(ha:PA X [a,b] (dN X.K ta))
  (hs:M5 [a,b] X.env=[(false,eval a X.env),(false,eval b X.env)]:=by rfl) (hs2:M5 [b] X.env=[(false,eval b X.env)]:=by rfl):
  PE X (.Call (.Name "dict" p1) [.Call (.Name "zip" p2) [a,b] [] SN] [] pos) (aA X.K (Bb (aI X.prog X.w) ta)):=by
 rintro pins s τ H Q I ⟨σ,G,Q3,rs,rg,h,k⟩
 refine Rh (gB I hg1 hm1 wt (PyProof.Rows.callWith_type1 ?_ rfl rfl) (by decide) (by decide))
 show MZ _ _ (spliced [(false,eval (.Call (.Name "zip" p2) [a,b] [] SN) X.env)]) _ _ _
 refine Oe (Rh (gB I hg2 hm2 zY (PyProof.Rows.callWith_type1 (bZ (ha SN pins s τ H (fun vs H1=>∃ ds G1,(match ds with|[x,y]=>∃ a b,∃ kvs:List (List aB×D),(fF x=some a/\fF y=some b/\nP a b=kvs.map zh/\kvs.length<=900000)/\∀ p,G1 p=none->Q3 (.ref p) (gset G1 p (.dT (aI X.prog X.w) (dictOf kvs)))|_=>False)/\Kp G H G1 H1/\RG X.K H1 G1/\RDs X.K H1 ds vs) I
  ⟨σ,G,_,rs,rg,h,fun ds G1 vs H1 q k1 rg1 rds=>⟨ds,G1,q,k1,rg1,rds⟩⟩) fun us s1 ⟨vs,H1,I1,r1,q1⟩=>?_) (by rw[hs,hs2]) (by rw[hs2];rfl)) (by decide) (by decide)))
 obtain⟨ds,G1,q,k1,rg1,rds⟩:=q1;split at q
 ·rename_i x y;obtain⟨as,bs,kvs,⟨ea,eb,ez,hz⟩,q⟩:=q;obtain⟨v,v',rfl,rd1,rd2⟩:=wG rds;obtain⟨u,u',rfl,ru1,ru2⟩:=DE r1;obtain⟨z1,rfl,t1,w1⟩:=Bt ea rd1 ru1;obtain⟨z2,rfl,t2,w2⟩:=Bt eb rd2 ru2;have n1:=t1.length;have n2:=t2.length;have hr1:=(w1 G1 G1 H1 rg1 Kp.refl).1;have hr2:=(w2 G1 G1 H1 rg1 Kp.refl).1;refine wq (Zk.of I1 hr1) (Zk.of I1 hr2) fun h' zs hsz kp=>OA ?_;have I2:L2.Inv X pins τ H1 { s1 with heap:=h' }:=I1.kept (t':=s1.toks) kp
  have DZ:ZAp (s1.heap.objs.size+4) (s1.heap.objs.size+2) (s1.heap.objs.size+3) s1.heap.objs.size (s1.heap.objs.size+1):=⟨Np (Pa (s1.heap.objs.size+2)),Np (Pa s1.heap.objs.size)⟩;obtain⟨f0,f1,_,hzo⟩:=zs.1;have hlen:kvs.length=min z1.vs.length z2.vs.length:=by
   have:=kM as bs;rw[ez,MY]at this;omega
  refine zP (s1:={ s1 with heap:=h' }) (T:="zip") (kvs:=kvs) hu I2 rg1 hz ⟨_,hzo,rfl⟩ (by decide) (fun s' Q' E' kp' q'=>zj (kp' _ _ hzo) (I.ok.hd hc) q') (fun h2 tk2 Q' E' kp2 hlt q'=>?_) fun s' H' I' hf kp' rg'=>⟨.ref h'.objs.size,H',I',rfl,k _ _ _ H' (q _ (rg1.free hf)) (k1.trans kp') rg' (.of eT)⟩
  have zs2:Cb z1 z2 (s1.heap.objs.size+4) (s1.heap.objs.size+2) (s1.heap.objs.size+3) s1.heap.objs.size (s1.heap.objs.size+1) 0 h2:=zs.keep fun b _ o e=>kp2 b o e;refine (sD (P:=X.prog) (w:=X.w) (K:=X.K) (tg:=.Name "" pos) z1 z2 _ _ _ _ _ DZ).self _ 0 { s1 with heap:=h2,toks:=tk2 } _ _ zs2 ?_
  have W:=Cs (prog:=X.prog) (w:=X.w) (A:=X.A.in1.in1) (k1:=z1) (k2:=z2) (I.ok.hd hc) DZ;rw[<- hlen]at W;refine q' _ _ _ _ _ W ⟨zs2,Zk.grow (Zk.of I1 hr1) fun c o e=>kp2 c o (kp c o e),Zk.grow (Zk.of I1 hr2) fun c o e=>kp2 c o (kp c o e)⟩ (fun _ _ e=>e) (fun c hc=>?_) fun i kk vv pv=>?_
  ·have hc':s1.heap.objs.size<=c/\c≠s1.heap.objs.size+5:=by
    simp only[NH,NO,or_false]at hc;rcases hc with rfl|rfl|rfl|rfl|rfl
    ·exact⟨Nat.le_add_right _ _,Np (Nat.add_lt_add_left (by decide) _)⟩
    ·exact⟨Nat.le_add_right _ _,Np (Nat.add_lt_add_left (by decide) _)⟩
    ·exact⟨Nat.le_add_right _ _,Np (Nat.add_lt_add_left (by decide) _)⟩
    ·exact⟨le_refl _,Np (Nat.lt_add_of_pos_right (by decide))⟩
    ·exact⟨Nat.le_add_right _ _,Np (Nat.add_lt_add_left (by decide) _)⟩
   refine⟨I1.fpOk hc'.1 (I1.hok.fresh hc'.1),?_⟩;show c≠h'.objs.size
   rw[hsz];exact hc'.2
  ·obtain⟨u,x,e1,e2,ru,rx⟩:=pv;obtain⟨d1,g1,r1⟩:=RDs.getV t1 e1;obtain⟨d2,g2,r2⟩:=RDs.getV t2 e2;have e3:=sx g1 g2;rw[ez,Nd]at e3;cases hkv:kvs[i]? with
   | none=>rw[hkv]at e3;cases e3
   | some kv=>
    rw[hkv]at e3;simp only[Option.map_some,Option.some.injEq,zh,D.tup.injEq,List.cons.injEq,and_true]at e3;obtain⟨rfl,rfl⟩:=e3;obtain⟨b,rfl,sb⟩:=HM r1;cases ru;exact⟨kv,b,x,rfl,rfl,sb,r2,rx⟩
 ·exact q.elim
def o_(kv:List aB×D):D:=.tup (kv.1.map kD)
def DT(te:aV)(g:sv)(tb:bc):bc:=fun E σ G=>te σ G fun d G1=>match d with
 | .ref a=>∃ hw kvs,G1 a=some (.dT hw kvs)/\ForIn g tb { nx:=fun σ' G'=>E.nx σ' (gset G' a (.dT hw kvs)),rt:=fun _ _=>False } σ (kvs.map o_) (fL G1 a)
 | _=>False
theorem qx(hd:(d == NC)=false)(x:jJ s.heap d vs ep)(q:Q (.ref s.heap.objs.size) { s with heap:=s.heap.push { cls:=.type "dict_keyiterator",data:=.fields #[.ref d,.int 0 0,.int vs.length 0,.int ep 0] } }):MZ (M0 prog w) A (Pr (.ref d)) Q E s:=by
 obtain⟨o,es,ho,hc,hdat,rfl⟩:=id x;refine Qw x.ty PySem.F.slot_dict_iter (NY PySem.F.slot_dict_iter x.ty PySem.F.entry_dict_iter ?_ (PySem.F.args_dict_iter_1 _));unfold Builtin.«dict.__iter__»;refine MR ?_;unfold Builtin.Dict.dictSlotNone;refine MR (Pf x.ty ?_);show MZ _ _ (pure (Value.ref d)) _ _ s;refine MV ?_
 show MZ _ _ (OQ d >>= _) _ _ s;unfold OQ;rw[if_neg (by rw[hd];exact Bool.false_ne_true)]
 refine MR (MV ?_);refine MR (Oi ho hdat ?_);refine MR (OO ho hdat ?_);refine MR (Nx (MV ⟨_,rfl,"dict_keyiterator",_,⟨_,M3 _ rfl,rfl⟩,PySem.F.slot_dict_keyiterator_next.lookup,?_⟩))
 simpa[Ov]using q
theorem wW{K:Po}{H:Hp}:∀ ks:List aB,RDs K H (ks.map kD) (ks.map kV)
 | []=>RDs.nil
 | .inl i::r=>RDs.cons eA (wW r)
 | .inr x::r=>RDs.cons jt (wW r)
theorem m3.at{K:Po}{H:Hp}{kvs:List (List aB×D)}{xs:List (List aB×MT×MS)}(r:m3 K H kvs xs):∀ {i:Nat} {kv:List aB×D},kvs[i]?=some kv->∃ x,xs[i]?=some x/\RD K H (o_ kv) (.ref x.2.1):=by
 unfold m3 at r
 induction r with
 | nil=>intro i kv h;simp at h
 | @cons p q ps qs hq t ih=>
  intro i kv h;cases i with
  | zero=>
   simp only[NR,Option.some.injEq]at h;subst h;refine⟨q,rfl,?_⟩;unfold o_;simp only[RD];exact⟨q.2.1,_,rfl,hq.2.1,wW _⟩
  | succ i=>
   simp only[NS]at h ⊢;exact ih h
abbrev EX(a:MT)(o:Obj):HO:=.ext fun h=>h.get? a=some o
theorem KF(e:h.get? a=some o):ba P w H h a (EX a o):=⟨e,⟨o,e⟩,fun _ _ q k=>k o q⟩
theorem Iv(hp:Qo (M0 X.prog X.w) X.A X.env X.xe)(hc:X.calm=true)(hi:PE X iter (aA X.K te))(hg:PG X tg (gM X.K g))(hb:iJ X body (bN X.K tb))(hs:∀ x,NM iter X.env x=pure x:=by intro _;rfl):PS X (.For tg iter body [] pos) (bN X.K (DT te g tb)):=by
 rintro pins s τ H Dd I ⟨σ,G,D3,rs,rg,h,k⟩
 refine wpAny_For (bZ (cE hi I rs rg h) fun v s1 ⟨ox,H1,I1,rox,d,G1,q1,k1,rg1,rd1⟩=>?_) hs;cases d with
 | ref a=>
  obtain⟨hw,kvs,hga,Pv,p0,step,fin⟩:=q1;simp only[val,RD]at rd1;subst rd1;cases rox;obtain⟨hob,eo,ro⟩:=rg1 a _ hga;cases hob with
  | ext φ=>
   obtain⟨xs,rfl,rt,nd,len⟩:=ro;obtain⟨hsm,o1,es,ep,g1,g2,g3,g4⟩:=(show ba X.prog X.w H1 s1.heap a (.ext (pI hw a xs))from I1.hok a _ eo).1
   have raw:∀ {h:Nf},h.get? a=some o1->jJ h a (xs.map fun x=>Value.ref x.2.1) ep:=fun e=>⟨o1,es,e,g2,g3,by rw[g4,Nq];rfl⟩
   have lx:=rt.length;refine qx hsm (raw g1) ?_;have hita:a≠s1.heap.objs.size:=Np (M4 g1);have kpA:Kp G1 H1 (fL G1 a) (aR H1 a (EX a o1)):=fun b u e n=>by
    have hb:b≠a:=fun z=>by subst z;rw[hga]at n;cases n
    exact⟨by rw[ar hb];exact e,by rw[em hb];exact n⟩
   have rg2:RG X.K (aR H1 a (EX a o1)) (fL G1 a):=fun b u e=>by
    have hb:b≠a:=fun z=>by subst z;rw[eh]at e;cases e
    rw[em hb]at e;obtain⟨ho,e1,r1⟩:=rg1 b u e;exact⟨ho,by rw[ar hb];exact e1,r1.mono (kpA.stb rg1)⟩
   have I1':L2.Inv X pins τ (aR H1 a (EX a o1)) { s1 with heap:=s1.heap,toks:=s1.toks }:=I1.write (x:=a) (e:=a) (by rw[eo];exact True.intro) (.inl rfl) (fun _ _ _ q=>q) ⟨o1,g1⟩ (KF g1)
   have I2:L2.Inv X pins τ (aR H1 a (EX a o1)) { s1 with heap:=s1.heap.push { cls:=.type "dict_keyiterator",data:=.fields #[.ref a,.int 0 0,.int (xs.map fun x=>Value.ref x.2.1).length 0,.int ep 0] } }:=I1'.kept (t':=s1.toks) fun _ _ q=>MX _ q
   have fit:pE X pins (aR H1 a (EX a o1)) s1.heap.objs.size:=I1.fpOk (le_refl _) (by rw[ar hita.symm];exact I1.hok.fresh (le_refl _))
   have back:∀ {τ':St} {H':Hp} {G':Gp} {σ':dO} {s':MU},L2.Inv X pins τ' H' s'->Kp (fL G1 a) (aR H1 a (EX a o1)) G' H'->RS X.K H' σ' τ'->RG X.K H' G'->D3.nx σ' (gset G' a (.dT hw kvs))->∃ τ'' H'',L2.Inv X pins τ'' H'' s'/\Dd.nx τ'' H'':=fun {τ' H' G' σ' s'} I' kk rs' rg' q=>by
    obtain⟨e1,e2⟩:=kk a _ aF eh;have e3:s'.heap.get? a=some o1:=(show ba X.prog X.w H' s'.heap a (EX a o1)from I'.hok a _ e1).1
    have I'':L2.Inv X pins τ' (aR H' a (.ext (pI hw a xs))) { s' with heap:=s'.heap,toks:=s'.toks }:=I'.write (x:=a) (e:=a) (by rw[e1];exact True.intro) (.inl rfl) (fun _ _ _ q=>q) ⟨o1,e3⟩ (nL ⟨hsm,o1,es,ep,e3,g2,g3,g4⟩)
    have st1:=(kpA.stb rg1);have st2:=(kk.stb rg2);have st3:Stb X.K H' (aR H' a (.ext (pI hw a xs))):=⟨fun b ys y=>by
     rcases y with (y|⟨o',y⟩)|y
     ·exact .inl (.inl (by rw[ar (fun z=>by rw[z,e1]at y;cases y)];exact y))
     ·exact .inl (.inr ⟨o',by rw[ar (fun z=>by rw[z,e1]at y;cases y)];exact y⟩)
     ·exact .inr y,fun b ys y=>by
     rcases y with ⟨o',y⟩|y
     ·exact .inl ⟨o',by rw[ar (fun z=>by rw[z,e1]at y;cases y)];exact y⟩
     ·exact .inr y⟩
    have rg3:RG X.K (aR H' a (.ext (pI hw a xs))) (gset G' a (.dT hw kvs)):=fun b u e=>by
     by_cases hb:b=a
     ·subst hb;rw[ax]at e;cases e;exact⟨_,aF,xs,rfl,((rt.mono st1).mono st2).mono st3,nd,len⟩
     ·rw[ai hb]at e;obtain⟨ho,e4,r4⟩:=rg' b u e;exact⟨ho,by rw[ar hb];exact e4,r4.mono st3⟩
    have kpC:Kp G H (gset G' a (.dT hw kvs)) (aR H' a (.ext (pI hw a xs))):=fun b u e n=>by
     obtain⟨e4,n4⟩:=k1 b u e n;have hb:b≠a:=fun z=>by subst z;rw[hga]at n4;cases n4
     obtain⟨e5,n5⟩:=kk b u (by rw[ar hb];exact e4) (by rw[em hb];exact n4)
     exact⟨by rw[ar hb];exact e5,by rw[ai hb];exact n5⟩
    exact⟨τ',_,I'',k.nx σ' _ τ' _ q kpC rg3 (rs'.mono st3)⟩
   refine RU (fun n s'=>∃ i σ' τ' G' H',L2.Inv X pins τ' H' s'/\s'.heap.IsKeyIter s1.heap.objs.size a i (xs.map fun x=>Value.ref x.2.1).length ep/\H' s1.heap.objs.size=none/\RS X.K H' σ' τ'/\RG X.K H' G'/\Pv i σ' G'/\Kp (fL G1 a) (aR H1 a (EX a o1)) G' H'/\i<=kvs.length/\n=kvs.length - i) ?_ kvs.length
    ⟨0,σ,τ,fL G1 a,_,I2,⟨_,M3 _ rfl,rfl,rfl⟩,fit.1,rs.mono ((k1.trans kpA).stb rg),rg2,p0,Kp.refl,N0 _,rfl⟩
   rintro n s3 ⟨i,σ3,τ3,G3,H3,I3,ki,fr3,rs3,rg3,pv,kk,hil,rfl⟩
   obtain⟨e1,e2⟩:=kk a _ aF eh;have e3:s3.heap.get? a=some o1:=(show ba X.prog X.w H3 s3.heap a (EX a o1)from I3.hok a _ e1).1
   by_cases hlt:i < kvs.length
   ·obtain⟨x,hx,rd⟩:=((rt.mono (kpA.stb rg1)).mono (kk.stb rg2)).at (M6 hlt);refine NU hp (tF ki (raw e3) (v:=.ref x.2.1) (by rw[Nd,hx];rfl) fun h4 ki4 sb=>?_)
    have I4:L2.Inv X pins τ3 H3 { s3 with heap:=h4,toks:=s3.toks }:=I3.turned (fun b o hb e=>(sb.2 b hb).trans e) fr3 fit.2.1 fit.2.2.2.1 fit.2.2.2.2.1 fit.2.2.2.2.2
    obtain⟨oi,ei,ci,di⟩:=id ki4;refine NU hp (wg (s:={ s3 with heap:=h4 }) ei ci di (by decide) ?_)
    have I4':=I4.pinned (fp:=[s1.heap.objs.size]) (fun b hb=>by rw[Q6.mp hb];exact⟨fr3,fit.2⟩) fun b hb=>by rw[Q6.mp hb];exact⟨oi,ei,fun v z=>by rw[di]at z;cases z⟩
    refine NU hp (bZ (hg _ _ τ3 H3 (.ref x.2.1) (.ref x.2.1) (fun τ2 H2=>bN X.K tb { nx:=fun τ' H'=>∃ σ' G',RS X.K H' σ' τ'/\RG X.K H' G'/\Pv (i+1) σ' G'/\Kp (fL G1 a) (aR H1 a (EX a o1)) G' H',ct:=fun τ' H'=>∃ σ' G',RS X.K H' σ' τ'/\RG X.K H' G'/\Pv (i+1) σ' G'/\Kp (fL G1 a) (aR H1 a (EX a o1)) G' H',bk:=fun τ' H'=>∃ σ' G',RS X.K H' σ' τ'/\RG X.K H' G'/\D3.nx σ' (gset G' a (.dT hw kvs))/\Kp (fL G1 a) (aR H1 a (EX a o1)) G' H',rt:=fun _ _=>False } τ2 H2) I4' rfl
     ⟨o_ kvs[i],σ3,G3,_,rd,rs3,rg3,step i _ σ3 G3 (by rw[Nd,M6 hlt];rfl) pv,fun σ5 G5 τ5 H5 q5 k5 rg5 rs5=>⟨σ5,G5,_,rs5,rg5,q5,⟨fun σ6 G6 τ6 H6 q6 k6 rg6 rs6=>⟨σ6,G6,rs6,rg6,q6,kk.trans (k5.trans k6)⟩,fun _ _ _ _ q _ _ _=>q.elim,fun σ6 G6 τ6 H6 q6 k6 rg6 rs6=>⟨σ6,G6,rs6,rg6,q6,kk.trans (k5.trans k6)⟩,fun σ6 G6 τ6 H6 q6 k6 rg6 rs6=>⟨σ6,G6,rs6,rg6,q6,kk.trans (k5.trans k6)⟩⟩⟩⟩) fun _ s6 ⟨σ6,H6,I6,q6⟩=>?_)
    refine NU hp (bZ (hb _ s6 σ6 H6 _ I6 q6) fun f s7 q7=>?_);have again:∀ {τ7:St} {H7:Hp},L2.Inv X (pins ++ qf [s1.heap.objs.size] h4) τ7 H7 s7->(∃ σ' G',RS X.K H7 σ' τ7/\RG X.K H7 G'/\Pv (i+1) σ' G'/\Kp (fL G1 a) (aR H1 a (EX a o1)) G' H7)->∃ m,m < kvs.length - i/\∃ i σ' τ' G' H',L2.Inv X pins τ' H' s7/\s7.heap.IsKeyIter s1.heap.objs.size a i (xs.map fun x=>Value.ref x.2.1).length ep/\H' s1.heap.objs.size=none/\RS X.K H' σ' τ'/\RG X.K H' G'/\Pv i σ' G'/\Kp (fL G1 a) (aR H1 a (EX a o1)) G' H'/\i<=kvs.length/\m=kvs.length - i:=fun {τ7 H7} I7 ⟨σ7,G7,rs7,rg7,pv7,k7⟩=>by
     have pin:=I7.pin (s1.heap.objs.size,oi) (ND _ (ND _ (ie (by simp) ei)))
     exact⟨kvs.length - (i+1),by walk_at "o",i+1,σ7,τ7,G7,H7,I7.unpinned,⟨oi,pin.1,ci,di⟩,pin.2.1,rs7,rg7,pv7,k7,hlt,rfl⟩
    cases f with
    | next=>obtain⟨σ7,H7,I7,n7⟩:=q7;exact again I7 n7
    | cont=>obtain⟨σ7,H7,I7,n7⟩:=q7;exact again I7 n7
    | brk=>
     obtain⟨σ7,H7,I7,σ8,G8,rs8,rg8,q8,k8⟩:=q7;exact back I7.unpinned k8 rs8 rg8 q8
    | ret v=>obtain⟨x7,σ7,H7,I7,r7,q7⟩:=q7;exact q7.elim
   ·have ei:i=kvs.length:=by walk_at "o"
    subst ei;refine NU hp (wY (I.ok.hd hc) ki (raw e3) (by rw[Nd,Oc (by walk_at "o")];rfl) fun h4 eb=>Ow ?_)
    have I4:L2.Inv X pins τ3 H3 { s3 with heap:=h4,toks:=s3.toks }:=I3.turned (fun b o hb e=>eb b o hb e) fr3 fit.2.1 fit.2.2.2.1 fit.2.2.2.2.1 fit.2.2.2.2.2
    exact back I4 kk rs3 rg3 (fin σ3 G3 (by rw[MY];exact pv))
  | _=>exact ro.elim
 | _=>exact q1.elim
open HT PySem.SeqAt
def KG(te:aV)(tl th ts:JI):aV:=fun σ G Q=>te σ G fun x G1=>tl σ G1 fun l G2=>th σ G2 fun u G3=>ts σ G3 fun st G4=>match x with
 | .tup ds=>(l=none/\u=none/\st=some (-1))/\Q (.tup ds.reverse) G4
 | _=>False
def GZ(to:aV)(ta:kK):aV:=fun σ G Q=>to σ G fun x G1=>match x with
 | .tup ds=>ta σ G1 fun es G2=>match es with
  | [y]=>(pl 7 y/\(∀ d∈ds,pl 7 d)/\y∈ds)/\Q (.int (E6 y ds)) G2
  | _=>False
 | _=>False
section
variable{K:Po}{H:Hp}
theorem C7(h:G a=some o):gset G a o=G:=by
 funext b;unfold gset;split
 ·rename_i e;rw[e,h]
 ·rfl
end
def JM(a:MT)(k:Nat)(g:sv)(tt:mv)(te:aV)(σ:dO)(ds:List D)(G1:Gp)(Q:jh):Prop:=ds.length<=M1/\∃ Pv:Nat->List D->Gp->Prop,Pv 0 [] G1/\(∀ i acc G',Pv i acc G'->G' a=some (.lst ds))/\
 (∀ (i:Nat) d acc G',ds[i]?=some d->Pv i acc G'->g d (List.replicate k none ++ σ) G' fun σ2 G2=>(k<=σ2.length/\σ2.drop k=σ)/\tt σ2 G2 fun b G3=>if b=true then te σ2 G3 fun y G4=>Pv (i+1) (acc ++ [val y]) G4 else Pv (i+1) acc G3)/\
 ∀ acc G',Pv ds.length acc G'->Q (.fl acc) G'
def uD(k:Nat)(tl:aV)(g:sv)(tt:mv)(te:aV):aV:=fun σ G Q=>tl σ G fun d G1=>match d with
 | .ref a=>∃ ds,G1 a=some (.lst ds)/\JM a k g tt te σ ds G1 Q
 | d=>match eL d with
  | some ds=>yB k g tt te σ ds G1 Q
  | none=>False
section
variable{X:Cx}{elt tg iter:Nh}{ifs:List Nh}{scope:O_}{T M:List Str}{pos:Pos}{tl:aV}{g:sv}{tt:mv}{te:aV}
theorem gW{K:Po}{τ:St}{σ:dO}{G G1:Gp}{H H1:Hp}{Q:VK}{Q3:jh}{ds:List D}{J:It}{Pv:Nat->List D->Gp->Prop}(rs:RS K H σ τ)(rg:RG K H G)(k:∀ d G' v H',Q3 d G'->Kp G H G' H'->RG K H' G'->RE K G H G' H' d v->Q v H')(k1:Kp G H G1 H1)(rg1:RG K H1 G1)
  (p0:Pv 0 [] G1) (it:∀ i acc G' H',Pv i acc G'->Kp G1 H1 G' H'->RG K H' G'->(i < ds.length->J.go i H'/\∀ x H2,J.yld i H' x H2->Kp G' H' G' H2/\RG K H2 G'/\∃ d,ds[i]?=some d/\RD K H2 d x)/\(i=ds.length->J.stop i H'))
  (step:∀ (i:Nat) d acc G',ds[i]?=some d->Pv i acc G'->g d (List.replicate T.length none ++ σ) G' fun σ2 G2=>(T.length<=σ2.length/\σ2.drop T.length=σ)/\tt σ2 G2 fun b G3=>if b=true then te σ2 G3 fun y G4=>Pv (i+1) (acc ++ [val y]) G4 else Pv (i+1) acc G3)
  (fin:∀ acc G',Pv ds.length acc G'->Q3 (.fl acc) G') (hsz:ds.length<=M1):
  ∀ Da,H1 Da=none->∃ W:Nat->Nat->List V->St->Hp->Prop,(∃ m,W 0 m [] (ent T τ) (aR H1 Da (.lst [])))/\
   ∀ i m ys σ1 H2,W i m ys σ1 H2->H2 Da=some (.lst ys)/\((J.stop i H2/\Q (.ref Da) H2)\/(J.go i H2/\∃ N:List V->St->Hp->Prop,(∀ ys' σ' H',N ys' σ' H'->∃ m',m' < m/\W (i+1) m' ys' σ' H')/\
    ∀ x H',J.yld i H2 x H'->gM K g x σ1 H' fun σ2 H3=>b8 K tt σ2 H3 fun b H4=>if b=true then tW K te σ2 H4 fun y H5=>H5 Da=some (.lst ys)/\ys.length < M1/\N (ys ++ [y]) σ2 (aR H5 Da (.lst (ys ++ [y])))else N ys σ2 H4)):=by
 intro Da hD;have kD:Kp G1 H1 G1 (aR H1 Da (.lst [])):=Kp.laid hD;have rgD:RG K (aR H1 Da (.lst [])) G1:=rg1.laid hD;have gD:G1 Da=none:=rg1.free hD;refine⟨fun i m ys τ2 H2=>m=ds.length - i/\i<=ds.length/\∃ acc G2,H2 Da=some (.lst ys)/\G2 Da=none/\RG K H2 G2/\RS K H2 (List.replicate T.length none ++ σ) τ2/\RDs K H2 acc ys/\acc.length<=i/\Pv i acc G2/\(∀ a h,a≠Da->H1 a=some h->G1 a=none->H2 a=some h/\G2 a=none),
  ⟨ds.length,rfl,N0 _,[],G1,aF,gD,rgD,DW T (rs.mono ((k1.trans kD).stb rg)),RDs.nil,le_refl _,p0,fun a h ha e n=>⟨by rw[ar ha];exact e,n⟩⟩,?_⟩
 rintro i m ys τ2 H2 ⟨rfl,hi',acc,G2,eD,nD,rg2,rs2,ra,la,pv,k2⟩
 have k2':Kp G1 H1 G2 H2:=fun a h e n=>k2 a h (bH e hD) e n;refine⟨eD,?_⟩;obtain⟨hgo,hstop⟩:=it i acc G2 H2 pv k2' rg2
 by_cases hlt:i < ds.length
 ·obtain⟨go,yld⟩:=hgo hlt;refine .inr ⟨go,fun ys' τ' H'=>∃ acc G',H' Da=some (.lst ys')/\G' Da=none/\RG K H' G'/\RS K H' (List.replicate T.length none ++ σ) τ'/\RDs K H' acc ys'/\acc.length<=i+1/\Pv (i+1) acc G'/\(∀ a h,a≠Da->H1 a=some h->G1 a=none->H' a=some h/\G' a=none),
   fun ys' τ' H' q'=>⟨ds.length - (i+1),by walk_at "o",rfl,hlt,q'⟩,fun x H3 y=>?_⟩
  obtain⟨ky,rgy,d,hd,rd⟩:=yld x H3 y;refine⟨d,List.replicate T.length none ++ σ,G2,_,rd,rs2.mono (ky.stb rg2),rgy,step i d acc G2 hd pv,fun σ4 G4 τ4 H4 q4 k4 rg4 rs4=>?_⟩;obtain⟨⟨hlen,hdrop⟩,q4⟩:=q4;have rs4':RS K H4 (List.replicate T.length none ++ σ) τ4:=by
   have:=pW T.length hlen rs4;rw[hdrop]at this;exact this
  refine⟨σ4,G4,_,rs4,rg4,q4,fun b G5 H5 q5 k5 rg5=>?_⟩;have e3:H3 Da=some (.lst ys):=(ky Da _ eD nD).1;have e4:=k4 Da _ e3 nD;have e5:=k5 Da _ e4.1 e4.2;have kk:∀ {G6:Gp} {H6:Hp},Kp G5 H5 G6 H6->∀ a h,a≠Da->H1 a=some h->G1 a=none->H6 a=some h/\G6 a=none:=fun k6 a h ha e n=>((((Kp.trans k2' ky).trans k4).trans k5).trans k6) a h e n;cases b with
  | false=>
   refine iteF ⟨acc,G5,e5.1,e5.2,rg5,rs4'.mono (k5.stb rg4),RDs.mono (((ky.trans k4).trans k5).stb rg2) _ _ ra,by walk_at "o",q5,kk Kp.refl⟩
  | true=>
   refine iteT ⟨σ4,G5,_,rs4.mono (k5.stb rg4),rg5,q5,fun yv G6 v H6 q6 k6 rg6 rd6=>?_⟩;have e6:=k6 Da _ e5.1 e5.2;have la':=ra.length;have st:Stb K H6 (aR H6 Da (.lst (ys ++ [v]))):=by
    constructor
    ·intro a zs q;rcases q with (q|⟨o,q⟩)|q
     ·exact .inl (.inl (by rw[ar (fun z=>by subst z;rw[e6.1]at q;cases q)];exact q))
     ·exact .inl (.inr ⟨o,by rw[ar (fun z=>by subst z;rw[e6.1]at q;cases q)];exact q⟩)
     ·exact .inr q
    ·intro a zs q;rcases q with ⟨o,q⟩|q
     ·exact .inl ⟨o,by rw[ar (fun z=>by subst z;rw[e6.1]at q;cases q)];exact q⟩
     ·exact .inr q
   refine⟨e6.1,by walk_at "o",acc ++ [val yv],G6,aF,e6.2,fun a o q=>?_,(rs4'.mono ((k5.trans k6).stb rg4)).mono st,?_,by simp;omega,q6,fun a h ha e n=>?_⟩
   ·obtain⟨h',q1,q2⟩:=rg6 a o q;exact⟨h',by rw[ar (fun z=>by subst z;rw[e6.2]at q;cases q)];exact q1,q2.mono st⟩
   ·exact RDs.append (RDs.mono st _ _ (RDs.mono ((((ky.trans k4).trans k5).trans k6).stb rg2) _ _ ra)) (RDs.cons (RD.mono st _ _ rd6) RDs.nil)
   ·rw[ar ha];exact kk k6 a h ha e n
 ·have e:i=ds.length:=by walk_at "o"
  refine .inl ⟨hstop e,k _ G2 _ H2 (fin acc G2 (by rw[<- e];exact pv)) (k1.trans k2') rg2 (.inl ⟨acc,Da,ys,rfl,rfl,eD,nD,ra,?_⟩)⟩
  exact k1.fr (sj hD)
def Kz(K:Po)(te:aV):TI:=fun τ H R=>∃ σ G Q3,RS K H σ τ/\RG K H G/\te σ G Q3/\∀ d G1 H1,Q3 d G1->Kp G H G1 H1->RG K H1 G1->match d with
  | .ref a=>(∃ ds,G1 a=some (.lst ds))/\R (Lg K a) H1
  | d=>∃ ds,eL d=some ds/\∀ J,x8 K G1 H1 ds J->R J H1
theorem Gf(h:PE X e (aA X.K te)):PI X tg e (Kz X.K te):=BH h
theorem Be{K:Po}{τ:St}{H:Hp}{Q:VK}(h:aA K (uD T.length tl g tt te) τ H Q):yK (ent T) (Kz K tl) (gM K g) (b8 K tt) (tW K te) τ H Q:=by
 obtain⟨σ,G,Q3,rs,rg,h,k⟩:=h;refine⟨σ,G,_,rs,rg,h,fun d G1 H1 q k1 rg1=>?_⟩;cases d with
 | ref a=>
  obtain⟨ds,hg,hsz,Pv,p0,live,step,fin⟩:=q;refine⟨⟨ds,hg⟩,gW rs rg k k1 rg1 p0 (fun i acc G' H' pv k' rg'=>?_) step fin hsz⟩;obtain⟨xs,e1,r⟩:=tV rg' (live i acc G' pv);have hl:=r.length;refine⟨fun hi=>⟨⟨xs,xs[i]'(by walk_at "o"),kg.of e1,by simp[show i < xs.length by walk_at "o"]⟩,fun x H2 y=>?_⟩,fun e=>⟨xs,kg.of e1,by walk_at "o"⟩⟩
  obtain⟨rfl,hx⟩:=y;refine⟨Kp.refl,rg',ds[i],by simp[hi],?_⟩
  obtain⟨y,e,q⟩:=r.get (i:=i) (d:=ds[i]) (by simp[hi])
  rw[hx xs (kg.of e1)]at e;cases e;exact q
 | lst ds=>
  obtain⟨hsz,Pv,p0,step,fin⟩:=q;exact⟨_,rfl,fun J it=>gW rs rg k k1 rg1 p0 (fun i acc G' H' _ k' rg'=>it i G' H' k' rg') step fin hsz⟩
 | fl ds=>
  obtain⟨hsz,Pv,p0,step,fin⟩:=q;exact⟨_,rfl,fun J it=>gW rs rg k k1 rg1 p0 (fun i acc G' H' _ k' rg'=>it i G' H' k' rg') step fin hsz⟩
 | tup ds=>
  obtain⟨hsz,Pv,p0,step,fin⟩:=q;exact⟨_,rfl,fun J it=>gW rs rg k k1 rg1 p0 (fun i acc G' H' _ k' rg'=>it i G' H' k' rg') step fin hsz⟩
 | str z=>
  obtain⟨hsz,Pv,p0,step,fin⟩:=q;exact⟨_,rfl,fun J it=>gW rs rg k k1 rg1 p0 (fun i acc G' H' _ k' rg'=>it i G' H' k' rg') step fin hsz⟩
 | _=>exact q.elim
theorem BK(ok:CompOk X scope T M)(hin:∀ cl C s₀ H₀ fp,PG (aU X (T ++ M) scope cl C s₀ H₀ fp) tg (gM X.K g)/\Dt (aU X (T ++ M) scope cl C s₀ H₀ fp) ifs (b8 X.K tt)/\PE (aU X (T ++ M) scope cl C s₀ H₀ fp) elt (aA X.K te))(hi:PE X iter (aA X.K tl))(hs:∀ x,NM iter X.env x=pure x:=by intro _;rfl):PE X (.ListComp elt [⟨tg,iter,ifs,0⟩] scope pos) (aA X.K (uD T.length tl g tt te)):=
 (xl ok (fun cl C s₀ H₀ fp=>let ⟨a,b,c⟩:=hin cl C s₀ H₀ fp;⟨a,b,c7 c⟩) (Gf hi) hs).imp fun _ _ _ h=>Be h
end
open PySem.W
abbrev jH(C t:MT):Obj:={ cls:=.ref C,data:=.fields #[.ref t,.none,.none,.none,.bool false,.none] }
abbrev gR(h:Nf)(C:MT)(c8:List MS):Nf:=(h.push { cls:=.type "tuple",data:=.seq c8.toArray }).push (jH C h.objs.size)
section
variable{prog:M9}{w:Ng}{A:Nb}{K:Po}{h:Nf}{g:Array GenState}{d:Drawn}{t:Nat}{os:OsState}{R:P8->MU->Prop}
variable{nm q:Str}{C N fI:MT}{bs bm bmB:List MS}{hdct:Bool}{sn:List Str}{sub:List MS}{ab:Bool}{col:Option Bool}{dd:Option MT}{k0 k1 k2 k3 k5:Option MS}{B newId T4:String}{c8:List MS}
theorem GV(F:ExcBaseFacts B newId T4 bmB)(T:OwnTail h bmB bm)(hC:h.get? C=some (RJ nm q C N bs bm hdct sn sub ab col dd k0 k1 k2 k3 k5 newId))(X:K.In h)(hi:Qt K (.ref C) "__init__"=some (some (.ref fI)))(hf:typeIn K (.ref fI)=some (.type "function"))(S6:c8.length<=M1)(hq:Oz (M0 prog w) (A.under (.builtin "type.__call__" ⟨.ref C::c8,[]⟩)) (.call (.ref fI) ⟨.ref (h.objs.size+1)::c8,[]⟩) (InitBack (h.objs.size+1) R) ⟨gR h C c8,g,d,t,os⟩):
  Oz (M0 prog w) A (.call (.ref C) ⟨c8,[]⟩) R ⟨h,g,d,t,os⟩:=by
 have f1:=tc_lookup;have f2:=tc_bind (.ref C);have hT:(⟨h,g,d,t,os⟩:MU).TypeIs (.ref C) "type":=⟨_,hC,rfl⟩;refine codeAny_of_tree ?_;show MZ _ _ (callAny (.ref C) _) _ _ _
 repeat (any_goals (first|assumption|with_reducible refine PB hC ?_|wp_step))
 refine⟨rfl,?_⟩;refine codeAny_call_builtin_at (Sf _ (by decide +kernel)) entry_typeCall (wpAny_check_type_call_sub hC ?_)
 repeat (first|with_reducible refine PB hC ?_|with_reducible refine wpAny_madeBy_exc hC ?_|wp_step)
 refine codeAny_call_builtin_code (Sf _ F.quiet) (wpAny_check_new_subT F T hC ?_);refine codeAny_exc_new_subT F T hC ?_ S6;show MZ (M0 prog w) (A.under (.builtin "type.__call__" ⟨.ref C::c8,[]⟩)) _ _ _ ⟨gR h C c8,g,d,t,os⟩
 have k:∀ b o,h.get? b=some o->(gR h C c8).get? b=some o:=fun b o e=>MX _ (MX _ e);have hx:(gR h C c8).get? (h.objs.size+1)=some (jH C h.objs.size):=by heap_get
 have hC1:=k _ _ hC;have hcC:(Value.ref C::bm).contains (.ref C)=true:=by simp
 have i1:QO (M0 prog w) (gR h C c8) (P0 (.ref C) "__init__") (some (.ref fI)):=(Qz X hi).keeps k;have b1:QO (M0 prog w) (gR h C c8) (bindSpecial (.ref fI) (.ref (h.objs.size+1))) (.ref fI,[.ref (h.objs.size+1)]):=(bind_fn X _ hf).keeps k;have t1:QO (M0 prog w) (gR h C c8) (typeOf (.ref (h.objs.size+1))) (.ref C):=(Looks.ld hx).andThen .now;have s1:QO (M0 prog w) (gR h C c8) (isSubtype (.ref C) (.ref C)) true:=fun A Q E s kk qq=>by
  obtain⟨hh,g',d',t',os'⟩:=s;refine RP (kk _ _ hC1) ?_;rw[hcC];exact qq
 unfold Qs callSpecial? specialOf
 repeat (first|with_reducible refine Pg ?_|simp only[hcC,Bool.not_true,Bool.false_eq_true,if_false]|lk)
 refine Oy hq fun r s' z=>?_;rcases r with e|(v|_|_|_)<;>first|exact z|exact z.elim|skip
 obtain⟨rfl,z⟩:=z;exact MV (MV z)
end
section
open Builtin Builtin.ObjectAttr
variable{prog:M9}{w:Ng}{A:Nb}{K:Po}{s:MU}{x C:MT}{o:Obj}{cd:QI}{name:Str}{v:MS}
theorem Gw(X:K.In s.heap)(I:UN s.heap x o C none)(hc:clsIn K C=some cd)(hp:refuseLoop (.ref x) "__setattr__" cd.mro=pure ())(ho:cd.mro.contains (.type "object")=true)(ne:cd.mro.isEmpty=false)(ht:takerIn K C name=some none)(h:∀ b,MZ (M0 prog w) A.in1 (storeInOwnDict (.ref x) (.ref C) (.str name tk) name v b) (fun fin s'=>match fin with|.done f=>R (.ok f) s'|.again c'=>c'.quiet=true/\Oz (M0 prog w) A c' R s') (fun e s'=>R (.error e) s') s):
  Oz (M0 prog w) A (.call (.builtin "object.__setattr__") ⟨[.ref x,.str name tk,v],[]⟩) R s:=by
 have SF:=PySem.F.store_object;have isO:QO (M0 prog w) s.heap (Qs (.ref x) (.type "object")) true:=I.type.andThen (RF X (by unfold mroIn;rw[hc,Option.bind_some,if_neg (by rw[ne];decide),ho]))
 refine Qi SF.slot.plain SF.entry (@R_ (M0 prog w) _ _ s "object.__setattr__" "object" "__setattr__" (.ref x) [.str name tk,v] [] _ SF.kind SF.split isO (SF.args (.ref x) (.str name tk) v) ?_);obtain⟨attr,ha,hr⟩:=Option.bind_eq_some_iff.mp ht;have mro:QO (M0 prog w) s.heap (mroOf (.ref C)) cd.mro:=(looks_clsIn X hc).andThen .now;have tak:QO (M0 prog w) s.heap (storeTaker? attr) none:=by
  cases attr with
  | none=>exact .now
  | some a=>
   obtain⟨b,hb,e⟩:=Option.map_eq_some_iff.mp hr;refine (looks_takesIn X hb).andThen ?_;cases b with
   | true=>cases e
   | false=>exact .now
 rw[osa_eq,refuse_eq];refine MR (MR (I.type.here (MR (mro.here ?_))));rw[hp];exact MV (MR (I.type.here (MR ((Qz X ha).here (MR (tak.here (h _)))))))
theorem set_exc(X:K.In s.heap)(hx:s.heap.get? x=some o)(hcl:o.cls=.ref C)(hno:notCls o=true)(hdn:o.dict=none)(hs:Qt K (.ref C) "__setattr__"=some (some (.builtin "object.__setattr__")))(hc:clsIn K C=some cd)(hd:cd.hasDict=true)(hp:refuseLoop (.ref x) "__setattr__" cd.mro=pure ())(ho:cd.mro.contains (.type "object")=true)(ne:cd.mro.isEmpty=false)(ht:takerIn K C name=some none)(h:∀ h' tk,h'.get? x=some { o with dict:=some s.heap.objs.size }->h'.Ns1 s.heap.objs.size (fun y=>if y=name then some v else none)->(∀ b ob,b≠x->s.heap.get? b=some ob->h'.get? b=some ob)->Q () { s with heap:=h',toks:=tk }):
  MZ (M0 prog w) A (Si (.ref x) name v) Q E s:=by
 have I:UN s.heap x o C none:=⟨hx,hcl,hno,by rw[hdn];trivial⟩
 have hnc:∀ c,o.data≠.cls c:=fun c e=>by unfold notCls at hno;rw[e]at hno;cases hno
 refine set_plain X I hs (Gw (s:={ s with toks:=s.toks+1 }) X I hc hp ho ne ht fun b=>?_)
 have hx1:(s.heap.push { cls:=.type "dict",data:=.dict #[] }).get? x=some o:=MX _ hx;have hxs:x≠s.heap.objs.size:=Np (M4 hx);have fin:MZ (M0 prog w) A.in1 (storeInDict s.heap.objs.size (.str name s.toks) name v) (fun fin s'=>match fin with
   | .done f=>(match (Except.ok f:P8) with|.ok (.ret _)=>Q () s'|.ok _=>False|.error e=>E e s')
   | .again c'=>c'.quiet=true/\Oz (M0 prog w) A c' (fun r s'=>match r with|.ok (.ret _)=>Q () s'|.ok _=>False|.error e=>E e s') s')
   (fun e s'=>match (Except.error e:P8) with|.ok (.ret _)=>Q () s'|.ok _=>False|.error e=>E e s')
   { s with heap:=(s.heap.push { cls:=.type "dict",data:=.dict #[] }).update x fun o=>{ o with dict:=some s.heap.objs.size },toks:=s.toks+1 }:=by
  have gd:((s.heap.push { cls:=.type "dict",data:=.dict #[] }).update x fun o=>{ o with dict:=some s.heap.objs.size }).get? s.heap.objs.size=some { cls:=.type "dict",data:=.dict #[] }:=
   (RV _ _ _ _ hxs.symm).trans (Heap.get?_push_at rfl rfl)
  have nd:((s.heap.push { cls:=.type "dict",data:=.dict #[] }).update x fun o=>{ o with dict:=some s.heap.objs.size }).Ns s.heap.objs.size (fun _=>none):=⟨_,#[],_,gd,rfl,fun e he=>absurd he (by simp),fun _=>rfl⟩
  unfold storeInDict newKeyGuard;refine MR (MV (MR (wpAny_nsSet1 (So nd) fun h' hn' hs'=>?_)));obtain⟨oD,esD,epD,hoD,hdD,hcD⟩:=hn'.count (Within.cons name v Within.nil);refine MR (wpAny_lookBehind hoD (by rw[hdD];exact pastItsLine_dict (le_trans hcD (by rw[Nc,NA,N6];omega))) ?_)
  refine MV (h h' _ ?_ hn' fun b ob hb e=>?_)
  ·refine (hs'.2 x hxs).trans (N9 _ hx1 ?_);have hfr:=(Heap.get?_some_iff.mp hx).2;obtain⟨oc,od,odt,osl⟩:=o;cases odt<;>first|rfl|exact hfr
  ·exact (hs'.2 b (Np (M4 e))).trans ((RV _ _ _ _ hb).trans (MX _ e))
 obtain⟨oc,od,odt,osl⟩:=o;dsimp only at hcl hdn;subst hcl hdn;unfold storeInOwnDict;refine MR (MV ?_);show MZ _ _ (ownDictForStores (.ref x) >>= _) _ _ _
 refine MR ?_;unfold ownDictForStores instanceDict;refine MR (QW hx ?_);dsimp only;refine MR (Looks.here (s:={ s with toks:=s.toks+1 }) (looks_clsIn X hc) ?_)
 rw[hd,if_neg (by decide),if_neg (by simp[typeHasDict])]
 split
 ·exact absurd rfl (hnc _)
 ·refine MR (wpAny_alloc ?_);refine MR (wpAny_update (s:={ s with heap:=s.heap.push { cls:=.type "dict",data:=.dict #[] },toks:=s.toks+1 }) hx1 ?_)
  exact MV fin
end
section
variable{M:RL}{A:Nb}{E:MS->MU->Prop}{env:Env}{nm q:Str}{C N:MT}{bs bm:List MS}{hdct:Bool}{sn:List Str}{sub:List MS}{ab:Bool}{col:Option Bool}{dd:Option MT}{k0 k1 k2 k3 k5:Option MS}{newId:String}
theorem Cr(Sz:bm.contains (.type "BaseException")=true)(hh:A.handled=none)(h:MZ M A x (fun v s₁=>∃ e t dx,v=.ref e/\s₁.heap.get? C=some (RJ nm q C N bs bm hdct sn sub ab col dd k0 k1 k2 k3 k5 newId)/\s₁.heap.get? e=some { cls:=.ref C,dict:=dx,data:=.fields #[.ref t,.none,.none,.none,.bool false,.none] }/\E (.ref e) s₁) E s):
  MZ M A (raiseStmt env (some x) none) Q E s:=by
 have isB:(Value.ref C::bm).contains (.type "BaseException")=true:=by rw[List.contains_cons,Sz,Bool.or_true]
 unfold raiseStmt;refine MR (Nn h (fun v s₁ h₁=>?_) fun _ _ x=>x);obtain⟨e,t,dx,rfl,hC,he,hE⟩:=h₁;obtain⟨hp,g,d,tk,os⟩:=s₁
 repeat (first|with_reducible refine PB he ?_|with_reducible refine PB hC ?_|(with_reducible refine RP hC ?_;rw[isB])|wp_step)
 exact wpAny_raiseNew_none hh hE
end
end L3
namespace L2
open PySem PySem.Spec PyProof.Rows
structure Noted(fs:List MT)(x:MT)(oe:Obj)(vs:Array MS)(h h':Nf):Prop where
 keep:∀ b o,b∉fs->b≠x->(∀ T,vs[1]?=some (.ref T)->b≠T)->h.get? b=some o->h'.get? b=some o
 slot:∀ b o,b∈fs->h.get? b=some o->∃ sl,h'.get? b=some { o with slots:=sl }
 there:∀ b o,h.get? b=some o->∃ o',h'.get? b=some o'
 exc:∃ T oT ts,h'.get? x=some (oe.mapFields (·.setIfInBounds 1 (.ref T)))/\h.objs.size<=T/\T≠x/\h'.get? T=some oT/\oT.data=.fields ts/\ts[3]?=some .none
section
variable{M:RL}{A:Nb}{E:MS->MU->Prop}{s:MU}
theorem uA(hfr:A.frames=some (env::outer))(hl:s.heap.FunFrames base (env::outer))(hf:env.frame=some L)(he:s.heap.get? x=some oe)(hd:oe.data=.fields vs)(hsz:1 < vs.size)(h:∀ h',Noted ((env::outer).filterMap (·.frame)) x oe #[] s.heap h'->Q () { s with heap:=h' }):
  MZ M A (do let a <- frameOf env;let pl <- entryPlaceOf L S_;let b <- RW head a .none (Ov L) .none pl;QX (.ref x) 1 b) (fun _ s'=>MZ M A (QF (.ref x) none) Q E s') E s:=by
 have Ui:x∉(env::outer).filterMap (·.frame):=fun hm=>by
  obtain⟨_,o,ho,hnf⟩:=hl.mem hm;rw[he]at ho;injection ho with ho;subst ho;exact hnf vs hd
 refine MR (wpAny_frameOf_fun hfr hl hf fun h₁ hs₁=>?_);refine MR (wpAny_entryPlaceOf fun pl hpl=>?_);unfold RW newFields;refine MR (Nx ?_ (hpl.sizeOk5 _ _ _ _ _));have he₁:h₁.get? x=some oe:=(hs₁.2.1 x Ui).trans he;generalize hob:({ cls:=.type "traceback",dict:=none,data:=.fields ([head,.ref L,.none,Ov L,.none] ++ (if pl.isEmpty then List.replicate 6 Value.none else pl)).toArray }:Obj)=ob
 have hod:ob.data=.fields ([head,.ref L,.none,Ov L,.none] ++ (if pl.isEmpty then List.replicate 6 Value.none else pl)).toArray:=by rw[<- hob]
 have Uz:ob.isFreed=false:=Ou hod;have he₂:=MX (h:=h₁) ob he₁;refine OT he₂ hd hsz ?_;have hTe:h₁.objs.size≠x:=Ps (M4 he₁);have hd₃:=NT hd (·.setIfInBounds 1 (Value.ref h₁.objs.size));have he₃:=N9 (NE (·.setIfInBounds 1 (Value.ref h₁.objs.size))) he₂ (Ou hd₃);have hT₃:=(Ny (h₁.push ob) (NE (·.setIfInBounds 1 (Value.ref h₁.objs.size))) (Ne.symm hTe)).trans (M3 h₁ Uz);have hs3:3 < ([head,.ref L,.none,Ov L,.none] ++ (if pl.isEmpty then List.replicate 6 Value.none else pl)).toArray.size:=by
  simp only[M8,NJ,Nc,NA];omega
 unfold QF;refine MR (N3 he₃ hd₃ (x:=.ref h₁.objs.size) (by simp[hsz]) ?_)
 rw[if_pos (show (Value.ref h₁.objs.size != Value.none)=true from by simp)]
 refine OT hT₃ hod hs3 (h _ ?_);have keep:∀ b o,b≠x->h₁.get? b=some o->
   (((h₁.push ob).update x (NE (·.setIfInBounds 1 (Value.ref h₁.objs.size)))).update h₁.objs.size (NE (·.setIfInBounds 3 ((none:Option MT).elim Value.none fun f=>Ov f)))).get? b=some o:=fun b o hbe hb=>by
  have hbT:h₁.objs.size≠b:=Ps (M4 hb);rw[Ny _ _ hbT,Ny _ _ (Ne.symm hbe)];exact MX _ hb
 have hx':(((h₁.push ob).update x (NE (·.setIfInBounds 1 (Value.ref h₁.objs.size)))).update h₁.objs.size (NE (·.setIfInBounds 3 ((none:Option MT).elim Value.none fun f=>Ov f)))).get? x=some (oe.mapFields (·.setIfInBounds 1 (.ref h₁.objs.size))):=by
  rw[Ny _ _ hTe];exact he₃
 refine⟨fun b o hb hbx _ e=>keep b o hbx ((hs₁.2.1 b hb).trans e),fun b o hb e=>?_,fun b o e=>?_,h₁.objs.size,_,_,hx',Qf hs₁.1.symm,hTe,N9 _ hT₃ (Ou (NT hod _)),NT hod _,?_⟩
 ·obtain⟨sl,hsl⟩:=hs₁.2.2 b o e;exact⟨sl,keep b _ (fun z=>Ui (z ▸ hb)) hsl⟩
 ·by_cases hbx:b=x
  ·exact⟨_,by rw[hbx];exact hx'⟩
  ·obtain⟨sl,hsl⟩:=hs₁.2.2 b o e;exact⟨_,keep b _ hbx hsl⟩
 ·rw[Array.getElem?_setIfInBounds_self_of_lt hs3];rfl
def Bn(h:Nf)(x:MT)(vs:Array MS):Prop:=vs[1]?=some .none\/∃ T oT ts,vs[1]?=some (.ref T)/\T≠x/\h.get? T=some oT/\oT.data=.fields ts/\ts[3]?=some .none
theorem v6(hfr:A.frames=some (env::outer))(hl:s.heap.FunFrames base (env::outer))(hf:env.frame=some L)(he:s.heap.get? x=some oe)(hd:oe.data=.fields vs)(hH:Bn s.heap x vs)(h:∀ h',Noted ((env::outer).filterMap (·.frame)) x oe vs s.heap h'->Q () { s with heap:=h' }):
  MZ M A (Q8 (.ref x) env) (fun _ s'=>MZ M A (QF (.ref x) none) Q E s') E s:=by
 unfold Q8;simp only[hf];rcases hH with h1|⟨T,oT,ts,h1,hTx,hT,hTd,h3⟩
 ·have hsz:1 < vs.size:=(Array.getElem?_eq_some_iff.mp h1).1;refine MR (N3 he hd h1 ?_);rw[if_neg (by decide)]
  exact uA hfr hl hf he hd hsz fun h' N=>h h' ⟨fun b o hb hx _ e=>N.keep b o hb hx (fun T z=>by simp at z) e,N.slot,N.there,N.exc⟩
 ·have hsz:1 < vs.size:=(Array.getElem?_eq_some_iff.mp h1).1;have hs3:3 < ts.size:=(Array.getElem?_eq_some_iff.mp h3).1;refine MR (N3 he hd h1 ?_);rw[if_pos (show (Value.ref T != Value.none)=true from by simp)]
  refine MR (N3 hT hTd h3 ?_);rw[if_neg (by simp[Ov])]
  refine MR (OT hT hTd hs3 ?_);have hdT:=NT hTd (·.setIfInBounds 3 Value.none);have kT:∀ b o,b≠T->s.heap.get? b=some o->(s.heap.update T (NE (·.setIfInBounds 3 Value.none))).get? b=some o:=fun b o hb e=>(Ny _ _ (Ne.symm hb)).trans e;have hTT:=N9 (NE (·.setIfInBounds 3 Value.none)) hT (Ou hdT);have nf:∀ b,b∈(env::outer).filterMap (·.frame)->b≠T:=fun b hb z=>by
   obtain⟨_,o,ho,hnf⟩:=hl.mem hb;rw[z,hT]at ho;injection ho with ho;subst ho;exact hnf ts hTd
  have hl':(s.heap.update T (NE (·.setIfInBounds 3 Value.none))).FunFrames base (env::outer):=hl.of_keeps fun b o hb hnf=>⟨o,kT b o (fun z=>by rw[z,hT]at hb;injection hb with hb;subst hb;exact hnf ts hTd) hb,rfl⟩
  refine uA (s:={ s with heap:=s.heap.update T (NE (·.setIfInBounds 3 Value.none)) }) hfr hl' hf (kT x oe (Ne.symm hTx) he) hd hsz fun h' N=>h h' ⟨fun b o hb hx ht e=>N.keep b o hb hx (fun _ z=>by simp at z) (kT b o (ht T h1) e),fun b o hb e=>N.slot b o hb (kT b o (nf b hb) e),fun b o e=>?_,?_⟩
  ·by_cases hb:b=T
   ·exact N.there b _ (by rw[hb];exact hTT)
   ·exact N.there b o (kT b o hb e)
  ·obtain⟨T',oT',ts',q1,q2,q3⟩:=N.exc;exact⟨T',oT',ts',q1,le_trans (Qf (Heap.size_update ..).symm) q2,q3⟩
end
def Ml(n:Nat)(H:Hp)(h:Nf)(x C dx:MT):Prop:=n<=x/\H x=none/\∃ oe vs,h.get? x=some oe/\oe.cls=.ref C/\oe.dict=some dx/\oe.data=.fields vs/\
 (vs[1]?=some .none\/∃ T oT ts,vs[1]?=some (.ref T)/\T≠x/\n<=T/\H T=none/\h.get? T=some oT/\oT.data=.fields ts/\ts[3]?=some .none)
def wD(P:M9)(w:Ng):Dv:=fun outer H s E e s'=>∃ x C dx H',e=.ref x/\s'.os=s.os/\PM s'.gens/\Un (xG outer) [] H H' s.heap s'.heap/\l8 P w H' s'.heap/\Ml s.heap.objs.size H' s'.heap x C dx/\s.heap.get? dx=none/\E (.ref C) (some dx) H'
theorem lC{o:Obj}{vs:Array MS}{f:Array MS->Array MS}(hd:o.data=.fields vs):(o.mapFields f).dict=o.dict:=by
 obtain⟨c,d,dt,sl⟩:=o;obtain rfl:dt=.fields vs:=hd;rfl
section
variable{X:Cx}{pins:List (MT×Obj)}{σ:St}{H:Hp}{s:MU}{E:XK}{x C dx:MT}
theorem BR(hf:env.frame=some L)(h:b∈(env::outer).filterMap (·.frame)):b=L\/b∈xG outer:=by
 rw[Og,hf]at h;exact NH.mp h
theorem Inv.noted(I:Inv X pins σ H s)(N:Noted (xG X.stack) x oe vs s.heap h')(hn:n<=s.heap.objs.size)(h0:n<=x)(hx:H x=none)(he:s.heap.get? x=some oe)(hc:oe.cls=.ref C)(hdx:oe.dict=some dx)(hd:oe.data=.fields vs)(hsz:1 < vs.size)(hT:∀ T,vs[1]?=some (.ref T)->H T=none):l8 X.prog X.w H h'/\Ml n H h' x C dx:=by
 refine⟨fun b u e=>?_,h0,hx,?_⟩
 ·have un:∀ c v,H c=some v->c∉xG X.stack/\c≠x/\∀ T,vs[1]?=some (.ref T)->c≠T:=fun c v q=>
   ⟨(fun z=>by rw[I.stkFree c z]at q;cases q),(fun z=>by rw[z,hx]at q;cases q),(fun T t z=>by rw[z,hT T t]at q;cases q)⟩
  refine (I.hok b u e).stay (fun c v hc' q=>?_) (fun _ q=>q) fun _ _ q=>q;rcases hc' with z|z
  ·obtain⟨a1,a2,a3⟩:=un b u e;rw[z]at q ⊢;exact N.keep b v a1 a2 a3 q
  ·obtain⟨a1,a2,a3⟩:=un c _ z;exact N.keep c v a1 a2 a3 q
 ·obtain⟨T,oT,ts,q1,q2,q3,q4,q5,q6⟩:=N.exc;refine⟨_,_,q1,(PL _ _).trans hc,(lC hd).trans hdx,NT hd _,.inr ⟨T,oT,ts,by simp[hsz],q3,le_trans hn q2,I.hok.fresh q2,q4,q5,q6⟩⟩
theorem zA(I:Inv X pins σ H s)(hst:X.stack=X.env::X.outer)(hf:X.env.frame=some X.env.locals)(hex:X.ex=[])(F:Ml X.s₀.heap.objs.size H s.heap x C dx)(T7:X.s₀.heap.get? dx=none)(q:E (.ref C) (some dx) H):
  MZ (M0 X.prog X.w) X.A (Rn X.env (.ref x)) (fun _ s''=>wD X.prog X.w X.outer X.H₀ X.s₀ E (.ref x) s'') (fun e' s''=>wD X.prog X.w X.outer X.H₀ X.s₀ E e' s'') s:=by
 obtain⟨h0,hx,oe,vs,he,hc,hdx,hd,hh⟩:=F;have hsz:1 < vs.size:=by
  rcases hh with z|⟨T,_,_,z,_⟩
  ·exact (Array.getElem?_eq_some_iff.mp z).1
  ·exact (Array.getElem?_eq_some_iff.mp z).1
 have hH:Bn s.heap x vs:=by
  rcases hh with z|⟨T,oT,ts,z1,z2,z3,z4,z5,z6,z7⟩
  ·exact .inl z
  ·exact .inr ⟨T,oT,ts,z1,z2,z5,z6,z7⟩
 have hTn:∀ T,vs[1]?=some (.ref T)->X.s₀.heap.objs.size<=T/\H T=none:=fun T z=>by
  rcases hh with z1|⟨T',oT,ts,z1,z2,z3,z4,z5,z6,z7⟩
  ·rw[z1]at z;cases z
  ·rw[z1]at z;cases z;exact⟨z3,z4⟩
 have S5:=I.stack;rw[hst]at S5;unfold Rn;refine MR (v6 (base:=X.base) (by rw[I.ok.frames,hst]) S5 hf he hd hH fun h' N=>?_)
 have N':Noted (xG X.stack) x oe vs s.heap h':=by rw[hst];exact N
 obtain⟨hok,fly⟩:=I.noted N' I.sz h0 hx he hc hdx hd hsz fun T z=>(hTn T z).2;have hL:X.s₀.heap.objs.size<=X.env.locals:=I.ok.above;refine⟨x,C,dx,H,rfl,I.os,I.bare,⟨fun b o e n nf _=>?_,fun b o e n nf _=>?_,fun b o e n _=>I.base.free b o e n (by rw[hex];simp),fun b o e _=>?_,I.base.tups,I.base.frzs,I.base.tbls⟩,hok,fly,T7,q⟩
 ·have lt:b < X.s₀.heap.objs.size:=M4 e;refine N.keep b o (fun z=>?_) (fun z=>not_lt.mpr h0 (z ▸ lt)) (fun T z w=>not_lt.mpr (hTn T z).1 (w ▸ lt)) (I.base.keep b o e n nf (by rw[hex];simp))
  rcases BR hf z with z|z
  ·exact not_lt.mpr hL (z ▸ lt)
  ·exact nf z
 ·obtain⟨sl,e1⟩:=I.base.slot b o e n nf (by rw[hex];simp)
  obtain⟨sl',e2⟩:=N.slot b _ (by rw[Og,hf];exact M7 _ nf) e1
  exact⟨sl',e2⟩
 ·obtain⟨o',e1⟩:=I.base.there b o e (by rw[hex];simp)
  exact N.there b o' e1
theorem v4(hst:X.stack=X.env::X.outer)(hf:X.env.frame=some X.env.locals)(hex:X.ex=[])(hxe:X.xe=fun e s'=>MZ (M0 X.prog X.w) X.A (Rn X.env e) (fun _ s''=>wD X.prog X.w X.outer X.H₀ X.s₀ E e s'') (fun e' s''=>wD X.prog X.w X.outer X.H₀ X.s₀ E e' s'') s')(h:∀ c d H',E' c d H'->E c d H'):lO (wD X.prog X.w) X E':=fun pins σ H s e s' I q=>by
 obtain⟨x,C,dx,H',rfl,os,bare,un,hok,fly,hd0,q⟩:=q;have T7:X.s₀.heap.get? dx=none:=by
  cases z:X.s₀.heap.get? dx with
  | none=>rfl
  | some o=>
   obtain⟨o',z'⟩:=I.base.there dx o z (by rw[hex];simp)
   rw[hd0]at z';cases z'
 have J:Inv X pins σ H' s':=I.call' os un hok bare (fun b z=>absurd z (by simp))
 rw[hxe];obtain⟨h0,hx,oe,vs,he,hc,hdx,hd,hh⟩:=fly;have sz:=I.sz;refine zA J hst hf hex ⟨le_trans sz h0,hx,oe,vs,he,hc,hdx,hd,?_⟩ T7 (h _ _ _ q);rcases hh with z|⟨T,oT,ts,z1,z2,z3,z4,z5,z6,z7⟩
 ·exact .inl z
 ·exact .inr ⟨T,oT,ts,z1,z2,le_trans sz z3,z4,z5,z6,z7⟩
end
open L3
def veMro:List MS:=[.type "ValueError",.type "Exception",.type "BaseException",.type "object"]
structure XMk(K:Po)(C f:MT)(a:Str):Prop where
 obj:∃ nm q N bs bm hdct sn sub ab col dd k0 k1 k2 k3 k5,K.lookup C=some (RJ nm q C N bs bm hdct sn sub ab col dd k0 k1 k2 k3 k5 "ValueError.__new__")/\tailIn K veMro bm=true/\bm.contains (.type "BaseException")=true
 init:Qt K (.ref C) "__init__"=some (some (.ref f))
 fn:UM K (.ref f)=some (.type "function")
 kp:Ro K (.ref C)=true
 sa:Qt K (.ref C) "__setattr__"=some (some (.builtin "object.__setattr__"))
 cls:∃ cd,UP K C=some cd/\cd.hasDict=true/\(∀ x,PySem.refuseLoop (.ref x) "__setattr__" cd.mro=pure ())/\cd.mro.contains (.type "object")=true/\cd.mro.isEmpty=false
 tk:UI K C a=some none
abbrev jG(C t dx:MT):Obj:={ cls:=.ref C,dict:=some dx,data:=.fields #[.ref t,.none,.none,.none,.bool false,.none] }
def iO(H:Hp)(a:MT):Hp:=fun b=>if b=a then none else H b
theorem lZ:iO H a a=none:=by unfold iO;rw[if_pos rfl]
theorem cg(h:b≠a):iO H a b=H b:=by unfold iO;rw[if_neg h]
section
variable{X:Cx}{pins:List (MT×Obj)}{σ:St}{H:Hp}{s:MU}
theorem Inv.drop(I:Inv X pins σ H s)(e:H x=some (.ext φ))(hn:X.s₀.heap.objs.size<=x):Inv X pins σ (iO H x) s:=by
 have non:∀ b,H b=none->iO H x b=none:=fun b q=>by unfold iO;split;rfl;exact q
 refine⟨I.ok,I.os,I.bare,⟨I.base.keep,I.base.slot,fun b o q n z=>non b (I.base.free b o q n z),I.base.there,fun b xs q=>?_,fun b o u q=>?_,fun b ps q=>?_⟩,I.loc,I.cell,non _ I.free,fun y c q=>non c (I.freeC y c q),fun p hp=>?_,fun b u q=>?_,I.len⟩
 ·have:=I.base.tups b xs q;rw[cg (fun z=>by rw[z,e]at this;cases this)];exact this
 ·have:=I.base.frzs b o u q;rw[cg (fun z=>by rw[z,e]at this;cases this)];exact this
 ·obtain⟨more,this⟩:=I.base.tbls b ps q;exact⟨more,by rw[cg (fun z=>by rw[z,e]at this;cases this)];exact this⟩
 ·obtain⟨a,b,c⟩:=I.pin p hp;exact⟨a,non _ b,c⟩
 ·have hb:b≠x:=fun z=>by rw[z,lZ]at q;cases q
  rw[cg hb]at q;refine (I.hok b u q).stay (fun _ _ _ z=>z) (fun c z=>?_) fun c ys z=>?_
  ·rw[cg (fun y=>by rw[y,e]at z;cases z)];exact z
  ·rw[cg (fun y=>by rw[y,e]at z;cases z)];exact z
theorem Inv.xset(M:XMk X.K C f a)(I:Inv X pins σ H s)(e:H x=some (XO x (jH C t)))(r:aH v u)(h:∀ dx s',H dx=none->dx≠x->Inv X pins σ (aR (aR H dx (.xd [(a,v)])) x (XO x (jG C t dx))) s'->Q () s'):MZ (M0 X.prog X.w) X.A (Si (.ref x) a u) Q E s:=by
 obtain⟨cd,c1,c2,c3,c4,c5⟩:=M.cls;have hx:=lH I e;refine L3.set_exc I.kIn hx rfl rfl rfl M.sa c1 c2 (c3 x) c4 c5 M.tk fun h' tk g1 g2 g3=>?_;have fr:H s.heap.objs.size=none:=I.hok.fresh (le_refl _);have lx:x < s.heap.objs.size:=M4 hx;have nx:s.heap.objs.size≠x:=Ps lx;refine h s.heap.objs.size _ fr nx (I.un (h':=h') (t':=tk) ⟨fun b o q n _ _=>?_,fun b o q n _ _=>?_,fun b o q n _=>?_,fun b o q _=>?_,fun b xs q=>?_,fun b o w q=>?_,fun b ps q=>?_⟩ fun b w q=>?_)
 ·exact g3 b o (fun z=>by rw[z,e]at n;cases n) q
 ·exact⟨o.slots,g3 b o (fun z=>by rw[z,e]at n;cases n) q⟩
 ·rw[ar (fun z=>by rw[z,e]at n;cases n),ar (fun z=>Nat.lt_irrefl _ (z ▸ (M4 q:b < _)))];exact n
 ·by_cases hb:b=x
  ·exact⟨_,by rw[hb];exact g1⟩
  ·exact⟨o,g3 b o hb q⟩
 ·rw[ar (fun z=>by rw[z,e]at q;cases q),ar (fun z=>by rw[z,fr]at q;cases q)];exact q
 ·rw[ar (fun z=>by rw[z,e]at q;cases q),ar (fun z=>by rw[z,fr]at q;cases q)];exact q
 ·exact⟨#[],by rw[ar (fun z=>by rw[z,e]at q;cases q),ar (fun z=>by rw[z,fr]at q;cases q)];simpa using q⟩
 ·by_cases hb:b=x
  ·subst hb;rw[aF]at q;cases q;exact Dx g1
  ·rw[ar hb]at q
   by_cases hb2:b=s.heap.objs.size
   ·subst hb2;rw[aF]at q;cases q;refine⟨_,g2,fun f=>?_⟩
    by_cases hf:f=a
    ·subst hf;simp only[List.lookup,beq_self_eq_true,if_true];exact r
    ·have:(f == a)=false:=by simpa using hf
     simp only[List.lookup,this,if_neg hf];trivial
   ·rw[ar hb2]at q;refine (I.hok b w q).stay (fun c o hc z=>g3 c o (fun y=>?_) z) (fun c z=>?_) fun c ys z=>?_
    ·rcases hc with w'|w'
     ·exact hb (w' ▸ y)
     ·rw[y,e]at w';cases w'
    ·rw[ar (fun y=>by rw[y,e]at z;cases z),ar (fun y=>by rw[y,fr]at z;cases z)];exact z
    ·rw[ar (fun y=>by rw[y,e]at z;cases z),ar (fun y=>by rw[y,fr]at z;cases z)];exact z
end
section
variable{X:Cx}{C f:MT}{a:Str}
def JY(C:MT)(a:Str)(to tv:TE):TS:=fun D σ H=>tv σ H fun v H1=>to σ H1 fun y H2=>∃ x t,y=.ref x/\H2 x=some (XO x (jH C t))/\∀ dx,H2 dx=none->dx≠x->D.nx σ (aR (aR H2 dx (.xd [(a,v)])) x (XO x (jG C t dx)))
theorem Gb(M:XMk X.K C f a)(ho:PE X o to)(hv:PE X value tv)(hs:Ob value (some (.Attribute o a pos')) pos.line X.env=pure false:=by rfl):PS X (.Assign [.Attribute o a pos'] value pos) (JY C a to tv):=by
 intro pins s σ H D I h;refine QC (bZ (hv pins s σ H _ I h) fun u s1 zz=>?_) hs;obtain⟨y,H1,I1,ry,q⟩:=zz;refine bZ (ho pins s1 σ H1 _ I1 q) fun ov s2 zz=>?_;obtain⟨y2,H2,I2,rx,q2⟩:=zz;obtain⟨x,t,ex,ea,q3⟩:=q2;subst ex;obtain rfl:ov=Value.ref x:=rx;exact I2.xset M ea ry fun dx s3 n1 n2 I3=>⟨σ,_,I3,q3 dx n1 n2⟩
def sI(C:MT)(a:Str):Sp:=fun vs H Q _=>∃ x v t,vs=[.ref x,v]/\H x=some (XO x (jH C t))/\∀ dx,H dx=none->dx≠x->Q .non (aR (aR H dx (.xd [(a,v)])) x (XO x (jG C t dx)))
theorem F2{pins:List (MT×Obj)}{σ:St}{H:Hp}{s:MU}{v:V}{u:MS}{R:MS->MU->Prop}{fd:N4}{ps:List Str}{k:Nat}(M:XMk X.K C f a)(F:FnOk X.prog X.w X.K X.mg X.base pJ k f fd ps (sI C a))(hr:Room (k+1) X.A)(hb:eJ X.K fd ps [])
  (I:Inv X pins σ H s) (r:aH v u) (h:∀ x t dx s',X.s₀.heap.objs.size<=x->H dx=none->H x=none->dx≠x->s.heap.get? dx=none->Inv X pins σ (aR H dx (.xd [(a,v)])) s'->s'.heap.get? x=some (jG C t dx)->R (.ref x) s'):
  MZ (M0 X.prog X.w) X.A (call (.ref C) [u]) R X.xe s:=by
 obtain⟨nm,q,N,bs,bm,hdct,sn,sub,ab,col,dd,k0,k1,k2,k3,k5,lk,tl,Sz⟩:=M.obj;have fx:H (s.heap.objs.size+1)=none:=I.hok.fresh (QA _);have I1:Inv X pins σ H { s with heap:=s.heap.push { cls:=.type "tuple",data:=.seq #[u] },toks:=s.toks }:=I.kept fun b o e=>MX _ e
 have sz:(s.heap.push { cls:=.type "tuple",data:=.seq #[u] }).objs.size=s.heap.objs.size+1:=N8 ..;have I2:Inv X pins σ (aR H (s.heap.objs.size+1) (XO (s.heap.objs.size+1) (jH C s.heap.objs.size))) { s with heap:=gR s.heap C [u],toks:=s.toks }:=qz (s:={ s with heap:=s.heap.push { cls:=.type "tuple",data:=.seq #[u] },toks:=s.toks }) I1 sz rfl
 have r2:Vals [V.ref (s.heap.objs.size+1),v] [Value.ref (s.heap.objs.size+1),u]:=.cons rfl (.cons r .nil);have sp0:sI C a [V.ref (s.heap.objs.size+1),v] (aR H (s.heap.objs.size+1) (XO (s.heap.objs.size+1) (jH C s.heap.objs.size))) (fun v' H'=>v'=.non/\∃ dx,H dx=none/\dx≠s.heap.objs.size+1/\H'=aR (aR (aR H (s.heap.objs.size+1) (XO (s.heap.objs.size+1) (jH C s.heap.objs.size))) dx (.xd [(a,v)])) (s.heap.objs.size+1) (XO (s.heap.objs.size+1) (jG C s.heap.objs.size dx))) E0:=
  ⟨_,v,_,rfl,aF,fun dx n1 n2=>⟨rfl,dx,by rw[ar n2]at n1;exact n1,n2,rfl⟩⟩
 have hl:([Value.ref (s.heap.objs.size+1),u] ++ []).length=ps.length:=(F.len _ _ _ _ sp0);obtain⟨hp,g,d,tk,os⟩:=s;refine Pg (GV PySem.F.excBase_ValueError (PySem.W.tail_of_in I.kIn tl) (I.kIn _ _ lk) I.kIn M.init M.fn (by show 1<=M1;decide) (Oy (F.run _ X.stack _ _ ⟨[.ref (hp.objs.size+1),u],[]⟩ [.ref (hp.objs.size+1),u] _ _ E0 (hr.make C [u] []) (I2.env0.make C [u] []) (hb _ [.ref (hp.objs.size+1),u] I2.kIn hl) r2 sp0) fun r s' hq'=>?_))
 cases r with
 | error e=>exact False.elim hq'
 | ok fl=>
  cases fl with
  | ret u'=>
   obtain⟨v',H',os1,bare1,un,hok,rv,⟨ev,dx,n1,n2,eH⟩⟩:=hq';have I3:=I2.call' os1 un hok bare1 (fun b z=>absurd z (by simp))
   have n0:hp.get? dx=none:=by
    cases z:hp.get? dx with
    | none=>rfl
    | some o=>
     have z1:=un.free dx o (MX _ (MX _ z)) (by rw[ar n2];exact n1) (by simp)
     rw[eH,ar n2,aF]at z1;cases z1
   subst ev eH;have hx:=lH I3 aF;have I4:=I3.drop (x:=hp.objs.size+1) aF (le_trans I.sz (QA _));have eq:iO (aR (aR (aR H (hp.objs.size+1) (XO (hp.objs.size+1) (jH C hp.objs.size))) dx (.xd [(a,v)])) (hp.objs.size+1) (XO (hp.objs.size+1) (jG C hp.objs.size dx))) (hp.objs.size+1)=aR H dx (.xd [(a,v)]):=by
    funext b
    by_cases hb1:b=hp.objs.size+1
    ·rw[hb1,lZ,ar (Ne.symm n2)];exact fx.symm
    ·rw[cg hb1,ar hb1]
     by_cases hb2:b=dx
     ·rw[hb2,aF,aF]
     ·rw[ar hb2,ar hb2,ar hb1]
   rw[eq]at I4;exact⟨rv,h _ _ dx _ (le_trans I.sz (QA _)) n1 fx n2 n0 I4 hx⟩
  | next=>exact False.elim hq'
  | brk=>exact False.elim hq'
  | cont=>exact False.elim hq'
def Ij(t:TA)(Ex:V->Hp->Prop):TS:=fun _ σ H=>t σ H fun vs H1=>∃ v,vs=[v]/\Ex v H1
theorem Em{nm:Str}{e:Nh}{t:TA}{Ex:V->Hp->Prop}{p pos SN:Pos}{fd:N4}{ps:List Str}{k:Nat}(M:XMk X.K C f a)(F:FnOk X.prog X.w X.K X.mg X.base pJ k f fd ps (sI C a))(hr:Room (k+1) X.A)(hb:eJ X.K fd ps [])(hc:X.calm=true)(hex:X.ex=[])(hg:Gl X nm)(hm:X.mg nm=some (.ref C))(ha:PA X [e] t)
  (hX:∀ pins σ H s x t' dx v,Inv X pins σ (aR H dx (.xd [(a,v)])) s->H dx=none->H x=none->X.s₀.heap.objs.size<=x->dx≠x->X.s₀.heap.get? dx=none->s.heap.get? x=some (jG C t' dx)->Ex v H->X.xe (.ref x) s)
  (hdb:(nm == ("__debug__":Str))=false:=by decide) (he:M5 [e] X.env=(false,eval e X.env)::M5 [] X.env:=by rfl) (hpl:(NZ pos (M5 [] X.env)).any (·.1)=false:=by rfl):
  PS X (.Raise (some (.Call (.Name nm p) [e] [] pos)) none SN) (Ij t Ex):=by
 intro pins s σ H D I h;obtain⟨nm',q,N,bs,bm,hdct,sn,sub,ab,col,dd,k0,k1,k2,k3,k5,lk,tl,Sz⟩:=M.obj;rw[arm_exec_Raise];refine MR (Pj ?_);refine Cr (nm:=nm') (q:=q) (C:=C) (N:=N) (bs:=bs) (bm:=bm) (hdct:=hdct) (sn:=sn) (sub:=sub) (ab:=ab) (col:=col) (dd:=dd) (k0:=k0) (k1:=k1) (k2:=k2) (k3:=k3) (k5:=k5) (newId:="ValueError.__new__") Sz (I.ok.hd hc) ?_;refine MR ?_;refine OI (jE I hg hm ?_ hdb);refine Pu (h₀:=X.base) I.ok.mod.kin M.kp (bZ (ha pos pins s σ H _ I h) fun us s1 ⟨vs,H1,I1,r,q1⟩=>⟨I1.kIn,?_⟩) he hpl;obtain⟨v,rfl,q1⟩:=q1;cases r with
 | cons r rr=>
  cases rr;refine F2 M F hr hb I1 r fun x t' dx s' n0 n1 n2 n3 n4 I2 hx=>?_;have n5:X.s₀.heap.get? dx=none:=by
   cases z:X.s₀.heap.get? dx with
   | none=>rfl
   | some o=>
    obtain⟨o',z'⟩:=I1.base.there dx o z (by rw[hex];simp)
    rw[n4]at z';cases z'
  refine MR (Pj (MV ?_));exact⟨x,t',some dx,rfl,I2.kIn _ _ lk,hx,hX _ _ _ _ _ _ _ _ I2 n1 n2 n0 n3 n5 hx q1⟩
end
open PySem.W
section
variable{prog:M9}{w:Ng}{A:Nb}{E:MS->MU->Prop}{s:MU}{K:Po}{x C:MT}{ox:Obj}{od:Option Obj}{name:Str}
structure XGet(K:Po)(C:MT):Prop where
 ga:Qt K (.ref C) "__getattribute__"=some (some (.builtin "BaseException.__getattribute__"))
 gt:Qt K (.ref C) "__getattr__"=some none
 be:mroIn K C (.type "BaseException")=some true
 hd:hasDictIn K C=true
theorem uK:plainId "BaseException.__getattribute__"=true:=by decide +kernel
theorem Cd(X:K.In s.heap)(G:XGet K C)(I:InstAt s.heap x ox C od)(hf:Sj K C od name=some (.value v))(h:R (.ok (.ret v)) s):
  Oz (M0 prog w) A (.call (.builtin "BaseException.__getattribute__") ⟨[.ref x,.str name tk],[]⟩) R s:=by
 obtain⟨hh,g,d,t,os⟩:=s;have hk:builtinKind "BaseException.__getattribute__"=some .slot:=by decide +kernel
 have SQ:splitId "BaseException.__getattribute__"=some ("BaseException","__getattribute__"):=by decide +kernel
 have L0:=I.type (M:=M0 prog w);have isB:QO (M0 prog w) hh (Qs (.ref x) (.type "BaseException")) true:=L0.andThen (RF X G.be);have L1:=looks_find (M:=M0 prog w) X I hf;refine Qi uK PySem.F.entry_bexc_ga (@R_ (M0 prog w) _ _ ⟨hh,g,d,t,os⟩ "BaseException.__getattribute__" "BaseException" "__getattribute__" (.ref x) [.str name tk] [] _ hk SQ isB (PySem.F.args_bexc_ga (.ref x) (.str name tk)) ?_);refine MR (MV ?_);refine MR (MV ?_);refine MR (L0.at (MR (L1.at ?_)));exact MV h
theorem An(X:K.In s.heap)(G:XGet K C)(I:InstAt s.heap x ox C od)(hf:Sj K C od name=some (.bind g a))(h:MZ (M0 prog w) A.in1 (call g [a,.ref x,.ref C]) (fun v s'=>R (.ok (.ret v)) s') (fun e s'=>R (.error e) s') s):
  Oz (M0 prog w) A (.call (.builtin "BaseException.__getattribute__") ⟨[.ref x,.str name tk],[]⟩) R s:=by
 obtain⟨hh,gg,d,t,os⟩:=s;have hk:builtinKind "BaseException.__getattribute__"=some .slot:=by decide +kernel
 have SQ:splitId "BaseException.__getattribute__"=some ("BaseException","__getattribute__"):=by decide +kernel
 have L0:=I.type (M:=M0 prog w);have isB:QO (M0 prog w) hh (Qs (.ref x) (.type "BaseException")) true:=L0.andThen (RF X G.be);have L1:=looks_find (M:=M0 prog w) X I hf;refine Qi uK PySem.F.entry_bexc_ga (@R_ (M0 prog w) _ _ ⟨hh,gg,d,t,os⟩ "BaseException.__getattribute__" "BaseException" "__getattribute__" (.ref x) [.str name tk] [] _ hk SQ isB (PySem.F.args_bexc_ga (.ref x) (.str name tk)) ?_);refine MR (MV ?_);refine MR (MV ?_);refine MR (L0.at (MR (L1.at ?_)));show MZ _ _ (holding [a] (call g [a,.ref x,.ref C]) >>= ret) _ _ _
 exact MR (Nz (Nn h (fun v s' z=>MV z) fun _ _ z=>z))
theorem Dk(o:MS):bindSpecial (.builtin "BaseException.__getattribute__") o=pure (.builtin "BaseException.__getattribute__",[o]):=by kernel_rfl
theorem Bu{tk:Tok}{fill expr:Bool}{Q:MS->MU->Prop}(X:K.In s.heap)(G:XGet K C)(I:InstAt s.heap x ox C od)
  (h:Oz (M0 prog w) A (.call (.builtin "BaseException.__getattribute__") ⟨[.ref x,.str name tk],[]⟩) (fun r s'=>match r with|.ok (.ret v)=>MZ (M0 prog w) A (handedOut v) Q E s'|_=>False) s):
  MZ (M0 prog w) A (getAttrBy (.ref x) (.str name tk) fill expr) Q E s:=by
 obtain⟨hh,gg,d,t,os⟩:=s;have L0:=I.type (M:=M0 prog w);have L1:=Qz (M:=M0 prog w) X G.ga;have L2:=Qz (M:=M0 prog w) X G.gt;have hx2:(Value.builtin "BaseException.__getattribute__" == Value.builtin "object.__getattribute__")=false:=by decide +kernel
 unfold getAttrBy;refine Nz (MR (L0.at (MR (L1.at ?_))));dsimp only;rw[if_neg (by rw[hx2,Bool.and_false];decide)]
 unfold getAttrByItsOwn hookBefore;rw[if_pos (show onTheHeap (Value.ref C)=true from rfl)]
 refine MR (L2.at ?_);unfold callGetattribute;rw[if_neg (by cases expr<;>decide)]
 refine MR (OB (Nz ?_));unfold boundAndCalled;rw[Dk];refine MR (MV (Pg (Oy h fun r s' z=>?_)));rcases r with e|(v|_|_|_)<;>first|exact z|exact z.elim
theorem Lq(X:K.In s.heap)(G:XGet K C)(I:InstAt s.heap x ox C od)(hf:Sj K C od name=some (.value v))(hv:handedIn v=true)(h:Q v { s with toks:=s.toks+1 }):
  MZ (M0 prog w) A (Rq (.ref x) name expr) Q E s:=by
 unfold Rq;refine MR (wpAny_mkText ?_);refine Bu (s:={ s with toks:=s.toks+1 }) X G I (Cd (s:={ s with toks:=s.toks+1 }) X G I hf ?_)
 show MZ _ _ (handedOut v) _ _ _
 rw[handedOut_of hv];exact MV h
theorem HZ{od:Obj}{Q:Option MS->MU->Prop}(X:K.In s.heap)(G:XGet K C)(I:InstAt s.heap x ox C (some od))(ha:Qt K (.ref C) "__class__"=some (some (.builtin "object.__class__")))
  (hn:QE K (.builtin "object.__class__") "__get__"=some (some (.builtin "getset_descriptor.__get__"))) (htk:takesIn K (.builtin "object.__class__")=some true) (hm:mroIn K C (.type "object")=some true)
  (h:Q (some (.ref C)) { s with toks:=s.toks+1 }):MZ (M0 prog w) A (PU (.ref x) "__class__") Q E s:=by
 have hf:Sj K C (some od) "__class__"=some (.bind (.builtin "getset_descriptor.__get__") (.builtin "object.__class__")):=findObj_data (by obtain⟨cd,hc,_⟩:=any_some G.hd;rw[hc];rfl) ha hn htk
 unfold PU R7;refine MR (wpAny_mkText ?_);refine MR (OB (Bu (s:={ s with toks:=s.toks+1 }) X G I (An (s:={ s with toks:=s.toks+1 }) X G I hf ?_)))
 refine Pg (class_get (s:={ s with toks:=s.toks+1 }) (ox:=ox) (od:=some od) X I hm ?_)
 show MZ _ _ (handedOut (.ref C)) _ _ _
 rw[handedOut_of rfl];exact MV (MV h)
theorem EY{od:Obj}(G:XGet K C)(ha:Qt K (.ref C) "__class__"=some (some (.builtin "object.__class__")))
  (hn:QE K (.builtin "object.__class__") "__get__"=some (some (.builtin "getset_descriptor.__get__"))) (htk:takesIn K (.builtin "object.__class__")=some true) (hm:mroIn K C (.type "object")=some true):
  KitX K (.ref x) (.ref C) (fun h=>InstAt h x ox C (some od)) where
 ty:=fun _ _ _ I=>I.type
 it:=fun _ _ X _=>by
  obtain⟨cdD,hcD,_⟩:=any_some G.hd;unfold clsIn at hcD;split at hcD
  ·rename_i c' d' cd' sl' ho;intro A' Q' E' s' k q;unfold isType loadHead;exact MR (QW (k _ _ (X _ _ ho)) (MV q))
  ·cases hcD
 ne:=fun h tp dd its n sl X htp=>by
  obtain⟨cdD,hcD,_⟩:=any_some G.hd;refine Bool.eq_false_iff.mpr fun q=>?_;have e:C=tp:=Value.ref.inj (beq_iff_eq.mp q);subst e;unfold clsIn at hcD;split at hcD
  ·rename_i c' d' cd' sl' ho;have z:=(X _ _ ho).symm.trans htp;cases z
  ·cases hcD
 ca:=fun X I k=>HZ X G I ha hn htk hm k
end
section
variable{X:Cx}{pins:List (MT×Obj)}{σ:St}{H:Hp}{s:MU}
theorem Cf(I:Inv X pins σ H s)(hN:X.N.Nodup)(hi:X.N[i]?=some n)(hk:X.env.scope.names.lookup n=some .local)(hv:σ[i]?=some (some v))(h:∀ s',Inv X pins (σ.set i none) H s'->Q () s'):MZ (M0 X.prog X.w) A (unbindName X.env n) Q E s:=by
 obtain⟨m,hn,hl⟩:=id I.loc;have T9:(X.env.scope.kind == .class || (X.env.scope.kind == .module && X.env.locals != X.env.globals))=false:=by rw[I.ok.kind];rfl
 have hiσ:i < σ.length:=by rw[I.len];exact (List.getElem?_eq_some_iff.mp hi).1
 have cne:=I.cne;obtain⟨u,ru,q⟩:=hl i n v hi hv (.inl hk);have hm:m n=some u:=by
  rcases q with ⟨_,q⟩|⟨k,_⟩
  ·exact q
  ·have hk':X.env.kindOf n=some .local:=hk;rcases k with k|k<;>(rw[hk']at k;cases k)
 refine wpAny_unbindName_local hk hn hm T9 fun h' u' hn' hs=>?_;obtain⟨oL,_,_,hoL,_⟩:=id hn;have tracked:l8 X.prog X.w H h':=fun b ob e=>by
  refine (I.hok b ob e).stay (fun c w' hc q=>(hs.2 c ?_).trans q) (fun _ q=>q) fun _ _ q=>q
  rintro rfl
  rcases hc with z|hc
  ·rw[<- z,I.free]at e;cases e
  ·rw[I.free]at hc;cases hc
 refine h _ ⟨I.ok,I.os,I.bare,⟨fun b o e n hb hx=>?_,fun b o e n hb hx=>?_,I.base.free,fun b o e hx=>?_,I.base.tups,I.base.frzs,I.base.tbls⟩,⟨_,hn',fun j y v' e1 e2 e3=>?_⟩,fun y c e=>?_,I.free,I.freeC,fun p hp=>?_,tracked,by simpa using I.len⟩
 ·exact (hs.2 b (Np (Nl (M4 e) I.ok.above))).trans (I.base.keep b o e n hb hx)
 ·obtain⟨sl,e1⟩:=I.base.slot b o e n hb hx;exact⟨sl,(hs.2 b (Np (Nl (M4 e) I.ok.above))).trans e1⟩
 ·obtain⟨o',e1⟩:=I.base.there b o e hx;exact⟨o',(hs.2 b (Np (Nl (M4 e) I.ok.above))).trans e1⟩
 ·by_cases hj:j=i
  ·subst hj;rw[Oj hiσ]at e2;cases e2
  ·rw[Ox (Ne.symm hj)]at e2;obtain⟨u',r',q⟩:=hl j y v' e1 e2 e3;refine⟨u',r',?_⟩;rcases q with ⟨k,e⟩|⟨k,c,e,z⟩
   ·refine .inl ⟨k,?_⟩;have:y≠n:=fun e=>hj (tQ hN e1 (e ▸ hi));simp[this,e]
   ·exact .inr ⟨k,c,e,z.sameBut hs (cne y c e)⟩
 ·obtain⟨w',z⟩:=I.cell y c e;exact⟨w',z.sameBut hs (cne y c e)⟩
 ·obtain⟨e,n,ne,nf,d⟩:=I.pin p hp;exact⟨(hs.2 p.1 ne).trans e,n,ne,nf,d⟩
abbrev wf(X:Cx)(x:MT)(o:Obj):Cx:={ X with A:=X.A.mark (some (.ref x)),calm:=false,pn:=(x,o)::X.pn,xe:=fun _ _=>False }
theorem Inv.toH(I:Inv X pins σ H s)(hx:s.heap.get? x=some o)(hn:H x=none)(hl:x≠X.env.locals)(hf:x∉X.fs)(hc:∀ v,o.data≠.cell v):Inv (wf X x o) pins σ H s:=
 ⟨⟨I.ok.mod,I.ok.kind,I.ok.glob,I.ok.blt,I.ok.above,I.ok.inj,I.ok.has,I.ok.cab,(fun z=>nomatch z),I.ok.frames,I.ok.stk,I.ok.exf,I.ok.bs,I.ok.bsz,I.ok.noex,I.ok.exfs,I.ok.funs,I.ok.frf⟩,
  I.os,I.bare,I.base,I.loc,I.cell,I.free,I.freeC,fun p hp=>by
   rcases NH.mp hp with z|z
   ·subst z;exact⟨hx,hn,hl,hf,hc⟩
   ·exact I.pin p z,I.hok,I.len⟩
theorem Inv.ofH(ok:X.Ok)(I:Inv (wf X x o) pins σ H s):Inv X pins σ H s:=
 ⟨ok,I.os,I.bare,I.base,I.loc,I.cell,I.free,I.freeC,fun p hp=>I.pin p (M7 _ hp),I.hok,I.len⟩
end
section
variable{prog:M9}{w:Ng}{A:Nb}{E:MS->MU->Prop}{s:MU}{env:Env}
theorem C5{e:MT}{t:Nh}{n:Str}{b₀:No}{SI:List No}{pos:Pos}{c8:List Pm}{Q:Flow->MU->Prop}
  (h:MZ (M0 prog w) (A.mark (some (.ref e))) (eval t env) (fun c s₁=>MZ (M0 prog w) (A.mark (some (.ref e))) (excMatches (.ref e) c) (fun b s₂=>b=true/\
   MZ (M0 prog w) (A.mark (some (.ref e))) (QF (.ref e) none) (fun _ s₃=>MZ (M0 prog w) (A.mark (some (.ref e))) (storeName env n (.ref e)) (fun _ s₄=>
    MZ (M0 prog w) (A.mark (some (.ref e))) (execs (b₀::SI) env) (fun f s₅=>MZ (M0 prog w) A (do bindName env n .none;Qe env n pos) (fun _ s₆=>Q f s₆) E s₅) (fun _ _=>False) s₄) (fun _ _=>False) s₃) (fun _ _=>False) s₂) (fun _ _=>False) s₁) (fun _ _=>False) s):
  MZ (M0 prog w) A (handleBy (.ref e) env (.ExceptHandler (some t) (some n) (b₀::SI) pos::c8)) Q E s:=by
 refine RT (RA (Nn h (fun c s₁ h₁=>Nn h₁ (fun b s₂ h₂=>?_) fun _ _ z=>z.elim) fun _ _ z=>z.elim)) (by intro q;cases q)
 obtain⟨rfl,h₂⟩:=h₂;exact codeAny_handlers_suite_as (Nn h₂ (fun _ s₃ h₃=>Nn h₃ (fun _ s₄ h₄=>Nn h₄ (fun f s₅ h₅=>h₅) fun _ _ z=>z.elim) fun _ _ z=>z.elim) fun _ _ z=>z.elim)
end
section
variable{X:Cx}{pins:List (MT×Obj)}{σ:St}{H:Hp}{s:MU}
theorem Inv.rec_ne(I:Inv X pins σ H s)(e:s.heap.get? b=some o)(hd:o.data=.fields vs):b≠X.env.locals/\∀ y c,X.env.cells.lookup y=some c->c≠b:=by
 refine⟨fun z=>?_,fun y c q z=>?_⟩
 ·obtain⟨m,⟨oL,es,ep,hL,hLd,_⟩,_⟩:=I.loc;rw[z,hL]at e;cases e;rw[hLd]at hd;cases hd
 ·obtain⟨v,oc,hc,hcd⟩:=I.cell y c q;rw[z,e]at hc;cases hc;rw[hd]at hcd;cases hcd
theorem Inv.note(I:Inv X pins σ H s)(hst:X.stack=X.env::X.outer)(hf:X.env.frame=some X.env.locals)(N:Noted (xG X.stack) x oe vs s.heap h')(hok:l8 X.prog X.w H h')(he:s.heap.get? x=some oe)(hd:oe.data=.fields vs)(hn:X.s₀.heap.objs.size<=n)(h0:n<=x)(hp:∀ p∈X.pn ++ pins,p.1 < n)(hT:∀ T,vs[1]?=some (.ref T)->n<=T/\∃ oT ts,s.heap.get? T=some oT/\oT.data=.fields ts):Inv X pins σ H { s with heap:=h' }:=by
 obtain⟨x1,x2⟩:=I.rec_ne he hd;obtain⟨ch,hch⟩:∃ ch:List MT,∀ b,b∈ch↔b=x\/vs[1]?=some (.ref b):=by
  cases hv:vs[1]? with
  | none=>exact⟨[x],fun b=>by simp⟩
  | some v=>
   cases v with
   | ref T=>exact⟨[x,T],fun b=>by simp[eq_comm]⟩
   | _=>exact⟨[x],fun b=>by simp⟩
 have Ue:∀ b,b∉ch->b≠x/\∀ T,vs[1]?=some (.ref T)->b≠T:=fun b hb=>⟨fun z=>hb ((hch b).mpr (.inl z)),fun T t z=>hb ((hch b).mpr (.inr (z ▸ t)))⟩;have nst:∀ b,b≠X.env.locals->b∉X.fs->b∉xG X.stack:=fun b h1 h2 z=>by
  rw[hst]at z;rcases BR hf z with z|z
  ·exact h1 z
  ·exact h2 z
 refine I.step (g':=s.gens) (t':=s.toks) (d':=s.drawn) (ch:=ch) (fun b hb=>?_) (fun b o h1 h2 h3 e _=>N.keep b o (nst b h1 h2) (Ue b h3).1 (Ue b h3).2 e) (fun b o _ h2 _ e _=>N.slot b o (by rw[hst];show b∈(X.env::X.outer).filterMap _;rw[Og,hf];exact M7 _ h2) e) (fun _ _ _ _ z=>z) (fun b o _ e=>N.there b o e)
  (fun _ _ z=>z) (fun _ _ _ z=>z) (fun _ ps z=>⟨#[],by simpa using z⟩) (fun m hm=>?_) hok I.bare
 ·rcases (hch b).mp hb with z|z
  ·subst z;exact⟨.inr (le_trans hn h0),x1,x2,fun p q w=>not_lt.mpr h0 (w ▸ hp p q)⟩
  ·obtain⟨t1,oT,ts,t2,t3⟩:=hT b z;obtain⟨y1,y2⟩:=I.rec_ne t2 t3;exact⟨.inr (le_trans hn t1),y1,y2,fun p q w=>not_lt.mpr t1 (w ▸ hp p q)⟩
 ·obtain⟨o,es,ep,ho,r⟩:=hm;obtain⟨sl,e⟩:=N.slot _ o (by rw[hst];show X.env.locals∈(X.env::X.outer).filterMap _;rw[Og,hf];exact M_) ho
  exact⟨_,es,ep,e,r⟩
end
theorem EK(x:ba P w H h a o):∃ ob,h.get? a=some ob:=by
 cases o with
 | lst xs=>obtain⟨_,_,_,_,e⟩:=x;exact⟨_,e⟩
 | tup xs=>obtain⟨z,its,r,ob,e,c⟩:=x;exact⟨_,e⟩
 | dK kvs=>obtain⟨_,_,_,_,o,_,_,e,_⟩:=x;exact⟨_,e⟩
 | dT kvs=>obtain⟨_,_,_,_,o,_,_,e,_⟩:=x;exact⟨_,e⟩
 | set S n=>obtain⟨o,_,_,_,e,_⟩:=x;exact⟨_,e⟩
 | ins C dx fs=>obtain⟨_,_,_,e,_⟩:=x;exact⟨_,e⟩
 | own y=>obtain⟨_,e⟩:=x;exact⟨_,e⟩
 | xd fs=>obtain⟨_,⟨_,_,_,e,_⟩,_⟩:=x;exact⟨_,e⟩
 | rng lo hi=>obtain⟨_,_,_,e⟩:=x;exact⟨_,e⟩
 | frz ob u=>obtain⟨e,_⟩:=x;exact⟨_,e⟩
 | tbl ps=>exact⟨_,x⟩
 | met f y=>exact⟨_,x⟩
 | ext φ=>obtain⟨_,⟨_,e⟩,_⟩:=x;exact⟨_,e⟩
section
variable{X:Cx}{pins:List (MT×Obj)}{σ:St}{H:Hp}{s:MU}
theorem Inv.dropX(I:Inv X pins σ H s)(e:H x=some (.xd gs)):Inv X pins σ (iO H x) s:=by
 have non:∀ b,H b=none->iO H x b=none:=fun b q=>by unfold iO;split;rfl;exact q
 refine⟨I.ok,I.os,I.bare,⟨I.base.keep,I.base.slot,fun b o q n z=>non b (I.base.free b o q n z),I.base.there,fun b xs q=>?_,fun b o u q=>?_,fun b ps q=>?_⟩,I.loc,I.cell,non _ I.free,fun y c q=>non c (I.freeC y c q),fun p hp=>?_,fun b u q=>?_,I.len⟩
 ·have:=I.base.tups b xs q;rw[cg (fun z=>by rw[z,e]at this;cases this)];exact this
 ·have:=I.base.frzs b o u q;rw[cg (fun z=>by rw[z,e]at this;cases this)];exact this
 ·obtain⟨more,this⟩:=I.base.tbls b ps q;exact⟨more,by rw[cg (fun z=>by rw[z,e]at this;cases this)];exact this⟩
 ·obtain⟨a,b,c⟩:=I.pin p hp;exact⟨a,non _ b,c⟩
 ·have hb:b≠x:=fun z=>by rw[z,lZ]at q;cases q
  rw[cg hb]at q;refine (I.hok b u q).stay (fun _ _ _ z=>z) (fun c z=>?_) fun c ys z=>?_
  ·rw[cg (fun y=>by rw[y,e]at z;cases z)];exact z
  ·rw[cg (fun y=>by rw[y,e]at z;cases z)];exact z
abbrev uS(X:Cx)(dx:MT)(od:Obj):Cx:={ X with pn:=(dx,od)::X.pn }
theorem Inv.toP(I:Inv X pins σ H s)(hx:s.heap.get? dx=some od)(hn:H dx=none)(hl:dx≠X.env.locals)(hf:dx∉X.fs)(hc:∀ v,od.data≠.cell v):Inv (uS X dx od) pins σ H s:=
 ⟨⟨I.ok.mod,I.ok.kind,I.ok.glob,I.ok.blt,I.ok.above,I.ok.inj,I.ok.has,I.ok.cab,I.ok.hd,I.ok.frames,I.ok.stk,I.ok.exf,I.ok.bs,I.ok.bsz,I.ok.noex,I.ok.exfs,I.ok.funs,I.ok.frf⟩,
  I.os,I.bare,I.base,I.loc,I.cell,I.free,I.freeC,fun p hp=>by
   rcases NH.mp hp with z|z
   ·subst z;exact⟨hx,hn,hl,hf,hc⟩
   ·exact I.pin p z,I.hok,I.len⟩
theorem Inv.ofP(ok:X.Ok)(I:Inv (uS X dx od) pins σ H s):Inv X pins σ H s:=
 ⟨ok,I.os,I.bare,I.base,I.loc,I.cell,I.free,I.freeC,fun p hp=>I.pin p (M7 _ hp),I.hok,I.len⟩
end
structure XIs(C:MT)(o:Obj)(dx:MT)(od:Obj)(a:Str)(v:V):Prop where
 cls:o.cls=.ref C
 dict:o.dict=some dx
 data:∃ vs,o.data=.fields vs
 look:∃ u,lookIn a od=some (some u)/\aH v u
def Ends.un(i:Nat)(D:Ends):Ends:={ nx:=fun σ H=>D.nx (σ.set i none) H,rt:=D.rt,bk:=fun σ H=>D.bk (σ.set i none) H,ct:=fun σ H=>D.ct (σ.set i none) H }
end L2
namespace L3
open PySem PySem.Spec PyProof.Rows L2 PySem.W
abbrev XQ:=MT->Str->D->Gp->Prop
def Bp(K:Po)(G:Gp)(H:Hp)(EQ:XQ)(E:XK):Prop:=∀ C a d G' v dx H',EQ C a d G'->Kp G H G' H'->RG K H' G'->G' dx=none->H' dx=some (.xd [(a,v)])->RD K H' d v->E (.ref C) (some dx) H'
theorem Bp.base{K:Po}{G G1:Gp}{H H1:Hp}{EQ:XQ}{E:XK}(f:Bp K G H EQ E)(k:Kp G H G1 H1):Bp K G1 H1 EQ E:=fun C a d G' v dx H' q k'=>f C a d G' v dx H' q (k.trans k')
abbrev vG:=List D->Gp->jh->XQ->Prop
def jB(K:Po)(sp:vG):Sp:=fun vs H Q E=>∃ ds G Q3 EQ,RDs K H ds vs/\RG K H G/\sp ds G Q3 EQ/\r_ K G H Q3 Q/\Bp K G H EQ E
def d6(K:Po)(E:XK)(EQ:XQ)(t:bc):TS:=fun D τ H=>∃ σ G D3,RS K H σ τ/\RG K H G/\Bp K G H EQ E/\t D3 σ G/\EndsOk K G H D3 D
structure CtxW(X:Cx)(E:XK):Prop where
 st:X.stack=X.env::X.outer
 fr:X.env.frame=some X.env.locals
 ex:X.ex=[]
 calm:X.calm=true
 xe:X.xe=fun e s'=>MZ (M0 X.prog X.w) X.A (Rn X.env e) (fun _ s''=>wD X.prog X.w X.outer X.H₀ X.s₀ E e s'') (fun e' s''=>wD X.prog X.w X.outer X.H₀ X.s₀ E e' s'') s'
structure ErX(P:M9)(w:Ng)(K:Po)(mg:Str->Option MS)(base:Nf)(k:Nat)(x:Str)(C:MT)(a:Str):Prop where
 ex:∃ f fd ps,XMk K C f a/\mg x=some (.ref C)/\FnOk P w K mg base pJ k f fd ps (sI C a)/\eJ K fd ps []
def Az(C:MT)(a:Str)(ta:kK)(EQ:XQ):bc:=fun _ σ G=>ta σ G fun ds G1=>∃ d,ds=[d]/\EQ C a d G1
section
variable{X:Cx}{E:XK}{EQ:XQ}{st:No}{c8:List No}{t u:bc}{pos:Pos}
theorem vN(h:iJ X c8 (bN X.K t)):iJ X c8 (d6 X.K E EQ t):=h.imp fun D τ H z=>by
 obtain⟨σ,G,D3,rs,rg,_,h,k⟩:=z;exact⟨σ,G,D3,rs,rg,h,k⟩
theorem Bw(h1:PS X st (d6 X.K E EQ t)):iJ X [st] (d6 X.K E EQ t):=sh h1
theorem wF(h1:PS X st (d6 X.K E EQ t))(h2:iJ X c8 (d6 X.K E EQ u)):iJ X (st::c8) (d6 X.K E EQ (sSeq t u)):=(ze h1 h2).imp fun D τ H z=>by
 obtain⟨σ,G,D3,rs,rg,fx,h,k⟩:=z;exact⟨σ,G,{ D3 with nx:=u D3 },rs,rg,fx,h,⟨fun σ' G' τ' H' q k' rg' rs'=>⟨σ',G',D3,rs',rg',fx.base k',q,k.base k'⟩,k.rt,k.bk,k.ct⟩⟩
theorem Ls(hc:PT X c (b8 X.K tc))(ha:iJ X a (d6 X.K E EQ t))(hb:iJ X b (d6 X.K E EQ u)):PS X (.If c a b pos) (d6 X.K E EQ (il tc t u)):=
 (Eo hc ha hb).imp fun D τ H z=>by
  obtain⟨σ,G,D3,rs,rg,fx,h,k⟩:=z;refine⟨σ,G,_,rs,rg,h,fun b G' H' q k' rg'=>?_⟩;cases b with
  | true=>exact⟨σ,G',D3,rs.mono (k'.stb rg),rg',fx.base k',q,k.base k'⟩
  | false=>exact⟨σ,G',D3,rs.mono (k'.stb rg),rg',fx.base k',q,k.base k'⟩
theorem Bv{C:MT}{a nm:Str}{k:Nat}{e:Nh}{ta:kK}{p SN:Pos}(W:CtxW X E)(F:ErX X.prog X.w X.K X.mg X.base k nm C a)(hr:Room (k+1) X.A)(hg:Gl X nm)(ha:PA X [e] (dN X.K ta))
  (hdb:(nm == ("__debug__":Str))=false:=by decide) (he:M5 [e] X.env=(false,eval e X.env)::M5 [] X.env:=by rfl) (hpl:(NZ pos (M5 [] X.env)).any (·.1)=false:=by rfl):
  PS X (.Raise (some (.Call (.Name nm p) [e] [] pos)) none SN) (d6 X.K E EQ (Az C a ta EQ)):=by
 obtain⟨f,fd,ps,M,hm,F,hb⟩:=F.ex;refine (Em (Ex:=fun v H=>∃ d G,RD X.K H d v/\RG X.K H G/\EQ C a d G/\Bp X.K G H EQ E) M F hr hb W.calm W.ex hg hm ha (fun pins σ H s x t' dx v I n1 n2 n3 n4 n5 hx q=>?_) hdb he hpl).imp fun D τ H z=>?_
 ·obtain⟨d,G,rd,rg,q,fx⟩:=q;rw[W.xe];have lt:G dx=none:=rg.free n1;exact zA I W.st W.fr W.ex ⟨n3,by rw[ar (Ne.symm n4)];exact n2,_,_,hx,rfl,rfl,rfl,.inl rfl⟩ n5 (fx C a d G v dx _ q (Kp.laid n1) (rg.laid n1) lt aF (RD.mono ((Kp.laid (G:=G) n1).stb rg) _ _ rd))
 ·obtain⟨σ,G,D3,rs,rg,fx,h,k⟩:=z;refine⟨σ,G,_,rs,rg,h,fun ds G1 vs H1 q k1 rg1 rds=>?_⟩;obtain⟨d,rfl,q⟩:=q;obtain⟨v,rfl,rd⟩:=fk rds;exact⟨v,rfl,d,G1,rd,rg1,q,fx.base k1⟩
end
section
variable{P:M9}{w:Ng}{K:Po}{mg:Str->Option MS}{base:Nf}
theorem nM:CtxW (vC (wD P w) P w K mg base N qual scope f cd A outer s H E) E:=⟨rfl,rfl,rfl,rfl,rfl⟩
theorem Fun3.okX{x qual:Str}{st:No}{f:MT}{fd:N4}{N ps:List Str}{k:Nat}{sp:vG}(F:Fun3 K x qual st f fd)(S:FnScope N ps (ah st))(len:∀ ds G Q EQ,sp ds G Q EQ->ds.length=ps.length)
  (SH:∀ (cdv:MS) (A:Nb) (outer:List Env) (s:MU) (H:Hp) (E:XK) (EQ:XQ),Room k (A.deeper (Pd qual (ah st) s.heap.objs.size f cdv))->
   ∃ t:bc,iJ (vC (wD P w) P w K mg base N qual (ah st) f cdv A outer s H E) (cT st) (d6 K E EQ t)/\∀ ds G Q,sp ds G Q EQ->t { nx:=fun _ G'=>Q .non G',rt:=Q } (b7 N ds) G):FnOk P w K mg base (wD P w) (k+1) f fd ps (jB K sp):=by
 obtain⟨oc,od,dV,kV,doc,pm,an,cdv,ct,osl,rfl,lk,hcd⟩:=F.ex;refine Fg lk hcd S (fun vs H Q E z=>by obtain⟨ds,G,Q3,EQ,rds,rg,h,kk⟩:=z;rw[<- rds.length];exact len ds G Q3 EQ h) fun A outer s H vs Q E hr hsp=>?_
 obtain⟨ds,G,Q3,EQ,rds,rg,h,kk,fx⟩:=hsp;obtain⟨t,ht,hq⟩:=SH cdv A outer s H E EQ hr;refine⟨d6 K E EQ t,ht,b7 N ds,G,{ nx:=fun _ G'=>Q3 .non G',rt:=Q3 },yU rds,rg,fx,hq ds G Q3 h,⟨fun σ' G' τ' H' q k' rg' rs'=>kk _ G' _ H' q k' rg' (.of wX),kk,fun _ _ _ _ q=>q.elim,fun _ _ _ _ q=>q.elim⟩⟩
theorem B1{x qual:Str}{st:No}{f C:MT}{fd:N4}{a y z:Str}{p1 p2 p3 p4:Pos}(F:Fun3 K x qual st f fd)(S:FnScope [y,z] [y,z] (ah st))(M:XMk K C f a)(hb:cT st=[.Assign [.Attribute (.Name y p1) a p2] (.Name z p3) p4])
  (hy:JH (ah st) y) (hz:JH (ah st) z) (hd1:(y == ("__debug__":Str))=false:=by decide) (hd2:(z == ("__debug__":Str))=false:=by decide) (hc1:(y == ("__classdict__":Str))=false:=by decide) (hc2:(z == ("__classdict__":Str))=false:=by decide)
  (hs:∀ env,Ob (.Name z p3) (some (.Attribute (.Name y p1) a p2)) p4.line env=pure false:=by intro _;rfl):FnOk P w K mg base pJ 1 f fd [y,z] (sI C a):=by
 obtain⟨oc,od,dV,kV,doc,pm,an,cdv,ct,osl,rfl,lk,hcd⟩:=F.ex;refine Fg lk hcd S (fun vs H Q E q=>by obtain⟨x,v,t,rfl,_⟩:=q;rfl) fun A outer s H vs Q E hr hsp=>?_
 obtain⟨x,v,t,rfl,e,h⟩:=hsp;rw[hb];refine⟨_,sh (Gb M (tK (i:=0) rfl hy hd1 hc1) (tK (i:=1) rfl hz hd2 hc2) (hs _)),v,rfl,.ref x,rfl,x,t,rfl,e,h⟩
end
def Ends3.un(i:Nat)(D:Ends3):Ends3:={ nx:=fun σ G=>D.nx (σ.set i none) G,rt:=D.rt,bk:=fun σ G=>D.bk (σ.set i none) G,ct:=fun σ G=>D.ct (σ.set i none) G }
theorem By{K:Po}{H:Hp}{dx:MT}{gs:List (Str×V)}(e:H dx=some (.xd gs)):Stb K H (iO H dx) where
 t:=fun a xs q=>by
  rcases q with (q|⟨o,q⟩)|q
  ·exact .inl (.inl (by rw[cg (fun z=>by rw[z,e]at q;cases q)];exact q))
  ·exact .inl (.inr ⟨o,by rw[cg (fun z=>by rw[z,e]at q;cases q)];exact q⟩)
  ·exact .inr q
 l:=fun a xs q=>by
  rcases q with ⟨o,q⟩|q
  ·exact .inl ⟨o,by rw[cg (fun z=>by rw[z,e]at q;cases q)];exact q⟩
  ·exact .inr q
theorem RS.unset{K:Po}{H:Hp}:∀ {σ:dO} {τ:St} (i:Nat),RS K H σ τ->RS K H (σ.set i none) (τ.set i none)
 | _,_,_,.nil=>.nil
 | _,_,0,.cons _ t=>.cons (show Do K H none none from trivial) t
 | _,_,i+1,.cons r t=>.cons r (RS.unset i t)
section
variable{X:Cx}
structure XAsk(K:Po)(C:MT)(a:Str):Prop where
 g:XGet K C
 ca:Qt K (.ref C) "__class__"=some (some (.builtin "object.__class__"))
 gs:QE K (.builtin "object.__class__") "__get__"=some (some (.builtin "getset_descriptor.__get__"))
 tk:takesIn K (.builtin "object.__class__")=some true
 mo:mroIn K C (.type "object")=some true
 fa:Qt K (.ref C) a=some none
theorem B6:Of "ValueError"=some (.type "ValueError"):=by kernel_rfl
theorem qg(hg:Gl X nm)(hm:X.mg nm=some (.ref C))(hd:(nm == ("__debug__":Str))=false:=by decide):PE X (.Name nm pos) (aA X.K (eC (.ref C))):=xo (v:=.ref C) hg hm rfl (fun _=>by simp only[RD]) hd
def KQ:D->MS
 | .ref a=>.ref a
 | .ty n=>.type n
 | _=>.none
def vE(x:MT)(c:D)(b:Bool):Bk:=fun ds G Q=>ds=[.ref x,c]/\Q (.bl b) G
theorem yE{C x dx:MT}{o od:Obj}{a:Str}{v:V}{pins:List (MT×Obj)}{σ:St}{H:Hp}{s:MU}(hx:XIs C o dx od a v)(I:Inv (wf (uS X dx od) x o) pins σ H s):InstAt s.heap x o C (some od):=by
 have h1:=(I.pin (x,o) (by simp)).1
 have h2:=(I.pin (dx,od) (by simp)).1
 refine⟨h1,hx.cls,?_,?_⟩
 ·obtain⟨vs,e⟩:=hx.data;unfold notCls;rw[e]
 ·rw[hx.dict];exact h2
theorem rC(hx:XIs C o dx od a v)(A:XAsk X.K C a)(hc:(∃ y,c=.ref y)\/∃ n,c=.ty n)(e:kitOne X.K (.ref C) (KQ c)=some b):d9 (wf (uS X dx od) x o) (.builtin "isinstance") (mW X.K (vE x c b)):=by
 intro pins s σ H vs us Q I rv h;obtain⟨ds,G,Q3,rds,rg,⟨rfl,h⟩,kk⟩:=h;obtain⟨v1,t,e1,h1,h2⟩:=rds.inv_cons;obtain⟨u2,e2,h3⟩:=fk h2;simp only[RD]at h1;subst e1 e2 h1;obtain⟨u,w',rfl,ru,rw'⟩:=DE rv;cases ru;have eu:w'=KQ c:=by
  rcases hc with ⟨y,rfl⟩|⟨n,rfl⟩
  ·simp only[RD]at h3;subst h3;exact rw'
  ·simp only[RD]at h3;subst h3;exact rw'
 subst eu;exact kia_one (EY (ox:=o) (od:=od) A.g A.ca A.gs A.tk A.mo) I.kIn (yE hx I) e (fun z=>nomatch z) fun tk=>⟨.bl b,H,I.tok tk,rfl,kk _ G _ H h Kp.refl rg (.of ff)⟩
end
structure MtX(P:M9)(w:Ng)(K:Po)(mg:Str->Option MS)(base:Nf)(k:Nat)(C:MT)(m:Str)(sp:vG):Prop where
 cl:Cls K C
 ex:∃ f fd ps,FnOk P w K mg base (wD P w) k f fd ps (jB K sp)/\Meth K C m f/\eJ K fd ps []
def dX(C:MT)(L:List Str)(sp:vG)(to:aV)(ta:kK)(EQ:XQ):bc:=fun D σ G=>to σ G fun x G1=>match x with
 | .ref a=>match G1 a with
  | some (.ins C' L' _)=>(C'=C/\L'=L)/\ta σ G1 fun ds G2=>sp (.ref a::ds) G2 (fun _ G3=>D.nx σ G3) EQ
  | _=>False
 | _=>False
theorem wE{X:Cx}{E:XK}{EQ:XQ}{pl:Sem Bool}{L:List Str}{k:Nat}{C:MT}{m:Str}{sp:vG}{o e:Nh}{es:List Nh}{to:aV}{t:kK}{apos pos pos1:Pos}(W:CtxW X E)(F:MtX X.prog X.w X.K X.mg X.base k C m sp)(hL:m∉L)(hr:Room k X.A)(ho:PE X o (aA X.K to))(ha:PA X (e::es) (dN X.K t))
  (hst:M5 (e::es) X.env=(false,eval e X.env)::M5 es X.env:=by rfl) (hpl:(NZ pos (M5 es X.env)).any (·.1)=false:=by rfl)
  (ht:eval (.Call (.Attribute o m apos) (e::es) [] pos) X.env=(do
   let ov <- eval o X.env
   O2 apos.atName
   let (f,first) <- holding [ov] (OW ov m pl)
   Pw pos f first (NZ pos (M5 (e::es) X.env)) (O0 pos (Oo [] X.env))):=by rfl) (hs:Ob (.Call (.Attribute o m apos) (e::es) [] pos) none pos1.line X.env=pure false:=by rfl):
  PS X (.Expr (.Call (.Attribute o m apos) (e::es) [] pos) pos1) (d6 X.K E EQ (dX C L sp to t EQ)):=by
 obtain⟨f,fd,ps,ok,hm,hb⟩:=F.ex;refine (BF (xk (dvs:=[]) (ds:=[]) ho F.cl hm ok hr hb .nil (v4 (E:=E) (E':=E) W.st W.fr W.ex W.xe fun _ _ _ z=>z) ha hst hpl ht) hs).imp fun D τ H z=>?_;obtain⟨σ,G,D3,rs,rg,fx,h,kk⟩:=z;refine⟨σ,G,_,rs,rg,h,fun d G1 v H1 q k1 rg1 re=>?_⟩;cases d with
 | ref a=>
  dsimp only at q;split at q
  ·rename_i C' L' ds hg;obtain⟨⟨rfl,rfl⟩,q⟩:=q;obtain⟨ho,e1,ro⟩:=rg1 a _ hg;cases ho with
   | ins C2 dx gs=>
    obtain⟨rfl,r2,r3⟩:=ro;refine⟨a,dx,gs,re.ref,e1,gV (K:=X.K) r2 hL,σ,G1,_,rs.mono (k1.stb rg),rg1,q,fun ds' G2 vs H2 q2 k2 rg2 rds=>?_⟩;rw[re.ref];exact⟨.ref a::ds',G2,_,EQ,RDs.cons eT (by rw[Od];exact rds),rg2,q2,fun d G' v H' q' k' rg' _=>kk.nx σ G' τ H' q' ((k1.trans k2).trans k') rg' (rs.mono (((k1.trans k2).trans k').stb rg)),fx.base (k1.trans k2)⟩
   | _=>exact ro.elim
  ·exact q.elim
 | _=>exact q.elim
theorem A7{P:M9}{w:Ng}{K:Po}{mg:Str->Option MS}{base:Nf}{j k n:Nat}{f:MT}{fd:N4}{ps:List Str}{sp0:cG}{sp1:vG}(F0:FnOk P w K mg base pJ j f fd ps (b9 K sp0))(F1:FnOk P w K mg base (wD P w) k f fd ps (jB K sp1))(h0:j<=n)(h1:k<=n):
  FnOk P w K mg base (wD P w) n f fd ps (jB K fun ds G Q EQ=>sp0 ds G Q\/sp1 ds G Q EQ):=by
 refine⟨fun vs H Q E z=>?_,fun A outer s H args us vs Q E hr e0 hb r z=>?_⟩
 ·obtain⟨ds,G,Q3,EQ,rds,rg,h|h,kk,fx⟩:=z
  ·exact F0.len vs H Q E0 ⟨ds,G,Q3,rds,rg,h,kk⟩
  ·exact F1.len vs H Q E ⟨ds,G,Q3,EQ,rds,rg,h,kk,fx⟩
 ·obtain⟨ds,G,Q3,EQ,rds,rg,h|h,kk,fx⟩:=z
  ·refine Oy ((F0.mono h0).run A outer s H args us vs Q E0 hr e0 hb r ⟨ds,G,Q3,rds,rg,h,kk⟩) fun r' s' q=>?_;cases r' with
   | error e=>exact q.elim
   | ok fl=>cases fl<;>exact q
  ·exact (F1.mono h1).run A outer s H args us vs Q E hr e0 hb r ⟨ds,G,Q3,EQ,rds,rg,h,kk,fx⟩
def uB(te:aV):aV:=fun σ G Q=>te σ G fun d G1=>∃ ds,d=.fl ds/\∀ p,G1 p=none->Q (.ref p) (gset G1 p (.lst ds))
theorem AL(he:PE X e (aA X.K te)):PE X e (aA X.K (uB te)):=
 he.imp fun τ H Q ⟨σ,G,Q3,rs,rg,h,k⟩=>⟨σ,G,_,rs,rg,h,fun d G' v H' q k' rg' re=>by
  obtain⟨ds,rfl,q⟩:=q;obtain⟨p,xs,rfl,e1,e2,e3,e4⟩:=re.fl;exact k (.ref p) _ _ H' (q p e2) (EI k' e4) (EH rg' e1 e3) (.of eT)⟩
open PySem.SeqAt
structure FnM(K:Po)(n q:Str)(st:No)(dV:MS)(f:MT):Prop where
 ex:∃ (oc:MS) (od an:Option MT) (sl:Array (Option MS)) (kV dc pm cd ct:MS),K.lookup f=some ⟨oc,od,.func (fnOf n q (eM st) (cT st) (ah st) dV kV dc pm an cd ct),sl⟩/\R8 K cd q=true
structure FnG(K:Po)(n:Str)(st:No):Prop where
 ex:∃ f,nsIn K Na n=some (some (.ref f))/\FnM K n n st .none f/\Ro K (.ref f)=true
structure MtG(K:Po)(C:MT)(n q:Str)(st:No):Prop where
 ex:∃ f,Meth K C n f/\FnM K n q st .none f
structure CfG(K:Po)(C:MT)(n q:Str)(st:No):Prop where
 ex:∃ f,(QE K (.ref C) "__getattribute__"=some (some (.builtin "type.__getattribute__"))/\readsIn K C (.type "type")=true/\findCls K (.ref C) (.type "type") n=some (.val (.ref f))/\Ro K (.ref f)=true)/\FnM K n q st .none f
section
variable{K:Po}{n q:Str}{st:No}{f C t:MT}{oc oc' dV kV dc pm cd ct:MS}{od od' an:Option MT}{sl sl':Array (Option MS)}
theorem A8(l:K.lookup f=some ⟨oc,od,.func (fnOf n q (eM st) (cT st) (ah st) dV kV dc pm an cd ct),sl⟩)(c:R8 K cd q=true):FnM K n q st dV f:=⟨_,_,_,_,_,_,_,_,_,l,c⟩
theorem fnG_mk(a:nsIn K Na n=some (some (.ref f)))(l:K.lookup f=some ⟨oc,od,.func (fnOf n n (eM st) (cT st) (ah st) .none kV dc pm an cd ct),sl⟩)(c:R8 K cd n=true)(k:Ro K (.ref f)=true):FnG K n st:=⟨f,a,A8 l c,k⟩
theorem mtG_mk(a:Qt K (.ref C) n=some (some (.ref f)))(i:isFn K (.ref f)=true)(l:K.lookup f=some ⟨oc,od,.func (fnOf n q (eM st) (cT st) (ah st) .none kV dc pm an cd ct),sl⟩)(c:R8 K cd q=true)(k:Ro K (.ref f)=true):MtG K C n q st:=⟨f,⟨a,i,k⟩,A8 l c⟩
theorem cfG_mk(g:QE K (.ref C) "__getattribute__"=some (some (.builtin "type.__getattribute__")))(r:readsIn K C (.type "type")=true)(a:findCls K (.ref C) (.type "type") n=some (.val (.ref f)))(l:K.lookup f=some ⟨oc,od,.func (fnOf n q (eM st) (cT st) (ah st) .none kV dc pm an cd ct),sl⟩)(c:R8 K cd q=true)(k:Ro K (.ref f)=true):CfG K C n q st:=⟨f,⟨g,r,a,k⟩,A8 l c⟩
end
def HS(n q:Str)(st:No)(ps:List Str):Prop:=∀ (kV dc pm:MS) (an:Option MT) (cd ct:MS) (us:List MS),us.length=ps.length->bindArgs (fnOf n q (eM st) (cT st) (ah st) .none kV dc pm an cd ct) ⟨us,[]⟩=pure (ps.zip us)
section
variable(P:M9)(w:Ng)(base:Nf){K:Po}{h:Nf}{mg:Str->Option MS}{k:Nat}{n q x:Str}{st:No}{ps:List Str}{sp:cG}{C:MT}
theorem ME(X:K.In h)(G:h.Ns Na mg)(H:FnG K n st)(ok:∀ {f fd},Fun3 K n n st f fd->FnOk P w K mg base pJ k f fd ps (b9 K sp))(b:HS n n st ps:=by walk_at "b"):Fn3 P w K mg base k n [] sp:=by
 obtain⟨f,a,⟨⟨_,_,_,_,_,_,_,_,_,l,c⟩⟩,kp⟩:=H.ex;exact⟨_,_,_,[],[],ok (iG l c),mg_of X G a,kp,.all (b _ _ _ _ _ _),.nil,fun _=>RDs.nil⟩
theorem GG(cl:Cls K C)(H:MtG K C n q st)(ok:∀ {f fd},Fun3 K n q st f fd->FnOk P w K mg base pJ k f fd ps (b9 K sp))(b:HS n q st ps:=by walk_at "b"):Mt3 P w K mg base k C n [] sp:=by
 obtain⟨f,a,⟨⟨_,_,_,_,_,_,_,_,_,l,c⟩⟩⟩:=H.ex;exact⟨cl,_,_,_,[],[],ok (iG l c),a,.all (b _ _ _ _ _ _),.nil,fun _=>RDs.nil⟩
theorem Ky(X:K.In h)(G:h.Ns Na mg)(ca:nsIn K Na x=some (some (.ref C)))(m:makesIn K C=true)(kc:Ro K (.ref C)=true)(H:MtG K C "__init__" q st)(ok:∀ {f fd},Fun3 K "__init__" q st f fd->FnOk P w K mg base pJ k f fd ps (b9 K sp))(b:HS "__init__" q st ps:=by walk_at "b"):Mk3 P w K mg base k x C [] sp:=by
 obtain⟨f,a,⟨⟨_,_,_,_,_,_,_,_,_,l,c⟩⟩⟩:=H.ex;exact⟨_,_,_,[],[],⟨m,a.at_,a.fn,kc⟩,mg_of X G ca,ok (iG l c),.all (b _ _ _ _ _ _),.nil,fun _=>RDs.nil⟩
theorem MI(X:K.In h)(G:h.Ns Na mg)(ca:nsIn K Na x=some (some (.ref C)))(H:CfG K C n q st)(ok:∀ {f fd},Fun3 K n q st f fd->FnOk P w K mg base pJ k f fd ps (b9 K sp))(b:HS n q st ps:=by walk_at "b"):Cf3 P w K mg base k x n [] sp:=by
 obtain⟨f,⟨g,r,a,kp⟩,⟨⟨_,_,_,_,_,_,_,_,_,l,c⟩⟩⟩:=H.ex;exact⟨C,_,_,_,[],[],ok (iG l c),mg_of X G ca,g,r,a,kp,.all (b _ _ _ _ _ _),.nil,fun _=>RDs.nil⟩
end
section
variable(P:M9)(w:Ng)(base:Nf){K:Po}{h:Nf}{mg:Str->Option MS}{k:Nat}{n q x:Str}{st:No}{ps:List Str}{sp:vG}{C:MT}
theorem GF(cl:Cls K C)(H:MtG K C n q st)(ok:∀ {f fd},Fun3 K n q st f fd->FnOk P w K mg base (wD P w) k f fd ps (jB K sp))(b:HS n q st ps:=by walk_at "b"):MtX P w K mg base k C n sp:=by
 obtain⟨f,a,⟨⟨_,_,_,_,_,_,_,_,_,l,c⟩⟩⟩:=H.ex;exact⟨cl,_,_,_,ok (iG l c),a,.all (b _ _ _ _ _ _)⟩
end
theorem _root_.L2.Room.m(h:Room k A)(d:j<=k:=by decide):Room j A:=h.mono d
section
variable{P:M9}{w:Ng}{base:Nf}{K:Po}{h:Nf}{mg:Str->Option MS}{n q x:Str}{st:No}{N ps:List Str}{sp:cG}{spx:vG}{rd:bc}{rx:XQ->bc}{C f:MT}{fd:N4}
abbrev Mm(P:M9)(w:Ng)(K:Po)(mg:Str->Option MS)(base:Nf)(k:Nat)(N:List Str)(q:Str)(st:No)(rd:bc):Prop:=∀ {f:MT} {cdv:MS} {A:Nb} {outer:List Env} {s:MU} {H:Hp} {E:XK},Room k (A.deeper (Pd q (ah st) s.heap.objs.size f cdv))->(A.deeper (Pd q (ah st) s.heap.objs.size f cdv)).units+8 < NF->(A.deeper (Pd q (ah st) s.heap.objs.size f cdv)).units+4 < NF->iJ (vC pJ P w K mg base N q (ah st) f cdv A outer s H E).nox (cT st) (bN K rd)
abbrev Li(P:M9)(w:Ng)(K:Po)(mg:Str->Option MS)(base:Nf)(k:Nat)(N:List Str)(q:Str)(st:No)(rx:XQ->bc):Prop:=∀ {f:MT} {cdv:MS} {A:Nb} {outer:List Env} {s:MU} {H:Hp} {E:XK} {EQ:XQ},Room k (A.deeper (Pd q (ah st) s.heap.objs.size f cdv))->(A.deeper (Pd q (ah st) s.heap.objs.size f cdv)).units+8 < NF->(A.deeper (Pd q (ah st) s.heap.objs.size f cdv)).units+4 < NF->iJ (vC (wD P w) P w K mg base N q (ah st) f cdv A outer s H E) (cT st) (d6 K E EQ (rx EQ))
theorem BO(k:Nat)(F:Fun3 K n q st f fd)(S:FnScope N ps (ah st))(len:∀ ds G Q,sp ds G Q->ds.length=ps.length)(rok:∀ ds G Q,sp ds G Q->rd { nx:=fun _ G'=>Q .non G',rt:=Q } (b7 N ds) G)(d:Mm P w K mg base k N q st rd):FnOk P w K mg base pJ (k+1) f fd ps (b9 K sp):=
 Fun3.ok3 F S len fun _ _ _ _ _ _ hr=>⟨rd,d hr (by have:=hr.units;omega) (by have:=hr.units;omega),rok⟩
theorem Lp(k:Nat)(F:Fun3 K n q st f fd)(S:FnScope N ps (ah st))(len:∀ ds G Q EQ,spx ds G Q EQ->ds.length=ps.length)(rok:∀ EQ ds G Q,spx ds G Q EQ->rx EQ { nx:=fun _ G'=>Q .non G',rt:=Q } (b7 N ds) G)(d:Li P w K mg base k N q st rx):FnOk P w K mg base (wD P w) (k+1) f fd ps (jB K spx):=
 Fun3.okX F S len fun _ _ _ _ _ _ EQ hr=>⟨rx EQ,d hr (by have:=hr.units;omega) (by have:=hr.units;omega),rok EQ⟩
variable(P w base)
theorem pH(X:K.In h)(G:h.Ns Na mg)(H:FnG K n st)(k:Nat)(S:FnScope N ps (ah st))(len:∀ ds G Q,sp ds G Q->ds.length=ps.length)(rok:∀ ds G Q,sp ds G Q->rd { nx:=fun _ G'=>Q .non G',rt:=Q } (b7 N ds) G)(d:Mm P w K mg base k N n st rd)(b:HS n n st ps:=by walk_at "b"):Fn3 P w K mg base (k+1) n [] sp:=ME P w base X G H (fun F=>BO k F S len rok d) b
variable(mg) in
theorem vf(cl:Cls K C)(H:MtG K C n q st)(k:Nat)(S:FnScope N ps (ah st))(len:∀ ds G Q,sp ds G Q->ds.length=ps.length)(rok:∀ ds G Q,sp ds G Q->rd { nx:=fun _ G'=>Q .non G',rt:=Q } (b7 N ds) G)(d:Mm P w K mg base k N q st rd)(b:HS n q st ps:=by walk_at "b"):Mt3 P w K mg base (k+1) C n [] sp:=GG P w base cl H (fun F=>BO k F S len rok d) b
variable(mg) in
theorem IY(cl:Cls K C)(H:MtG K C n q st)(k:Nat)(S:FnScope N ps (ah st))(len:∀ ds G Q EQ,spx ds G Q EQ->ds.length=ps.length)(rok:∀ EQ ds G Q,spx ds G Q EQ->rx EQ { nx:=fun _ G'=>Q .non G',rt:=Q } (b7 N ds) G)(d:Li P w K mg base k N q st rx)(b:HS n q st ps:=by walk_at "b"):MtX P w K mg base (k+1) C n spx:=GF P w base cl H (fun F=>Lp k F S len rok d) b
end
end L3
namespace L2
open PySem PySem.Spec PyProof.Rows L3 PySem.W
structure Held(X:Cx)(pins:List (MT×Obj))(H:Hp)(s:MU)(x:MT)(o:Obj)(dx:MT)(od:Obj):Prop where
 ok:X.Ok
 ok2:(uS X dx od).Ok
 fl:∃ T oT vs ts,o.data=.fields vs/\vs[1]?=some (.ref T)/\s.heap.get? T=some oT/\oT.data=.fields ts/\3 < ts.size/\pE (wf (uS X dx od) x o) pins H T
def PH(X:Cx)(hs:List Pm)(C:MT)(a:Str)(i:Nat)(t:V->MT->TS):Prop:=∀ v x o dx od,XIs C o dx od a v->∀ pins s σ H D,Inv (wf (uS X dx od) x o) pins σ H s->Held X pins H s x o dx od->t v x (Ends.un i D) (σ.set i (some (.ref x))) H->MZ (M0 X.prog X.w) X.A (handleBy (.ref x) X.env hs) (SP X pins D) X.xe s
section
variable{X:Cx}{pins:List (MT×Obj)}{σ:St}{H H1:Hp}{s s1 s':MU}{C CB:MT}{a cn n:Str}{i:Nat}{t:V->MT->TS}{b₀:No}{SI:List No}{c8:List Pm}{p2 T5:Pos}
theorem vM{x dx:MT}{o od:Obj}{v:V}(hx:XIs C o dx od a v)(e:s.heap.get? x=some o):QO (M0 X.prog X.w) s.heap (typeOf (.ref x)) (.ref C):=hx.cls ▸ (Looks.ld e).andThen .now
theorem Kh(hg2:Gl X cn)(hm2:X.mg cn=some (.ref CB))(he:exmOne X.K (.ref C) (.ref CB)=some false)(h:PH X c8 C a i t)(T8:(cn == ("__debug__":Str))=false:=by decide):PH X (.ExceptHandler (some (.Name cn p2)) (some n) (b₀::SI) T5::c8) C a i t:=by
 intro v x o dx od hx pins s σ H D I K q;have e:=(I.pin (x,o) (by simp)).1
 refine RT (RA (jE (X:=wf (uS X dx od) x o) I hg2 hm2 ?_ T8)) (by intro q;cases q)
 exact (exm_one (M:=M0 X.prog X.w) I.kIn (vM (X:=X) hx e) he).here (s:=s) (h v x o dx od hx pins s σ H D I K q)
theorem w6(hg2:Gl X cn)(hm2:X.mg cn=some (.ref CB))(he:exmOne X.K (.ref C) (.ref CB)=some true)(hN:X.N.Nodup)(hi:X.N[i]?=some n)(hl:X.env.scope.names.lookup n=some .local)(SH:∀ v x o dx od,XIs C o dx od a v->iJ (wf (uS X dx od) x o) (b₀::SI) (t v x))(T8:(cn == ("__debug__":Str))=false:=by decide):PH X (.ExceptHandler (some (.Name cn p2)) (some n) (b₀::SI) T5::c8) C a i t:=by
 intro v x o dx od hx pins s σ H D I K q;have e:=(I.pin (x,o) (by simp)).1
 refine C5 (jE (X:=wf (uS X dx od) x o) I hg2 hm2 ?_ T8);refine (exm_one (M:=M0 X.prog X.w) I.kIn (vM (X:=X) hx e) he).here (s:=s) ⟨rfl,?_⟩;obtain⟨ok,ok2,T,oT,vs,ts,hd,h1,hT,hTd,h3,fp⟩:=K;refine wpAny_setFlight_none e hd h1 hT hTd h3 ?_;have I3:Inv (wf (uS X dx od) x o) pins σ H { s with heap:=s.heap.update T (NE (·.setIfInBounds 3 Value.none)) }:=
  Inv.turnedL (s:=s) (t':=s.toks) (fp:=[T]) I (fun b o hb q=>(Ny _ _ (fun z=>hb (by simp[z]))).trans q) fun b hb=>by rw[Q6.mp hb];exact fp
 refine nT (X:=wf (uS X dx od) x o) I3 hN hi (.inl hl) (v:=.ref x) rfl (fun s4 I4=>?_) (.inr hl);refine Nn (SH v x o dx od hx pins s4 _ _ (Ends.un i D) I4 q) (fun fl s5 hq=>?_) fun _ _ z=>z;have fin:∀ {σ':St} {H':Hp},Inv (wf (uS X dx od) x o) pins σ' H' s5->(∀ s6,Inv X pins (σ'.set i none) H' s6->SP X pins D fl s6)->MZ (M0 X.prog X.w) X.A (do bindName X.env n .none;Qe X.env n T5) (fun _ s6=>SP X pins D fl s6) X.xe s5:=fun {σ' H'} K5 kk=>by
  have I5:=Inv.ofP ok (Inv.ofH ok2 K5);have hiσ:i < σ'.length:=by rw[I5.len];exact (List.getElem?_eq_some_iff.mp hi).1
  refine MR (wpAny_bindName (nT I5 hN hi (.inl hl) (v:=.non) rfl (fun s6 I6=>?_) (.inr hl)));unfold Qe;refine PN (Cf I6 hN hi hl (v:=.non) (by rw[Oj hiσ]) fun s7 I7=>?_)
  rw[Rm]at I7;exact kk s7 I7
 cases fl with
 | next=>
  obtain⟨σ',H',K5,q5⟩:=hq;exact fin K5 fun s6 I6=>⟨_,_,I6,q5⟩
 | brk=>
  obtain⟨σ',H',K5,q5⟩:=hq;exact fin K5 fun s6 I6=>⟨_,_,I6,q5⟩
 | cont=>
  obtain⟨σ',H',K5,q5⟩:=hq;exact fin K5 fun s6 I6=>⟨_,_,I6,q5⟩
 | ret u=>
  obtain⟨v,σ',H',K5,rv,q5⟩:=hq;exact fin K5 fun s6 I6=>⟨v,_,_,I6,rv,q5⟩
theorem LW{E:XK}{e:MS}{D:Ends}{hs:List Pm}(hst:X.stack=X.env::X.outer)(hf:X.env.frame=some X.env.locals)(I1:Inv X pins σ H1 s1)(hq:wD X.prog X.w X.stack H1 s1 E e s')
  (hE:∀ cls dxo H2,E cls dxo H2->∃ C dx a v t,cls=.ref C/\dxo=some dx/\H2 dx=some (.xd [(a,v)])/\PH X hs C a i t/\(H1 dx=none->∀ x,iO H2 dx x=none->t v x (Ends.un i D) (σ.set i (some (.ref x))) (iO H2 dx))):
  MZ (M0 X.prog X.w) X.A (Q8 e X.env) (fun _ s₂=>MZ (M0 X.prog X.w) X.A (QF e none) (fun _ s₃=>MZ (M0 X.prog X.w) X.A (handleBy e X.env hs) (SP X pins D) X.xe s₃) X.xe s₂) X.xe s':=by
 obtain⟨x,C,dx,H2,rfl,os,bare,un,hok,fly,hd0,hq⟩:=hq;obtain⟨C1,dx1,a,v,t,e1,e2,hxd,ph,hth⟩:=hE _ _ _ hq;cases e1;cases e2;have UB:H1 dx=none:=by
  cases z:H1 dx with
  | none=>rfl
  | some o=>obtain⟨ob,z'⟩:=EK (I1.hok dx o z);rw[hd0]at z';cases z'
 have J:Inv X pins σ H2 s':=I1.call' os un hok bare (fun b z=>absurd z (by simp))
 obtain⟨h0,hx,oe,vs',hex,hc,hdx,hd,hh⟩:=fly;have hsz:1 < vs'.size:=by
  rcases hh with z|⟨T,_,_,z,_⟩
  ·exact (Array.getElem?_eq_some_iff.mp z).1
  ·exact (Array.getElem?_eq_some_iff.mp z).1
 have hH:Bn s'.heap x vs':=by
  rcases hh with z|⟨T,oT,ts,z1,z2,z3,z4,z5,z6,z7⟩
  ·exact .inl z
  ·exact .inr ⟨T,oT,ts,z1,z2,z5,z6,z7⟩
 have hTn:∀ T,vs'[1]?=some (.ref T)->(s1.heap.objs.size<=T/\∃ oT ts,s'.heap.get? T=some oT/\oT.data=.fields ts)/\H2 T=none:=fun T z=>by
  rcases hh with z1|⟨T',oT,ts,z1,z2,z3,z4,z5,z6,z7⟩
  ·rw[z1]at z;cases z
  ·rw[z1]at z;cases z;exact⟨⟨z3,oT,ts,z5,z6⟩,z4⟩
 have S5:=J.stack;rw[hst]at S5;refine v6 (base:=X.base) (by rw[J.ok.frames,hst]) S5 hf hex hd hH fun h' N=>?_
 have N':Noted (xG X.stack) x oe vs' s'.heap h':=by rw[hst];exact N
 have sz1:X.s₀.heap.objs.size<=s1.heap.objs.size:=I1.sz;obtain⟨hok2,_⟩:=J.noted N' J.sz (le_trans sz1 h0) hx hex hc hdx hd hsz fun T z=>(hTn T z).2;have J2:Inv X pins σ H2 { s' with heap:=h' }:=J.note hst hf N' hok2 hex hd sz1 h0 (fun p hp=>M4 (I1.pin p hp).1) fun T z=>(hTn T z).1
 obtain⟨T',oT',ts',t1,t2,t3,t4,t5,t6⟩:=N.exc;have hd2:=NT hd (·.setIfInBounds 1 (Value.ref T'));have hc2:(oe.mapFields (·.setIfInBounds 1 (Value.ref T'))).cls=.ref C:=(PL _ _).trans hc;have UA:(oe.mapFields (·.setIfInBounds 1 (Value.ref T'))).dict=some dx:=(lC hd).trans hdx;generalize oe.mapFields (·.setIfInBounds 1 (Value.ref T'))=o2 at *
 obtain⟨mA,ns,rl⟩:=J2.hok dx _ hxd;obtain⟨od,hod,hlk⟩:=v9 ns;have hnc:∀ v,od.data≠.cell v:=fun v z=>by
  obtain⟨o',es,ep,ho',hd',_⟩:=ns;rw[hod]at ho';cases ho';rw[z]at hd';cases hd'
 have lk:∃ u,lookIn a od=some (some u)/\aH v u:=by
  have r:=rl a;simp only[List.lookup,beq_self_eq_true]at r;cases hm:mA a with
  | none=>rw[hm]at r;exact r.elim
  | some u=>rw[hm]at r;exact⟨u,by rw[hlk,hm],r⟩
 have xdx:x≠dx:=fun z=>by rw[z,hxd]at hx;cases hx
 have hx':iO H2 dx x=none:=by rw[cg xdx];exact hx
 have dl:dx≠X.env.locals:=fun z=>by have:=J2.free;rw[<- z,hxd]at this;cases this
 have dfs:dx∉X.fs:=fun z=>by
  have:=J2.stkFree dx (by rw[hst];show dx∈(X.env::X.outer).filterMap _;rw[Og,hf];exact M7 _ z)
  rw[hxd]at this;cases this
 have JP:Inv (uS X dx od) pins σ (iO H2 dx) { s' with heap:=h' }:=(J2.dropX hxd).toP hod lZ dl dfs hnc
 have dlt:dx < s'.heap.objs.size:=(J.hok dx _ hxd).lt;obtain⟨x1,x2⟩:=J2.rec_ne t1 hd2;have nfs:∀ b,X.s₀.heap.objs.size<=b->b∉X.fs:=fun b hb z=>by
  obtain⟨o,ho,_⟩:=(J2.ok.funs.mem (show b∈X.outer.filterMap (·.frame)from z)).2
  exact not_lt.mpr hb (M4 ho)
 have HI:Inv (wf (uS X dx od) x o2) pins σ (iO H2 dx) { s' with heap:=h' }:=JP.toH t1 hx' x1 (nfs x (le_trans sz1 h0)) fun v z=>by rw[hd2]at z;cases z
 have szT:s'.heap.objs.size<=T':=t2;obtain⟨y1,y2⟩:=J2.rec_ne t4 t5;refine ph v x o2 dx od ⟨hc2,UA,⟨_,hd2⟩,lk⟩ pins _ σ _ D HI ⟨J.ok,JP.ok,T',oT',_,ts',hd2,by simp[hsz],t4,t5,(Array.getElem?_eq_some_iff.mp t6).1,?_⟩ (hth UB x hx')
 refine⟨(cg (fun z:T'=dx=>not_lt.mpr szT (by rw[z];exact dlt))).trans (J.hok.fresh szT),y1,nfs T' (le_trans J.sz szT),.inr (le_trans J.sz szT),y2,fun p hp z=>?_⟩
 rcases NH.mp hp with w|w
 ·subst w;exact t3 z.symm
 ·rcases NH.mp w with w|w
  ·subst w;exact not_lt.mpr szT (by rw[<- show dx=T' from z];exact dlt)
  ·exact not_lt.mpr szT (z ▸ (M4 (J.pin p w).1:p.1 < _))
end
def PY(X:Cx)(sts:List No)(t:Ends->(Hp->XK)->St->Hp->Prop):Prop:=∀ (pins:List (MT×Obj)) (s:MU) (σ:St) (H:Hp) (D:Ends) (E:Hp->XK),Inv X pins σ H s->t D E σ H->MZ (M0 X.prog X.w) X.A (execs sts X.env) (SP X pins D) (fun e s'=>∃ H1 s1,Inv X pins σ H1 s1/\wD X.prog X.w X.stack H1 s1 (E H1) e s') s
end L2
namespace L3
open PySem PySem.Spec PyProof.Rows L2 PySem.W
def wa(K:Po)(rb:XQ->bc):Ends->(Hp->XK)->St->Hp->Prop:=fun D E τ H=>∃ σ G D3 EQ,RS K H σ τ/\RG K H G/\rb EQ D3 σ G/\EndsOk K G H D3 D/\∀ G1 H1,Kp G H G1 H1->RG K H1 G1->Bp K G1 H1 EQ (E H1)
section
variable{X:Cx}
theorem HY{c:Nh}{a b:List No}{tc:mv}{ta tb:XQ->bc}{pos:Pos}(hc:PT X.nox c (b8 X.K tc))(ha:PY X a (wa X.K ta))(hb:PY X b (wa X.K tb)):PY X [.If c a b pos] (wa X.K fun EQ=>il tc (ta EQ) (tb EQ)):=by
 intro pins s τ H D E I h;obtain⟨σ,G,D3,EQ,rs,rg,h,kk,fx⟩:=h;refine PR (wpAny_If (Nn (hc pins s τ H (fun b H1=>∃ G1,(if b=true then ta EQ D3 σ G1 else tb EQ D3 σ G1)/\Kp G H G1 H1/\RG X.K H1 G1) (I.wish _) ⟨σ,G,_,rs,rg,h,fun b G1 H1 q k1 rg1=>⟨G1,q,k1,rg1⟩⟩) (fun d s1 zz=>?_) fun _ _ z=>z.elim))
 obtain⟨H1,I1,G1,q,k1,rg1⟩:=zz;have I1:=I1.unwish;have go:∀ {sts:List No} {tt:XQ->bc},PY X sts (wa X.K tt)->tt EQ D3 σ G1->MZ (M0 X.prog X.w) X.A (execs sts X.env) (fun f s'=>match f with|.next=>MZ (M0 X.prog X.w) X.A (execs [] X.env) (SP X pins D) (fun e s'=>∃ H1 s1,Inv X pins τ H1 s1/\wD X.prog X.w X.stack H1 s1 (E H1) e s') s'|f=>SP X pins D f s') (fun e s'=>∃ H1 s1,Inv X pins τ H1 s1/\wD X.prog X.w X.stack H1 s1 (E H1) e s') s1:=fun hp q=>by
  refine Nn (hp pins s1 τ H1 D E I1 ⟨σ,G1,D3,EQ,rs.mono (k1.stb rg),rg1,q,kk.base k1,fun G2 H2 k2 rg2=>fx G2 H2 (k1.trans k2) rg2⟩) (fun f s2 z=>?_) fun _ _ z=>z;cases f with
  | next=>exact Ow z
  | _=>exact z
 cases d with
 | true=>exact go ha q
 | false=>exact go hb q
theorem sy{pl:Sem Bool}{L:List Str}{k:Nat}{C:MT}{m:Str}{sp:vG}{o e:Nh}{es:List Nh}{to:aV}{t:kK}{apos pos pos1:Pos}(F:MtX X.prog X.w X.K X.mg X.base k C m sp)(hL:m∉L)(hr:Room k X.A)(ho:PE X.nox o (aA X.K to))(ha:PA X.nox (e::es) (dN X.K t))
  (hst:M5 (e::es) X.env=(false,eval e X.env)::M5 es X.env:=by rfl) (hpl:(NZ pos (M5 es X.env)).any (·.1)=false:=by rfl)
  (ht:eval (.Call (.Attribute o m apos) (e::es) [] pos) X.env=(do
   let ov <- eval o X.env
   O2 apos.atName
   let (f,first) <- holding [ov] (OW ov m pl)
   Pw pos f first (NZ pos (M5 (e::es) X.env)) (O0 pos (Oo [] X.env))):=by rfl) (hs:Ob (.Call (.Attribute o m apos) (e::es) [] pos) none pos1.line X.env=pure false:=by rfl):
  PY X [.Expr (.Call (.Attribute o m apos) (e::es) [] pos) pos1] (wa X.K fun EQ=>dX C L sp to t EQ):=by
 intro pins s τ H D E I h;obtain⟨f,fd,ps,F',hm,hb⟩:=F.ex;obtain⟨σ,G,D3,EQ,rs,rg,h,kk,fx⟩:=h;refine PR (wpAny_Expr_any ?_ I.quiet hs);refine Pk (pl:=pl) (Nn (ho pins s τ H (fun v H1=>∃ a G1,v=.ref a/\(match G1 a with|some (.ins C' L' _)=>(C'=C/\L'=L)/\t σ G1 fun ds G2=>sp (.ref a::ds) G2 (fun _ G3=>D3.nx σ G3) EQ|_=>False)/\Kp G H G1 H1/\RG X.K H1 G1) (I.wish _) ⟨σ,G,_,rs,rg,h,fun d G1 v H1 q k1 rg1 re=>?_⟩) (fun u s1 zz=>?_) fun _ _ z=>z.elim) ht
 ·cases d with
  | ref a=>exact⟨a,G1,re.ref,q,k1,rg1⟩
  | _=>exact q.elim
 obtain⟨v,H1,I1,rv,a,G1,rfl,q,k1,rg1⟩:=zz;have I1:=I1.unwish;obtain rfl:u=Value.ref a:=rv;split at q
 ·rename_i C' L' ds hg;obtain⟨⟨rfl,rfl⟩,q⟩:=q;obtain⟨ho1,e1,ro⟩:=rg1 a _ hg;cases ho1 with
  | ins C2 dx gs=>
   obtain⟨rfl,r2,r3⟩:=ro;refine jF I1 e1 F.cl hm (gV (K:=X.K) r2 hL) ?_;refine Pu (first:=[.ref a]) (h₀:=X.base) I.ok.mod.kin hm.kp (Nn (ha pos pins s1 τ H1 (fun vs H2=>∃ ds' G2,sp (.ref a::ds') G2 (fun _ G3=>D3.nx σ G3) EQ/\Kp G1 H1 G2 H2/\RG X.K H2 G2/\RDs X.K H2 ds' vs) (I1.wish _) ⟨σ,G1,_,rs.mono (k1.stb rg),rg1,q,fun ds' G2 vs H2 q2 k2 rg2 rds=>⟨ds',G2,q2,k2,rg2,rds⟩⟩) (fun us s2 z2=>?_) fun _ _ z=>z.elim) hst hpl
   obtain⟨vs,H2,I2,rv2,ds',G2,q2,k2,rg2,rds⟩:=z2;have I2:=I2.unwish;refine⟨I2.kIn,?_⟩;have z:jB X.K sp (.ref a::vs) H2 (fun _ H3=>D.nx τ H3) (E H2):=⟨.ref a::ds',G2,_,EQ,RDs.cons eT rds,rg2,q2,fun d G' v H' q' k' rg' _=>kk.nx σ G' τ H' q' ((k1.trans k2).trans k') rg' (rs.mono (((k1.trans k2).trans k').stb rg)),fx G2 H2 (k1.trans k2) rg2⟩;have r2:Vals (.ref a::vs) (.ref a::us):=.cons rfl rv2;have hlen:((.ref a::us:List MS) ++ []).length=ps.length:=by rw[Od,<- r2.length];exact F'.len _ _ _ _ z
   have hb1:=hb s2 (.ref a::us) I2.kIn hlen;rw[Od]at hb1;refine Pg (Oy (F'.run X.A X.stack s2 H2 ⟨.ref a::us,[]⟩ (.ref a::us) (.ref a::vs) _ _ hr I2.env0 hb1 r2 z) fun r' s' hq=>?_);cases r' with
   | ok fl=>
    cases fl with
    | ret u=>
     obtain⟨v,H3,I3,rv,q3⟩:=I2.after hq;exact Ow ⟨τ,H3,I3,q3⟩
    | next=>exact False.elim hq
    | brk=>exact False.elim hq
    | cont=>exact False.elim hq
   | error ev=>exact⟨H2,s2,I2,hq⟩
  | _=>exact ro.elim
 ·exact q.elim
def EV(K:Po)(t:D->MT->bc):V->MT->TS:=fun v x D τ H=>∃ d σ G D3,RD K H d v/\RS K H σ τ/\RG K H G/\t d x D3 σ G/\EndsOk K G H D3 D
theorem KC(h:∀ d,iJ Y sts (bN Y.K (t d x))):iJ Y sts (EV Y.K t v x):=by
 intro pins s σ H D I q;obtain⟨d,σ3,G,D3,_,rs,rg,q,k⟩:=q;exact h d pins s σ H D I ⟨σ3,G,D3,rs,rg,q,k⟩
def yR(tab:List (MT×Str×(D->MT->bc)))(i:Nat)(rb:XQ->bc):bc:=fun D σ G=>rb (fun C a d G2=>∃ t,(C,a,t)∈tab/\∀ x,G2 x=none->t d x (Ends3.un i D) (σ.set i (some (.ref x))) G2) D σ G
theorem Ec(hst:X.stack=X.env::X.outer)(hf:X.env.frame=some X.env.locals)(hy:PY X body (wa X.K rb))(hh:∀ p∈tab,PH X (h₀::hs) p.1 p.2.1 i (EV X.K p.2.2)):PS X (.Try body (h₀::hs) [] [] T_) (bN X.K (yR tab i rb)):=by
 intro pins s τ H D I h;obtain⟨σ,G,D3,rs,rg,h,kk⟩:=h;refine wpAny_Try_except (Nn (hy pins s τ H D (fun H1 cls dxo H2=>∃ C dx a v t,cls=.ref C/\dxo=some dx/\H2 dx=some (.xd [(a,v)])/\PH X (h₀::hs) C a i t/\(H1 dx=none->∀ x,iO H2 dx x=none->t v x (Ends.un i D) (τ.set i (some (.ref x))) (iO H2 dx))) I
  ⟨σ,G,D3,_,rs,rg,h,kk,fun G1 H1 k1 rg1=>?_⟩) (fun f s1 q=>?_) fun e s' q=>?_)
 ·intro C a d G' v dx H' q' k' rg' n e rd;obtain⟨t,mem,hth⟩:=q';refine⟨C,dx,a,v,_,rfl,rfl,e,hh _ mem,fun h1 x hx=>?_⟩;have rg2:RG X.K (iO H' dx) G':=fun b o q=>by
   obtain⟨ho,e1,r⟩:=rg' b o q;exact⟨ho,by rw[cg (fun y=>by rw[y,n]at q;cases q)];exact e1,r.mono (By e)⟩
  have kp:Kp G H G' (iO H' dx):=fun b o e0 n0=>by
   obtain⟨a1,a2⟩:=k1 b o e0 n0;obtain⟨c1,c2⟩:=k' b o a1 a2;exact⟨by rw[cg (fun y=>by rw[y,h1]at a1;cases a1)];exact c1,c2⟩
  refine⟨d,_,G',_,RD.mono (By e) _ _ rd,RS.set (d:=.ref x) (by simp only[RD]) i (rs.mono (kp.stb rg)),rg2,hth x (rg2.free hx),?_⟩
  have kb:=kk.base kp;exact⟨fun σ' G2 τ' H2 q k2 r2 s2=>kb.nx _ _ _ _ q k2 r2 (RS.unset i s2),kb.rt,fun σ' G2 τ' H2 q k2 r2 s2=>kb.bk _ _ _ _ q k2 r2 (RS.unset i s2),fun σ' G2 τ' H2 q k2 r2 s2=>kb.ct _ _ _ _ q k2 r2 (RS.unset i s2)⟩
 ·cases f with
  | next=>exact Ow q
  | _=>exact q
 ·obtain⟨H1,s1,I1,q⟩:=q;exact LW hst hf I1 q fun _ _ _ z=>z
end
def FZ(C:MT)(L:List Str)(sp:vG)(to:aV)(ta:kK)(r:R3)(kd:D)(t u:bc)(EQ:XQ):bc:=fun D σ G=>to σ G fun x G1=>match x with
 | .ref a=>match G1 a with
  | some (.ins C' L' _)=>(C'=C/\L'=L)/\ta σ G1 fun ds G2=>sp (.ref a::ds) G2 (fun d G3=>∃ z,d=.str z/\r (.str z) (val kd) G3 fun b G4=>match b with
   | .bl c=>if c=true then t D σ G4 else u D σ G4
   | _=>False) EQ
  | _=>False
 | _=>False
theorem JS{X:Cx}{E:XK}{EQ:XQ}{pl:Sem Bool}{L:List Str}{k:Nat}{C:MT}{m:Str}{sp:vG}{o e kx:Nh}{es:List Nh}{to:aV}{t:kK}{op:PX}{r:R3}{kd:D}{a b:List No}{ta tb:bc}{apos pos cpos Uv:Pos}(W:CtxW X E)(F:MtX X.prog X.w X.K X.mg X.base k C m sp)(hL:m∉L)(hr:Room k X.A)(ho:PE X o (aA X.K to))(ha:PA X (e::es) (dN X.K t))
  (hop:gf X (Nr op) (iF X.K r)) (hk:PE X kx (aA X.K (eC kd))) (h1:iJ X a (d6 X.K E EQ ta)) (h2:iJ X b (d6 X.K E EQ tb)) (hmk:NW op kx=false:=by exact bv _)
  (hst:M5 (e::es) X.env=(false,eval e X.env)::M5 es X.env:=by rfl) (hpl:(NZ pos (M5 es X.env)).any (·.1)=false:=by rfl)
  (ht:eval (.Call (.Attribute o m apos) (e::es) [] pos) X.env=(do
   let ov <- eval o X.env
   O2 apos.atName
   let (f,first) <- holding [ov] (OW ov m pl)
   Pw pos f first (NZ pos (M5 (e::es) X.env)) (O0 pos (Oo [] X.env))):=by rfl):
  PS X (.If (.Compare (.Call (.Attribute o m apos) (e::es) [] pos) [op] [kx] cpos) a b Uv) (d6 X.K E EQ (FZ C L sp to t r kd ta tb EQ)):=by
 obtain⟨f,fd,ps,ok,hm,hb⟩:=F.ex;refine (Eo (wZ hop (xk (dvs:=[]) (ds:=[]) ho F.cl hm ok hr hb .nil (v4 (E:=E) (E':=E) W.st W.fr W.ex W.xe fun _ _ _ z=>z) ha hst hpl ht) (c7 hk) hmk) h1 h2).imp fun D τ H z=>?_;obtain⟨σ,G,D3,rs,rg,fx,h,kk⟩:=z;refine⟨σ,G,_,rs,rg,h,fun d G1 v H1 q k1 rg1 re=>?_⟩;cases d with
 | ref a=>
  dsimp only at q;split at q
  ·rename_i C' L' ds hg;obtain⟨⟨rfl,rfl⟩,q⟩:=q;obtain⟨ho,e1,ro⟩:=rg1 a _ hg;cases ho with
   | ins C2 dx gs=>
    obtain⟨rfl,r2,r3⟩:=ro;refine⟨a,dx,gs,re.ref,e1,gV (K:=X.K) r2 hL,σ,G1,_,rs.mono (k1.stb rg),rg1,q,fun ds' G2 vs H2 q2 k2 rg2 rds=>?_⟩;rw[re.ref];refine⟨.ref a::ds',G2,_,EQ,RDs.cons eT (by rw[Od];exact rds),rg2,q2,fun d G' v H' q' k' rg' re'=>?_,fx.base (k1.trans k2)⟩
    obtain⟨z,rfl,q'⟩:=q';have rdz:RD X.K H' (.str z) v:=re'.rd (by intro ds z;cases z)
    refine⟨σ,G',fun d2 G2=>d2=kd/\G2=G',rs.mono (((k1.trans k2).trans k').stb rg),rg',⟨rfl,rfl⟩,fun d2 G3 u H3 q3 k3 rg3 rd3=>?_⟩;obtain⟨rfl,rfl⟩:=q3;have k4:=((k1.trans k2).trans k').trans k3;refine⟨.str z,val d2,G3,_,RD.mono (k3.stb rg') _ _ rdz,rd3,rg3,q',fun bb G5 w H5 q5 k5 rg5 re5=>?_⟩;cases bb with
    | bl c=>
     obtain rfl:w=.bl c:=by have:=re5.rd (by intro ds z;cases z);simpa only[RD]using this
     refine⟨c,rfl,?_⟩;cases c with
     | true=>exact⟨σ,G5,D3,rs.mono ((k4.trans k5).stb rg),rg5,fx.base (k4.trans k5),q5,kk.base (k4.trans k5)⟩
     | false=>exact⟨σ,G5,D3,rs.mono ((k4.trans k5).stb rg),rg5,fx.base (k4.trans k5),q5,kk.base (k4.trans k5)⟩
    | _=>exact q5.elim
   | _=>exact ro.elim
  ·exact q.elim
 | _=>exact q.elim
def JZ(te:TE)(x:MT)(v:V):TE:=fun σ H Q=>te σ H fun y H1=>y=.ref x/\Q v H1
theorem ID{X:Cx}{C x dx b:MT}{o od:Obj}{a:Str}{e:Nh}{te:TE}{pos:Pos}(hx:XIs C o dx od a (.ref b))(A:XAsk X.K C a)(he:PE (wf (uS X dx od) x o) e te)
  (hb:Op e a (wf (uS X dx od) x o).env (eval e (wf (uS X dx od) x o).env)=eval e (wf (uS X dx od) x o).env:=by rfl):PE (wf (uS X dx od) x o) (.Attribute e a pos) (JZ te x (.ref b)):=by
 intro pins s τ H Q I h;refine B9 hb (bZ (he pins s τ H _ I h) fun u s1 zz=>?_);obtain⟨v,H1,I1,rx,rfl,q⟩:=zz;obtain rfl:u=Value.ref x:=rx;obtain⟨u',hl,ru⟩:=hx.look;obtain rfl:u'=Value.ref b:=ru;exact Lq I1.kIn A.g (yE hx I1) (findObj_own A.g.hd A.fa rfl hl) rfl ⟨.ref b,H1,I1.tok _,rfl,q⟩
def yS(j i:Nat)(c:Str)(d:D)(x:MT):bc:=fun D σ G=>(∃ ds,d=.tup ds)/\σ[i]?=some (some (.ref x))/\D.nx (σ.set j (some (.tup [.str c,d]))) G
theorem E_{X:Cx}{C x dx:MT}{o od:Obj}{a c f en:Str}{v:V}{i j cj x1:Nat}{p1 p2 p3 p4 p5 p6:Pos}(hx:XIs C o dx od a v)(A:XAsk X.K C a)(hN:X.N.Nodup)(hj:X.N[j]?=some f)(hl:X.env.scope.names.lookup f=some .local)(he:X.N[i]?=some en)(hev:X.env.scope.names.lookup en=some .local)
  (hs:Ob (.Tuple [.Constant (.str c) cj p2,.Attribute (.Name en p3) a p4] x1 p5) (some (.Name f p1)) p6.line X.env=pure false:=by rfl) (hd:(en == ("__debug__":Str))=false:=by decide) (hcd:(en == ("__classdict__":Str))=false:=by decide):
  iJ (wf (uS X dx od) x o) [.Assign [.Name f p1] (.Tuple [.Constant (.str c) cj p2,.Attribute (.Name en p3) a p4] x1 p5) p6] (EV X.K (yS j i c) v x):=by
 intro pins s τ H D I h;obtain⟨d,σ,G,D3,rd,rs,rg,⟨⟨ds,rfl⟩,hσ,q⟩,kk⟩:=h;obtain⟨b,rfl⟩:∃ b,v=.ref b:=by simp only[RD]at rd;obtain⟨b,_,e,_⟩:=rd;exact⟨b,e⟩
 obtain⟨w,e1,r⟩:=rs.get hσ;obtain rfl:w=.ref x:=by simpa only[RD]using r
 refine sh (AG (X:=wf (uS X dx od) x o) hN hj (.inl hl) (Eu (xm Ew (xm (ID hx A (tK he (.inl hev) hd hcd)) EE))) hs (.inr hl)) pins s τ H D I ?_;refine⟨_,e1,rfl,by show 2<=M1;decide,fun p hp=>?_⟩
 exact kk.nx _ G _ _ q (Kp.laid hp) (rg.laid hp) ((rs.mono ((Kp.laid (G:=G) hp).stb rg)).set (lT rg hp (RDs.cons jt (RDs.cons rd RDs.nil))) j)
end L3
namespace L2
open PySem PySem.Spec PyProof.Rows L3
def Ms(a:MT)(ob:Obj)(hw:List aB->Int)(xs:List (List aB×MT×MS)):It:=
 ⟨fun i H=>H a=some (.ext (Du ob hw a xs))/\i < xs.length,fun i H x H'=>H'=H/\∃ y,xs[i]?=some y/\x=.ref y.2.1,fun i H=>H a=some (.ext (Du ob hw a xs))/\i=xs.length⟩
theorem Ch{P:M9}{w:Ng}{K:Po}{tg:Nh}{a it:MT}{ob:Obj}{hw:List aB->Int}{xs:List (List aB×MT×MS)}{es:Array Rg}{ep:Nat}(h1:ob.ExactDict)(h2:ob.data=.dict es ep)(h3:es.toList=xs.map fun x=>(⟨hw x.1,.ref x.2.1,x.2.2⟩:Rg)):
  Turn P w K tg (Ms a ob hw xs) [it] it (fun i h=>h.IsKeyIter it a i (xs.map fun x=>Value.ref x.2.1).length ep) where
 mem:=by simp
 obj:=fun i h st b hb=>by
  rw[Q6.mp hb];obtain⟨o,e,c,d⟩:=st;exact⟨o,e,fun v z=>by rw[d]at z;cases z⟩
 keep:=fun i h h' st q=>by
  obtain⟨o,e,c⟩:=st;exact⟨o,q it (by simp) o e,c⟩
 item:=by
  intro X hP hw' hK hc i pins s σ H E I hf st hg;subst hP hw' hK;have hlt:i < xs.length:=hg.2;have e3:s.heap.get? a=some ob:=(show ba X.prog X.w H s.heap a (.ext (Du ob hw a xs))from I.hok a _ hg.1).1.1
  refine tF st (⟨ob,es,e3,h1,h2,by rw[h3,Nq];rfl⟩:jJ s.heap a (xs.map fun x=>Value.ref x.2.1) ep) (v:=.ref xs[i].2.1) (by rw[Nd,M6 hlt];rfl) fun h4 ki sb=>⟨_,rfl,?_⟩
  obtain⟨oi,ei,ci,di⟩:=id ki;refine wg (s:={ s with heap:=h4 }) ei ci di (by decide) ?_
  exact⟨.ref xs[i].2.1,H,I.turnedL (t':=s.toks) (fp:=[it]) (fun b o hb q=>(sb.2 b fun z=>hb (by simp[z])).trans q) hf,rfl,⟨rfl,_,M6 hlt,rfl⟩,ki,fun b hb=>(hf b hb).1⟩
 done:=by
  intro X hP hw' hK hc i pins s σ H E I hf st hg;subst hP hw' hK;have e3:s.heap.get? a=some ob:=(show ba X.prog X.w H s.heap a (.ext (Du ob hw a xs))from I.hok a _ hg.1).1.1
  refine wY (I.ok.hd hc) st (⟨ob,es,e3,h1,h2,by rw[h3,Nq];rfl⟩:jJ s.heap a (xs.map fun x=>Value.ref x.2.1) ep) (by rw[Nd,Oc (Qf hg.2.symm)];rfl) fun h4 eb=>⟨rfl,?_⟩
  exact I.turnedL (t':=s.toks) (fp:=[it]) (fun b o hb q=>eb b o (fun z=>hb (by simp[z])) q) hf
 self:=fun _ _ _ _ _ st h=>RB st h
def Fy(Q:Hp->Prop)(H1:Hp):Prop:=∃ a ob hw xs,H1 a=some (.ext (Du ob hw a xs))/\Q (aR H1 a (.ext (pI hw a xs)))
theorem Inv.thaw{X:Cx}{pins:List (MT×Obj)}{σ:St}{H1:Hp}{s:MU}{Q:Hp->Prop}(I:Inv X pins σ H1 s)(h:Fy Q H1):∃ H2,Inv X pins σ H2 s/\Q H2:=by
 obtain⟨a,ob,hw,xs,e,q⟩:=h;obtain⟨e3,f⟩:=(show ba X.prog X.w H1 s.heap a (.ext (Du ob hw a xs))from I.hok a _ e).1
 exact⟨_,I.write (t':=s.toks) (x:=a) (e:=a) (by rw[e];exact True.intro) (.inl rfl) (fun _ _ _ q=>q) ⟨ob,e3⟩ (nL f),q⟩
theorem Gi(h:PE X e t):PE X e fun σ H Q=>t σ H fun v=>Fy (Q v):=fun pins s σ H Q I q=>
 Nn (h pins s σ H _ I q) (fun u s1 ⟨v,H1,I1,r,q⟩=>let ⟨H2,I2,q2⟩:=I1.thaw q;⟨v,H2,I2,r,q2⟩) fun _ _ z=>z
theorem Gc{X:Cx}{st:No}{t:TS}(h:PS X st t):PS X st fun D σ H=>t { D with nx:=fun σ'=>Fy (D.nx σ') } σ H:=fun pins s σ H D I q=>
 Nn (h pins s σ H _ I q) (fun f s1 z=>by
  cases f with
  | next=>obtain⟨σ',H1,I1,q⟩:=z;obtain⟨H2,I2,q2⟩:=I1.thaw q;exact⟨σ',H2,I2,q2⟩
  | _=>exact z) fun _ _ z=>z
end L2
namespace L3
open PySem PySem.Spec PyProof.Rows L2 PySem.W
def lM(k:Nat)(tl:aV)(g:sv)(tt:mv)(te:aV):aV:=fun σ G Q=>tl σ G fun d G1=>match d with
 | .ref a=>∃ hw kvs,G1 a=some (.dT hw kvs)/\∀ ob xs,∃ Pv:Nat->List D->Gp->Prop,Pv 0 [] (gset G1 a (.dF ob hw xs kvs))/\(∀ i acc G',Pv i acc G'->G' a=some (.dF ob hw xs kvs))/\
  (∀ (i:Nat) d acc G',(kvs.map o_)[i]?=some d->Pv i acc G'->g d (List.replicate k none ++ σ) G' fun σ2 G2=>(k<=σ2.length/\σ2.drop k=σ)/\tt σ2 G2 fun b G3=>if b=true then te σ2 G3 fun y G4=>Pv (i+1) (acc ++ [val y]) G4 else Pv (i+1) acc G3)/\
  ∀ acc G',Pv (kvs.map o_).length acc G'->Q (.fl acc) (gset G' a (.dT hw kvs))
 | _=>False
def KO(K:Po)(te:aV):TI:=fun τ H R=>∃ σ G Q3,RS K H σ τ/\RG K H G/\te σ G Q3/\∀ d G1 H1,Q3 d G1->Kp G H G1 H1->RG K H1 G1->∃ a hw kvs,d=.ref a/\G1 a=some (.dT hw kvs)/\
 ∀ ob xs H2,Kp G1 H1 (gset G1 a (.dF ob hw xs kvs)) H2->RG K H2 (gset G1 a (.dF ob hw xs kvs))->m3 K H2 kvs xs->H2 a=some (.ext (Du ob hw a xs))->kvs.length<=M1->R (Ms a ob hw xs) H2
theorem BI{X:Cx}{tg e:Nh}{te:aV}(h:PE X e (aA X.K te)):PI X tg e (KO X.K te):=by
 intro pins s τ H R I hq;obtain⟨σ,G,Q3,rs,rg,hq,k⟩:=hq;refine bZ (cE h I rs rg hq) fun u s1 ⟨v,H1,I1,r1,d,G1,q,k1,rg1,rd⟩=>?_;obtain⟨a,hw,kvs,rfl,hga,kr⟩:=k d G1 H1 q k1 rg1;simp only[val,RD]at rd;subst rd;cases r1;obtain⟨hob,eo,ro⟩:=rg1 a _ hga;cases hob with
 | ext φ=>
  obtain⟨xs,rfl,rt,nd,len⟩:=ro;have f:=(show ba X.prog X.w H1 s1.heap a (.ext (pI hw a xs))from I1.hok a _ eo).1
  obtain⟨hsm,o1,es,ep,g1,g2,g3,g4⟩:=id f;obtain⟨kp,rg2⟩:=qA (a:=a) (o:=.dF o1 hw xs kvs) (ho:=.ext (Du o1 hw a xs)) rg1 (by rw[hga];exact fun z=>nomatch z) fun H' st=>⟨rfl,rt.mono st,nd,len⟩
  have I1':Inv X pins τ (aR H1 a (.ext (Du o1 hw a xs))) { s1 with heap:=s1.heap,toks:=s1.toks }:=I1.write (x:=a) (e:=a) (by rw[eo];exact True.intro) (.inl rfl) (fun _ _ _ q=>q) ⟨o1,g1⟩ ⟨⟨g1,f⟩,⟨o1,g1⟩,fun h1 h2 z kk=>⟨kk _ z.1,z.2.1,o1,es,ep,kk _ z.1,g2,g3,g4⟩⟩
  have raw:jJ s1.heap a (xs.map fun x=>Value.ref x.2.1) ep:=⟨o1,es,g1,g2,g3,by rw[g4,Nq];rfl⟩
  refine qx hsm raw ?_;have hita:a≠s1.heap.objs.size:=Np (M4 g1);exact⟨_,_,_,_,_,rfl,I1'.kept (t':=s1.toks) fun _ _ q=>MX _ q,Ch g2 g3 g4,⟨_,M3 _ rfl,rfl,rfl⟩,fun b hb=>by rw[Q6.mp hb];exact I1.fpOk (le_refl _) (by rw[ar hita.symm];exact I1.hok.fresh (le_refl _)),kr o1 xs _ kp rg2 (rt.mono (kp.stb rg1)) aF len⟩
 | _=>exact ro.elim
section
variable{X:Cx}{elt tg iter:Nh}{ifs:List Nh}{scope:O_}{T M:List Str}{pos:Pos}{tl:aV}{g:sv}{tt:mv}{te:aV}
theorem DG(h:p≠a):aR (aR H p u) a w=aR (aR H a w) p u:=by
 funext b;unfold aR
 by_cases hb:b=a
 ·rw[if_pos hb,if_neg (fun z=>h (z.symm.trans hb)),if_pos hb]
 ·rw[if_neg hb,if_neg hb]
theorem uH{K:Po}{τ:St}{σ:dO}{G:Gp}{H:Hp}{Q:VK}{Q3:jh}(rs:RS K H σ τ)(rg:RG K H G)(h:lM T.length tl g tt te σ G Q3)
  (k:∀ d G2 v a ob hw xs H',H' a=some (.ext (Du ob hw a xs))->Q3 d G2->Kp G H G2 (aR H' a (.ext (pI hw a xs)))->RG K (aR H' a (.ext (pI hw a xs))) G2->RE K G H G2 (aR H' a (.ext (pI hw a xs))) d v->(∃ acc,d=.fl acc)->Q v H'):yK (ent T) (KO K tl) (gM K g) (b8 K tt) (tW K te) τ H Q:=by
 refine⟨σ,G,_,rs,rg,h,fun d G1 H1 q k1 rg1=>?_⟩;cases d with
 | ref a=>
  obtain⟨hw,kvs,hga,q⟩:=q;refine⟨a,hw,kvs,rfl,hga,fun ob xs H2 kp rg2 rt ex len=>?_⟩;obtain⟨Pv,p0,live,step,fin⟩:=q ob xs;have lx:=rt.length;refine gW (ds:=kvs.map o_) (Q3:=fun d G'=>G' a=some (.dF ob hw xs kvs)/\Q3 d (gset G' a (.dT hw kvs))/\∃ acc,d=.fl acc) rs rg (fun d G' v H' q k' rg' re=>?_) (k1.trans kp) rg2 p0 (fun i acc G' H' pv k' rg'=>?_) step (fun acc G' pv=>⟨live _ _ _ pv,fin acc G' pv,acc,rfl⟩) (by rw[MY];exact len)
  ·obtain⟨ha,q,acc,rfl⟩:=q;obtain⟨hob,eo,ro⟩:=rg' a _ ha;cases hob with
   | ext φ=>
    obtain⟨rfl,rt',nd,len⟩:=ro;obtain⟨kp2,rg3⟩:=qA (a:=a) (o:=.dT hw kvs) (ho:=.ext (pI hw a xs)) rg' (by rw[ha];exact fun z=>nomatch z) fun H' st=>⟨xs,rfl,rt'.mono st,nd,len⟩
    obtain⟨p,ys,rfl,e1,e2,e3,e4⟩:=re.fl;have hp:p≠a:=fun z=>by rw[z,ha]at e2;cases e2
    exact k _ _ _ a ob hw xs H' eo q (k'.trans kp2) rg3 (.inl ⟨acc,p,ys,rfl,rfl,by rw[ar hp];exact e1,by rw[ai hp];exact e2,RDs.mono (kp2.stb rg') _ _ e3,e4⟩) ⟨acc,rfl⟩
   | _=>exact ro.elim
  ·obtain⟨hob,eo,ro⟩:=rg' a _ (live i acc G' pv);cases hob with
   | ext φ=>
    obtain⟨rfl,rt',nd,_⟩:=ro;rw[MY];refine⟨fun hi=>⟨⟨eo,by walk_at "o"⟩,fun x H3 y=>?_⟩,fun e=>⟨eo,by walk_at "o"⟩⟩
    obtain⟨rfl,y,ey,rfl⟩:=y;obtain⟨y',e',rd⟩:=rt'.at (M6 hi);rw[ey]at e';cases e';exact⟨Kp.refl,rg',_,by rw[Nd,M6 hi];rfl,rd⟩
   | _=>exact ro.elim
 | _=>exact q.elim
theorem BL(ok:CompOk X scope T M)(hin:∀ cl C s₀ H₀ fp,PG (aU X (T ++ M) scope cl C s₀ H₀ fp) tg (gM X.K g)/\Dt (aU X (T ++ M) scope cl C s₀ H₀ fp) ifs (b8 X.K tt)/\PE (aU X (T ++ M) scope cl C s₀ H₀ fp) elt (aA X.K te))(hi:PE X iter (aA X.K tl))(hs:∀ x,NM iter X.env x=pure x:=by intro _;rfl):PE X (.ListComp elt [⟨tg,iter,ifs,0⟩] scope pos) (aA X.K (lM T.length tl g tt te)):=
 (Gi (xl ok (fun cl C s₀ H₀ fp=>let ⟨a,b,c⟩:=hin cl C s₀ H₀ fp;⟨a,b,c7 c⟩) (BI hi) hs)).imp fun _ _ _ ⟨σ,G,Q3,rs,rg,h,k⟩=>uH rs rg h fun d G2 v a ob hw xs H' e q kp rg' re _=>⟨a,ob,hw,xs,e,k _ _ _ _ q kp rg' re⟩
theorem F6{i:Nat}{x:Str}{px spos:Pos}(ok:CompOk X scope T M)(hN:X.N.Nodup)(hix:X.N[i]?=some x)(hx:X.env.scope.names.lookup x=some .local)
  (hin:∀ cl C s₀ H₀ fp,PG (aU X (T ++ M) scope cl C s₀ H₀ fp) tg (gM X.K g)/\Dt (aU X (T ++ M) scope cl C s₀ H₀ fp) ifs (b8 X.K tt)/\PE (aU X (T ++ M) scope cl C s₀ H₀ fp) elt (aA X.K te))
  (hi:PE X iter (aA X.K tl)) (hsw:Ob (.ListComp elt [⟨tg,iter,ifs,0⟩] scope pos) (some (.Name x px)) spos.line X.env=pure true:=by rfl) (hs:∀ x,NM iter X.env x=pure x:=by intro _;rfl):
  PS X (.Assign [.Name x px] (.ListComp elt [⟨tg,iter,ifs,0⟩] scope pos) spos) (bN X.K (bK i (lM T.length tl g tt te))):=
 (Gc (BG ok hN hix hx (fun cl C s₀ H₀ fp=>let ⟨a,b,c⟩:=hin cl C s₀ H₀ fp;⟨a,b,c7 c⟩) (BI hi) hsw hs)).imp fun D τ H ⟨σ,G,D3,rs,rg,h,k⟩=>by
  refine uH (Q:=fun v H1=>Fy (D.nx (τ.set i (some v))) H1\/∃ p xs,v=.ref p/\H1 p=some (.lst xs)/\∀ o,Fy (D.nx (τ.set i (some v))) (aR H1 p (.frz o (.lst xs)))) rs rg h fun d G2 v a ob hw xs H' e q kp rg' re hd=>?_;obtain⟨acc,rfl⟩:=hd;obtain⟨p,ys,rfl,e1,e2,e3,e4⟩:=re.fl;have hp:p≠a:=fun z=>by rw[z,aF]at e1;cases e1
  refine .inr ⟨p,ys,rfl,by rw[ar hp]at e1;exact e1,fun o=>⟨a,ob,hw,xs,by rw[ar (Ne.symm hp)];exact e,?_⟩⟩
  rw[DG hp];obtain⟨rg2,st⟩:=A4 (o:=o) rg' e1 e2;exact k.nx _ G2 _ _ q (A5 (K:=X.K) kp e4) rg2 (((rs.mono (kp.stb rg)).mono st).set (qd (.inl ⟨o,aF⟩) (RDs.mono st _ _ e3)) i)
end
theorem Cq{K:Po}{H:Hp}{kvs:List (List aB×D)}{xs:List (List aB×MT×MS)}(r:m3 K H kvs xs):RDs K H (kvs.map o_) (xs.map fun x=>V.ref x.2.1):=by
 unfold m3 at r
 induction r with
 | nil=>exact RDs.nil
 | cons h _ ih=>exact RDs.cons (by unfold o_;simp only[RD];exact⟨_,_,rfl,h.2.1,wW _⟩) ih
theorem zI(hn:vs.length=n)(h:ItemsOf (fun i v=>vs[i]?=some v) acc n):acc.toList=vs:=by
 refine List.ext_getElem? fun i=>?_;rcases OV i acc.size with q|q
 ·rw[h.2 i acc[i] (by simp[q])]
  simp[q]
 ·rw[Oc (by simpa using q),Oc (by rw[hn,<- h.1];exact q)]
theorem Eb(hd:(d == NC)=false):KdlSrc prog w "dict" d d vs.length (fun i v=>vs[i]?=some v) (fun h=>jJ h d vs ep) where
 type:=fun _ x=>x.ty
 there:=fun _ x=>⟨x.there,x.there⟩
 keep:=fun _ _ x k=>x.stay fun o e=>k d (.inl rfl) o e
 notList:=by decide
 notTuple:=by decide
 hint:=fun _ _ _ _ x q=>kdl_hint_dict x.ty q
 iter:=fun _ _ hh x=>⟨_,_,(fun _ _ q=>qx hd x q),Ea hh (Np x.there),⟨⟨_,M3 _ rfl,rfl,rfl⟩,x.stay fun o e=>MX _ e⟩⟩
theorem v_{X:Cx}{pins:List (MT×Obj)}{τ:St}{H1:Hp}{G G1:Gp}{H:Hp}{s1:MU}{h':Nf}{tk c':Nat}{acc:Array MS}{ds:List D}{vs:List V}{Q:VK}{Q3:jh}{p:MT}(I1:L2.Inv X pins τ H1 s1)(hp:s1.heap.objs.size<=p)(keep:∀ c o,s1.heap.get? c=some o->h'.get? c=some o)
  (hS:h'.get? p=some { cls:=.type "list",dict:=none,data:=.seq acc c',slots:=#[] }) (vv:Vals vs acc.toList) (len:vs.length<=M1) (rd:RDs X.K H1 ds vs) (k1:Kp G H G1 H1) (rg1:RG X.K H1 G1) (q:Q3 (.fl ds) G1) (k:r_ X.K G H Q3 Q):EP X pins τ Q (.ref p) { s1 with heap:=h',toks:=tk }:=by
 have fr:H1 p=none:=I1.hok.fresh hp;exact⟨.ref p,aR H1 p (.lst vs),I1.laid keep hp ⟨len,acc.toList,c',vv,by simpa using hS⟩,rfl,k _ G1 _ _ q (k1.trans (Kp.laid fr)) (rg1.laid fr) ((uz rg1 fr rd).base k1)⟩
def Ba(te:aV):aV:=fun σ G Q=>te σ G fun d G1=>match d with
 | .ref a=>∃ hw kvs,G1 a=some (.dT hw kvs)/\Q (.fl (kvs.map o_)) G1
 | _=>False
def A_(te:aV):aV:=fun σ G Q=>te σ G fun d G1=>match d with
 | .ref a=>∃ hw kvs,G1 a=some (.dT hw kvs)/\Q (.fl (kvs.map (·.2))) G1
 | _=>False
theorem sB:∀ xs:List (List aB×MT×MS),Vals (xs.map fun x=>V.ref x.2.1) (xs.map fun x=>Value.ref x.2.1)
 | []=>.nil
 | _::r=>.cons rfl (sB r)
theorem Gr(hc:X.calm=true)(hg1:Gl X "list")(hm1:X.mg "list"=none)(ha:PE X a (aA X.K ta))(hs:M5 [a] X.env=(false,eval a X.env)::M5 [] X.env:=by rfl):
  PE X (.Call (.Name "list" p1) [a] [] pos) (aA X.K (Ba ta)):=by
 rintro pins s τ H Q I ⟨σ,G,Q3,rs,rg,h,k⟩
 refine Rh (gB I hg1 hm1 PyProof.Rows.boot_list (PyProof.Rows.callWith_type1 ?_ hs rfl) (by decide) (by decide))
 rw[hs];show MZ _ _ (spliced [(false,eval a X.env)]) _ _ _
 refine Oe (bZ (cE ha I rs rg h) fun ov s1 ⟨ox,H1,I1,rox,x,G1,q1,k1,rg1,rd1⟩=>OA ?_);cases x with
 | ref a=>
  obtain⟨hw,kvs,hga,q⟩:=q1;simp only[val,RD]at rd1;subst rd1;cases rox;obtain⟨hob,eo,ro⟩:=rg1 a _ hga;cases hob with
  | ext φ=>
   obtain⟨xs,rfl,rt,nd,len⟩:=ro;obtain⟨hsm,o1,es,ep,g1,g2,g3,g4⟩:=(show ba X.prog X.w H1 s1.heap a (.ext (pI hw a xs))from I1.hok a _ eo).1
   have lx:=rt.length;refine kdl_call (Eb (vs:=xs.map fun x=>Value.ref x.2.1) (ep:=ep) hsm) (I.ok.hd hc) (⟨o1,es,g1,g2,g3,by rw[g4,Nq];rfl⟩:jJ s1.heap a _ ep) (by rw[MY];omega) fun h' tk acc c' hk hS hacc=>?_
   exact v_ I1 (le_refl _) hk hS (by rw[zI rfl hacc];exact sB xs) (by rw[MY];omega) (Cq rt) k1 rg1 q k
  | _=>exact ro.elim
 | _=>exact q1.elim
theorem Gq{X:Cx}{o:Nh}{to:aV}{p1 apos cpos pos:Pos}(hc:X.calm=true)(hg1:Gl X "list")(hm1:X.mg "list"=none)(ho:PE X o (aA X.K to))
  (Sz:Op o "values" X.env (eval o X.env)=eval o X.env:=by rfl) (SG:(apos.endLine == cpos.line)=true:=by rfl):
  PE X (.Call (.Name "list" p1) [.Call (.Attribute o "values" apos) [] [] cpos] [] pos) (aA X.K (A_ to)):=by
 rintro pins s τ H Q I ⟨σ,G,Q3,rs,rg,h,k⟩
 refine Rh (gB I hg1 hm1 PyProof.Rows.boot_list (PyProof.Rows.callWith_type1 ?_ rfl rfl) (by decide) (by decide))
 show MZ _ _ (spliced [(false,eval (.Call (.Attribute o "values" apos) [] [] cpos) X.env)]) _ _ _
 refine Oe (Q7 Sz SG (bZ (cE ho I rs rg h) fun ov s1 ⟨ox,H1,I1,rox,x,G1,q1,k1,rg1,rd1⟩=>?_));cases x with
 | ref a=>
  obtain⟨hw,kvs,hga,q⟩:=q1;simp only[val,RD]at rd1;subst rd1;cases rox;obtain⟨hob,eo,ro⟩:=rg1 a _ hga;cases hob with
  | ext φ=>
   obtain⟨xs,rfl,rt,nd,len⟩:=ro;obtain⟨hsm,o1,es,ep,g1,g2,g3,g4⟩:=(show ba X.prog X.w H1 s1.heap a (.ext (pI hw a xs))from I1.hok a _ eo).1
   have dr:mz s1.heap a (xs.map fun x=>x.2.2) ep:=⟨o1,es,g1,g2,g3,by rw[g4,Nq];rfl⟩
   have lx:=rt.length;refine⟨"dict","dict.values",PySem.F.plainAttrs_dict,PySem.F.slot_dict_values,PySem.F.type_dict_values,dr.ty,fun b e=>?_,?_⟩
   ·cases e;exact⟨o1,g1,g2.2.1⟩
   ·refine Pe rfl (PySem.evalArgs_none (P7 PySem.F.slot_dict_values dr.ty PySem.F.entry_dict_values (PySem.F.args_dict_values_1 _) (tE hsm) ⟨⟨_,ep,dr⟩,?_⟩));refine OA ?_;obtain⟨vs,r1,r2⟩:=yT rt;have l2:=r2.length;rw[MY]at l2;refine kdl_call (BE (r:=s1.heap.objs.size) (d:=a) (vs:=xs.map fun x=>x.2.2) (ep:=ep)) (I.ok.hd hc) ⟨⟨_,M3 _ rfl,rfl,rfl⟩,dr.stay fun b e=>MX _ e⟩ (by rw[MY];omega) fun h' tk acc c' hk hS hacc=>?_
    have sz:(s1.heap.push { cls:=.type "dict_values",data:=.fields #[.ref a] }).objs.size=s1.heap.objs.size+1:=N8 ..;rw[show (⟨.type "dict_values",none,.fields #[.ref a],#[]⟩:Obj)={ cls:=.type "dict_values",data:=.fields #[.ref a] } from rfl]at hS ⊢
    exact v_ (s1:=s1) I1 (by rw[sz];exact QA _) (fun c o e=>hk c o (MX _ e)) hS (by rw[zI rfl hacc];exact r2) (by walk_at "o") r1 k1 rg1 q k
  | _=>exact ro.elim
 | _=>exact q1.elim
theorem Fk(ha:(a == NC)=false)(hb:(b == NC)=false)(x:jJ s.heap a vs ep)(y:jJ s.heap b [] ep')(hu:A.units < NF)(h:Q (.bool vs.isEmpty) s):MZ (M0 prog w) A (Nr .Eq (.ref a) (.ref b)) Q E s:=by
 refine wpAny_richCompare_same_room (op:=.Eq) x.ty y.ty PySem.F.slot_dict_eq (NY PySem.F.slot_dict_eq x.ty PySem.F.entry_dict_eq ?_ (PySem.F.args_dict_eq_2 _ _)) hu;show MZ _ _ (Q2 "__eq__" ⟨[.ref a,.ref b],[]⟩ >>= _) _ _ s
 refine MR ?_;unfold Q2;refine MR (Pf x.ty ?_);show MZ _ _ (pure (Value.ref a,Value.ref b)) _ _ s
 refine MV ?_;refine MR (PQ (T:="dict") y.ty PySem.F.sub_dict_dict ?_);simp only[Bool.not_true,Bool.false_eq_true,if_false];refine MR (MV (MR (MV ?_)));obtain⟨o1,es,e1,_,d1,rfl⟩:=x;obtain⟨o2,es',e2,_,d2,z⟩:=y;have z':es'.size=0:=by have:=congrArg List.length z;simpa using this
 refine MR ?_;unfold Builtin.Dict.samePairs OQ;rw[if_neg (by rw[ha];exact Bool.false_ne_true),if_neg (by rw[hb];exact Bool.false_ne_true)]
 refine MR (MV (MR (MV ?_)));refine MR (Oi e1 d1 ?_);refine MR (Oi e2 d2 ?_);have hne:∀ b:Bool,Value.bool b≠.notImplemented:=fun b x=>nomatch x
 by_cases hz:es.size=0
 ·rw[if_neg (by rw[hz,z'];decide)]
  refine MR (OO e1 d1 ?_);refine MR ?_;rw[Std.Legacy.Range.forIn_eq_forIn_range'];simp only[Std.Legacy.Range.size,Qy,Nat.add_sub_cancel,Nat.div_one,hz];refine MV (MV (MV ⟨_,rfl,hne _,?_⟩));have:es=#[]:=Array.eq_empty_of_size_eq_zero hz;subst this;exact h
 ·rw[if_pos (by simpa[z']using hz)]
  refine MR (PZ (MV (MV ⟨_,rfl,hne _,?_⟩)));have:(es.toList.map (·.key)).isEmpty=false:=by
   rw[List.isEmpty_map];exact Bool.eq_false_iff.mpr fun q=>hz (by simpa using q)
  rw[this]at h;exact h
def GC:R3:=fun x y G Q=>match x,y with
 | .ref a,.ref b=>∃ hw hw' kvs,G a=some (.dT hw kvs)/\G b=some (.dT hw' [])/\Q (.bl kvs.isEmpty) G
 | _,_=>False
theorem JT(hu:X.A.units+8 < NF):gf X (Nr .Eq) (iF X.K GC):=by
 rintro pins s σ H v u v' u' Q I rv ru ⟨x,y,G,Q3,rx,ry,rg,h,k⟩
 unfold GC at h;split at h
 ·rename_i a b;simp only[RD]at rx ry;subst rx ry;cases rv;cases ru;obtain⟨hw,hw',kvs,ga,gb,h⟩:=h;obtain⟨hob,eo,ro⟩:=rg a _ ga;obtain⟨hob',eo',ro'⟩:=rg b _ gb;cases hob with
  | ext φ=>
   cases hob' with
   | ext φ'=>
    obtain⟨xs,rfl,rt,nd,len⟩:=ro;obtain⟨xs',rfl,rt',_⟩:=ro';have l1:=rt.length;have l2:=rt'.length;obtain rfl:xs'=[]:=length_eq_zero_iff.mp l2.symm;obtain⟨hsm,o1,es,ep,g1,g2,g3,g4⟩:=(show ba X.prog X.w H s.heap a (.ext (pI hw a xs))from I.hok a _ eo).1
    obtain⟨hsm',o1',es',ep',g1',g2',g3',g4'⟩:=(show ba X.prog X.w H s.heap b (.ext (pI hw' b []))from I.hok b _ eo').1
    refine Fk hsm hsm' ⟨o1,es,g1,g2,g3,rfl⟩ ⟨o1',es',g1',g2',g3',by rw[g4'];rfl⟩ (by walk_at "o") ⟨.bl kvs.isEmpty,H,I,?_,k _ G _ H h Kp.refl rg (.of ff)⟩
    show _=_
    rw[List.isEmpty_map,g4,List.isEmpty_map];cases kvs<;>cases xs<;>first|rfl|cases l1
   | _=>exact ro'.elim
  | _=>exact ro.elim
 ·exact h.elim
end L3
namespace RQ
open PySem PySem.Spec PyProof.Rows L2 L3
section
variable{α:Type}
def eU(l:List (Sl×α))(k:Sl):Option α:=(l.find? fun p=>decide (p.1=k)).map (·.2)
def mi(l:List (Sl×α))(k:Sl)(v:α):List (Sl×α):=if (l.any fun p=>decide (p.1=k))=true then l.map (fun p=>if p.1=k then (p.1,v)else p)else l ++ [(k,v)]
def bP(l m:List (Sl×α)):List (Sl×α):=m.foldl (fun a p=>mi a p.1 p.2) l
def aN(f:α->D)(l:List (Sl×α)):List (List aB×D):=l.map fun p=>(p.1.key,f p.2)
theorem Ca(f:α->D)(k:Sl):∀ l:List (Sl×α),((aN f l).any fun kv=>decide (kv.1=k.key))=l.any fun p=>decide (p.1=k)
 | []=>rfl
 | p::r=>by
  have ih:=Ca f k r;unfold aN at ih ⊢;simp only[Nk,Qj,ih];congr 1
  by_cases e:p.1=k
  ·rw[decide_eq_true e,decide_eq_true (by rw[e])]
  ·rw[decide_eq_false e,decide_eq_false (fun z=>e (Sl.key_inj z))]
theorem zd(f:α->D)(l:List (Sl×α))(k:Sl)(v:α):bg (aN f l) k.key (f v)=aN f (mi l k v):=by
 unfold bg mi;rw[Ca];split
 ·unfold aN;rw[Nq,Nq];refine Ot fun p _=>?_;simp only[Function.comp]
  by_cases e:p.1=k
  ·rw[if_pos e,if_pos (by rw[e])]
  ·rw[if_neg e,if_neg (fun z=>e (Sl.key_inj z))]
 ·unfold aN;rw[NP];rfl
theorem B_(f:α->D)(k:Sl):∀ l:List (Sl×α),bL (aN f l) k.key=(eU l k).map f
 | []=>rfl
 | p::r=>by
  have ih:=B_ f k r;unfold aN eU bL at *
  by_cases e:p.1=k
  ·simp[Nw,e]
  ·have e':¬ p.1.key=k.key:=fun z=>e (Sl.key_inj z);simp only[Nk,Nw,decide_eq_false e,decide_eq_false e'];exact ih
theorem uE(f:α->D)(m:List (Sl×α)):dictOf (aN f m)=aN f (bP [] m):=by
 unfold dictOf bP;have:∀ (m l:List (Sl×α)),(aN f m).foldl (fun a kv=>bg a kv.1 kv.2) (aN f l)=aN f (m.foldl (fun a p=>mi a p.1 p.2) l):=by
  intro m
  induction m with
  | nil=>intro l;rfl
  | cons p r ih=>
   intro l;unfold aN at ih ⊢;simp only[Nk,P6];have:=zd f l p.1 p.2;unfold aN at this;rw[this];exact ih _
 exact this m []
theorem Hh(l:List (Sl×α))(k j:Sl)(v:α):eU (mi l k v) j=if j=k then some v else eU l j:=by
 unfold mi;split
 ·rename_i h
  induction l with
  | nil=>simp at h
  | cons p r ih=>
   simp only[Nk,eU,Nw]
   by_cases e:p.1=k
   ·rw[if_pos e]
    by_cases ej:j=k
    ·rw[if_pos ej];simp[e,ej]
    ·rw[if_neg ej];have e2:¬ p.1=j:=fun z=>ej (z.symm.trans e);simp only[decide_eq_false e2];clear ih h
     induction r with
     | nil=>rfl
     | cons q t ih2=>
      simp only[Nk,Nw]
      by_cases e3:q.1=k
      ·rw[if_pos e3];have e4:¬ q.1=j:=fun z=>ej (z.symm.trans e3);simp only[decide_eq_false e4];exact ih2
      ·rw[if_neg e3]
       by_cases e4:q.1=j
       ·simp[e4]
       ·simp only[decide_eq_false e4];exact ih2
   ·rw[if_neg e];simp only[Qj,decide_eq_false e,Bool.false_or]at h;have ih':=ih h;unfold eU at ih'
    by_cases e2:p.1=j
    ·have ej:¬ j=k:=fun z=>e (e2.trans z);rw[if_neg ej];simp[e2]
    ·simp only[decide_eq_false e2];exact ih'
 ·rename_i h;have hn:∀ p∈l,p.1≠k:=fun p hp z=>h (List.any_eq_true.mpr ⟨p,hp,decide_eq_true z⟩);unfold eU;rw[List.find?_append]
  by_cases ej:j=k
  ·rw[if_pos ej];have:l.find? (fun p=>decide (p.1=j))=none:=List.find?_eq_none.mpr fun p hp=>by simpa using fun z=>hn p hp (z.trans ej)
   rw[this];simp[ej]
  ·rw[if_neg ej];cases l.find? (fun p=>decide (p.1=j)) with
   | some p=>rfl
   | none=>
    have ek:¬ k=j:=fun z=>ej z.symm;simp[ek]
theorem Ef{l:List (Sl×α)}{k:Sl}{v:α}{p:Sl×α}(h:p∈mi l k v):p∈l\/p=(k,v):=by
 unfold mi at h;split at h
 ·obtain⟨q,hq,e⟩:=mem_map.mp h;split at e
  ·rename_i z;exact .inr (by rw[<- e,z])
  ·exact .inl (e ▸ hq)
 ·rcases R6.mp h with h|h
  ·exact .inl h
  ·exact .inr (Q6.mp h)
theorem Ct:∀ {l:List (Sl×α)} {p:Sl×α},p∈bP l m->p∈l\/p∈m:=by
 induction m with
 | nil=>intro l p h;exact .inl h
 | cons q r ih=>
  intro l p h;rcases ih (l:=mi l q.1 q.2) h with h|h
  ·rcases Ef h with h|h
   ·exact .inl h
   ·exact .inr (h ▸ M_)
  ·exact .inr (M7 _ h)
theorem Hi{l:List (Sl×α)}{k:Sl}{v:α}(h:eU l k=some v):(k,v)∈l:=by
 unfold eU at h;cases e:l.find? fun p=>decide (p.1=k) with
 | none=>rw[e]at h;cases h
 | some p=>
  rw[e]at h;cases h;have h1:=List.mem_of_find?_eq_some e;have h2:=List.find?_some e;have:p.1=k:=of_decide_eq_true h2;rw[<- this];exact h1
theorem Fx{l:List (Sl×α)}{p:Sl×α}(h:p∈l):∃ v,eU l p.1=some v:=by
 unfold eU;cases e:l.find? fun q=>decide (q.1=p.1) with
 | none=>exact absurd (List.find?_eq_none.mp e p h) (by simp)
 | some q=>exact⟨q.2,rfl⟩
theorem Eg(l:List (Sl×α))(k:Sl)(v:α):(mi l k v).length<=l.length+1:=by
 unfold mi;split<;>simp
theorem eY(m:List (Sl×α)):∀ l:List (Sl×α),(bP l m).length<=l.length+m.length:=by
 induction m with
 | nil=>intro l;exact le_refl _
 | cons p r ih=>
  intro l;have h1:=ih (mi l p.1 p.2);have h2:=Eg l p.1 p.2;show (bP (mi l p.1 p.2) r).length<=_
  rw[Nc];omega
theorem fi(l a b:List (Sl×α)):bP l (a ++ b)=bP (bP l a) b:=by unfold bP;rw[List.foldl_append]
theorem nv(l a:List (Sl×α))(p:Sl×α):bP l (a ++ [p])=mi (bP l a) p.1 p.2:=by rw[fi];rfl
end
def LR(c:Nat):Str:=⟨#[c]⟩
def Cm(x:Str):List Str:=x.cps.toList.map LR
def gT(s:Sk):List (Sl×Str):=match s.act with
 | .put _ x=>(made s).zip (Cm x)
 | _=>[]
def iR(s:Sk):List (Sl×Unit):=match s.act with
 | .strike ns=>ns.map fun n=>(n,())
 | _=>[]
def m9(s:Sk):List (Sl×Sl):=match s.act with
 | .move ns _=>ns.zip (made s)
 | _=>[]
def pM(s:Sk):List (Sl×Str):=match s.act with
 | .dress ns w=>ns.map fun n=>(n,w)
 | _=>[]
def Sk.wd(s:Sk):Nat:=match s.act with
 | .put _ x=>x.length
 | .strike ns=>ns.length
 | .dress ns _=>ns.length
 | .move ns _=>ns.length
def aG(x:Str)(o:List Sk):List (Sl×Str):=bP [] ((fK x.length).zip (Cm x) ++ o.flatMap gT)
def bB(o:List Sk):List (Sl×Unit):=bP [] (o.flatMap iR)
def cV(o:List Sk):List (Sl×Sl):=bP [] (o.flatMap m9)
def fT(o:List Sk):List (Sl×Str):=bP [] (o.flatMap pM)
abbrev Nm:=Str×Int
def Nm.d(n:Nm):D:=.tup [.str n.1,.int n.2]
def Nm.key(n:Nm):List aB:=[.inr n.1,.inl n.2]
def Sk.nm(s:Sk):Nm:=(s.pen,s.num)
def jv(row:List Sl)(s:Sk):Bool:=(made s).all fun x=>decide (x∈row)
def jl(out:List Sk)(names:List Nm)(row:List Sl):List Sk:=(out.filter fun s=>decide (s.nm∈names)).filter (jv row)
def cP(x:Str)(w:List Sk):List (Sl×Sl):=bP [] (((aG x w).filter fun p=>(eU (bB w) p.1).isNone).map fun p=>((eU (cV w) p.1).getD p.1,p.1))
set_option genInjectivity false in
structure Seat where
 slot:Sl
 name:Sl
 sign:Str
 word:Str
def Seat.d(s:Seat):D:=.tup [s.slot.d,s.name.d,.str s.sign,.str s.word]
def lV(x:Str)(w:List Sk)(row:List Sl):List (Sl×Sl):=row.filterMap fun s=>(eU (cP x w) s).map fun n=>(s,n)
def lU(x:Str)(out:List Sk)(names:List Nm):List Seat:=
 (lV x (jl out names (iw x.length out)) (iw x.length out)).map fun p=>⟨p.1,p.2,(eU (aG x (jl out names (iw x.length out))) p.2).getD "",(eU (fT (jl out names (iw x.length out))) p.2).getD ""⟩
def eQ(i:Nat):No:=PySem.Challenge.pw_redquill_k53_decided_one_by_one.main.body.getD i (.Pass ⟨0,0,0,0⟩)
def k_STANDS:D:=.str "stands"
def k_START:D:=.tup [.str "",.int 0,.int 0]
def k_WAITS:D:=.str "waits"
def k_WIPED:D:=.str "wiped"
theorem uu:fC Aa0 [a0,a1,a2,a3] "name"=some a0:=by kernel_rfl
theorem ut:fC Aa0 [a0,a1,a2,a3] "time"=some a1:=by kernel_rfl
theorem qD:fC Aa0 [a0,a1,a2,a3] "anchor"=some a2:=by kernel_rfl
theorem r8:fC Aa0 [a0,a1,a2,a3] "names"=some a3:=by kernel_rfl
theorem xb:i_ [] "name"=(["name"]:List Str):=by kernel_rfl
theorem xi:h9 [] [] "name" x=[x]:=by kernel_rfl
theorem xa:i_ ["name"] "time"=(["name","time"]:List Str):=by kernel_rfl
theorem xh:h9 ["name"] [a0] "time" x=[a0,x]:=by kernel_rfl
theorem w_:i_ ["name","time"] "anchor"=(AG0:List Str):=by kernel_rfl
theorem xg:h9 ["name","time"] [a0,a1] "anchor" x=[a0,a1,x]:=by kernel_rfl
theorem w8:i_ AG0 "names"=(Aa0:List Str):=by kernel_rfl
theorem xf:h9 AG0 [a0,a1,a2] "names" x=[a0,a1,a2,x]:=by kernel_rfl
theorem zO:fC Ag0 [a0,a1,a2,a3,a4] "name"=some a0:=by kernel_rfl
theorem zN:fC Ag0 [a0,a1,a2,a3,a4] "time"=some a1:=by kernel_rfl
theorem vy:fC Ag0 [a0,a1,a2,a3,a4] "anchor"=some a2:=by kernel_rfl
theorem xH:fC Ag0 [a0,a1,a2,a3,a4] "signs"=some a4:=by kernel_rfl
theorem CA:i_ Aa0 "anchor"=(Aa0:List Str):=by kernel_rfl
theorem CD:h9 Aa0 [a0,a1,a2,a3] "anchor" x=[a0,a1,x,a3]:=by kernel_rfl
theorem Cz:i_ Aa0 "signs"=(Ag0:List Str):=by kernel_rfl
theorem CC:h9 Aa0 [a0,a1,a2,a3] "signs" x=[a0,a1,a2,a3,x]:=by kernel_rfl
theorem xc:i_ Aa0 "names"=(Aa0:List Str):=by kernel_rfl
theorem xj:h9 Aa0 [a0,a1,a2,a3] "names" x=[a0,a1,a2,x]:=by kernel_rfl
theorem vB:fC Ah0 [a0,a1,a2,a3,a4] "name"=some a0:=by kernel_rfl
theorem vA:fC Ah0 [a0,a1,a2,a3,a4] "time"=some a1:=by kernel_rfl
theorem uv:fC Ah0 [a0,a1,a2,a3,a4] "names"=some a3:=by kernel_rfl
theorem vz:fC Ah0 [a0,a1,a2,a3,a4] "word"=some a4:=by kernel_rfl
theorem zf:i_ Aa0 "word"=(Ah0:List Str):=by kernel_rfl
theorem zg:h9 Aa0 [a0,a1,a2,a3] "word" x=[a0,a1,a2,a3,x]:=by kernel_rfl
def aq:List Str:=["old","drawn","states","greatest","time"]
theorem pC:vJ aq "old" 0:=pc (by decide +kernel)
theorem dj:vJ aq "drawn" 1:=pc (by decide +kernel)
theorem bq:vJ aq "states" 2:=pc (by decide +kernel)
theorem iH:vJ aq "greatest" 3:=pc (by decide +kernel)
theorem mZ:vJ aq "time" 4:=pc (by decide +kernel)
theorem jf:("strokes":Str)∉aq:=by decide +kernel
theorem cR:("check_known":Str)∉aq:=by decide +kernel
theorem fo:("state":Str)∉aq:=by decide +kernel
theorem mj:("strokes_in":Str)∉aq:=by decide +kernel
theorem jd:("waiting":Str)∉aq:=by decide +kernel
theorem je:("unwiped":Str)∉aq:=by decide +kernel
theorem mV:("view":Str)∉aq:=by decide +kernel
theorem fq:("seats":Str)∉aq:=by decide +kernel
theorem d5:("coming_name":Str)∉aq:=by decide +kernel
theorem d4:("coming_time":Str)∉aq:=by decide +kernel
theorem iN:("draw":Str)∉aq:=by decide +kernel
theorem xv:("put":Str)∉aq:=by decide +kernel
theorem rS:("strike":Str)∉aq:=by decide +kernel
theorem vd:("move":Str)∉aq:=by decide +kernel
theorem cQ:("check_waits":Str)∉aq:=by decide +kernel
theorem nA:("let_stand":Str)∉aq:=by decide +kernel
theorem mU:("wipe":Str)∉aq:=by decide +kernel
theorem ml:("leaning_on":Str)∉aq:=by decide +kernel
abbrev cu:No:=aM (eQ 4) 0
theorem kR:FnScope Ap0 Ap0 (ah cu):=by walk_at "j"
abbrev cB:No:=aM (eQ 5) 0
theorem ma:FnScope Ap0 Ap0 (ah cB):=by walk_at "j"
abbrev qQ:No:=eQ 8
theorem wP:FnScope ["at","length"] ["at","length"] (ah qQ):=by walk_at "j"
abbrev jQ:No:=eQ 9
theorem pR:FnScope AP0 AP0 (ah jQ):=by walk_at "j"
abbrev n6:No:=eQ 12
theorem uU:FnScope Aw0 Aw0 (ah n6):=by walk_at "j"
theorem rT:((["k"]:List Str) ++ (Aw0:List Str)).Nodup:=by decide +kernel
abbrev qM:No:=eQ 18
theorem gO:FnScope ["row","name","time","act"] Av0 (ah qM):=by walk_at "j"
abbrev iS:No:=eQ 19
theorem nU:FnScope Av0 Av0 (ah iS):=by walk_at "j"
abbrev sP:No:=eQ 20
theorem kO:FnScope ["rows","by_name","row"] ["rows"] (ah sP):=by walk_at "j"
abbrev qN:No:=eQ 22
theorem wN:FnScope ["old"] ["old"] (ah qN):=by walk_at "j"
abbrev n8:No:=eQ 23
theorem fO:FnScope AA0 ["following","anchor","slots"] (ah n8):=by walk_at "j"
abbrev vX:No:=eQ 24
theorem jq:FnScope ["following","row","slot"] ["following"] (ah vX):=by walk_at "j"
abbrev sO:No:=eQ 25
theorem kN:FnScope Al0 ["old","strokes"] (ah sO):=by walk_at "j"
theorem ve:((Av0:List Str) ++ (Al0:List Str)).Nodup:=by decide +kernel
abbrev yQ:No:=eQ 27
theorem Cp:FnScope ["keys"] ["keys"] (ah yQ):=by walk_at "j"
theorem zl:((["key"]:List Str) ++ (["keys"]:List Str)).Nodup:=by decide +kernel
abbrev qO:No:=eQ 28
theorem wO:FnScope Ax0 Ax0 (ah qO):=by walk_at "j"
theorem tR:((["slot"]:List Str) ++ (Ax0:List Str)).Nodup:=by decide +kernel
abbrev qP:No:=eQ 29
theorem jp:FnScope Af0 ["strokes","standing","in_row"] (ah qP):=by walk_at "j"
theorem tT:((Av0:List Str) ++ (Af0:List Str)).Nodup:=by decide +kernel
theorem tS:((["stroke"]:List Str) ++ (Af0:List Str)).Nodup:=by decide +kernel
abbrev jO:No:=eQ 30
theorem db:FnScope Au0 ["old","strokes"] (ah jO):=by walk_at "j"
abbrev kS:No:=eQ 31
theorem eK:FnScope AH0 ["strokes"] (ah kS):=by walk_at "j"
abbrev mE:No:=eQ 32
theorem dS:FnScope AD0 ["strokes"] (ah mE):=by walk_at "j"
abbrev nZ:No:=eQ 33
theorem fN:FnScope ["strokes","worn","stroke","name"] ["strokes"] (ah nZ):=by walk_at "j"
abbrev yP:No:=eQ 34
theorem dJ:FnScope Ac0 Ak0 (ah yP):=by walk_at "j"
theorem zk:((["slot"]:List Str) ++ (Ac0:List Str)).Nodup:=by decide +kernel
theorem qZ:((["slot","name"]:List Str) ++ (Aj0:List Str)).Nodup:=by decide +kernel
abbrev vV:No:=eQ 35
theorem Aw:FnScope Ak0 Ak0 (ah vV):=by walk_at "j"
theorem xw:((["seat"]:List Str) ++ (Ak0:List Str)).Nodup:=by decide +kernel
abbrev qR:No:=eQ 40
theorem wQ:FnScope ["seats","at"] ["seats","at"] (ah qR):=by walk_at "j"
abbrev jP:No:=eQ 41
theorem pQ:FnScope Ay0 Ay0 (ah jP):=by walk_at "j"
theorem nB:((["seat"]:List Str) ++ (Ay0:List Str)).Nodup:=by decide +kernel
abbrev kX:No:=eQ 44
theorem rK:FnScope AI0 AI0 (ah kX):=by walk_at "j"
abbrev mF:No:=eQ 45
theorem dU:FnScope Ao0 ["_law_cell","_law_many"] (ah mF):=by walk_at "j"
abbrev qS:No:=eQ 46
theorem fc:FnScope An0 ["_law_paper","_law_xs"] (ah qS):=by walk_at "j"
abbrev oa:No:=eQ 47
theorem dL:FnScope At0 ["_law_paper","_law_name","_law_word"] (ah oa):=by walk_at "j"
abbrev kW:No:=eQ 48
theorem cN:FnScope AC0 ["_law_paper","_law_name"] (ah kW):=by walk_at "j"
abbrev kU:No:=eQ 49
theorem dD:FnScope Am0 ["_law_paper","_law_states","_law_name","_law_word"] (ah kU):=by walk_at "j"
abbrev n_:No:=eQ 50
theorem mC:FnScope Ab0 ["_law_paper","_law_states","_law_old"] (ah n_):=by walk_at "j"
theorem rW:((AF0:List Str) ++ (Ab0:List Str)).Nodup:=by decide +kernel
theorem rV:((AF0:List Str) ++ (Ab0:List Str)).Nodup:=by decide +kernel
theorem rU:((AF0:List Str) ++ (Ab0:List Str)).Nodup:=by decide +kernel
abbrev vW:No:=eQ 51
theorem gX:FnScope Ai0 ["_law_script"] (ah vW):=by walk_at "j"
abbrev fe:No:=aM (eQ 13) 0
theorem ni:FnScope AN0 AN0 (ah fe):=by walk_at "j"
abbrev dW:No:=aM (eQ 13) 1
theorem rL:FnScope Ad0 Ad0 (ah dW):=by walk_at "j"
abbrev bX:No:=aM (eQ 13) 2
theorem nV:FnScope Ad0 Ad0 (ah bX):=by walk_at "j"
abbrev kY:No:=aM (eQ 14) 0
theorem rM:FnScope Aq0 Aq0 (ah kY):=by walk_at "j"
abbrev qT:No:=aM (eQ 14) 1
theorem wR:FnScope Ad0 Ad0 (ah qT):=by walk_at "j"
abbrev vY:No:=aM (eQ 14) 3
theorem Ax:FnScope Ad0 Ad0 (ah vY):=by walk_at "j"
abbrev iq:No:=aM (eQ 15) 0
theorem nj:FnScope AB0 AB0 (ah iq):=by walk_at "j"
abbrev og:No:=aM (eQ 15) 1
theorem uV:FnScope Ad0 Ad0 (ah og):=by walk_at "j"
abbrev iU:No:=aM (eQ 16) 0
theorem nY:FnScope As0 As0 (ah iU):=by walk_at "j"
abbrev qV:No:=aM (eQ 16) 1
theorem wS:FnScope Ad0 Ad0 (ah qV):=by walk_at "j"
abbrev jU:No:=aM (eQ 17) 0
theorem pV:FnScope Ar0 Ar0 (ah jU):=by walk_at "j"
abbrev oq:No:=aM (eQ 17) 1
theorem uY:FnScope Ad0 Ad0 (ah oq):=by walk_at "j"
abbrev sQ:No:=aM (eQ 17) 2
theorem yO:FnScope Ad0 Ad0 (ah sQ):=by walk_at "j"
abbrev iT:No:=aM (eQ 42) 0
theorem nX:FnScope ["self","old"] ["self","old"] (ah iT):=by walk_at "j"
abbrev jT:No:=aM (eQ 42) 2
theorem pU:FnScope Ad0 Ad0 (ah jT):=by walk_at "j"
abbrev gK:No:=aM (eQ 42) 5
theorem fV:FnScope Ae0 Ae0 (ah gK):=by walk_at "j"
abbrev mG:No:=aM (eQ 42) 6
theorem gY:FnScope Ae0 Ae0 (ah mG):=by walk_at "j"
abbrev g6:No:=aM (eQ 42) 7
theorem l9:FnScope AE0 AE0 (ah g6):=by walk_at "j"
theorem kA:((Av0:List Str) ++ (AE0:List Str)).Nodup:=by decide +kernel
abbrev jR:No:=aM (eQ 42) 8
theorem pS:FnScope Ad0 Ad0 (ah jR):=by walk_at "j"
theorem nC:((Av0:List Str) ++ (Ad0:List Str)).Nodup:=by decide +kernel
abbrev jS:No:=aM (eQ 42) 10
theorem pT:FnScope Ad0 Ad0 (ah jS):=by walk_at "j"
theorem nE:((Av0:List Str) ++ (Ad0:List Str)).Nodup:=by decide +kernel
abbrev oj:No:=aM (eQ 42) 11
theorem uW:FnScope Ad0 Ad0 (ah oj):=by walk_at "j"
abbrev mH:No:=aM (eQ 42) 12
theorem sN:FnScope Ad0 Ad0 (ah mH):=by walk_at "j"
abbrev gI:No:=aM (eQ 42) 13
theorem kQ:FnScope ["self","pen"] ["self","pen"] (ah gI):=by walk_at "j"
abbrev gH:No:=aM (eQ 42) 14
theorem kP:FnScope Ad0 Ad0 (ah gH):=by walk_at "j"
abbrev oo:No:=aM (eQ 42) 15
theorem uX:FnScope Ap0 Ap0 (ah oo):=by walk_at "j"
abbrev qU:No:=aM (eQ 42) 16
theorem nW:FnScope ["self","pen","at","signs","seats"] ["self","pen","at","signs"] (ah qU):=by walk_at "j"
abbrev kZ:No:=aM (eQ 42) 17
theorem jN:FnScope ["self","pen","at","to","seats"] ["self","pen","at","to"] (ah kZ):=by walk_at "j"
abbrev on:No:=aM (eQ 42) 19
theorem iL:FnScope Az0 ["self","pen","at","to","goal"] (ah on):=by walk_at "j"
abbrev gJ:No:=aM (eQ 42) 21
theorem fU:FnScope Ae0 Ae0 (ah gJ):=by walk_at "j"
abbrev ir:No:=aM (eQ 42) 22
theorem gZ:FnScope Ae0 Ae0 (ah ir):=by walk_at "j"
abbrev oh:No:=aM (eQ 42) 23
theorem mD:FnScope Ae0 Ae0 (ah oh):=by walk_at "j"
abbrev g_:No:=aM (eQ 42) 24
theorem l_:FnScope Ae0 Ae0 (ah g_):=by walk_at "j"
def bf(_:Zz)(_:HW):cG:=fun ds G Q=>match ds with
 | [d]=>∃ r:Rw,d=r.d/\Q r.key G
 | _=>False
def gv(G G':Gp):Prop:=∀ a o,G a=some o->G' a=some o
theorem gv.refl:gv G G:=fun _ _ h=>h
theorem gv.trans(a:gv G G1)(b:gv G1 G2):gv G G2:=fun x o h=>b x o (a x o h)
theorem gv.gset(a:gv G G1)(hp:G p=none):gv G (gset G1 p o):=fun x y h=>by
 have:x≠p:=fun z=>by subst z;rw[hp]at h;cases h
 rw[ai this];exact a x y h
def dQ(_:Zz)(_:HW):cG:=fun ds G Q=>match ds with
 | [.ref q]=>∃ rs base:List Rw,(G q=some (.lst (rs.map Rw.d))/\l7 rs/\rs.length<=1000/\base.length < 64/\∀ r∈rs,r∈base)/\∀ out G',gv G G'->gC out->(∀ r,r∈out↔r∈rs)->Q (.fl (out.map Rw.d)) G'
 | _=>False
structure Zz where
 (Z1 Z2 Z3 Z4 Z5 C_Paper:MT)
abbrev Zz.F(z:Zz):List MT:=[z.Z1,z.Z2,z.Z3,z.Z4,z.Z5]
def eV(zF:Zz)(hw:HW):cG:=fun ds G Q=>match ds with
 | [.str x,.ref q]=>∃ sks base:List Sk,(G q=some (.lst (sks.map Sk.d))/\x.length<=1000/\l7 (sks.map Sk.rw)/\sks.length<=1000/\base.length < 64/\(∀ s∈sks,s∈base)/\∀ s∈sks,s.ok)/\
   ∀ out G',gv G G'->gC (out.map Sk.rw)->(∀ s,s∈out↔s∈sks)->Q (.fl ((iw x.length out).map Sl.d)) G'
 | _=>False
def cw(_:Zz)(_:HW):cG:=fun ds G Q=>match ds with
 | [.tup [.str p,.int n],.int m]=>(0<=m/\m<=1000)/\Q (.fl ((dZ p n m.toNat).map Sl.d)) G
 | _=>False
def aS(zF:Zz)(s:Sk):GO:=match s.act with
 | .put a x=>.ins zF.Z2 Ag0 [.tup [.str s.pen,.int s.num],.int s.time,a.d,.tup [],.str x]
 | .strike ns=>.ins zF.Z3 Aa0 [.tup [.str s.pen,.int s.num],.int s.time,aE.d,.tup (ns.map Sl.d)]
 | .dress ns w=>.ins zF.Z4 Ah0 [.tup [.str s.pen,.int s.num],.int s.time,aE.d,.tup (ns.map Sl.d),.str w]
 | .move ns a=>.ins zF.Z5 Aa0 [.tup [.str s.pen,.int s.num],.int s.time,a.d,.tup (ns.map Sl.d)]
def aQ(zF:Zz)(hw:HW):cG:=fun ds G Q=>match ds with
 | [.ref a,d,.int t]=>(∃ C,C∈zF.F/\G a=some (.ins C [] [])/\∃ p n,d=.tup [.str p,.int n]/\Q .non (gset G a (.ins C Aa0 [d,.int t,aE.d,.tup []])))
 | _=>False
def cm(zF:Zz)(hw:HW):cG:=fun ds G Q=>match ds with
 | [.ref a,d,.int t,b,.str x]=>G a=some (.ins zF.Z2 [] [])/\∃ p n s,d=.tup [.str p,.int n]/\b=Sl.d s/\Q .non (gset G a (.ins zF.Z2 Ag0 [d,.int t,b,.tup [],.str x]))
 | _=>False
def bu(zF:Zz)(hw:HW):cG:=fun ds G Q=>match ds with
 | [.ref a,d,.int t,.tup ns]=>G a=some (.ins zF.Z3 [] [])/\∃ p n,d=.tup [.str p,.int n]/\Q .non (gset G a (.ins zF.Z3 Aa0 [d,.int t,aE.d,.tup ns]))
 | _=>False
def ce(zF:Zz)(hw:HW):cG:=fun ds G Q=>match ds with
 | [.ref a,d,.int t,.tup ns,.str w]=>G a=some (.ins zF.Z4 [] [])/\∃ p n,d=.tup [.str p,.int n]/\Q .non (gset G a (.ins zF.Z4 Ah0 [d,.int t,aE.d,.tup ns,.str w]))
 | _=>False
def bW(zF:Zz)(hw:HW):cG:=fun ds G Q=>match ds with
 | [.ref a,d,.int t,.tup ns,b]=>G a=some (.ins zF.Z5 [] [])/\∃ p n s,d=.tup [.str p,.int n]/\b=Sl.d s/\Q .non (gset G a (.ins zF.Z5 Aa0 [d,.int t,b,.tup ns]))
 | _=>False
def dq(zF:Zz)(hw:HW):cG:=fun ds G Q=>match ds with
 | [d]=>∃ s:Sk,d=s.d/\∀ p,G p=none->Q (.ref p) (gset G p (aS zF s))
 | _=>False
def az(_:Zz)(_:HW):cG:=fun ds G Q=>match ds with
 | [.ref _]=>Q (.fl []) G
 | _=>False
def bC(zF:Zz)(hw:HW):cG:=fun ds G Q=>match ds with
 | [.ref a]=>∃ (s:Sk) (b:Sl) (x:Str),(s.act=.put b x/\G a=some (aS zF s)/\x.length<=1000)/\Q (.fl ((made s).map Sl.d)) G
 | _=>False
def bn(zF:Zz)(hw:HW):cG:=fun ds G Q=>match ds with
 | [.ref a]=>∃ (s:Sk) (b:Sl) (ns:List Sl),(s.act=.move ns b/\G a=some (aS zF s)/\ns.length<=1000)/\Q (.fl ((made s).map Sl.d)) G
 | _=>False
def du(_:Zz)(_:HW):cG:=fun ds G Q=>match ds with
 | [.str x]=>x.length<=1000/\Q (.fl ((fK x.length).map Sl.d)) G
 | _=>False
def cW(zF:Zz)(hw:HW):cG:=fun ds G Q=>match ds with
 | [.ref p,a,.lst xs]=>∃ (b:Sl) (ss W:List Sl) (kvs:List (List aB×D)),(a=b.d/\xs=ss.map Sl.d/\G p=some (.dT hw kvs)/\Dq kvs W/\b∈W/\ss.Nodup/\(∀ x∈ss,x∉W)/\W.length+ss.length<=900000)/\
   ∀ SK,Dq SK (bO W b ss)->Q .non (gset G p (.dT hw SK))
 | _=>False
def fH(zF:Zz)(hw:HW):cG:=fun ds G Q=>match ds with
 | [.ref p]=>∃ (R:List Sl) (kvs:List (List aB×D)),(G p=some (.dT hw kvs)/\Dq kvs (aE::R)/\R.length<=900000)/\Q (.fl (R.map Sl.d)) G
 | _=>False
def iP(zF:Zz)(G:Gp)(ps:List MT)(o:List Sk):Prop:=ps.length=o.length/\∀ (j:Nat) p s,ps[j]?=some p->o[j]?=some s->G p=some (aS zF s)
def wA(o:List Sk):Prop:=o.length<=64/\∀ s∈o,s.wd<=1000
def fG(zF:Zz)(hw:HW):cG:=fun ds G Q=>match ds with
 | [.lst xs]=>(∃ ss:List Sl,(xs=ss.map Sl.d/\ss.length<=900000)/\∀ p,G p=none->Q (.ref p) (gset G p (.dT hw (aN (fun _=>.bl true) (bP [] (ss.map fun s=>(s,())))))))\/
   ∃ ns:List Nm,(xs=ns.map Nm.d/\ns.length<=900000)/\∀ p,G p=none->Q (.ref p) (gset G p (.dT hw (dictOf (ns.map fun n=>(n.key,.bl true)))))
 | _=>False
def d_(zF:Zz)(hw:HW):cG:=fun ds G Q=>match ds with
 | [.ref a,.ref p]=>∃ (s:Sk) (row:List (Sl×Unit)),(G a=some (aS zF s)/\s.wd<=1000/\G p=some (.dT hw (aN (fun _=>.bl true) row)))/\Q (.bl ((made s).all fun x=>(eU row x).isSome)) G
 | _=>False
def cA(zF:Zz)(hw:HW):cG:=fun ds G Q=>match ds with
 | [.str x,.lst xs]=>∃ (ps:List MT) (o:List Sk),(xs=ps.map D.ref/\iP zF G ps o/\wA o/\x.length<=1000)/\∀ p,G p=none->Q (.ref p) (gset G p (.dT hw (aN D.str (aG x o))))
 | _=>False
def ao(zF:Zz)(hw:HW):cG:=fun ds G Q=>match ds with
 | [.ref a]=>∃ (s:Sk) (ns:List Sl),((s.act=.strike ns\/(∃ w,s.act=.dress ns w)\/∃ b,s.act=.move ns b)/\G a=some (aS zF s)/\ns.length<=1000)/\Q (.fl (ns.map Sl.d)) G
 | _=>False
def cJ(zF:Zz)(hw:HW):cG:=fun ds G Q=>match ds with
 | [.lst xs]=>∃ (ps:List MT) (o:List Sk),(xs=ps.map D.ref/\iP zF G ps o/\wA o)/\∀ p,G p=none->Q (.ref p) (gset G p (.dT hw (aN (fun _=>.bl true) (bB o))))
 | _=>False
def c_(zF:Zz)(hw:HW):cG:=fun ds G Q=>match ds with
 | [.lst xs]=>∃ (ps:List MT) (o:List Sk),(xs=ps.map D.ref/\iP zF G ps o/\wA o)/\∀ p,G p=none->Q (.ref p) (gset G p (.dT hw (aN Sl.d (cV o))))
 | _=>False
def dG(zF:Zz)(hw:HW):cG:=fun ds G Q=>match ds with
 | [.lst xs]=>∃ (ps:List MT) (o:List Sk),(xs=ps.map D.ref/\iP zF G ps o/\wA o)/\∀ p,G p=none->Q (.ref p) (gset G p (.dT hw (aN D.str (fT o))))
 | _=>False
def ee(zF:Zz)(hw:HW):cG:=fun ds G Q=>match ds with
 | [.ref q,.lst ns,.ref p]=>∃ (sks base:List Sk) (names:List Nm) (row:List Sl),(G q=some (.lst (sks.map Sk.d))/\l7 (sks.map Sk.rw)/\sks.length<=1000/\base.length < 64/\(∀ s∈sks,s∈base)/\(∀ s∈sks,s.wd<=1000)/\ns=names.map Nm.d/\names.length<=900000/\G p=some (.dT hw (aN (fun _=>.bl true) (bP [] (row.map fun s=>(s,()))))))/\
   ∀ out ps G',gv G G'->gC (out.map Sk.rw)->(∀ s,s∈out↔s∈sks)->iP zF G' ps (jl out names row)->Q (.fl (ps.map D.ref)) G'
 | _=>False
def eW(zF:Zz)(hw:HW):cG:=fun ds G Q=>match ds with
 | [.str x,.ref q,.lst ns]=>∃ (sks base:List Sk) (names:List Nm),(G q=some (.lst (sks.map Sk.d))/\x.length<=1000/\l7 (sks.map Sk.rw)/\sks.length<=1000/\base.length < 64/\(∀ s∈sks,s∈base)/\(∀ s∈sks,1<=s.num/\s.wd<=1000)/\ns=names.map Nm.d/\names.length<=900000)/\
   ∀ out G',gv G G'->gC (out.map Sk.rw)->(∀ s,s∈out↔s∈sks)->Q (.fl ((lU x out names).map Seat.d)) G'
 | _=>False
def Seat.d3(s:Seat):D:=.tup [s.name.d,.str s.sign,.str s.word]
def eR(zF:Zz)(hw:HW):cG:=fun ds G Q=>match ds with
 | [.str x,.ref q,.lst ns]=>∃ (sks base:List Sk) (names:List Nm),(G q=some (.lst (sks.map Sk.d))/\x.length<=1000/\l7 (sks.map Sk.rw)/\sks.length<=1000/\base.length < 64/\(∀ s∈sks,s∈base)/\(∀ s∈sks,1<=s.num/\s.wd<=1000)/\ns=names.map Nm.d/\names.length<=900000)/\
   ∀ out G',gv G G'->gC (out.map Sk.rw)->(∀ s,s∈out↔s∈sks)->Q (.fl ((lU x out names).map Seat.d3)) G'
 | _=>False
def dR(zF:Zz)(hw:HW):cG:=fun ds G Q=>match ds with
 | [.ref p]=>∃ (s:Sk) (a:Sl) (x:Str),(s.act=.put a x/\G p=some (aS zF s))/\Q s.d G
 | _=>False
def cx(zF:Zz)(hw:HW):cG:=fun ds G Q=>match ds with
 | [.ref p]=>∃ (s:Sk) (ns:List Sl),(s.act=.strike ns/\G p=some (aS zF s))/\Q s.d G
 | _=>False
def cO(zF:Zz)(hw:HW):cG:=fun ds G Q=>match ds with
 | [.ref p]=>∃ (s:Sk) (ns:List Sl) (w:Str),(s.act=.dress ns w/\G p=some (aS zF s))/\Q s.d G
 | _=>False
def dk(zF:Zz)(hw:HW):cG:=fun ds G Q=>match ds with
 | [.ref p]=>∃ (s:Sk) (ns:List Sl) (a:Sl),(s.act=.move ns a/\G p=some (aS zF s))/\Q s.d G
 | _=>False
def cL(_:Zz)(_:HW):cG:=fun ds G Q=>match ds with
 | [.lst xs,.int k]=>∃ ns:List Int,(xs=ns.map D.int/\0<=k)/\∀ c:Int,Q (.int c) G
 | _=>False
def da(_:Zz)(_:HW):cG:=fun ds G Q=>match ds with
 | [.int _,.int m]=>(0<=m/\m<=100)/\∀ xs:List Int,(xs.length:Int)=m->(∀ x∈xs,0<=x/\x < 2147483647)->Q (.fl (xs.map D.int)) G
 | _=>False
set_option genInjectivity false in
structure Pp where
 old:Str
 sks:List Sk
 st:List (List aB×D)
 gr:List (aB×D)
 time:Int
def gc(C:MT)(hw0:List aB->Int)(G:Gp)(p d s g:MT)(P:Pp):Prop:=G p=some (.ins C aq [.str P.old,.ref d,.ref s,.ref g,.int P.time])/\G d=some (.lst (P.sks.map Sk.d))/\G s=some (.dT hw0 P.st)/\G g=some (.dK P.gr)
def gw(P:Pp)(n:Nm):Bool:=dC ((bL P.st n.key).getD .non) (.str (MW "wiped"))
def Pp.unw(P:Pp):List Nm:=(P.sks.filter fun s=>!gw P s.nm).map Sk.nm
def Pp.num(P:Pp)(pen:Str):Int:=match bL P.gr (.inr pen) with
 | some (.int m)=>m+1
 | _=>1
def Pp.add(P:Pp)(k:Sk):Pp:=⟨P.old,P.sks ++ [k],bg P.st k.nm.key (.str (MW "waits")),bg P.gr (.inr k.pen) (.int k.num),k.time⟩
structure Pp.ok(P:Pp)(n:Nat):Prop where
 lo:P.old.length<=40
 ls:P.sks.length<=n
 lt:P.st.length<=n
 lg:P.gr.length<=n
 sk:∀ s∈P.sks,1<=s.num/\s.wd<=60/\s.time<=P.time
 ap:(P.sks.map Sk.rw).Pairwise lS
 kn:∀ s∈P.sks,∃ w:Str,bL P.st s.nm.key=some (.str w)
 gi:∀ k v,bL P.gr k=some v->∃ m:Int,v=.int m/\0<=m
 gm:∀ s∈P.sks,∃ m:Int,bL P.gr (.inr s.pen)=some (.int m)/\s.num<=m
def Ad(l:List MT)(G G':Gp):Prop:=∀ a o,a∉l->G a=some o->G' a=some o
def Srt(P:Pp)(out:List Sk):Prop:=gC (out.map Sk.rw)/\∀ s,s∈out↔s∈P.sks
def Pp.seats(P:Pp)(out:List Sk):List Seat:=lU P.old out P.unw
def bT(zF:Zz)(hw:HW):cG:=fun ds G Q=>match ds with
 | [.ref p]=>∃ (P:Pp) (d s g:MT),(gc zF.C_Paper hw G p d s g P/\P.ok 50)/\Q (.fl (P.unw.map Nm.d)) G
 | _=>False
def cZ(zF:Zz)(hw:HW):cG:=fun ds G Q=>match ds with
 | [.ref p]=>∃ (P:Pp) (d s g:MT),(gc zF.C_Paper hw G p d s g P/\P.ok 50)/\∀ out G',gv G G'->Srt P out->Q (.fl ((P.seats out).map Seat.d3)) G'
 | _=>False
def bE(zF:Zz)(hw:HW):cG:=fun ds G Q=>match ds with
 | [.ref p]=>∃ (P:Pp) (d s g:MT),(gc zF.C_Paper hw G p d s g P/\P.ok 50)/\∀ out G',gv G G'->Srt P out->Q (.fl ((P.seats out).map Seat.d)) G'
 | _=>False
def bU(zF:Zz)(hw:HW):cG:=fun ds G Q=>match ds with
 | [.ref p]=>∃ (P:Pp) (d s g:MT),(gc zF.C_Paper hw G p d s g P/\P.sks.length<=50)/\Q (.fl (P.sks.map Sk.d)) G
 | _=>False
def aP(zF:Zz)(hw:HW):cG:=fun ds G Q=>match ds with
 | [.ref p,.str pen]=>∃ (P:Pp) (d s g:MT),(gc zF.C_Paper hw G p d s g P/\∀ k v,bL P.gr k=some v->∃ m:Int,v=.int m/\0<=m)/\Q (.tup [.str pen,.int (P.num pen)]) G
 | _=>False
def aO(zF:Zz)(hw:HW):cG:=fun ds G Q=>match ds with
 | [.ref p]=>∃ (P:Pp) (d s g:MT),gc zF.C_Paper hw G p d s g P/\Q (.int (P.time+1)) G
 | _=>False
def cy(zF:Zz)(hw:HW):cG:=fun ds G Q=>match ds with
 | [.ref p,.ref a]=>∃ (P:Pp) (d s g:MT) (k:Sk),(gc zF.C_Paper hw G p d s g P/\G a=some (aS zF k)/\P.sks.length<=50/\P.st.length<=50/\P.gr.length<=50)/\∀ G',Ad [p,d,s,g] G G'->gc zF.C_Paper hw G' p d s g (P.add k)->Q (.tup [.str k.pen,.int k.num]) G'
 | _=>False
def bx(zF:Zz)(hw:HW):cG:=fun ds G Q=>match ds with
 | [.ref p,.tup [.str a,.int b]]=>∃ (P:Pp) (d s g:MT) (w:Str),(gc zF.C_Paper hw G p d s g P/\bL P.st [.inr a,.inl b]=some (.str w))/\Q .non G
 | _=>False
def bD(zF:Zz)(hw:HW):cG:=fun ds G Q=>match ds with
 | [.ref p,.tup [.str a,.int b]]=>∃ (P:Pp) (d s g:MT) (w:Str),(gc zF.C_Paper hw G p d s g P/\bL P.st [.inr a,.inl b]=some (.str w))/\Q (.str w) G
 | _=>False
def aX(zF:Zz)(hw:HW):cG:=fun ds G Q=>match ds with
 | [.ref p,.tup [.str a,.int b]]=>∃ (P:Pp) (d s g:MT),(gc zF.C_Paper hw G p d s g P/\bL P.st [.inr a,.inl b]=some (.str (MW "waits")))/\Q .non G
 | _=>False
def Pp.wipe(P:Pp)(n:List aB):Pp:=⟨P.old,P.sks,bg P.st n (.str (MW "wiped")),P.gr,P.time⟩
def cY(zF:Zz)(hw:HW):cG:=fun ds G Q=>match ds with
 | [.ref p,.tup [.str a,.int b]]=>∃ (P:Pp) (d s g:MT),(gc zF.C_Paper hw G p d s g P/\bL P.st [.inr a,.inl b]=some (.str (MW "waits"))/\P.st.length<=50)/\∀ G',Ad [p,d,s,g] G G'->gc zF.C_Paper hw G' p d s g (P.wipe [.inr a,.inl b])->Q .non G'
 | _=>False
def cb(zF:Zz)(hw:HW):cG:=fun ds G Q=>match ds with
 | [.ref p,.str x]=>G p=some (.ins zF.C_Paper [] [])/\∀ d s g G',Ad [p,d,s,g] G G'->gc zF.C_Paper hw G' p d s g ⟨x,[],[],[],0⟩->Q .non G'
 | _=>False
def dw(_:Zz)(_:HW):cG:=fun ds G Q=>match ds with
 | [.int at_,.int n]=>(0<=at_/\at_<=n)/\Q .non G
 | _=>False
def bR(_:Zz)(_:HW):cG:=fun ds G Q=>match ds with
 | [.int at_,.int to_,.int n]=>(0<=at_/\at_ < n/\at_ < to_/\to_<=n)/\Q .non G
 | _=>False
def bQ(_:Zz)(_:HW):cG:=fun ds G Q=>match ds with
 | [.lst xs,.int i,.int j]=>∃ seats:List Seat,(xs=seats.map Seat.d/\0<=i/\i<=j/\j<=seats.length/\seats.length<=100000)/\Q (.tup ((((seats.drop i.toNat).take (j - i).toNat).map Seat.name).map Sl.d)) G
 | _=>False
def Pp.next(P:Pp)(pen:Str)(k:Sk):Prop:=k.pen=pen/\k.num=P.num pen/\k.time=P.time+1
def cM(zF:Zz)(hw:HW):cG:=fun ds G Q=>match ds with
 | [.ref p,.str pen,.int i,.int j]=>∃ (P:Pp) (d s g:MT),(gc zF.C_Paper hw G p d s g P/\P.ok 49)/\∀ out,Srt P out->(0<=i/\i < (P.seats out).length/\i < j/\j<=(P.seats out).length)/\
   ∀ G',Ad [p,d,s,g] G G'->gc zF.C_Paper hw G' p d s g (P.add ⟨pen,P.num pen,P.time+1,.strike ((((P.seats out).drop i.toNat).take (j - i).toNat).map Seat.name)⟩)->Q (.tup [.str pen,.int (P.num pen)]) G'
 | _=>False
def wI(_:Zz)(_:HW):cG:=fun vs _ Q=>match vs with
 | [.lst ds]=>∃ ns:List Int,ds=ns.map D.int/\ns.length<=63/\∀ G',Q (.bl true) G'
 | _=>False
def rE(seats:List Seat)(i:Int):Sl:=if i=0 then aE else match seats[(i - 1).toNat]? with
 | some s=>s.slot
 | none=>aE
def dy(_:Zz)(_:HW):cG:=fun ds G Q=>match ds with
 | [.lst xs,.int i]=>∃ seats:List Seat,(xs=seats.map Seat.d/\0<=i/\i<=seats.length)/\Q (rE seats i).d G
 | _=>False
def BQ(seats:List Seat)(i j:Int):List Sl:=((seats.drop i.toNat).take (j - i).toNat).map Seat.name
def eg(zF:Zz)(hw:HW):cG:=fun ds G Q=>match ds with
 | [.ref p,.str pen,.int i,.str x]=>∃ (P:Pp) (d s g:MT),(gc zF.C_Paper hw G p d s g P/\P.ok 49)/\∀ out,Srt P out->(0<=i/\i<=(P.seats out).length)/\
   ∀ G',Ad [p,d,s,g] G G'->gc zF.C_Paper hw G' p d s g (P.add ⟨pen,P.num pen,P.time+1,.put (rE (P.seats out) i) x⟩)->Q (.tup [.str pen,.int (P.num pen)]) G'
 | _=>False
def dI(zF:Zz)(hw:HW):cG:=fun ds G Q=>match ds with
 | [.ref p,.str pen,.int i,.int j,.int m]=>∃ (P:Pp) (d s g:MT),(gc zF.C_Paper hw G p d s g P/\P.ok 49)/\∀ out,Srt P out->(0<=i/\i < (P.seats out).length/\i < j/\j<=(P.seats out).length/\0<=m/\m<=(P.seats out).length)/\
   ∀ G',Ad [p,d,s,g] G G'->gc zF.C_Paper hw G' p d s g (P.add ⟨pen,P.num pen,P.time+1,.move (BQ (P.seats out) i j) (rE (P.seats out) m)⟩)->Q (.tup [.str pen,.int (P.num pen)]) G'
 | _=>False
def Pp.inS(P:Pp)(w:Str):List Sk:=P.sks.filter fun s=>dC ((bL P.st s.nm.key).getD .non) (.str w)
def Pp.wai(P:Pp):List Nm:=(P.inS (MW "waits")).map Sk.nm
def bI(zF:Zz)(hw:HW):cG:=fun ds G Q=>match ds with
 | [.ref p,.str w]=>∃ (P:Pp) (d s g:MT),(gc zF.C_Paper hw G p d s g P/\P.ok 50)/\Q (.fl ((P.inS w).map Sk.d)) G
 | _=>False
def bS(zF:Zz)(hw:HW):cG:=fun ds G Q=>match ds with
 | [.ref p]=>∃ (P:Pp) (d s g:MT),(gc zF.C_Paper hw G p d s g P/\P.ok 50)/\Q (.fl (P.wai.map Nm.d)) G
 | _=>False
def Pp.stand(P:Pp)(n:List aB):Pp:=⟨P.old,P.sks,bg P.st n (.str (MW "stands")),P.gr,P.time⟩
def bV(zF:Zz)(hw:HW):cG:=fun ds G Q=>match ds with
 | [.ref p,.tup [.str a,.int b]]=>∃ (P:Pp) (d s g:MT),(gc zF.C_Paper hw G p d s g P/\bL P.st [.inr a,.inl b]=some (.str (MW "waits"))/\P.st.length<=50)/\∀ G',Ad [p,d,s,g] G G'->gc zF.C_Paper hw G' p d s g (P.stand [.inr a,.inl b])->Q .non G'
 | _=>False
def MO(P P':Pp):Prop:=P'.old=P.old/\P'.sks=P.sks/\P'.gr=P.gr/\P'.time=P.time/\∀ n,P.ok n->P'.ok n
def bj(zF:Zz)(hw:HW)(Ss _:MT):vG:=fun ds G _ EQ=>match ds with
 | [.ref p,.tup [.str a,.int b]]=>∃ (P:Pp) (d s g:MT),(gc zF.C_Paper hw G p d s g P/\bL P.st [.inr a,.inl b]=none)/\EQ Ss "stroke" (.tup [.str a,.int b]) G
 | _=>False
def cI(zF:Zz)(hw:HW)(Ss _:MT):vG:=fun ds G _ EQ=>match ds with
 | [.ref p,.tup [.str a,.int b]]=>∃ (P:Pp) (d s g:MT),(gc zF.C_Paper hw G p d s g P/\bL P.st [.inr a,.inl b]=none)/\EQ Ss "stroke" (.tup [.str a,.int b]) G
 | _=>False
def bw(zF:Zz)(hw:HW)(Ss _:MT):vG:=fun ds G _ EQ=>match ds with
 | [.ref p,.tup [.str a,.int b]]=>∃ (P:Pp) (d s g:MT),(gc zF.C_Paper hw G p d s g P/\bL P.st [.inr a,.inl b]=none)/\EQ Ss "stroke" (.tup [.str a,.int b]) G
 | _=>False
def Aa(Ss Su:MT)(st:List (List aB×D))(a:Str)(b:Int)(EQ:XQ)(G:Gp):Prop:=(bL st [.inr a,.inl b]=none/\EQ Ss "stroke" (.tup [.str a,.int b]) G)\/∃ w:Str,bL st [.inr a,.inl b]=some (.str w)/\w≠MW "waits"/\EQ Su "stroke" (.tup [.str a,.int b]) G
def bh(zF:Zz)(hw:HW)(Ss Su:MT):vG:=fun ds G _ EQ=>match ds with
 | [.ref p,.tup [.str a,.int b]]=>∃ (P:Pp) (d s g:MT),gc zF.C_Paper hw G p d s g P/\Aa Ss Su P.st a b EQ G
 | _=>False
def cr(zF:Zz)(hw:HW)(Ss Su:MT):vG:=fun ds G _ EQ=>match ds with
 | [.ref p,.tup [.str a,.int b]]=>∃ (P:Pp) (d s g:MT),gc zF.C_Paper hw G p d s g P/\Aa Ss Su P.st a b EQ G
 | _=>False
def c9(zF:Zz)(hw:HW)(Ss Su:MT):vG:=fun ds G _ EQ=>match ds with
 | [.ref p,.tup [.str a,.int b]]=>∃ (P:Pp) (d s g:MT),gc zF.C_Paper hw G p d s g P/\Aa Ss Su P.st a b EQ G
 | _=>False
def Pp.dec(P:Pp)(n:List aB)(w:Str):Pp:=⟨P.old,P.sks,bg P.st n (.str w),P.gr,P.time⟩
def Sw(w:Str):Prop:=w=MW "stands"\/w=MW "wiped"
def cX(zF:Zz)(hw:HW):cG:=fun ds G Q=>match ds with
 | [.ref p,.tup [.str a,.int b],.str w]=>∃ (P:Pp) (d s g:MT),(gc zF.C_Paper hw G p d s g P/\P.st.length<=50)/\((bL P.st [.inr a,.inl b]=none/\Q (.tup [.str (MW "none"),.tup [.str a,.int b]]) G)\/
   (∃ v:Str,(bL P.st [.inr a,.inl b]=some (.str v)/\v≠MW "waits"/\Sw w)/\Q (.tup [.str (MW "decided"),.tup [.str a,.int b]]) G)\/
   ((bL P.st [.inr a,.inl b]=some (.str (MW "waits"))/\Sw w)/\∀ G',Ad [p,d,s,g] G G'->gc zF.C_Paper hw G' p d s g (P.dec [.inr a,.inl b] w)->Q (.str (MW "done")) G'))
 | _=>False
def cK(zF:Zz)(hw:HW):cG:=fun ds G Q=>match ds with
 | [.ref p,.tup [.str a,.int b]]=>∃ (P:Pp) (d s g:MT),gc zF.C_Paper hw G p d s g P/\((bL P.st [.inr a,.inl b]=none/\Q (.lst ([false,true,false,true].map D.bl)) G)\/
   (∃ v:Str,(bL P.st [.inr a,.inl b]=some (.str v)/\v≠MW "waits")/\Q (.lst ([true,false,false,true].map D.bl)) G))
 | _=>False
def Txt(st:List (List aB×D)):Prop:=∀ k v,bL st k=some v->∃ w:Str,v=.str w
def ck(zF:Zz)(hw:HW):cG:=fun ds G Q=>match ds with
 | [.ref p,.ref z,.tup [.str a,.int b],.str w]=>∃ (P:Pp) (d s g:MT),(gc zF.C_Paper hw G p d s g P/\G z=some (.dT hw P.st)/\z∉[p,d,s,g]/\P.st.length<=50/\Txt P.st/\Sw w)/\
   ∀ P' G',(P'=P\/(bL P.st [.inr a,.inl b]=some (.str (MW "waits"))/\P'=P.dec [.inr a,.inl b] w))->gc zF.C_Paper hw G' p d s g P'->G' z=some (.dT hw P'.st)->Q (.bl true) G'
 | _=>False
structure Pp.lined(P:Pp):Prop where
 ks:P.st.map (·.1)=P.sks.map fun k=>k.nm.key
 nd:(P.st.map (·.1)).Nodup
 tx:Txt P.st
def dH(zF:Zz)(hw:HW):cG:=fun ds G Q=>match ds with
 | [.ref p,.ref z,.str x]=>∃ (P:Pp) (d s g:MT),(gc zF.C_Paper hw G p d s g P/\P.ok 50/\P.old=x/\P.lined/\G z=some (.dT hw P.st)/\z∉[p,d,s,g])/\∀ G',gv G G'->Q (.bl true) G'
 | _=>False
def ef(zF:Zz)(hw:HW):cG:=fun ds G Q=>match ds with
 | [.ref p,.lst xs]=>∃ (P:Pp) (d s g:MT) (x0 x1 x2 x3 x4 x5 x6:Int),(gc zF.C_Paper hw G p d s g P/\P.ok 49/\xs=[.int x0,.int x1,.int x2,.int x3,.int x4,.int x5,.int x6])/\
   ∀ pen k G',P.next pen k->k.wd<=60->Ad [p,d,s,g] G G'->gc zF.C_Paper hw G' p d s g (P.add k)->Q (.tup [.str k.pen,.int k.num]) G'
 | _=>False
def jZ(zF:Zz)(hw:List aB->Int):bc:=sSeq (il (br (cz IT (ae 1) (eB pB (af (ae 0) (av))))) (aT (cz gA (ae 0) (ae 1))) (cv))
 (aT (eC (.int 0)))
def lh(zF:Zz)(hw:List aB->Int):bc:=sSeq (FY 2 (kJ (av)))
 (sSeq (bK 3 (cz jx (cz CH (cz lB (ae 0) (eC (.int 1))) (eC (.int 48271))) (eC (.int 2147483647))))
 (sSeq (iV (L5 (af (ae 1) (av))) (gN 4) (sSeq (bK 3 (cz jx (cz CH (cz lB (cz lB (ae 3) (cz CH (eC (.int 7919)) (ae 4))) (eC (.int 1))) (cz lB (cz IV (ae 3) (eC (.int 1009))) (eC (.int 69621)))) (eC (.int 2147483647))))
 (eG (jI (ae 2) (af (ae 3) (av))))))
 (iu 2)))
def mL(zF:Zz)(hw:List aB->Int):bc:=sSeq (bK 3 (ae 1))
 (iV (fB (ae 2)) (gN 4) (sSeq (de hw (ae 0) (ae 4) (nK hw (ae 0) (ae 3)))
 (sSeq (de hw (ae 0) (ae 3) (ae 4))
 (bK 3 (ae 4)))))
def mK(zF:Zz)(hw:List aB->Int):bc:=aT (fE 1 (L4 (af (eC (.int 1)) (af (cz lB (ae 1) (eC (.int 1))) (av)))) (gN 0) (jM) (cz lB (ae 1) (im (af (ae 0) (av)))))
def oG(zF:Zz)(hw:List aB->Int):bc:=aT (aJ (cw zF hw) [] (af (Jn HA (eC k_START) (Kv) (oW (eC (.int 2)))) (af (eB pB (af (ae 0) (av))) (av))))
def iz(zF:Zz)(hw:List aB->Int):bc:=aT (im (af (cz gA (ae 0) (eC (.int 1))) (af (cz gA (ae 0) (eC (.int 0))) (av))))
def qX(zF:Zz)(hw:List aB->Int):bc:=sSeq (bK 1 (mY hw))
 (sSeq (DS (ae 0) (gN 2) (de hw (ae 1) (cz gA (ae 2) (eC (.int 0))) (ae 2)))
 (aT (A9 (bf zF hw) (ae 1))))
def hU(zF:Zz)(hw:List aB->Int):bc:=sSeq (iW zF.F "name" (ae 0) (ae 1))
 (sSeq (iW zF.F "time" (ae 0) (ae 2))
 (sSeq (iW zF.F "anchor" (ae 0) (eC k_START))
 (iW zF.F "names" (ae 0) (im (av)))))
def j6(zF:Zz)(hw:List aB->Int):bc:=sSeq (eG (aJ (aQ zF hw) [] (af (ae 0) (af (ae 1) (af (ae 2) (av))))))
 (sSeq (iW zF.F "anchor" (ae 0) (ae 3))
 (iW zF.F "signs" (ae 0) (ae 4)))
def hV(zF:Zz)(hw:List aB->Int):bc:=sSeq (eG (aJ (aQ zF hw) [] (af (ae 0) (af (ae 1) (af (ae 2) (av))))))
 (iW zF.F "names" (ae 0) (ae 3))
def iC(zF:Zz)(hw:List aB->Int):bc:=sSeq (eG (aJ (aQ zF hw) [] (af (ae 0) (af (ae 1) (af (ae 2) (av))))))
 (sSeq (iW zF.F "names" (ae 0) (ae 3))
 (iW zF.F "word" (ae 0) (ae 4)))
def i8(zF:Zz)(hw:List aB->Int):bc:=sSeq (eG (aJ (aQ zF hw) [] (af (ae 0) (af (ae 1) (af (ae 2) (av))))))
 (sSeq (iW zF.F "names" (ae 0) (ae 3))
 (iW zF.F "anchor" (ae 0) (ae 4)))
def oF(zF:Zz)(hw:List aB->Int):bc:=sSeq (bK 1 (cz gA (ae 0) (eC (.int 0))))
 (sSeq (bK 2 (cz gA (ae 0) (eC (.int 1))))
 (sSeq (bK 3 (cz gA (ae 0) (eC (.int 2))))
 (sSeq (il (br (cF xr (cz gA (ae 3) (eC (.int 0))) (eC (.str "put")))) (aT (lL zF.Z2 (cm zF hw) [] (af (ae 1) (af (ae 2) (af (cz gA (ae 3) (eC (.int 1))) (af (cz gA (ae 3) (eC (.int 2))) (av))))))) (cv))
 (sSeq (il (br (cF xr (cz gA (ae 3) (eC (.int 0))) (eC (.str "strike")))) (aT (lL zF.Z3 (bu zF hw) [] (af (ae 1) (af (ae 2) (af (cz gA (ae 3) (eC (.int 1))) (av)))))) (cv))
 (sSeq (il (br (cF xr (cz gA (ae 3) (eC (.int 0))) (eC (.str "dress")))) (aT (lL zF.Z4 (ce zF hw) [] (af (ae 1) (af (ae 2) (af (cz gA (ae 3) (eC (.int 1))) (af (cz gA (ae 3) (eC (.int 2))) (av))))))) (cv))
 (aT (lL zF.Z5 (bW zF hw) [] (af (ae 1) (af (ae 2) (af (cz gA (ae 3) (eC (.int 1))) (af (cz gA (ae 3) (eC (.int 2))) (av))))))))))))
def tw(zF:Zz)(hw:List aB->Int):bc:=sSeq (FY 1 (kJ (av)))
 (sSeq (bK 2 (nK hw (ae 0) (eC k_START)))
 (sSeq (Ay (br (cz zi (ae 2) (eC .non))) (sSeq (eG (jI (ae 1) (af (ae 2) (av))))
 (bK 2 (nK hw (ae 0) (ae 2)))))
 (iu 1)))
def j5(zF:Zz)(hw:List aB->Int):bc:=aT (kJ (av))
def oN(zF:Zz)(hw:List aB->Int):bc:=aT (aJ (cw zF hw) [] (af (bz zF.F "name" (ae 0)) (af (eB pB (af (bz zF.F "signs" (ae 0)) (av))) (av))))
def mT(zF:Zz)(hw:List aB->Int):bc:=aT (aJ (cw zF hw) [] (af (bz zF.F "name" (ae 0)) (af (eB pB (af (bz zF.F "names" (ae 0)) (av))) (av))))
def qW(zF:Zz)(hw:List aB->Int):bc:=sSeq (bK 2 (Bd hw (eC k_START) (eC .non)))
 (sSeq (eG (aJ (cW zF hw) [] (af (ae 2) (af (eC k_START) (af (aJ (du zF hw) [] (af (ae 0) (av))) (av))))))
 (sSeq (iV (fB (fE 1 (fB (aJ (dQ zF hw) [] (af (ae 1) (av)))) (gN 0) (jM) (aJ (dq zF hw) [] (af (ae 0) (av))))) (gN 3) (il (br (uC hw (bz zF.F "anchor" (ae 3)) (ae 2))) (eG (aJ (cW zF hw) [] (af (ae 2) (af (bz zF.F "anchor" (ae 3)) (af (eF [(zF.Z1,az zF hw),(zF.Z2,bC zF hw),(zF.Z3,az zF hw),(zF.Z4,az zF hw),(zF.Z5,bn zF hw)] "slots" [] (ae 3) av) (av)))))) (cv)))
 (aT (aJ (fH zF hw) [] (af (ae 2) (av))))))
def v3(zF:Zz)(hw:List aB->Int):bc:=aT (Bc hw (fE 1 (fB (ae 0)) (gN 0) (jM) (im (af (ae 0) (af (eC (.bl true)) (av))))))
def oH(zF:Zz)(hw:List aB->Int):bc:=aT (eB B8 (af (fE 1 (fB (eF [(zF.Z1,az zF hw),(zF.Z2,bC zF hw),(zF.Z3,az zF hw),(zF.Z4,az zF hw),(zF.Z5,bn zF hw)] "slots" [] (ae 0) av)) (gN 0) (jM) (uC hw (ae 0) (ae 2))) (av)))
def oJ(zF:Zz)(hw:List aB->Int):bc:=sSeq (bK 3 (aJ (fG zF hw) [] (af (ae 1) (av))))
 (sSeq (bK 4 (fE 1 (fB (aJ (dQ zF hw) [] (af (ae 0) (av)))) (gN 0) (br (uC hw (cz gA (ae 0) (eC (.int 0))) (ae 4))) (aJ (dq zF hw) [] (af (ae 0) (av)))))
 (aT (fE 1 (fB (ae 4)) (gN 0) (sF (aJ (d_ zF hw) [] (af (ae 0) (af (ae 3) (av))))) (ae 0))))
def iX(zF:Zz)(hw:List aB->Int):bc:=sSeq (bK 2 (Bb hw (af (aJ (du zF hw) [] (af (ae 0) (av))) (af (ae 0) (av)))))
 (sSeq (iV (fB (ae 1)) (gN 3) (il (sF (eB (xS [(zF.Z1,false),(zF.Z2,true),(zF.Z3,false),(zF.Z4,false),(zF.Z5,false)] zF.Z2) (af (ae 3) (af (eC (.ref zF.Z2)) av)))) (iV (CY (af (eF [(zF.Z1,az zF hw),(zF.Z2,bC zF hw),(zF.Z3,az zF hw),(zF.Z4,az zF hw),(zF.Z5,bn zF hw)] "slots" [] (ae 3) av) (af (bz zF.F "signs" (ae 3)) (av)))) (uo 2 (ig (gN 4) (ig (gN 5) (ur)))) (de hw (ae 2) (ae 4) (ae 5))) (cv)))
 (aT (ae 2)))
def iA(zF:Zz)(hw:List aB->Int):bc:=aT (eB z9 (af (bz zF.F "names" (ae 0)) (av)))
def jW(zF:Zz)(hw:List aB->Int):bc:=sSeq (bK 1 (mY hw))
 (sSeq (iV (fB (ae 0)) (gN 2) (il (sF (eB (xS [(zF.Z1,false),(zF.Z2,false),(zF.Z3,true),(zF.Z4,false),(zF.Z5,false)] zF.Z3) (af (ae 2) (af (eC (.ref zF.Z3)) av)))) (iV (fB (eF [(zF.Z1,ao zF hw),(zF.Z2,ao zF hw),(zF.Z3,ao zF hw),(zF.Z4,ao zF hw),(zF.Z5,ao zF hw)] "touched" [] (ae 2) av)) (gN 3) (de hw (ae 1) (ae 3) (eC (.bl true)))) (cv)))
 (aT (ae 1)))
def lf(zF:Zz)(hw:List aB->Int):bc:=sSeq (bK 1 (mY hw))
 (sSeq (iV (fB (ae 0)) (gN 2) (il (sF (eB (xS [(zF.Z1,false),(zF.Z2,false),(zF.Z3,false),(zF.Z4,false),(zF.Z5,true)] zF.Z5) (af (ae 2) (af (eC (.ref zF.Z5)) av)))) (iV (CY (af (eF [(zF.Z1,ao zF hw),(zF.Z2,ao zF hw),(zF.Z3,ao zF hw),(zF.Z4,ao zF hw),(zF.Z5,ao zF hw)] "touched" [] (ae 2) av) (af (eF [(zF.Z1,az zF hw),(zF.Z2,bC zF hw),(zF.Z3,az zF hw),(zF.Z4,az zF hw),(zF.Z5,bn zF hw)] "slots" [] (ae 2) av) (av)))) (uo 2 (ig (gN 3) (ig (gN 4) (ur)))) (de hw (ae 1) (ae 3) (ae 4))) (cv)))
 (aT (ae 1)))
def mJ(zF:Zz)(hw:List aB->Int):bc:=sSeq (bK 1 (mY hw))
 (sSeq (iV (fB (ae 0)) (gN 2) (il (sF (eB (xS [(zF.Z1,false),(zF.Z2,false),(zF.Z3,false),(zF.Z4,true),(zF.Z5,false)] zF.Z4) (af (ae 2) (af (eC (.ref zF.Z4)) av)))) (iV (fB (eF [(zF.Z1,ao zF hw),(zF.Z2,ao zF hw),(zF.Z3,ao zF hw),(zF.Z4,ao zF hw),(zF.Z5,ao zF hw)] "touched" [] (ae 2) av)) (gN 3) (de hw (ae 1) (ae 3) (bz zF.F "word" (ae 2)))) (cv)))
 (aT (ae 1)))
def v0(zF:Zz)(hw:List aB->Int):bc:=sSeq (bK 3 (aJ (eV zF hw) [] (af (ae 0) (af (ae 1) (av)))))
 (sSeq (bK 4 (aJ (ee zF hw) [] (af (ae 1) (af (ae 2) (af (aJ (fG zF hw) [] (af (ae 3) (av))) (av))))))
 (sSeq (bK 5 (aJ (cA zF hw) [] (af (ae 0) (af (ae 4) (av)))))
 (sSeq (bK 6 (aJ (cJ zF hw) [] (af (ae 4) (av))))
 (sSeq (bK 7 (aJ (c_ zF hw) [] (af (ae 4) (av))))
 (sSeq (bK 8 (aJ (dG zF hw) [] (af (ae 4) (av))))
 (sSeq (bK 9 (mY hw))
 (sSeq (DT (ae 5) (gN 10) (il (br (et hw (ae 10) (ae 6))) (de hw (ae 9) (qE hw (ae 7) (ae 10) (ae 10)) (ae 10)) (cv)))
 (sSeq (bK 11 (fE 1 (fB (ae 3)) (gN 0) (br (uC hw (ae 0) (ae 10))) (im (af (ae 0) (af (nK hw (ae 10) (ae 0)) (av))))))
 (aT (fE 2 (fB (ae 11)) (uo 2 (ig (gN 0) (ig (gN 1) (ur)))) (jM) (im (af (ae 0) (af (ae 1) (af (nK hw (ae 7) (ae 1)) (af (qE hw (ae 10) (ae 1) (eC (.str ""))) (av))))))))))))))))
def tu(zF:Zz)(hw:List aB->Int):bc:=aT (fE 1 (fB (aJ (eW zF hw) [] (af (ae 0) (af (ae 1) (af (ae 2) (av)))))) (gN 0) (jM) (Jn HA (ae 0) (oW (eC (.int 1))) (Kv)))
def i6(zF:Zz)(hw:List aB->Int):bc:=aT (uD 1 (ij zF.C_Paper aq 1 (ae 0)) (gN 0) (br (cF xq (nK hw (ij zF.C_Paper aq 2 (ae 1)) (cz gA (ae 0) (eC (.int 0)))) (eC k_WIPED))) (cz gA (ae 0) (eC (.int 0))))
def mQ(zF:Zz)(hw:List aB->Int):bc:=aT (aJ (eR zF hw) [] (af (ij zF.C_Paper aq 0 (ae 0)) (af (ij zF.C_Paper aq 1 (ae 0)) (af (bY zF.C_Paper aq (bT zF hw) [] (ae 0) av) (av)))))
def oK(zF:Zz)(hw:List aB->Int):bc:=il (sE (br (qF JQ JQ (eC (.int 0)) (ae 0) (ae 1)))) (gy) (cv)
def ju(zF:Zz)(hw:List aB->Int):bc:=sSeq (il (br (cF xr (ae 1) (eC (.int 0)))) (aT (eC k_START)) (cv))
 (aT (cz gA (cz gA (ae 0) (cz GB (ae 1) (eC (.int 1)))) (eC (.int 0))))
def lr(zF:Zz)(hw:List aB->Int):bc:=aT (aJ (eW zF hw) [] (af (ij zF.C_Paper aq 0 (ae 0)) (af (ij zF.C_Paper aq 1 (ae 0)) (af (bY zF.C_Paper aq (bT zF hw) [] (ae 0) av) (av)))))
def tD(zF:Zz)(hw:List aB->Int):bc:=aT (im (af (bz zF.F "name" (ae 0)) (af (bz zF.F "time" (ae 0)) (af (im (af (eC (.str "put")) (af (bz zF.F "anchor" (ae 0)) (af (bz zF.F "signs" (ae 0)) (av))))) (av)))))
def mO(zF:Zz)(hw:List aB->Int):bc:=aT (im (af (bz zF.F "name" (ae 0)) (af (bz zF.F "time" (ae 0)) (af (im (af (eC (.str "strike")) (af (bz zF.F "names" (ae 0)) (av)))) (av)))))
def oP(zF:Zz)(hw:List aB->Int):bc:=aT (im (af (bz zF.F "name" (ae 0)) (af (bz zF.F "time" (ae 0)) (af (im (af (eC (.str "dress")) (af (bz zF.F "names" (ae 0)) (af (bz zF.F "word" (ae 0)) (av))))) (av)))))
def qY(zF:Zz)(hw:List aB->Int):bc:=aT (im (af (bz zF.F "name" (ae 0)) (af (bz zF.F "time" (ae 0)) (af (im (af (eC (.str "move")) (af (bz zF.F "names" (ae 0)) (af (bz zF.F "anchor" (ae 0)) (av))))) (av)))))
def mS(zF:Zz)(hw:List aB->Int):bc:=sSeq (eG (jI (ij zF.C_Paper aq 1 (ae 0)) (af (eF [(zF.Z2,dR zF hw),(zF.Z3,cx zF hw),(zF.Z4,cO zF hw),(zF.Z5,dk zF hw)] "row" [] (ae 1) av) (av))))
 (sSeq (de hw (ij zF.C_Paper aq 2 (ae 0)) (bz zF.F "name" (ae 1)) (eC k_WAITS))
 (sSeq (de hw (ij zF.C_Paper aq 3 (ae 0)) (cz gA (bz zF.F "name" (ae 1)) (eC (.int 0))) (cz gA (bz zF.F "name" (ae 1)) (eC (.int 1))))
 (sSeq (BC zF.C_Paper aq 4 (ae 0) (bz zF.F "time" (ae 1)))
 (aT (bz zF.F "name" (ae 1))))))
def fY(zF:Zz)(hw:List aB->Int):bc:=aT (im (af (ae 1) (af (cz lB (qE hw (ij zF.C_Paper aq 3 (ae 0)) (ae 1) (eC (.int 0))) (eC (.int 1))) (av))))
def fX(zF:Zz)(hw:List aB->Int):bc:=aT (cz lB (ij zF.C_Paper aq 4 (ae 0)) (eC (.int 1)))
def oO(zF:Zz)(hw:List aB->Int):bc:=sSeq (bK 4 (bY zF.C_Paper aq (bE zF hw) [] (ae 0) av))
 (sSeq (eG (aJ (dw zF hw) [] (af (ae 2) (af (eB pB (af (ae 4) (av))) (av)))))
 (aT (bY zF.C_Paper aq (cy zF hw) [] (ae 0) (af (lL zF.Z2 (cm zF hw) [] (af (bY zF.C_Paper aq (aP zF hw) [] (ae 0) (af (ae 1) (av))) (af (bY zF.C_Paper aq (aO zF hw) [] (ae 0) av) (af (aJ (dy zF hw) [] (af (ae 4) (af (ae 2) (av)))) (af (ae 3) (av)))))) (av)))))
def iZ(zF:Zz)(hw:List aB->Int):bc:=sSeq (il (sE (br (qF JQ IT (eC (.int 0)) (ae 0) (ae 2)))) (gy) (cv))
 (il (sE (br (qF IT JQ (ae 0) (ae 1) (ae 2)))) (gy) (cv))
def iY(zF:Zz)(hw:List aB->Int):bc:=aT (eB xR (af (fE 1 (fB (Jn HA (ae 0) (oW (ae 1)) (oW (ae 2)))) (gN 0) (jM) (cz gA (ae 0) (eC (.int 1)))) (av)))
def j7(zF:Zz)(hw:List aB->Int):bc:=sSeq (bK 4 (bY zF.C_Paper aq (bE zF hw) [] (ae 0) av))
 (sSeq (eG (aJ (bR zF hw) [] (af (ae 2) (af (ae 3) (af (eB pB (af (ae 4) (av))) (av))))))
 (aT (bY zF.C_Paper aq (cy zF hw) [] (ae 0) (af (lL zF.Z3 (bu zF hw) [] (af (bY zF.C_Paper aq (aP zF hw) [] (ae 0) (af (ae 1) (av))) (af (bY zF.C_Paper aq (aO zF hw) [] (ae 0) av) (af (aJ (bQ zF hw) [] (af (ae 4) (af (ae 2) (af (ae 3) (av))))) (av))))) (av)))))
def mR(zF:Zz)(hw:List aB->Int):bc:=sSeq (bK 5 (bY zF.C_Paper aq (bE zF hw) [] (ae 0) av))
 (sSeq (eG (aJ (bR zF hw) [] (af (ae 2) (af (ae 3) (af (eB pB (af (ae 5) (av))) (av))))))
 (sSeq (eG (aJ (dw zF hw) [] (af (ae 4) (af (eB pB (af (ae 5) (av))) (av)))))
 (sSeq (bK 6 (aJ (bQ zF hw) [] (af (ae 5) (af (ae 2) (af (ae 3) (av))))))
 (aT (bY zF.C_Paper aq (cy zF hw) [] (ae 0) (af (lL zF.Z5 (bW zF hw) [] (af (bY zF.C_Paper aq (aP zF hw) [] (ae 0) (af (ae 1) (av))) (af (bY zF.C_Paper aq (aO zF hw) [] (ae 0) av) (af (ae 6) (af (aJ (dy zF hw) [] (af (ae 5) (af (ae 4) (av)))) (av)))))) (av)))))))
def oM(zF:Zz)(hw:List aB->Int):bc:=sSeq (bK 2 (eB pB (af (bY zF.C_Paper aq (cZ zF hw) [] (ae 0) av) (av))))
 (sSeq (bK 3 (cz gA (kJ (af (eC (.str "ann")) (af (eC (.str "anna")) (af (eC (.str "bob")) (av))))) (cz jx (cz gA (ae 1) (eC (.int 0))) (eC (.int 3)))))
 (sSeq (il (As (br (cF xr (ae 2) (eC (.int 0)))) (br (cz IT (cz jx (cz gA (ae 1) (eC (.int 1))) (eC (.int 4))) (eC (.int 2))))) (aT (bY zF.C_Paper aq (eg zF hw) [] (ae 0) (af (ae 3) (af (cz jx (cz gA (ae 1) (eC (.int 2))) (cz lB (ae 2) (eC (.int 1)))) (af (cz gA (kJ (af (eC (.str "a")) (af (eC (.str "bc")) (av)))) (cz jx (cz gA (ae 1) (eC (.int 3))) (eC (.int 2)))) (av)))))) (cv))
 (sSeq (bK 4 (cz jx (cz gA (ae 1) (eC (.int 2))) (ae 2)))
 (sSeq (bK 5 (cz lB (cz lB (ae 4) (eC (.int 1))) (cz jx (cz gA (ae 1) (eC (.int 3))) (eB Fw (af (eC (.int 4)) (af (cz GB (ae 2) (ae 4)) (av)))))))
 (sSeq (il (br (cF xr (cz jx (cz gA (ae 1) (eC (.int 1))) (eC (.int 4))) (eC (.int 2)))) (aT (bY zF.C_Paper aq (cM zF hw) [] (ae 0) (af (ae 3) (af (ae 4) (af (ae 5) (av)))))) (cv))
 (aT (bY zF.C_Paper aq (dI zF hw) [] (ae 0) (af (ae 3) (af (ae 4) (af (ae 5) (af (cz jx (cz gA (ae 1) (eC (.int 4))) (cz lB (ae 2) (eC (.int 1)))) (av))))))))))))
def f6(zF:Zz)(hw:List aB->Int):bc:=il (br (et hw (ae 1) (ij zF.C_Paper aq 2 (ae 0)))) (gy) (cv)
def lq(zF:Zz)(hw:List aB->Int):bc:=sSeq (eG (bY zF.C_Paper aq (bx zF hw) [] (ae 0) (af (ae 1) (av))))
 (aT (nK hw (ij zF.C_Paper aq 2 (ae 0)) (ae 1)))
def fZ(zF:Zz)(hw:List aB->Int):bc:=il (br (cF xq (bY zF.C_Paper aq (bD zF hw) [] (ae 0) (af (ae 1) (av))) (eC k_WAITS))) (gy) (cv)
def hZ(zF:Zz)(hw:List aB->Int):bc:=sSeq (eG (bY zF.C_Paper aq (aX zF hw) [] (ae 0) (af (ae 1) (av))))
 (de hw (ij zF.C_Paper aq 2 (ae 0)) (ae 1) (eC k_STANDS))
def mP(zF:Zz)(hw:List aB->Int):bc:=sSeq (eG (bY zF.C_Paper aq (aX zF hw) [] (ae 0) (af (ae 1) (av))))
 (de hw (ij zF.C_Paper aq 2 (ae 0)) (ae 1) (eC k_WIPED))
def fW(zF:Zz)(hw:List aB->Int)(Ss:MT)(Su:MT)(EQ:XQ):bc:=il (br (et hw (ae 1) (ij zF.C_Paper aq 2 (ae 0)))) (Az Ss "stroke" (af (ae 1) (av)) EQ) (cv)
def sS(zF:Zz)(hw:List aB->Int)(Ss:MT)(Su:MT)(EQ:XQ):bc:=sSeq (dX zF.C_Paper aq (bj zF hw Ss Su) (ae 0) (af (ae 1) (av)) EQ)
 (gy)
def k9(zF:Zz)(hw:List aB->Int)(Ss:MT)(Su:MT)(EQ:XQ):bc:=FZ zF.C_Paper aq (fun ds G Q EQ=>bD zF hw ds G Q\/cI zF hw Ss Su ds G Q EQ) (ae 0) (af (ae 1) (av)) xq k_WAITS (Az Su "stroke" (af (ae 1) (av)) EQ) (cv) EQ
def nk(zF:Zz)(hw:List aB->Int)(Ss:MT)(Su:MT)(EQ:XQ):bc:=sSeq (dX zF.C_Paper aq (bh zF hw Ss Su) (ae 0) (af (ae 1) (av)) EQ)
 (gy)
def uZ(zF:Zz)(hw:List aB->Int)(Ss:MT)(Su:MT)(EQ:XQ):bc:=sSeq (dX zF.C_Paper aq (bh zF hw Ss Su) (ae 0) (af (ae 1) (av)) EQ)
 (gy)
def md(zF:Zz)(hw:List aB->Int)(Ss:MT)(Su:MT)(EQ:XQ):bc:=sSeq (dX zF.C_Paper aq (bj zF hw Ss Su) (ae 0) (af (ae 1) (av)) EQ)
 (gy)
def mN(zF:Zz)(hw:List aB->Int)(Sv:MT)(Sy:MT)(Ss:MT)(Su:MT)(Sx:MT):bc:=sSeq (bK 3 (eC (.str "done")))
 (sSeq (yR [(Ss,"stroke",yS 3 4 "none"),(Su,"stroke",yS 3 4 "decided")] 4 (fun EQ=>il (br (cF xr (ae 2) (eC (.str "stands")))) (dX zF.C_Paper aq (fun ds G Q EQ=>bV zF hw ds G Q\/cr zF hw Ss Su ds G Q EQ) (ae 0) (af (ae 1) (av)) EQ) (il (br (cF xr (ae 2) (eC (.str "wiped")))) (dX zF.C_Paper aq (fun ds G Q EQ=>cY zF hw ds G Q\/c9 zF hw Ss Su ds G Q EQ) (ae 0) (af (ae 1) (av)) EQ) (il (br (cF xr (ae 2) (eC (.str "leans")))) (dX zF.C_Paper aq (bw zF hw Ss Su) (ae 0) (af (ae 1) (av)) EQ) (dX zF.C_Paper aq (fun ds G Q EQ=>bD zF hw ds G Q\/cI zF hw Ss Su ds G Q EQ) (ae 0) (af (ae 1) (av)) EQ)))))
 (aT (ae 3)))
def jY(zF:Zz)(hw:List aB->Int)(Sv:MT)(Sy:MT)(Ss:MT)(Su:MT)(Sx:MT):bc:=sSeq (bK 2 (kJ (av)))
 (sSeq (yR [(Ss,"stroke",fun _ x=>bK 2 (kJ (af (eB (vE x (.ref Su) false) (af (ae 3) (af (eC (.ref Su)) (av)))) (af (eB (vE x (.ref Ss) true) (af (ae 3) (af (eC (.ref Ss)) (av)))) (af (eB (vE x (.ref Sx) false) (af (ae 3) (af (eC (.ref Sx)) (av)))) (af (eB (vE x (.ty "ValueError") true) (af (ae 3) (af (eC (.ty "ValueError")) (av)))) (av))))))),(Su,"stroke",fun _ x=>bK 2 (kJ (af (eB (vE x (.ref Su) true) (af (ae 3) (af (eC (.ref Su)) (av)))) (af (eB (vE x (.ref Ss) false) (af (ae 3) (af (eC (.ref Ss)) (av)))) (af (eB (vE x (.ref Sx) false) (af (ae 3) (af (eC (.ref Sx)) (av)))) (af (eB (vE x (.ty "ValueError") true) (af (ae 3) (af (eC (.ty "ValueError")) (av)))) (av)))))))] 3 (fun EQ=>dX zF.C_Paper aq (fun ds G Q EQ=>cY zF hw ds G Q\/c9 zF hw Ss Su ds G Q EQ) (ae 0) (af (ae 1) (av)) EQ))
 (aT (ae 2)))
def jX(zF:Zz)(hw:List aB->Int):bc:=sSeq (bK 4 (eC (.str "done")))
 (sSeq (il (br (et hw (ae 2) (ae 1))) (bK 4 (im (af (eC (.str "none")) (af (ae 2) (av))))) (il (br (cF xq (nK hw (ae 1) (ae 2)) (eC (.str "waits")))) (bK 4 (im (af (eC (.str "decided")) (af (ae 2) (av))))) (cv)))
 (sSeq (il (br (cF xq (aJ (cX zF hw) [] (af (ae 0) (af (ae 2) (af (ae 3) (av))))) (ae 4))) (aT (eC (.bl false))) (cv))
 (sSeq (il (br (cF xr (ae 4) (eC (.str "done")))) (sSeq (de hw (ae 1) (ae 2) (ae 3))
 (aT (eC (.bl true)))) (cv))
 (sSeq (iV (fB (kJ (af (eC (.str "")) (af (eC (.str "leans")) (av))))) (gN 5) (il (sG (br (et hw (ae 2) (ae 1))) (br (cF xq (aJ (cX zF hw) [] (af (ae 0) (af (ae 2) (af (ae 5) (av))))) (ae 4)))) (aT (eC (.bl false))) (cv)))
 (aT (cF IU (aJ (cK zF hw) [] (af (ae 0) (af (ae 2) (av)))) (kJ (af (uC hw (ae 2) (ae 1)) (af (et hw (ae 2) (ae 1)) (af (eC (.bl false)) (af (eC (.bl true)) (av))))))))))))
def gL(zF:Zz)(hw:List aB->Int):bc:=aT (uD 1 (ij zF.C_Paper aq 1 (ae 0)) (gN 0) (br (cF xr (nK hw (ij zF.C_Paper aq 2 (ae 1)) (cz gA (ae 0) (eC (.int 0)))) (ae 2))) (ae 0))
def i5(zF:Zz)(hw:List aB->Int):bc:=aT (fE 1 (fB (bY zF.C_Paper aq (bI zF hw) [] (ae 0) (af (eC k_WAITS) (av)))) (gN 0) (jM) (cz gA (ae 0) (eC (.int 0))))
def i7(zF:Zz)(hw:List aB->Int):bc:=aT (eB z9 (af (ij zF.C_Paper aq 1 (ae 0)) (av)))
def mM(zF:Zz)(hw:List aB->Int):bc:=sSeq (il (br (cF xq (lM 1 (ae 1) (gN 0) (jM) (bY zF.C_Paper aq (bD zF hw) [] (ae 1) (af (ae 0) (av)))) (A_ (ae 1)))) (aT (eC (.bl false))) (cv))
 (sSeq (il (br (cF xq (bY zF.C_Paper aq (bS zF hw) [] (ae 0) av) (lM 1 (ae 1) (gN 0) (br (cF xr (nK hw (ae 2) (ae 0)) (eC (.str "waits")))) (ae 0)))) (aT (eC (.bl false))) (cv))
 (sSeq (bK 3 (lM 1 (ae 1) (gN 0) (br (cF xq (nK hw (ae 2) (ae 0)) (eC (.str "wiped")))) (ae 0)))
 (sSeq (il (br (cF xq (bY zF.C_Paper aq (bE zF hw) [] (ae 0) av) (aJ (eW zF hw) [] (af (ae 2) (af (uB (bY zF.C_Paper aq (bU zF hw) [] (ae 0) av)) (af (ae 3) (av))))))) (aT (eC (.bl false))) (cv))
 (aT (cF xr (bY zF.C_Paper aq (cZ zF hw) [] (ae 0) av) (aJ (eR zF hw) [] (af (ae 2) (af (uB (bY zF.C_Paper aq (bU zF hw) [] (ae 0) av)) (af (ae 3) (av))))))))))
def iB(zF:Zz)(hw:List aB->Int):bc:=sSeq (sR zF.C_Paper [] "old" (ae 0) (ae 1))
 (sSeq (sR zF.C_Paper ["old"] "drawn" (ae 0) (uB (kJ (av))))
 (sSeq (sR zF.C_Paper ["old","drawn"] "states" (ae 0) (mY hw))
 (sSeq (sR zF.C_Paper AJ0 "greatest" (ae 0) (Fl))
 (sR zF.C_Paper ["old","drawn","states","greatest"] "time" (ae 0) (eC (.int 0))))))
def D7(zF:Zz)(hw:List aB->Int):bc:=sSeq (bK 6 (aJ (da zF hw) [] (af (ae 5) (af (eC (.int 7)) (av)))))
 (sSeq (il (As (br (cz IT (cz jx (cz gA (ae 6) (eC (.int 5))) (eC (.int 16))) (eC (.int 8)))) (br (cF GC (ae 4) (mY hw)))) (de hw (ae 4) (aJ (ef zF hw) [] (af (ae 3) (af (ae 6) (av)))) (eC (.str "waits"))) (sSeq (bK 7 (cz lB (Ba (ae 4)) (kJ (af (im (af (eC (.str "bob")) (af (cz lB (cz IR (eC (.int 10)) (eC (.int 9))) (cz jx (cz gA (ae 6) (eC (.int 6))) (eC (.int 9)))) (av)))) (af (im (af (eC (.str "zoe")) (af (eC (.int 1)) (av)))) (av))))))
 (sSeq (bK 8 (cz gA (ae 7) (cz jx (cz gA (ae 6) (eC (.int 6))) (eB pB (af (ae 7) (av))))))
 (sSeq (bK 9 (bY zF.C_Paper aq (bS zF hw) [] (ae 3) av))
 (sSeq (il (sG (br (cz Lo (cz jx (cz gA (ae 6) (eC (.int 4))) (eC (.int 3))) (eC (.int 0)))) (br (cF xq (ae 9) (kJ (av))))) (bK 8 (cz gA (ae 9) (cz jx (cz gA (ae 6) (eC (.int 6))) (eB pB (af (ae 9) (av)))))) (cv))
 (il (sE (sF (aJ (ck zF hw) [] (af (ae 3) (af (ae 4) (af (ae 8) (af (cz gA (kJ (af (eC (.str "stands")) (af (eC (.str "wiped")) (av)))) (cz jx (cz gA (ae 6) (eC (.int 3))) (eC (.int 2)))) (av)))))))) (aT (eC (.bl false))) (cv)))))))
 (il (sE (sF (aJ (dH zF hw) [] (af (ae 3) (af (ae 4) (af (ae 2) (av))))))) (aT (eC (.bl false))) (cv)))
def D5(zF:Zz)(hw:List aB->Int):bc:=sSeq (bK 1 (aJ (cL zF hw) [] (af (ae 0) (af (eC (.int 0)) (av)))))
 (sSeq (bK 2 (Jn HA (eC (.str "an old\npaper")) (Kv) (oW (cz jx (ae 1) (eC (.int 13))))))
 (sSeq (bK 3 (lL zF.C_Paper (cb zF hw) [] (af (ae 2) (av))))
 (sSeq (bK 4 (mY hw))
 (sSeq (iV (fB (Jn HA (ae 0) (oW (eC (.int 1))) (oW (eC (.int 21))))) (gN 5) (D7 zF hw))
 (aT (aJ (ck zF hw) [] (af (ae 3) (af (ae 4) (af (im (af (eC (.str "zoe")) (af (eC (.int 1)) (av)))) (af (eC (.str "wiped")) (av)))))))))))
def wl:String:="cv eG aT J7 Ir J8 il gy bK FY iu LO BC sR ae eC cz cF qF L_ MG KI MH L9 br sG As sE sF jM Ig im kJ av af lB oI HG GB jx IV IR CH IT JQ Lo MC xr xq gA Jn Kv oW HA eB pB z9 xR Mb Fw Mc Md xD aJ bY lL ij KL jI fE iV fB L5 L4 LZ LM eL xV FE gN uo ig ur val b7 List.map_cons List.map_nil List.replicate List.length_cons List.length_nil List.cons_append List.nil_append List.append_nil List.getElem?_cons_zero List.getElem?_cons_succ List.getElem?_nil List.set_cons_zero List.set_cons_succ List.set_nil Nat.reduceAdd Nat.reduceSub Nat.reduceLeDiff Nat.zero_add Option.some.injEq Option.map_some decide_eq_true_eq true_and and_true and_self if_true if_false Bool.false_eq_true reduceCtorEq List.cons.injEq GO.ins.injEq GO.lst.injEq D.lst.injEq D.fl.injEq exists_eq_left' exists_eq_left exists_eq' ax dM pl a_ La K_ K9 K8 K7 K6 K4 K3 K2 K1 K0 KZ KY KW KU mY Fl qE de iE KJ KH Jp LS IS j_ b_ nJ zC GP Bool.not_true Bool.not_false bz iW eF Bd Jo Jm A9 LU zi uh Ay nK uC et Me KS if_true if_false Bc Bb CY fF DT B8 xS KG GZ Mw KH et qE j_ Lo uB DS uD k_WAITS k_WIPED k_STANDS Fw vE GC Ba A_ k_START uu ut qD r8 xb xi xa xh w_ xg w8 xf zO zN vy xH CA CD Cz CC xc xj vB vA uv vz zf zg bf dQ cw aQ cm bu ce bW dq az bC bn du cW fH eV fG d_ ee cA ao cJ c_ dG eW eR dw bR dy bQ dR cx cO dk bT cZ bE bU bI bS aP aO cy bx bD aX cY bV cb cM eg dI cL da ef cX cK ck dH"
local macro_rules | `(tactic| walk_at "st") => do let ls <- (("sSeq " ++ wl).splitOn " ").toArray.mapM (fun s => `(Lean.Parser.Tactic.simpLemma| $(Lean.mkIdent s.toName):term)); `(tactic| simp only [$ls,*, *])
local macro_rules | `(tactic| walk_at "s1") => do let ls <- (wl.splitOn " ").toArray.mapM (fun s => `(Lean.Parser.Tactic.simpLemma| $(Lean.mkIdent s.toName):term)); `(tactic| simp only [$ls,*, *])
theorem zJ{b:Bool}{p q:Prop}(h1:b=true->p)(h2:b=false->q):if b=true then p else q:=by
 cases b
 ·rw[if_neg (by decide)];exact h2 rfl
 ·rw[if_pos rfl];exact h1 rfl
theorem iteF{p q:Prop}(h:q):if (false:Bool)=true then p else q:=by rw[if_neg (by decide)];exact h
theorem iteT{p q:Prop}(h:p):if (true:Bool)=true then p else q:=by rw[if_pos rfl];exact h
theorem rp{a b:Int}(h:0 < b):0<=a % b/\a % b < b:=⟨Int.emod_nonneg _ (by walk_at "o"),Int.emod_lt_of_pos _ h⟩
theorem Bg{α:Type}[Inhabited α]{f:α->D}{xs:List α}{i:Int}(h0:0<=i)(h:i < xs.length):iI (xs.map f) i=some (f (xs.getD i.toNat default)):=by
 rw[z_ h0 (by rw[MY];exact h)]
 have hi:i.toNat < xs.length:=by walk_at "o"
 simp[hi]
theorem wj(h:G p=none):fL (gset G p o) p=G:=by
 funext a
 by_cases e:a=p
 ·subst e;rw[eh,h]
 ·rw[em e,ai e]
local macro_rules | `(tactic| walk_at "conds") => `(tactic| (repeat ((with_reducible refine And.intro ?cc ?_); (case cc => first | decide | omega | rfl))))
def bM(sp:cG)(rd:bc)(ns:List Str):Prop:=∀ ds G Q,sp ds G Q->rd { nx:=fun _ G'=>Q .non G',rt:=Q } (b7 ns ds) G
def bA(sp:cG)(n:Nat):Prop:=∀ ds G Q,sp ds G Q->ds.length=n
local macro_rules | `(tactic| walk_at "i") => `(tactic| first | exact Or.inl rfl | exact Or.inr rfl)
def MJ(sp:vG)(rx:XQ->bc)(ns:List Str):Prop:=∀ EQ ds G Q,sp ds G Q EQ->rx EQ { nx:=fun _ G'=>Q .non G',rt:=Q } (b7 ns ds) G
def MM(sp:vG)(n:Nat):Prop:=∀ ds G Q EQ,sp ds G Q EQ->ds.length=n
theorem me(zF:Zz)(hw:HW):bM (aQ zF hw) (hU zF hw) AN0:=by
 intro ds G Q h;unfold aQ at h;split at h
 ·rename_i a d t;obtain⟨C,hC,hG,p,n,rfl,h⟩:=h;have hs:=aj;unfold hU;walk_at "st";walk_at "conds";exact h
 ·exact h.elim
theorem p_(zF:Zz)(hw:HW):bM (cm zF hw) (j6 zF hw) Aq0:=by
 intro ds G Q h;unfold cm at h;split at h
 ·rename_i a d t b x;obtain⟨hG,p,n,s,rfl,rfl,h⟩:=h;have hs:=aj;have hc:zF.Z2∈zF.F:=by simp
  unfold j6;unfold Sl.d;walk_at "st";exact⟨zF.Z2,hc,rfl,p,n,rfl,⟨hc,by decide⟩,⟨hc,by decide⟩,h⟩
 ·exact h.elim
theorem mf(zF:Zz)(hw:HW):bM (bu zF hw) (hV zF hw) AB0:=by
 intro ds G Q h;unfold bu at h;split at h
 ·obtain⟨hG,p,n,rfl,h⟩:=h;have hs:=aj;have hc:zF.Z3∈zF.F:=by simp
  unfold hV;walk_at "st";exact⟨zF.Z3,hc,rfl,p,n,rfl,⟨hc,by decide⟩,h⟩
 ·exact h.elim
theorem nu(zF:Zz)(hw:HW):bM (ce zF hw) (iC zF hw) As0:=by
 intro ds G Q h;unfold ce at h;split at h
 ·obtain⟨hG,p,n,rfl,h⟩:=h;have hs:=aj;have hc:zF.Z4∈zF.F:=by simp
  unfold iC;walk_at "st";exact⟨zF.Z4,hc,rfl,p,n,rfl,⟨hc,by decide⟩,⟨hc,by decide⟩,h⟩
 ·exact h.elim
theorem oE(zF:Zz)(hw:HW):bM (bW zF hw) (i8 zF hw) Ar0:=by
 intro ds G Q h;unfold bW at h;split at h
 ·obtain⟨hG,p,n,s,rfl,rfl,h⟩:=h;have hs:=aj;have hc:zF.Z5∈zF.F:=by simp
  unfold i8;unfold Sl.d;walk_at "st";exact⟨zF.Z5,hc,rfl,p,n,rfl,⟨hc,by decide⟩,⟨hc,by decide⟩,h⟩
 ·exact h.elim
theorem sV(zF:Zz)(hw:HW):bM (cw zF hw) (mK zF hw) Aw0:=by
 intro ds G Q h;unfold cw at h;split at h
 ·rename_i p n m;obtain⟨⟨h1,h2⟩,h⟩:=h;have hs:=aj;unfold mK;walk_at "s1";refine⟨⟨by walk_at "o",by walk_at "o",by walk_at "o",by walk_at "o"⟩,f9 (fun d=>match d with|.int k=>.tup [.str p,.int n,.int k]|d=>d) (by rw[iM];omega) (fun d hd P hP=>?_) ?_⟩
  ·obtain⟨k,hk,rfl⟩:=mem_map.mp hd;walk_at "st";exact⟨rfl,by walk_at "o",by simp,by walk_at "o",hP _ rfl⟩
  ·have e:(fJ 1 (m+1 - 1).toNat).map (fun d=>match d with|D.int k=>D.tup [.str p,.int n,.int k]|d=>d)=(dZ p n m.toNat).map Sl.d:=by
    unfold fJ dZ;rw[Nq,Nq,show m+1 - 1=m by walk_at "o"]
    refine Ot fun k _=>?_;simp only[Function.comp,Sl.d];rw[Int.add_comm]
   rw[e];exact h
 ·exact h.elim
theorem u4(zF:Zz)(hw:HW):bM (du zF hw) (oG zF hw) ["old"]:=by
 intro ds G Q h;unfold du at h;split at h
 ·rename_i x;obtain⟨h1,h⟩:=h;have hs:=aj;unfold oG;have ec:L3.cutD [D.str (MW ""),D.int 0,D.int 0] none (some 2)=[D.str (MW ""),D.int 0]:=by rw[Hc (by decide)];rfl
  walk_at "st";refine⟨by decide,by walk_at "o",⟨by walk_at "o",by walk_at "o"⟩,?_⟩
  rw[Int.toNat_natCast];exact h
 ·exact h.elim
theorem p9(zF:Zz)(hw:HW):bM (az zF hw) (j5 zF hw) Ad0:=by
 intro ds G Q h;unfold az at h;split at h
 ·have hs:=aj;unfold j5;walk_at "st"
  first|exact⟨by walk_at "o",h⟩|omega
 ·exact h.elim
theorem u_(zF:Zz)(hw:HW):bM (bC zF hw) (oN zF hw) Ad0:=by
 intro ds G Q h;unfold bC at h;split at h
 ·rename_i a;obtain⟨s,b,x,⟨e,hG,hl⟩,h⟩:=h;have hs:=aj;have hc:zF.Z2∈zF.F:=by simp
  unfold aS at hG;rw[e]at hG;unfold oN;walk_at "st";refine⟨by walk_at "o",⟨by walk_at "o",by walk_at "o"⟩,?_⟩
  rw[Int.toNat_natCast];unfold made at h;rw[e]at h;exact h
 ·exact h.elim
theorem tq(zF:Zz)(hw:HW):bM (bn zF hw) (mT zF hw) Ad0:=by
 intro ds G Q h;unfold bn at h;split at h
 ·rename_i a;obtain⟨s,b,ns,⟨e,hG,hl⟩,h⟩:=h;have hs:=aj;have hc:zF.Z5∈zF.F:=by simp
  unfold aS at hG;rw[e]at hG;unfold mT;walk_at "st";rw[MY];refine⟨⟨by walk_at "o",by walk_at "o"⟩,?_⟩
  rw[Int.toNat_natCast];unfold made at h;rw[e]at h;exact h
 ·exact h.elim
theorem pN(h:MW a≠MW b):dC (.str (MW a)) (.str (MW b))=false:=bo fun z=>h (by injection z)
theorem u0(zF:Zz)(hw:HW):bM (dq zF hw) (oF zF hw) ["row","name","time","act"]:=by
 intro ds G Q h;unfold dq at h;split at h
 ·obtain⟨⟨pen,num,time,act⟩,rfl,h⟩:=h;have hs:=aj;unfold aS at h;unfold oF Sk.d;cases act with
  | put a x=>
   unfold Act.d;dsimp only at h;rw[ag];walk_at "s1";rw[ag];walk_at "s1";rw[ag];walk_at "s1";rw[ag];unfold Sl.d at h;unfold Sl.d;walk_at "s1";exact fun p hp=>⟨pen,num,a,rfl,rfl,h p hp⟩
  | strike ns=>
   unfold Act.d;dsimp only at h;rw[ag];walk_at "s1";rw[ag];walk_at "s1";rw[ag];walk_at "s1";have e0:=pN (a:="strike") (b:="put") (by decide +kernel)
   rw[ag];refine aY false (fun K hK=>?_) (iteF ?_)
   ·walk_at "st"
   ·simp only[cv];rw[ag];walk_at "s1";exact fun p hp=>⟨pen,num,rfl,h p hp⟩
  | dress ns w=>
   unfold Act.d;dsimp only at h;rw[ag];walk_at "s1";rw[ag];walk_at "s1";rw[ag];walk_at "s1";have e0:=pN (a:="dress") (b:="put") (by decide +kernel)
   have e1:=pN (a:="dress") (b:="strike") (by decide +kernel)
   rw[ag];refine aY false (fun K hK=>?_) (iteF ?_)
   ·walk_at "st"
   ·simp only[cv];rw[ag];refine aY false (fun K hK=>?_) (iteF ?_)
    ·walk_at "st"
    ·simp only[cv];rw[ag];walk_at "s1";exact fun p hp=>⟨pen,num,rfl,h p hp⟩
  | move ns a=>
   unfold Act.d;dsimp only at h;rw[ag];walk_at "s1";rw[ag];walk_at "s1";rw[ag];walk_at "s1";have e0:=pN (a:="move") (b:="put") (by decide +kernel)
   have e1:=pN (a:="move") (b:="strike") (by decide +kernel)
   have e2:=pN (a:="move") (b:="dress") (by decide +kernel)
   rw[ag];refine aY false (fun K hK=>?_) (iteF ?_)
   ·walk_at "st"
   ·simp only[cv];rw[ag];refine aY false (fun K hK=>?_) (iteF ?_)
    ·walk_at "st"
    ·simp only[cv];rw[ag];refine aY false (fun K hK=>?_) (iteF ?_)
     ·walk_at "st"
     ·simp only[cv];unfold Sl.d at h;unfold Sl.d;walk_at "s1";exact fun p hp=>⟨pen,num,a,rfl,rfl,h p hp⟩
 ·exact h.elim
theorem nq(zF:Zz)(hw:HW):bM (bf zF hw) (iz zF hw) Av0:=by
 intro ds G Q h;unfold bf at h;split at h
 ·obtain⟨r,rfl,h⟩:=h;have hs:=aj;unfold iz Rw.d;walk_at "st"
  first|exact⟨by walk_at "o",h⟩|omega
 ·exact h.elim
def Mz(hw:List aB->Int)(G:Gp)(p:MT)(ss W:List Sl)(b:Sl)(a:D)(i:Nat)(σ:dO)(G':Gp):Prop:=∃ (x4:Option D) (Wi:List Sl) (bi:Sl) (kvs:List (List aB×D)),σ=[some (.ref p),some a,some (.lst (ss.map Sl.d)),some bi.d,x4]/\G'=gset G p (.dT hw kvs)/\Dq kvs Wi/\bi∈Wi/\(∀ x∈ss.drop i,x∉Wi)/\bO Wi bi (ss.drop i)=bO W b ss/\Wi.length=W.length+i
theorem sW(zF:Zz)(hw:HW):bM (cW zF hw) (mL zF hw) AA0:=by
 intro ds G Q h;unfold cW at h;split at h
 ·rename_i p a xs;obtain⟨b,ss,W,kvs,⟨rfl,rfl,hG,hF,hb,nd,hf,hl⟩,h⟩:=h;have hs:=aj;unfold mL;rw[ag];have eb:(match b.d with|D.fl ds=>D.lst ds|d=>d)=b.d:=rfl
  simp only[bK,ae,b7,val,Nk,PF,O9,Ph,List.replicate,NR,NS,Nc,NA,Nu,NI,Nat.reduceAdd,Nat.reduceSub,eb];refine⟨Mz hw G p ss W b b.d,⟨_,W,b,kvs,rfl,?_,hF,hb,hf,rfl,rfl⟩,?_,?_⟩
  ·funext z
   by_cases e:z=p
   ·subst e;rw[ax];exact hG
   ·rw[ai e]
  ·rintro i d σ G' hd ⟨x4,Wi,bi,kvs,rfl,rfl,hF,hb,hf,hI,hlen⟩
   rw[Nd]at hd;cases hx:ss[i]? with
   | none=>rw[hx]at hd;cases hd
   | some x=>
    rw[hx]at hd;cases hd;obtain⟨hi,ex⟩:=List.getElem?_eq_some_iff.mp hx;have dr:ss.drop i=x::ss.drop (i+1):=by rw[<- ex];exact List.drop_eq_getElem_cons hi
    rw[dr]at hf hI;have hxW:=hf x M_;have fs:=Ff hF hb hxW;have lk:=hF.2.2.2 bi hb;have lx:=hF.2.2.1 x hxW;have nx1:=hF.2.1;have nd':(x::ss.drop (i+1)).Nodup:=by rw[<- dr];exact nd.sublist (List.drop_sublist _ _)
    rw[OL]at nd';simp only[gN,NI,Nu];have kx:=xE x;have kb:=xE bi;have vx:val x.d=x.d:=rfl;have vb:val bi.d=bi.d:=rfl;rw[ag];show ∃ d,b_ hw (gset G p (.dT hw kvs)) (.ref p) bi.d (some d)/\iE hw (.ref p) x.d (val d) (gset G p (.dT hw kvs)) _
    refine⟨nx Wi bi,?_,?_⟩
    ·show (match gset G p (.dT hw kvs) p with|some (.dT hw' kvs)=>hw'=hw/\∃ ks,nJ bi.d=some ks/\some (nx Wi bi)=bL kvs ks|some (.dK kvs)=>_|some (.dF _ hw' _ kvs)=>_|_=>False)
     rw[ax];exact⟨rfl,bi.key,kb,lk.symm⟩
    ·rw[IW];show (match gset G p (.dT hw kvs) p with|some (.dT hw' kvs)=>hw'=hw/\∃ ks,nJ x.d=some ks/\kvs.length < M1/\_|some (.dK kvs)=>_|some (.lst ds)=>_|_=>False)
     rw[ax];refine⟨rfl,x.key,kx,by walk_at "o",?_⟩
     rw[dM];dsimp only;rw[ag];show (match gset G p (.dT hw (bg kvs x.key (nx Wi bi))) p with|some (.dT hw' kvs)=>hw'=hw/\∃ ks,nJ bi.d=some ks/\kvs.length < M1/\_|some (.dK kvs)=>_|some (.lst ds)=>_|_=>False)
     rw[ax];refine⟨rfl,bi.key,kb,by have:=eX kvs x.key (nx Wi bi);omega,?_⟩
     rw[dM];refine⟨_,kI Wi bi x,x,_,rfl,rfl,fs,(ft hb x).mpr (.inr rfl),fun y hy hW=>?_,?_,by rw[lJ hb];omega⟩
     ·rcases (ft hb y).mp hW with z|z
      ·exact hf y (M7 _ hy) z
      ·exact nd'.1 (z ▸ hy)
     ·exact hI
  ·rintro σ G' ⟨x4,Wi,bi,kvs,rfl,rfl,hF,hb,hf,hI,hlen⟩
   rw[MY,List.drop_length]at hI;have:Wi=bO W b ss:=hI;rw[this]at hF;exact h _ hF
 ·exact h.elim
def Mo(G:Gp)(p q:MT)(R:List Sl)(m:Nat)(σ:dO)(G':Gp):Prop:=∃ i,i<=R.length/\m=R.length - i/\σ=[some (.ref p),some (.ref q),some (Ds (R.drop i))]/\G'=gset G q (.lst ((R.take i).map Sl.d))
theorem Kw(hW:W.Nodup):∀ {pre post:List Sl} {c:Sl},W=pre ++ c::post->nx W c=Ds post:=by
 induction W with
 | nil=>intro pre post c h;simp at h
 | cons a t ih=>
  intro pre post c h;rw[OL]at hW;cases pre with
  | nil=>
   simp only[Ph,List.cons.injEq]at h;obtain⟨rfl,rfl⟩:=h;simp[nx]
  | cons a' pre=>
   simp only[O9,List.cons.injEq]at h;obtain⟨rfl,h⟩:=h;have hc:c∈t:=by rw[h];simp
   simp only[nx];rw[if_neg (fun (z:a=c)=>hW.1 (by rw[z];exact hc))]
   exact ih hW.2 h
theorem yX(zF:Zz)(hw:HW):bM (fH zF hw) (tw zF hw) ["following","row","slot"]:=by
 intro ds G Q h;unfold fH at h;split at h
 ·rename_i p;obtain⟨R,kvs,⟨hG,hF,hl⟩,h⟩:=h;have hs:=aj;unfold tw;rw[ag];walk_at "s1";refine⟨by walk_at "o",fun q hq=>?_⟩
  have hpq:p≠q:=fun z=>by subst z;rw[hG]at hq;cases hq
  have gp:∀ o,gset G q o p=some (.dT hw kvs):=fun o=>by rw[ai hpq];exact hG
  have look:∀ c∈aE::R,∀ o,b_ hw (gset G q o) (.ref p) c.d (some (nx (aE::R) c)):=fun c hc o=>by
   show (match gset G q o p with|some (.dT hw' kvs)=>hw'=hw/\∃ ks,nJ c.d=some ks/\some (nx (aE::R) c)=bL kvs ks|some (.dK kvs)=>_|some (.dF _ hw' _ kvs)=>_|_=>False)
   rw[gp];exact⟨rfl,c.key,xE c,(hF.2.2.2 c hc).symm⟩
  rw[ag];show ∃ d,b_ hw (gset G q (.lst [])) (.ref p) aE.d (some d)/\_
  refine⟨_,look aE (by simp) _,?_⟩
  have e0:nx (aE::R) aE=Ds R:=by simp[nx]
  dsimp only;rw[ag,e0,xt];simp only[NI,Nu];refine⟨Mo G p q R,⟨R.length,0,N0 _,rfl,rfl,rfl⟩,?_⟩;have wc:∀ (a b:Option D) (d:D) (K:Bool->Gp->Prop) (G:Gp),br (cz zi (ae 2) (eC .non)) [a,b,some d] G K↔K (!uh d) G:=fun a b d K G=>Iff.rfl
  rintro m σ G' ⟨i,hi,rfl,rfl,rfl⟩
  by_cases hlt:i < R.length
  ·have dr:R.drop i=R[i]::R.drop (i+1):=List.drop_eq_getElem_cons hlt;rw[dr];refine (wc _ _ (R[i]).d _ _).mpr ?_;dsimp only;rw[show (!uh (R[i]).d)=true from rfl,if_pos rfl]
   have e1:nx (aE::R) R[i]=Ds (R.drop (i+1)):=Kw hF.1 (pre:=aE::R.take i) (by rw[O9];congr 1;rw[<- dr];exact (List.take_append_drop i R).symm)
   refine⟨fun σ G'=>Mo G p q R (R.length - (i+1)) σ G',fun σ2 G2 hN=>⟨_,by walk_at "o",hN⟩,?_⟩
   rw[ag];have ua:∀ (E:Ends3) (Z:D),eG (jI (ae 1) (af (ae 2) av)) E [some (.ref p),some (.ref q),some (R[i]).d] (gset G q (.lst ((R.take i).map Sl.d)))↔((R.take i).map Sl.d).length < M1/\E.nx [some (.ref p),some (.ref q),some (R[i]).d] (gset G q (.lst ((R.take i).map Sl.d ++ [(R[i]).d]))):=fun E Z=>by
    unfold Sl.d;walk_at "s1"
   rw[show Ds (R[i]::R.drop (i+1))=(R[i]).d from rfl,ua _ .non]
   refine⟨by rw[MY,NQ];omega,?_⟩
   dsimp only;show ∃ d,b_ hw (gset G q _) (.ref p) (R[i]).d (some d)/\_
   refine⟨_,look R[i] (by simp) _,i+1,by walk_at "o",rfl,?_,?_⟩
   ·rw[e1,xt];rfl
   ·rw[NK,M6 hlt,NP];rfl
  ·have ei:i=R.length:=by walk_at "o"
   subst ei;rw[List.drop_length,NB];refine (wc _ _ .non _ _).mpr ?_;dsimp only;rw[show (!uh D.non)=false from rfl,if_neg (by decide)]
   show iu 1 _ _ _
   simp only[iu,NS,NR,ax];rw[wj hq];exact h
 ·exact h.elim
theorem FN(vs:List Rw):(vs.map qt).map (·.2)=vs.map Rw.d:=by rw[Nq];rfl
theorem DX{rs:List Rw}{i:Nat}{d:D}(h:(rs.map Rw.d)[i]?=some d):∃ r,rs[i]?=some r/\d=r.d:=by
 rw[Nd]at h;cases e:rs[i]? with
 | none=>rw[e]at h;cases h
 | some r=>rw[e]at h;cases h;exact⟨r,rfl,rfl⟩
theorem key_at{rs:List Rw}{i:Nat}{d:D}(h:(rs.map Rw.key)[i]?=some d):∃ r,rs[i]?=some r/\d=r.key:=by
 rw[Nd]at h;cases e:rs[i]? with
 | none=>rw[e]at h;cases h
 | some r=>rw[e]at h;cases h;exact⟨r,rfl,rfl⟩
theorem FT(zF:Zz)(hw:HW)(G:Gp){vs base:List Rw}(hv:vs.Pairwise lS)(hb:base.length < 64)(sub:∀ r∈vs,r∈base):
  SortBy (bf zF hw) G (vs.map Rw.d) (vs.map Rw.key) fun i=>PySem.W.rankIn Rw.lt vs (vs.getD i default) where
 few:=by
  rw[MY];have:=f8 (rD hv) sub;omega
 len:=by rw[MY,MY]
 key:=fun i d kd h1 h2=>by
  obtain⟨r,e1,rfl⟩:=DX h1;obtain⟨r',e2,rfl⟩:=key_at h2;rw[e1]at e2;cases e2;exact⟨r,rfl,rfl,rfl⟩
 ki:=fun d hd=>by
  obtain⟨r,_,rfl⟩:=mem_map.mp hd;exact⟨_,_,rfl⟩
 cp:=fun a ha b hb=>by
  obtain⟨r,_,rfl⟩:=mem_map.mp ha;obtain⟨r',_,rfl⟩:=mem_map.mp hb;exact Jf r r'
 lt:=fun i j a b h1 h2=>by
  obtain⟨r,e1,rfl⟩:=key_at h1;obtain⟨r',e2,rfl⟩:=key_at h2;rw[Jc,PySem.W.rank_lt DU (Ni e1),Nj,Nj,e1,e2];rfl
theorem wU(zF:Zz)(hw:HW):bM (dQ zF hw) (qX zF hw) ["rows","by_name","row"]:=by
 intro ds G Q h;unfold dQ at h;split at h
 ·rename_i q;obtain⟨rs,base,⟨hq0,one,l1,l2,sub⟩,h⟩:=h;have hs:=aj;unfold qX;rw[ag];walk_at "s1";intro p hp;have hqp:q≠p:=fun z=>by subst z;rw[hp]at hq0;cases hq0
  rw[ag];walk_at "s1";refine⟨rs.map Rw.d,by rw[ai hqp];exact hq0,fun i σ G'=>∃ (vs:List Rw) (v:Option D),(σ=[some (.ref q),some (.ref p),v]/\G'=gset G p (.dT hw (vs.map qt)))/\vs.Pairwise lS/\∀ r,r∈vs↔r∈rs.take i,⟨[],none,⟨rfl,rfl⟩,.nil,by simp⟩,?_,?_,?_⟩
  ·rintro i σ G' ⟨vs,v,⟨_,rfl⟩,_⟩
   rw[ai hqp];exact hq0
  ·rintro i d σ G' hd ⟨vs,v,⟨rfl,rfl⟩,hv,hm⟩
   obtain⟨r,hr,rfl⟩:=DX hd;have hr':=Ni hr;have tk:∀ x,x∈rs.take (i+1)↔x∈rs.take i\/x=r:=fun x=>by
    rw[NK,hr,R6];simp
   have lv:vs.length<=base.length:=f8 (rD hv) fun x hx=>sub x (O3 ((hm x).mp hx));simp only[gN,NI,Nu];have fin:∀ G2,G2=gset G p (.dT hw (bg (vs.map qt) (q_ r) r.d))->∃ (vs:List Rw) (v:Option D),(([some (D.ref q),some (.ref p),some r.d]:dO)=[some (.ref q),some (.ref p),v]/\G2=gset G p (.dT hw (vs.map qt)))/\vs.Pairwise lS/\∀ x,x∈vs↔x∈rs.take (i+1):=by
    intro G2 e
    by_cases hin:r∈vs
    ·refine⟨vs,_,⟨rfl,?_⟩,hv,fun x=>?_⟩
     ·rw[e,Iy hin fun a ha pp nn=>one a (O3 ((hm a).mp ha)) r hr' pp nn]
     ·rw[tk,hm];constructor
      ·exact .inl
      ·rintro (z|rfl)
       ·exact z
       ·exact (hm _).mp hin
    ·have ap:∀ a∈vs,lS a r:=fun a ha z=>hin (by
      have:=one a (O3 ((hm a).mp ha)) r hr' z.1 z.2;subst this;exact ha)
     refine⟨vs ++ [r],_,⟨rfl,?_⟩,?_,fun x=>?_⟩
     ·rw[e,put_new ap]
     ·rw[List.pairwise_append];exact⟨hv,List.pairwise_singleton _ _,fun a ha b hb=>by rw[Q6.mp hb];exact ap a ha⟩
     ·rw[tk,R6,hm,Q6]
   refine (show de hw (ae 1) (cz gA (ae 2) (eC (.int 0))) (ae 2) _ [some (D.ref q),some (.ref p),some r.d] _ from ?_)
   show (match (gset G p (.dT hw (vs.map qt))) p with
    | some (.dT hw' kvs)=>hw'=hw/\∃ ks,nJ (.tup [.str r.pen,.int r.num])=some ks/\kvs.length < M1/\_
    | some (.dK kvs)=>_
    | some (.lst ds)=>_
    | _=>False)
   rw[ax];exact⟨rfl,q_ r,rfl,by rw[MY];omega,fin _ (by rw[dM];rfl)⟩
  ·rintro σ G' ⟨vs,v,⟨rfl,rfl⟩,hv,hm⟩
   rw[MY,NB]at hm;show (match (gset G p (.dT hw (vs.map qt))) p with
    | some (.dT _ kvs)=>∃ ks r,SortBy (bf zF hw) (gset G p (.dT hw (vs.map qt))) (kvs.map (·.2)) ks r/\∀ p':List Nat,p'.Perm (List.range (kvs.map (·.2)).length)->(p'.map r).Pairwise (·<=·)->Q (.fl (p'.map fun i=>(kvs.map (·.2)).getD i .non)) (gset G p (.dT hw (vs.map qt)))
    | _=>False)
   rw[ax];dsimp only;rw[FN];refine⟨vs.map Rw.key,_,FT zF hw _ hv l2 (fun r hr=>sub r ((hm r).mp hr)),fun q hq hsq=>?_⟩;rw[MY]at hq;obtain⟨st,mem⟩:=DO hv hq hsq;have e:(q.map fun i=>(vs.map Rw.d).getD i .non)=(q.map fun i=>vs.getD i default).map Rw.d:=by
    rw[Nq];refine Ot fun i hi=>?_;have li:i < vs.length:=mem_range.mp (hq.mem_iff.mp hi);simp[li]
   rw[e];exact h _ _ (gv.refl.gset hp) st fun r=>(mem r).trans (hm r)
 ·exact h.elim
theorem AA{sks:List Sk}:∀ {out:List Rw},(∀ r∈out,r∈sks.map Sk.rw)->∃ o:List Sk,out=o.map Sk.rw/\∀ s∈o,s∈sks
 | [],_=>⟨[],rfl,fun s hs=>by simp at hs⟩
 | r::t,h=>by
  obtain⟨o,e,ho⟩:=AA fun x hx=>h x (M7 _ hx);obtain⟨s,hs,er⟩:=mem_map.mp (h r M_);refine⟨s::o,by rw[e,<- er];rfl,fun x hx=>?_⟩
  rcases NH.mp hx with z|z
  ·rw[z];exact hs
  ·exact ho x z
theorem Act.d_inj{a b:Act}(h:a.d=b.d):a=b:=by
 have sl:∀ {xs ys:List Sl},xs.map Sl.d=ys.map Sl.d->xs=ys:=fun {xs ys} e=>List.map_inj_right (f:=Sl.d) (fun x y=>Sl.d_inj) |>.mp e
 have ne:∀ {x y:String},MW x≠MW y->D.str (MW x)≠D.str (MW y):=fun h z=>h (by injection z)
 cases a<;>cases b<;>simp only[Act.d,D.tup.injEq,List.cons.injEq,D.str.injEq,and_true,true_and,reduceCtorEq,and_false,false_and]at h
 ·obtain⟨h1,h2⟩:=h;rw[Sl.d_inj h1,h2]
 all_goals first
  | (exact absurd h (by decide +kernel))
  | (exact absurd h.1 (by decide +kernel))
  | skip
 ·rw[sl h]
 ·rw[sl h.1,h.2]
 ·rw[sl h.1,Sl.d_inj h.2]
theorem Sk.rw_inj{a b:Sk}(h:a.rw=b.rw):a=b:=by
 obtain⟨a1,a2,a3,a4⟩:=a;obtain⟨b1,b2,b3,b4⟩:=b;simp only[Sk.rw,Rw.mk.injEq]at h;obtain⟨rfl,rfl,rfl,h⟩:=h;rw[Act.d_inj h]
theorem uw(zF:Zz)(hw:HW)(hσ:σ[i]?=some (some (.ref p)))(hG:G p=some (aS zF s))(h:Q s.act.anch.d G):bz zF.F "anchor" (ae i) σ G Q:=by
 obtain⟨pen,num,time,act⟩:=s;unfold bz ae;rw[hσ];cases act<;>(simp only[aS]at hG;simp only[hG];refine⟨by simp,?_⟩;first|exact h)
theorem jz(zF:Zz)(hw:HW)(hσ:σ[i]?=some (some (.ref p)))(hG:G p=some (aS zF s))(hm:s.act.many<=1000)(h:Q (.fl ((made s).map Sl.d)) G):
  eF [(zF.Z1,az zF hw),(zF.Z2,bC zF hw),(zF.Z3,az zF hw),(zF.Z4,az zF hw),(zF.Z5,bn zF hw)] "slots" [] (ae i) av σ G Q:=by
 obtain⟨pen,num,time,act⟩:=s;unfold eF ae;rw[hσ];cases act with
 | put a x=>
  have hG':=hG;simp only[aS]at hG;simp only[hG];exact⟨by decide +kernel,bC zF hw,by simp,⟨_,a,x,⟨rfl,hG',hm⟩,h⟩⟩
 | strike ns=>
  simp only[aS]at hG;simp only[hG];exact⟨by decide +kernel,az zF hw,by simp,h⟩
 | dress ns w=>
  simp only[aS]at hG;simp only[hG];exact⟨by decide +kernel,az zF hw,by simp,h⟩
 | move ns a=>
  have hG':=hG;simp only[aS]at hG;simp only[hG];exact⟨by decide +kernel,bn zF hw,by simp,⟨_,a,ns,⟨rfl,hG',hm⟩,h⟩⟩
def FA(zF:Zz)(G:Gp)(ps:List MT)(o:List Sk):Prop:=∀ (j:Nat) p s,ps[j]?=some p->o[j]?=some s->G p=some (aS zF s)
theorem qh(zF:Zz)(s:Sk):∃ C L ds,aS zF s=.ins C L ds:=by
 obtain⟨pen,num,time,act⟩:=s;cases act<;>exact⟨_,_,_,rfl⟩
theorem ot(n:Nat):∀ (o:List Sk) (W:List Sl),(∀ s∈o,s.act.many<=1000)->(o.foldl fb W).length<=W.length+1000*o.length
 | [],W,_=>by simp
 | s::t,W,h=>by
  have h1:=h s M_;have ih:=ot n t (fb W s) fun x hx=>h x (M7 _ hx);have h2:(fb W s).length<=W.length+1000:=by
   unfold fb;split
   ·rename_i ha;rw[mX ha];have:(made s).length=s.act.many:=cq _ _ _;omega
   ·omega
  simp only[P6,Nc];omega
def MA(zF:Zz)(hw:List aB->Int)(G:Gp)(f:MT)(ps:List MT)(o:List Sk)(n:Nat)(x0 x1:Option D)(i:Nat)(σ:dO)(G':Gp):Prop:=∃ (x3:Option D) (kvs:List (List aB×D)),σ=[x0,x1,some (.ref f),x3]/\gv G G'/\FA zF G' ps o/\G' f=some (.dT hw kvs)/\Dq kvs (no n (o.take i))
theorem wT(zF:Zz)(hw:HW):bM (eV zF hw) (qW zF hw) Al0:=by
 intro ds G Q h;unfold eV at h;split at h
 ·rename_i x q;obtain⟨sks,base,⟨hq0,hx,one,l1,l2,sub,ok⟩,h⟩:=h;have hs:=aj;unfold qW;rw[ag];show ∀ f,G f=none->(match gset G f (.dT hw []) f with|some (.dT hw' [])=>hw'=hw/\∃ ks,nJ aE.d=some ks/\_|_=>False)
  intro f hf;have hqf:q≠f:=fun z=>by subst z;rw[hf]at hq0;cases hq0
  rw[ax];refine⟨rfl,aE.key,rfl,?_⟩;rw[dM];dsimp only;rw[ag];simp only[NI,Nu,b7,Nk,PF,O9,Ph,List.replicate,Nc,NA,Nat.reduceAdd,Nat.reduceSub];show x.length<=1000/\(∃ (b:Sl) (ss W:List Sl) (kvs:List (List aB×D)),(aE.d=b.d/\(fK x.length).map Sl.d=ss.map Sl.d/\gset G f (.dT hw [(aE.key,.non)]) f=some (.dT hw kvs)/\Dq kvs W/\b∈W/\ss.Nodup/\(∀ x∈ss,x∉W)/\W.length+ss.length<=900000)/\∀ SK,Dq SK (bO W b ss)->_)
  have ol:(fK x.length).length=x.length:=cq _ _ _;refine⟨hx,aE,fK x.length,[aE],_,⟨rfl,rfl,ax,C_ (fun _=>True),by simp,ic _ _ _,fun y hy hW=>?_,by rw[ol];simp;omega⟩,fun kvs hF=>?_⟩
  ·obtain⟨_,_,hk⟩:=fm hy;rw[Q6.mp hW]at hk;exact absurd hk (by decide)
  ·rw[dM];dsimp only;rw[ag];walk_at "s1";refine⟨sks.map Sk.rw,base.map Sk.rw,⟨by rw[ai hqf,hq0,Nq];rfl,one,by rw[MY];exact l1,by rw[MY];exact l2,fun r hr=>?_⟩,fun out G1 hE st mem=>?_⟩
   ·obtain⟨s,hs',rfl⟩:=mem_map.mp hr;exact mem_map.mpr ⟨s,sub s hs',rfl⟩
   obtain⟨o,rfl,ho⟩:=AA (sks:=sks) (out:=out) fun r hr=>(mem r).mp hr;have memo:∀ s,s∈o↔s∈sks:=fun s=>⟨ho s,fun hs'=>by
    obtain⟨s',h1,h2⟩:=mem_map.mp ((mem s.rw).mpr (mem_map.mpr ⟨s,hs',rfl⟩));rw[<- Sk.rw_inj h2];exact h1⟩
   have lo:o.length < 64:=by
    have:=f8 (e_ st) (ys:=base.map Sk.rw) fun r hr=>by
     obtain⟨s,hs',rfl⟩:=mem_map.mp hr;exact mem_map.mpr ⟨s,sub s (ho s hs'),rfl⟩
    rw[MY,MY]at this;omega
   have hG1:G1 f=some (.dT hw kvs):=hE f _ ax;have hE1:gv G G1:=fun a o' ha=>hE a o' (by
    have:a≠f:=fun z=>by subst z;rw[hf]at ha;cases ha
    rw[ai this];exact ha)
   have dmap:(o.map Sk.rw).map Rw.d=o.map Sk.d:=by rw[Nq];rfl
   rw[dmap];refine⟨by rw[MY];omega,fun i acc G2=>∃ ps:List MT,ps.length=i/\acc=ps.map D.ref/\gv G1 G2/\FA zF G2 ps o,⟨[],rfl,rfl,gv.refl,fun j p s hj=>by simp at hj⟩,?_,?_⟩
   ·rintro i d acc G2 hd ⟨ps,rfl,rfl,hE2,hO⟩
    rw[Nd]at hd;cases hsj:o[ps.length]? with
    | none=>rw[hsj]at hd;cases hd
    | some s=>
     rw[hsj]at hd;cases hd;refine⟨⟨by simp,rfl⟩,?_⟩
     show ∃ s':Sk,s.d=s'.d/\∀ p,G2 p=none->_
     refine⟨s,rfl,fun p hp=>⟨ps ++ [p],by simp,by rw[NP];rfl,fun a o' ha=>?_,fun j q s' hj hs'=>?_⟩⟩
     ·have:a≠p:=fun z=>by subst z;rw[hE2 a o' ha]at hp;cases hp
      rw[ai this];exact hE2 a o' ha
     ·rw[List.getElem?_append]at hj;split at hj
      ·have h1:=hO j q s' hj hs';have:q≠p:=fun z=>by subst z;rw[h1]at hp;cases hp
       rw[ai this];exact h1
      ·rename_i hge;have hj0:j=ps.length:=by
        by_cases z:j - ps.length=0
        ·omega
        ·obtain⟨k,hk⟩:∃ k,j - ps.length=k+1:=⟨j - ps.length - 1,by walk_at "o"⟩
         rw[hk]at hj;simp at hj
       subst hj0;simp at hj;subst hj;rw[hsj]at hs';cases hs';exact ax
   ·rintro acc G2 ⟨ps,hl,rfl,hE2,hO⟩
    rw[MY]at hl;show L3.ForIn _ _ _ _ (ps.map D.ref) G2
    refine⟨MA zF hw G f ps o x.length (some (.str x)) (some (.ref q)),⟨_,kvs,rfl,hE1.trans hE2,hO,hE2 f _ hG1,hF⟩,?_,?_⟩
    ·rintro i d σ G3 hd ⟨x3,kvs3,rfl,hE3,hO3,hf3,hF3⟩
     rw[Nd]at hd;cases hpj:ps[i]? with
     | none=>rw[hpj]at hd;cases hd
     | some p=>
      rw[hpj]at hd;cases hd;have hil:i < o.length:=by have:=(List.getElem?_eq_some_iff.mp hpj).1;omega
      have hsi:o[i]?=some o[i]:=M6 hil;have SJ:=hO3 i p _ hpj hsi;have oks:=ok o[i] (ho _ (PK hil));have tk:o.take (i+1)=o.take i ++ [o[i]]:=by rw[NK,hsi];rfl
      have fr:Bo (o.take i) (no x.length (o.take i)):=by
       have:=zM x.length (o.take i) [] _ (A6 x.length)
       simpa[no]using this
      have apart:∀ r∈o.take i,¬ (r.pen=(o[i]).pen/\r.num=(o[i]).num):=fun r hr z=>by
       obtain⟨j,hj,er⟩:=List.mem_iff_getElem.mp hr;rw[NQ]at hj;rw[List.getElem_take]at er;have hji:j < i:=by walk_at "o"
       have st':∀ a b:Nat,(ha:a < (o.map Sk.rw).length)->(hb:b < (o.map Sk.rw).length)->a < b->((o.map Sk.rw)[a]).lt (o.map Sk.rw)[b]=true:=fun a b ha hb hab=>List.pairwise_iff_getElem.mp st a b ha hb hab;have:=st' j i (by rw[MY];omega) (by rw[MY];omega) hji
       rw[List.getElem_map,List.getElem_map,er]at this;have Uq:=one (o[i]).rw (mem_map.mpr ⟨_,ho _ (PK hil),rfl⟩) r.rw (mem_map.mpr ⟨_,ho _ (er ▸ PK (by walk_at "o")),rfl⟩) z.1.symm z.2.symm
       rw[Uq,lt_irrefl]at this;cases this
      have fresh:=Fe fr oks.1 apart;have wl:=ot x.length (o.take i) (bO [aE] aE (fK x.length)) fun s hs'=>(ok s (ho s (O3 hs'))).2;rw[dm]at wl;have wl2:(no x.length (o.take i)).length<=100000:=by
       have e1:no x.length (o.take i)=(o.take i).foldl fb (aE::fK x.length):=by unfold no;rw[dm]
       rw[e1];rw[NQ,Nc,ol]at wl;omega
      generalize o[i]=s at *
      simp only[gN,NI,Nu];have nf:f≠p:=fun z=>by subst z;obtain⟨C,L,ds,e⟩:=qh zF s;rw[hf3,e]at SJ;cases SJ
      refine aY (decide (s.act.anch∈no x.length (o.take i))) (fun K hK=>?_) (zJ (fun hin=>?_) fun Uw=>?_)
      ·unfold br uC;refine uw zF hw (p:=p) (i:=3) rfl SJ ?_;show ∃ r,b_ hw G3 (.ref f) s.act.anch.d r/\_
       refine⟨bL kvs3 s.act.anch.key,?_,?_⟩
       ·show (match G3 f with|some (.dT hw' kvs)=>hw'=hw/\∃ ks,nJ s.act.anch.d=some ks/\bL kvs3 s.act.anch.key=bL kvs ks|some (.dK kvs)=>_|some (.dF _ hw' _ kvs)=>_|_=>False)
        rw[hf3];exact⟨rfl,_,rfl,rfl⟩
       ·have e1:(bL kvs3 s.act.anch.key).isSome=decide (s.act.anch∈no x.length (o.take i)):=by
         by_cases z:s.act.anch∈no x.length (o.take i)
         ·rw[hF3.2.2.2 _ z,decide_eq_true z];rfl
         ·rw[hF3.2.2.1 _ z,decide_eq_false z];rfl
        rw[e1];exact hK
      ·have Uh:=of_decide_eq_true hin;simp only[eG,aJ,af,av,ae,NR,NS];refine uw zF hw (p:=p) (i:=3) rfl SJ ?_;refine jz zF hw (p:=p) (i:=3) rfl SJ oks.2 ?_;have lm:(made s).length=s.act.many:=cq _ _ _;have lm2:=oks.2;show ∃ (b:Sl) (ss W:List Sl) (kvs:List (List aB×D)),(s.act.anch.d=b.d/\(made s).map Sl.d=ss.map Sl.d/\G3 f=some (.dT hw kvs)/\Dq kvs W/\b∈W/\ss.Nodup/\(∀ x∈ss,x∉W)/\W.length+ss.length<=900000)/\∀ SK,Dq SK (bO W b ss)->_
       refine⟨s.act.anch,made s,_,kvs3,⟨rfl,rfl,hf3,hF3,Uh,ic _ _ _,fresh,by walk_at "o"⟩,fun SK hF'=>?_⟩
       refine⟨_,SK,rfl,fun a o' ha=>?_,fun j q s' hj hs'=>?_,ax,?_⟩
       ·have:a≠f:=fun z=>by subst z;rw[hf]at ha;cases ha
        rw[ai this];exact hE3 a o' ha
       ·have h1:=hO3 j q s' hj hs';have:q≠f:=fun z=>by subst z;obtain⟨C,L,ds,e⟩:=qh zF s';rw[hf3,e]at h1;cases h1
        rw[ai this];exact h1
       ·rw[tk,vZ];unfold fb;rw[if_pos Uh];exact hF'
      ·have Uf:=of_decide_eq_false Uw;simp only[cv];refine⟨_,kvs3,rfl,hE3,hO3,hf3,?_⟩;rw[tk,vZ];unfold fb;rw[if_neg Uf];exact hF3
    ·rintro σ G3 ⟨x3,kvs3,rfl,hE3,hO3,hf3,hF3⟩
     rw[MY,hl,NB]at hF3;rw[sf]at hF3;show ∃ (R:List Sl) (kvs:List (List aB×D)),(G3 f=some (.dT hw kvs)/\Dq kvs (aE::R)/\R.length<=900000)/\_
     refine⟨iw x.length o,kvs3,⟨hf3,hF3,?_⟩,h o G3 hE3 st memo⟩;have wl:=ot x.length o (bO [aE] aE (fK x.length)) fun s hs'=>(ok s (ho s hs')).2;have e1:o.foldl fb (bO [aE] aE (fK x.length))=aE::iw x.length o:=sf x.length o;rw[e1,dm,Nc,Nc,ol]at wl;omega
 ·exact h.elim
theorem lX(s:Sk):s.act.many<=s.wd:=by
 obtain⟨pen,num,time,act⟩:=s;cases act<;>first|exact le_refl _|exact N0 _
theorem AC(zF:Zz)(hw:HW):bM (fG zF hw) (v3 zF hw) ["keys"]:=by
 intro ds G Q h;unfold fG at h;split at h
 ·rename_i xs;have hs:=aj;unfold v3;rcases h with ⟨ss,⟨rfl,hl⟩,h⟩|⟨ns,⟨rfl,hl⟩,h⟩
  ·walk_at "s1";refine f9 (fun d=>.tup [d,.bl true]) (by rw[MY];omega) (fun d hd P hP=>?_) ?_
   ·obtain⟨s,hs',rfl⟩:=mem_map.mp hd;unfold Sl.d;walk_at "st";exact⟨rfl,by walk_at "o",hP _ rfl⟩
   ·dsimp only;refine⟨aN (fun _=>.bl true) (ss.map fun s=>(s,())),⟨?_,by unfold aN;rw[MY,MY];exact hl⟩,fun p hp=>?_⟩
    ·unfold aN;rw[Nq,Nq,Nq];rfl
    ·rw[uE];exact h p hp
  ·walk_at "s1";refine f9 (fun d=>.tup [d,.bl true]) (by rw[MY];omega) (fun d hd P hP=>?_) ?_
   ·obtain⟨s,hs',rfl⟩:=mem_map.mp hd;unfold Nm.d;walk_at "st";exact⟨rfl,by walk_at "o",hP _ rfl⟩
   ·dsimp only;refine⟨ns.map fun n=>(n.key,.bl true),⟨?_,by rw[MY];exact hl⟩,fun p hp=>h p hp⟩
    rw[Nq,Nq];rfl
 ·exact h.elim
theorem jA(zF:Zz)(hw:HW){G:Gp}{p:MT}{α:Type}{f:α->D}{l:List (Sl×α)}(x:Sl)(hG:G p=some (.dT hw (aN f l))):b_ hw G (.ref p) x.d ((eU l x).map f):=by
 unfold b_;dsimp only;rw[hG];exact⟨rfl,x.key,rfl,(B_ f x l).symm⟩
theorem u5(zF:Zz)(hw:HW):bM (d_ zF hw) (oH zF hw) Ax0:=by
 intro ds G Q h;unfold d_ at h;split at h
 ·rename_i a p;obtain⟨s,row,⟨hG,hw',hp⟩,h⟩:=h;have hs:=aj;have mw:=lX s;unfold oH;unfold aT eB af av fE fB;refine jz zF hw (p:=a) (i:=0) (s:=s) rfl hG (by walk_at "o") ?_
  dsimp only[eL];have lm:(made s).length=s.act.many:=cq _ _ _;refine f9 (fun d=>match d with|.tup [.str q,.int n,.int k]=>.bl (eU row ⟨q,n,k⟩).isSome|d=>d) (by rw[MY,lm];omega) (fun d hd P hP=>?_) ?_
  ·obtain⟨x,hx,rfl⟩:=mem_map.mp hd;refine⟨⟨by simp[b7],rfl⟩,?_⟩
   show ∃ r,b_ hw G (.ref p) x.d r/\P (.bl r.isSome) G
   refine⟨_,jA zF hw x hp,hP _ ?_⟩;show D.bl ((eU row x).map _).isSome=D.bl (eU row x).isSome
   rw[Option.isSome_map]
  ·show ∃ bs:List Bool,xV G (val _)=some (bs.map D.bl)/\_;refine⟨(made s).map fun x=>(eU row x).isSome,?_,?_⟩
   ·show some _=some _;congr 1;rw[Nq,Nq];rfl
   ·rw[List.all_map];exact h
 ·exact h.elim
theorem GE{ns:List Nm}(n:Nm):(bL (dictOf (ns.map fun n=>(n.key,D.bl true))) n.key).isSome=decide (n∈ns):=by
 unfold dictOf;have key_inj:∀ {a b:Nm},a.key=b.key->a=b:=fun {a b} h=>by
  obtain⟨a1,a2⟩:=a;obtain⟨b1,b2⟩:=b;simp only[Nm.key,List.cons.injEq,Sum.inr.injEq,Sum.inl.injEq,and_true]at h;obtain⟨rfl,rfl⟩:=h;rfl
 suffices H:∀ l:List (List aB×D),(bL ((ns.map fun n=>(n.key,D.bl true)).foldl (fun a kv=>bg a kv.1 kv.2) l) n.key).isSome=((bL l n.key).isSome || decide (n∈ns)) by
  have:=H []
  simpa[bL]using this
 induction ns with
 | nil=>intro l;simp
 | cons m r ih=>
  intro l;rw[Nk,P6,ih,fP]
  by_cases e:n=m
  ·subst e;simp
  ·rw[if_neg (fun z=>e (key_inj z))];simp[e]
theorem iP.ext(h:iP zF G ps o)(e:gv G G'):iP zF G' ps o:=⟨h.1,fun j p s hp hs=>e _ _ (h.2 j p s hp hs)⟩
theorem iP.nil:iP zF G [] []:=⟨rfl,fun j p s hp=>by simp at hp⟩
theorem iP.add(h:iP zF G ps o)(hp:G p=some (aS zF s)):iP zF G (ps ++ [p]) (o ++ [s]):=by
 obtain⟨hl,h⟩:=h;refine⟨by simp[hl],fun j q t hq ht=>?_⟩
 rw[List.getElem?_append]at hq ht;split at hq
 ·rename_i hj;rw[if_pos (by walk_at "o")]at ht
  exact h j q t hq ht
 ·rename_i hj;rw[if_neg (by walk_at "o")]at ht
  have hj0:j - ps.length=0:=by
   by_cases z:j - ps.length=0
   ·exact z
   ·obtain⟨k,hk⟩:∃ k,j - ps.length=k+1:=⟨j - ps.length - 1,by walk_at "o"⟩
    rw[hk]at hq;simp at hq
  rw[hj0]at hq;rw[show j - o.length=0 by walk_at "o"]at ht
  simp only[NR,Option.some.injEq]at hq ht;subst hq ht;exact hp
theorem GI(row:List Sl)(x:Sl):(eU (bP [] (row.map fun s=>(s,()))) x).isSome=decide (x∈row):=by
 suffices H:∀ l:List (Sl×Unit),(eU (bP l (row.map fun s=>(s,()))) x).isSome=((eU l x).isSome || decide (x∈row)) by
  have:=H []
  simpa[eU]using this
 induction row with
 | nil=>intro l;simp[bP]
 | cons m r ih=>
  intro l;show (eU (bP (mi l m ()) (r.map fun s=>(s,()))) x).isSome=_
  rw[ih,Hh]
  by_cases e:x=m
  ·subst e;simp
  ·rw[if_neg e];simp[e]
theorem iP.snoc(h:iP zF G ps o)(hp:G p=none):iP zF (gset G p (aS zF s)) (ps ++ [p]) (o ++ [s]):=
 (h.ext (gv.refl.gset hp)).add ax
theorem u6(zF:Zz)(hw:HW):bM (ee zF hw) (oJ zF hw) Af0:=by
 intro ds G Q h;unfold ee at h;split at h
 ·rename_i q0 ns p;obtain⟨sks,base,names,row,⟨hq0,one,l1,l2,sub,wd,rfl,l3,hG⟩,h⟩:=h;have hs:=aj;unfold oJ;rw[ag];walk_at "s1";refine .inr ⟨names,⟨rfl,l3⟩,fun q hq=>?_⟩;have hpq:p≠q:=fun z=>by subst z;rw[hG]at hq;cases hq
  rw[ag];have g1:gset G q (.dT hw (dictOf (names.map fun n=>(n.key,.bl true)))) q=some (.dT hw (dictOf (names.map fun n=>(n.key,.bl true)))):=ax;have g2:gv G (gset G q (.dT hw (dictOf (names.map fun n=>(n.key,.bl true))))):=gv.refl.gset hq;generalize gset G q (.dT hw (dictOf (names.map fun n=>(n.key,.bl true))))=G1 at g1 g2;walk_at "s1";refine⟨sks.map Sk.rw,base.map Sk.rw,⟨by rw[g2 q0 _ hq0,Nq];rfl,one,by rw[MY];exact l1,by rw[MY];exact l2,fun r hr=>?_⟩,fun out G2 hE st mem=>?_⟩
  ·obtain⟨s,hs',rfl⟩:=mem_map.mp hr;exact mem_map.mpr ⟨s,sub s hs',rfl⟩
  obtain⟨o,rfl,ho⟩:=AA (sks:=sks) (out:=out) fun r hr=>(mem r).mp hr;have memo:∀ s,s∈o↔s∈sks:=fun s=>⟨ho s,fun hs'=>by
   obtain⟨s',h1,h2⟩:=mem_map.mp ((mem s.rw).mpr (mem_map.mpr ⟨s,hs',rfl⟩));rw[<- Sk.rw_inj h2];exact h1⟩
  have lo:o.length < 64:=by
   have:=f8 (e_ st) (ys:=base.map Sk.rw) fun r hr=>by
    obtain⟨s,hs',rfl⟩:=mem_map.mp hr;exact mem_map.mpr ⟨s,sub s (ho s hs'),rfl⟩
   rw[MY,MY]at this;omega
  have dmap:(o.map Sk.rw).map Rw.d=o.map Sk.d:=by rw[Nq];rfl
  rw[dmap];refine⟨by rw[MY];omega,fun i acc G3=>∃ ps:List MT,acc=ps.map D.ref/\gv G2 G3/\iP zF G3 ps ((o.take i).filter fun s=>decide (s.nm∈names)),⟨[],rfl,gv.refl,by simpa using iP.nil⟩,?_,?_⟩
  ·rintro i d acc G3 hd ⟨ps,rfl,hE3,hO⟩
   rw[Nd]at hd;cases hsj:o[i]? with
   | none=>rw[hsj]at hd;cases hd
   | some s=>
    rw[hsj]at hd;cases hd;have tk:(o.take (i+1)).filter (fun s=>decide (s.nm∈names))=(o.take i).filter (fun s=>decide (s.nm∈names)) ++ (if s.nm∈names then [s]else []):=by
     rw[NK,hsj,OC]
     by_cases e:s.nm∈names
     ·rw[if_pos e];simp[e]
     ·rw[if_neg e];simp[e]
    refine⟨⟨by simp,rfl⟩,?_⟩
    show ∃ r,b_ hw G3 (.ref q) s.nm.d r/\(match D.bl r.isSome with|.bl b=>_|_=>False)
    refine⟨bL (dictOf (names.map fun n=>(n.key,D.bl true))) s.nm.key,?_,?_⟩
    ·unfold b_;dsimp only;rw[hE3 q _ (hE q _ g1)];exact⟨rfl,_,rfl,rfl⟩
    ·rw[GE];dsimp only
     by_cases e:s.nm∈names
     ·rw[decide_eq_true e,if_pos rfl];show ∃ s':Sk,s.d=s'.d/\∀ p,G3 p=none->_
      refine⟨s,rfl,fun r hr=>⟨ps ++ [r],by rw[NP];rfl,fun a o' ha=>?_,?_⟩⟩
      ·have:a≠r:=fun z=>by subst z;rw[hE3 a o' ha]at hr;cases hr
       rw[ai this];exact hE3 a o' ha
      ·rw[tk,if_pos e];exact hO.snoc hr
     ·rw[decide_eq_false e,if_neg Bool.false_ne_true];refine⟨ps,rfl,hE3,?_⟩;rw[tk,if_neg e,Od];exact hO
  ·rintro acc G3 ⟨ps,rfl,hE3,hO⟩
   rw[MY,NB]at hO;dsimp only[val];have hE4:gv G G3:=g2.trans (hE.trans hE3);generalize hfl:o.filter (fun s=>decide (s.nm∈names))=ws at hO;have Um:∀ s∈ws,s∈o:=fun s hs'=>by rw[<- hfl]at hs';exact (mem_filter.mp hs').1
   have lw:ws.length<=o.length:=by rw[<- hfl];exact N7 _ _
   have hl:=hO.1;show (_<=M1)/\_
   refine⟨by rw[MY];omega,fun i acc G4=>∃ qs:List MT,acc=qs.map D.ref/\G4=G3/\iP zF G3 qs ((ws.take i).filter (jv row)),⟨[],rfl,rfl,by simpa using iP.nil⟩,?_,?_⟩
   ·rintro i d acc G4 hd ⟨qs,rfl,rfl,hQ⟩
    rw[Nd]at hd;cases hpi:ps[i]? with
    | none=>rw[hpi]at hd;cases hd
    | some a=>
     rw[hpi]at hd;cases hd;have hi:i < ws.length:=by have:=(List.getElem?_eq_some_iff.mp hpi).1;omega
     have hwi:ws[i]?=some ws[i]:=M6 hi;have hob:=hO.2 i a _ hpi hwi;refine⟨⟨by simp,rfl⟩,?_⟩
     have tk:(ws.take (i+1)).filter (jv row)=(ws.take i).filter (jv row) ++ (if jv row ws[i]=true then [ws[i]]else []):=by
      rw[NK,hwi,OC]
      by_cases e:jv row ws[i]=true
      ·rw[if_pos e];simp[e]
      ·rw[if_neg e];simp[e]
     have hgp:G4 p=some (.dT hw (aN (fun _=>.bl true) (bP [] (row.map fun s=>(s,()))))):=hE4 p _ hG;have pe:(made ws[i]).all (fun x=>(eU (bP [] (row.map fun s=>(s,()))) x).isSome)=jv row ws[i]:=by
      unfold jv;congr 1;funext x;exact GI row x
     refine⟨_,_,⟨hob,wd _ (ho _ (Um _ (PK hi))),hgp⟩,?_⟩;rw[pe];show True/\_
     refine⟨trivial,?_⟩;dsimp only
     by_cases e:jv row ws[i]=true
     ·rw[if_pos e];exact⟨qs ++ [a],by rw[NP];rfl,rfl,by rw[tk,if_pos e];exact hQ.add hob⟩
     ·rw[if_neg e];exact⟨qs,rfl,rfl,by rw[tk,if_neg e,Od];exact hQ⟩
   ·rintro acc G4 ⟨qs,rfl,rfl,hQ⟩
    rw[MY,hl,NB]at hQ;refine h o qs _ hE4 st memo ?_;unfold jl;rw[hfl];exact hQ
 ·exact h.elim
theorem wL{hw:HW}{α:Type}{f:α->D}{l:List (Sl×α)}{G:Gp}{p:MT}{x:Sl}{w:α}{K:Gp->Prop}(hG:G p=some (.dT hw (aN f l)))(hl:l.length < M1)(h:K (gset G p (.dT hw (aN f (mi l x w))))):iE hw (.ref p) x.d (f w) G K:=by
 unfold iE;dsimp only;rw[hG];exact⟨rfl,x.key,rfl,by unfold aN;rw[MY];exact hl,by rw[zd];exact h⟩
theorem sM{α:Type}{σ:List α}{a:Nat}(h:a < σ.length):σ.set a σ[a]=σ:=List.set_getElem_self h
theorem HJ{hw:HW}{α:Type}{f:α->D}(hf:∀ v,val (f v)=f v){m l:List (Sl×α)}{a b d:Nat}{σ:dO}{G:Gp}{p:MT}{E:Ends3}(hab:a≠b)(had:a≠d)(hbd:b≠d)(ha:a < σ.length)(hb:b < σ.length)(hσ:σ[d]?=some (some (.ref p)))(hl:l.length+m.length < M1)
  (h:∀ u v,E.nx ((σ.set a u).set b v) (gset G p (.dT hw (aN f (bP l m))))):ForIn (uo 2 (ig (gN a) (ig (gN b) ur))) (de hw (ae d) (ae a) (ae b)) E σ (m.map fun q=>.tup [q.1.d,f q.2]) (gset G p (.dT hw (aN f l))):=by
 refine⟨fun i σ' G'=>∃ u v,σ'=(σ.set a u).set b v/\G'=gset G p (.dT hw (aN f (bP l (m.take i)))),⟨σ[a],σ[b],by rw[sM ha,sM hb],rfl⟩,?_,?_⟩
 ·rintro i dd σ' G' hd ⟨u,v,rfl,rfl⟩
  rw[Nd]at hd;cases hq:m[i]? with
  | none=>rw[hq]at hd;cases hd
  | some q=>
   rw[hq]at hd;cases hd;have hi:=(List.getElem?_eq_some_iff.mp hq).1;have tk:m.take (i+1)=m.take i ++ [q]:=by rw[NK,hq];rfl
   unfold uo ig ur gN;refine⟨rfl,?_⟩;show de hw (ae d) (ae a) (ae b) _ ((((σ.set a u).set b v).set a (some q.1.d)).set b (some (f q.2))) _
   have e0:(((σ.set a u).set b v).set a (some q.1.d)).set b (some (f q.2))=(σ.set a (some q.1.d)).set b (some (f q.2)):=by
    rw[List.set_comm _ _ (Ne.symm hab),Rm,Rm]
   rw[e0];have s1:((σ.set a (some q.1.d)).set b (some (f q.2)))[b]?=some (some (f q.2)):=by rw[Oj (by rw[List.length_set];exact hb)]
   have s2:((σ.set a (some q.1.d)).set b (some (f q.2)))[a]?=some (some q.1.d):=by rw[Ox (Ne.symm hab),Oj ha]
   have s3:((σ.set a (some q.1.d)).set b (some (f q.2)))[d]?=some (some (.ref p)):=by rw[Ox hbd,Ox had];exact hσ
   unfold de ae;rw[s1,s2,s3];dsimp only;rw[hf];have pl:=eY (m.take i) l;rw[NQ]at pl;refine wL (x:=q.1) ax (by walk_at "o") ⟨_,_,rfl,?_⟩
   rw[dM,tk,nv]
 ·rintro σ' G' ⟨u,v,rfl,rfl⟩
  rw[MY,NB];exact h u v
theorem HK{hw:HW}{α:Type}{f:α->D}{w:α}(hf:val (f w)=f w){ns:List Sl}{l:List (Sl×α)}{a d:Nat}{σ:dO}{G:Gp}{p:MT}{E:Ends3}{te:aV}(had:a≠d)(ha:a < σ.length)(hσ:σ[d]?=some (some (.ref p)))(hl:l.length+ns.length < M1)
  (ht:∀ u l (K:jh),K (f w) (gset G p (.dT hw (aN f l)))->te (σ.set a u) (gset G p (.dT hw (aN f l))) K)
  (h:∀ u,E.nx (σ.set a u) (gset G p (.dT hw (aN f (bP l (ns.map fun n=>(n,w))))))):ForIn (gN a) (de hw (ae d) (ae a) te) E σ (ns.map Sl.d) (gset G p (.dT hw (aN f l))):=by
 refine⟨fun i σ' G'=>∃ u,σ'=σ.set a u/\G'=gset G p (.dT hw (aN f (bP l ((ns.take i).map fun n=>(n,w))))),⟨σ[a],by rw[sM ha],rfl⟩,?_,?_⟩
 ·rintro i dd σ' G' hd ⟨u,rfl,rfl⟩
  rw[Nd]at hd;cases hq:ns[i]? with
  | none=>rw[hq]at hd;cases hd
  | some q=>
   rw[hq]at hd;cases hd;have hi:=(List.getElem?_eq_some_iff.mp hq).1;have tk:ns.take (i+1)=ns.take i ++ [q]:=by rw[NK,hq];rfl
   show de hw (ae d) (ae a) te _ ((σ.set a u).set a (some q.d)) _
   rw[Rm];have s2:(σ.set a (some q.d))[a]?=some (some q.d):=by rw[Oj ha]
   have s3:(σ.set a (some q.d))[d]?=some (some (.ref p)):=by rw[Ox had];exact hσ
   unfold de;refine ht _ _ _ ?_;unfold ae;rw[s2,s3];dsimp only;rw[hf];have pl:=eY ((ns.take i).map fun n=>(n,w)) l;rw[MY,NQ]at pl;refine wL (x:=q) ax (by walk_at "o") ⟨_,rfl,?_⟩
   rw[dM,tk,NP,Nk,PF,nv]
 ·rintro σ' G' ⟨u,rfl,rfl⟩
  rw[MY,NB];exact h u
theorem nO{α β:Type}(f:α->D)(g:β->D):∀ (a:List α) (b:List β),nP (a.map f) (b.map g)=(a.zip b).map fun q=>.tup [f q.1,g q.2]
 | [],_=>rfl
 | _::_,[]=>rfl
 | x::a,y::b=>by simp only[Nk,nP,Pi,nO f g a b]
theorem vR(x:Str):L3.signs x=(Cm x).map D.str:=by unfold L3.signs Cm;rw[Nq];rfl
theorem Bz(x:Str):(Cm x).length=x.length:=by simp[Cm,Qu]
theorem l5{β:Type}(g:Sk->List β){o:List Sk}{i:Nat}{s:Sk}(h:o[i]?=some s):(o.take (i+1)).flatMap g=(o.take i).flatMap g ++ g s:=by
 rw[NK,h,List.flatMap_append];simp
theorem uy{β:Type}(g:Sk->List β):∀ {o:List Sk},(∀ s∈o,(g s).length<=1000)->(o.flatMap g).length<=1000*o.length
 | [],_=>by simp
 | s::r,h=>by
  have h1:=h s M_;have h2:=uy g (o:=r) fun t ht=>h t (M7 _ ht);rw[List.flatMap_cons,NJ,Nc];omega
theorem qH(h:s.wd<=1000):(gT s).length<=1000:=by
 obtain⟨pen,num,time,act⟩:=s;cases act with
 | put a x=>
  show ((made _).zip (Cm x)).length<=1000
  rw[Qr,Bz];have:x.length<=1000:=h;omega
 | _=>exact N0 _
theorem At(h:s.wd<=1000):(iR s).length<=1000:=by
 obtain⟨pen,num,time,act⟩:=s;cases act with
 | strike ns=>show (ns.map _).length<=1000;rw[MY];exact h
 | _=>exact N0 _
theorem DC(h:s.wd<=1000):(pM s).length<=1000:=by
 obtain⟨pen,num,time,act⟩:=s;cases act with
 | dress ns w=>show (ns.map _).length<=1000;rw[MY];exact h
 | _=>exact N0 _
theorem yG(h:s.wd<=1000):(m9 s).length<=1000:=by
 obtain⟨pen,num,time,act⟩:=s;cases act with
 | move ns a=>
  show (ns.zip (made _)).length<=1000
  rw[Qr];have:ns.length<=1000:=h;omega
 | _=>exact N0 _
theorem jn{β:Type}(h:wA o)(g:Sk->List β)(hg:∀ s:Sk,s.wd<=1000->(g s).length<=1000)(i:Nat):((o.take i).flatMap g).length<=64000:=by
 have h1:=uy g (o:=o.take i) fun s hs=>hg s (h.2 s (O3 hs));have h2:=h.1;rw[NQ]at h1;omega
theorem lG(zF:Zz)(hw:HW){G:Gp}{K:Bool->Gp->Prop}(b:Bool)(hσ:σ[i]?=some (some (.ref a)))(hG:G a=some (aS zF s))(hc:match s.act with|.put _ _=>(zF.Z2,b)∈cs|.strike _=>(zF.Z3,b)∈cs|.dress _ _=>(zF.Z4,b)∈cs|.move _ _=>(zF.Z5,b)∈cs)(h:K b G):sF (eB (xS cs C) (af (ae i) (af (eC (.ref C)) av))) σ G K:=by
 obtain⟨pen,num,time,act⟩:=s;unfold sF eB af av ae eC xS;rw[hσ];cases act<;>(simp only[aS]at hG;simp only[val,hG];exact⟨trivial,b,hc,⟨trivial,h⟩⟩)
theorem jy(zF:Zz)(hw:HW)(hσ:σ[i]?=some (some (.ref p)))(hG:G p=some (aS zF s))(ha:s.act=.strike ns\/(∃ w,s.act=.dress ns w)\/∃ b,s.act=.move ns b)(hm:ns.length<=1000)(h:Q (.fl (ns.map Sl.d)) G):
  eF [(zF.Z1,ao zF hw),(zF.Z2,ao zF hw),(zF.Z3,ao zF hw),(zF.Z4,ao zF hw),(zF.Z5,ao zF hw)] "touched" [] (ae i) av σ G Q:=by
 have hG':=hG;unfold eF ae;rw[hσ];obtain⟨pen,num,time,act⟩:=s;rcases ha with e|⟨w,e⟩|⟨b,e⟩<;>(have e':act=_:=e;subst e';simp only[aS]at hG;simp only[hG])
 ·exact⟨by decide +kernel,ao zF hw,by simp,_,ns,⟨.inl rfl,hG',hm⟩,h⟩
 ·exact⟨by decide +kernel,ao zF hw,by simp,_,ns,⟨.inr (.inl ⟨w,rfl⟩),hG',hm⟩,h⟩
 ·exact⟨by decide +kernel,ao zF hw,by simp,_,ns,⟨.inr (.inr ⟨b,rfl⟩),hG',hm⟩,h⟩
theorem nr(zF:Zz)(hw:HW):bM (ao zF hw) (iA zF hw) Ad0:=by
 intro ds G Q h;unfold ao at h;split at h
 ·rename_i p;obtain⟨⟨pen,num,time,act⟩,ns,⟨ha,hG,hl⟩,h⟩:=h;have hs:=aj;unfold aS at hG;unfold iA;rcases ha with e|⟨w,e⟩|⟨b,e⟩<;>(have e':act=_:=e;subst e';dsimp only at hG)
  ·have hc:zF.Z3∈zF.F:=by simp
   walk_at "st"
   try exact h
  ·have hc:zF.Z4∈zF.F:=by simp
   walk_at "st"
   try exact h
  ·have hc:zF.Z5∈zF.F:=by simp
   walk_at "st"
   try exact h
 ·exact h.elim
theorem xQ(x:Str){o:List Sk}{i:Nat}{s:Sk}(h:o[i]?=some s):aG x (o.take (i+1))=bP (aG x (o.take i)) (gT s):=by
 unfold aG;rw[l5 gT h,<- List.append_assoc,fi]
theorem yL{o:List Sk}{i:Nat}{s:Sk}(h:o[i]?=some s):bB (o.take (i+1))=bP (bB (o.take i)) (iR s):=by
 unfold bB;rw[l5 iR h,fi]
theorem Ar{o:List Sk}{i:Nat}{s:Sk}(h:o[i]?=some s):cV (o.take (i+1))=bP (cV (o.take i)) (m9 s):=by
 unfold cV;rw[l5 m9 h,fi]
theorem Ce{o:List Sk}{i:Nat}{s:Sk}(h:o[i]?=some s):fT (o.take (i+1))=bP (fT (o.take i)) (pM s):=by
 unfold fT;rw[l5 pM h,fi]
theorem F8{zF:Zz}{G:Gp}{ps:List MT}{o:List Sk}{i:Nat}{d:D}(h:iP zF G ps o)(hd:(ps.map D.ref)[i]?=some d):∃ a s,d=.ref a/\o[i]?=some s/\G a=some (aS zF s):=by
 rw[Nd]at hd;cases hp:ps[i]? with
 | none=>rw[hp]at hd;cases hd
 | some a=>
  rw[hp]at hd;cases hd;have hi:i < o.length:=by have:=(List.getElem?_eq_some_iff.mp hp).1;have:=h.1;omega
  exact⟨a,o[i],rfl,M6 hi,h.2 i a _ hp (M6 hi)⟩
theorem Db(zF:Zz)(hw:HW)(hσ:σ[i]?=some (some (.ref p)))(hG:G p=some (aS zF ⟨pen,num,time,.put a x⟩))(h:Q (.str x) G):bz zF.F "signs" (ae i) σ G Q:=by
 unfold bz ae;rw[hσ];simp only[aS]at hG;simp only[hG];exact⟨by simp,h⟩
theorem Fh(zF:Zz)(hw:HW)(hσ:σ[i]?=some (some (.ref p)))(hG:G p=some (aS zF ⟨pen,num,time,.dress ns w⟩))(h:Q (.str w) G):bz zF.F "word" (ae i) σ G Q:=by
 unfold bz ae;rw[hσ];simp only[aS]at hG;simp only[hG];exact⟨by simp,h⟩
theorem ou(zF:Zz)(hw:HW):bM (cA zF hw) (iX zF hw) Au0:=by
 intro ds G Q h;unfold cA at h;split at h
 ·rename_i x xs;obtain⟨ps,o,⟨rfl,hO,hS,hx⟩,h⟩:=h;have hs:=aj;unfold iX;rw[ag];walk_at "s1";have ol:(fK x.length).length=x.length:=cq _ _ _;have l0:((fK x.length).zip (Cm x)).length<=1000:=by rw[Qr];omega
  refine⟨_,_,aN D.str ((fK x.length).zip (Cm x)),⟨rfl,rfl,?_,by unfold aN;rw[MY];omega⟩,fun p hp=>?_⟩
  ·rw[vR,nO];unfold aN;rw[Nq];rfl
  rw[uE];have e0:bP [] ((fK x.length).zip (Cm x))=aG x (o.take 0):=by unfold aG;simp
  rw[e0];rw[ag];have hE:gv G (gset G p (.dT hw (aN D.str (aG x (o.take 0))))):=gv.refl.gset hp;show ForIn _ _ _ _ (ps.map D.ref) _
  refine⟨fun i σ G'=>∃ x3 x4 x5,σ=[some (.str x),some (.lst (ps.map D.ref)),some (.ref p),x3,x4,x5]/\G'=gset G p (.dT hw (aN D.str (aG x (o.take i)))),⟨_,_,_,rfl,rfl⟩,?_,?_⟩
  ·rintro i d σ G' hd ⟨x3,x4,x5,rfl,rfl⟩
   obtain⟨a,s,rfl,hsi,hGa⟩:=F8 hO hd;have hap:a≠p:=fun z=>by subst z;rw[hp]at hGa;cases hGa
   have SB:∀ u,gset G p u a=some (aS zF s):=fun u=>by rw[ai hap];exact hGa
   have swd:s.wd<=1000:=hS.2 s (Ni hsi);have bl:(aG x (o.take i)).length<=65000:=by
    have h1:=eY ((fK x.length).zip (Cm x) ++ (o.take i).flatMap gT) [];have h2:=jn hS gT (fun s hs=>qH hs) i;rw[NJ,NA]at h1;unfold aG;omega
   have bt:=xQ x hsi;simp only[gN,NI,Nu];obtain⟨pen,num,time,act⟩:=s;cases act with
   | put an w=>
    refine aY true (fun K hK=>lG zF hw (s:=⟨pen,num,time,.put an w⟩) (a:=a) (i:=3) true rfl (SB _) (by simp) hK) ?_
    rw[if_pos rfl];unfold iV CY af av;have mw:=lX ⟨pen,num,time,.put an w⟩;refine jz zF hw (p:=a) (i:=3) (s:=⟨pen,num,time,.put an w⟩) rfl (SB _) (by walk_at "o") ?_
    refine Db zF hw (p:=a) (i:=3) (a:=an) (x:=w) rfl (SB _) ?_;refine⟨_,_,⟨rfl,rfl⟩,?_⟩;rw[vR,nO];have bl2:=qH swd;refine HJ (f:=D.str) (fun _=>rfl) (m:=(made ⟨pen,num,time,.put an w⟩).zip (Cm w)) (by decide) (by decide) (by decide) (by simp) (by simp) rfl (by show _+(gT ⟨pen,num,time,.put an w⟩).length < _;omega) fun u v=>⟨_,_,_,rfl,?_⟩
    rw[bt];rfl
   | _=>
    refine aY false (fun K hK=>lG zF hw (s:=⟨pen,num,time,_⟩) (a:=a) (i:=3) false rfl (SB _) (by simp) hK) ?_
    rw[if_neg Bool.false_ne_true];refine⟨_,_,_,rfl,?_⟩;rw[bt];rfl
  ·rintro σ G' ⟨x3,x4,x5,rfl,rfl⟩
   rw[MY,hO.1,NB];exact h p hp
 ·exact h.elim
theorem pY(zF:Zz)(hw:HW):bM (cJ zF hw) (jW zF hw) AH0:=by
 intro ds G Q h;unfold cJ at h;split at h
 ·rename_i xs;obtain⟨ps,o,⟨rfl,hO,hS⟩,h⟩:=h;have hs:=aj;unfold jW;rw[ag];walk_at "s1";intro p hp;rw[ag];show ForIn _ _ _ _ (ps.map D.ref) _
  refine⟨fun i σ G'=>∃ x2 x3,σ=[some (.lst (ps.map D.ref)),some (.ref p),x2,x3]/\G'=gset G p (.dT hw (aN (fun _=>.bl true) (bB (o.take i)))),⟨_,_,rfl,rfl⟩,?_,?_⟩
  ·rintro i d σ G' hd ⟨x2,x3,rfl,rfl⟩
   obtain⟨a,s,rfl,hsi,hGa⟩:=F8 hO hd;have hap:a≠p:=fun z=>by subst z;rw[hp]at hGa;cases hGa
   have SB:∀ u,gset G p u a=some (aS zF s):=fun u=>by rw[ai hap];exact hGa
   have swd:s.wd<=1000:=hS.2 s (Ni hsi);have bl:(bB (o.take i)).length<=65000:=by
    have h1:=eY ((o.take i).flatMap iR) [];have h2:=jn hS iR (fun s hs=>At hs) i;rw[NA]at h1;unfold bB;omega
   have bt:=yL hsi;simp only[gN,NI,Nu];obtain⟨pen,num,time,act⟩:=s;cases act with
   | strike ns=>
    refine aY true (fun K hK=>lG zF hw (s:=⟨pen,num,time,.strike ns⟩) (a:=a) (i:=2) true rfl (SB _) (by simp) hK) ?_
    rw[if_pos rfl];unfold iV fB;have hl:ns.length<=1000:=swd;refine jy zF hw (p:=a) (i:=2) (s:=⟨pen,num,time,.strike ns⟩) rfl (SB _) (.inl rfl) hl ?_;dsimp only[eL];refine HK (f:=fun (_:Unit)=>D.bl true) (w:=()) rfl (by decide) (by simp) rfl (by walk_at "o") (fun u l K hK=>hK) fun u=>⟨_,_,rfl,?_⟩
    rw[bt];rfl
   | _=>
    refine aY false (fun K hK=>lG zF hw (s:=⟨pen,num,time,_⟩) (a:=a) (i:=2) false rfl (SB _) (by simp) hK) ?_
    rw[if_neg Bool.false_ne_true];refine⟨_,_,rfl,?_⟩;rw[bt];rfl
  ·rintro σ G' ⟨x2,x3,rfl,rfl⟩
   rw[MY,hO.1,NB];exact h p hp
 ·exact h.elim
theorem sU(zF:Zz)(hw:HW):bM (dG zF hw) (mJ zF hw) ["strokes","worn","stroke","name"]:=by
 intro ds G Q h;unfold dG at h;split at h
 ·rename_i xs;obtain⟨ps,o,⟨rfl,hO,hS⟩,h⟩:=h;have hs:=aj;unfold mJ;rw[ag];walk_at "s1";intro p hp;rw[ag];show ForIn _ _ _ _ (ps.map D.ref) _
  refine⟨fun i σ G'=>∃ x2 x3,σ=[some (.lst (ps.map D.ref)),some (.ref p),x2,x3]/\G'=gset G p (.dT hw (aN D.str (fT (o.take i)))),⟨_,_,rfl,rfl⟩,?_,?_⟩
  ·rintro i d σ G' hd ⟨x2,x3,rfl,rfl⟩
   obtain⟨a,s,rfl,hsi,hGa⟩:=F8 hO hd;have hap:a≠p:=fun z=>by subst z;rw[hp]at hGa;cases hGa
   have SB:∀ u,gset G p u a=some (aS zF s):=fun u=>by rw[ai hap];exact hGa
   have swd:s.wd<=1000:=hS.2 s (Ni hsi);have bl:(fT (o.take i)).length<=65000:=by
    have h1:=eY ((o.take i).flatMap pM) [];have h2:=jn hS pM (fun s hs=>DC hs) i;rw[NA]at h1;unfold fT;omega
   have bt:=Ce hsi;simp only[gN,NI,Nu];obtain⟨pen,num,time,act⟩:=s;cases act with
   | dress ns w=>
    refine aY true (fun K hK=>lG zF hw (s:=⟨pen,num,time,.dress ns w⟩) (a:=a) (i:=2) true rfl (SB _) (by simp) hK) ?_
    rw[if_pos rfl];unfold iV fB;have hl:ns.length<=1000:=swd;refine jy zF hw (p:=a) (i:=2) (s:=⟨pen,num,time,.dress ns w⟩) rfl (SB _) (.inr (.inl ⟨w,rfl⟩)) hl ?_;dsimp only[eL];refine HK (f:=D.str) (w:=w) rfl (by decide) (by simp) rfl (by walk_at "o") (fun u l K hK=>Fh zF hw (p:=a) (i:=2) (ns:=ns) (w:=w) rfl (SB _) hK) fun u=>⟨_,_,rfl,?_⟩
    rw[bt];rfl
   | _=>
    refine aY false (fun K hK=>lG zF hw (s:=⟨pen,num,time,_⟩) (a:=a) (i:=2) false rfl (SB _) (by simp) hK) ?_
    rw[if_neg Bool.false_ne_true];refine⟨_,_,rfl,?_⟩;rw[bt];rfl
  ·rintro σ G' ⟨x2,x3,rfl,rfl⟩
   rw[MY,hO.1,NB];exact h p hp
 ·exact h.elim
theorem rO(zF:Zz)(hw:HW):bM (c_ zF hw) (lf zF hw) AD0:=by
 intro ds G Q h;unfold c_ at h;split at h
 ·rename_i xs;obtain⟨ps,o,⟨rfl,hO,hS⟩,h⟩:=h;have hs:=aj;unfold lf;rw[ag];walk_at "s1";intro p hp;rw[ag];show ForIn _ _ _ _ (ps.map D.ref) _
  refine⟨fun i σ G'=>∃ x2 x3 x4,σ=[some (.lst (ps.map D.ref)),some (.ref p),x2,x3,x4]/\G'=gset G p (.dT hw (aN Sl.d (cV (o.take i)))),⟨_,_,_,rfl,rfl⟩,?_,?_⟩
  ·rintro i d σ G' hd ⟨x2,x3,x4,rfl,rfl⟩
   obtain⟨a,s,rfl,hsi,hGa⟩:=F8 hO hd;have hap:a≠p:=fun z=>by subst z;rw[hp]at hGa;cases hGa
   have SB:∀ u,gset G p u a=some (aS zF s):=fun u=>by rw[ai hap];exact hGa
   have swd:s.wd<=1000:=hS.2 s (Ni hsi);have bl:(cV (o.take i)).length<=65000:=by
    have h1:=eY ((o.take i).flatMap m9) [];have h2:=jn hS m9 (fun s hs=>yG hs) i;rw[NA]at h1;unfold cV;omega
   have bt:=Ar hsi;simp only[gN,NI,Nu];obtain⟨pen,num,time,act⟩:=s;cases act with
   | move ns an=>
    refine aY true (fun K hK=>lG zF hw (s:=⟨pen,num,time,.move ns an⟩) (a:=a) (i:=2) true rfl (SB _) (by simp) hK) ?_
    rw[if_pos rfl];unfold iV CY af av;have hl:ns.length<=1000:=swd;have mw:=lX ⟨pen,num,time,.move ns an⟩;refine jy zF hw (p:=a) (i:=2) (s:=⟨pen,num,time,.move ns an⟩) rfl (SB _) (.inr (.inr ⟨an,rfl⟩)) hl ?_;refine jz zF hw (p:=a) (i:=2) (s:=⟨pen,num,time,.move ns an⟩) rfl (SB _) (by walk_at "o") ?_
    refine⟨_,_,⟨rfl,rfl⟩,?_⟩;rw[nO];have bl2:=yG swd;refine HJ (f:=Sl.d) (fun _=>rfl) (m:=ns.zip (made ⟨pen,num,time,.move ns an⟩)) (by decide) (by decide) (by decide) (by simp) (by simp) rfl (by show _+(m9 ⟨pen,num,time,.move ns an⟩).length < _;omega) fun u v=>⟨_,_,_,rfl,?_⟩
    rw[bt];rfl
   | _=>
    refine aY false (fun K hK=>lG zF hw (s:=⟨pen,num,time,_⟩) (a:=a) (i:=2) false rfl (SB _) (by simp) hK) ?_
    rw[if_neg Bool.false_ne_true];refine⟨_,_,_,rfl,?_⟩;rw[bt];rfl
  ·rintro σ G' ⟨x2,x3,x4,rfl,rfl⟩
   rw[MY,hO.1,NB];exact h p hp
 ·exact h.elim
theorem sL{xs ys:List Sk}(h:xs.map Sk.rw=ys.map Sk.rw):xs=ys:=List.map_inj_right (f:=Sk.rw) (fun x y=>Sk.rw_inj) |>.mp h
def Ip:D->Sl
 | .tup [.str q,.int n,.int k]=>⟨q,n,k⟩
 | _=>default
theorem DP(x:Sl):Ip x.d=x:=rfl
theorem Cn(row:List Sl)(sit:List (Sl×Sl)):((row.map Sl.d).filter fun d=>(eU sit (Ip d)).isSome).map (fun d=>.tup [d,((eU sit (Ip d)).getD default).d])=(row.filterMap fun s=>(eU sit s).map fun n=>(s,n)).map fun p=>D.tup [p.1.d,p.2.d]:=by
 induction row with
 | nil=>rfl
 | cons s r ih=>
  rw[Nk,List.filter_cons,DP];cases e:eU sit s with
  | none=>
   rw[List.filterMap_cons_none (by rw[e];rfl)]
   simpa using ih
  | some n=>
   rw[List.filterMap_cons_some (b:=(s,n)) (by rw[e];rfl)]
   simp only[Option.isSome_some,if_true,Nk,ih,DP,e,Option.getD_some]
theorem AB(zF:Zz)(hw:HW):bM (eW zF hw) (v0 zF hw) Ac0:=by
 intro ds G Q h;unfold eW at h;split at h
 ·rename_i x q0 ns;obtain⟨sks,base,names,⟨hq0,hx,one,l1,l2,sub,ok,rfl,l3⟩,h⟩:=h;have hs:=aj;have okk:∀ s∈sks,s.ok:=fun s hs'=>⟨(ok s hs').1,le_trans (lX s) (ok s hs').2⟩;unfold v0;rw[ag];walk_at "s1";refine⟨sks,base,⟨by first|rfl|exact hq0,one,l1,l2,sub,okk⟩,fun out G1 hE1 st1 SO=>?_⟩
  have lo:out.length < 64:=by
   have:=f8 (e_ st1) (ys:=base.map Sk.rw) fun r hr=>by
    obtain⟨s,hs',rfl⟩:=mem_map.mp hr;exact mem_map.mpr ⟨s,sub s ((SO s).mp hs'),rfl⟩
   rw[MY,MY]at this;omega
  have T3:(iw x.length out).length<=900000:=by
   have wl:=ot x.length out (bO [aE] aE (fK x.length)) fun s hs'=>(okk s ((SO s).mp hs')).2;have e1:out.foldl fb (bO [aE] aE (fK x.length))=aE::iw x.length out:=sf x.length out;have ol:(fK x.length).length=x.length:=cq _ _ _;rw[e1,dm,Nc,Nc,ol]at wl;omega
  rw[ag];have h':=fun G' hE=>h out G' hE st1 SO;clear h;unfold lU at h';generalize iw x.length out=row at T3 h' ⊢;walk_at "s1";refine .inl ⟨row,⟨rfl,T3⟩,fun pm hpm=>?_⟩;refine⟨sks,base,names,row,⟨by first|exact (gv.refl.gset hpm) q0 _ (hE1 q0 _ hq0)|rfl,one,l1,l2,sub,fun s hs'=>(ok s hs').2,rfl,l3,rfl⟩,fun T1 ps G2 hE2 st2 T2 hO2=>?_⟩
  have eo:T1=out:=sL (iK st2 st1 fun r=>by
   constructor
   ·intro hr;obtain⟨s,hs',rfl⟩:=mem_map.mp hr;exact mem_map.mpr ⟨s,(SO s).mpr ((T2 s).mp hs'),rfl⟩
   ·intro hr;obtain⟨s,hs',rfl⟩:=mem_map.mp hr;exact mem_map.mpr ⟨s,(T2 s).mpr ((SO s).mp hs'),rfl⟩)
  subst eo;have hE3:gv G G2:=hE1.trans ((gv.refl.gset hpm).trans hE2);have sw:wA (jl T1 names row):=⟨le_trans (le_trans (N7 _ _) (N7 _ _)) (by walk_at "o"),fun s hs'=>(ok s ((SO s).mp (mem_filter.mp (mem_filter.mp hs').1).1)).2⟩
  generalize jl T1 names row=w at *
  clear hE2 hpm SO T2 st1 st2 lo;rw[ag];walk_at "s1";refine⟨ps,w,⟨rfl,hO2,sw⟩,fun pb hpb=>?_⟩;have hE4:gv G (gset G2 pb (.dT hw (aN D.str (aG x w)))):=hE3.trans (gv.refl.gset hpb);have hO4:=hO2.ext (G':=gset G2 pb (.dT hw (aN D.str (aG x w)))) (gv.refl.gset hpb);have f1:gset G2 pb (.dT hw (aN D.str (aG x w))) pb=some (.dT hw (aN D.str (aG x w))):=ax;generalize gset G2 pb (.dT hw (aN D.str (aG x w)))=G4 at *
  clear hE3 hO2 hpb;rw[ag];walk_at "s1";refine⟨ps,w,⟨rfl,hO4,sw⟩,fun pk hpk=>?_⟩;have ne1:pb≠pk:=fun z=>by subst z;rw[f1]at hpk;cases hpk
  have hE5:gv G4 (gset G4 pk (.dT hw (aN (fun _=>.bl true) (bB w)))):=gv.refl.gset hpk;have hO5:=hO4.ext hE5;have f2:gset G4 pk (.dT hw (aN (fun _=>.bl true) (bB w))) pk=some (.dT hw (aN (fun _=>.bl true) (bB w))):=ax;have f1':=hE5 _ _ f1;have hE5':=hE4.trans hE5;generalize gset G4 pk (.dT hw (aN (fun _=>.bl true) (bB w)))=G5 at *
  clear hE4 hO4 hpk hE5 f1;rw[ag];walk_at "s1";refine⟨ps,w,⟨rfl,hO5,sw⟩,fun pt hpt=>?_⟩;have ne2:pb≠pt:=fun z=>by subst z;rw[f1']at hpt;cases hpt
  have ne3:pk≠pt:=fun z=>by subst z;rw[f2]at hpt;cases hpt
  have hE6:gv G5 (gset G5 pt (.dT hw (aN Sl.d (cV w)))):=gv.refl.gset hpt;have hO6:=hO5.ext hE6;have f3:gset G5 pt (.dT hw (aN Sl.d (cV w))) pt=some (.dT hw (aN Sl.d (cV w))):=ax;have f1:=hE6 _ _ f1';have f2':=hE6 _ _ f2;have hE6':=hE5'.trans hE6;generalize gset G5 pt (.dT hw (aN Sl.d (cV w)))=G6 at *
  clear hE5' hO5 hpt hE6 f1' f2;rw[ag];walk_at "s1";refine⟨ps,w,⟨rfl,hO6,sw⟩,fun pw hpw=>?_⟩;have ne4:pb≠pw:=fun z=>by subst z;rw[f1]at hpw;cases hpw
  have hE7:gv G6 (gset G6 pw (.dT hw (aN D.str (fT w)))):=gv.refl.gset hpw;have f4:gset G6 pw (.dT hw (aN D.str (fT w))) pw=some (.dT hw (aN D.str (fT w))):=ax;have f1':=hE7 _ _ f1;have f2:=hE7 _ _ f2';have f3':=hE7 _ _ f3;have Ul:=hE6'.trans hE7;generalize gset G6 pw (.dT hw (aN D.str (fT w)))=G7 at *
  clear hE6' hO6 hpw hE7 f1 f2' f3;rw[ag];walk_at "s1";intro pq hpq;have n1:pb≠pq:=fun z=>by subst z;rw[f1']at hpq;cases hpq
  have n2:pk≠pq:=fun z=>by subst z;rw[f2]at hpq;cases hpq
  have n3:pt≠pq:=fun z=>by subst z;rw[f3']at hpq;cases hpq
  have n4:pw≠pq:=fun z=>by subst z;rw[f4]at hpq;cases hpq
  rw[ag];have gb:gset G7 pq (.dT hw []) pb=some (.dT hw (aN D.str (aG x w))):=by rw[ai n1];exact f1'
  refine⟨hw,_,gb,?_⟩;clear gb;have bl:(aG x w).length<=65000:=by
   have h1:=eY ((fK x.length).zip (Cm x) ++ w.flatMap gT) [];have h2:=uy gT (o:=w) fun s hs'=>qH (sw.2 s hs');have h3:=sw.1;rw[NJ,NA,Qr,Bz]at h1;unfold aG;omega
  have keys:(aN D.str (aG x w)).map o_=(aG x w).map fun p=>p.1.d:=by
   unfold aN;rw[Nq];rfl
  rw[keys];refine⟨fun i σ G'=>∃ x10,σ=[some (.str x),some (.ref q0),some (.lst (names.map Nm.d)),some (.lst (row.map Sl.d)),some (.lst (ps.map D.ref)),some (.ref pb),some (.ref pk),some (.ref pt),some (.ref pw),some (.ref pq),x10,none]/\G'=gset (fL G7 pb) pq (.dT hw (aN Sl.d (bP [] ((((aG x w).take i).filter fun p=>(eU (bB w) p.1).isNone).map fun p=>((eU (cV w) p.1).getD p.1,p.1))))),⟨_,rfl,?_⟩,?_,?_⟩
  ·funext b
   by_cases e1:b=pq
   ·rw[e1,em n1.symm,ax,ax];rfl
   ·rw[ai e1]
    by_cases e2:b=pb
    ·rw[e2,eh,eh]
    ·rw[em e2,em e2,ai e1]
  ·rintro i d σ G' hd ⟨x10,rfl,rfl⟩
   rw[Nd]at hd;cases hq:(aG x w)[i]? with
   | none=>rw[hq]at hd;cases hd
   | some q=>
    rw[hq]at hd;cases hd;have hi:=(List.getElem?_eq_some_iff.mp hq).1;simp only[gN,NI,Nu];generalize hL:(((aG x w).take i).filter fun p=>(eU (bB w) p.1).isNone).map (fun p=>((eU (cV w) p.1).getD p.1,p.1))=L;have ll:L.length<=65000:=by
     rw[<- hL,MY];have:=N7 (fun p:Sl×Str=>(eU (bB w) p.1).isNone) ((aG x w).take i);rw[NQ]at this;omega
    have pl:=eY L [];rw[NA]at pl;have tk:(((aG x w).take (i+1)).filter fun p=>(eU (bB w) p.1).isNone).map (fun p=>((eU (cV w) p.1).getD p.1,p.1))=L ++ (if (eU (bB w) q.1).isNone=true then [((eU (cV w) q.1).getD q.1,q.1)]else []):=by
     rw[NK,hq,OC,NP,hL];congr 1
     by_cases e:(eU (bB w) q.1).isNone=true
     ·rw[if_pos e];simp[e]
     ·rw[if_neg e];simp[e]
    have gk:gset (fL G7 pb) pq (.dT hw (aN Sl.d (bP [] L))) pk=some (.dT hw (aN (fun _=>.bl true) (bB w))):=by rw[ai n2,em (Ne.symm ne1)];exact f2
    have gt:gset (fL G7 pb) pq (.dT hw (aN Sl.d (bP [] L))) pt=some (.dT hw (aN Sl.d (cV w))):=by rw[ai n3,em (Ne.symm ne2)];exact f3'
    refine aY (eU (bB w) q.1).isNone (fun K hK=>?_) ?_
    ·show ∃ r,b_ hw _ (.ref pk) q.1.d r/\K (!r.isSome) _;refine⟨_,jA zF hw q.1 gk,?_⟩;rw[Option.isSome_map];cases e:eU (bB w) q.1<;>(rw[e]at hK;exact hK)
    ·by_cases e:(eU (bB w) q.1).isNone=true
     ·rw[if_pos e];show j_ _ _/\∃ r,b_ hw _ (.ref pt) q.1.d r/\iE hw (.ref pq) (val (r.getD q.1.d)) q.1.d _ _
      refine⟨?_,_,jA zF hw q.1 gt,?_⟩
      ·unfold j_;simp only[val,gt]
      ·have ek:val (((eU (cV w) q.1).map Sl.d).getD q.1.d)=((eU (cV w) q.1).getD q.1).d:=by cases eU (cV w) q.1<;>rfl
       rw[ek];refine wL (f:=Sl.d) (w:=q.1) ax (by walk_at "o") ⟨_,rfl,?_⟩
       rw[dM,tk,if_pos e,nv]
     ·rw[if_neg e];refine⟨_,rfl,?_⟩;rw[tk,if_neg e,Od]
  ·rintro σ G' ⟨x10,rfl,rfl⟩
   rw[MY,NB];dsimp only;have es:bP [] (((aG x w).filter fun p=>(eU (bB w) p.1).isNone).map fun p=>((eU (cV w) p.1).getD p.1,p.1))=cP x w:=rfl;rw[es];have g9:gset (gset (fL G7 pb) pq (.dT hw (aN Sl.d (cP x w)))) pb (.dT hw (aN D.str (aG x w))) pq=some (.dT hw (aN Sl.d (cP x w))):=by rw[ai n1.symm,ax]
   have g5:gset (gset (fL G7 pb) pq (.dT hw (aN Sl.d (cP x w)))) pb (.dT hw (aN D.str (aG x w))) pb=some (.dT hw (aN D.str (aG x w))):=ax;have g8:gset (gset (fL G7 pb) pq (.dT hw (aN Sl.d (cP x w)))) pb (.dT hw (aN D.str (aG x w))) pw=some (.dT hw (aN D.str (fT w))):=by rw[ai ne4.symm,ai n4,em ne4.symm];exact f4
   have gE:gv G (gset (gset (fL G7 pb) pq (.dT hw (aN Sl.d (cP x w)))) pb (.dT hw (aN D.str (aG x w)))):=fun a o ha=>by
    have h7:=Ul a o ha
    by_cases e1:a=pb
    ·rw[e1]at h7 ⊢;rw[g5,<- h7,f1']
    ·rw[ai e1];have e2:a≠pq:=fun z=>by rw[z,hpq]at h7;cases h7
     rw[ai e2,em e1];exact h7
   generalize gset (gset (fL G7 pb) pq (.dT hw (aN Sl.d (cP x w)))) pb (.dT hw (aN D.str (aG x w)))=G9 at *
   clear f1' f2 f3' f4 Ul hpq n1 n2 n3 n4 ne1 ne2 ne3 ne4 bl keys es;rw[ag];unfold bK fE fB;simp only[ae,NR,NS,eL];refine zU (fun d=>(eU (cP x w) (Ip d)).isSome) (fun d=>.tup [d,((eU (cP x w) (Ip d)).getD default).d]) (by rw[MY];omega) (fun d hd P R hP hR=>?_) ?_
   ·obtain⟨s,hs',rfl⟩:=mem_map.mp hd;rw[DP]at hP hR;refine⟨⟨by simp,rfl⟩,?_⟩
    show ∃ r,b_ hw G9 (.ref pq) s.d r/\(if r.isSome=true then _ else R G9)
    refine⟨_,jA zF hw s g9,?_⟩;rw[Option.isSome_map];cases e:eU (cP x w) s with
    | none=>
     rw[e]at hR;simp only[Option.isSome_none,Bool.false_eq_true,if_false];exact hR rfl
    | some n=>
     rw[e]at hP;simp only[Option.isSome_some,if_true];have lk:=jA zF hw s g9;rw[e]at lk;show ∃ d,b_ hw G9 (.ref pq) s.d (some d)/\_
     exact⟨n.d,lk,by show 2<=M1;omega,hP rfl _ rfl⟩
   ·rw[Cn];have eI:(row.filterMap fun s=>(eU (cP x w) s).map fun n=>(s,n))=lV x w row:=rfl;rw[eI];dsimp only[val];have lI:(lV x w row).length<=900000:=le_trans (List.length_filterMap_le _ _) T3;have mem:∀ p∈lV x w row,∃ z,eU (aG x w) p.2=some z:=fun p hp=>by
     unfold lV at hp;obtain⟨s,_,e⟩:=List.mem_filterMap.mp hp;cases e2:eU (cP x w) s with
     | none=>rw[e2]at e;cases e
     | some n=>
      rw[e2]at e;cases e;have m1:=Hi e2;unfold cP at m1;rcases Ct m1 with m2|m2
      ·simp at m2
      ·obtain⟨q,hq,e3⟩:=mem_map.mp m2;have hq':=(mem_filter.mp hq).1;obtain⟨z,hz⟩:=Fx hq';injection e3 with e4 e5
       exact⟨z,by show eU (aG x w) n=some z;rw[<- e5];exact hz⟩
    unfold aT;simp only[NR,NS,Nu,NI,eL];refine f9 (fun d=>match d with|.tup [a,b]=>.tup [a,b,.str ((eU (aG x w) (Ip b)).getD (MW "")),.str ((eU (fT w) (Ip b)).getD (MW ""))]|d=>d) (by rw[MY];omega) (fun d hd P hP=>?_) ?_
    ·obtain⟨p,hp,rfl⟩:=mem_map.mp hd;obtain⟨z,hz⟩:=mem p hp;refine⟨rfl,⟨by simp,rfl⟩,?_⟩
     have lk:=jA zF hw p.2 g5;rw[hz]at lk;show ∃ d,b_ hw G9 (.ref pb) p.2.d (some d)/\j_ G9 _/\∃ r,b_ hw G9 (.ref pw) p.2.d r/\_
     refine⟨.str z,lk,?_,_,jA zF hw p.2 g8,by show 4<=M1;omega,hP _ ?_⟩
     ·unfold j_;simp only[val,g8]
     ·show D.tup [p.1.d,p.2.d,.str z,val (((eU (fT w) p.2).map D.str).getD (.str (MW "")))]=D.tup [p.1.d,p.2.d,.str ((eU (aG x w) p.2).getD (MW "")),.str ((eU (fT w) p.2).getD (MW ""))];rw[hz];cases eU (fT w) p.2<;>rfl
    ·have:=h' G9 gE;rw[Nq]at this;rw[Nq];exact this
 ·exact h.elim
theorem sJ(s:Sl)(n:Nat):pl (n+1) s.d:=by
 intro d hd;simp only[NH,NO,or_false]at hd;rcases hd with rfl|rfl|rfl<;>cases n<;>trivial
theorem Bx(b1 b2:Bool)(h1:∀ K:Bool->Gp->Prop,K b1 G->t σ G K)(h2:b1=true->∀ K:Bool->Gp->Prop,K b2 G->u σ G K):∀ K:Bool->Gp->Prop,K (b1 && b2) G->sG t u σ G K:=fun K hK=>by
 unfold sG;refine h1 _ ?_;cases b1 with
 | true=>rw[if_pos rfl];exact h2 rfl K hK
 | false=>rw[if_neg (by decide)];exact hK
theorem Ih(b1 b2:Bool)(h1:∀ K:Bool->Gp->Prop,K b1 G->t σ G K)(h2:b1=false->∀ K:Bool->Gp->Prop,K b2 G->u σ G K):∀ K:Bool->Gp->Prop,K (b1 || b2) G->As t u σ G K:=fun K hK=>by
 unfold As;refine h1 _ ?_;cases b1 with
 | true=>rw[if_pos rfl];exact hK
 | false=>rw[if_neg (by decide)];exact h2 rfl K hK
theorem Is{x:Str}{out:List Sk}(om:∀ s∈out,s.act.many<=1000):(iw x.length out).length<=x.length+1000*out.length:=by
 have wl:=ot x.length out (bO [aE] aE (fK x.length)) om;have e1:out.foldl fb (bO [aE] aE (fK x.length))=aE::iw x.length out:=sf x.length out;have ol:(fK x.length).length=x.length:=cq _ _ _;rw[e1,dm,Nc,Nc,ol]at wl;omega
theorem yN(om:∀ s∈out,s.act.many<=1000):(lU x out names).length<=x.length+1000*out.length:=by
 unfold lU lV;rw[MY];exact le_trans (List.length_filterMap_le _ _) (Is om)
def Hw:D->D
 | .tup (_::t)=>.tup t
 | d=>d
theorem Ci(seats:List Seat):(seats.map Seat.d).map Hw=seats.map Seat.d3:=by rw[Nq];rfl
theorem yW(zF:Zz)(hw:HW):bM (eR zF hw) (tu zF hw) Ak0:=by
 intro ds G Q h;unfold eR at h;split at h
 ·rename_i x q0 ns;obtain⟨sks,base,names,hc,h⟩:=h;have hs:=aj;unfold tu;simp only[aT,fE,fB,aJ,af,av,ae,b7,Nk,PF,O9,Ph,List.replicate,NR,NS,Nc,NA,Nat.reduceAdd,Nat.reduceSub,val,Od];refine⟨sks,base,names,hc,fun out G1 hE st mem=>?_⟩;obtain⟨_,hx,_,_,l2,sub,ok,_,_⟩:=hc;have lo:out.length < 64:=by
   have:=f8 (e_ st) (ys:=base.map Sk.rw) fun r hr=>by
    obtain⟨s,hs',rfl⟩:=mem_map.mp hr;exact mem_map.mpr ⟨s,sub s ((mem s).mp hs'),rfl⟩
   rw[MY,MY]at this;omega
  have ls:=yN (x:=x) (names:=names) fun s (hs':s∈out)=>le_trans (lX s) (ok s ((mem s).mp hs')).2;refine f9 Hw (by rw[MY];omega) (fun d hd P hP=>?_) ?_
  ·obtain⟨s,_,rfl⟩:=mem_map.mp hd;have ed:s.d=.tup [s.slot.d,s.name.d,.str s.sign,.str s.word]:=rfl;rw[ed]at hP ⊢;refine⟨⟨by simp[Nu,List.replicate],rfl⟩,?_⟩
   show _/\_
   refine⟨by unfold HT.sIx;simp,?_⟩
   exact hP _ rfl
  ·rw[Ci];exact h out G1 hE st mem
 ·exact h.elim
theorem yY(zF:Zz)(hw:HW):bM (dR zF hw) (tD zF hw) Ad0:=by
 intro ds G Q h;unfold dR at h;split at h
 ·rename_i p;obtain⟨⟨pen,num,time,act⟩,a,x,⟨rfl,hG⟩,h⟩:=h;have hs:=aj;have hc:zF.Z2∈zF.F:=by simp
  unfold aS Sl.d at hG;dsimp only at hG;unfold tD;walk_at "st";exact⟨by walk_at "o",by walk_at "o",h⟩
 ·exact h.elim
theorem sZ(zF:Zz)(hw:HW):bM (cx zF hw) (mO zF hw) Ad0:=by
 intro ds G Q h;unfold cx at h;split at h
 ·rename_i p;obtain⟨⟨pen,num,time,act⟩,ns,⟨rfl,hG⟩,h⟩:=h;have hs:=aj;have hc:zF.Z3∈zF.F:=by simp
  unfold aS at hG;dsimp only at hG;unfold mO;walk_at "st";exact⟨by walk_at "o",by walk_at "o",h⟩
 ·exact h.elim
theorem vc(zF:Zz)(hw:HW):bM (cO zF hw) (oP zF hw) Ad0:=by
 intro ds G Q h;unfold cO at h;split at h
 ·rename_i p;obtain⟨⟨pen,num,time,act⟩,ns,w,⟨rfl,hG⟩,h⟩:=h;have hs:=aj;have hc:zF.Z4∈zF.F:=by simp
  unfold aS at hG;dsimp only at hG;unfold oP;walk_at "st";exact⟨by walk_at "o",by walk_at "o",h⟩
 ·exact h.elim
theorem wV(zF:Zz)(hw:HW):bM (dk zF hw) (qY zF hw) Ad0:=by
 intro ds G Q h;unfold dk at h;split at h
 ·rename_i p;obtain⟨⟨pen,num,time,act⟩,ns,a,⟨rfl,hG⟩,h⟩:=h;have hs:=aj;have hc:zF.Z5∈zF.F:=by simp
  unfold aS at hG;dsimp only at hG;have ea:a.d=.tup [.str a.pen,.int a.n,.int a.k]:=rfl;rw[ea]at hG;unfold qY;walk_at "st";exact⟨by walk_at "o",by walk_at "o",h⟩
 ·exact h.elim
theorem xI(zF:Zz)(hw:HW)(hσ:σ[i]?=some (some (.ref p)))(hG:G p=some (.ins zF.C_Paper aq vs))(hv:vs[j]?=some v)(h:Q v G):ij zF.C_Paper aq j (ae i) σ G Q:=by
 unfold ij ae;rw[hσ];dsimp only;rw[hG];dsimp only
 first
 | (rw[hv];exact⟨⟨rfl,rfl⟩,h⟩)
 | (refine⟨⟨rfl,rfl⟩,?_⟩;rw[hv];exact h)
 | exact⟨⟨rfl,rfl⟩,v,hv,h⟩
theorem wM(hv:∀ Q:jh,Q v G->te σ G Q)(ho:∀ Q:jh,Q o G->to σ G Q)(hi:∀ Q:jh,Q i G->ti σ G Q)(h:iE hw0 (val o) (val i) (val v) G fun G4=>E.nx σ G4):de hw0 to ti te E σ G:=hv _ (ho _ (hi _ h))
theorem pi(zF:Zz)(hw:HW)(hσ:σ[i]?=some (some (.ref p)))(hG:G p=some (aS zF s))(h:Q (.tup [.str s.pen,.int s.num]) G):bz zF.F "name" (ae i) σ G Q:=by
 obtain⟨pen,num,time,act⟩:=s;unfold bz ae;rw[hσ];cases act<;>(simp only[aS]at hG;simp only[hG];refine⟨by simp,?_⟩;first|exact h)
theorem Fi(zF:Zz)(hw:HW)(hσ:σ[i]?=some (some (.ref p)))(hG:G p=some (aS zF s))(h:Q (.int s.time) G):bz zF.F "time" (ae i) σ G Q:=by
 obtain⟨pen,num,time,act⟩:=s;unfold bz ae;rw[hσ];cases act<;>(simp only[aS]at hG;simp only[hG];refine⟨by simp,?_⟩;first|exact h)
theorem EN(zF:Zz)(hw:HW)(hσ:σ[i]?=some (some (.ref p)))(hG:G p=some (aS zF s))(h:Q s.d G):
  eF [(zF.Z2,dR zF hw),(zF.Z3,cx zF hw),(zF.Z4,cO zF hw),(zF.Z5,dk zF hw)] "row" [] (ae i) av σ G Q:=by
 obtain⟨pen,num,time,act⟩:=s;unfold eF ae;rw[hσ];cases act with
 | put a x=>
  have hG':=hG;simp only[aS]at hG;simp only[hG];exact⟨by decide +kernel,dR zF hw,by simp,⟨_,a,x,⟨rfl,hG'⟩,h⟩⟩
 | strike ns=>
  have hG':=hG;simp only[aS]at hG;simp only[hG];exact⟨by decide +kernel,cx zF hw,by simp,⟨_,ns,⟨rfl,hG'⟩,h⟩⟩
 | dress ns w=>
  have hG':=hG;simp only[aS]at hG;simp only[hG];exact⟨by decide +kernel,cO zF hw,by simp,⟨_,ns,w,⟨rfl,hG'⟩,h⟩⟩
 | move ns a=>
  have hG':=hG;simp only[aS]at hG;simp only[hG];exact⟨by decide +kernel,dk zF hw,by simp,⟨_,ns,a,⟨rfl,hG'⟩,h⟩⟩
theorem u7(zF:Zz)(hw:HW):bM (dw zF hw) (oK zF hw) ["at","length"]:=by
 intro ds G Q h;unfold dw at h;split at h
 ·obtain⟨⟨h1,h2⟩,h⟩:=h;unfold oK;walk_at "st";rw[decide_eq_true True.intro];exact True.intro
 ·exact h.elim
theorem oz(zF:Zz)(hw:HW):bM (bR zF hw) (iZ zF hw) AP0:=by
 intro ds G Q h;unfold bR at h;split at h
 ·obtain⟨⟨h1,h2,h3,h4⟩,h⟩:=h;unfold iZ;walk_at "st";rw[decide_eq_true True.intro];exact True.intro
 ·exact h.elim
theorem oB(zF:Zz)(hw:HW):bM (bT zF hw) (i6 zF hw) Ad0:=by
 intro ds G Q h;unfold bT at h;split at h
 ·rename_i p;obtain⟨P,d,s,g,⟨⟨g1,g2,g3,g4⟩,ok⟩,h⟩:=h;have hs:=aj;have l1:=ok.ls;unfold i6;walk_at "st";refine⟨by rw[MY];omega,fun i acc G'=>acc=(((P.sks.take i).filter fun s=>!gw P s.nm).map Sk.nm).map Nm.d/\G'=G,⟨rfl,rfl⟩,fun i acc G' hp=>by rw[hp.2];exact g2,?_,?_⟩
  ·rintro i dd acc G' hd ⟨rfl,rfl⟩
   rw[Nd]at hd;cases hq:P.sks[i]? with
   | none=>rw[hq]at hd;cases hd
   | some k=>
    rw[hq]at hd;cases hd;obtain⟨w,hw0⟩:=ok.kn k (Ni hq);have tk:((P.sks.take (i+1)).filter fun s=>!gw P s.nm)=((P.sks.take i).filter fun s=>!gw P s.nm) ++ if (!gw P k.nm)=true then [k]else []:=by
     rw[NK,hq,OC];congr 1
     by_cases z:(!gw P k.nm)=true
     ·rw[if_pos z];exact List.filter_cons_of_pos z
     ·rw[if_neg z];exact List.filter_cons_of_neg z
    have wk:gw P k.nm=dC (.str w) (.str (MW "wiped")):=by unfold gw;rw[hw0];rfl
    have ed:k.d=.tup [.tup [.str k.pen,.int k.num],.int k.time,k.act.d]:=rfl;rw[ed];refine⟨⟨by simp[Nu,List.replicate],rfl⟩,?_⟩
    have hk:bL P.st [.inr k.pen,.inl k.num]=some (.str w):=hw0;clear ok;have tk':(((P.sks.take (i+1)).filter fun s=>!gw P s.nm).map Sk.nm).map Nm.d=(((P.sks.take i).filter fun s=>!gw P s.nm).map Sk.nm).map Nm.d ++ if (!gw P k.nm)=true then [.tup [.str k.pen,.int k.num]]else []:=by
     rw[tk,NP,NP];congr 1;split<;>rfl
    clear tk;generalize (((P.sks.take i).filter fun s=>!gw P s.nm).map Sk.nm).map Nm.d=A0 at *
    rw[wk]at tk';walk_at "st"
    by_cases z:(!dC (.str w) (.str (MW "wiped")))=true
    ·rw[if_pos z,if_pos z]
    ·rw[if_neg z,if_neg z,Od]
  ·rintro acc G' ⟨rfl,rfl⟩
   rw[MY,NB];exact h
 ·exact h.elim
theorem oC(zF:Zz)(hw:HW):bM (bU zF hw) (i7 zF hw) Ad0:=by
 intro ds G Q h;unfold bU at h;split at h
 ·rename_i p;obtain⟨P,d,s,g,⟨⟨g1,g2,g3,g4⟩,ok⟩,h⟩:=h;have hs:=aj;unfold i7;walk_at "st"
 ·exact h.elim
theorem kq(zF:Zz)(hw:HW):bM (aP zF hw) (fY zF hw) ["self","pen"]:=by
 intro ds G Q h;unfold aP at h;split at h
 ·rename_i p pen;obtain⟨P,d,s,g,⟨⟨g1,g2,g3,g4⟩,gi⟩,h⟩:=h;have hs:=aj;unfold fY;unfold Pp.num at h;cases e:bL P.gr (.inr pen) with
  | none=>
   rw[e]at h;walk_at "st";exact⟨by walk_at "o",h⟩
  | some v=>
   obtain⟨m,rfl,_⟩:=gi _ _ e;rw[e]at h;walk_at "st";exact⟨by walk_at "o",h⟩
 ·exact h.elim
theorem ko(zF:Zz)(hw:HW):bM (aO zF hw) (fX zF hw) Ad0:=by
 intro ds G Q h;unfold aO at h;split at h
 ·rename_i p;obtain⟨P,d,s,g,⟨g1,g2,g3,g4⟩,h⟩:=h;unfold fX;walk_at "st"
 ·exact h.elim
theorem kz(zF:Zz)(hw:HW):bM (bx zF hw) (f6 zF hw) Ae0:=by
 intro ds G Q h;unfold bx at h;split at h
 ·rename_i p a b;obtain⟨P,d,s,g,w,⟨⟨g1,g2,g3,g4⟩,hk⟩,h⟩:=h;unfold f6;walk_at "st";exact iteF True.intro
 ·exact h.elim
theorem jV(zF:Zz)(hw:HW):bM (bD zF hw) (lq zF hw) Ae0:=by
 intro ds G Q h;unfold bD at h;split at h
 ·rename_i p a b;obtain⟨P,d,s,g,w,⟨⟨g1,g2,g3,g4⟩,hk⟩,h⟩:=h;unfold lq;rw[ag];walk_at "s1";exact⟨P,d,s,g,w,⟨g1,g2,g3,g4⟩,hk⟩
 ·exact h.elim
theorem kt(zF:Zz)(hw:HW):bM (aX zF hw) (fZ zF hw) Ae0:=by
 intro ds G Q h;unfold aX at h;split at h
 ·rename_i p a b;obtain⟨P,d,s,g,⟨⟨g1,g2,g3,g4⟩,hk⟩,h⟩:=h;unfold fZ;walk_at "st";refine⟨P,d,s,g,_,⟨⟨g1,g2,g3,g4⟩,hk⟩,?_⟩;rw[a_];exact iteF True.intro
 ·exact h.elim
theorem s_(zF:Zz)(hw:HW):bM (cY zF hw) (mP zF hw) Ae0:=by
 intro ds G Q h;unfold cY at h;split at h
 ·rename_i p a b;obtain⟨P,d,s,g,⟨⟨g1,g2,g3,g4⟩,hk,l2⟩,h⟩:=h;have hs:=aj;unfold mP;rw[ag];walk_at "s1";refine⟨P,d,s,g,⟨⟨g1,g2,g3,g4⟩,hk⟩,by walk_at "o",h _ (fun x o hx hG=>?_) ⟨?_,?_,ax,?_⟩⟩
  ·rw[ai (fun z=>hx (by rw[z];simp))]
   exact hG
  ·rw[ai (fun z=>by rw[z,g3]at g1;cases g1)]
   exact g1
  ·rw[ai (fun z=>by rw[z,g3]at g2;cases g2)]
   exact g2
  ·rw[ai (fun z=>by rw[z,g3]at g4;cases g4)]
   exact g4
 ·exact h.elim
theorem td(zF:Zz)(hw:HW):bM (cZ zF hw) (mQ zF hw) Ad0:=by
 intro ds G Q h;unfold cZ at h;split at h
 ·rename_i p;obtain⟨P,d,s,g,⟨⟨g1,g2,g3,g4⟩,ok⟩,h⟩:=h;have hs:=aj;have o1:=ok.lo;have o2:=ok.ls;have un:P.unw.length<=P.sks.length:=by
   unfold Pp.unw;rw[MY];exact N7 _ _
  have sk:∀ k∈P.sks,1<=k.num/\k.wd<=1000:=fun k hk=>⟨(ok.sk k hk).1,le_trans (ok.sk k hk).2.1 (by decide)⟩
  unfold mQ;walk_at "st";refine⟨P,d,s,g,⟨⟨g1,g2,g3,g4⟩,ok⟩,P.sks,P.sks,P.unw,⟨rfl,by walk_at "o",l6 ok.ap,by walk_at "o",by walk_at "o",fun k hk=>hk,sk,rfl,by walk_at "o"⟩,fun out G' hE so mo=>h out G' hE ⟨so,mo⟩⟩
 ·exact h.elim
theorem rQ(zF:Zz)(hw:HW):bM (bE zF hw) (lr zF hw) Ad0:=by
 intro ds G Q h;unfold bE at h;split at h
 ·rename_i p;obtain⟨P,d,s,g,⟨⟨g1,g2,g3,g4⟩,ok⟩,h⟩:=h;have hs:=aj;have o1:=ok.lo;have o2:=ok.ls;have un:P.unw.length<=P.sks.length:=by
   unfold Pp.unw;rw[MY];exact N7 _ _
  have sk:∀ k∈P.sks,1<=k.num/\k.wd<=1000:=fun k hk=>⟨(ok.sk k hk).1,le_trans (ok.sk k hk).2.1 (by decide)⟩
  unfold lr;walk_at "st";refine⟨P,d,s,g,⟨⟨g1,g2,g3,g4⟩,ok⟩,P.sks,P.sks,P.unw,⟨rfl,by walk_at "o",l6 ok.ap,by walk_at "o",by walk_at "o",fun k hk=>hk,sk,rfl,by walk_at "o"⟩,fun out G' hE so mo=>h out G' hE ⟨so,mo⟩⟩
 ·exact h.elim
theorem tj(zF:Zz)(hw:HW):bM (cy zF hw) (mS zF hw) Ap0:=by
 intro ds G Q h;unfold cy at h;split at h
 ·rename_i p a;obtain⟨P,d,s,g,k,⟨⟨g1,g2,g3,g4⟩,ga,l1,l2,l3⟩,h⟩:=h;have hs:=aj;have npd:p≠d:=fun z=>by rw[z,g2]at g1;cases g1
  have nps:p≠s:=fun z=>by rw[z,g3]at g1;cases g1
  have npg:p≠g:=fun z=>by rw[z,g4]at g1;cases g1
  have nds:d≠s:=fun z=>by rw[z,g3]at g2;cases g2
  have ndg:d≠g:=fun z=>by rw[z,g4]at g2;cases g2
  have nsg:s≠g:=fun z=>by rw[z,g4]at g3;cases g3
  obtain⟨C,L,fs,eo⟩:=qh zF k;have gx:G a=some (.ins C L fs):=ga.trans (by rw[eo])
  have nad:a≠d:=fun z=>by rw[z,g2]at gx;cases gx
  have nas:a≠s:=fun z=>by rw[z,g3]at gx;cases gx
  have nag:a≠g:=fun z=>by rw[z,g4]at gx;cases gx
  unfold mS;rw[ag];unfold eG jI;refine xI zF hw (i:=0) rfl g1 rfl ?_;refine⟨⟨_,g2⟩,?_⟩;unfold af;refine EN zF hw (i:=1) rfl ga ?_;unfold av;dsimp only;rw[g2];dsimp only;refine⟨by rw[MY];omega,?_⟩
  have e1:(P.sks.map Sk.d) ++ [val k.d]=(P.sks ++ [k]).map Sk.d:=by rw[NP];rfl
  rw[e1];clear e1;have h1:gset G d (.lst ((P.sks ++ [k]).map Sk.d)) p=_:=(ai npd).trans g1;have h2:gset G d (.lst ((P.sks ++ [k]).map Sk.d)) d=_:=ax;have h3:gset G d (.lst ((P.sks ++ [k]).map Sk.d)) s=_:=(ai nds.symm).trans g3;have h4:gset G d (.lst ((P.sks ++ [k]).map Sk.d)) g=_:=(ai ndg.symm).trans g4;have ha:gset G d (.lst ((P.sks ++ [k]).map Sk.d)) a=_:=(ai nad).trans ga;have ho:Ad [p,d,s,g] G (gset G d (.lst ((P.sks ++ [k]).map Sk.d))):=fun x o hx hG=>(ai fun z=>hx (by rw[z];simp)).trans hG
  generalize gset G d (.lst ((P.sks ++ [k]).map Sk.d))=G1 at *
  clear g1 g2 g3 g4 ga gx;rw[ag];refine wM (v:=.str (MW "waits")) (o:=.ref s) (i:=.tup [.str k.pen,.int k.num]) (fun Q h=>h) (fun Q h=>xI zF hw (i:=0) rfl h1 rfl h) (fun Q h=>pi zF hw (i:=1) rfl ha h) ?_;unfold iE;dsimp only[val];rw[h3];refine⟨rfl,k.nm.key,rfl,by walk_at "o",?_⟩
  have i1:gset G1 s (.dT hw (bg P.st k.nm.key (.str (MW "waits")))) p=_:=(ai nps).trans h1;have i2:gset G1 s (.dT hw (bg P.st k.nm.key (.str (MW "waits")))) d=_:=(ai nds).trans h2;have i3:gset G1 s (.dT hw (bg P.st k.nm.key (.str (MW "waits")))) s=_:=ax;have i4:gset G1 s (.dT hw (bg P.st k.nm.key (.str (MW "waits")))) g=_:=(ai nsg.symm).trans h4;have ia:gset G1 s (.dT hw (bg P.st k.nm.key (.str (MW "waits")))) a=_:=(ai nas).trans ha;have io:Ad [p,d,s,g] G (gset G1 s (.dT hw (bg P.st k.nm.key (.str (MW "waits"))))):=fun x o hx hG=>(ai fun z=>hx (by rw[z];simp)).trans (ho x o hx hG)
  generalize gset G1 s (.dT hw (bg P.st k.nm.key (.str (MW "waits"))))=G2 at *
  clear h1 h2 h3 h4 ha ho;rw[ag];refine wM (v:=.int k.num) (o:=.ref g) (i:=.str k.pen) (fun Q h=>by unfold cz;exact pi zF hw (i:=1) rfl ia h) (fun Q h=>xI zF hw (i:=0) rfl i1 rfl h) (fun Q h=>by unfold cz;exact pi zF hw (i:=1) rfl ia h) ?_
  unfold iE;dsimp only[val];rw[i4];refine⟨.inr k.pen,rfl,by walk_at "o",?_⟩
  have j1:gset G2 g (.dK (bg P.gr (.inr k.pen) (.int k.num))) p=_:=(ai npg).trans i1;have j2:gset G2 g (.dK (bg P.gr (.inr k.pen) (.int k.num))) d=_:=(ai ndg).trans i2;have j3:gset G2 g (.dK (bg P.gr (.inr k.pen) (.int k.num))) s=_:=(ai nsg).trans i3;have j4:gset G2 g (.dK (bg P.gr (.inr k.pen) (.int k.num))) g=_:=ax;have ja:gset G2 g (.dK (bg P.gr (.inr k.pen) (.int k.num))) a=_:=(ai nag).trans ia;have jo:Ad [p,d,s,g] G (gset G2 g (.dK (bg P.gr (.inr k.pen) (.int k.num)))):=fun x o hx hG=>(ai fun z=>hx (by rw[z];simp)).trans (io x o hx hG)
  generalize gset G2 g (.dK (bg P.gr (.inr k.pen) (.int k.num)))=G3 at *
  clear i1 i2 i3 i4 ia io;rw[ag];unfold BC;refine Fi zF hw (i:=1) (p:=a) (σ:=[some (.ref p),some (.ref a)]) rfl ja ?_;show (match G3 p with|some (.ins C' L' ds)=>_|_=>False)
  rw[j1];refine⟨⟨rfl,rfl⟩,?_⟩;have npa:a≠p:=fun z=>by
   rw[z,j1]at ja;obtain⟨pen,num,time,act⟩:=k;cases act<;>(injection ja with ja;injection ja with _ _ ja;cases ja)
  dsimp only;unfold aT;refine pi zF hw (i:=1) (p:=a) (σ:=[some (.ref p),some (.ref a)]) rfl ((ai npa).trans ja) ?_;exact h _ (fun x o hx hG=>(ai fun z=>hx (by rw[z];simp)).trans (jo x o hx hG)) ⟨ax,(ai npd.symm).trans j2,(ai nps.symm).trans j3,(ai npg.symm).trans j4⟩
 ·exact h.elim
theorem nt(zF:Zz)(hw:HW):bM (cb zF hw) (iB zF hw) ["self","old"]:=by
 intro ds G Q h;unfold cb at h;split at h
 ·rename_i p x;obtain⟨g1,h⟩:=h;have hs:=aj;unfold iB;rw[ag];walk_at "s1";rw[ag];walk_at "s1";refine⟨by walk_at "o",fun d hd=>?_⟩
  have npd:p≠d:=fun z=>by rw[<- z,ax]at hd;cases hd
  have hd0:G d=none:=by rwa[ai npd.symm]at hd
  rw[ai npd,ax];dsimp only;refine⟨⟨rfl,rfl⟩,?_⟩;rw[ag];generalize hG1:gset (gset (gset G p _) d _) p _=G1;have a1:G1 p=some (.ins zF.C_Paper ["old","drawn"] [.str x,.ref d]):=by rw[<- hG1];exact ax
  have a2:G1 d=some (.lst []):=by rw[<- hG1,ai npd.symm];exact ax
  have a0:∀ y o,y≠p->y≠d->G y=some o->G1 y=some o:=fun y o h1 h2 hG=>by rw[<- hG1,ai h1,ai h2,ai h1];exact hG
  clear hG1;walk_at "s1";intro s hs1;have nps:p≠s:=fun z=>by rw[<- z,a1]at hs1;cases hs1
  have nds:d≠s:=fun z=>by rw[<- z,a2]at hs1;cases hs1
  rw[ai nps,a1];dsimp only;refine⟨⟨rfl,rfl⟩,?_⟩;rw[ag];generalize hG2:gset (gset G1 s _) p _=G2;have b1:G2 p=some (.ins zF.C_Paper AJ0 [.str x,.ref d,.ref s]):=by rw[<- hG2];exact ax
  have b2:G2 d=some (.lst []):=by rw[<- hG2,ai npd.symm,ai nds];exact a2
  have b3:G2 s=some (.dT hw []):=by rw[<- hG2,ai nps.symm];exact ax
  have b0:∀ y o,y≠p->y≠d->y≠s->G y=some o->G2 y=some o:=fun y o h1 h2 h3 hG=>by rw[<- hG2,ai h1,ai h3];exact a0 y o h1 h2 hG
  clear hG2 a1 a2 a0 hs1;walk_at "s1";intro g hg;have npg:p≠g:=fun z=>by rw[<- z,b1]at hg;cases hg
  have ndg:d≠g:=fun z=>by rw[<- z,b2]at hg;cases hg
  have nsg:s≠g:=fun z=>by rw[<- z,b3]at hg;cases hg
  rw[ai npg,b1];dsimp only;refine⟨⟨rfl,rfl⟩,?_⟩;walk_at "st";refine h d s g _ (fun y o hy hG=>?_) ⟨ax,?_,?_,?_⟩
  ·simp only[NH,NO,or_false,not_or]at hy;rw[ai hy.1,ai hy.2.2.2];exact b0 y o hy.1 hy.2.1 hy.2.2.1 hG
  ·rw[ai npd.symm,ai ndg];exact b2
  ·rw[ai nps.symm,ai nsg];exact b3
  ·rw[ai npg.symm];exact ax
 ·exact h.elim
theorem Hf{seats:List Seat}{i:Int}(h0:0<=i)(h1:i < seats.length):iI (seats.map Seat.d) i=some (seats[i.toNat]'(by walk_at "o")).d:=by
 have:=z_ (ds:=seats.map Seat.d) (i:=i) h0 (by rw[MY];omega)
 rw[this,List.getElem_map]
def HH:D->D
 | .tup (_::d::_)=>d
 | d=>d
theorem CI(seats:List Seat):(seats.map Seat.d).map HH=(seats.map Seat.name).map Sl.d:=by rw[Nq,Nq];rfl
theorem ow(zF:Zz)(hw:HW):bM (bQ zF hw) (iY zF hw) Ay0:=by
 intro ds G Q h;unfold bQ at h;split at h
 ·rename_i xs i j;obtain⟨seats,⟨rfl,h0,h1,h2,h3⟩,h⟩:=h;have hs:=aj;unfold iY;walk_at "st";have ec:L3.cutD (seats.map Seat.d) (some i) (some j)=((seats.drop i.toNat).take (j - i).toNat).map Seat.d:=by
   rw[uF h0 (by walk_at "o"),List.map_take,List.map_drop]
   congr 1;omega
  rw[ec];refine f9 HH (by rw[MY];exact le_trans (List.length_take_le' _ _) (by rw[PJ];omega)) (fun d hd P hP=>?_) ?_
  ·obtain⟨s,_,rfl⟩:=mem_map.mp hd;have ed:s.d=.tup [s.slot.d,s.name.d,.str s.sign,.str s.word]:=rfl;rw[ed]at hP ⊢;refine⟨⟨by simp[Nu,List.replicate],rfl⟩,?_⟩
   exact hP _ rfl
  ·rw[CI];exact h
 ·exact h.elim
theorem gc.off(h:gc C hw0 G p d s g P)(ha:G a=none):gc C hw0 (gset G a o) p d s g P:=by
 have ne:∀ {b:MT} {u:GO},G b=some u->b≠a:=fun hb z=>by rw[z,ha]at hb;cases hb
 obtain⟨h1,h2,h3,h4⟩:=h;exact⟨(ai (ne h1)).trans h1,(ai (ne h2)).trans h2,(ai (ne h3)).trans h3,(ai (ne h4)).trans h4⟩
theorem gc.ext(h:gc C hw0 G p d s g P)(e:gv G G'):gc C hw0 G' p d s g P:=⟨e _ _ h.1,e _ _ h.2.1,e _ _ h.2.2.1,e _ _ h.2.2.2⟩
theorem Pp.ok.le{P:Pp}{n m:Nat}(h:P.ok n)(hl:n<=m):P.ok m:=⟨h.lo,le_trans h.ls hl,le_trans h.lt hl,le_trans h.lg hl,h.sk,h.ap,h.kn,h.gi,h.gm⟩
theorem FQ(so:Srt P out):out.length<=P.sks.length:=by
 have:=f8 (e_ so.1) (ys:=P.sks.map Sk.rw) fun r hr=>by
  obtain⟨s,hs',rfl⟩:=mem_map.mp hr;exact mem_map.mpr ⟨s,(so.2 s).mp hs',rfl⟩
 rwa[MY,MY]at this
theorem se(ok:P.ok 50)(so:Srt P out):(P.seats out).length<=60000:=by
 have h1:=yN (x:=P.old) (out:=out) (names:=P.unw) fun s hs'=>le_trans (lX s) (le_trans (ok.sk s ((so.2 s).mp hs')).2.1 (by decide))
 have h2:=FQ so;have h3:=ok.ls;have h4:=ok.lo;unfold Pp.seats;omega
theorem AO(e:gv G G1)(ha:G1 a=none)(h:Ad [p,d,s,g] (gset G1 a o) G'):Ad [p,d,s,g] G G':=fun x u hx hG=>h x u hx ((ai fun z=>by rw[<- z,e x u hG]at ha;cases ha).trans (e x u hG))
theorem qa(zF:Zz)(hw:HW):bM (cM zF hw) (j7 zF hw) ["self","pen","at","to","seats"]:=by
 intro ds G Q h;unfold cM at h;split at h
 ·rename_i p pen i j;obtain⟨P,d,s,g,⟨⟨g1,g2,g3,g4⟩,ok⟩,h⟩:=h;have hs:=aj;have ok':P.ok 50:=ok.le (by decide)
  have ls:=ok.ls;have lt:=ok.lt;have lg:=ok.lg;have gi:=ok.gi;unfold j7;rw[ag];walk_at "s1";refine⟨P,d,s,g,⟨⟨g1,g2,g3,g4⟩,ok'⟩,fun out G1 hE so=>?_⟩;obtain⟨⟨c1,c2,c3,c4⟩,h⟩:=h out so;have k1:=hE _ _ g1;have k2:=hE _ _ g2;have k3:=hE _ _ g3;have k4:=hE _ _ g4;rw[ag];walk_at "s1";have sb:=se ok' so;have pa:gc zF.C_Paper hw G1 p d s g P:=⟨k1,k2,k3,k4⟩;refine⟨⟨by rw[MY];exact c2,by rw[MY];exact c4⟩,P,d,s,g,⟨pa,gi⟩,P,d,s,g,pa,P.seats out,⟨rfl,by walk_at "o",c4,by walk_at "o"⟩,fun a ha=>⟨pen,_,rfl,P,d,s,g,⟨pen,P.num pen,P.time+1,.strike ((((P.seats out).drop i.toNat).take (j - i).toNat).map Seat.name)⟩,⟨pa.off ha,?_⟩,fun G' of pt=>h G' (AO hE ha of) pt⟩⟩
  exact⟨rfl,by walk_at "o",by walk_at "o",by walk_at "o"⟩
 ·exact h.elim
theorem sH(ha:Srt P a)(hb:Srt P b):a=b:=sL (iK ha.1 hb.1 fun r=>by
 constructor
 ·intro hr;obtain⟨s,hs',rfl⟩:=mem_map.mp hr;exact mem_map.mpr ⟨s,(hb.2 s).mpr ((ha.2 s).mp hs'),rfl⟩
 ·intro hr;obtain⟨s,hs',rfl⟩:=mem_map.mp hr;exact mem_map.mpr ⟨s,(ha.2 s).mpr ((hb.2 s).mp hs'),rfl⟩)
theorem JG(h0:0 < i)(h1:i<=seats.length):∃ st:Seat,iI (seats.map Seat.d) (i - 1)=some st.d/\rE seats i=st.slot:=by
 refine⟨seats[(i - 1).toNat]'(by walk_at "o"),Hf (by walk_at "o") (by walk_at "o"),?_⟩
 unfold rE;rw[if_neg (by walk_at "o"),M6 (by walk_at "o")]
theorem JF(zF:Zz)(hw:HW)(h0:0<=i)(h1:i<=seats.length)(h:Q (rE seats i).d G):ju zF hw { nx:=fun _ G'=>Q .non G',rt:=Q } [some (.lst (seats.map Seat.d)),some (.int i)] G:=by
 have hs:=aj;unfold ju
 by_cases e:i=0
 ·subst e;refine nh (NX:=fun _ _=>False) (fun _ _ z=>z.elim) fun NX hNX=>?_;refine aY true (fun K hK=>?_) (iteT ?_)
  ·walk_at "st"
  ·exact h
 ·refine nh (NX:=fun σ' G'=>σ'=[some (.lst (seats.map Seat.d)),some (.int i)]/\G'=G) (fun σ' G' z=>?_) fun NX hNX=>?_
  ·obtain⟨rfl,rfl⟩:=z;obtain⟨st,as,ea⟩:=JG (seats:=seats) (i:=i) (by walk_at "o") h1
   rw[ea]at h;have ed:st.d=.tup [st.slot.d,st.name.d,.str st.sign,.str st.word]:=rfl;rw[ed]at as;clear ea ed;walk_at "st"
  ·have en:dC (.int i) (.int 0)=false:=bo fun z=>e (by injection z)
   refine aY false (fun K hK=>?_) (iteF ?_)
   ·walk_at "st"
   ·exact hNX _ _ ⟨rfl,rfl⟩
theorem u8(zF:Zz)(hw:HW):bM (dy zF hw) (ju zF hw) ["seats","at"]:=by
 intro ds G Q h;unfold dy at h;split at h
 ·rename_i xs i;obtain⟨seats,⟨rfl,h0,h1⟩,h⟩:=h;exact JF zF hw h0 h1 h
 ·exact h.elim
theorem va(zF:Zz)(hw:HW):bM (eg zF hw) (oO zF hw) ["self","pen","at","signs","seats"]:=by
 intro ds G Q h;unfold eg at h;split at h
 ·rename_i p pen i w;obtain⟨P,d,s,g,⟨⟨g1,g2,g3,g4⟩,ok⟩,h⟩:=h;have hs:=aj;have ok':P.ok 50:=ok.le (by decide)
  have ls:=ok.ls;have lt:=ok.lt;have lg:=ok.lg;have gi:=ok.gi;unfold oO;rw[ag];walk_at "s1";refine⟨P,d,s,g,⟨⟨g1,g2,g3,g4⟩,ok'⟩,fun out G1 hE so=>?_⟩;obtain⟨⟨c1,c2⟩,h⟩:=h out so;have k1:=hE _ _ g1;have k2:=hE _ _ g2;have k3:=hE _ _ g3;have k4:=hE _ _ g4;rw[ag];walk_at "s1";have sb:=se ok' so;have pa:gc zF.C_Paper hw G1 p d s g P:=⟨k1,k2,k3,k4⟩;refine⟨by rw[MY];exact c2,P,d,s,g,⟨pa,gi⟩,P,d,s,g,pa,P.seats out,⟨rfl,c2⟩,fun a ha=>⟨pen,_,_,rfl,rfl,P,d,s,g,⟨pen,P.num pen,P.time+1,.put (rE (P.seats out) i) w⟩,⟨pa.off ha,?_⟩,fun G' of pt=>h G' (AO hE ha of) pt⟩⟩
  exact⟨rfl,by walk_at "o",by walk_at "o",by walk_at "o"⟩
 ·exact h.elim
theorem tf(zF:Zz)(hw:HW):bM (dI zF hw) (mR zF hw) Az0:=by
 intro ds G Q h;unfold dI at h;split at h
 ·rename_i p pen i j m;obtain⟨P,d,s,g,⟨⟨g1,g2,g3,g4⟩,ok⟩,h⟩:=h;have hs:=aj;have ok':P.ok 50:=ok.le (by decide)
  have ls:=ok.ls;have lt:=ok.lt;have lg:=ok.lg;have gi:=ok.gi;unfold mR;rw[ag];walk_at "s1";refine⟨P,d,s,g,⟨⟨g1,g2,g3,g4⟩,ok'⟩,fun out G1 hE so=>?_⟩;obtain⟨⟨c1,c2,c3,c4,c5,c6⟩,h⟩:=h out so;have k1:=hE _ _ g1;have k2:=hE _ _ g2;have k3:=hE _ _ g3;have k4:=hE _ _ g4;rw[ag];walk_at "s1";have sb:=se ok' so;have pa:gc zF.C_Paper hw G1 p d s g P:=⟨k1,k2,k3,k4⟩;refine⟨⟨by rw[MY];exact c2,by rw[MY];exact c4⟩,?_⟩
  rw[ag];walk_at "s1";refine⟨by rw[MY];exact c6,?_⟩
  rw[ag];walk_at "s1";refine⟨P.seats out,⟨rfl,by walk_at "o",c4,by walk_at "o"⟩,P,d,s,g,⟨pa,gi⟩,P,d,s,g,pa,P.seats out,⟨rfl,c6⟩,fun a ha=>⟨pen,_,_,rfl,rfl,P,d,s,g,⟨pen,P.num pen,P.time+1,.move (BQ (P.seats out) i j) (rE (P.seats out) m)⟩,⟨pa.off ha,?_⟩,fun G' of pt=>h G' (AO hE ha of) pt⟩⟩
  exact⟨rfl,by walk_at "o",by walk_at "o",by walk_at "o"⟩
 ·exact h.elim
theorem lb(zF:Zz)(hw:HW):bM (bI zF hw) (gL zF hw) AE0:=by
 intro ds G Q h;unfold bI at h;split at h
 ·rename_i p w;obtain⟨P,d,s,g,⟨⟨g1,g2,g3,g4⟩,ok⟩,h⟩:=h;have hs:=aj;have l1:=ok.ls;unfold gL;walk_at "st";refine⟨by rw[MY];omega,fun i acc G'=>acc=((P.sks.take i).filter fun s=>dC ((bL P.st s.nm.key).getD .non) (.str w)).map Sk.d/\G'=G,⟨rfl,rfl⟩,fun i acc G' hp=>by rw[hp.2];exact g2,?_,?_⟩
  ·rintro i dd acc G' hd ⟨rfl,rfl⟩
   rw[Nd]at hd;cases hq:P.sks[i]? with
   | none=>rw[hq]at hd;cases hd
   | some k=>
    rw[hq]at hd;cases hd;obtain⟨w',hw0⟩:=ok.kn k (Ni hq);have tk:((P.sks.take (i+1)).filter fun s=>dC ((bL P.st s.nm.key).getD .non) (.str w)).map Sk.d=((P.sks.take i).filter fun s=>dC ((bL P.st s.nm.key).getD .non) (.str w)).map Sk.d ++ if dC (.str w') (.str w)=true then [k.d]else []:=by
     rw[NK,hq,OC,NP];congr 1;have wk:dC ((bL P.st k.nm.key).getD .non) (.str w)=dC (.str w') (.str w):=by rw[hw0];rfl
     by_cases z:dC (.str w') (.str w)=true
     ·rw[if_pos z,Option.toList_some,List.filter_cons_of_pos (by rw[wk];exact z)];rfl
     ·rw[if_neg z,Option.toList_some,List.filter_cons_of_neg (by rw[wk];exact z)];rfl
    have ed:k.d=.tup [.tup [.str k.pen,.int k.num],.int k.time,k.act.d]:=rfl;rw[ed]at tk ⊢;refine⟨⟨by simp[Nu,List.replicate],rfl⟩,?_⟩
    have hk:bL P.st [.inr k.pen,.inl k.num]=some (.str w'):=hw0;clear ok;generalize ((P.sks.take i).filter fun s=>dC ((bL P.st s.nm.key).getD .non) (.str w)).map Sk.d=A0 at *
    walk_at "st"
    by_cases z:dC (.str w') (.str w)=true
    ·rw[if_pos z,if_pos z]
    ·rw[if_neg z,if_neg z,Od]
  ·rintro acc G' ⟨rfl,rfl⟩
   rw[MY,NB];exact h
 ·exact h.elim
def KE:D->D
 | .tup (d::_)=>d
 | d=>d
theorem oA(zF:Zz)(hw:HW):bM (bS zF hw) (i5 zF hw) Ad0:=by
 intro ds G Q h;unfold bS at h;split at h
 ·rename_i p;obtain⟨P,d,s,g,⟨⟨g1,g2,g3,g4⟩,ok⟩,h⟩:=h;have hs:=aj;have l1:=ok.ls;have l2:(P.inS (MW "waits")).length<=P.sks.length:=N7 _ _;unfold i5;walk_at "st";refine⟨P,d,s,g,⟨⟨g1,g2,g3,g4⟩,ok⟩,?_⟩;refine f9 KE (by rw[MY];omega) (fun e he K hK=>?_) ?_
  ·obtain⟨k,_,rfl⟩:=mem_map.mp he;have ed:k.d=.tup [.tup [.str k.pen,.int k.num],.int k.time,k.act.d]:=rfl;rw[ed]at hK ⊢;refine⟨⟨by simp[Nu,List.replicate],rfl⟩,?_⟩
   exact hK _ rfl
  ·have e:((P.inS (MW "waits")).map Sk.d).map KE=P.wai.map Nm.d:=by unfold Pp.wai;rw[Nq,Nq];rfl
   rw[e];exact h
 ·exact h.elim
theorem mh(zF:Zz)(hw:HW):bM (bV zF hw) (hZ zF hw) Ae0:=by
 intro ds G Q h;unfold bV at h;split at h
 ·rename_i p a b;obtain⟨P,d,s,g,⟨⟨g1,g2,g3,g4⟩,hk,l2⟩,h⟩:=h;have hs:=aj;unfold hZ;rw[ag];walk_at "s1";refine⟨P,d,s,g,⟨⟨g1,g2,g3,g4⟩,hk⟩,by walk_at "o",h _ (fun x o hx hG=>?_) ⟨?_,?_,ax,?_⟩⟩
  ·rw[ai (fun z=>hx (by rw[z];simp))]
   exact hG
  ·rw[ai (fun z=>by rw[z,g3]at g1;cases g1)]
   exact g1
  ·rw[ai (fun z=>by rw[z,g3]at g2;cases g2)]
   exact g2
  ·rw[ai (fun z=>by rw[z,g3]at g4;cases g4)]
   exact g4
 ·exact h.elim
theorem rP(zF:Zz)(hw:HW):bM (da zF hw) (lh zF hw) Ao0:=by
 intro ds G Q h;unfold da at h;split at h
 ·rename_i c m;obtain⟨⟨h1,h2⟩,h⟩:=h;have hs:=aj;unfold lh;rw[ag];walk_at "s1";refine⟨by walk_at "o",fun p hp=>?_⟩
  rw[ag];walk_at "s1";refine⟨.inr ⟨by decide,by decide⟩,by decide,?_⟩
  have b0:=rp (a:=(c+1)*48271) (b:=2147483647) (by decide)
  generalize (c+1)*48271 % 2147483647=n0 at *
  rw[ag];walk_at "s1";refine⟨⟨by walk_at "o",by walk_at "o"⟩,fun i σ G'=>∃ (xs:List Int) (n:Int) (v:Option D),(σ=[some (.int c),some (.int m),some (.ref p),some (.int n),v]/\G'=gset G p (.lst (xs.map D.int)))/\xs.length=i/\(0<=n/\n < 2147483647)/\∀ x∈xs,0<=x/\x < 2147483647,
   ⟨[],n0,_,⟨rfl,rfl⟩,rfl,b0,by simp⟩,?_,?_⟩
  ·rintro i d σ G' hd ⟨xs,n,v,⟨rfl,rfl⟩,hl,hn,hx⟩
   obtain⟨hi,rfl⟩:=AD hd;simp only[gN,NI,Nu];rw[ag];walk_at "s1";have b1:=rp (a:=(n+7919*(0+(i:Nat))+1)*(n / 1009+69621)) (b:=2147483647) (by decide)
   refine⟨.inl ⟨by decide,by decide⟩,⟨by decide,by decide⟩,.inl ⟨by walk_at "o",by walk_at "o"⟩,by decide,?_⟩
   generalize (n+7919*(0+(i:Nat))+1)*(n / 1009+69621) % 2147483647=n1 at *
   refine⟨by rw[MY];omega,xs ++ [n1],n1,_,⟨⟨rfl,rfl⟩,by rw[NP];rfl⟩,by rw[NJ,hl];rfl,b1,fun x hx'=>?_⟩
   rcases R6.mp hx' with hx'|hx'
   ·exact hx x hx'
   ·rw[Q6.mp hx'];exact b1
  ·rintro σ G' ⟨xs,n,v,⟨rfl,rfl⟩,hl,hn,hx⟩
   rw[iM]at hl;simp only[iu,NS,NR,ax];rw[wj hp];exact h xs (by walk_at "o") hx
 ·exact h.elim
theorem p8(zF:Zz)(hw:HW):bM (cL zF hw) (jZ zF hw) AI0:=by
 intro ds G Q h;unfold cL at h;split at h
 ·rename_i xs k;obtain⟨ns,⟨rfl,h0⟩,h⟩:=h;unfold jZ;rw[ag];refine aY (decide (k < ns.length)) (fun K hK=>?_) (zJ (fun e=>?_) fun e=>?_)
  ·walk_at "st";rw[MY];exact hK
  ·rw[decide_eq_true_eq]at e;walk_at "st";rw[Bg h0 e];exact h _
  ·walk_at "st"
   first|done|exact h _
 ·exact h.elim
theorem js(zF:Zz)(hw:HW)(C1 C2:MT):∀ EQ ds G Q,bj zF hw C1 C2 ds G Q EQ->fW zF hw C1 C2 EQ { nx:=fun _ G'=>Q .non G',rt:=Q } (b7 Ae0 ds) G:=by
 intro EQ ds G Q h;unfold bj at h;split at h
 ·rename_i p a b;obtain⟨P,d,s,g,⟨⟨g1,g2,g3,g4⟩,hk⟩,h⟩:=h;unfold fW;refine aY true (fun K hK=>?_) (iteT ⟨_,rfl,h⟩);clear h;walk_at "st";exact hK
 ·exact h.elim
theorem dg{σ:dO}{G:Gp}{C p:MT}{L:List Str}{fs ds:List D}{sp:vG}{ta:kK}{i:Nat}{D:Ends3}{EQ:XQ}(hσ:σ[i]?=some (some (.ref p)))(hg:G p=some (.ins C L fs))(ha:∀ Q:List L3.D->Gp->Prop,Q ds G->ta σ G Q)(h:sp (.ref p::ds) G (fun _ G'=>D.nx σ G') EQ):dX C L sp (ae i) ta EQ D σ G:=by
 unfold dX ae;rw[hσ];dsimp only;rw[hg];exact⟨⟨rfl,rfl⟩,ha _ h⟩
theorem GS{σ:dO}{G:Gp}{C p:MT}{L:List Str}{fs ds:List D}{sp:vG}{ta:kK}{i:Nat}{D:Ends3}{EQ:XQ}{r:R3}{kd:L3.D}{t u:bc}(hσ:σ[i]?=some (some (.ref p)))(hg:G p=some (.ins C L fs))(ha:∀ Q:List L3.D->Gp->Prop,Q ds G->ta σ G Q)(h:sp (.ref p::ds) G (fun d G3=>∃ z,d=.str z/\r (.str z) (val kd) G3 fun b G4=>match b with
   | .bl c=>if c=true then t D σ G4 else u D σ G4
   | _=>False) EQ):FZ C L sp (ae i) ta r kd t u EQ D σ G:=by
 unfold FZ ae;rw[hσ];dsimp only;rw[hg];exact⟨⟨rfl,rfl⟩,ha _ h⟩
theorem pX(zF:Zz)(hw:HW)(C1 C2:MT):∀ EQ ds G Q,cI zF hw C1 C2 ds G Q EQ->sS zF hw C1 C2 EQ { nx:=fun _ G'=>Q .non G',rt:=Q } (b7 Ae0 ds) G:=by
 intro EQ ds G Q h;unfold cI at h;split at h
 ·rename_i p a b;obtain⟨P,d,s,g,⟨pa,hk⟩,h⟩:=h;show dX _ _ _ _ _ _ _ _ _
  refine dg (i:=0) (ds:=[.tup [.str a,.int b]]) rfl pa.1 (fun _ h=>h) ?_;exact⟨P,d,s,g,⟨pa,hk⟩,h⟩
 ·exact h.elim
theorem km(zF:Zz)(hw:HW)(C1 C2:MT):∀ EQ ds G Q,bw zF hw C1 C2 ds G Q EQ->md zF hw C1 C2 EQ { nx:=fun _ G'=>Q .non G',rt:=Q } (b7 Ae0 ds) G:=by
 intro EQ ds G Q h;unfold bw at h;split at h
 ·rename_i p a b;obtain⟨P,d,s,g,⟨pa,hk⟩,h⟩:=h;show dX _ _ _ _ _ _ _ _ _
  refine dg (i:=0) (ds:=[.tup [.str a,.int b]]) rfl pa.1 (fun _ h=>h) ?_;exact⟨P,d,s,g,⟨pa,hk⟩,h⟩
 ·exact h.elim
theorem jr(zF:Zz)(hw:HW)(C1 C2:MT):∀ EQ ds G Q,bh zF hw C1 C2 ds G Q EQ->k9 zF hw C1 C2 EQ { nx:=fun _ G'=>Q .non G',rt:=Q } (b7 Ae0 ds) G:=by
 intro EQ ds G Q h;unfold bh at h;split at h
 ·rename_i p a b;obtain⟨P,d,s,g,pa,h⟩:=h;refine GS (i:=0) (ds:=[.tup [.str a,.int b]]) rfl pa.1 (fun _ h=>h) ?_;rcases h with ⟨hk,h⟩|⟨w,hk,hw0,h⟩
  ·exact .inr ⟨P,d,s,g,⟨pa,hk⟩,h⟩
  ·refine .inl ⟨P,d,s,g,w,⟨pa,hk⟩,w,rfl,True.intro,True.intro,?_⟩;rw[show dC (.str w) (val k_WAITS)=false from bo fun e=>hw0 (D.str.inj e)]
   exact⟨_,rfl,h⟩
 ·exact h.elim
theorem k_(zF:Zz)(hw:HW)(C1 C2:MT):∀ EQ ds G Q,cr zF hw C1 C2 ds G Q EQ->nk zF hw C1 C2 EQ { nx:=fun _ G'=>Q .non G',rt:=Q } (b7 Ae0 ds) G:=by
 intro EQ ds G Q h;unfold cr at h;split at h
 ·rename_i p a b;obtain⟨P,d,s,g,pa,h⟩:=h;show dX _ _ _ _ _ _ _ _ _
  refine dg (i:=0) (ds:=[.tup [.str a,.int b]]) rfl pa.1 (fun _ h=>h) ?_;exact⟨P,d,s,g,pa,h⟩
 ·exact h.elim
theorem rN(zF:Zz)(hw:HW)(C1 C2:MT):∀ EQ ds G Q,c9 zF hw C1 C2 ds G Q EQ->uZ zF hw C1 C2 EQ { nx:=fun _ G'=>Q .non G',rt:=Q } (b7 Ae0 ds) G:=by
 intro EQ ds G Q h;unfold c9 at h;split at h
 ·rename_i p a b;obtain⟨P,d,s,g,pa,h⟩:=h;show dX _ _ _ _ _ _ _ _ _
  refine dg (i:=0) (ds:=[.tup [.str a,.int b]]) rfl pa.1 (fun _ h=>h) ?_;exact⟨P,d,s,g,pa,h⟩
 ·exact h.elim
theorem GX{i:Nat}{σ:dO}{G:Gp}{w:Str}(c:Str){K:Bool->Gp->Prop}(hσ:σ[i]?=some (some (.str w)))(h:K (decide (w=c)) G):br (cF xr (ae i) (eC (.str c))) σ G K:=by
 unfold br cF ae;rw[hσ];have e:dC (.str w) (.str c)=decide (w=c):=by
  by_cases z:w=c
  ·rw[decide_eq_true z,z,a_]
  ·rw[decide_eq_false z];exact bo fun e=>z (D.str.inj e)
 refine⟨True.intro,True.intro,?_⟩;show K (dC (.str w) (.str c)) G
 rw[e];exact h
theorem gQ(c:Str)(hσ:σ[i]?=some (some (.str w)))(h1:w=c->t E σ G)(h2:w≠c->u E σ G):il (br (cF xr (ae i) (eC (.str c)))) t u E σ G:=
 aY _ (fun _=>GX c hσ) (zJ (fun e=>h1 (of_decide_eq_true e)) fun e=>h2 (of_decide_eq_false e))
theorem BA(h:te σ G fun d G'=>u E (σ.set i (some (val d))) G'):sSeq (bK i te) u E σ G:=h
theorem FW(h:rb (fun C a d G2=>∃ t,(C,a,t)∈tab/\∀ x,G2 x=none->t d x (Ends3.un i { E with nx:=u E }) (σ.set i (some (.ref x))) G2) { E with nx:=u E } σ G):sSeq (yR tab i rb) u E σ G:=h
abbrev Nt(a:Str)(b:Int):D:=.tup [.str a,.int b]
theorem Dl{p C1 C2:MT}{a w:Str}{b:Int}{G:Gp}{Q:jh}{rb:XQ->bc}(h:∀ EQ:XQ,(∀ G',Q (.tup [.str (MW "none"),Nt a b]) G'->EQ C1 "stroke" (Nt a b) G')->(∀ G',Q (.tup [.str (MW "decided"),Nt a b]) G'->EQ C2 "stroke" (Nt a b) G')->
   rb EQ { nx:=fun σ G'=>aT (ae 3) { nx:=fun _ G'=>Q .non G',rt:=Q } σ G',rt:=Q } [some (.ref p),some (Nt a b),some (.str w),some (.str (MW "done")),none] G):
  sSeq (yR [(C1,"stroke",yS 3 4 "none"),(C2,"stroke",yS 3 4 "decided")] 4 rb) (aT (ae 3)) { nx:=fun _ G'=>Q .non G',rt:=Q } [some (.ref p),some (Nt a b),some (.str w),some (.str (MW "done")),none] G:=
 h _ (fun G' q=>⟨_,M_,fun x hx=>⟨⟨_,rfl⟩,rfl,q⟩⟩) fun G' q=>⟨_,M7 _ M_,fun x hx=>⟨⟨_,rfl⟩,rfl,q⟩⟩
theorem sY(zF:Zz)(hw:HW)(C0 C3 C1 C2 C4:MT):∀ ds G Q,cX zF hw ds G Q->mN zF hw C0 C3 C1 C2 C4 { nx:=fun _ G'=>Q .non G',rt:=Q } (b7 At0 ds) G:=by
 intro ds G Q h;unfold cX at h;split at h
 ·rename_i p a b w;obtain⟨P,d,s,g,⟨pa,lt⟩,h⟩:=h;unfold mN;refine BA ?_;refine Dl (p:=p) (a:=a) (b:=b) (w:=w) (Q:=Q) fun EQ x1 x2=>?_;have ns:MW "stands"≠MW "wiped":=by decide +kernel
  have nl:MW "wiped"≠MW "leans":=by decide +kernel
  rcases h with ⟨hk,h⟩|⟨v,⟨hk,hv,hw0⟩,h⟩|⟨⟨hk,hw0⟩,h⟩
  ·have r53:Aa C1 C2 P.st a b EQ G:=.inl ⟨hk,x1 G h⟩;refine gQ (i:=2) _ rfl (fun _=>?_) fun _=>gQ (i:=2) _ rfl (fun _=>?_) fun _=>gQ (i:=2) _ rfl (fun _=>?_) fun _=>?_
   ·exact dg (i:=0) (ds:=[Nt a b]) rfl pa.1 (fun _ h=>h) (.inr ⟨P,d,s,g,pa,r53⟩)
   ·exact dg (i:=0) (ds:=[Nt a b]) rfl pa.1 (fun _ h=>h) (.inr ⟨P,d,s,g,pa,r53⟩)
   ·exact dg (sp:=bw zF hw C1 C2) (i:=0) (ds:=[Nt a b]) rfl pa.1 (fun _ h=>h) ⟨P,d,s,g,⟨pa,hk⟩,x1 G h⟩
   ·exact dg (i:=0) (ds:=[Nt a b]) rfl pa.1 (fun _ h=>h) (.inr ⟨P,d,s,g,⟨pa,hk⟩,x1 G h⟩)
  ·have r53:Aa C1 C2 P.st a b EQ G:=.inr ⟨v,hk,hv,x2 G h⟩;rcases hw0 with rfl|rfl
   ·refine gQ (i:=2) _ rfl (fun _=>?_) fun z=>absurd rfl z;exact dg (i:=0) (ds:=[Nt a b]) rfl pa.1 (fun _ h=>h) (.inr ⟨P,d,s,g,pa,r53⟩)
   ·refine gQ (i:=2) _ rfl (fun z=>absurd z.symm ns) fun _=>gQ (i:=2) _ rfl (fun _=>?_) fun z=>absurd rfl z;exact dg (i:=0) (ds:=[Nt a b]) rfl pa.1 (fun _ h=>h) (.inr ⟨P,d,s,g,pa,r53⟩)
  ·rcases hw0 with rfl|rfl
   ·refine gQ (i:=2) _ rfl (fun _=>?_) fun z=>absurd rfl z;exact dg (i:=0) (ds:=[Nt a b]) rfl pa.1 (fun _ h=>h) (.inl ⟨P,d,s,g,⟨pa,hk,lt⟩,fun G' of pt=>h G' of pt⟩)
   ·refine gQ (i:=2) _ rfl (fun z=>absurd z.symm ns) fun _=>gQ (i:=2) _ rfl (fun _=>?_) fun z=>absurd rfl z;exact dg (i:=0) (ds:=[Nt a b]) rfl pa.1 (fun _ h=>h) (.inl ⟨P,d,s,g,⟨pa,hk,lt⟩,fun G' of pt=>h G' of pt⟩)
 ·exact h.elim
theorem p7(zF:Zz)(hw:HW)(C0 C3 C1 C2 C4:MT):∀ ds G Q,cK zF hw ds G Q->jY zF hw C0 C3 C1 C2 C4 { nx:=fun _ G'=>Q .non G',rt:=Q } (b7 AC0 ds) G:=by
 intro ds G Q h;unfold cK at h;split at h
 ·rename_i p a b;obtain⟨P,d,s,g,pa,h⟩:=h;unfold jY;have sz:∀ l:List D,l.length=4->l.length<=M1:=fun l e=>by rw[e];decide
  refine BA ⟨N0 _,FW ?_⟩;refine dg (i:=0) (ds:=[Nt a b]) rfl pa.1 (fun _ h=>h) (.inr ⟨P,d,s,g,pa,?_⟩);rcases h with ⟨hk,h⟩|⟨v,⟨hk,hv⟩,h⟩
  ·exact .inl ⟨hk,_,M_,fun x hx=>⟨rfl,rfl,rfl,rfl,sz _ rfl,h⟩⟩
  ·exact .inr ⟨v,hk,hv,_,M7 _ M_,fun x hx=>⟨rfl,rfl,rfl,rfl,sz _ rfl,h⟩⟩
 ·exact h.elim
theorem GD{P:Pp}{n:Nat}(ok:P.ok n)(pen:Str):1<=P.num pen:=by
 unfold Pp.num;split
 ·rename_i m e;obtain⟨m',e',h⟩:=ok.gi _ _ e;cases e';omega
 ·exact Int.le_refl _
theorem AR{P:Pp}{pen:Str}{m:Int}(h:bL P.gr (.inr pen)=some (.int m)):P.num pen=m+1:=by
 unfold Pp.num;rw[h]
theorem IQ{P:Pp}{n:Nat}{pen:Str}{k:Sk}(ok:P.ok n)(nx:P.next pen k)(wd:k.wd<=60):(P.add k).ok (n+1):=by
 obtain⟨rfl,e2,e3⟩:=nx;have np:=GD ok k.pen;refine⟨ok.lo,?_,?_,?_,fun s hs=>?_,?_,fun s hs=>?_,fun q v hv=>?_,fun s hs=>?_⟩
 ·show (P.sks ++ [k]).length<=n+1;rw[NJ];exact Nat.succ_le_succ ok.ls
 ·exact le_trans (eX _ _ _) (Nat.succ_le_succ ok.lt)
 ·exact le_trans (eX _ _ _) (Nat.succ_le_succ ok.lg)
 ·rcases R6.mp hs with h|h
  ·obtain⟨h1,h2,h3⟩:=ok.sk s h;exact⟨h1,h2,by show s.time<=k.time;omega⟩
  ·rw[Q6.mp h];exact⟨by walk_at "o",wd,Int.le_refl _⟩
 ·show ((P.sks ++ [k]).map Sk.rw).Pairwise lS;rw[NP,List.pairwise_append];refine⟨ok.ap,List.pairwise_singleton _ _,fun a ha b hb=>?_⟩;obtain⟨s,hs,rfl⟩:=mem_map.mp ha;rw[Nk,PF,Q6]at hb;subst hb
  rintro⟨z1,z2⟩
  obtain⟨m,hm,le⟩:=ok.gm s hs;have z1':s.pen=k.pen:=z1;have z2':s.num=k.num:=z2;rw[z1']at hm;have:=AR hm;omega
 ·show ∃ w:Str,bL (bg P.st k.nm.key (.str (MW "waits"))) s.nm.key=some (.str w);rw[fP];split
  ·exact⟨_,rfl⟩
  ·rename_i ne;rcases R6.mp hs with h|h
   ·exact ok.kn s h
   ·exact absurd (by rw[Q6.mp h]) ne
 ·have hv':bL (bg P.gr (.inr k.pen) (.int k.num)) q=some v:=hv;rw[fP]at hv';split at hv'
  ·cases hv';exact⟨_,rfl,by walk_at "o"⟩
  ·exact ok.gi _ _ hv'
 ·show ∃ m:Int,bL (bg P.gr (.inr k.pen) (.int k.num)) (.inr s.pen)=some (.int m)/\s.num<=m;rw[fP];split
  ·rename_i z;refine⟨_,rfl,?_⟩;rcases R6.mp hs with h|h
   ·obtain⟨m,hm,le⟩:=ok.gm s h;rw[z]at hm;have:=AR hm;omega
   ·rw[Q6.mp h];exact Int.le_refl _
  ·rename_i ne;rcases R6.mp hs with h|h
   ·exact ok.gm s h
   ·exact absurd (by rw[Q6.mp h]) ne
theorem vT(l:List Seat):pl 8 (.lst (l.map Seat.d3)):=fun d hd=>by
 obtain⟨s,_,rfl⟩:=mem_map.mp hd;intro e he;simp only[NH,NO,or_false]at he;rcases he with rfl|rfl|rfl
 ·exact sJ _ 5
 ·exact trivial
 ·exact trivial
theorem EM(l:List Nm):pl 8 (.lst (l.map Nm.d)):=fun d hd=>by
 obtain⟨n,_,rfl⟩:=mem_map.mp hd;intro e he;simp only[NH,NO,or_false]at he;rcases he with rfl|rfl<;>exact trivial
theorem FM(P:Pp):P.wai.length<=P.sks.length:=by
 unfold Pp.wai;rw[MY];exact N7 _ _
theorem BB(ht:∀ K:Bool->Gp->Prop,(∀ G',gv G G'->K b G')->t σ G K)(h:∀ G',gv G G'->(if b=true then a E σ G' else b0 E σ G')):il t a b0 E σ G:=ht _ h
theorem Jr(h:bL P.st k=some (.str w)):MO P ⟨P.old,P.sks,bg P.st k (.str v),P.gr,P.time⟩:=by
 refine⟨rfl,rfl,rfl,rfl,fun n ok=>⟨ok.lo,ok.ls,?_,ok.lg,ok.sk,ok.ap,fun s hs=>?_,ok.gi,ok.gm⟩⟩
 ·show (bg P.st k (.str v)).length<=n;rw[tH,h];exact ok.lt
 ·show ∃ w:Str,bL (bg P.st k (.str v)) s.nm.key=some (.str w);rw[fP];split
  ·exact⟨v,rfl⟩
  ·exact ok.kn s hs
theorem Ki(x:Int):∃ w:Str,iI [D.str (MW "ann"),D.str (MW "anna"),D.str (MW "bob")] (x % 3)=some (.str w):=by
 have h:x % 3=0\/x % 3=1\/x % 3=2:=by walk_at "o"
 rcases h with h|h|h<;>rw[h]<;>exact⟨_,rfl⟩
theorem Iq(x:Int):∃ w:Str,w.length<=60/\iI [D.str (MW "a"),D.str (MW "bc")] (x % 2)=some (.str w):=by
 have h:x % 2=0\/x % 2=1:=by walk_at "o"
 rcases h with h|h<;>rw[h]
 ·exact⟨MW "a",by decide +kernel,rfl⟩
 ·exact⟨MW "bc",by decide +kernel,rfl⟩
theorem BP(seats:List Seat)(i j:Int)(h:j - i<=60):(BQ seats i j).length<=60:=by
 unfold BQ;rw[MY,NQ];omega
theorem u9(zF:Zz)(hw:HW):bM (ef zF hw) (oM zF hw) An0:=by
 intro ds G Q h;unfold ef at h;split at h
 ·rename_i p xs;obtain⟨P,d,s,g,x0,x1,x2,x3,x4,x5,x6,⟨pa,ok,rfl⟩,h⟩:=h;have hs:=aj;have g1:=pa.1;have Uc:P.ok 50:=ok.le (by decide)
  have a0:iI [D.int x0,D.int x1,D.int x2,D.int x3,D.int x4,D.int x5,D.int x6] 0=some (.int x0):=rfl;have a1:iI [D.int x0,D.int x1,D.int x2,D.int x3,D.int x4,D.int x5,D.int x6] 1=some (.int x1):=rfl;have a2:iI [D.int x0,D.int x1,D.int x2,D.int x3,D.int x4,D.int x5,D.int x6] 2=some (.int x2):=rfl;have a3:iI [D.int x0,D.int x1,D.int x2,D.int x3,D.int x4,D.int x5,D.int x6] 3=some (.int x3):=rfl;have a4:iI [D.int x0,D.int x1,D.int x2,D.int x3,D.int x4,D.int x5,D.int x6] 4=some (.int x4):=rfl;have al:[D.int x0,D.int x1,D.int x2,D.int x3,D.int x4,D.int x5,D.int x6].length=7:=rfl;generalize [D.int x0,D.int x1,D.int x2,D.int x3,D.int x4,D.int x5,D.int x6]=XS at *
  obtain⟨pen,ep⟩:=Ki x0;obtain⟨sg,ls,es⟩:=Iq x3;unfold oM;rw[ag];walk_at "s1";refine⟨P,d,s,g,⟨pa,Uc⟩,fun out G1 e1 so=>?_⟩;have sb:=se Uc so;rw[MY];have pa1:=pa.ext e1;have k1:=pa1.1;have of1:∀ {G'},Ad [p,d,s,g] G1 G'->Ad [p,d,s,g] G G':=fun of x o hx hG=>of x o hx (e1 x o hG);have uq:∀ {o'},Srt P o'->o'=out:=fun so'=>sH so' so;have h:∀ k G',P.next pen k->k.wd<=60->Ad [p,d,s,g] G1 G'->gc zF.C_Paper hw G' p d s g (P.add k)->Q (.tup [.str k.pen,.int k.num]) G':=fun k G' n w of pt=>h pen k G' n w (of1 of) pt;clear pa g1 e1 of1;generalize hN:(P.seats out).length=N at *
  rw[ag];walk_at "s1";refine⟨by walk_at "o",by decide,?_⟩
  rw[ag];refine aY (dC (.int (N:Int)) (.int 0) || decide (x1 % 4 < 2)) (Ih _ _ (fun K hK=>?_) fun _ K hK=>?_) (zJ (fun e=>?_) fun e=>?_)
  ·clear h;walk_at "st"
  ·clear h;walk_at "st";decide
  ·clear e;walk_at "s1";have i0:=Int.emod_nonneg x2 (b:=(N:Int)+1) (by walk_at "o")
   have i1:=Int.emod_lt_of_pos x2 (b:=(N:Int)+1) (by walk_at "o")
   refine⟨by walk_at "o",by walk_at "o",by decide,P,d,s,g,⟨pa1,ok⟩,fun o2 so2=>?_⟩
   cases uq so2;rw[hN];refine⟨by walk_at "o",fun G' of pt=>h _ G' ⟨rfl,rfl,rfl⟩ ?_ of pt⟩
   exact ls
  ·have nz:0 < N:=by
    rcases Nat.eq_zero_or_pos N with z|z
    ·rw[z]at e;have:dC (.int ((0:Nat):Int)) (.int 0)=true:=a_ _;rw[this]at e;cases e
    ·exact z
   clear e;simp only[cv];rw[ag];walk_at "s1";refine⟨by walk_at "o",?_⟩
   have i0:=Int.emod_nonneg x2 (b:=(N:Int)) (by walk_at "o")
   have i1:=Int.emod_lt_of_pos x2 (b:=(N:Int)) (by walk_at "o")
   generalize x2 % (N:Int)=i at *
   have mp:0 < (if (N:Int) - i < 4 then (N:Int) - i else 4)/\(if (N:Int) - i < 4 then (N:Int) - i else 4)<=4/\(if (N:Int) - i < 4 then (N:Int) - i else 4)<=N - i:=by split<;>omega
   rw[ag];walk_at "s1";generalize (if (N:Int) - i < 4 then (N:Int) - i else 4)=m at mp ⊢
   have y1:=Int.emod_nonneg x3 (b:=m) (by walk_at "o")
   have y2:=Int.emod_lt_of_pos x3 (b:=m) (by walk_at "o")
   generalize x3 % m=y at y1 y2 ⊢;have jb:i < i+1+y/\i+1+y<=N/\i+1+y - i<=60:=by walk_at "o"
   generalize i+1+y=j at jb ⊢;clear mp y1 y2;rw[ag];refine aY (dC (.int (x1 % 4)) (.int 2)) (fun K hK=>?_) (zJ (fun e=>?_) fun e=>?_)
   ·clear h;walk_at "st";decide
   ·walk_at "s1";refine⟨P,d,s,g,⟨pa1,ok⟩,fun o2 so2=>?_⟩;cases uq so2;rw[hN];refine⟨by walk_at "o",fun G' of pt=>h _ G' ⟨rfl,rfl,rfl⟩ ?_ of pt⟩
    exact BP _ i j jb.2.2
   ·have z0:=Int.emod_nonneg x4 (b:=(N:Int)+1) (by walk_at "o")
    have z1:=Int.emod_lt_of_pos x4 (b:=(N:Int)+1) (by walk_at "o")
    simp only[cv];walk_at "s1";refine⟨by walk_at "o",P,d,s,g,⟨pa1,ok⟩,fun o2 so2=>?_⟩
    cases uq so2;rw[hN];refine⟨by walk_at "o",fun G' of pt=>h _ G' ⟨rfl,rfl,rfl⟩ ?_ of pt⟩
    exact BP _ i j jb.2.2
 ·exact h.elim
theorem gc.put{C:MT}{hw0:List aB->Int}{G:Gp}{p d s g z:MT}{P:Pp}{o:GO}(h:gc C hw0 G p d s g P)(hz:z∉[p,d,s,g]):gc C hw0 (gset G z o) p d s g P:=by
 simp only[NH,NO,or_false,not_or]at hz;exact⟨(ai (Ne.symm hz.1)).trans h.1,(ai (Ne.symm hz.2.1)).trans h.2.1,(ai (Ne.symm hz.2.2.1)).trans h.2.2.1,(ai (Ne.symm hz.2.2.2)).trans h.2.2.2⟩
theorem JE{SA:cG}{t u:bc}{E:Ends3}{σ:dO}{G:Gp}{p:MT}{a w:Str}{b:Int}{y:D}{i:Nat}(h0:σ[0]?=some (some (.ref p)))(h2:σ[2]?=some (some (Nt a b)))(hi:σ[i]?=some (some (.str w)))(h4:σ[4]?=some (some y))
  (h:SA [.ref p,Nt a b,.str w] G fun x G1=>xq (val x) (val y) G1 fun d G'=>match d with
   | .bl c=>if c=true then t E σ G' else u E σ G'
   | _=>False):il (br (cF xq (aJ SA [] (af (ae 0) (af (ae 2) (af (ae i) (av))))) (ae 4))) t u E σ G:=by
 unfold il br cF aJ af av ae;rw[h0,h2,hi,h4];exact h
theorem pz(hw0:HW){SA SC:cG}{p z:MT}{a w u:Str}{b:Int}{G:Gp}{Q:jh}{st:List (List aB×D)}{o:Option D}(gz:G z=some (.dT hw0 st))(ho:bL st [.inr a,.inl b]=o)(hq:Q (.bl true) G)(ok:o=none\/Sw w)
  (ask:∀ (w':Str) (Q':jh),(o=none\/Sw w')->Q' (.tup [.str u,Nt a b]) G->SA [.ref p,Nt a b,.str w'] G Q') (cls:∀ Q':jh,Q' (.lst ([o.isSome,!o.isSome,false,true].map D.bl)) G->SC [.ref p,Nt a b] G Q'):
  sSeq (il (br (cF xq (aJ SA [] (af (ae 0) (af (ae 2) (af (ae 3) (av))))) (ae 4))) (aT (eC (.bl false))) (cv))
   (sSeq (il (br (cF xr (ae 4) (eC (.str "done")))) (sSeq (de hw0 (ae 1) (ae 2) (ae 3)) (aT (eC (.bl true)))) (cv))
   (sSeq (iV (fB (kJ (af (eC (.str "")) (af (eC (.str "leans")) (av))))) (gN 5) (il (sG (br (et hw0 (ae 2) (ae 1))) (br (cF xq (aJ SA [] (af (ae 0) (af (ae 2) (af (ae 5) (av))))) (ae 4)))) (aT (eC (.bl false))) (cv)))
   (aT (cF IU (aJ SC [] (af (ae 0) (af (ae 2) (av)))) (kJ (af (uC hw0 (ae 2) (ae 1)) (af (et hw0 (ae 2) (ae 1)) (af (eC (.bl false)) (af (eC (.bl true)) (av)))))))))) { nx:=fun _ G'=>Q .non G',rt:=Q }
   [some (.ref p),some (.ref z),some (Nt a b),some (.str w),some (.tup [.str u,Nt a b]),none] G:=by
 have hs:=aj;have plu:pl 8 (.tup [.str u,Nt a b]):=fun e he=>by
  simp only[NH,NO,or_false]at he;rcases he with rfl|rfl
  ·trivial
  ·intro e he;simp only[NH,NO,or_false]at he;rcases he with rfl|rfl<;>trivial
 have ne0:dC (.tup [.str u,Nt a b]) (.str (MW "done"))=false:=bo fun e=>nomatch e;have dl:b_ hw0 G (val (.ref z)) (val (Nt a b)) o:=by
  unfold b_ val;dsimp only;rw[gz];exact⟨rfl,_,rfl,ho.symm⟩
 have tst:∀ {i:Nat} {σ:dO} {w':Str} {K:Bool->Gp->Prop},σ[0]?=some (some (.ref p))->σ[2]?=some (some (Nt a b))->σ[i]?=some (some (.str w'))->σ[4]?=some (some (.tup [.str u,Nt a b]))->(o=none\/Sw w')->K false G->br (cF xq (aJ SA [] (af (ae 0) (af (ae 2) (af (ae i) (av))))) (ae 4)) σ G K:=fun {i σ w' K} h0 h2 hi h4 hw1 hK=>by
  unfold br cF aJ af av ae;rw[h0,h2,hi];refine ask w' _ hw1 ?_;rw[h4];refine⟨plu,plu,?_⟩;show K (!dC _ _) G
  rw[a_];exact hK
 rw[ag];refine aY false (fun K hK=>tst rfl rfl rfl rfl ok hK) (iteF ?_);simp only[cv];rw[ag];refine aY false (fun K hK=>⟨plu,trivial,?_⟩) (iteF ?_)
 ·show K (dC (.tup [.str u,Nt a b]) (.str (MW "done"))) G;rw[ne0];exact hK
 ·simp only[cv];rw[ag];refine⟨by show 2<=M1;omega,fun i σ' G'=>∃ v,σ'=[some (.ref p),some (.ref z),some (Nt a b),some (.str w),some (.tup [.str u,Nt a b]),v]/\G'=G,⟨none,rfl,rfl⟩,?_,?_⟩
  ·rintro i dd σ' G' hd ⟨v,rfl,rfl⟩
   obtain⟨w',rfl⟩:∃ w':Str,dd=.str w':=by
    match i,hd with
    | 0,hd=>cases hd;exact⟨_,rfl⟩
    | 1,hd=>cases hd;exact⟨_,rfl⟩
    | i+2,hd=>exact nomatch hd
   refine aY ((!o.isSome) && false) (Bx _ _ (fun K hK=>⟨o,dl,hK⟩) fun e K hK=>tst rfl rfl rfl rfl (.inl ?_) hK) (zJ (fun e=>?_) fun _=>⟨_,rfl,rfl⟩)
   ·cases o
    ·rfl
    ·cases e
   ·rw[Bool.and_false]at e;cases e
  ·rintro σ' G' ⟨v,rfl,rfl⟩
   refine cls _ ⟨o,dl,o,dl,by show 4<=M1;omega,_,⟨rfl,rfl⟩,hq⟩
theorem pZ(zF:Zz)(hw:HW):bM (ck zF hw) (jX zF hw) Am0:=by
 intro ds G Q h;unfold ck at h;split at h
 ·rename_i p z a b w;obtain⟨P,d,s,g,⟨pa,gz,nz,lt,tx,hw0⟩,h⟩:=h;have hs:=aj;unfold jX;rw[ag];walk_at "s1";cases hk:bL P.st [.inr a,.inl b] with
  | none=>
   refine nh (NX:=fun σ' G'=>σ'=[some (.ref p),some (.ref z),some (Nt a b),some (.str w),some (.tup [.str (MW "none"),Nt a b]),none]/\G'=G) ?_ fun NX hNX=>?_
   ·rintro σ' G' ⟨rfl,rfl⟩
    refine pz hw gz hk (h P G' (.inl rfl) pa gz) (.inl rfl) (fun w' Q' _ q=>⟨P,d,s,g,⟨pa,lt⟩,.inl ⟨hk,q⟩⟩) fun Q' q=>⟨P,d,s,g,pa,.inl ⟨hk,q⟩⟩
   ·refine aY true (fun K hK=>?_) (iteT ⟨by show 2<=M1;omega,hNX _ _ ⟨rfl,rfl⟩⟩)
    clear h hNX;walk_at "st";exact hK
  | some v=>
   obtain⟨v,rfl⟩:=tx _ _ hk
   by_cases hv:v=MW "waits"
   ·subst hv;refine nh (NX:=fun σ' G'=>σ'=[some (.ref p),some (.ref z),some (Nt a b),some (.str w),some (.str (MW "done")),none]/\G'=G) ?_ fun NX hNX=>?_
    ·rintro σ' G' ⟨rfl,rfl⟩
     rw[ag];refine JE rfl rfl rfl rfl ⟨P,d,s,g,⟨pa,lt⟩,.inr (.inr ⟨⟨hk,hw0⟩,fun G2 of pt=>⟨True.intro,True.intro,?_⟩⟩)⟩;have gz2:=of z _ nz gz;show if (!dC (.str (MW "done")) (.str (MW "done")))=true then _ else _
     rw[a_];refine iteF ?_;simp only[cv];rw[ag];refine aY true (fun K hK=>⟨True.intro,True.intro,?_⟩) (iteT ?_)
     ·show K (dC (.str (MW "done")) (.str (MW "done"))) G2;rw[a_];exact hK
     ·refine wM (fun _ q=>q) (fun _ q=>q) (fun _ q=>q) (o:=.ref z) (i:=Nt a b) (v:=.str w) ?_;unfold iE val;dsimp only;rw[gz2];exact⟨rfl,_,rfl,by walk_at "o",h (P.dec [.inr a,.inl b] w) _ (.inr ⟨hk,rfl⟩) (pt.put nz) ax⟩
    ·refine aY false (fun K hK=>?_) (iteF (aY false (fun K hK=>?_) (iteF (hNX _ _ ⟨rfl,rfl⟩))))
     ·clear h hNX;walk_at "st";exact hK
     ·clear h hNX;walk_at "st"
   ·refine nh (NX:=fun σ' G'=>σ'=[some (.ref p),some (.ref z),some (Nt a b),some (.str w),some (.tup [.str (MW "decided"),Nt a b]),none]/\G'=G) ?_ fun NX hNX=>?_
    ·rintro σ' G' ⟨rfl,rfl⟩
     refine pz hw gz hk (h P G' (.inl rfl) pa gz) (.inr hw0) (fun w' Q' ho q=>⟨P,d,s,g,⟨pa,lt⟩,.inr (.inl ⟨v,⟨hk,hv,ho.resolve_left (fun z=>nomatch z)⟩,q⟩)⟩) fun Q' q=>⟨P,d,s,g,pa,.inr ⟨v,⟨hk,hv⟩,q⟩⟩
    ·refine aY false (fun K hK=>?_) (iteF (aY true (fun K hK=>?_) (iteT ⟨by show 2<=M1;omega,hNX _ _ ⟨rfl,rfl⟩⟩)))
     ·clear h hNX;walk_at "st";exact hK
     ·have ev:dC (.str v) (.str (MW "waits"))=false:=bo fun e=>hv (D.str.inj e);clear h hNX;walk_at "st"
 ·exact h.elim
theorem FX(s:Seat):pl 7 s.d:=by
 intro d hd;simp only[NH,NO,or_false]at hd;rcases hd with rfl|rfl|rfl|rfl
 ·exact sJ _ 5
 ·exact sJ _ 5
 ·exact trivial
 ·exact trivial
theorem yM(l:List Seat):pl 8 (.lst (l.map Seat.d)):=fun d hd=>by
 obtain⟨s,_,rfl⟩:=mem_map.mp hd;exact FX s
theorem uI{hw0:HW}{G:Gp}{z:MT}{st:List (List aB×D)}{names:List Nm}{σ:dO}{i:Nat}{tt:mv}{te:aV}{Q:jh}(gz:G z=some (.dT hw0 st))(ek:st.map o_=names.map Nm.d)(hi:σ[i]?=some (some (.ref z)))(f:Nm->Bool)(v:Nm->D)
  (ht:∀ n∈names,∀ ob xs,∀ K:Bool->Gp->Prop,K (f n) (gset G z (.dF ob hw0 xs st))->tt (some n.d::σ) (gset G z (.dF ob hw0 xs st)) K) (he:∀ n∈names,∀ ob xs,∀ K:jh,K (v n) (gset G z (.dF ob hw0 xs st))->te (some n.d::σ) (gset G z (.dF ob hw0 xs st)) K)
  (hv:∀ n∈names,val (v n)=v n) (hq:Q (.fl ((names.filter f).map v)) G):lM 1 (ae i) (gN 0) tt te σ G Q:=by
 unfold lM ae;rw[hi];refine⟨hw0,st,gz,fun ob xs=>⟨fun i acc G'=>acc=((names.take i).filter f).map v/\G'=gset G z (.dF ob hw0 xs st),⟨rfl,rfl⟩,fun i acc G' h=>by rw[h.2];exact ax,?_,?_⟩⟩
 ·rintro i dd acc G' hd ⟨rfl,rfl⟩
  rw[ek,Nd]at hd;cases hn:names[i]? with
  | none=>rw[hn]at hd;cases hd
  | some n=>
   rw[hn]at hd;cases hd;have mem:=Ni hn;have tk:names.take (i+1)=names.take i ++ [n]:=by rw[NK,hn,Option.toList_some]
   refine⟨⟨by simp[Nu,List.replicate],rfl⟩,ht n mem ob xs _ ?_⟩
   cases hf:f n with
   | false=>exact iteF ⟨by rw[tk,OC,List.filter_cons_of_neg (by rw[hf];decide),List.filter_nil,Od],rfl⟩
   | true=>exact iteT (he n mem ob xs _ ⟨by rw[tk,OC,List.filter_cons_of_pos hf,List.filter_nil,NP,hv n mem];rfl,rfl⟩)
 ·rintro acc G' ⟨rfl,rfl⟩
  rw[ek,MY,NB,dM,C7 gz];exact hq
theorem xU:∀ {st:List (List aB×D)},(st.map (·.1)).Nodup->∀ kv∈st,bL st kv.1=some kv.2
 | [],_,kv,h=>by cases h
 | a::r,nd,kv,h=>by
  rw[Nk,OL]at nd;unfold bL;rcases NH.mp h with rfl|h
  ·rw[List.find?_cons_of_pos (by simp)]
   rfl
  ·rw[List.find?_cons_of_neg (by
    have:kv.1∈r.map (·.1):=List.mem_map_of_mem h
    simpa using fun e=>nd.1 (by rw[e];exact this))]
   exact xU nd.2 kv h
theorem zr{P:Pp}(ln:P.lined):P.st.map o_=(P.sks.map Sk.nm).map Nm.d:=by
 have:(P.st.map (·.1)).map (fun k=>D.tup (k.map kD))=(P.sks.map fun k=>k.nm.key).map fun k=>D.tup (k.map kD):=by rw[ln.ks]
 rw[Nq,Nq]at this;rw[Nq];exact this
theorem xx{σ:dO}{G:Gp}{C p:MT}{L:List Str}{fs:List D}{sp:cG}{i:Nat}{Q:jh}(hσ:σ[i]?=some (some (.ref p)))(hg:G p=some (.ins C L fs))(h:sp [.ref p] G Q):bY C L sp [] (ae i) av σ G Q:=by
 unfold bY ae;rw[hσ];dsimp only;rw[hg];exact⟨⟨rfl,rfl⟩,h⟩
theorem sX(zF:Zz)(hw:HW):bM (dH zF hw) (mM zF hw) Ab0:=by
 intro ds G Q h;unfold dH at h;split at h
 ·rename_i p z x;obtain⟨P,d,s,g,⟨pa,ok,rfl,ln,gz,nz⟩,h⟩:=h;have hs:=aj;have ls:=ok.ls;have lo:=ok.lo;have g1:=pa.1;have sk:∀ k∈P.sks,1<=k.num/\k.wd<=1000:=fun k hk=>⟨(ok.sk k hk).1,le_trans (ok.sk k hk).2.1 (by decide)⟩
  have ek:=zr ln;have st:∀ n∈P.sks.map Sk.nm,∃ w:Str,bL P.st n.key=some (.str w):=fun n hn=>by
   obtain⟨k,hk,rfl⟩:=mem_map.mp hn;exact ok.kn k hk
  have dl:∀ n:Nm,∀ ob xs,b_ hw (gset G z (.dF ob hw xs P.st)) (.ref z) n.d (bL P.st n.key):=fun n ob xs=>by
   unfold b_;dsimp only;rw[ax];exact⟨rfl,_,rfl,rfl⟩
  have e1:((P.sks.map Sk.nm).filter fun _=>true).map (fun n=>(bL P.st n.key).getD .non)=P.st.map (·.2):=by
   rw[List.filter_eq_self.mpr fun _ _=>rfl];have:(P.st.map (·.1)).map (fun k=>(bL P.st k).getD .non)=(P.sks.map fun k=>k.nm.key).map fun k=>(bL P.st k).getD .non:=by rw[ln.ks]
   rw[Nq,Nq]at this;rw[Nq];refine this.symm.trans (Ot fun kv hkv=>?_);show (bL P.st kv.1).getD .non=kv.2
   rw[xU ln.nd kv hkv];rfl
  have pv:pl 8 (.lst (P.st.map (·.2))):=fun e he=>by
   obtain⟨kv,hkv,rfl⟩:=mem_map.mp he;obtain⟨w,hw0⟩:=ln.tx _ _ (xU ln.nd kv hkv);rw[hw0];trivial
  have e2:((P.sks.map Sk.nm).filter fun n=>dC ((bL P.st n.key).getD .non) (.str (MW "waits")))=P.wai:=by
   rw[List.filter_map];rfl
  have e3:((P.sks.map Sk.nm).filter fun n=>!dC ((bL P.st n.key).getD .non) (.str (MW "wiped")))=P.unw:=by
   rw[List.filter_map];rfl
  have ix:∀ {i j:Nat} {σ:dO} {n:Nm} {ob xs} {K:jh} {w:Str},σ[i]?=some (some (.ref z))->σ[j]?=some (some n.d)->bL P.st n.key=some (.str w)->K (.str w) (gset G z (.dF ob hw xs P.st))->nK hw (ae i) (ae j) σ (gset G z (.dF ob hw xs P.st)) K:=fun {i j σ n ob xs K w} h1 h2 h3 h4=>by
   unfold nK ae;rw[h1,h2];exact⟨_,h3 ▸ dl n ob xs,h4⟩
  unfold mM;rw[ag];refine aY false (fun K hK=>?_) (iteF ?_)
  ·unfold br cF;refine uI gz ek rfl (fun _=>true) (fun n=>(bL P.st n.key).getD .non) (fun n _ ob xs K hK=>hK) (fun n hn ob xs K hK=>?_) (fun n hn=>?_) ?_
   ·obtain⟨w,hw0⟩:=st n hn;rw[hw0]at hK;have pa':=pa.put (o:=.dF ob hw xs P.st) nz;have g1':=pa'.1;have ed:n.d=.tup [.str n.1,.int n.2]:=rfl;rw[ed];clear h;walk_at "st";exact⟨P,d,s,g,w,⟨pa',hw0⟩,hK⟩
   ·obtain⟨w,hw0⟩:=st n hn;rw[hw0];rfl
   ·refine⟨hw,P.st,gz,?_⟩;rw[e1];refine⟨pv,pv,?_⟩;show K (!dC (.lst (P.st.map (·.2))) (.lst (P.st.map (·.2)))) G
    rw[a_];exact hK
  ·simp only[cv];rw[ag];have pw:pl 8 (.lst (P.wai.map Nm.d)):=EM P.wai;have ul:P.unw.length<=900000:=by
    have:P.unw.length<=P.sks.length:=by
     unfold Pp.unw;rw[MY];exact N7 _ _
    omega
   refine aY false (fun K hK=>?_) (iteF ?_)
   ·unfold br cF;refine xx rfl g1 ⟨P,d,s,g,⟨pa,ok⟩,?_⟩;refine uI gz ek rfl (fun n=>dC ((bL P.st n.key).getD .non) (.str (MW "waits"))) Nm.d (fun n hn ob xs K hK=>?_) (fun n hn ob xs K hK=>hK) (fun _ _=>rfl) ?_
    ·obtain⟨w,hw0⟩:=st n hn;rw[hw0]at hK;exact ix rfl rfl hw0 ⟨True.intro,True.intro,hK⟩
    ·rw[e2];refine⟨pw,pw,?_⟩;show K (!dC (.lst (P.wai.map Nm.d)) (.lst (P.wai.map Nm.d))) G
     rw[a_];exact hK
   ·simp only[cv];rw[ag];unfold bK;refine uI gz ek rfl (fun n=>!dC ((bL P.st n.key).getD .non) (.str (MW "wiped"))) Nm.d (fun n hn ob xs K hK=>?_) (fun n hn ob xs K hK=>hK) (fun _ _=>rfl) ?_
    ·obtain⟨w,hw0⟩:=st n hn;rw[hw0]at hK;unfold br cF;exact ix rfl rfl hw0 ⟨True.intro,True.intro,hK⟩
    ·rw[e3];clear e1 e2 e3 ix dl st ek pw pv;dsimp only;rw[ag];refine BB (b:=false) (fun K hK=>?_) fun G2 E2=>iteF ?_
     ·unfold br cF;refine xx rfl g1 ⟨P,d,s,g,⟨pa,ok⟩,fun out G1 E1 so=>?_⟩;have pa1:=pa.ext E1;have k1:=pa1.1;walk_at "s1";refine⟨P,d,s,g,⟨pa1,ls⟩,fun q hq=>⟨P.sks,P.sks,P.unw,⟨rfl,by walk_at "o",l6 ok.ap,by walk_at "o",by walk_at "o",fun k hk=>hk,sk,rfl,ul⟩,fun o2 G2 E2 s2 m2=>⟨yM _,yM _,?_⟩⟩⟩
      rw[sH (P:=P) ⟨s2,m2⟩ so];show K (!dC (.lst ((P.seats out).map Seat.d)) (.lst ((P.seats out).map Seat.d))) G2
      rw[a_];exact hK _ (E1.trans ((gv.refl.gset hq).trans E2))
     ·have pa2:=pa.ext E2;have k2:=pa2.1;simp only[cv];unfold aT cF;refine xx rfl k2 ⟨P,d,s,g,⟨pa2,ok⟩,fun out G3 E3 so=>?_⟩;have pa3:=pa2.ext E3;have k3:=pa3.1;clear g1 pa k2 pa2;walk_at "s1";refine⟨P,d,s,g,⟨pa3,ls⟩,fun q hq=>⟨P.sks,P.sks,P.unw,⟨rfl,by walk_at "o",l6 ok.ap,by walk_at "o",by walk_at "o",fun k hk=>hk,sk,rfl,ul⟩,fun o2 G4 E4 s2 m2=>⟨vT _,vT _,?_⟩⟩⟩
      rw[sH (P:=P) ⟨s2,m2⟩ so];have q:=h G4 (E2.trans (E3.trans ((gv.refl.gset hq).trans E4)));rw[<- a_ (.lst ((P.seats out).map Seat.d3))]at q;exact q
 ·exact h.elim
theorem CQ{P:Pp}{n:Nat}{pen:Str}{k:Sk}(ok:P.ok n)(ln:P.lined)(nx:P.next pen k):k.nm.key∉P.st.map (·.1):=fun h=>by
 rw[ln.ks]at h;obtain⟨s,hs,e⟩:=mem_map.mp h;obtain⟨rfl,e2,_⟩:=nx;have e':[(.inr s.pen:aB),.inl s.num]=[.inr k.pen,.inl k.num]:=e;have z1:s.pen=k.pen:=by injection e' with a b;injection a
 have z2:s.num=k.num:=by injection e' with a b;injection b with a b;injection a
 obtain⟨m,hm,le⟩:=ok.gm s hs;rw[z1]at hm;have:=AR hm;omega
theorem CN{P:Pp}{n:Nat}{pen:Str}{k:Sk}(ok:P.ok n)(ln:P.lined)(nx:P.next pen k):(P.add k).lined:=by
 have fr:=CQ ok ln nx;refine⟨?_,h_ _ _ ln.nd,fun q v hv=>?_⟩
 ·show (bg P.st k.nm.key _).map (·.1)=(P.sks ++ [k]).map _;rw[qe,if_neg fr,ln.ks,NP];rfl
 ·have hv':bL (bg P.st k.nm.key (.str (MW "waits"))) q=some v:=hv;rw[fP]at hv';split at hv'
  ·cases hv';exact⟨_,rfl⟩
  ·exact ln.tx _ _ hv'
theorem GH{st:List (List aB×D)}{k:List aB}{v:D}(h:bL st k=some v):k∈st.map (·.1):=by
 unfold bL at h;cases e:st.find? (fun kv=>decide (kv.1=k)) with
 | none=>rw[e]at h;cases h
 | some kv=>exact mem_map.mpr ⟨kv,List.mem_of_find?_eq_some e,of_decide_eq_true (List.find?_some (p:=fun kv:List aB×D=>decide (kv.1=k)) e)⟩
theorem CM{P:Pp}{q:List aB}{w v:Str}(ln:P.lined)(h:bL P.st q=some (.str v)):(P.dec q w).lined:=by
 refine⟨?_,h_ _ _ ln.nd,fun q' v' hv=>?_⟩
 ·show (bg P.st q _).map (·.1)=P.sks.map _;rw[qe,if_pos (GH h),ln.ks]
 ·have hv':bL (bg P.st q (.str w)) q'=some v':=hv;rw[fP]at hv';split at hv'
  ·cases hv';exact⟨_,rfl⟩
  ·exact ln.tx _ _ hv'
structure Sd(C:MT)(hw0:List aB->Int)(G:Gp)(p d s g z:MT)(x:Str)(P:Pp)(n:Nat):Prop where
 pa:gc C hw0 G p d s g P
 ok:P.ok n
 old:P.old=x
 ln:P.lined
 gz:G z=some (.dT hw0 P.st)
 nz:z∉[p,d,s,g]
theorem Sd.ext(h:Sd C hw0 G p d s g z x P n)(e:gv G G'):Sd C hw0 G' p d s g z x P n:=⟨h.pa.ext e,h.ok,h.old,h.ln,e _ _ h.gz,h.nz⟩
theorem Sd.dec{C:MT}{hw0:List aB->Int}{G G':Gp}{p d s g z:MT}{x w:Str}{P P':Pp}{n:Nat}{q:List aB}(h:Sd C hw0 G p d s g z x P n)(e:P'=P\/(bL P.st q=some (.str (MW "waits"))/\P'=P.dec q w))(pa:gc C hw0 G' p d s g P')(gz:G' z=some (.dT hw0 P'.st)):Sd C hw0 G' p d s g z x P' n:=by
 rcases e with rfl|⟨hk,rfl⟩
 ·exact⟨pa,h.ok,h.old,h.ln,gz,h.nz⟩
 ·exact⟨pa,(Jr hk).2.2.2.2 n h.ok,h.old,CM h.ln hk,gz,h.nz⟩
theorem J6:∀ {xs:List Int},(xs.length:Int)=7->∃ a b c d e f g,xs=[a,b,c,d,e,f,g]
 | [a,b,c,d,e,f,g],_=>⟨a,b,c,d,e,f,g,rfl⟩
 | [],h=>by cases h
 | [_],h=>by cases h
 | [_,_],h=>by cases h
 | [_,_,_],h=>by cases h
 | [_,_,_,_],h=>by cases h
 | [_,_,_,_,_],h=>by cases h
 | [_,_,_,_,_,_],h=>by cases h
 | _::_::_::_::_::_::_::_::_,h=>by simp only[Nc]at h;omega
theorem DR{hw0:HW}{SD:cG}{E:Ends3}{σ:dO}{G:Gp}{p z:MT}{XS:List D}{w:Str}(h3:σ[3]?=some (some (.ref p)))(h4:σ[4]?=some (some (.ref z)))(h6:σ[6]?=some (some (.lst XS)))(h:SD [.ref p,.lst XS] G fun i G3=>iE hw0 (val (.ref z)) (val i) (val (.str w)) G3 fun G4=>E.nx σ G4):de hw0 (ae 4) (aJ SD [] (af (ae 3) (af (ae 6) (av)))) (eC (.str w)) E σ G:=by
 unfold de eC aJ af av ae;rw[h4,h3,h6];exact h
theorem F3(zF:Zz)(hw:HW):bM (wI zF hw) (D5 zF hw) Ai0:=by
 intro vs G Q h;unfold wI at h;split at h
 ·obtain⟨ns,rfl,hn,hq⟩:=h;have hs:=aj;unfold D5;rw[ag];walk_at "s1";refine⟨ns,⟨rfl,by decide⟩,fun c=>?_⟩
  rw[ag];walk_at "s1";refine⟨by decide,le_trans (by decide +kernel) hs,?_⟩
  obtain⟨x,lx,ex⟩:∃ x:Str,x.length<=40/\(⟨(pA (MW "an old\npaper").cps.toList none (some (c % 13))).toArray⟩:Str)=x:=⟨_,by
   rw[Hd (by walk_at "o")]
   show (List.take _ _).toArray.size<=40
   rw[M8,NQ];have:(MW "an old\npaper").cps.toList.length=12:=by decide +kernel
   omega,rfl⟩
  rw[ex];clear ex;rw[ag];walk_at "s1";intro p hp d s g G1 of pa;clear hp of;rw[ag];walk_at "s1";intro z hz;have S0:Sd zF.C_Paper hw (gset G1 z (.dT hw [])) p d s g z x ⟨x,[],[],[],0⟩ 0:=⟨pa.off hz,⟨lx,le_refl _,le_refl _,le_refl _,(fun _ h=>by cases h),List.Pairwise.nil,(fun _ h=>by cases h),(fun _ _ h=>by cases h),(fun _ h=>by cases h)⟩,rfl,⟨rfl,Ql,fun _ _ h=>by cases h⟩,ax,fun m=>by
   simp only[NH,NO,or_false]at m;rcases m with rfl|rfl|rfl|rfl
   ·rw[pa.1]at hz;cases hz
   ·rw[pa.2.1]at hz;cases hz
   ·rw[pa.2.2.1]at hz;cases hz
   ·rw[pa.2.2.2]at hz;cases hz⟩
  generalize gset G1 z (.dT hw [])=G2 at S0;clear pa hz;rw[ag];walk_at "s1";refine⟨fun i σ' G'=>∃ (a1 a2 a3 a4 a5:Option D) (P:Pp),σ'=[some (.lst (ns.map D.int)),some (.int c),some (.str x),some (.ref p),some (.ref z),a1,a2,a3,a4,a5]/\Sd zF.C_Paper hw G' p d s g z x P i,⟨none,none,none,none,none,_,rfl,S0⟩,?_,?_⟩
  ·clear S0
   rintro i dd σ' G' hd ⟨a1,a2,a3,a4,a5,P,rfl,S⟩
   obtain⟨y,rfl,hi⟩:∃ y:Int,dd=.int y/\i < 20:=by
    rw[uF (by decide) (by decide),<- List.map_drop,<- List.map_take]at hd
    obtain⟨y,_,e⟩:=mem_map.mp (Ni hd);refine⟨y,e.symm,?_⟩;have:=(List.getElem?_eq_some_iff.mp hd).1;rw[MY,NQ]at this;exact Nl this (Nat.min_le_left _ _)
   clear hd;walk_at "s1";unfold D7;rw[ag];walk_at "s1";refine⟨by decide,fun xs hx hb=>?_⟩
   obtain⟨x0,x1,x2,x3,x4,x5,x6,rfl⟩:=J6 hx;clear hx hb;simp only[Nk,PF];have at5:iI [D.int x0,D.int x1,D.int x2,D.int x3,D.int x4,D.int x5,D.int x6] 5=some (.int x5):=rfl;have at6:iI [D.int x0,D.int x1,D.int x2,D.int x3,D.int x4,D.int x5,D.int x6] 6=some (.int x6):=rfl;have at4:iI [D.int x0,D.int x1,D.int x2,D.int x3,D.int x4,D.int x5,D.int x6] 4=some (.int x4):=rfl;have at3:iI [D.int x0,D.int x1,D.int x2,D.int x3,D.int x4,D.int x5,D.int x6] 3=some (.int x3):=rfl;generalize hX:[D.int x0,D.int x1,D.int x2,D.int x3,D.int x4,D.int x5,D.int x6]=XS at *
   refine nh (NX:=fun σ' G'=>∃ (a3 a4 a5:Option D) (P:Pp),σ'=[some (.lst (ns.map D.int)),some (.int c),some (.str x),some (.ref p),some (.ref z),some (.int y),some (.lst XS),a3,a4,a5]/\Sd zF.C_Paper hw G' p d s g z x P (i+1)) ?_ fun NX hNX=>?_
   ·rintro σ' G' ⟨a3,a4,a5,P,rfl,S⟩
    walk_at "s1";exact⟨P,d,s,g,⟨S.pa,S.ok.le (by walk_at "o"),S.old,S.ln,S.gz,S.nz⟩,fun G3 e3=>⟨_,_,_,_,_,P,⟨rfl,rfl,rfl,rfl,rfl⟩,S.ext e3⟩⟩
   ·refine BB (b:=decide (x5 % 16 < 8) || P.st.isEmpty) (fun K hK=>?_) fun G2 E2=>?_
    ·unfold As;walk_at "s1";refine⟨by decide,?_⟩
     by_cases e5:x5 % 16 < 8
     ·rw[if_pos e5];have:=hK G' gv.refl;rw[decide_eq_true e5,Bool.true_or]at this;exact this
     ·rw[if_neg e5];intro q hq';refine⟨hw,hw,P.st,(ai fun e=>by rw[<- e,S.gz]at hq';cases hq').trans S.gz,rfl,?_⟩
      have:=hK (gset G' q (.dT hw [])) (gv.refl.gset hq');rw[decide_eq_false e5,Bool.false_or]at this;exact this
    ·have S:=S.ext E2;clear E2;refine zJ (fun e=>?_) fun e=>?_
     ·refine DR rfl rfl rfl ⟨P,d,s,g,x0,x1,x2,x3,x4,x5,x6,⟨S.pa,S.ok.le (by walk_at "o"),hX.symm⟩,fun pen k G3 nx wd of pt=>?_⟩
      have gz3:=of z _ S.nz S.gz;have l0:=S.ok.lt;unfold iE val;dsimp only;rw[gz3];exact⟨rfl,_,rfl,by walk_at "o",hNX _ _ ⟨a3,a4,a5,P.add k,rfl,pt.put S.nz,IQ S.ok nx wd,S.old,CN S.ok S.ln nx,ax,S.nz⟩⟩
     ·have gz:=S.gz;have g1:=S.pa.1;have l0:=S.ok.lt;clear e;rw[ag];walk_at "s1";refine⟨hw,P.st,rfl,⟨by decide,by decide,by decide⟩,by decide,by walk_at "o",by walk_at "o",by walk_at "o",by rw[MY];omega,?_⟩
      have eN:P.st.map o_ ++ [D.tup [D.str (MW "bob"),D.int (10 ^ Int.toNat 9+x6 % 9)],D.tup [D.str (MW "zoe"),D.int 1]]=(P.sks.map Sk.nm ++ [(MW "bob",10 ^ Int.toNat 9+x6 % 9),(MW "zoe",1)]).map Nm.d:=by rw[NP,<- zr S.ln];rfl
      rw[eN];have nn:(P.sks.map Sk.nm ++ [(MW "bob",10 ^ Int.toNat 9+x6 % 9),(MW "zoe",1)]).length=P.sks.length+2:=by rw[NJ,MY];rfl
      generalize P.sks.map Sk.nm ++ [(MW "bob",10 ^ Int.toNat 9+x6 % 9),(MW "zoe",1)]=NL at nn ⊢;have ls:=S.ok.ls;have n1:0 < NL.length/\NL.length<=60:=by walk_at "o"
      clear nn;have i0:=Int.emod_nonneg x6 (b:=(NL.length:Int)) (by walk_at "o")
      have i1:=Int.emod_lt_of_pos x6 (b:=(NL.length:Int)) (by walk_at "o")
      obtain⟨n0,an⟩:∃ n:Nm,iI (NL.map Nm.d) (x6 % (NL.length:Int))=some n.d:=⟨_,Bg i0 i1⟩;have ln:(NL.map Nm.d).length=NL.length:=MY _;clear eN;have ed:n0.d=Nt n0.1 n0.2:=rfl;rw[ed]at an;generalize n0.1=na at an;generalize n0.2=nb at an;rw[ag];walk_at "s1";refine⟨by walk_at "o",?_⟩
      have wl:=FM P;rw[ag];walk_at "s1";refine⟨P,d,s,g,⟨S.pa,S.ok.le (by walk_at "o")⟩,?_⟩
      obtain⟨w,aw,sw⟩:∃ w:Str,iI [D.str (MW "stands"),D.str (MW "wiped")] (x3 % 2)=some (.str w)/\Sw w:=by
       have h:x3 % 2=0\/x3 % 2=1:=by walk_at "o"
       rcases h with h|h<;>rw[h]
       ·exact⟨_,rfl,.inl rfl⟩
       ·exact⟨_,rfl,.inr rfl⟩
      refine nh (NX:=fun σ' G'=>∃ a b,σ'=[some (.lst (ns.map D.int)),some (.int c),some (.str x),some (.ref p),some (.ref z),some (.int y),some (.lst XS),some (.lst (NL.map Nm.d)),some (Nt a b),some (.lst (P.wai.map Nm.d))]/\G'=G2) ?_ fun NX' Ta=>?_
      ·rintro σ' G' ⟨a,b,rfl,rfl⟩
       clear an i0 i1 ln wl at4 at5 at6 g1 gz;walk_at "s1";refine⟨by walk_at "o",by decide,P,d,s,g,⟨S.pa,S.gz,S.nz,by walk_at "o",S.ln.tx⟩,fun P' G' e pa' gz'=>?_⟩
       have S':=S.dec e pa' gz';exact hNX _ _ ⟨_,_,_,P',rfl,S'.pa,S'.ok.le (QA i),S'.old,S'.ln,S'.gz,S'.nz⟩
      ·have pw:pl 8 (.lst (P.wai.map Nm.d)):=EM _;refine aY (decide (0 < x4 % 3) && !dC (.lst (P.wai.map Nm.d)) (.lst [])) (Bx _ _ (fun K hK=>?_) fun _ K hK=>?_) (zJ (fun e=>?_) fun _=>Ta _ _ ⟨_,_,rfl,rfl⟩)
       ·clear hNX Ta S;walk_at "st";decide
       ·clear hNX Ta S;walk_at "st";exact⟨N0 _,pw,fun d hd=>by cases hd⟩
       ·have w0:0 < P.wai.length:=by
         rcases Nat.eq_zero_or_pos P.wai.length with q|q
         ·rw[length_eq_zero_iff.mp q,PF,a_,Bool.not_true,Bool.and_false]at e;cases e
         ·exact q
        have j0:=Int.emod_nonneg x6 (b:=(P.wai.length:Int)) (by walk_at "o")
        have j1:=Int.emod_lt_of_pos x6 (b:=(P.wai.length:Int)) (by walk_at "o")
        obtain⟨n2,an2⟩:∃ n:Nm,iI (P.wai.map Nm.d) (x6 % (P.wai.length:Int))=some n.d:=⟨_,Bg j0 j1⟩;have ed2:n2.d=Nt n2.1 n2.2:=rfl;rw[ed2]at an2;have lw:(P.wai.map Nm.d).length=P.wai.length:=MY _;clear e hNX S an;walk_at "s1";exact⟨by walk_at "o",Ta _ _ ⟨_,_,rfl,rfl⟩⟩
  ·rintro σ' G' ⟨a1,a2,a3,a4,a5,P,rfl,S⟩
   have l0:P.st.length<=50:=le_trans S.ok.lt (by
    rw[uF (by decide) (by decide),NQ]
    exact le_trans (Nat.min_le_left _ _) (by decide))
   walk_at "s1";exact⟨by decide,P,d,s,g,⟨S.pa,S.gz,S.nz,l0,S.ln.tx,.inr rfl⟩,fun P' G' _ _ _=>True.intro⟩
 ·exact h.elim
section
variable{zF:Zz}{hw:List aB->Int}
theorem qm:bA (cL zF hw) 2:=fun _ _ _ h=>by unfold cL at h;walk_at "l"
theorem rZ:bA (da zF hw) 2:=fun _ _ _ h=>by unfold da at h;walk_at "l"
theorem t7:bA (cW zF hw) 3:=fun _ _ _ h=>by unfold cW at h;walk_at "l"
theorem tZ:bA (cw zF hw) 2:=fun _ _ _ h=>by unfold cw at h;walk_at "l"
theorem vi:bA (du zF hw) 1:=fun _ _ _ h=>by unfold du at h;walk_at "l"
theorem nF:bA (bf zF hw) 1:=fun _ _ _ h=>by unfold bf at h;walk_at "l"
theorem xB:bA (dQ zF hw) 1:=fun _ _ _ h=>by unfold dQ at h;walk_at "l"
theorem mn:bA (aQ zF hw) 3:=fun _ _ _ h=>by unfold aQ at h;walk_at "l"
theorem qp:bA (cm zF hw) 5:=fun _ _ _ h=>by unfold cm at h;walk_at "l"
theorem mq:bA (bu zF hw) 4:=fun _ _ _ h=>by unfold bu at h;walk_at "l"
theorem nI:bA (ce zF hw) 5:=fun _ _ _ h=>by unfold ce at h;walk_at "l"
theorem o8:bA (bW zF hw) 5:=fun _ _ _ h=>by unfold bW at h;walk_at "l"
theorem vh:bA (dq zF hw) 1:=fun _ _ _ h=>by unfold dq at h;walk_at "l"
theorem zx:bA (fH zF hw) 1:=fun _ _ _ h=>by unfold fH at h;walk_at "l"
theorem qo:bA (az zF hw) 1:=fun _ _ _ h=>by unfold az at h;walk_at "l"
theorem vp:bA (bC zF hw) 1:=fun _ _ _ h=>by unfold bC at h;walk_at "l"
theorem ug:bA (bn zF hw) 1:=fun _ _ _ h=>by unfold bn at h;walk_at "l"
theorem xA:bA (eV zF hw) 2:=fun _ _ _ h=>by unfold eV at h;walk_at "l"
theorem AX:bA (fG zF hw) 1:=fun _ _ _ h=>by unfold fG at h;walk_at "l"
theorem vj:bA (d_ zF hw) 2:=fun _ _ _ h=>by unfold d_ at h;walk_at "l"
theorem vk:bA (ee zF hw) 3:=fun _ _ _ h=>by unfold ee at h;walk_at "l"
theorem oX:bA (cA zF hw) 2:=fun _ _ _ h=>by unfold cA at h;walk_at "l"
theorem nG:bA (ao zF hw) 1:=fun _ _ _ h=>by unfold ao at h;walk_at "l"
theorem qj:bA (cJ zF hw) 1:=fun _ _ _ h=>by unfold cJ at h;walk_at "l"
theorem rY:bA (c_ zF hw) 1:=fun _ _ _ h=>by unfold c_ at h;walk_at "l"
theorem tY:bA (dG zF hw) 1:=fun _ _ _ h=>by unfold dG at h;walk_at "l"
theorem AW:bA (eW zF hw) 3:=fun _ _ _ h=>by unfold eW at h;walk_at "l"
theorem zw:bA (eR zF hw) 3:=fun _ _ _ h=>by unfold eR at h;walk_at "l"
theorem o6:bA (bT zF hw) 1:=fun _ _ _ h=>by unfold bT at h;walk_at "l"
theorem ud:bA (cZ zF hw) 1:=fun _ _ _ h=>by unfold cZ at h;walk_at "l"
theorem vm:bA (dw zF hw) 2:=fun _ _ _ h=>by unfold dw at h;walk_at "l"
theorem vn:bA (dy zF hw) 2:=fun _ _ _ h=>by unfold dy at h;walk_at "l"
theorem r0:bA (bE zF hw) 1:=fun _ _ _ h=>by unfold bE at h;walk_at "l"
theorem zy:bA (dR zF hw) 1:=fun _ _ _ h=>by unfold dR at h;walk_at "l"
theorem ub:bA (cx zF hw) 1:=fun _ _ _ h=>by unfold cx at h;walk_at "l"
theorem vt:bA (cO zF hw) 1:=fun _ _ _ h=>by unfold cO at h;walk_at "l"
theorem xC:bA (dk zF hw) 1:=fun _ _ _ h=>by unfold dk at h;walk_at "l"
theorem uf:bA (cy zF hw) 2:=fun _ _ _ h=>by unfold cy at h;walk_at "l"
theorem kE:bA (aP zF hw) 2:=fun _ _ _ h=>by unfold aP at h;walk_at "l"
theorem kC:bA (aO zF hw) 1:=fun _ _ _ h=>by unfold aO at h;walk_at "l"
theorem vq:bA (eg zF hw) 4:=fun _ _ _ h=>by unfold eg at h;walk_at "l"
theorem oZ:bA (bR zF hw) 3:=fun _ _ _ h=>by unfold bR at h;walk_at "l"
theorem oY:bA (bQ zF hw) 3:=fun _ _ _ h=>by unfold bQ at h;walk_at "l"
theorem qr:bA (cM zF hw) 4:=fun _ _ _ h=>by unfold cM at h;walk_at "l"
theorem ue:bA (dI zF hw) 5:=fun _ _ _ h=>by unfold dI at h;walk_at "l"
theorem vo:bA (ef zF hw) 2:=fun _ _ _ h=>by unfold ef at h;walk_at "l"
theorem kH:bA (bx zF hw) 2:=fun _ _ _ h=>by unfold bx at h;walk_at "l"
theorem j9:bA (bD zF hw) 2:=fun _ _ _ h=>by unfold bD at h;walk_at "l"
theorem kF:bA (aX zF hw) 2:=fun _ _ _ h=>by unfold aX at h;walk_at "l"
theorem mr:bA (bV zF hw) 2:=fun _ _ _ h=>by unfold bV at h;walk_at "l"
theorem uc:bA (cY zF hw) 2:=fun _ _ _ h=>by unfold cY at h;walk_at "l"
theorem t_:bA (cX zF hw) 3:=fun _ _ _ h=>by unfold cX at h;walk_at "l"
theorem ql:bA (cK zF hw) 2:=fun _ _ _ h=>by unfold cK at h;walk_at "l"
theorem qk:bA (ck zF hw) 4:=fun _ _ _ h=>by unfold ck at h;walk_at "l"
theorem lF:bA (bI zF hw) 2:=fun _ _ _ h=>by unfold bI at h;walk_at "l"
theorem o0:bA (bS zF hw) 1:=fun _ _ _ h=>by unfold bS at h;walk_at "l"
theorem o7:bA (bU zF hw) 1:=fun _ _ _ h=>by unfold bU at h;walk_at "l"
theorem t9:bA (dH zF hw) 3:=fun _ _ _ h=>by unfold dH at h;walk_at "l"
theorem nH:bA (cb zF hw) 2:=fun _ _ _ h=>by unfold cb at h;walk_at "l"
theorem GM:bA (wI zF hw) 1:=fun _ _ _ h=>by unfold wI at h;walk_at "l"
end
structure Tx(K:Po)(mg:Str->Option MS)(zF:Zz)(Sv:MT)(Sy:MT)(Ss:MT)(Su:MT)(Sx:MT):Prop where
 fa_anchor:∀ C∈zF.F,Cls K C/\cH K C "anchor"
 fa_name:∀ C∈zF.F,Cls K C/\cH K C "name"
 fa_names:∀ C∈zF.F,Cls K C/\cH K C "names"
 fa_signs:∀ C∈zF.F,Cls K C/\cH K C "signs"
 fa_time:∀ C∈zF.F,Cls K C/\cH K C "time"
 fa_word:∀ C∈zF.F,Cls K C/\cH K C "word"
 cl_Stroke:Cls K zF.Z1
 cl_Put:Cls K zF.Z2
 cl_Strike:Cls K zF.Z3
 cl_Dress:Cls K zF.Z4
 cl_Move:Cls K zF.Z5
 cl_Paper:Cls K zF.C_Paper
 na_Paper_old:cH K zF.C_Paper "old"
 na_Paper_drawn:cH K zF.C_Paper "drawn"
 na_Paper_states:cH K zF.C_Paper "states"
 na_Paper_greatest:cH K zF.C_Paper "greatest"
 na_Paper_time:cH K zF.C_Paper "time"
 b_ValueError:mg "ValueError"=none
 b_all:mg "all"=none
 b_dict:mg "dict"=none
 b_isinstance:mg "isinstance"=none
 b_len:mg "len"=none
 b_list:mg "list"=none
 b_min:mg "min"=none
 b_range:mg "range"=none
 b_set:mg "set"=none
 b_sorted:mg "sorted"=none
 b_tuple:mg "tuple"=none
 b_zip:mg "zip"=none
 k_STANDS:jL K mg "STANDS" k_STANDS
 k_START:jL K mg "START" k_START
 k_WAITS:jL K mg "WAITS" k_WAITS
 k_WIPED:jL K mg "WIPED" k_WIPED
 xm_QuillError:mg "QuillError"=some (.ref Sv)
 xm_OutOfPlace:mg "OutOfPlace"=some (.ref Sy)
 xm_NoStroke:mg "NoStroke"=some (.ref Ss)
 xm_Decided:mg "Decided"=some (.ref Su)
 xm_NotYours:mg "NotYours"=some (.ref Sx)
 xa_NoStroke:XAsk K Ss "stroke"
 xe_NoStroke_Decided:UD K (.ref Ss) (.ref Su)=some false
 xe_NoStroke_NoStroke:UD K (.ref Ss) (.ref Ss)=some true
 xe_NoStroke_QuillError:UD K (.ref Ss) (.ref Sv)=some true
 xa_Decided:XAsk K Su "stroke"
 xe_Decided_Decided:UD K (.ref Su) (.ref Su)=some true
 xe_Decided_NoStroke:UD K (.ref Su) (.ref Ss)=some false
 xe_Decided_QuillError:UD K (.ref Su) (.ref Sv)=some true
 xk_NoStroke_Decided:ST K (.ref Ss) (.ref Su)=some false
 xk_NoStroke_NoStroke:ST K (.ref Ss) (.ref Ss)=some true
 xk_NoStroke_NotYours:ST K (.ref Ss) (.ref Sx)=some false
 xk_NoStroke_ValueError:ST K (.ref Ss) (.type "ValueError")=some true
 xk_Decided_Decided:ST K (.ref Su) (.ref Su)=some true
 xk_Decided_NoStroke:ST K (.ref Su) (.ref Ss)=some false
 xk_Decided_NotYours:ST K (.ref Su) (.ref Sx)=some false
 xk_Decided_ValueError:ST K (.ref Su) (.type "ValueError")=some true
 xm_Dress:mg "Dress"=some (.ref zF.Z4)
 ik_Dress:∀ p∈([(zF.Z1,false),(zF.Z2,false),(zF.Z3,false),(zF.Z4,true),(zF.Z5,false)]:List (MT×Bool)),InsAsk K p.1/\ST K (.ref p.1) (.ref zF.Z4)=some p.2
 xm_Move:mg "Move"=some (.ref zF.Z5)
 ik_Move:∀ p∈([(zF.Z1,false),(zF.Z2,false),(zF.Z3,false),(zF.Z4,false),(zF.Z5,true)]:List (MT×Bool)),InsAsk K p.1/\ST K (.ref p.1) (.ref zF.Z5)=some p.2
 xm_Put:mg "Put"=some (.ref zF.Z2)
 ik_Put:∀ p∈([(zF.Z1,false),(zF.Z2,true),(zF.Z3,false),(zF.Z4,false),(zF.Z5,false)]:List (MT×Bool)),InsAsk K p.1/\ST K (.ref p.1) (.ref zF.Z2)=some p.2
 xm_Strike:mg "Strike"=some (.ref zF.Z3)
 ik_Strike:∀ p∈([(zF.Z1,false),(zF.Z2,false),(zF.Z3,true),(zF.Z4,false),(zF.Z5,false)]:List (MT×Bool)),InsAsk K p.1/\ST K (.ref p.1) (.ref zF.Z3)=some p.2
theorem Lz{α:Type}:∀ {us:List α},us.length=1->∃ a0,us=[a0]
 | [a0],_=>⟨a0,rfl⟩
theorem Ib{α:Type}:∀ {us:List α},us.length=2->∃ a0 a1,us=[a0,a1]
 | [a0,a1],_=>⟨a0,a1,rfl⟩
theorem Ly{α:Type}:∀ {us:List α},us.length=3->∃ a0 a1 a2,us=[a0,a1,a2]
 | [a0,a1,a2],_=>⟨a0,a1,a2,rfl⟩
theorem Lx{α:Type}:∀ {us:List α},us.length=4->∃ a0 a1 a2 a3,us=[a0,a1,a2,a3]
 | [a0,a1,a2,a3],_=>⟨a0,a1,a2,a3,rfl⟩
theorem Lw{α:Type}:∀ {us:List α},us.length=5->∃ a0 a1 a2 a3 a4,us=[a0,a1,a2,a3,a4]
 | [a0,a1,a2,a3,a4],_=>⟨a0,a1,a2,a3,a4,rfl⟩
theorem jD(zF:Zz)(hw:List aB->Int)(Ss:MT)(Su:MT):∀ ds G Q EQ,bj zF hw Ss Su ds G Q EQ->ds.length=2:=by
 intro ds G Q EQ h;unfold bj at h;split at h
 all_goals first|rfl|exact h.elim
theorem qi(zF:Zz)(hw:List aB->Int)(Ss:MT)(Su:MT):∀ ds G Q EQ,cI zF hw Ss Su ds G Q EQ->ds.length=2:=by
 intro ds G Q EQ h;unfold cI at h;split at h
 all_goals first|rfl|exact h.elim
theorem jC(zF:Zz)(hw:List aB->Int)(Ss:MT)(Su:MT):∀ ds G Q EQ,bh zF hw Ss Su ds G Q EQ->ds.length=2:=by
 intro ds G Q EQ h;unfold bh at h;split at h
 all_goals first|rfl|exact h.elim
theorem lE(zF:Zz)(hw:List aB->Int)(Ss:MT)(Su:MT):∀ ds G Q EQ,cr zF hw Ss Su ds G Q EQ->ds.length=2:=by
 intro ds G Q EQ h;unfold cr at h;split at h
 all_goals first|rfl|exact h.elim
theorem rX(zF:Zz)(hw:List aB->Int)(Ss:MT)(Su:MT):∀ ds G Q EQ,c9 zF hw Ss Su ds G Q EQ->ds.length=2:=by
 intro ds G Q EQ h;unfold c9 at h;split at h
 all_goals first|rfl|exact h.elim
theorem kB(zF:Zz)(hw:List aB->Int)(Ss:MT)(Su:MT):∀ ds G Q EQ,bw zF hw Ss Su ds G Q EQ->ds.length=2:=by
 intro ds G Q EQ h;unfold bw at h;split at h
 all_goals first|rfl|exact h.elim
local macro_rules | `(tactic| walk_at "b") => `(tactic| (intro _ _ _ _ _ _ us hl; first | (obtain ⟨_, e⟩ := Lz hl; subst e; rfl) | (obtain ⟨_, _, e⟩ := Ib hl; subst e; rfl) | (obtain ⟨_, _, _, e⟩ := Ly hl; subst e; rfl) | (obtain ⟨_, _, _, _, e⟩ := Lx hl; subst e; rfl) | (obtain ⟨_, _, _, _, _, e⟩ := Lw hl; subst e; rfl)))
structure Ev(K:Po)(h:Nf)(mg:Str->Option MS)(Z1 Z2 Z3 Z4 Z5 C_Paper Sv Sy Ss Su Sx e0f e0N e1f e1N ka1:MT)(ks1:Array (Option MS))(TH e0q:Str)(TX e0bm SZ:List MS)(TR TZ:Bool)(Tz:List Str)(S1:Option Bool)(TQ TN TM TL TK:Option MS)(e0cls:QI)(Th e1q:Str)(Tu e1bm SX:List MS)(Tq Tw:Bool)(Tc:List Str)(SY:Option Bool)(Tp To Tl Tk Tj:Option MS)(e1cls:QI)(TF TJ TV TC S8 TW:MS)(TD TY TU:Option MT)(TB:Array (Option MS))(Tg Ti Ts Te S7 Tt:MS)(Tf Tv Tr:Option MT)(Td:Array (Option MS))(kt0:Tok)(SV:Tok)(SU:Tok)(SS:Tok)(kt2:Tok)(kt3:Tok)(kz1:Nat):Prop where
 X:K.In h
 G:h.Ns Na mg
 y0:Tm K Na "Stroke"=some (some (.ref Z1))
 y1:Tm K Na "Put"=some (some (.ref Z2))
 y2:Tm K Na "Strike"=some (some (.ref Z3))
 y3:Tm K Na "Dress"=some (some (.ref Z4))
 y4:Tm K Na "Move"=some (some (.ref Z5))
 y5:Tm K Na "Paper"=some (some (.ref C_Paper))
 y6:Tm K Na "QuillError"=some (some (.ref Sv))
 y7:Tm K Na "OutOfPlace"=some (some (.ref Sy))
 y8:Tm K Na "NoStroke"=some (some (.ref Ss))
 y9:Tm K Na "Decided"=some (some (.ref Su))
 ya:Tm K Na "NotYours"=some (some (.ref Sx))
 yb:K.lookup Ss=some (RJ TH e0q Ss e0N TX e0bm TR Tz SZ TZ S1 TU TQ TN TM TL TK "ValueError.__new__")
 yc:tailIn K L2.veMro e0bm=true
 yd:e0bm.contains (.type "BaseException")=true
 ye:Qt K (.ref Ss) "__init__"=some (some (.ref e0f))
 yf:UM K (.ref e0f)=some (.type "function")
 yg:Ro K (.ref Ss)=true
 yh:Qt K (.ref Ss) "__setattr__"=some (some (.builtin "object.__setattr__"))
 yi:UP K Ss=some e0cls
 yj:e0cls.hasDict=true
 yk:∀ x,PySem.refuseLoop (.ref x) "__setattr__" e0cls.mro=pure ()
 yl:e0cls.mro.contains (.type "object")=true
 ym:e0cls.mro.isEmpty=false
 yn:UI K Ss "stroke"=some none
 yo:K.lookup e0f=some ⟨TF,TD,.func (UH "__init__" "NoStroke.__init__" (eM cu) (cT cu) (ah cu) .none TJ TV TC TY S8 TW),TB⟩
 yp:R8 K S8 "NoStroke.__init__"=true
 yq:Qt K (.ref Ss) "__getattribute__"=some (some (.builtin "BaseException.__getattribute__"))
 yr:Qt K (.ref Ss) "__getattr__"=some none
 ys:UE K Ss (.type "BaseException")=some true
 yt:UJ K Ss=true
 yu:Qt K (.ref Ss) "__class__"=some (some (.builtin "object.__class__"))
 yv:QE K (.builtin "object.__class__") "__get__"=some (some (.builtin "getset_descriptor.__get__"))
 yw:UK K (.builtin "object.__class__")=some true
 yx:UE K Ss (.type "object")=some true
 yy:Qt K (.ref Ss) "stroke"=some none
 yz:UD K (.ref Ss) (.ref Su)=some false
 y00:UD K (.ref Ss) (.ref Ss)=some true
 y01:UD K (.ref Ss) (.ref Sv)=some true
 y02:K.lookup Su=some (RJ Th e1q Su e1N Tu e1bm Tq Tc SX Tw SY Tr Tp To Tl Tk Tj "ValueError.__new__")
 y03:tailIn K L2.veMro e1bm=true
 y04:e1bm.contains (.type "BaseException")=true
 y05:Qt K (.ref Su) "__init__"=some (some (.ref e1f))
 y06:UM K (.ref e1f)=some (.type "function")
 y07:Ro K (.ref Su)=true
 y08:Qt K (.ref Su) "__setattr__"=some (some (.builtin "object.__setattr__"))
 y09:UP K Su=some e1cls
 y0a:e1cls.hasDict=true
 y0b:∀ x,PySem.refuseLoop (.ref x) "__setattr__" e1cls.mro=pure ()
 y0c:e1cls.mro.contains (.type "object")=true
 y0d:e1cls.mro.isEmpty=false
 y0e:UI K Su "stroke"=some none
 y0f:K.lookup e1f=some ⟨Tg,Tf,.func (UH "__init__" "Decided.__init__" (eM cB) (cT cB) (ah cB) .none Ti Ts Te Tv S7 Tt),Td⟩
 y0g:R8 K S7 "Decided.__init__"=true
 y0h:Qt K (.ref Su) "__getattribute__"=some (some (.builtin "BaseException.__getattribute__"))
 y0i:Qt K (.ref Su) "__getattr__"=some none
 y0j:UE K Su (.type "BaseException")=some true
 y0k:UJ K Su=true
 y0l:Qt K (.ref Su) "__class__"=some (some (.builtin "object.__class__"))
 y0m:QE K (.builtin "object.__class__") "__get__"=some (some (.builtin "getset_descriptor.__get__"))
 y0n:UK K (.builtin "object.__class__")=some true
 y0o:UE K Su (.type "object")=some true
 y0p:Qt K (.ref Su) "stroke"=some none
 y0q:UD K (.ref Su) (.ref Su)=some true
 y0r:UD K (.ref Su) (.ref Ss)=some false
 y0s:UD K (.ref Su) (.ref Sv)=some true
 y0t:ST K (.ref Ss) (.ref Su)=some false
 y0u:ST K (.ref Ss) (.ref Ss)=some true
 y0v:ST K (.ref Ss) (.ref Sx)=some false
 y0w:ST K (.ref Ss) (.type "ValueError")=some true
 y0x:ST K (.ref Su) (.ref Su)=some true
 y0y:ST K (.ref Su) (.ref Ss)=some false
 y0z:ST K (.ref Su) (.ref Sx)=some false
 y10:ST K (.ref Su) (.type "ValueError")=some true
 y11:QE K (.builtin "object.__class__") "__get__"=some (some (.builtin "getset_descriptor.__get__"))
 y12:UK K (.builtin "object.__class__")=some true
 y13:Qt K (.ref Z1) "__class__"=some (some (.builtin "object.__class__"))
 y14:UE K Z1 (.type "object")=some true
 y15:ST K (.ref Z1) (.ref Z4)=some false
 y16:ST K (.ref Z1) (.ref Z5)=some false
 y17:ST K (.ref Z1) (.ref Z2)=some false
 y18:ST K (.ref Z1) (.ref Z3)=some false
 y19:Qt K (.ref Z2) "__class__"=some (some (.builtin "object.__class__"))
 y1a:UE K Z2 (.type "object")=some true
 y1b:ST K (.ref Z2) (.ref Z4)=some false
 y1c:ST K (.ref Z2) (.ref Z5)=some false
 y1d:ST K (.ref Z2) (.ref Z2)=some true
 y1e:ST K (.ref Z2) (.ref Z3)=some false
 y1f:Qt K (.ref Z3) "__class__"=some (some (.builtin "object.__class__"))
 y1g:UE K Z3 (.type "object")=some true
 y1h:ST K (.ref Z3) (.ref Z4)=some false
 y1i:ST K (.ref Z3) (.ref Z5)=some false
 y1j:ST K (.ref Z3) (.ref Z2)=some false
 y1k:ST K (.ref Z3) (.ref Z3)=some true
 y1l:Qt K (.ref Z4) "__class__"=some (some (.builtin "object.__class__"))
 y1m:UE K Z4 (.type "object")=some true
 y1n:ST K (.ref Z4) (.ref Z4)=some true
 y1o:ST K (.ref Z4) (.ref Z5)=some false
 y1p:ST K (.ref Z4) (.ref Z2)=some false
 y1q:ST K (.ref Z4) (.ref Z3)=some false
 y1r:Qt K (.ref Z5) "__class__"=some (some (.builtin "object.__class__"))
 y1s:UE K Z5 (.type "object")=some true
 y1t:ST K (.ref Z5) (.ref Z4)=some false
 y1u:ST K (.ref Z5) (.ref Z5)=some true
 y1v:ST K (.ref Z5) (.ref Z2)=some false
 y1w:ST K (.ref Z5) (.ref Z3)=some false
 y1x:Cls K Z1
 y1y:UG K Z1=true
 y1z:Ro K (.ref Z1)=true
 y20:Qt K (.ref Z1) "anchor"=some none
 y21:Qt K (.ref Z1) "name"=some none
 y22:Qt K (.ref Z1) "names"=some none
 y23:Qt K (.ref Z1) "signs"=some none
 y24:Qt K (.ref Z1) "time"=some none
 y25:Qt K (.ref Z1) "word"=some none
 y26:Cls K Z2
 y27:UG K Z2=true
 y28:Ro K (.ref Z2)=true
 y29:Qt K (.ref Z2) "anchor"=some none
 y2a:Qt K (.ref Z2) "name"=some none
 y2b:Qt K (.ref Z2) "names"=some none
 y2c:Qt K (.ref Z2) "signs"=some none
 y2d:Qt K (.ref Z2) "time"=some none
 y2e:Qt K (.ref Z2) "word"=some none
 y2f:Cls K Z3
 y2g:UG K Z3=true
 y2h:Ro K (.ref Z3)=true
 y2i:Qt K (.ref Z3) "anchor"=some none
 y2j:Qt K (.ref Z3) "name"=some none
 y2k:Qt K (.ref Z3) "names"=some none
 y2l:Qt K (.ref Z3) "signs"=some none
 y2m:Qt K (.ref Z3) "time"=some none
 y2n:Qt K (.ref Z3) "word"=some none
 y2o:Cls K Z4
 y2p:UG K Z4=true
 y2q:Ro K (.ref Z4)=true
 y2r:Qt K (.ref Z4) "anchor"=some none
 y2s:Qt K (.ref Z4) "name"=some none
 y2t:Qt K (.ref Z4) "names"=some none
 y2u:Qt K (.ref Z4) "signs"=some none
 y2v:Qt K (.ref Z4) "time"=some none
 y2w:Qt K (.ref Z4) "word"=some none
 y2x:Cls K Z5
 y2y:UG K Z5=true
 y2z:Ro K (.ref Z5)=true
 y30:Qt K (.ref Z5) "anchor"=some none
 y31:Qt K (.ref Z5) "name"=some none
 y32:Qt K (.ref Z5) "names"=some none
 y33:Qt K (.ref Z5) "signs"=some none
 y34:Qt K (.ref Z5) "time"=some none
 y35:Qt K (.ref Z5) "word"=some none
 y36:Cls K C_Paper
 y37:UG K C_Paper=true
 y38:Ro K (.ref C_Paper)=true
 y39:Qt K (.ref C_Paper) "old"=some none
 y3a:Qt K (.ref C_Paper) "drawn"=some none
 y3b:Qt K (.ref C_Paper) "states"=some none
 y3c:Qt K (.ref C_Paper) "greatest"=some none
 y3d:Qt K (.ref C_Paper) "time"=some none
 y3e:Tm K Na "ValueError"=some none
 y3f:Tm K Na "all"=some none
 y3g:Tm K Na "dict"=some none
 y3h:Tm K Na "isinstance"=some none
 y3i:Tm K Na "len"=some none
 y3j:Tm K Na "list"=some none
 y3k:Tm K Na "min"=some none
 y3l:Tm K Na "range"=some none
 y3m:Tm K Na "set"=some none
 y3n:Tm K Na "sorted"=some none
 y3o:Tm K Na "tuple"=some none
 y3p:Tm K Na "zip"=some none
 y3q:Tm K Na "STANDS"=some (some (.str "stands" kt0))
 y3r:Tm K Na "START"=some (some (.ref ka1))
 y3s:K.lookup ka1=some ⟨.type "tuple",none,.seq #[.str "" SV,.int 0 SU,.int 0 SS] kz1,ks1⟩
 y3t:Tm K Na "WAITS"=some (some (.str "waits" kt2))
 y3u:Tm K Na "WIPED"=some (some (.str "wiped" kt3))
 y3v:FnG K "_law_cell_at" kX
 y3w:FnG K "_law_stream" mF
 y3x:FnG K "lay_behind" n8
 y3y:FnG K "slots_made" n6
 y3z:FnG K "old_slots" qN
 y40:FnG K "place_in_order" iS
 y41:FnG K "in_order" sP
 y42:MtG K Z1 "__init__" "Stroke.__init__" fe
 y43:CfG K Z1 "__init__" "Stroke.__init__" fe
 y44:MtG K Z2 "__init__" "Put.__init__" kY
 y45:MtG K Z3 "__init__" "Strike.__init__" iq
 y46:MtG K Z4 "__init__" "Dress.__init__" iU
 y47:MtG K Z5 "__init__" "Move.__init__" jU
 y48:FnG K "stroke_of" qM
 y49:FnG K "chained" vX
 y4a:MtG K Z4 "slots" "Stroke.slots" dW
 y4b:MtG K Z3 "slots" "Stroke.slots" dW
 y4c:MtG K Z1 "slots" "Stroke.slots" dW
 y4d:MtG K Z2 "slots" "Put.slots" qT
 y4e:MtG K Z5 "slots" "Move.slots" oq
 y4f:FnG K "slots_of" sO
 y4g:FnG K "marked" yQ
 y4h:FnG K "is_placed" qO
 y4i:FnG K "effective" qP
 y4j:FnG K "signs_brought" jO
 y4k:MtG K Z4 "touched" "Stroke.touched" bX
 y4l:MtG K Z5 "touched" "Stroke.touched" bX
 y4m:MtG K Z2 "touched" "Stroke.touched" bX
 y4n:MtG K Z3 "touched" "Stroke.touched" bX
 y4o:MtG K Z1 "touched" "Stroke.touched" bX
 y4p:FnG K "signs_struck" kS
 y4q:FnG K "slots_taken" mE
 y4r:FnG K "words_worn" nZ
 y4s:FnG K "seated" yP
 y4t:FnG K "reading" vV
 y4u:MtG K C_Paper "unwiped" "Paper.unwiped" jS
 y4v:MtG K C_Paper "view" "Paper.view" oj
 y4w:FnG K "check_gap" qQ
 y4x:FnG K "anchor_at" qR
 y4y:MtG K C_Paper "seats" "Paper.seats" mH
 y4z:MtG K Z2 "row" "Put.row" vY
 y50:MtG K Z3 "row" "Strike.row" og
 y51:MtG K Z4 "row" "Dress.row" qV
 y52:MtG K Z5 "row" "Move.row" sQ
 y53:MtG K C_Paper "draw" "Paper.draw" oo
 y54:MtG K C_Paper "coming_name" "Paper.coming_name" gI
 y55:MtG K C_Paper "coming_time" "Paper.coming_time" gH
 y56:MtG K C_Paper "put" "Paper.put" qU
 y57:FnG K "check_stretch" jQ
 y58:FnG K "names_between" jP
 y59:MtG K C_Paper "strike" "Paper.strike" kZ
 y5a:MtG K C_Paper "move" "Paper.move" on
 y5b:FnG K "_law_deed" qS
 y5c:MtG K C_Paper "check_known" "Paper.check_known" gK
 y5d:MtG K C_Paper "state" "Paper.state" mG
 y5e:MtG K C_Paper "check_waits" "Paper.check_waits" gJ
 y5f:MtG K C_Paper "let_stand" "Paper.let_stand" ir
 y5g:MtG K C_Paper "wipe" "Paper.wipe" oh
 y5h:MtG K C_Paper "leaning_on" "Paper.leaning_on" g_
 y5i:FnG K "_law_asked" oa
 y5j:FnG K "_law_classes" kW
 y5k:FnG K "_law_decided" kU
 y5l:MtG K C_Paper "strokes_in" "Paper.strokes_in" g6
 y5m:MtG K C_Paper "waiting" "Paper.waiting" jR
 y5n:MtG K C_Paper "strokes" "Paper.strokes" jT
 y5o:FnG K "_law_right" n_
 y5p:MtG K C_Paper "__init__" "Paper.__init__" iT
 y5q:FnG K "law" vW
section
variable{P:M9}{w:Ng}{base:Nf}{K:Po}{h:Nf}{mg:Str->Option MS}{Z1 Z2 Z3 Z4 Z5 C_Paper Sv Sy Ss Su Sx e0f e0N e1f e1N ka1:MT}{ks1:Array (Option MS)}{TH e0q:Str}{TX e0bm SZ:List MS}{TR TZ:Bool}{Tz:List Str}{S1:Option Bool}{TQ TN TM TL TK:Option MS}{e0cls:QI}{Th e1q:Str}{Tu e1bm SX:List MS}{Tq Tw:Bool}{Tc:List Str}{SY:Option Bool}{Tp To Tl Tk Tj:Option MS}{e1cls:QI}{TF TJ TV TC S8 TW:MS}{TD TY TU:Option MT}{TB:Array (Option MS)}{Tg Ti Ts Te S7 Tt:MS}{Tf Tv Tr:Option MT}{Td:Array (Option MS)}{kt0:Tok}{SV:Tok}{SU:Tok}{SS:Tok}{kt2:Tok}{kt3:Tok}{kz1:Nat}(E:Ev K h mg Z1 Z2 Z3 Z4 Z5 C_Paper Sv Sy Ss Su Sx e0f e0N e1f e1N ka1 ks1 TH e0q TX e0bm SZ TR TZ Tz S1 TQ TN TM TL TK e0cls Th e1q Tu e1bm SX Tq Tw Tc SY Tp To Tl Tk Tj e1cls TF TJ TV TC S8 TW TD TY TU TB Tg Ti Ts Te S7 Tt Tf Tv Tr Td kt0 SV SU SS kt2 kt3 kz1)
def Ev.z(_:Ev K h mg Z1 Z2 Z3 Z4 Z5 C_Paper Sv Sy Ss Su Sx e0f e0N e1f e1N ka1 ks1 TH e0q TX e0bm SZ TR TZ Tz S1 TQ TN TM TL TK e0cls Th e1q Tu e1bm SX Tq Tw Tc SY Tp To Tl Tk Tj e1cls TF TJ TV TC S8 TW TD TY TU TB Tg Ti Ts Te S7 Tt Tf Tv Tr Td kt0 SV SU SS kt2 kt3 kz1):Zz:=⟨Z1,Z2,Z3,Z4,Z5,C_Paper⟩
include E
theorem MD:Tx K mg E.z Sv Sy Ss Su Sx:=⟨(all_cons ⟨E.y1x,E.y20⟩ (all_cons ⟨E.y26,E.y29⟩ (all_cons ⟨E.y2f,E.y2i⟩ (all_cons ⟨E.y2o,E.y2r⟩ (all_cons ⟨E.y2x,E.y30⟩ (fun _ h=>nomatch h)))))),(all_cons ⟨E.y1x,E.y21⟩ (all_cons ⟨E.y26,E.y2a⟩ (all_cons ⟨E.y2f,E.y2j⟩ (all_cons ⟨E.y2o,E.y2s⟩ (all_cons ⟨E.y2x,E.y31⟩ (fun _ h=>nomatch h)))))),(all_cons ⟨E.y1x,E.y22⟩ (all_cons ⟨E.y26,E.y2b⟩ (all_cons ⟨E.y2f,E.y2k⟩ (all_cons ⟨E.y2o,E.y2t⟩ (all_cons ⟨E.y2x,E.y32⟩ (fun _ h=>nomatch h)))))),(all_cons ⟨E.y1x,E.y23⟩ (all_cons ⟨E.y26,E.y2c⟩ (all_cons ⟨E.y2f,E.y2l⟩ (all_cons ⟨E.y2o,E.y2u⟩ (all_cons ⟨E.y2x,E.y33⟩ (fun _ h=>nomatch h)))))),(all_cons ⟨E.y1x,E.y24⟩ (all_cons ⟨E.y26,E.y2d⟩ (all_cons ⟨E.y2f,E.y2m⟩ (all_cons ⟨E.y2o,E.y2v⟩ (all_cons ⟨E.y2x,E.y34⟩ (fun _ h=>nomatch h)))))),(all_cons ⟨E.y1x,E.y25⟩ (all_cons ⟨E.y26,E.y2e⟩ (all_cons ⟨E.y2f,E.y2n⟩ (all_cons ⟨E.y2o,E.y2w⟩ (all_cons ⟨E.y2x,E.y35⟩ (fun _ h=>nomatch h)))))),E.y1x,E.y26,E.y2f,E.y2o,E.y2x,E.y36,E.y39,E.y3a,E.y3b,E.y3c,E.y3d,Os E.X E.G E.y3e,Os E.X E.G E.y3f,Os E.X E.G E.y3g,Os E.X E.G E.y3h,Os E.X E.G E.y3i,Os E.X E.G E.y3j,Os E.X E.G E.y3k,Os E.X E.G E.y3l,Os E.X E.G E.y3m,Os E.X E.G E.y3n,Os E.X E.G E.y3o,Os E.X E.G E.y3p,qG (Ty E.X E.G E.y3q),Dh (vs:=[.str "",.int 0,.int 0]) (Ty E.X E.G E.y3r) E.y3s (by show 3<=M1;decide) (.cons ⟨_,rfl⟩ (.cons ⟨_,rfl⟩ (.cons ⟨_,rfl⟩ .nil))) fun _=>(RDs.cons jt (RDs.cons eA (RDs.cons eA RDs.nil))),qG (Ty E.X E.G E.y3t),qG (Ty E.X E.G E.y3u),Ty E.X E.G E.y6,Ty E.X E.G E.y7,Ty E.X E.G E.y8,Ty E.X E.G E.y9,Ty E.X E.G E.ya,⟨⟨E.yq,E.yr,E.ys,E.yt⟩,E.yu,E.yv,E.yw,E.yx,E.yy⟩,E.yz,E.y00,E.y01,⟨⟨E.y0h,E.y0i,E.y0j,E.y0k⟩,E.y0l,E.y0m,E.y0n,E.y0o,E.y0p⟩,E.y0q,E.y0r,E.y0s,E.y0t,E.y0u,E.y0v,E.y0w,E.y0x,E.y0y,E.y0z,E.y10,Ty E.X E.G E.y3,(all_cons ⟨⟨E.y1x,E.y13,E.y11,E.y12,E.y14⟩,E.y15⟩ (all_cons ⟨⟨E.y26,E.y19,E.y11,E.y12,E.y1a⟩,E.y1b⟩ (all_cons ⟨⟨E.y2f,E.y1f,E.y11,E.y12,E.y1g⟩,E.y1h⟩ (all_cons ⟨⟨E.y2o,E.y1l,E.y11,E.y12,E.y1m⟩,E.y1n⟩ (all_cons ⟨⟨E.y2x,E.y1r,E.y11,E.y12,E.y1s⟩,E.y1t⟩ (fun _ h=>nomatch h)))))),Ty E.X E.G E.y4,(all_cons ⟨⟨E.y1x,E.y13,E.y11,E.y12,E.y14⟩,E.y16⟩ (all_cons ⟨⟨E.y26,E.y19,E.y11,E.y12,E.y1a⟩,E.y1c⟩ (all_cons ⟨⟨E.y2f,E.y1f,E.y11,E.y12,E.y1g⟩,E.y1i⟩ (all_cons ⟨⟨E.y2o,E.y1l,E.y11,E.y12,E.y1m⟩,E.y1o⟩ (all_cons ⟨⟨E.y2x,E.y1r,E.y11,E.y12,E.y1s⟩,E.y1u⟩ (fun _ h=>nomatch h)))))),Ty E.X E.G E.y1,(all_cons ⟨⟨E.y1x,E.y13,E.y11,E.y12,E.y14⟩,E.y17⟩ (all_cons ⟨⟨E.y26,E.y19,E.y11,E.y12,E.y1a⟩,E.y1d⟩ (all_cons ⟨⟨E.y2f,E.y1f,E.y11,E.y12,E.y1g⟩,E.y1j⟩ (all_cons ⟨⟨E.y2o,E.y1l,E.y11,E.y12,E.y1m⟩,E.y1p⟩ (all_cons ⟨⟨E.y2x,E.y1r,E.y11,E.y12,E.y1s⟩,E.y1v⟩ (fun _ h=>nomatch h)))))),Ty E.X E.G E.y2,(all_cons ⟨⟨E.y1x,E.y13,E.y11,E.y12,E.y14⟩,E.y18⟩ (all_cons ⟨⟨E.y26,E.y19,E.y11,E.y12,E.y1a⟩,E.y1e⟩ (all_cons ⟨⟨E.y2f,E.y1f,E.y11,E.y12,E.y1g⟩,E.y1k⟩ (all_cons ⟨⟨E.y2o,E.y1l,E.y11,E.y12,E.y1m⟩,E.y1q⟩ (all_cons ⟨⟨E.y2x,E.y1r,E.y11,E.y12,E.y1s⟩,E.y1w⟩ (fun _ h=>nomatch h))))))⟩
variable(T:Tx K mg E.z Sv Sy Ss Su Sx)
include T
def uQ:=pH P w base E.X E.G E.y3v 0 rK qm (p8 E.z (aI P w)) fun hr u v=>(au (e9 (tM DA (am 1) (bp b_len (by rfl) T.b_len PySem.boot_len (aa (am 0) ak)) (bv _)) (ay (aK (cC (am 0) (am 1)))) cD)
   (ay (aK aD)))
def vL:=pH P w base E.X E.G E.y3w 0 dU rZ (rP E.z (aI P w)) fun hr u v=>(au (HD (i:=2) dU.nd rfl (by walk_at "i") (iD ak))
   (au (aZ (i:=3) dU.nd rfl (by walk_at "i") (dE fR (dE Dz (dE ip (am 0) aD) aD) aD))
   (au (i9 Nv rfl (E8 (by rfl) T.b_range (aa (am 1) ak)) (bd (i:=4) dU.nd rfl (by walk_at "i")) (au (aZ (i:=3) dU.nd rfl (by walk_at "i") (dE fR (dE Dz (dE ip (dE ip (am 3) (dE Dz aD (am 4))) aD) (dE ip (dE JV (am 3) aD) aD)) aD))
   (ay (dY (tP (am 2) (aa (am 3) ak))))))
   (ay (za (i:=2) rfl (by first|exact Or.inl rfl|exact Or.inr (Or.inl rfl)))))))
def pF:=pH P w base E.X E.G E.y3x 0 fO t7 (sW E.z (aI P w)) fun hr u v=>(au (aZ (i:=3) fO.nd rfl (by walk_at "i") (am 1))
   (ay (i9 Nv rfl (e8 (am 2)) (bd (i:=4) fO.nd rfl (by walk_at "i")) (au (fg u (am 0) (am 4) (j8 u (am 0) (am 3)))
   (au (fg u (am 0) (am 3) (am 4))
   (ay (aZ (i:=3) fO.nd rfl (by walk_at "i") (am 4))))))))
def jK:=pH P w base E.X E.G E.y3y 0 uU tZ (sV E.z (aI P w)) fun hr u v=>(ay (aK (jw (T:=["k"]) (M:=Aw0) (bJ rfl (by kernel_rfl)) (fun cl C s₀ H₀ fp=>⟨(bd (i:=0) rT rfl (by walk_at "i")),jm,(dE ip (am 1) (eZ (aa (am 0) ak)))⟩) (E7 (by rfl) T.b_range (aa aD (aa (dE ip (am 1) aD) ak))))))
def rG:=pH P w base E.X E.G E.y3z 1 wN vi (u4 E.z (aI P w)) fun hr u v=>(ay (aK (aL (jK E T) hr.m (by rfl) (aa (oV Dy (df (by rfl) T.k_START) AQ (nw aD)) (aa (bp b_len (by rfl) T.b_len PySem.boot_len (aa (am 0) ak)) ak)))))
def qL:=pH P w base E.X E.G E.y40 0 nU nF (nq E.z (aI P w)) fun hr u v=>(ay (aK (eZ (aa (cC (am 0) aD) (aa (cC (am 0) aD) ak)))))
def uO:=pH P w base E.X E.G E.y41 3 kO xB (wU E.z (aI P w)) fun hr u v=>(au (aZ (i:=1) kO.nd rfl (by walk_at "i") lA)
   (au (Iu Nv rfl (am 0) (bd (i:=2) kO.nd rfl (by walk_at "i")) (ay (fg u (am 1) (cC (am 2) aD) (am 2))))
   (ay (aK (Go (qL E) hr.m rfl (by rfl) (by rfl) T.b_sorted (am 1))))))
def dB:=MI P w base E.X E.G E.y0 E.y43 fun F=>BO 0 F ni mn (me E.z (aI P w)) fun hr u v=>(au (h8 T.fa_name (am 0) (am 1))
   (au (h8 T.fa_time (am 0) (am 2))
   (au (h8 T.fa_anchor (am 0) (df (by rfl) T.k_START))
   (ay (h8 T.fa_names (am 0) (eZ ak))))))
def HV:=Ky P w base E.X E.G E.y1 E.y27 E.y28 E.y44 fun F=>BO 1 F rM qp (p_ E.z (aI P w)) fun hr u v=>(au (dY (lW (dB E T) hr.m (by rfl) (aa (am 0) (aa (am 1) (aa (am 2) ak)))))
   (au (h8 T.fa_anchor (am 0) (am 3))
   (ay (h8 T.fa_signs (am 0) (am 4)))))
def Af:=Ky P w base E.X E.G E.y2 E.y2g E.y2h E.y45 fun F=>BO 1 F nj mq (mf E.z (aI P w)) fun hr u v=>(au (dY (lW (dB E T) hr.m (by rfl) (aa (am 0) (aa (am 1) (aa (am 2) ak)))))
   (ay (h8 T.fa_names (am 0) (am 3))))
def Hq:=Ky P w base E.X E.G E.y3 E.y2p E.y2q E.y46 fun F=>BO 1 F nY nI (nu E.z (aI P w)) fun hr u v=>(au (dY (lW (dB E T) hr.m (by rfl) (aa (am 0) (aa (am 1) (aa (am 2) ak)))))
   (au (h8 T.fa_names (am 0) (am 3))
   (ay (h8 T.fa_word (am 0) (am 4)))))
def FC:=Ky P w base E.X E.G E.y4 E.y2y E.y2z E.y47 fun F=>BO 1 F pV o8 (oE E.z (aI P w)) fun hr u v=>(au (dY (lW (dB E T) hr.m (by rfl) (aa (am 0) (aa (am 1) (aa (am 2) ak)))))
   (au (h8 T.fa_names (am 0) (am 3))
   (ay (h8 T.fa_anchor (am 0) (am 4)))))
def rF:=pH P w base E.X E.G E.y48 3 gO vh (u0 E.z (aI P w)) fun hr u v=>(au (aZ (i:=1) gO.nd rfl (by walk_at "i") (cC (am 0) aD))
   (au (aZ (i:=2) gO.nd rfl (by walk_at "i") (cC (am 0) aD))
   (au (aZ (i:=3) gO.nd rfl (by walk_at "i") (cC (am 0) aD))
   (au (e9 (bF (pL u) (cC (am 3) aD) cf (bv _)) (ay (aK (lu (HV E T) hr.m (by rfl) (aa (am 1) (aa (am 2) (aa (cC (am 3) aD) (aa (cC (am 3) aD) ak))))))) cD)
   (au (e9 (bF (pL u) (cC (am 3) aD) cf (bv _)) (ay (aK (lu (Af E T) hr.m (by rfl) (aa (am 1) (aa (am 2) (aa (cC (am 3) aD) ak)))))) cD)
   (au (e9 (bF (pL u) (cC (am 3) aD) cf (bv _)) (ay (aK (lu (Hq E T) hr.m (by rfl) (aa (am 1) (aa (am 2) (aa (cC (am 3) aD) (aa (cC (am 3) aD) ak))))))) cD)
   (ay (aK (lu (FC E T) hr.m (by rfl) (aa (am 1) (aa (am 2) (aa (cC (am 3) aD) (aa (cC (am 3) aD) ak)))))))))))))
def Dr:=pH P w base E.X E.G E.y49 0 jq zx (yX E.z (aI P w)) fun hr u v=>(au (HD (i:=1) jq.nd rfl (by walk_at "i") (iD ak))
   (au (aZ (i:=2) jq.nd rfl (by walk_at "i") (j8 u (am 0) (df (by rfl) T.k_START)))
   (au (F5 Nv (tM Ia (am 2) HE (bv _)) (au (dY (tP (am 1) (aa (am 2) ak)))
   (ay (aZ (i:=2) jq.nd rfl (by walk_at "i") (j8 u (am 0) (am 2))))))
   (ay (za (i:=1) rfl (by first|exact Or.inl rfl|exact Or.inr (Or.inl rfl)))))))
theorem gF:∀ {f:MT} {fd:N4},Fun3 K "slots" "Stroke.slots" dW f fd->FnOk P w K mg base pJ 1 f fd Ad0 (b9 K (az E.z (aI P w))):=fun F=>BO 0 F rL qo (p9 E.z (aI P w)) fun hr u v=>(ay (aK (iD ak)))
def fA:=GG P w base T.cl_Dress E.y4a fun F=>(gF E T) F
def eP:=GG P w base T.cl_Strike E.y4b fun F=>(gF E T) F
def eO:=GG P w base T.cl_Stroke E.y4c fun F=>(gF E T) F
def gU:=vf P w base mg T.cl_Put E.y4d 1 wR vp (u_ E.z (aI P w)) fun hr u v=>(ay (aK (aL (jK E T) hr.m (by rfl) (aa (bG T.fa_name (am 0)) (aa (bp b_len (by rfl) T.b_len PySem.boot_len (aa (bG T.fa_signs (am 0)) ak)) ak)))))
def fQ:=vf P w base mg T.cl_Move E.y4e 1 uY ug (tq E.z (aI P w)) fun hr u v=>(ay (aK (aL (jK E T) hr.m (by rfl) (aa (bG T.fa_name (am 0)) (aa (bp b_len (by rfl) T.b_len PySem.boot_len (aa (bG T.fa_names (am 0)) ak)) ak)))))
def Bq:=pH P w base E.X E.G E.y4f 4 kN xA (wT E.z (aI P w)) fun hr u v=>(au (aZ (i:=2) kN.nd rfl (by walk_at "i") (Gv u (df (by rfl) T.k_START) HE))
   (au (dY (aL (pF E) hr.m (by rfl) (aa (am 2) (aa (df (by rfl) T.k_START) (aa (aL (rG E T) hr.m (by rfl) (aa (am 0) ak)) ak)))))
   (au (i9 Nv rfl (e8 (jw (T:=Av0) (M:=Al0) (bJ rfl (by kernel_rfl)) (fun cl C s₀ H₀ fp=>⟨(bd (i:=0) ve rfl (by walk_at "i")),jm,(aL (rF E T) hr.m (by rfl) (aa (am 0) ak))⟩) (e8 (aL (uO E T) hr.m (by rfl) (aa (am 1) ak))))) (bd (i:=3) kN.nd rfl (by walk_at "i")) (ay (e9 (AK u (bG T.fa_anchor (am 3)) (am 2)) (ay (dY (aL (pF E) hr.m (by rfl) (aa (am 2) (aa (bG T.fa_anchor (am 3)) (aa (f7 (k:=2) (all_cons ⟨_,(by decide),(eO E T)⟩ (all_cons ⟨_,(by decide),(gU E T)⟩ (all_cons ⟨_,(by decide),(eP E T)⟩ (all_cons ⟨_,(by decide),(fA E T)⟩ (all_cons ⟨_,(by decide),(fQ E T)⟩ (fun _ h=>nomatch h)))))) hr.m (am 3)) ak)))))) cD)))
   (ay (aK (aL (Dr E T) hr.m (by rfl) (aa (am 2) ak)))))))
def Ag:=pH P w base E.X E.G E.y4g 0 Cp AX (AC E.z (aI P w)) fun hr u v=>(ay (aK (Gu u rfl (by rfl) T.b_dict (jw (T:=["key"]) (M:=["keys"]) (bJ rfl (by kernel_rfl)) (fun cl C s₀ H₀ fp=>⟨(bd (i:=0) zl rfl (by walk_at "i")),jm,(eZ (aa (am 0) (aa rR ak)))⟩) (e8 (am 0))))))
def Ah:=pH P w base E.X E.G E.y4h 2 wO vj (u5 E.z (aI P w)) fun hr u v=>(ay (aK (bp (JD rfl) (by rfl) T.b_all PyProof.Rows.boot_all (aa (jw (T:=["slot"]) (M:=Ax0) (bJ rfl (by kernel_rfl)) (fun cl C s₀ H₀ fp=>⟨(bd (i:=0) tR rfl (by walk_at "i")),jm,(HF u (am 0) (am 2))⟩) (e8 (f7 (k:=2) (all_cons ⟨_,(by decide),(eO E T)⟩ (all_cons ⟨_,(by decide),(gU E T)⟩ (all_cons ⟨_,(by decide),(eP E T)⟩ (all_cons ⟨_,(by decide),(fA E T)⟩ (all_cons ⟨_,(by decide),(fQ E T)⟩ (fun _ h=>nomatch h)))))) hr.m (am 0)))) ak))))
def Ai:=pH P w base E.X E.G E.y4i 4 jp vk (u6 E.z (aI P w)) fun hr u v=>(au (aZ (i:=3) jp.nd rfl (by walk_at "i") (aL (Ag E T) hr.m (by rfl) (aa (am 1) ak)))
   (au (Ed (T:=Av0) (M:=Af0) (i:=4) (bJ rfl (by kernel_rfl)) jp.nd rfl rfl (fun cl C s₀ H₀ fp=>⟨(bd (i:=0) tT rfl (by walk_at "i")),(m8 (AK u (cC (am 0) aD) (am 4))),(aL (rF E T) hr.m (by rfl) (aa (am 0) ak))⟩) (e8 (aL (uO E T) hr.m (by rfl) (aa (am 0) ak))))
   (ay (aK (jw (T:=["stroke"]) (M:=Af0) (bJ rfl (by kernel_rfl)) (fun cl C s₀ H₀ fp=>⟨(bd (i:=0) tS rfl (by walk_at "i")),(m8 (ib (aL (Ah E T) hr.m (by rfl) (aa (am 0) (aa (am 3) ak))))),(am 0)⟩) (e8 (am 4)))))))
def sd:=pH P w base E.X E.G E.y4j 2 db oX (ou E.z (aI P w)) fun hr u v=>(au (aZ (i:=2) db.nd rfl (by walk_at "i") (Gs u rfl (by rfl) T.b_dict (by rfl) T.b_zip (aa (aL (rG E T) hr.m (by rfl) (aa (am 0) ak)) (aa (am 0) ak))))
   (au (i9 Nv rfl (e8 (am 1)) (bd (i:=3) db.nd rfl (by walk_at "i")) (ay (e9 (ib (bp (B7 T.ik_Put) (by rfl) T.b_isinstance NV (aa (am 3) (aa (xp (by rfl) T.xm_Put) ak)))) (ay (i9 Nv rfl (HP (by rfl) T.b_zip (aa (f7 (k:=2) (all_cons ⟨_,(by decide),(eO E T)⟩ (all_cons ⟨_,(by decide),(gU E T)⟩ (all_cons ⟨_,(by decide),(eP E T)⟩ (all_cons ⟨_,(by decide),(fA E T)⟩ (all_cons ⟨_,(by decide),(fQ E T)⟩ (fun _ h=>nomatch h)))))) hr.m (am 3)) (aa (bG T.fa_signs (am 3)) ak))) (Fc (n:=2) rfl (qB (bd (i:=4) db.nd rfl (by walk_at "i")) (qB (bd (i:=5) db.nd rfl (by walk_at "i")) Fd))) (ay (fg u (am 2) (am 4) (am 5))))) cD)))
   (ay (aK (am 2)))))
theorem cU:∀ {f:MT} {fd:N4},Fun3 K "touched" "Stroke.touched" bX f fd->FnOk P w K mg base pJ 1 f fd Ad0 (b9 K (ao E.z (aI P w))):=fun F=>BO 0 F nV nG (nr E.z (aI P w)) fun hr u v=>(ay (aK (tO b_list (by rfl) T.b_list PyProof.Rows.boot_list (aa (bG T.fa_names (am 0)) ak))))
def fM:=GG P w base T.cl_Dress E.y4k fun F=>(cU E T) F
def gG:=GG P w base T.cl_Move E.y4l fun F=>(cU E T) F
def ik:=GG P w base T.cl_Put E.y4m fun F=>(cU E T) F
def fw:=GG P w base T.cl_Strike E.y4n fun F=>(cU E T) F
def fu:=GG P w base T.cl_Stroke E.y4o fun F=>(cU E T) F
def uM:=pH P w base E.X E.G E.y4p 1 eK qj (pY E.z (aI P w)) fun hr u v=>(au (aZ (i:=1) eK.nd rfl (by walk_at "i") lA)
   (au (i9 Nv rfl (e8 (am 0)) (bd (i:=2) eK.nd rfl (by walk_at "i")) (ay (e9 (ib (bp (B7 T.ik_Strike) (by rfl) T.b_isinstance NV (aa (am 2) (aa (xp (by rfl) T.xm_Strike) ak)))) (ay (i9 Nv rfl (e8 (f7 (k:=1) (all_cons ⟨_,(by decide),(fu E T)⟩ (all_cons ⟨_,(by decide),(ik E T)⟩ (all_cons ⟨_,(by decide),(fw E T)⟩ (all_cons ⟨_,(by decide),(fM E T)⟩ (all_cons ⟨_,(by decide),(gG E T)⟩ (fun _ h=>nomatch h)))))) hr.m (am 2))) (bd (i:=3) eK.nd rfl (by walk_at "i")) (ay (fg u (am 1) (am 3) rR)))) cD)))
   (ay (aK (am 1)))))
def vK:=pH P w base E.X E.G E.y4q 2 dS rY (rO E.z (aI P w)) fun hr u v=>(au (aZ (i:=1) dS.nd rfl (by walk_at "i") lA)
   (au (i9 Nv rfl (e8 (am 0)) (bd (i:=2) dS.nd rfl (by walk_at "i")) (ay (e9 (ib (bp (B7 T.ik_Move) (by rfl) T.b_isinstance NV (aa (am 2) (aa (xp (by rfl) T.xm_Move) ak)))) (ay (i9 Nv rfl (HP (by rfl) T.b_zip (aa (f7 (k:=1) (all_cons ⟨_,(by decide),(fu E T)⟩ (all_cons ⟨_,(by decide),(ik E T)⟩ (all_cons ⟨_,(by decide),(fw E T)⟩ (all_cons ⟨_,(by decide),(fM E T)⟩ (all_cons ⟨_,(by decide),(gG E T)⟩ (fun _ h=>nomatch h)))))) hr.m (am 2)) (aa (f7 (k:=2) (all_cons ⟨_,(by decide),(eO E T)⟩ (all_cons ⟨_,(by decide),(gU E T)⟩ (all_cons ⟨_,(by decide),(eP E T)⟩ (all_cons ⟨_,(by decide),(fA E T)⟩ (all_cons ⟨_,(by decide),(fQ E T)⟩ (fun _ h=>nomatch h)))))) hr.m (am 2)) ak))) (Fc (n:=2) rfl (qB (bd (i:=3) dS.nd rfl (by walk_at "i")) (qB (bd (i:=4) dS.nd rfl (by walk_at "i")) Fd))) (ay (fg u (am 1) (am 3) (am 4))))) cD)))
   (ay (aK (am 1)))))
def x9:=pH P w base E.X E.G E.y4r 1 fN tY (sU E.z (aI P w)) fun hr u v=>(au (aZ (i:=1) fN.nd rfl (by walk_at "i") lA)
   (au (i9 Nv rfl (e8 (am 0)) (bd (i:=2) fN.nd rfl (by walk_at "i")) (ay (e9 (ib (bp (B7 T.ik_Dress) (by rfl) T.b_isinstance NV (aa (am 2) (aa (xp (by rfl) T.xm_Dress) ak)))) (ay (i9 Nv rfl (e8 (f7 (k:=1) (all_cons ⟨_,(by decide),(fu E T)⟩ (all_cons ⟨_,(by decide),(ik E T)⟩ (all_cons ⟨_,(by decide),(fw E T)⟩ (all_cons ⟨_,(by decide),(fM E T)⟩ (all_cons ⟨_,(by decide),(gG E T)⟩ (fun _ h=>nomatch h)))))) hr.m (am 2))) (bd (i:=3) fN.nd rfl (by walk_at "i")) (ay (fg u (am 1) (am 3) (bG T.fa_word (am 2)))))) cD)))
   (ay (aK (am 1)))))
def uN:=pH P w base E.X E.G E.y4s 5 dJ AW (AB E.z (aI P w)) fun hr u v=>(au (aZ (i:=3) dJ.nd rfl (by walk_at "i") (aL (Bq E T) hr.m (by rfl) (aa (am 0) (aa (am 1) ak))))
   (au (aZ (i:=4) dJ.nd rfl (by walk_at "i") (aL (Ai E T) hr.m (by rfl) (aa (am 1) (aa (am 2) (aa (aL (Ag E T) hr.m (by rfl) (aa (am 3) ak)) ak)))))
   (au (aZ (i:=5) dJ.nd rfl (by walk_at "i") (aL (sd E T) hr.m (by rfl) (aa (am 0) (aa (am 4) ak))))
   (au (aZ (i:=6) dJ.nd rfl (by walk_at "i") (aL (uM E T) hr.m (by rfl) (aa (am 4) ak)))
   (au (aZ (i:=7) dJ.nd rfl (by walk_at "i") (aL (vK E T) hr.m (by rfl) (aa (am 4) ak)))
   (au (aZ (i:=8) dJ.nd rfl (by walk_at "i") (aL (x9 E T) hr.m (by rfl) (aa (am 4) ak)))
   (au (aZ (i:=9) dJ.nd rfl (by walk_at "i") lA)
   (au (Iv Nv rfl (am 5) (bd (i:=10) dJ.nd rfl (by walk_at "i")) (ay (e9 (jc u (am 10) (am 6)) (ay (fg u (am 9) (xn u (am 7) (am 10) (am 10)) (am 10))) cD)))
   (au (Ed (T:=["slot"]) (M:=Ac0) (i:=11) (bJ rfl (by kernel_rfl)) dJ.nd rfl rfl (fun cl C s₀ H₀ fp=>⟨(bd (i:=0) zk rfl (by walk_at "i")),(m8 (AK u (am 0) (am 10))),(eZ (aa (am 0) (aa (j8 u (am 10) (am 0)) ak)))⟩) (e8 (am 3)))
   (ay (aK (jw (T:=["slot","name"]) (M:=Aj0) (bJ rfl (by kernel_rfl)) (fun cl C s₀ H₀ fp=>⟨(Fc (n:=2) rfl (qB (bd (i:=0) qZ rfl (by walk_at "i")) (qB (bd (i:=1) qZ rfl (by walk_at "i")) Fd))),jm,(eZ (aa (am 0) (aa (am 1) (aa (j8 u (am 7) (am 1)) (aa (xn u (am 10) (am 1) cf) ak)))))⟩) (e8 (am 11))))))))))))))
def wC:=pH P w base E.X E.G E.y4t 6 Aw zw (yW E.z (aI P w)) fun hr u v=>(ay (aK (jw (T:=["seat"]) (M:=Ak0) (bJ rfl (by kernel_rfl)) (fun cl C s₀ H₀ fp=>⟨(bd (i:=0) xw rfl (by walk_at "i")),jm,(oV Dy (am 0) (nw aD) AQ)⟩) (e8 (aL (uN E T) hr.m (by rfl) (aa (am 0) (aa (am 1) (aa (am 2) ak))))))))
def jj:=vf P w base mg T.cl_Paper E.y4u 0 pT o6 (oB E.z (aI P w)) fun hr u v=>(ay (aK (BK (T:=Av0) (M:=Ad0) (bJ rfl (by kernel_rfl)) (fun cl C s₀ H₀ fp=>⟨(bd (i:=0) nE rfl (by walk_at "i")),(m8 (bF (sA u) (j8 u (e7 T.cl_Paper T.na_Paper_states bq (am 1)) (cC (am 0) aD)) (df (by rfl) T.k_WIPED) (bv _))),(cC (am 0) aD)⟩) (e7 T.cl_Paper T.na_Paper_drawn dj (am 0)))))
def m4:=vf P w base mg T.cl_Paper E.y4v 7 uW ud (td E.z (aI P w)) fun hr u v=>(ay (aK (aL (wC E T) hr.m (by rfl) (aa (e7 T.cl_Paper T.na_Paper_old pC (am 0)) (aa (e7 T.cl_Paper T.na_Paper_drawn dj (am 0)) (aa (dA (jj E T) je hr.m (am 0)) ak))))))
def rH:=pH P w base E.X E.G E.y4w 0 wP vm (u7 E.z (aI P w)) fun hr u v=>(ay (e9 (tL (tN FK FK aD (am 0) (am 1))) (ay oR) cD))
def rJ:=pH P w base E.X E.G E.y4x 0 wQ vn (u8 E.z (aI P w)) fun hr u v=>(au (e9 (bF (pL u) (am 1) aD (bv _)) (ay (aK (df (by rfl) T.k_START))) cD)
   (ay (aK (cC (cC (am 0) (dE Ht (am 1) aD)) aD))))
def fy:=vf P w base mg T.cl_Paper E.y4y 6 sN r0 (rQ E.z (aI P w)) fun hr u v=>(ay (aK (aL (uN E T) hr.m (by rfl) (aa (e7 T.cl_Paper T.na_Paper_old pC (am 0)) (aa (e7 T.cl_Paper T.na_Paper_drawn dj (am 0)) (aa (dA (jj E T) je hr.m (am 0)) ak))))))
def Bl:=vf P w base mg T.cl_Put E.y4z 0 Ax zy (yY E.z (aI P w)) fun hr u v=>(ay (aK (eZ (aa (bG T.fa_name (am 0)) (aa (bG T.fa_time (am 0)) (aa (eZ (aa cf (aa (bG T.fa_anchor (am 0)) (aa (bG T.fa_signs (am 0)) ak)))) ak))))))
def vH:=vf P w base mg T.cl_Strike E.y50 0 uV ub (sZ E.z (aI P w)) fun hr u v=>(ay (aK (eZ (aa (bG T.fa_name (am 0)) (aa (bG T.fa_time (am 0)) (aa (eZ (aa cf (aa (bG T.fa_names (am 0)) ak))) ak))))))
def xZ:=vf P w base mg T.cl_Dress E.y51 0 wS vt (vc E.z (aI P w)) fun hr u v=>(ay (aK (eZ (aa (bG T.fa_name (am 0)) (aa (bG T.fa_time (am 0)) (aa (eZ (aa cf (aa (bG T.fa_names (am 0)) (aa (bG T.fa_word (am 0)) ak)))) ak))))))
def Ae:=vf P w base mg T.cl_Move E.y52 0 yO xC (wV E.z (aI P w)) fun hr u v=>(ay (aK (eZ (aa (bG T.fa_name (am 0)) (aa (bG T.fa_time (am 0)) (aa (eZ (aa cf (aa (bG T.fa_names (am 0)) (aa (bG T.fa_anchor (am 0)) ak)))) ak))))))
def iQ:=vf P w base mg T.cl_Paper E.y53 1 uX uf (tj E.z (aI P w)) fun hr u v=>(au (dY (tP (e7 T.cl_Paper T.na_Paper_drawn dj (am 0)) (aa (f7 (k:=1) (all_cons ⟨_,(by decide),(Bl E T)⟩ (all_cons ⟨_,(by decide),(vH E T)⟩ (all_cons ⟨_,(by decide),(xZ E T)⟩ (all_cons ⟨_,(by decide),(Ae E T)⟩ (fun _ h=>nomatch h))))) hr.m (am 1)) ak)))
   (au (fg u (e7 T.cl_Paper T.na_Paper_states bq (am 0)) (bG T.fa_name (am 1)) (df (by rfl) T.k_WAITS))
   (au (fg u (e7 T.cl_Paper T.na_Paper_greatest iH (am 0)) (cC (bG T.fa_name (am 1)) aD) (cC (bG T.fa_name (am 1)) aD))
   (au (Ke T.cl_Paper T.na_Paper_time mZ (by decide) (am 0) (bG T.fa_time (am 1)))
   (ay (aK (bG T.fa_name (am 1))))))))
def d8:=vf P w base mg T.cl_Paper E.y54 0 kQ kE (kq E.z (aI P w)) fun hr u v=>(ay (aK (eZ (aa (am 1) (aa (dE ip (xn u (e7 T.cl_Paper T.na_Paper_greatest iH (am 0)) (am 1) aD) aD) ak)))))
def d7:=vf P w base mg T.cl_Paper E.y55 0 kP kC (ko E.z (aI P w)) fun hr u v=>(ay (aK (dE ip (e7 T.cl_Paper T.na_Paper_time mZ (am 0)) aD)))
def xY:=vf P w base mg T.cl_Paper E.y56 7 nW vq (va E.z (aI P w)) fun hr u v=>(au (aZ (i:=4) nW.nd rfl (by walk_at "i") (dA (fy E T) fq hr.m (am 0)))
   (au (dY (aL (rH E) hr.m (by rfl) (aa (am 2) (aa (bp b_len (by rfl) T.b_len PySem.boot_len (aa (am 4) ak)) ak))))
   (ay (aK (eE (iQ E T) iN hr.m (am 0) (aa (lu (HV E T) hr.m (by rfl) (aa (eE (d8 E T) d5 hr.m (am 0) (aa (am 1) ak)) (aa (dA (d7 E T) d4 hr.m (am 0)) (aa (aL (rJ E T) hr.m (by rfl) (aa (am 4) (aa (am 2) ak))) (aa (am 3) ak))))) ak))))))
def kj:=pH P w base E.X E.G E.y57 0 pR oZ (oz E.z (aI P w)) fun hr u v=>(au (e9 (tL (tN FK DA aD (am 0) (am 2))) (ay oR) cD)
   (ay (e9 (tL (tN DA FK (am 0) (am 1) (am 2))) (ay oR) cD)))
def kh:=pH P w base E.X E.G E.y58 0 pQ oY (ow E.z (aI P w)) fun hr u v=>(ay (aK (tO b_tuple (by rfl) T.b_tuple PyProof.Rows.boot_tuple (aa (jw (T:=["seat"]) (M:=Ay0) (bJ rfl (by kernel_rfl)) (fun cl C s₀ H₀ fp=>⟨(bd (i:=0) nB rfl (by walk_at "i")),jm,(cC (am 0) aD)⟩) (e8 (oV Dy (am 0) (nw (am 1)) (nw (am 2))))) ak))))
def r9:=vf P w base mg T.cl_Paper E.y59 7 jN qr (qa E.z (aI P w)) fun hr u v=>(au (aZ (i:=4) jN.nd rfl (by walk_at "i") (dA (fy E T) fq hr.m (am 0)))
   (au (dY (aL (kj E) hr.m (by rfl) (aa (am 2) (aa (am 3) (aa (bp b_len (by rfl) T.b_len PySem.boot_len (aa (am 4) ak)) ak)))))
   (ay (aK (eE (iQ E T) iN hr.m (am 0) (aa (lu (Af E T) hr.m (by rfl) (aa (eE (d8 E T) d5 hr.m (am 0) (aa (am 1) ak)) (aa (dA (d7 E T) d4 hr.m (am 0)) (aa (aL (kh E T) hr.m (by rfl) (aa (am 4) (aa (am 2) (aa (am 3) ak)))) ak)))) ak))))))
def vI:=vf P w base mg T.cl_Paper E.y5a 7 iL ue (tf E.z (aI P w)) fun hr u v=>(au (aZ (i:=5) iL.nd rfl (by walk_at "i") (dA (fy E T) fq hr.m (am 0)))
   (au (dY (aL (kj E) hr.m (by rfl) (aa (am 2) (aa (am 3) (aa (bp b_len (by rfl) T.b_len PySem.boot_len (aa (am 5) ak)) ak)))))
   (au (dY (aL (rH E) hr.m (by rfl) (aa (am 4) (aa (bp b_len (by rfl) T.b_len PySem.boot_len (aa (am 5) ak)) ak))))
   (au (aZ (i:=6) iL.nd rfl (by walk_at "i") (aL (kh E T) hr.m (by rfl) (aa (am 5) (aa (am 2) (aa (am 3) ak)))))
   (ay (aK (eE (iQ E T) iN hr.m (am 0) (aa (lu (FC E T) hr.m (by rfl) (aa (eE (d8 E T) d5 hr.m (am 0) (aa (am 1) ak)) (aa (dA (d7 E T) d4 hr.m (am 0)) (aa (am 6) (aa (aL (rJ E T) hr.m (by rfl) (aa (am 5) (aa (am 4) ak))) ak))))) ak))))))))
def Aj:=pH P w base E.X E.G E.y5b 8 fc vo (u9 E.z (aI P w)) fun hr u v=>(au (aZ (i:=2) fc.nd rfl (by walk_at "i") (bp b_len (by rfl) T.b_len PySem.boot_len (aa (dA (m4 E T) mV hr.m (am 0)) ak)))
   (au (aZ (i:=3) fc.nd rfl (by walk_at "i") (cC (iD (aa cf (aa cf (aa cf ak)))) (dE fR (cC (am 1) aD) aD)))
   (au (e9 (PW.pt (JW (bF (pL u) (am 2) aD (bv _)) (Hu (tM DA (dE fR (cC (am 1) aD) aD) aD (bv _))))) (ay (aK (eE (xY E T) xv hr.m (am 0) (aa (am 3) (aa (dE fR (cC (am 1) aD) (dE ip (am 2) aD)) (aa (cC (iD (aa cf (aa cf ak))) (dE fR (cC (am 1) aD) aD)) ak)))))) cD)
   (au (aZ (i:=4) fc.nd rfl (by walk_at "i") (dE fR (cC (am 1) aD) (am 2)))
   (au (aZ (i:=5) fc.nd rfl (by walk_at "i") (dE ip (dE ip (am 4) aD) (dE fR (cC (am 1) aD) (bp (b_min rfl) (by rfl) T.b_min boot_min (aa aD (aa (dE Ht (am 2) (am 4)) ak))))))
   (au (e9 (bF (pL u) (dE fR (cC (am 1) aD) aD) aD (bv _)) (ay (aK (eE (r9 E T) rS hr.m (am 0) (aa (am 3) (aa (am 4) (aa (am 5) ak)))))) cD)
   (ay (aK (eE (vI E T) vd hr.m (am 0) (aa (am 3) (aa (am 4) (aa (am 5) (aa (dE fR (cC (am 1) aD) (dE ip (am 2) aD)) ak)))))))))))))
def gn:=vf P w base mg T.cl_Paper E.y5c 0 fV kH (kz E.z (aI P w)) fun hr u v=>(ay (e9 (jc u (am 1) (e7 T.cl_Paper T.na_Paper_states bq (am 0))) (ay oR) cD))
def lP:=vf P w base mg T.cl_Paper E.y5d 1 gY j9 (jV E.z (aI P w)) fun hr u v=>(au (dY (eE (gn E T) cR hr.m (am 0) (aa (am 1) ak)))
   (ay (aK (j8 u (e7 T.cl_Paper T.na_Paper_states bq (am 0)) (am 1)))))
def gl:=vf P w base mg T.cl_Paper E.y5e 2 fU kF (kt E.z (aI P w)) fun hr u v=>(ay (e9 (bF (sA u) (eE (lP E T) fo hr.m (am 0) (aa (am 1) ak)) (df (by rfl) T.k_WAITS) (bv _)) (ay oR) cD))
theorem Mq:L2.XMk K Ss e0f "stroke":=⟨⟨_,_,_,_,_,_,_,_,_,_,_,_,_,_,_,_,E.yb,E.yc,E.yd⟩,E.ye,E.yf,E.yg,E.yh,⟨_,E.yi,E.yj,E.yk,E.yl,E.ym⟩,E.yn⟩
theorem Ak:ErX P w K mg base 1 "NoStroke" Ss "stroke":=⟨_,_,_,(Mq E T),Ty E.X E.G E.y8,B1 (iG (st:=cu) E.yo E.yp) kR (Mq E T) rfl (Or.inl rfl) (Or.inl rfl),(.all fun us hl=>by obtain⟨_,_,rfl⟩:=Ib (us:=us) hl;rfl)⟩
theorem Mp:L2.XMk K Su e1f "stroke":=⟨⟨_,_,_,_,_,_,_,_,_,_,_,_,_,_,_,_,E.y02,E.y03,E.y04⟩,E.y05,E.y06,E.y07,E.y08,⟨_,E.y09,E.y0a,E.y0b,E.y0c,E.y0d⟩,E.y0e⟩
theorem Br:ErX P w K mg base 1 "Decided" Su "stroke":=⟨_,_,_,(Mp E T),Ty E.X E.G E.y9,B1 (iG (st:=cB) E.y0f E.y0g) ma (Mp E T) rfl (Or.inl rfl) (Or.inl rfl),(.all fun us hl=>by obtain⟨_,_,rfl⟩:=Ib (us:=us) hl;rfl)⟩
def gu:=IY P w base mg T.cl_Paper E.y5c 2 fV (jD E.z (aI P w) Ss Su) (js E.z (aI P w) Ss Su) fun hr u v=>(Bw (Ls (jc u (am 1) (e7 T.cl_Paper T.na_Paper_states bq (am 0))) (Bw (Bv nM (Ak E T) hr.m (by rfl) (aa (am 1) ak))) (vN cD)))
def lQ:=GF P w base T.cl_Paper E.y5d fun F=>A7 (n:=4) (BO 1 F gY j9 (jV E.z (aI P w)) fun hr u v=>(au (dY (eE (gn E T) cR hr.m (am 0) (aa (am 1) ak)))
   (ay (aK (j8 u (e7 T.cl_Paper T.na_Paper_states bq (am 0)) (am 1)))))) (Lp 3 F gY (qi E.z (aI P w) Ss Su) (pX E.z (aI P w) Ss Su) fun hr u v=>(wF (wE nM (gu E T) cR hr.m (am 0) (aa (am 1) ak))
   (vN oQ))) (by decide) (by decide)
def gq:=IY P w base mg T.cl_Paper E.y5e 4 fU (jC E.z (aI P w) Ss Su) (jr E.z (aI P w) Ss Su) fun hr u v=>(Bw (JS nM (lQ E T) fo hr.m (am 0) (aa (am 1) ak) (sA u) (df (by rfl) T.k_WAITS) (Bw (Bv nM (Br E T) hr.m (by rfl) (aa (am 1) ak))) (vN cD)))
def nN:=GF P w base T.cl_Paper E.y5f fun F=>A7 (n:=6) (BO 3 F gZ mr (mh E.z (aI P w)) fun hr u v=>(au (dY (eE (gl E T) cQ hr.m (am 0) (aa (am 1) ak)))
   (ay (fg u (e7 T.cl_Paper T.na_Paper_states bq (am 0)) (am 1) (df (by rfl) T.k_STANDS))))) (Lp 5 F gZ (lE E.z (aI P w) Ss Su) (k_ E.z (aI P w) Ss Su) fun hr u v=>(wF (wE nM (gq E T) cQ hr.m (am 0) (aa (am 1) ak))
   (vN oQ))) (by decide) (by decide)
def m5:=GF P w base T.cl_Paper E.y5g fun F=>A7 (n:=6) (BO 3 F mD uc (s_ E.z (aI P w)) fun hr u v=>(au (dY (eE (gl E T) cQ hr.m (am 0) (aa (am 1) ak)))
   (ay (fg u (e7 T.cl_Paper T.na_Paper_states bq (am 0)) (am 1) (df (by rfl) T.k_WIPED))))) (Lp 5 F mD (rX E.z (aI P w) Ss Su) (rN E.z (aI P w) Ss Su) fun hr u v=>(wF (wE nM (gq E T) cQ hr.m (am 0) (aa (am 1) ak))
   (vN oQ))) (by decide) (by decide)
def my:=IY P w base mg T.cl_Paper E.y5h 3 l_ (kB E.z (aI P w) Ss Su) (km E.z (aI P w) Ss Su) fun hr u v=>(wF (wE nM (gu E T) cR hr.m (am 0) (aa (am 1) ak))
   (vN oQ))
def pG:=pH P w base E.X E.G E.y5i 6 dL t_ (sY E.z (aI P w) Sv Sy Ss Su Sx) fun hr u v=>(au (aZ (i:=3) dL.nd rfl (by walk_at "i") cf)
   (au (Ec rfl rfl (HY (bF (pL u) (am 2) cf (bv _)) (sy (nN E T) nA hr.m (am 0) (aa (am 1) ak)) (HY (bF (pL u) (am 2) cf (bv _)) (sy (m5 E T) mU hr.m (am 0) (aa (am 1) ak)) (HY (bF (pL u) (am 2) cf (bv _)) (sy (my E T) ml hr.m (am 0) (aa (am 1) ak)) (sy (lQ E T) fo hr.m (am 0) (aa (am 1) ak))))) (all_cons (Kh (by rfl) T.xm_Decided T.xe_NoStroke_Decided (w6 (by rfl) T.xm_NoStroke T.xe_NoStroke_NoStroke dL.nd rfl rfl fun v x o dx od hx=>E_ hx T.xa_NoStroke dL.nd rfl rfl rfl rfl)) (all_cons (w6 (by rfl) T.xm_Decided T.xe_Decided_Decided dL.nd rfl rfl fun v x o dx od hx=>E_ hx T.xa_Decided dL.nd rfl rfl rfl rfl) (fun _ h=>nomatch h))))
   (ay (aK (am 3)))))
def uP:=pH P w base E.X E.G E.y5j 6 cN ql (p7 E.z (aI P w) Sv Sy Ss Su Sx) fun hr u v=>(au (aZ (i:=2) cN.nd rfl (by walk_at "i") (iD ak))
   (au (Ec rfl rfl (sy (m5 E T) mU hr.m (am 0) (aa (am 1) ak)) (all_cons (w6 (by rfl) T.xm_QuillError T.xe_NoStroke_QuillError cN.nd rfl rfl fun v x o dx od hx=>KC fun _=>(ay (aZ (i:=2) cN.nd rfl (by walk_at "i") (iD (aa (bp (rC hx T.xa_NoStroke (.inl ⟨_,rfl⟩) T.xk_NoStroke_Decided) (by rfl) T.b_isinstance NV (aa (am 3) (aa (qg (by rfl) T.xm_Decided) ak))) (aa (bp (rC hx T.xa_NoStroke (.inl ⟨_,rfl⟩) T.xk_NoStroke_NoStroke) (by rfl) T.b_isinstance NV (aa (am 3) (aa (qg (by rfl) T.xm_NoStroke) ak))) (aa (bp (rC hx T.xa_NoStroke (.inl ⟨_,rfl⟩) T.xk_NoStroke_NotYours) (by rfl) T.b_isinstance NV (aa (am 3) (aa (qg (by rfl) T.xm_NotYours) ak))) (aa (bp (rC hx T.xa_NoStroke (.inr ⟨_,rfl⟩) T.xk_NoStroke_ValueError) (by rfl) T.b_isinstance NV (aa (am 3) (aa (Kq (by rfl) T.b_ValueError B6) ak))) ak)))))))) (all_cons (w6 (by rfl) T.xm_QuillError T.xe_Decided_QuillError cN.nd rfl rfl fun v x o dx od hx=>KC fun _=>(ay (aZ (i:=2) cN.nd rfl (by walk_at "i") (iD (aa (bp (rC hx T.xa_Decided (.inl ⟨_,rfl⟩) T.xk_Decided_Decided) (by rfl) T.b_isinstance NV (aa (am 3) (aa (qg (by rfl) T.xm_Decided) ak))) (aa (bp (rC hx T.xa_Decided (.inl ⟨_,rfl⟩) T.xk_Decided_NoStroke) (by rfl) T.b_isinstance NV (aa (am 3) (aa (qg (by rfl) T.xm_NoStroke) ak))) (aa (bp (rC hx T.xa_Decided (.inl ⟨_,rfl⟩) T.xk_Decided_NotYours) (by rfl) T.b_isinstance NV (aa (am 3) (aa (qg (by rfl) T.xm_NotYours) ak))) (aa (bp (rC hx T.xa_Decided (.inr ⟨_,rfl⟩) T.xk_Decided_ValueError) (by rfl) T.b_isinstance NV (aa (am 3) (aa (Kq (by rfl) T.b_ValueError B6) ak))) ak)))))))) (fun _ h=>nomatch h))))
   (ay (aK (am 2)))))
def lR:=pH P w base E.X E.G E.y5k 7 dD qk (pZ E.z (aI P w)) fun hr u v=>(au (aZ (i:=4) dD.nd rfl (by walk_at "i") cf)
   (au (e9 (jc u (am 2) (am 1)) (ay (aZ (i:=4) dD.nd rfl (by walk_at "i") (eZ (aa cf (aa (am 2) ak))))) (ay (e9 (bF (sA u) (j8 u (am 1) (am 2)) cf (bv _)) (ay (aZ (i:=4) dD.nd rfl (by walk_at "i") (eZ (aa cf (aa (am 2) ak))))) cD)))
   (au (e9 (bF (sA u) (aL (pG E T) hr.m (by rfl) (aa (am 0) (aa (am 2) (aa (am 3) ak)))) (am 4) (bv _)) (ay (aK rR)) cD)
   (au (e9 (bF (pL u) (am 4) cf (bv _)) (au (fg u (am 1) (am 2) (am 3))
   (ay (aK rR))) cD)
   (au (i9 Nv rfl (e8 (iD (aa cf (aa cf ak)))) (bd (i:=5) dD.nd rfl (by walk_at "i")) (ay (e9 (PW.pt (Hv (jc u (am 2) (am 1)) (DD (bF (sA u) (aL (pG E T) hr.m (by rfl) (aa (am 0) (aa (am 2) (aa (am 5) ak)))) (am 4) (bv _))))) (ay (aK rR)) cD)))
   (ay (aK (EG (JU u) (aL (uP E T) hr.m (by rfl) (aa (am 0) (aa (am 2) ak))) (iD (aa (HF u (am 2) (am 1)) (aa (EF u (am 2) (am 1)) (aa rR (aa rR ak))))) (bv _)))))))))
def mx:=vf P w base mg T.cl_Paper E.y5l 0 l9 lF (lb E.z (aI P w)) fun hr u v=>(ay (aK (BK (T:=Av0) (M:=AE0) (bJ rfl (by kernel_rfl)) (fun cl C s₀ H₀ fp=>⟨(bd (i:=0) kA rfl (by walk_at "i")),(m8 (bF (pL u) (j8 u (e7 T.cl_Paper T.na_Paper_states bq (am 1)) (cC (am 0) aD)) (am 2) (bv _))),(am 0)⟩) (e7 T.cl_Paper T.na_Paper_drawn dj (am 0)))))
def ji:=vf P w base mg T.cl_Paper E.y5m 1 pS o0 (oA E.z (aI P w)) fun hr u v=>(ay (aK (jw (T:=Av0) (M:=Ad0) (bJ rfl (by kernel_rfl)) (fun cl C s₀ H₀ fp=>⟨(bd (i:=0) nC rfl (by walk_at "i")),jm,(cC (am 0) aD)⟩) (e8 (eE (mx E T) mj hr.m (am 0) (aa (df (by rfl) T.k_WAITS) ak))))))
def jk:=vf P w base mg T.cl_Paper E.y5n 0 pU o7 (oC E.z (aI P w)) fun hr u v=>(ay (aK (tO b_list (by rfl) T.b_list PyProof.Rows.boot_list (aa (e7 T.cl_Paper T.na_Paper_drawn dj (am 0)) ak))))
def x_:=pH P w base E.X E.G E.y5o 8 mC t9 (sX E.z (aI P w)) fun hr u v=>(au (e9 (bF (sA u) (BL (T:=AF0) (M:=Ab0) (bJ rfl (by kernel_rfl)) (fun cl C s₀ H₀ fp=>⟨(bd (i:=0) rW rfl (by walk_at "i")),jm,(eE (lP E T) fo hr.m (am 1) (aa (am 0) ak))⟩) (am 1)) (Gq rfl (by rfl) T.b_list (am 1)) (bv _)) (ay (aK rR)) cD)
   (au (e9 (bF (sA u) (dA (ji E T) jd hr.m (am 0)) (BL (T:=AF0) (M:=Ab0) (bJ rfl (by kernel_rfl)) (fun cl C s₀ H₀ fp=>⟨(bd (i:=0) rV rfl (by walk_at "i")),(m8 (bF (pL u) (j8 u (am 2) (am 0)) cf (bv _))),(am 0)⟩) (am 1)) (bv _)) (ay (aK rR)) cD)
   (au (F6 (T:=AF0) (M:=Ab0) (i:=3) (bJ rfl (by kernel_rfl)) mC.nd rfl rfl (fun cl C s₀ H₀ fp=>⟨(bd (i:=0) rU rfl (by walk_at "i")),(m8 (bF (sA u) (j8 u (am 2) (am 0)) cf (bv _))),(am 0)⟩) (am 1))
   (au (e9 (bF (sA u) (dA (fy E T) fq hr.m (am 0)) (aL (uN E T) hr.m (by rfl) (aa (am 2) (aa (AL (dA (jk E T) jf hr.m (am 0))) (aa (am 3) ak)))) (bv _)) (ay (aK rR)) cD)
   (ay (aK (EG (pL u) (dA (m4 E T) mV hr.m (am 0)) (aL (wC E T) hr.m (by rfl) (aa (am 2) (aa (AL (dA (jk E T) jf hr.m (am 0))) (aa (am 3) ak)))) (bv _))))))))
def Ho:=Ky P w base E.X E.G E.y5 E.y37 E.y38 E.y5p fun F=>BO 0 F nX nH (nt E.z (aI P w)) fun hr u v=>(au (tG (L:=[]) T.cl_Paper T.na_Paper_old (by decide +kernel) (by decide) (am 0) (am 1))
   (au (tG (L:=["old"]) T.cl_Paper T.na_Paper_drawn (by decide +kernel) (by decide) (am 0) (AL (iD ak)))
   (au (tG (L:=["old","drawn"]) T.cl_Paper T.na_Paper_states (by decide +kernel) (by decide) (am 0) lA)
   (au (tG (L:=AJ0) T.cl_Paper T.na_Paper_greatest (by decide +kernel) (by decide) (am 0) IH)
   (ay (tG (L:=["old","drawn","states","greatest"]) T.cl_Paper T.na_Paper_time (by decide +kernel) (by decide) (am 0) aD))))))
omit T
theorem all_mk(hfa:mg "law"=some (.ref fa)):
  ∃ fd:N4,(∀ (s:MU) (v:MS),QU s fd ⟨[v],[]⟩ [("_law_script",v)])/\∀ base:Nf,K.In base->base.Ns Na mg->FnOk P w K mg base pJ 10 fa fd ["_law_script"] (b9 K wJ):=by
 have T:=MD E;obtain⟨f,a,⟨⟨_,_,an,_,kV,dc,pm,cd,ct,l,c⟩⟩,_⟩:=E.y5q.ex;have e:=hfa.symm.trans (Ty E.X E.G a);cases e;have F:=iG (st:=vW) l c;refine⟨UH "law" "law" (eM vW) (cT vW) (ah vW) .none kV dc pm an cd ct,fun s v=>.of_eq rfl,fun base _ _=>?_⟩;exact BO 9 F gX (@GM E.z (aI P w)) (F3 E.z (aI P w)) fun hr u v=>(au (aZ (i:=1) gX.nd rfl (by walk_at "i") (aL (uQ E T) hr.m (by rfl) (aa (am 0) (aa aD ak))))
   (au (aZ (i:=2) gX.nd rfl (by walk_at "i") (oV Dy cf AQ (nw (dE fR (am 1) aD))))
   (au (aZ (i:=3) gX.nd rfl (by walk_at "i") (lu (Ho E T) hr.m (by rfl) (aa (am 2) ak)))
   (au (aZ (i:=4) gX.nd rfl (by walk_at "i") lA)
   (au (i9 Nv rfl (e8 (oV Dy (am 0) (nw aD) (nw aD))) (bd (i:=5) gX.nd rfl (by walk_at "i")) (au (aZ (i:=6) gX.nd rfl (by walk_at "i") (aL (vL E T) hr.m (by rfl) (aa (am 5) (aa aD ak))))
   (au (e9 (PW.pt (JW (tM DA (dE fR (cC (am 6) aD) aD) aD (bv _)) (Hu (bF (JT u) (am 4) lA (bv _))))) (ay (fg u (am 4) (aL (Aj E T) hr.m (by rfl) (aa (am 3) (aa (am 6) ak))) cf)) (au (aZ (i:=7) gX.nd rfl (by walk_at "i") (dE ip (Gr rfl (by rfl) T.b_list (am 4)) (iD (aa (eZ (aa cf (aa (dE ip (dE JR aD aD) (dE fR (cC (am 6) aD) aD)) ak))) (aa (eZ (aa cf (aa aD ak))) ak)))))
   (au (aZ (i:=8) gX.nd rfl (by walk_at "i") (cC (am 7) (dE fR (cC (am 6) aD) (bp b_len (by rfl) T.b_len PySem.boot_len (aa (am 7) ak)))))
   (au (aZ (i:=9) gX.nd rfl (by walk_at "i") (dA (ji E T) jd hr.m (am 3)))
   (au (e9 (PW.pt (Hv (tM Lu (dE fR (cC (am 6) aD) aD) aD (bv _)) (DD (bF (sA u) (am 9) (iD ak) (bv _))))) (ay (aZ (i:=8) gX.nd rfl (by walk_at "i") (cC (am 9) (dE fR (cC (am 6) aD) (bp b_len (by rfl) T.b_len PySem.boot_len (aa (am 9) ak)))))) cD)
   (ay (e9 (tL (ib (aL (lR E T) hr.m (by rfl) (aa (am 3) (aa (am 4) (aa (am 8) (aa (cC (iD (aa cf (aa cf ak))) (dE fR (cC (am 6) aD) aD)) ak))))))) (ay (aK rR)) cD)))))))
   (ay (e9 (tL (ib (aL (x_ E T) hr.m (by rfl) (aa (am 3) (aa (am 4) (aa (am 2) ak)))))) (ay (aK rR)) cD)))))
   (ay (aK (aL (lR E T) hr.m (by rfl) (aa (am 3) (aa (am 4) (aa (eZ (aa cf (aa aD ak))) (aa cf ak))))))))))))
end
end RQ
open PySem PySem.W PyProof.Rows
local macro_rules | `(tactic| walk_at "gq") => `(tactic| first | k_is | kernel_rfl | (intro _; kernel_rfl) | (refine' L3.fnG_mk ?a ?l ?c ?k; (case a => k_is); (case l => k_is); (case c => k_is); (case k => k_is)) | (refine' L3.mtG_mk ?a ?i ?l ?c ?k; (case a => k_is); (case i => k_is); (case l => k_is); (case c => k_is); (case k => k_is)) | (refine' L2.Cls.mk ?a ?b ?c ?d; (case a => k_is); (case b => k_is); (case c => k_is); (case d => k_is)) | (refine' L3.mtD_mk ?a ?i ?l ?c ?k ?d; (case a => k_is); (case i => k_is); (case l => k_is); (case c => k_is); (case k => k_is); (case d => k_is)) | (refine' L3.cfG_mk ?g ?r ?a ?l ?c ?k; (case g => k_is); (case r => k_is); (case a => k_is); (case l => k_is); (case c => k_is); (case k => k_is)) | skip)
namespace PySem.W.Fast
def tw13850658737689881274:=0
def tw2938342337244412663:=0
def tw7775397346871444181:=0
def tw7949562679168177577:=0
def tw1135647643851067119:=0
def tw345243677524593396:=0
def tw12735037938361118156:=0
def tw9513808336071243698:=0
def tw12870745836580201080:=0
def tw14109801905590862493:=0
def tw16731678673698769683:=0
def tw8643039059693785200:=0
def tw3040833484372413949:=0
def tw10766630947255265094:=0
def tw3586590726560573839:=0
def tw5898294490100846913:=0
def tw3335780627079759951:=0
def tw10440893858457794425:=0
def tw9075720154462456892:=0
def tw15926060545518093559:=0
def tw5439420114646193593:=0
def tw2280128229193019396:=0
def tw3041734253134892037:=0
def tw14551487362075336528:=0
def tw9977715668306336110:=0
def tw9370742904046424384:=0
def tw9939557356424825170:=0
def tw12394602126951188435:=0
def tw6689227762291825876:=0
def tw16741071438017180562:=0
def tw14656354343855481157:=0
def tw17211312953835548406:=0
def tw2376512836870334203:=0
def tw5269078810196519977:=0
def tw7673295960758596866:=0
def tw17644494279621554512:=0
def tw17799077995249520795:=0
def tw3992256498152077916:=0
def tw585533167346322112:=0
def tw11843144701239555053:=0
def tw8890951331804194021:=0
def tw3554424150850091989:=0
def tw17204422290877293063:=0
def tw12699587051052398537:=0
def tw17255812862669762251:=0
def tw1069249285003011497:=0
def tw8982443956580231383:=0
def tw5223323742773592887:=0
def tw13312109439737994615:=0
def tw1769974302299120450:=0
def tw5017969518010489477:=0
def tw11274207126529768797:=0
def tw754159619416953560:=0
def tw14396591172118533504:=0
def tw10232732431466138785:=0
def tw12293407039679949875:=0
def tw701923358187962391:=0
def tw650657546698039407:=0
def tw7587110434265705723:=0
def tw15026774324093720956:=0
def tw3979152549168380416:=0
def tw4211399067648747594:=0
def tw12937366432458970940:=0
def tw4122805460094539870:=0
def tw361680231891844734:=0
def tw13965776049533269617:=0
def tw9715612801621443106:=0
def tw14691531295990613861:=0
def tw6858145911616985430:=0
def tw950685152477707785:=0
def tw1734663229861720453:=0
def tw10124872943114054881:=0
def tw8383089153402789093:=0
def tw14468152592663766609:=0
def tw1130471223472104284:=0
def tw17327775290437532621:=0
def tw10903294611413221303:=0
def tw15963616636856740234:=0
def tw5284999202651743180:=0
def tw13856210878528244841:=0
def tw7631727414027110912:=0
def tw12630970795456805669:=0
def tw11174872983594976957:=0
def tw1307936295712556747:=0
def tw5373299908588672455:=0
def tw350190635443439099:=0
def tw13547863426401320690:=0
def tw7260128467217838814:=0
def tw14432667609969537047:=0
def tw5796254329585157754:=0
def tw17468636916933940811:=0
def tw16627775270287122723:=0
def tw9348870671365368519:=0
def tw3560363928710073239:=0
def tw4775168238358347340:=0
def tw12378062840250884055:=0
def tw11743197174080236715:=0
def tw9156751100373156278:=0
def tw16716382145619557322:=0
def tw3711333186958371822:=0
def tw18114760026506297555:=0
def tw14148503410643926968:=0
def tw8119561211142960547:=0
def tw6049622612792665707:=0
def tw13928187869294268929:=0
def tw3173476749639831928:=0
def tw4407426339135046724:=0
def tw6726299852970655710:=0
def tw12509645748117973090:=0
def tw5229673966860983130:=0
def tw10603727721279493486:=0
def tw15377101310181967931:=0
def tw12739864778447160076:=0
def tw1077412762488997300:=0
def tw14646859554438836757:=0
def tw5958067161355295767:=0
def tw11157913610430088429:=0
def tw12872569717782613722:=0
def tw7322011678007802235:=0
def tw10667195901594850967:=0
def tw13917399901393810474:=0
def tw8123885348435859737:=0
def tw2804603006074548425:=0
def tw10035163634793262818:=0
def tw1819342892350972025:=0
def tw183070593985476992:=0
def tw6557913820089570345:=0
def tw18273339413796734706:=0
def tw15756209506548643985:=0
def tw13785605464795977886:=0
def tw1334729110047194906:=0
def tw10608141441662917826:=0
def tw1490151357433889970:=0
def tw8658363966905986742:=0
def tw14113839076766542306:=0
def tw17590427237200330325:=0
def tw14005598768917606871:=0
def tw18127830011635686810:=0
def tw3356133031312987113:=0
def tw6537045852095001570:=0
def tw7485553524678309147:=0
def tw3222179161097908043:=0
def tw6277089073389994534:=0
def tw4587685379498454369:=0
def tw5682244645708456316:=0
def tw14118259477637006084:=0
def tw13104010458637738262:=0
def tw5738691723172339163:=0
def tw7197081914964226855:=0
def tw16355099712587622612:=0
def tw13334353535802045035:=0
def tw12087050313315490914:=0
def tw2813468879687069350:=0
def tw17238539705528711140:=0
def tw7001151306693390665:=0
def tw6803826342433994400:=0
def tw4281261283458549539:=0
def tw10111227055105017440:=0
def tw17602124551082520663:=0
def tw12565906234515512070:=0
def tw3685056594735929661:=0
def tw17751498106257742094:=0
def tw4744014947762323061:=0
def tw1387685505371677419:=0
def tw11043899508067703923:=0
def tw8364211476424724121:=0
def tw13695386195970230466:=0
def tw723293034340010690:=0
def tw3113922120046968476:=0
def tw9463165198051517895:=0
def tw15778654030230931571:=0
def tw6136879579173814089:=0
def tw13298604609350578581:=0
def tw6546866354799797253:=0
def tw11060812890152919832:=0
def tw2457370947115336395:=0
def tw12716866731874778181:=0
def tw9600335019986951779:=0
def tw4950570706346440685:=0
def tw18432074127856755659:=0
def tw6281012411676631849:=0
def tw14880747392768615155:=0
def tw12360809108415985963:=0
def tw13961777455071861032:=0
def tw7962516316173157698:=0
def tw11337319102579244655:=0
def tw7483216422161124356:=0
def tw16262206942346639255:=0
def tw8270327533716149211:=0
def tw10945652795010277880:=0
def tw17906366919421900517:=0
def tw12444328185705872157:=0
def tw11154198464839315874:=0
def tw9972089747257787808:=0
def tw5510785676720804746:=0
def tw12310671775146605816:=0
def tw3647555534597257188:=0
def tw17284049072638769169:=0
def tw10414135951202809437:=0
def tw5818606986580277524:=0
def tw8890716439569466229:=0
def tw2432352687624261488:=0
def tw14725690257435051131:=0
def tw6165599183128682810:=0
def tw11237045348404570341:=0
def tw1667437261327071777:=0
def tw3531255621188830770:=0
def tw18276110105755109962:=0
def tw11206521011685080465:=0
def tw15423203684387361292:=0
def tw12373726464080080102:=0
def tw8623006866958274911:=0
def tw3645866749408653870:=0
def tw17836403327995113668:=0
def tw6335335434051048944:=0
def tw15610648306182075691:=0
def tw13819806404353966569:=0
def tw9576548759565774097:=0
def tw15062542177142196093:=0
def tw4210785034976936721:=0
def tw1369354600522458432:=0
def tw13389550792290070922:=0
def tw13545603532775561200:=0
def tw16557547645788753658:=0
def tw9108654894687285336:=0
def tw2487926992477538645:=0
def tw14122601926566862871:=0
def tw12905215263617287860:=0
def tw5819490552333990758:=0
def tw468700637799459755:=0
def tw694123849027909302:=0
def tw4007953179944032368:=0
def tw3598225266775970208:=0
def tw9942246872239681359:=0
def tw3977463797754824163:=0
def tw7724838286956918101:=0
def tw879162371808300898:=0
def tw4139301595482995608:=0
def tw14966067674995505214:=0
def tw11389337963178623092:=0
def tw10663986477102427882:=0
def tw2738456248081024182:=0
def tw14410892359532433854:=0
def tw8903203827585197846:=0
def tw434796699874952679:=0
def tw3572924921514394997:=0
def tw14529822395125573789:=0
def tw1144455048115647417:=0
def tw15193588657674389522:=0
def tw13253007320260799835:=0
def tw11187011988610631195:=0
def tw6432328878707289164:=0
def tw5253271025379403385:=0
def tw15030588799340755265:=0
def tw12861272852634554812:=0
def tw10609320261572565921:=0
def tw16274876707568351017:=0
def tw12835291603550182895:=0
def tw3758764566976552563:=0
def tw18178112293955382113:=0
def tw2606654734762707046:=0
def tw123313476108344242:=0
def tw12384362402378289002:=0
def tw17206762167957178672:=0
def tw15330542868738985244:=0
def tw13535780190179973719:=0
def tw10745465778050144062:=0
def tw5890358753870321131:=0
def tw14565767654007470829:=0
def tw6203735873843882148:=0
def tw16430087362795872117:=0
def tw7868196631394170959:=0
def tw12913041914281814149:=0
def tw4764129851855220175:=0
def tw17641459041774873689:=0
def tw8476292998998337800:=0
def tw17884121379581076997:=0
def tw17495756279745200419:=0
def tw9184225194140867388:=0
def tw15935999272978845526:=0
def tw6014864186900015333:=0
def tw8799407694536476196:=0
def tw15195859799388153354:=0
def tw11770306138800864780:=0
def tw10505074708089020952:=0
def tw16279625935467972778:=0
def tw17799751836491302018:=0
def tw15560901742238513451:=0
def tw11103296469319777230:=0
def tw10663245930947946047:=0
def tw7108387952002421803:=0
def tw17034326251996362451:=0
def tw16560545478101651374:=0
def tw12906657545661163399:=0
def tw12339996820864958434:=0
def tw5488529302623250239:=0
def tw4436241627806085259:=0
def tw6639562305945781228:=0
def tw13669663121454189114:=0
def tw2977979848285968192:=0
def tw1534773065969934308:=0
def tw5262951974929068291:=0
def tw14602696337817165513:=0
def tw14243305055152027201:=0
def tw7975049656620556432:=0
def tw16098732089154985282:=0
def tw14470177710477870526:=0
def tw8830639596518759996:=0
def tw468808538395123889:=0
def tw4637010961254311210:=0
def tw4423403881255565621:=0
def tw4072351996700138326:=0
def tw2329645256495395852:=0
def tw1824572823290239275:=0
def tw14137660100361043125:=0
def tw6453698235576964260:=0
def tw9822741852293878422:=0
def tw8898235825729765109:=0
def tw13770665945764017183:=0
def tw1158936080235397464:=0
def tw10334508888143974656:=0
def tw13982229389020418425:=0
def tw7030089167536473723:=0
def tw3766771721828890173:=0
def tw1564532437198577315:=0
def tw14735279096022724977:=0
def tw14390713968171792834:=0
def tw18306232119444225979:=0
def tw15136794113020803470:=0
def tw1133996188254360572:=0
def tw7706731164962998402:=0
def tw3710011029733905020:=0
def tw355491279539223889:=0
def tw2253096232727365056:=0
def tw1809987566332720521:=0
def tw15891034800075509003:=0
def tw13895720170195358383:=0
def tw12562640228443662771:=0
def tw11184200416772235184:=0
def tw10591196337841873868:=0
def tw3024205340281563759:=0
def tw14528362885768628096:=0
def tw12192531397782823650:=0
def tw1148241045772697804:=0
def tw3974874708147350270:=0
def tw3029180749265913616:=0
def tw18147544802797552589:=0
def tw16272084765764614156:=0
def tw15849323996830704917:=0
def tw5826726585636039821:=0
def tw1820894441286257413:=0
def tw14461797424630542950:=0
def tw11875508434181814730:=0
def tw9743141161063631677:=0
def tw7354005310861101220:=0
def tw4133286520372064244:=0
def tw199853448595000777:=0
def tw2642844682196904933:=0
def tw17066800531707171997:=0
def tw13532542626898797489:=0
def tw16253846226764733728:=0
def tw14830907823041907839:=0
def tw5561032229811229472:=0
def tw2611930767314161014:=0
def tw14160536903955568608:=0
def tw65127494551529396:=0
def tw14048971874958263173:=0
def tw4909736118719322022:=0
def tw12718941715665693244:=0
def tw17472405797266124912:=0
def tw6045096331482860843:=0
def tw17736121117918153767:=0
def tw17660673263765631558:=0
def tw14901301103108031244:=0
def tw9754306181901325490:=0
def tw14290636156968901198:=0
def tw7118900358644170852:=0
def tw16100421917789343900:=0
def tw17164616351851748957:=0
def tw16304782405474937150:=0
def tw12236482157749271479:=0
def tw7074134647621272663:=0
def tw9990538693640747249:=0
def tw6859658611272140776:=0
def tw3501670907694619847:=0
def tw11286907069271028040:=0
def tw2848799982117292394:=0
def tw4507872313921499311:=0
def tw7797476959067019125:=0
def tw7520414347681777032:=0
def tw16774501225719699810:=0
def tw680272177641413363:=0
def tw902117993314709226:=0
def tw18060736495249031228:=0
def tw9512287287805061013:=0
def tw5242731004090275168:=0
def tw2115350778598781700:=0
def tw11772263117496647508:=0
def tw10415826818134069666:=0
def tw5726386729153220991:=0
def tw15854206185614852665:=0
def tw7119147916080646436:=0
def tw2836270679107208575:=0
def tw3894988712665758407:=0
def tw2311121451001391456:=0
def tw10846422304869114876:=0
def tw10534208098222097853:=0
def tw3618001258936670221:=0
def tw4354026235990301902:=0
def tw3396220462058972560:=0
def tw16708927575216975260:=0
def tw2821098970340784250:=0
def tw18267055581314373356:=0
def tw969109979706228574:=0
def tw5283398440595898612:=0
def tw7481973532565626262:=0
def tw17189815163714036371:=0
end PySem.W.Fast
set_option maxRecDepth 100000 in
set_option maxHeartbeats 0 in
theorem PySem.Challenge.cw_redquill_k53_decided_one_by_one_holds : PySem.Challenge.rw_redquill_k53_decided_one_by_one.Holds := by
 w_on;o_law;k_head;(case hw=>w_witness2)
 k_fill
 refine L3.walk3 (l:=PySem.Challenge.rw_redquill_k53_decided_one_by_one) (k:=10) (x:="_law_script") rfl rfl ⟨rfl,by decide,by decide⟩ (fun w h Y=>PySem.W.kIn_of Y) ?F
 case F=>
  intro w mg fa h KX G hmg;refine' RQ.all_mk (.mk KX G ..) hmg
  all_goals walk_at "gq"
