import PyProof.Rows.All
import Wide.All
import OpenK.AllK
import Wide.FinOn
import Lean
import PyProof.EqAt
import PyProof.EqKinds
import PyProof.TupleCall
import PySem.Challenge.RW_redquill_k62_many_decided
set_option Elab.async false
set_option linter.all false
set_option maxRecDepth 100000
set_option maxHeartbeats 4000000
open PySem renaming wpAny_bind->Me,Value->Mf,Addr->Mg,Shared->Mi,wpAny_pure->Mj,wpAny->Mo,sizeLine->Mq,starEach->Mr,model->Ms,Program->Mw,mainGlobals->Mx,Around->MB,Heap->MD,World->MG,Expr->MJ,Stmt->ML,compareOp->MS,cLine->MT,wpAny_newObj_type->MW,tupleKind_room_in1->M4,sysModules->M5,wpAny_passesOwn->M7,wpAny_holding->M8,rawInt->M9,wpAny_mono->M_,wpAny_call_entry->Nd,wpAny_callSpecial?_slot->Nf,behindInMarks->Ng,foldedSetIterable->Nh,sizeLine_eq->Ni,wpAny_setField_rec->Nj,tupleKind->Nk,backTo->Nn,wpAny_field->Nr,wpAny_Call_Name_kw->Nw,binaryOp->Nx,wpAny_truthy_bool->Nz,bootBuiltins->NA,FuncData->NB,wpAny_typeNameOfWhole_valiter->NF,wpAny_typeNameOfWhole_keyiter->NG,sliceBounds->NH,pyNext->NK,assignEach->NM,attributeBase->NS,wpAny_dictEntries->NT,Scope->NV,wpAny_seqItems->NW,keywordEach->NZ,swapsWith->N3,wpAny_typeNameOf_valiter->N6,wpAny_typeNameOf_keyiter->N7,wpAny_attempt->N8,wpAny_dictEpoch->Ob,letOwnedTupleGo->Oc,IsPair->Of,atKey->Ov,wpAny_execs_nil->Ox,Paired->Oz,standAt->OB,codeAny_mono->OD,getMethod->OE,pyIter->OF,getattributeRaised->OG,backToKw->OH,NameKind->OJ,wpAny_pyIter_list->OL,strIterType->OM,codeAny->OP,getItem->OW,CmpOp->O4,wpAny_notOrdered_dict->O5,wpAny_isOneOf_valiter->O6,builtinLookup_eq_fast->O7,wpAny_updateSeq_pair->O9,wpAny_setField->O_,wpAny_fieldsOf->Pa,firstArgMember->Pf,storedH->Ph,PassesOwn->Pk,wpAny_standAt->Pm,wpAny_onRaise->Pn,wpAny_rule->Pq,typeLookup->Pr,qualnameIn->Ps,IsPart->Pw,wpAny_pyIter_slot->Px,valueAt->Py,getAttr?->Pz,call_meetsIn->PB,callWith->PD,wpAny_isInstance->PJ,Arguments->PM,wpAny_letGo->PN,subscripted->PP,typeLookup_type->PY,relabel->PZ,Keyword->P4,wpAny_newTuple->P5,wpAny_call->P6,isSubtype_stop->P8,closureFor->P_,builtinsNs->Qa,SetTable->Qb,wpAny_comprehension_free->Qe,meetsH_dict_get_default->Qk,bindL->Qo,bindC->Qp,wpAny_typeOf->Qs,wpAny_pyNext_list_item->Qt,isTrue->Qv,concat_meets->Qw,callerA->Qx,wpAny_pyNext_list_end->QB,wpAny_isTrue_Compare1->QC,wpAny_isOneOf_keyiter->QD,codeAny_call_function->QE,wpAny_newFunctionEnv->QG,setField->QH,seqIndex_of->QI,loadIfAlive->QK,codeAny_forLoop_any->QQ,wpAny_setItem_heap->QR,wpAny_getItem_heap->QS,wpAny_dictSet_heap->QT,wpAny_Name->QU,typeIs_str->QV,sub_AttributeError->QW,sliceRange->QX,call_meets->Q0,Result->Q2,wpAny_assign_Name->Q5,setItem->Q9,Draws->Rg,BindsTo->Ri
open PySem.Str renaming ofString->Mh,length->OZ
open List renaming length_map->Ml,getElem?_eq_getElem->Mp,size_toArray->Mt,mem_of_getElem?->Mv,mem_cons_of_mem->My,mem_cons_self->Mz,getElem?_map->MA,length_cons->MC,getD_eq_getElem?_getD->ME,map_cons->MF,set_cons_zero->MK,take_length->MM,not_mem_nil->MN,mem_cons->MP,take_add_one->MQ,find?_cons->MR,map_map->MU,mem_append_right->MV,map_append->MY,length_nil->MZ,set_cons_succ->M1,length_filter_le->M3,length_take->M6,length_append->Na,getElem?_cons_zero->Nb,getElem?_cons_succ->Nc,append_nil->No,lookup_cons->Nt,filter_append->Nu,map_congr_left->ND,mem_of_mem_take->NP,getElem?_set_ne->NQ,nodup_cons->NY,filterMap_cons->N0,getElem?_eq_none->N4,forIn_cons->Oe,cons_append->Oi,mem_map_of_mem->Oj,nil_append->Oq,zip_cons_cons->Ot,getElem_mem->Ou,pairwise_map->OC,length_drop->ON,getElem_map->OO,forIn_nil->OS,any_cons->OT,foldl_cons->OX,countP_cons->Pg,map_nil->Pi,length_zip->Pu,nodup_nil->PK,any_eq_true->PU,mem_singleton->Qg,mem_append->QY
open PySem.Heap renaming get?_push_of_some->Mm,get?_push_size->Mn,lt_size->Mu,size_push->Ny,SameBut->NN,get?_update_other->On,get?_update_self->O8,get?_push_ne->Rc
open Nat renaming lt_of_lt_of_le->MH,ne_of_lt->MO,zero_le->M0,lt_or_ge->N9,lt_succ_self->Ol,ne_of_gt->Pc,le_of_eq->Pd
open PySem.PassesOwn renaming never->MI
open PySem.Builtin.SmallTypes renaming nextOf->MX,ownedTupleIsFree->Nv,ownedTupleHandOut->Pl
open PySem.W renaming kitOne->Nl,tabObj->NI,mg_none_of->NL,kas_rev->NU,kia_one->Od,kas_tail3->Og,emptyDict->Oh,kas_desc->Om,Frag->Ow,methodCall_KW->OQ,kas_descPart->OU,instObj->OV,callWith_K->OY,keepIn->Pe,kas_place->Pj,plainGet_of->PQ,kas_bin->P0,binds_K->P3,plainGet->P7,codeIn->P9,fnOf->Qh,mroIn->Qi,methodObj->Qj,kitx_list->Ql,kas_count->Qm,hasDictIn->Qn,mg_of->QJ,kas_sort->QL,lookIn->QZ,KasT->Q4,takesIn->Q6,takerIn->Q7,tabIn->Q8,OpenLaw->Q_,findIn->Sj,nsIn->Sm,makesIn->Sn,specialIn->So,isFn->Sq
open PySem.Builtin.Dict_items renaming ownsTuple->Np
open PySem.Builtin.Str renaming strSliceIndices->Nq
open PySem.Obj renaming mapSeq->NC,data_mapFields->OI,mapFields->OR,isFreed_of_fields->QF,cls_mapFields->Ra
open PySem.F renaming slot_dict_valueiterator_next->NE,slot_dict_keyiterator_next->NR,slot_zip_next->O3,args_dict_valueiterator_next_1->PF,entry_dict_valueiterator_next->PH,args_dict_keyiterator_next_1->PL,entry_dict_keyiterator_next->PX,slot_dict_values_iter->Qq,args_zip_next_1->Rf
open PyProof.Rows renaming seqObj->NJ,envOfC->Os,boot_isinstance->Oy,AllBare->O1,get?_update_seq->O2,listUpdate_at->Po,mirror_perm->PR,subscriptTail->Qf,subscriptTail_builtinR->Qu,bubble_size->QM,Subscript_->Q1,IntsAre->Rb,Call_->Rh
open PySem.Calls renaming spliced_cons->NO,spliced_nil->Oo,callWith_builtin->O0,Name_function_global->Qc,evalArgs_plain->QN
open PySem.Builtin.Slice renaming slicePlaces->N5,sliceAdjust->OK,sliceApplied->Qd
open PySem.Paired renaming length->N_,snoc->PV
open PySem.Builtin.Tuple renaming tupleExact->Oa
open PySem.Builtin.Dict renaming showsAll->Op,updateFrom->Qr,pairItems->Qz
open PySem.Heap.SameBut renaming update->OA,refl->Re
open PySem.Code renaming isFrame->Qy
open PySem.Around renaming under->QA,under_plainId->QO,frames_deeper->QP
noncomputable section
open List (mem_filter mem_range length_eq_zero_iff mem_iff_getElem mem_map)
open Nat (le_trans le_of_lt le_refl)
abbrev Aa0:List PySem.Str:=["_law_paper","_law_number","_law_many","_law_turn","_law_picks","_law_states_here","_law_stands","_law_rows","_law_due","_law_which","_law_found","_law_word","_law_wanted"]
abbrev Ab0:List PySem.Str:=["name","time","anchor","names"]
abbrev Ac0:List PySem.Str:=["old","strokes","standing","row","working","brought","struck","taken","worn","sitting","name","seats"]
abbrev Ad0:List PySem.Str:=["self"]
abbrev Ae0:List PySem.Str:=["strokes","standing","in_row","stands","chosen"]
abbrev Af0:List PySem.Str:=["name","time","anchor","names","signs"]
abbrev Ag0:List PySem.Str:=["name","time","anchor","names","word"]
abbrev Ah0:List PySem.Str:=["self","name"]
abbrev Ai0:List PySem.Str:=["old","strokes","standing","row","working","brought","struck","taken","worn","sitting","-name","seats"]
abbrev Aj0:List PySem.Str:=["_law_script","_law_cell","_law_old","_law_pens_here","_law_paper","_law_one","_law_k"]
abbrev Ak0:List PySem.Str:=["old","strokes","standing"]
abbrev Al0:List PySem.Str:=["_law_paper","_law_pens_here","_law_cell","_law_number","_law_waiting","_law_name"]
abbrev Am0:List PySem.Str:=["_law_paper","_law_pen","_law_number","_law_many","_law_way","_law_at","_law_to"]
abbrev An0:List PySem.Str:=["old","strokes","following","stroke"]
abbrev Ao0:List PySem.Str:=["_law_cell","_law_size","_law_at","_law_found","_law_k","_law_letter"]
abbrev Ap0:List PySem.Str:=["paper","which","names","name"]
abbrev Aq0:List PySem.Str:=["_law_paper","_law_stands","_law_which"]
abbrev Ar0:List PySem.Str:=["paper","which"]
abbrev As0:List PySem.Str:=["self","name","time","anchor","signs"]
abbrev At0:List PySem.Str:=["self","name","time","names","anchor"]
abbrev Au0:List PySem.Str:=["row"]
abbrev Av0:List PySem.Str:=["self","name","time","names","word"]
abbrev Aw0:List PySem.Str:=["_law_name","_law_state"]
abbrev Ax0:List PySem.Str:=["old","strokes","brought","stroke","name","sign"]
abbrev Ay0:List PySem.Str:=["name","how_many"]
abbrev Az0:List PySem.Str:=["stroke","in_row"]
abbrev AA0:List PySem.Str:=["seats","at","to"]
abbrev AB0:List PySem.Str:=["self","pen","at","to","goal","seats","names"]
abbrev AC0:List PySem.Str:=["following","anchor","slots","behind","slot"]
abbrev AD0:List PySem.Str:=["self","name","time","names"]
abbrev AE0:List PySem.Str:=["strokes","taken","stroke","name","slot"]
abbrev AF0:List PySem.Str:=["self","state"]
abbrev AG0:List PySem.Str:=["self","pen","at","to","word","seats"]
abbrev AH0:List PySem.Str:=["name","time","anchor"]
abbrev AI0:List PySem.Str:=["strokes","struck","stroke","name"]
abbrev AJ0:List PySem.Str:=["_law_cell","_law_k","_law_number"]
abbrev AK0:List PySem.Str:=["_law_script","_law_k"]
abbrev AL0:List PySem.Str:=["old","drawn","states"]
abbrev AM0:List PySem.Str:=["_law_paper"]
abbrev AQ0:List PySem.Str:=["self","name","time"]
abbrev AS0:List PySem.Str:=["at","to","length"]
local macro_rules | `(tactic| walk_at "j") => `(tactic| exact ⟨rfl, rfl, rfl, by decide +kernel, rfl, by decide +kernel, by decide +kernel⟩)
local macro_rules | `(tactic| walk_at "l") => `(tactic| (split at $(Lean.mkIdent `h):ident <;> first | rfl | exact False.elim $(Lean.mkIdent `h)))
local macro_rules | `(tactic| walk_at "o") => `(tactic| first | assumption | exact le_trans (by decide) $(Lean.mkIdent `hs) | exact le_of_lt (by assumption) | exact le_trans (by assumption) (by assumption) | exact MH (by assumption) (by assumption) | exact Nat.lt_of_le_of_lt (by assumption) (by assumption) | exact le_trans (by assumption) (le_trans (by decide) $(Lean.mkIdent `hs)) | lia | omega)
namespace L2
open PySem PySem.Spec PyProof.Rows
abbrev aA:=Sum Int Str
def vY:aA->Mf->Bool
 | .inl k,v=>Value.isInt k v
 | .inr x,v=>Value.isStrOf x v
def Lm(w:MG):aA->Int
 | .inl k=>hashInt k
 | .inr x=>hashStr w x
theorem cL:∀ {k:aA} {v:Mf},vY k v=true->(∃ i t,k=Sum.inl i/\v=Value.int i t)\/(∃ x t,k=Sum.inr x/\v=Value.str x t)
 | .inl i,v,h=>by
  obtain⟨t,e⟩:=Value.isInt_shape (k:=i) (v:=v) h;exact .inl ⟨i,t,rfl,e⟩
 | .inr x,v,h=>by
  obtain⟨t,e⟩:=Value.isStrOf_shape (x:=x) (v:=v) h;exact .inr ⟨x,t,rfl,e⟩
theorem Cp(i:Int)(t:Tok):vY (.inl i) (.int i t)=true:=by simp[vY,Value.isInt]
theorem Co(x:Str)(t:Tok):vY (.inr x) (.str x t)=true:=by simp[vY,Value.isStrOf]
theorem Iv(a b:Int):decide ((Sum.inl a:aA)=Sum.inl b)=(a == b):=by
 by_cases e:a=b
 ·subst e;simp
 ·have h:¬ (Sum.inl a:aA)=Sum.inl b:=fun q=>e (Sum.inl.inj q);rw[decide_eq_false h];exact (beq_eq_false_iff_ne.mpr e).symm
theorem Io(a b:Str):decide ((Sum.inr a:aA)=Sum.inr b)=decide (a=b):=by
 by_cases e:a=b
 ·subst e;simp
 ·have h:¬ (Sum.inr a:aA)=Sum.inr b:=fun q=>e (Sum.inr.inj q);rw[decide_eq_false h,decide_eq_false e]
theorem Iu(a:Int)(b:Str):decide ((Sum.inl a:aA)=Sum.inr b)=false:=decide_eq_false (fun q=>nomatch q)
theorem Ip(a:Str)(b:Int):decide ((Sum.inr a:aA)=Sum.inl b)=false:=decide_eq_false (fun q=>nomatch q)
def aZ(prog:Mw)(w:MG):PySem.KeyKind prog w aA where
 is:=vY
 hash:=Lm w
 inj:=fun v a b ha hb=>by
  rcases cL ha with ⟨i,t,rfl,rfl⟩|⟨x,t,rfl,rfl⟩
  ·rcases cL hb with ⟨j,u,rfl,e⟩|⟨y,u,rfl,e⟩
   ·injection e with e1 _;rw[e1]
   ·exact nomatch e
  ·rcases cL hb with ⟨j,u,rfl,e⟩|⟨y,u,rfl,e⟩
   ·exact nomatch e
   ·injection e with e1 _;rw[e1]
 byValue:=fun k v h=>by
  rcases cL h with ⟨i,t,rfl,rfl⟩|⟨x,t,rfl,rfl⟩<;>rfl
 pyHash:=fun hv h=>by
  rcases cL hv with ⟨i,t,rfl,rfl⟩|⟨x,t,rfl,rfl⟩
  ·exact wpAny_pyHash_int h
  ·exact wpAny_pyHash_str h
 eqBool:=fun hu hv h=>by
  rcases cL hu with ⟨i,t,rfl,rfl⟩|⟨x,t,rfl,rfl⟩
  ·rcases cL hv with ⟨j,u,rfl,rfl⟩|⟨y,u,rfl,rfl⟩
   ·rw[Iv]at h;exact wpAny_eqBool_int h
   ·rw[Iu]at h;exact SeqAt.EqAt.int_str i t y u _ _ _ _ h
  ·rcases cL hv with ⟨j,u,rfl,rfl⟩|⟨y,u,rfl,rfl⟩
   ·rw[Ip]at h;exact SeqAt.EqAt.str_int x t j u _ _ _ _ h
   ·rw[Io]at h;exact wpAny_eqBool_str h
 «strs»:=fun k x t v h=>by
  rcases cL h with ⟨i,u,rfl,e⟩|⟨y,u,rfl,e⟩
  ·exact nomatch e
  ·injection e with e1 _
   subst e1;cases v<;>rfl
theorem yS(prog:Mw)(w:MG)(i:Int)(t:Tok):(aZ prog w).is (.inl i) (.int i t)=true:=Cp i t
theorem yR(prog:Mw)(w:MG)(x:Str)(t:Tok):(aZ prog w).is (.inr x) (.str x t)=true:=Co x t
inductive V where
 | non|bl (b:Bool)|int (i:Int)|str (x:Str)|byt (b:Array UInt8)|flt (b:UInt64)|ref (a:Mg)|ty (n:String)
 deriving DecidableEq
def aB:V->Mf->Prop
 | .non,u=>u=Value.none
 | .bl b,u=>u=Value.bool b
 | .int i,u=>∃ t,u=Value.int i t
 | .str x,u=>∃ t,u=Value.str x t
 | .byt b,u=>∃ t,u=Value.bytes b t
 | .flt b,u=>∃ t,u=Value.float b t
 | .ref a,u=>u=Value.ref a
 | .ty n,u=>u=Value.type n
abbrev Vals:List V->List Mf->Prop:=Oz aB
theorem Vals.length{xs:List V}{us:List Mf}(r:Vals xs us):xs.length=us.length:=N_ r
theorem Vals.get:∀ {xs:List V} {us:List Mf} {i:Nat} {x:V},Vals xs us->xs[i]?=some x->∃ u,us[i]?=some u/\aB x u
 | _,_,_,_,.nil,e=>by simp at e
 | _,_,0,_,.cons r _,e=>by simp at e;subst e;exact⟨_,rfl,r⟩
 | _,_,i+1,x,.cons _ t,e=>by
  obtain⟨u,h1,h2⟩:=Vals.get (i:=i) (x:=x) t (by simpa using e)
  exact⟨u,by simpa using h1,h2⟩
theorem Vals.set{x:V}{u:Mf}(r:aB x u):∀ {xs:List V} {us:List Mf} (i:Nat),Vals xs us->Vals (xs.set i x) (us.set i u)
 | _,_,_,.nil=>.nil
 | _,_,0,.cons _ t=>.cons r t
 | _,_,i+1,.cons q t=>.cons q (Vals.set r i t)
theorem Vals.append:∀ {xs ys:List V} {us ws:List Mf},Vals xs us->Vals ys ws->Vals (xs ++ ys) (us ++ ws)
 | _,_,_,_,.nil,s=>s
 | _,_,_,_,.cons r t,s=>.cons r (Vals.append t s)
theorem Vals.take:∀ {xs:List V} {us:List Mf} (n:Nat),Vals xs us->Vals (xs.take n) (us.take n)
 | _,_,0,_=>.nil
 | _,_,_+1,.nil=>.nil
 | _,_,n+1,.cons r t=>.cons r (Vals.take n t)
theorem Vals.drop:∀ {xs:List V} {us:List Mf} (n:Nat),Vals xs us->Vals (xs.drop n) (us.drop n)
 | _,_,0,r=>r
 | _,_,_+1,.nil=>.nil
 | _,_,n+1,.cons _ t=>Vals.drop n t
def j8:Option V->Option Mf->Prop
 | some v,some u=>aB v u
 | none,none=>True
 | _,_=>False
def KV{κ:Type}:List (κ×V)->List (κ×Mf)->Prop:=Oz fun (p:κ×V) (q:κ×Mf)=>p.1=q.1/\aB p.2 q.2
def kV:aA->V
 | .inl i=>.int i
 | .inr x=>.str x
inductive HO where
 | lst (xs:List V)
 | tup (xs:List V)
 | dK (kvs:List (aA×V))|dT (kvs:List (List aA×V))
 | set (S:Int->Bool) (n:Nat)
 | ins (C dx:Mg) (fs:List (Str×V))
 | own (x:Mg)
 | xd (fs:List (Str×V))
 | met (f x:Mg)
 | rng (lo hi:Int)
 | frz (o:Obj) (u:HO)
 | tbl (ps:Array Mf)
 | ext (φ:MD->Prop)
abbrev Hp:=Mg->Option HO
def aV(H:Hp)(a:Mg)(o:HO):Hp:=fun b=>if b=a then some o else H b
theorem aG{H:Hp}{a:Mg}{o:HO}:aV H a o a=some o:=by unfold aV;rw[if_pos rfl]
theorem ar{H:Hp}{a b:Mg}{o:HO}(h:b≠a):aV H a o b=H b:=by unfold aV;rw[if_neg h]
theorem JU{H:Hp}{a b:Mg}{o u:HO}(h:H a=some o)(h':H b=some u)(d:o≠u):a≠b:=by
 intro e;subst e;rw[h]at h';exact d (Option.some.inj h')
theorem ba{H:Hp}{a b:Mg}{o:HO}(h:H a=some o)(h':H b=none):a≠b:=by
 intro e;subst e;rw[h]at h';cases h'
section
variable(P:Mw)(w:MG)
def vn(h:MD)(a:Mg)(items:Array Mf):Prop:=∃ o,h.get? a=some o/\(o.cls=.type "tuple"/\o.dict=none)/\∃ n,o.data=.seq items n
def bD(H:Hp)(h:MD)(a:Mg):HO->Prop
 | .lst xs=>xs.length<=Mq/\∃ (its:List Mf) (n:Nat),Vals xs its/\h.get? a=some { cls:=.type "list",data:=.seq its.toArray n }
 | .tup xs=>xs.length<=Mq/\∃ its:List Mf,Vals xs its/\vn h a its.toArray
 | .dK kvs=>kvs.length<=Mq/\(a == M5)=false/\∃ vs,KV kvs vs/\h.DictOf (aZ P w) a vs
 | .dT kvs=>kvs.length<=Mq/\(a == M5)=false/\∃ xs:List (List aA×Mg×Mf),
   Oz (fun (p:List aA×V) (q:List aA×Mg×Mf)=>p.1=q.1/\H q.2.1=some (.tup (p.1.map kV))/\aB p.2 q.2.2) kvs xs/\
   ∃ o es ep,h.get? a=some o/\o.ExactDict/\o.data=.dict es ep/\es.toList=xs.map (entryOfKey (Nk (aZ P w)))/\(xs.map (·.1)).Nodup
 | .set S n=>h.SetOf (intKind P w) a S n
 | .ins C dx fs=>H dx=some (.own a)/\fs.length<=1000/\dx≠a/\h.get? a=some (OV C dx)/\
   ∃ mA,h.Ns1 dx mA/\(∀ f,j8 (fs.lookup f) (mA f))/\PySem.Within mA (fs.map (·.1))
 | .own _=>∃ o,h.get? a=some o
 | .xd fs=>∃ mA,h.Ns1 a mA/\∀ f,j8 (fs.lookup f) (mA f)
 | .rng lo hi=>∃ t u v,h.get? a=some { cls:=.type "range",data:=.fields #[.int lo t,.int hi u,.int 1 v] }
 | .frz o u=>h.get? a=some o/\bD H h a u
 | .tbl ps=>h.get? a=some { cls:=.none,data:=.fields ps }
 | .met f x=>h.get? a=some (Qj (.ref f) (.ref x))
 | .ext φ=>φ h/\(∃ o,h.get? a=some o)/\∀ h1 h2:MD,φ h1->(∀ o,h1.get? a=some o->h2.get? a=some o)->φ h2
theorem vn.new(h:MD)(items:Array Mf):vn (h.push { cls:=.type "tuple",data:=.seq items }) h.objs.size items:=⟨_,Mn _ rfl,⟨rfl,rfl⟩,_,rfl⟩
theorem vn.tup{h:MD}{a:Mg}{items:Array Mf}(x:vn h a items):IsTup h a items:=let ⟨o,e,c,d⟩:=x;⟨o,e,c.1,d⟩
def iF(H:Hp)(h:MD):Prop:=∀ a o,H a=some o->bD P w H h a o
end
section
variable{P:Mw}{w:MG}{H H':Hp}{h h':MD}{a:Mg}{o:HO}
theorem bD.lt(x:bD P w H h a o):a < h.objs.size:=by
 cases o with
 | lst xs=>obtain⟨_,_,_,_,e⟩:=x;exact Mu e
 | tup xs=>obtain⟨_,_,_,p⟩:=x;exact p.tup.lt
 | dK kvs=>obtain⟨_,_,_,_,o,_,_,e,_⟩:=x;exact Mu e
 | dT kvs=>obtain⟨_,_,_,_,o,_,_,e,_⟩:=x;exact Mu e
 | set S n=>obtain⟨o,_,_,_,e,_⟩:=x;exact Mu e
 | ins C dx fs=>obtain⟨_,_,_,e,_⟩:=x;exact Mu e
 | own y=>obtain⟨_,e⟩:=x;exact Mu e
 | xd fs=>obtain⟨_,⟨_,_,_,e,_⟩,_⟩:=x;exact Mu e
 | rng lo hi=>obtain⟨_,_,_,e⟩:=x;exact Mu e
 | frz ob u=>obtain⟨e,_⟩:=x;exact Mu e
 | tbl ps=>exact Mu (show h.get? a=some _ from x)
 | met f y=>exact Mu (show h.get? a=some _ from x)
 | ext φ=>obtain⟨_,⟨_,e⟩,_⟩:=x;exact Mu e
theorem Paired.mapP{α β:Type}{F G:α->β->Prop}:∀ {l₁:List α} {l₂:List β},Oz F l₁ l₂->(∀ a b,F a b->G a b)->Oz G l₁ l₂
 | _,_,.nil,_=>.nil
 | _,_,.cons r t,f=>.cons (f _ _ r) (Paired.mapP t f)
theorem bD.stay(x:bD P w H h a o)(k:∀ b u,(b=a\/H b=some (.own a))->h.get? b=some u->h'.get? b=some u)
  (ho:∀ b,H b=some (.own a)->H' b=some (.own a)) (ht:∀ b xs,H b=some (.tup xs)->H' b=some (.tup xs)):bD P w H' h' a o:=by
 induction o with
 | lst xs=>obtain⟨z,its,n,r,e⟩:=x;exact⟨z,its,n,r,k _ _ (.inl rfl) e⟩
 | tup xs=>obtain⟨z,its,r,ob,e,c⟩:=x;exact⟨z,its,r,ob,k _ _ (.inl rfl) e,c⟩
 | dK kvs=>obtain⟨z,y,vs,r,ob,es,ep,e,c⟩:=x;exact⟨z,y,vs,r,ob,es,ep,k _ _ (.inl rfl) e,c⟩
 | dT kvs=>
  obtain⟨z,y,xs,r,ob,es,ep,e,c⟩:=x;exact⟨z,y,xs,Paired.mapP r fun p q z=>⟨z.1,ht _ _ z.2.1,z.2.2⟩,ob,es,ep,k _ _ (.inl rfl) e,c⟩
 | set S n=>obtain⟨ob,es,ep,t,e,c⟩:=x;exact⟨ob,es,ep,t,k _ _ (.inl rfl) e,c⟩
 | ins C dx fs=>
  obtain⟨d,z,ne,e,mA,⟨od,es,ep,e2,c⟩,r⟩:=x;exact⟨ho _ d,z,ne,k _ _ (.inl rfl) e,mA,⟨od,es,ep,k _ _ (.inr d) e2,c⟩,r⟩
 | own y=>obtain⟨ob,e⟩:=x;exact⟨ob,k _ _ (.inl rfl) e⟩
 | xd fs=>obtain⟨mA,⟨od,es,ep,e,c⟩,r⟩:=x;exact⟨mA,⟨od,es,ep,k _ _ (.inl rfl) e,c⟩,r⟩
 | rng lo hi=>obtain⟨t,u,v,e⟩:=x;exact⟨t,u,v,k _ _ (.inl rfl) e⟩
 | frz ob u ih=>obtain⟨e,q⟩:=x;exact⟨k _ _ (.inl rfl) e,ih q⟩
 | tbl ps=>
  have e:h.get? a=some { cls:=.none,data:=.fields ps }:=x;show h'.get? a=some { cls:=.none,data:=.fields ps }
  exact k a _ (.inl rfl) e
 | met f y=>
  have e:h.get? a=some (Qj (.ref f) (.ref y)):=x;show h'.get? a=some (Qj (.ref f) (.ref y))
  exact k a _ (.inl rfl) e
 | ext φ=>obtain⟨p,⟨o,e⟩,st⟩:=x;exact⟨st _ _ p fun o q=>k _ _ (.inl rfl) q,⟨o,k _ _ (.inl rfl) e⟩,st⟩
theorem iF.lt(x:iF P w H h)(e:H a=some o):a < h.objs.size:=(x a o e).lt
theorem iF.fresh(x:iF P w H h)(e:h.objs.size<=a):H a=none:=by
 cases q:H a with
 | none=>rfl
 | some u=>exact absurd (MH (x.lt q) e) (Nat.lt_irrefl _)
theorem iF.kept(x:iF P w H h)(k:∀ b u,h.get? b=some u->h'.get? b=some u):iF P w H h':=fun a o e=>
 (x a o e).stay (fun b u _ q=>k b u q) (fun _ q=>q) fun _ _ q=>q
theorem iF.laid(x:iF P w H h)(k:∀ b u,h.get? b=some u->h'.get? b=some u)(hp:h.objs.size<=a)(new:bD P w (aV H a o) h' a o):iF P w (aV H a o) h':=fun b u e=>by
 have hn:=x.fresh hp
 by_cases hb:b=a
 ·subst hb;rw[aG]at e;cases e;exact new
 ·rw[ar hb]at e;exact (x b u e).stay (fun c v _ q=>k c v q) (fun c q=>by rw[ar (ba q hn)];exact q) fun c xs q=>by rw[ar (ba q hn)];exact q
end
def Rd(H:Hp)(a:Mg)(u:HO):Prop:=H a=some u\/∃ o,H a=some (.frz o u)
theorem Rd.of{H:Hp}{a:Mg}{u:HO}(h:H a=some u):Rd H a u:=.inl h
theorem Rd.ok{P:Mw}{w:MG}{H:Hp}{h:MD}{a:Mg}{u:HO}(r:Rd H a u)(x:iF P w H h):bD P w H h a u:=by
 rcases r with r|⟨o,r⟩
 ·exact x a u r
 ·obtain⟨_,q⟩:=x a _ r;exact q
def ET:Option HO->Prop
 | some (.lst _)=>True
 | some (.dK _)=>True
 | some (.dT _)=>True
 | some (.set _ _)=>True
 | some (.ins _ _ _)=>True
 | some (.ext _)=>True
 | _=>False
section
variable{P:Mw}{w:MG}{H:Hp}{h h':MD}{x e:Mg}{o':HO}
theorem iF.write(ok:iF P w H h)(mu:ET (H x))(he:e=x\/H e=some (.own x))(k:∀ b u,b≠e->h.get? b=some u->h'.get? b=some u)(heo:∃ u,h'.get? e=some u)
  (new:bD P w (aV H x o') h' x o'):iF P w (aV H x o') h':=fun b u q=>by
 have RX:∀ c y,H c=some (.own y)->c≠x:=fun c y r z=>by subst z;rw[r]at mu;exact mu
 have R9:∀ c xs,H c=some (.tup xs)->c≠x:=fun c xs r z=>by subst z;rw[r]at mu;exact mu
 by_cases hb:b=x
 ·subst hb;rw[aG]at q;cases q;exact new
 ·rw[ar hb]at q
  by_cases hbe:b=e
  ·have q':H b=some (.own x):=by
    rcases he with z|z
    ·exact absurd (hbe.trans z) hb
    ·rw[hbe];exact z
   rw[q]at q';cases q';obtain⟨v,hv⟩:=heo;exact⟨v,by rw[hbe];exact hv⟩
  ·refine (ok b u q).stay (fun c v hc r=>k c v ?_ r) (fun c r=>by rw[ar (RX c b r)];exact r) fun c xs r=>by rw[ar (R9 c xs r)];exact r
   rcases hc with rfl|hc
   ·exact hbe
   ·rintro rfl
    rcases he with z|z
    ·exact RX c b hc z
    ·rw[hc]at z;cases z;exact hb rfl
end
structure Un(fs ex:List Mg)(H H':Hp)(h h':MD):Prop where
 keep:∀ b o,h.get? b=some o->H b=none->b∉fs->b∉ex->h'.get? b=some o
 slot:∀ b o,h.get? b=some o->H b=none->b∈fs->b∉ex->∃ sl,h'.get? b=some { o with slots:=sl }
 free:∀ b o,h.get? b=some o->H b=none->b∉ex->H' b=none
 there:∀ b o,h.get? b=some o->b∉ex->∃ o',h'.get? b=some o'
 tups:∀ b xs,H b=some (.tup xs)->H' b=some (.tup xs)
 frzs:∀ b o u,H b=some (.frz o u)->H' b=some (.frz o u)
 tbls:∀ b ps,H b=some (.tbl ps)->∃ more,H' b=some (.tbl (ps ++ more))
section
variable{fs fs' ex ex':List Mg}{H H1 H2:Hp}{h h1 h2 h':MD}{a x e:Mg}{o:HO}
theorem Un.any(u:Un fs ex H H1 h h1){b:Mg}{ob:Obj}(q:h.get? b=some ob)(n:H b=none)(hx:b∉ex):∃ sl,h1.get? b=some { ob with slots:=sl }:=by
 by_cases hb:b∈fs
 ·exact u.slot b ob q n hb hx
 ·exact⟨ob.slots,u.keep b ob q n hb hx⟩
theorem Un.trans(a:Un fs ex H H1 h h1)(b:Un fs ex H1 H2 h1 h2):Un fs ex H H2 h h2 where
 keep:=fun c ob q n hc hx=>b.keep c ob (a.keep c ob q n hc hx) (a.free c ob q n hx) hc hx
 slot:=fun c ob q n hc hx=>by
  obtain⟨sl,e1⟩:=a.slot c ob q n hc hx;obtain⟨sl',e2⟩:=b.slot c _ e1 (a.free c ob q n hx) hc hx;exact⟨sl',e2⟩
 free:=fun c ob q n hx=>by
  obtain⟨o',e1⟩:=a.there c ob q hx;exact b.free c o' e1 (a.free c ob q n hx) hx
 there:=fun c ob q hx=>by
  obtain⟨o',e1⟩:=a.there c ob q hx;exact b.there c o' e1 hx
 tups:=fun c xs q=>b.tups c xs (a.tups c xs q)
 frzs:=fun c ob xs q=>b.frzs c ob xs (a.frzs c ob xs q)
 tbls:=fun c ps q=>by
  obtain⟨m1,e1⟩:=a.tbls c ps q;obtain⟨m2,e2⟩:=b.tbls c _ e1;exact⟨m1 ++ m2,by rw[e2,Array.append_assoc]⟩
theorem Un.kept(k:∀ b u,h.get? b=some u->h'.get? b=some u):Un fs ex H H h h':=
 ⟨fun b ob q _ _ _=>k b ob q,fun b ob q _ _ _=>⟨ob.slots,k b ob q⟩,fun _ _ _ n _=>n,fun b ob q _=>⟨ob,k b ob q⟩,fun _ _ q=>q,fun _ _ _ q=>q,fun _ ps q=>⟨#[],by rw[q];simp⟩⟩
theorem Un.refl:Un fs ex H H h h:=Un.kept fun _ _ q=>q
theorem Un.laid(k:∀ b u,h.get? b=some u->h'.get? b=some u)(hp:h.objs.size<=a)(hn:H a=none):Un fs ex H (aV H a o) h h' where
 keep:=fun b u q _ _ _=>k b u q
 slot:=fun b u q _ _ _=>⟨u.slots,k b u q⟩
 free:=fun b u q n _=>by rw[ar (MO (MH (Mu q) hp))];exact n
 there:=fun b u q _=>⟨u,k b u q⟩
 tups:=fun b xs q=>by rw[ar (ba q hn)];exact q
 frzs:=fun b u xs q=>by rw[ar (ba q hn)];exact q
 tbls:=fun b ps q=>⟨#[],by rw[ar (ba q hn),q];simp⟩
theorem Un.write(mu:ET (H x))(he:e=x\/H e=some (.own x))(k:∀ b u,b≠e->h.get? b=some u->h'.get? b=some u)(heo:∃ u,h'.get? e=some u):Un fs ex H (aV H x o) h h':=by
 have hx:∀ b,H b=none->b≠x:=fun b n z=>by subst z;rw[n]at mu;exact mu
 have hb:∀ b,H b=none->b≠e:=fun b n z=>by
  subst z;rcases he with r|r
  ·exact hx b n r
  ·rw[n]at r;cases r
 have hm:∀ b u,H b=some u->¬ ET (some u)->b≠x:=fun b u q nm z=>by subst z;rw[q]at mu;exact nm mu
 refine⟨fun b u q n _ _=>k b u (hb b n) q,fun b u q n _ _=>⟨u.slots,k b u (hb b n) q⟩,fun b u q n _=>by rw[ar (hx b n)];exact n,fun b u q _=>?_,
  fun b xs q=>by rw[ar (hm b _ q fun z=>z)];exact q,fun b u xs q=>by rw[ar (hm b _ q fun z=>z)];exact q,fun b ps q=>⟨#[],by rw[ar (hm b _ q fun z=>z),q];simp⟩⟩
 by_cases hbe:b=e
 ·subst hbe;exact heo
 ·exact⟨u,k b u hbe q⟩
theorem Un.mono(u:Un fs ex H H1 h h1)(hs:∀ b∈fs,b∈fs')(hx:∀ b∈ex,b∈ex'):Un fs' ex' H H1 h h1:=
 ⟨fun b ob q n hb he=>u.keep b ob q n (fun z=>hb (hs b z)) fun z=>he (hx b z),fun _ _ q n _ he=>u.any q n fun z=>he (hx _ z),fun b ob q n he=>u.free b ob q n fun z=>he (hx b z),fun b ob q he=>u.there b ob q fun z=>he (hx b z),u.tups,u.frzs,u.tbls⟩
end
def KI(h:MD)(H:Hp):List Mg:=(List.range h.objs.size).filter fun a=>(H a).isSome
def oX(h:MD)(H:Hp):MD:=PySem.W.hideAll h (KI h H)
theorem v3(h:MD)(H:Hp):(oX h H).objs.size=h.objs.size:=PySem.W.hideAll_size _ _
theorem oW{h:MD}{H:Hp}{b:Mg}{o:Obj}(e:h.get? b=some o)(n:H b=none):(oX h H).get? b=some o:=
 PySem.W.hideAll_get _ e fun hm=>by
  have q:(H b).isSome=true:=(mem_filter.mp hm).2;rw[n]at q;simp at q
theorem rY{h:MD}{H:Hp}{b:Mg}{o:Obj}(e:(oX h H).get? b=some o):h.get? b=some o/\H b=none:=by
 have e':h.get? b=some o:=PySem.W.of_hideAll (KI h H) e;refine⟨e',?_⟩;cases q:H b with
 | none=>rfl
 | some x=>
  have hm:b∈KI h H:=mem_filter.mpr ⟨mem_range.mpr (Mu e'),by simp[q]⟩
  have z:(oX h H).get? b=none:=PySem.W.hideAll_none (KI h H) hm;rw[z]at e;cases e
def GA(g h:MD)(L:Mg):List (Mg×Obj):=(List.range h.objs.size).filterMap fun a=>if a=L\/(g.get? a).isSome=true then none else (h.get? a).map fun o=>(a,o)
def lP(g h:MD)(L d:Mg):List (Mg×Obj):=(GA g h L).filter fun p=>decide (p.1≠d)
structure Mod(K:Ow)(mg:Str->Option Mf)(base:MD):Prop where
 kin:K.In base
 glob:base.Ns Mx mg
 blt:∃ mb,base.Ns Qa mb/\∀ x:Str,x≠"__name__"->mb x=NA x
 nolimit:base.NoLimit
structure Cx where
 prog:Mw
 w:MG
 K:Ow
 mg:Str->Option Mf
 base:MD
 A:MB
 N:List Str
 s₀:Mi
 H₀:Hp
 env:Env
 outer:List Env
 stack:List Env
 ex:List Mg
 fn:Str->Bool
 calm:Bool
 pn:List (Mg×Obj)
 xe:Mf->Mi->Prop
def tY(l:List Env):List Mg:=l.filterMap (·.frame)
abbrev Cx.fs(X:Cx):List Mg:=tY X.outer
def Ky(sc:NV)(x:Str):Prop:=sc.names.lookup x=some .local\/sc.names.lookup x=some .cell\/sc.names.lookup x=some .free
def Hd(sc:NV)(x:Str):Prop:=sc.names.lookup x=some .local\/sc.names.lookup x=some .cell
def LF(env:Env)(h:MD)(m:Str->Option Mf)(x:Str)(u:Mf):Prop:=
 (env.kindOf x=some .local/\m x=some u)\/((env.kindOf x=some .cell\/env.kindOf x=some .free)/\∃ c,env.cells.lookup x=some c/\h.IsCell c (some u))
structure Cx.Ok(X:Cx):Prop where
 mod:Mod X.K X.mg X.base
 kind:X.env.scope.kind=.function
 glob:X.env.globals=Mx
 blt:X.env.builtins=Qa
 above:X.s₀.heap.objs.size<=X.env.locals
 inj:∀ x y c,X.env.cells.lookup x=some c->X.env.cells.lookup y=some c->x=y
 has:∀ x,(X.env.kindOf x=some .cell\/X.env.kindOf x=some .free)->∃ c,X.env.cells.lookup x=some c
 cab:∀ x c,X.fn x=true->X.env.cells.lookup x=some c->X.s₀.heap.objs.size<=c
 hd:X.calm=true->X.A.handled=none
 frames:X.A.frames=some X.stack
 stk:X.stack=X.outer\/(X.stack=X.env::X.outer/\X.env.frame=some X.env.locals)
 exf:∀ b∈X.ex,b≠X.env.locals/\∀ x c,X.env.cells.lookup x=some c->c≠b
 bs:∀ b o,X.base.get? b=some o->X.s₀.heap.get? b=some o/\X.H₀ b=none
 bsz:X.base.objs.size<=X.s₀.heap.objs.size
 noex:∀ b o,X.base.get? b=some o->b∉X.ex
 exfs:∀ b∈X.ex,b∉X.fs
 funs:X.s₀.heap.FunFrames X.base X.outer
 frf:∀ b∈X.fs,X.H₀ b=none
structure Inv(X:Cx)(pins:List (Mg×Obj))(σ:List (Option V))(H:Hp)(s:Mi):Prop where
 ok:X.Ok
 os:s.os=X.s₀.os
 bare:O1 s.gens
 base:Un X.fs X.ex X.H₀ H X.s₀.heap s.heap
 loc:∃ m,s.heap.Ns X.env.locals m/\∀ (i:Nat) (x:Str) (v:V),X.N[i]?=some x->σ[i]?=some (some v)->Ky X.env.scope x->∃ u,aB v u/\LF X.env s.heap m x u
 cell:∀ x c,X.env.cells.lookup x=some c->∃ v,s.heap.IsCell c v
 free:H X.env.locals=none
 freeC:∀ x c,X.env.cells.lookup x=some c->H c=none
 pin:∀ p∈X.pn ++ pins,s.heap.get? p.1=some p.2/\H p.1=none/\p.1≠X.env.locals/\p.1∉X.fs/\∀ v,p.2.data≠.cell v
 hok:iF X.prog X.w H s.heap
 len:σ.length=X.N.length
section
variable{X:Cx}{pins:List (Mg×Obj)}{σ:List (Option V)}{H H':Hp}{s:Mi}{h':MD}
theorem Cx.Ok.nofr(ok:X.Ok){b:Mg}{o:Obj}(e:X.base.get? b=some o):b∉X.fs:=fun hb=>by
 have:=(ok.funs.mem hb).1;rw[e]at this;cases this
theorem Inv.bs(I:Inv X pins σ H s):∀ b o,X.base.get? b=some o->s.heap.get? b=some o/\H b=none:=fun b o e=>
 ⟨I.base.keep b o (I.ok.bs b o e).1 (I.ok.bs b o e).2 (I.ok.nofr e) (I.ok.noex b o e),I.base.free b o (I.ok.bs b o e).1 (I.ok.bs b o e).2 (I.ok.noex b o e)⟩
theorem Inv.bk(I:Inv X pins σ H s):∀ b o,X.base.get? b=some o->s.heap.get? b=some o:=fun b o e=>(I.bs b o e).1
theorem Inv.mod(I:Inv X pins σ H s):Mod X.K X.mg X.base:=I.ok.mod
theorem Inv.kIn(I:Inv X pins σ H s):X.K.In s.heap:=I.ok.mod.kin.keeps I.bk
theorem Inv.fr(I:Inv X pins σ H s):∃ m,Fr X.base X.env.locals s.heap m:=
 let ⟨m,hn,_⟩:=I.loc
 ⟨m,hn,I.bk,le_trans I.ok.bsz I.ok.above⟩
theorem Inv.lt(I:Inv X pins σ H s):X.env.locals < s.heap.objs.size:=let ⟨_,hn,_⟩:=I.loc;hn.lt
theorem Inv.sz(I:Inv X pins σ H s):X.s₀.heap.objs.size<=s.heap.objs.size:=le_trans I.ok.above (le_of_lt I.lt)
theorem Inv.nofs(I:Inv X pins σ H s){a:Mg}(h:s.heap.objs.size<=a):a∉X.fs:=fun hb=>by
 obtain⟨_,o,ho,_⟩:=I.ok.funs.mem hb;exact absurd (MH (Mu ho) (le_trans I.sz h)) (Nat.lt_irrefl _)
theorem Inv.cne(I:Inv X pins σ H s):∀ x c,X.env.cells.lookup x=some c->c≠X.env.locals:=fun x c e z=>by
 obtain⟨v,o,ho,hd⟩:=I.cell x c e;obtain⟨m,⟨o',es,ep,ho',hd',_⟩,_⟩:=I.loc;rw[z,ho']at ho;cases ho;rw[hd']at hd;cases hd
theorem Inv.funs(I:Inv X pins σ H s):s.heap.FunFrames X.base X.outer:=by
 have all:∀ (l:List Env),(∀ b∈tY l,b∈X.fs)->X.s₀.heap.FunFrames X.base l->s.heap.FunFrames X.base l:=by
  intro l
  induction l with
  | nil=>intro _ _;trivial
  | cons env r ih=>
   intro hs hl;obtain⟨hk,⟨L,o,hf,hn,ho,hd⟩,hr⟩:=hl;have hL:L∈X.fs:=hs L (by unfold tY;rw[N0,hf];exact Mz)
   obtain⟨sl,e⟩:=I.base.slot L o ho (I.ok.frf L hL) hL fun z=>I.ok.exfs L z hL;exact⟨hk,⟨L,_,hf,hn,e,hd⟩,ih (fun b hb=>hs b (by unfold tY;rw[N0,hf];exact My _ hb)) hr⟩
 exact all X.outer (fun _ hb=>hb) I.ok.funs
theorem Inv.stack(I:Inv X pins σ H s):s.heap.FunFrames X.base X.stack:=by
 rcases I.ok.stk with e|⟨e,hf⟩
 ·rw[e];exact I.funs
 ·rw[e];obtain⟨m,hn,_⟩:=I.loc;refine .cons (by rw[I.ok.kind];decide) hf hn ?_ I.funs
  exact Heap.get?_none_of_le (le_trans I.ok.bsz I.ok.above)
theorem Inv.stkSub(I:Inv X pins σ H s):∀ b∈tY X.stack,b∈X.env.locals::X.fs:=fun b hb=>by
 rcases I.ok.stk with e|⟨e,hf⟩
 ·rw[e]at hb;exact My _ hb
 ·rw[e]at hb;unfold tY at hb;rw[N0,hf]at hb;exact hb
theorem Inv.stkFree(I:Inv X pins σ H s):∀ b∈tY X.stack,H b=none:=fun b hb=>by
 rcases MP.mp (I.stkSub b hb)with e|hb
 ·rw[e];exact I.free
 ·obtain⟨_,o,ho,_⟩:=I.ok.funs.mem hb;exact I.base.free b o ho (I.ok.frf b hb) fun z=>I.ok.exfs b z hb
theorem Inv.step{g':Array GenState}{t':Nat}{d':Drawn}{ch:List Mg}(I:Inv X pins σ H s)
  (hch:∀ b∈ch,(b∈X.ex\/X.s₀.heap.objs.size<=b)/\b≠X.env.locals/\(∀ x c,X.env.cells.lookup x=some c->c≠b)/\∀ p∈X.pn ++ pins,p.1≠b)
  (keep:∀ b o,b≠X.env.locals->b∉X.fs->b∉ch->s.heap.get? b=some o->H b=none->h'.get? b=some o)
  (slot:∀ b o,b≠X.env.locals->b∈X.fs->b∉ch->s.heap.get? b=some o->H b=none->∃ sl,h'.get? b=some { o with slots:=sl }) (free:∀ b o,b∉ch->s.heap.get? b=some o->H b=none->H' b=none)
  (there:∀ b o,b∉ch->s.heap.get? b=some o->∃ o',h'.get? b=some o')
  (tups:∀ b xs,H b=some (.tup xs)->H' b=some (.tup xs)) (frzs:∀ b o u,H b=some (.frz o u)->H' b=some (.frz o u)) (tbls:∀ b ps,H b=some (.tbl ps)->∃ more,H' b=some (.tbl (ps ++ more)))
  (ns:∀ m,s.heap.Ns X.env.locals m->h'.Ns X.env.locals m) (hok:iF X.prog X.w H' h') (hg:O1 g'):
  Inv X pins σ H' { s with heap:=h',gens:=g',drawn:=d',toks:=t' }:=by
 have neL:∀ b o,X.s₀.heap.get? b=some o->b≠X.env.locals:=fun b o e=>MO (MH (Mu e) I.ok.above);have neC:∀ b o,X.s₀.heap.get? b=some o->b∉X.ex->b∉ch:=fun b o e hx hb=>by
  rcases (hch b hb).1 with z|z
  ·exact hx z
  ·exact absurd (MH (Mu e) z) (Nat.lt_irrefl _)
 have cellK:∀ x c,X.env.cells.lookup x=some c->∀ v,s.heap.IsCell c v->h'.IsCell c v:=fun x c e v zz=>by
  obtain⟨o,ho,hd⟩:=zz;have nch:c∉ch:=fun z=>(hch c z).2.2.1 x c e rfl
  by_cases hc:c∈X.fs
  ·obtain⟨sl,q⟩:=slot c o (I.cne x c e) hc nch ho (I.freeC x c e);exact⟨_,q,hd⟩
  ·exact⟨o,keep c o (I.cne x c e) hc nch ho (I.freeC x c e),hd⟩
 refine⟨I.ok,I.os,hg,⟨fun b o e n hb hx=>?_,fun b o e n hb hx=>?_,fun b o e n hx=>?_,fun b o e hx=>?_,fun b xs e=>tups b xs (I.base.tups b xs e),fun b o xs e=>frzs b o xs (I.base.frzs b o xs e),fun b ps e=>?_⟩,?_,fun x c e=>?_,?_,fun x c e=>?_,fun p hp=>?_,hok,I.len⟩
 ·exact keep b o (neL b o e) hb (neC b o e hx) (I.base.keep b o e n hb hx) (I.base.free b o e n hx)
 ·obtain⟨sl,e1⟩:=I.base.slot b o e n hb hx;obtain⟨sl',e2⟩:=slot b _ (neL b o e) hb (neC b o e hx) e1 (I.base.free b o e n hx);exact⟨sl',e2⟩
 ·obtain⟨o',e1⟩:=I.base.there b o e hx;exact free b o' (neC b o e hx) e1 (I.base.free b o e n hx)
 ·obtain⟨o',e1⟩:=I.base.there b o e hx;exact there b o' (neC b o e hx) e1
 ·obtain⟨m1,e1⟩:=I.base.tbls b ps e;obtain⟨m2,e2⟩:=tbls b _ e1;exact⟨m1 ++ m2,by rw[e2,Array.append_assoc]⟩
 ·obtain⟨m,hn,hl⟩:=I.loc;refine⟨m,ns m hn,fun i x v e1 e2 e3=>?_⟩;obtain⟨u,r,l⟩:=hl i x v e1 e2 e3;refine⟨u,r,?_⟩;rcases l with l|⟨k,c,e,z⟩
  ·exact .inl l
  ·exact .inr ⟨k,c,e,cellK x c e _ z⟩
 ·obtain⟨v,z⟩:=I.cell x c e;exact⟨v,cellK x c e v z⟩
 ·obtain⟨m,⟨o,_,_,ho,_⟩,_⟩:=I.loc;exact free _ o (fun z=>(hch _ z).2.1 rfl) ho I.free
 ·obtain⟨v,o,ho,hd⟩:=I.cell x c e;exact free c o (fun z=>(hch c z).2.2.1 x c e rfl) ho (I.freeC x c e)
 ·obtain⟨e,n,ne,nf,d⟩:=I.pin p hp;have nch:p.1∉ch:=fun z=>(hch p.1 z).2.2.2 p hp rfl;exact⟨keep p.1 p.2 ne nf nch e n,free p.1 p.2 nch e n,ne,nf,d⟩
theorem Inv.un{t':Nat}(I:Inv X pins σ H s)(u:Un X.fs [] H H' s.heap h')(hok:iF X.prog X.w H' h'):Inv X pins σ H' { s with heap:=h',toks:=t' }:=by
 obtain⟨m,⟨o,es,ep,ho,r⟩,_⟩:=id I.loc;obtain⟨sl,hL⟩:=u.any ho I.free (by simp)
 exact I.step (g':=s.gens) (d':=s.drawn) (ch:=[]) (fun _ z=>nomatch z) (fun b o _ hb _ e n=>u.keep b o e n hb (by simp)) (fun b o _ hb _ e n=>u.slot b o e n hb (by simp)) (fun b o _ e n=>u.free b o e n (by simp)) (fun b o _ e=>u.there b o e (by simp)) u.tups u.frzs u.tbls (fun m' hm=>by
  obtain⟨o',es',ep',ho',r'⟩:=hm;rw[ho]at ho';cases ho';exact⟨_,es',ep',hL,r'⟩) hok I.bare
theorem Inv.call{g':Array GenState}{t':Nat}{d':Drawn}{ch:List Mg}(I:Inv X pins σ H s)(u:Un (tY X.stack) ch H H' s.heap h')(hok:iF X.prog X.w H' h')(hg:O1 g')
  (hch:∀ b∈ch,(b∈X.ex\/X.s₀.heap.objs.size<=b)/\b≠X.env.locals/\(∀ x c,X.env.cells.lookup x=some c->c≠b)/\∀ p∈X.pn ++ pins,p.1≠b):
  Inv X pins σ H' { s with heap:=h',gens:=g',drawn:=d',toks:=t' }:=by
 obtain⟨m,⟨o,es,ep,ho,r⟩,_⟩:=id I.loc;obtain⟨sl,hL⟩:=u.any ho I.free fun z=>(hch _ z).2.1 rfl;exact I.step (ch:=ch) hch (fun b o hL hb hc e n=>u.keep b o e n (fun z=>(MP.mp (I.stkSub b z)).elim hL hb) hc) (fun b o _ _ hc e n=>u.any e n hc) (fun b o hc e n=>u.free b o e n hc) (fun b o hc e=>u.there b o e hc) u.tups u.frzs u.tbls (fun m' hm=>by
  obtain⟨o',es',ep',ho',r'⟩:=hm;rw[ho]at ho';cases ho';exact⟨_,es',ep',hL,r'⟩) hok hg
theorem Inv.turned{t':Nat}{it:Mg}(I:Inv X pins σ H s)(k:∀ b o,b≠it->s.heap.get? b=some o->h'.get? b=some o)(hn:H it=none)(hL:it≠X.env.locals)
  (h1:it∈X.ex\/X.s₀.heap.objs.size<=it) (h2:∀ x c,X.env.cells.lookup x=some c->c≠it) (h3:∀ p∈X.pn ++ pins,p.1≠it):Inv X pins σ H { s with heap:=h',toks:=t' }:=by
 have nit:∀ b u,H b=some u->b≠it:=fun b u e z=>by rw[z,hn]at e;cases e
 refine I.step (g':=s.gens) (d':=s.drawn) (ch:=[it]) (fun b hb=>?_) (fun b o _ _ hc e _=>k b o (fun z=>hc (by simp[z])) e) (fun b o _ _ hc e _=>⟨o.slots,k b o (fun z=>hc (by simp[z])) e⟩) (fun _ _ _ _ n=>n)
  (fun b o hc e=>⟨o,k b o (fun z=>hc (by simp[z])) e⟩) (fun _ _ e=>e) (fun _ _ _ e=>e) (fun b ps e=>⟨#[],by rw[e];simp⟩) (fun m hm=>?_) (fun b u e=>?_) I.bare
 ·have e:b=it:=by simpa using hb
  subst e;exact⟨h1,hL,h2,h3⟩
 ·obtain⟨o,es,ep,ho,r⟩:=hm;exact⟨o,es,ep,k _ o (Ne.symm hL) ho,r⟩
 ·refine (I.hok b u e).stay (fun c v hc q=>k c v ?_ q) (fun _ q=>q) fun _ _ q=>q;rcases hc with z|z
  ·rw[z];exact nit b u e
  ·exact nit c _ z
theorem Inv.tok(I:Inv X pins σ H s)(t:Nat):Inv X pins σ H { s with toks:=t }:=I.un (h':=s.heap) (t':=t) Un.refl I.hok
theorem Inv.kept{t':Nat}(I:Inv X pins σ H s)(k:∀ b u,s.heap.get? b=some u->h'.get? b=some u):Inv X pins σ H { s with heap:=h',toks:=t' }:=I.un (Un.kept k) (I.hok.kept k)
theorem Inv.laid{a:Mg}{o:HO}{t':Nat}(I:Inv X pins σ H s)(k:∀ b u,s.heap.get? b=some u->h'.get? b=some u)(hp:s.heap.objs.size<=a)(new:bD X.prog X.w (aV H a o) h' a o):
  Inv X pins σ (aV H a o) { s with heap:=h',toks:=t' }:=I.un (Un.laid k hp (I.hok.fresh hp)) (I.hok.laid k hp new)
theorem Inv.write{x e:Mg}{o:HO}{t':Nat}(I:Inv X pins σ H s)(mu:ET (H x))(he:e=x\/H e=some (.own x))(k:∀ b u,b≠e->s.heap.get? b=some u->h'.get? b=some u)(heo:∃ u,h'.get? e=some u)
  (new:bD X.prog X.w (aV H x o) h' x o):Inv X pins σ (aV H x o) { s with heap:=h',toks:=t' }:=I.un (Un.write mu he k heo) (I.hok.write mu he k heo new)
theorem Inv.pins_of{Rk:List (Mg×Obj)}(I:Inv X pins σ H s)(h:∀ p∈Rk,s.heap.get? p.1=some p.2/\H p.1=none/\p.1≠X.env.locals/\p.1∉X.fs/\∀ v,p.2.data≠.cell v):Inv X Rk σ H s:=
 ⟨I.ok,I.os,I.bare,I.base,I.loc,I.cell,I.free,I.freeC,fun p hp=>(QY.mp hp).elim (fun z=>I.pin p (List.mem_append_left _ z)) (h p),I.hok,I.len⟩
theorem yM{N:List Str}(hN:N.Nodup){i j:Nat}{x:Str}(a:N[i]?=some x)(b:N[j]?=some x):i=j:=by
 obtain⟨h1,e1⟩:=List.getElem?_eq_some_iff.mp a;obtain⟨h2,e2⟩:=List.getElem?_eq_some_iff.mp b;exact (List.getElem_inj hN).mp (e1.trans e2.symm)
theorem vE{M:Model}{A:MB}{E:Mf->Mi->Prop}{i:Nat}{x:Str}{v:V}{u:Mf}{Q:Unit->Mi->Prop}(I:Inv X pins σ H s)(hN:X.N.Nodup)(hi:X.N[i]?=some x)(hx:Hd X.env.scope x)(r:aB v u)
  (h:∀ s',Inv X pins (σ.set i (some v)) H s'->(∃ a,NN a s.heap s'.heap/\(a=X.env.locals\/X.env.cells.lookup x=some a))->Q () s') (hf:X.fn x=true\/X.env.scope.names.lookup x=some .local:=by first|exact .inl rfl|exact .inr rfl|assumption):Mo M A (storeName X.env x u) Q E s:=by
 obtain⟨m,hn,hl⟩:=id I.loc;have Sf:(X.env.scope.kind == .class || (X.env.scope.kind == .module && X.env.locals != X.env.globals))=false:=by rw[I.ok.kind];rfl
 have hiσ:i < σ.length:=by rw[I.len];exact (List.getElem?_eq_some_iff.mp hi).1
 have cne:=I.cne;have tracked:∀ {a:Mg} {h':MD},(∃ o,s.heap.get? a=some o/\H a=none)->NN a s.heap h'->iF X.prog X.w H h':=fun {a h'} ha hs b ob e=>by
  obtain⟨_,_,Ro⟩:=ha;refine (I.hok b ob e).stay (fun c w' hc q=>(hs.2 c ?_).trans q) (fun _ q=>q) fun _ _ q=>q
  rintro rfl
  rcases hc with rfl|hc
  ·rw[Ro]at e;cases e
  ·rw[Ro]at hc;cases hc
 rcases hx with hk|hk
 ·refine wpAny_storeName_local hk hn (fun h' hn' hs=>?_) Sf;obtain⟨oL,_,_,hoL,_⟩:=id hn;refine h _ ⟨I.ok,I.os,I.bare,⟨fun b o e n hb hx=>?_,fun b o e n hb hx=>?_,I.base.free,fun b o e hx=>?_,I.base.tups,I.base.frzs,I.base.tbls⟩,⟨_,hn',fun j y v' e1 e2 e3=>?_⟩,fun y c e=>?_,I.free,I.freeC,fun p hp=>?_,tracked ⟨oL,hoL,I.free⟩ hs,by simpa using I.len⟩ ⟨_,hs,.inl rfl⟩
  ·exact (hs.2 b (MO (MH (Mu e) I.ok.above))).trans (I.base.keep b o e n hb hx)
  ·obtain⟨sl,e1⟩:=I.base.slot b o e n hb hx;exact⟨sl,(hs.2 b (MO (MH (Mu e) I.ok.above))).trans e1⟩
  ·obtain⟨o',e1⟩:=I.base.there b o e hx;exact⟨o',(hs.2 b (MO (MH (Mu e) I.ok.above))).trans e1⟩
  ·by_cases hj:j=i
   ·subst hj;rw[hi]at e1;cases e1;rw[List.getElem?_set_self hiσ]at e2;cases e2;exact⟨u,r,.inl ⟨hk,by simp⟩⟩
   ·rw[NQ (Ne.symm hj)]at e2;obtain⟨u',r',q⟩:=hl j y v' e1 e2 e3;refine⟨u',r',?_⟩;rcases q with ⟨k,e⟩|⟨k,c,e,z⟩
    ·refine .inl ⟨k,?_⟩;have:y≠x:=fun e=>hj (yM hN e1 (e ▸ hi));simp[this,e]
    ·exact .inr ⟨k,c,e,z.sameBut hs (cne y c e)⟩
  ·obtain⟨w',z⟩:=I.cell y c e;exact⟨w',z.sameBut hs (cne y c e)⟩
  ·obtain⟨e,n,ne,nf,d⟩:=I.pin p hp;exact⟨(hs.2 p.1 ne).trans e,n,ne,nf,d⟩
 ·have hfn:X.fn x=true:=by
   rcases hf with z|z
   ·exact z
   ·rw[z]at hk;cases hk
  obtain⟨c,hc⟩:=I.ok.has x (.inl hk);obtain⟨w',z⟩:=I.cell x c hc;refine wpAny_storeName_cell I.ok.kind hk hc z (fun h' hc' hs=>?_);obtain⟨oc,hoc,hocd⟩:=id z;refine h { s with heap:=h' } ⟨I.ok,I.os,I.bare,⟨fun b o e n hb hx=>?_,fun b o e n hb hx=>?_,I.base.free,fun b o e hx=>?_,I.base.tups,I.base.frzs,I.base.tbls⟩,⟨m,hn.sameBut hs (Ne.symm (cne x c hc)),fun j y v' e1 e2 e3=>?_⟩,fun y c' e=>?_,I.free,I.freeC,fun p hp=>?_,tracked ⟨oc,hoc,I.freeC x c hc⟩ hs,by simpa using I.len⟩ ⟨c,hs,.inr hc⟩
  ·exact (hs.2 b (MO (MH (Mu e) (I.ok.cab x c hfn hc)))).trans (I.base.keep b o e n hb hx)
  ·obtain⟨sl,e1⟩:=I.base.slot b o e n hb hx;exact⟨sl,(hs.2 b (MO (MH (Mu e) (I.ok.cab x c hfn hc)))).trans e1⟩
  ·obtain⟨o',e1⟩:=I.base.there b o e hx;exact⟨o',(hs.2 b (MO (MH (Mu e) (I.ok.cab x c hfn hc)))).trans e1⟩
  ·by_cases hj:j=i
   ·subst hj;rw[hi]at e1;cases e1;rw[List.getElem?_set_self hiσ]at e2;cases e2;exact⟨u,r,.inr ⟨.inl hk,c,hc,hc'⟩⟩
   ·rw[NQ (Ne.symm hj)]at e2;obtain⟨u',r',q⟩:=hl j y v' e1 e2 e3;refine⟨u',r',?_⟩;rcases q with q|⟨k,c',e,z'⟩
    ·exact .inl q
    ·refine .inr ⟨k,c',e,z'.sameBut hs ?_⟩
     rintro rfl
     exact hj (yM hN e1 (I.ok.inj _ _ _ e hc ▸ hi))
  ·by_cases hcc:c'=c
   ·subst hcc;exact⟨_,hc'⟩
   ·obtain⟨w2,z2⟩:=I.cell y c' e;exact⟨w2,z2.sameBut hs hcc⟩
  ·obtain⟨e,n,ne,nf,d⟩:=I.pin p hp;refine⟨(hs.2 p.1 ?_).trans e,n,ne,nf,d⟩;intro q;rw[q,hoc]at e;have q':oc=p.2:=Option.some.inj e;exact d w' (by rw[<- q'];exact hocd)
theorem nw{M:Model}{A:MB}{E:Mf->Mi->Prop}{i:Nat}{x:Str}{v:V}{u:Mf}{Q:Unit->Mi->Prop}(I:Inv X pins σ H s)(hN:X.N.Nodup)(hi:X.N[i]?=some x)(hx:Hd X.env.scope x)(r:aB v u)
  (h:∀ s',Inv X pins (σ.set i (some v)) H s'->Q () s') (hf:X.fn x=true\/X.env.scope.names.lookup x=some .local:=by first|exact .inl rfl|exact .inr rfl|assumption):Mo M A (storeName X.env x u) Q E s:=
 vE I hN hi hx r (fun s' I' _=>h s' I') hf
theorem Inv.call'{s':Mi}{ch:List Mg}(I:Inv X pins σ H s)(ho:s'.os=s.os)(u:Un (tY X.stack) ch H H' s.heap s'.heap)(hok:iF X.prog X.w H' s'.heap)(hg:O1 s'.gens)
  (hch:∀ b∈ch,(b∈X.ex\/X.s₀.heap.objs.size<=b)/\b≠X.env.locals/\(∀ x c,X.env.cells.lookup x=some c->c≠b)/\∀ p∈X.pn ++ pins,p.1≠b):Inv X pins σ H' s':=by
 obtain⟨h',g',d',t',o'⟩:=s';have e:o'=s.os:=ho;subst e;exact I.call (g':=g') (t':=t') (d':=d') u hok hg hch
end
abbrev XK:=Mf->Option Mg->Hp->Prop
abbrev St:=List (Option V)
abbrev VK:=V->Hp->Prop
abbrev TE:=St->Hp->VK->Prop
abbrev TT:=St->Hp->(Bool->Hp->Prop)->Prop
abbrev TA:=St->Hp->(List V->Hp->Prop)->Prop
structure Ends where
 nx:St->Hp->Prop
 rt:VK
 bk:St->Hp->Prop:=fun _ _=>False
 ct:St->Hp->Prop:=fun _ _=>False
abbrev TS:=Ends->St->Hp->Prop
def EP(X:Cx)(pins:List (Mg×Obj))(σ:St)(Q:VK)(u:Mf)(s':Mi):Prop:=∃ v H',Inv X pins σ H' s'/\aB v u/\Q v H'
def TP(X:Cx)(pins:List (Mg×Obj))(σ:St)(Q:Bool->Hp->Prop)(b:Bool)(s':Mi):Prop:=∃ H',Inv X pins σ H' s'/\Q b H'
def AP(X:Cx)(pins:List (Mg×Obj))(σ:St)(Q:List V->Hp->Prop)(us:List Mf)(s':Mi):Prop:=∃ vs H',Inv X pins σ H' s'/\Vals vs us/\Q vs H'
def SP(X:Cx)(pins:List (Mg×Obj))(D:Ends)(f:Flow)(s':Mi):Prop:=
 match f with
 | .next=>∃ σ' H',Inv X pins σ' H' s'/\D.nx σ' H'
 | .brk=>∃ σ' H',Inv X pins σ' H' s'/\D.bk σ' H'
 | .cont=>∃ σ' H',Inv X pins σ' H' s'/\D.ct σ' H'
 | .ret u=>∃ v σ' H',Inv X pins σ' H' s'/\aB v u/\D.rt v H'
def PE(X:Cx)(e:MJ)(t:TE):Prop:=
 ∀ (pins:List (Mg×Obj)) (s:Mi) (σ:St) (H:Hp) (Q:VK),Inv X pins σ H s->t σ H Q->Mo (Ms X.prog X.w) X.A (eval e X.env) (EP X pins σ Q) X.xe s
def PT(X:Cx)(e:MJ)(t:TT):Prop:=
 ∀ (pins:List (Mg×Obj)) (s:Mi) (σ:St) (H:Hp) (Q:Bool->Hp->Prop),Inv X pins σ H s->t σ H Q->Mo (Ms X.prog X.w) X.A (Qv e X.env (eval e X.env)) (TP X pins σ Q) X.xe s
def PW(X:Cx)(e:MJ)(t:TT):Prop:=
 ∀ (whole:Sem Mf) (pins:List (Mg×Obj)) (s:Mi) (σ:St) (H:Hp) (Q:Bool->Hp->Prop),Inv X pins σ H s->t σ H Q->Mo (Ms X.prog X.w) X.A (Qv e X.env whole) (TP X pins σ Q) X.xe s
theorem PW.pt{X:Cx}{e:MJ}{t:TT}(h:PW X e t):PT X e t:=h _
def PA(X:Cx)(es:List MJ)(t:TA):Prop:=
 ∀ (pos:Pos) (pins:List (Mg×Obj)) (s:Mi) (σ:St) (H:Hp) (Q:List V->Hp->Prop),Inv X pins σ H s->t σ H Q->Mo (Ms X.prog X.w) X.A (spliced (Nn pos (Mr es X.env))) (AP X pins σ Q) X.xe s
def PS(X:Cx)(st:ML)(t:TS):Prop:=
 ∀ (pins:List (Mg×Obj)) (s:Mi) (σ:St) (H:Hp) (D:Ends),Inv X pins σ H s->t D σ H->Mo (Ms X.prog X.w) X.A (exec st X.env) (SP X pins D) X.xe s
def nj(X:Cx)(st:List ML)(t:TS):Prop:=
 ∀ (pins:List (Mg×Obj)) (s:Mi) (σ:St) (H:Hp) (D:Ends),Inv X pins σ H s->t D σ H->Mo (Ms X.prog X.w) X.A (execs st X.env) (SP X pins D) X.xe s
theorem cb{α:Type}{t:Sem α}{Q Q':α->Mi->Prop}{M:Model}{A:MB}{E:Mf->Mi->Prop}{s:Mi}(h:Mo M A t Q E s)(hQ:∀ a s,Q a s->Q' a s):Mo M A t Q' E s:=M_ h hQ fun _ _ x=>x
section
variable{X:Cx}
def KZ(i:Nat):TE:=fun σ H Q=>∃ v,σ[i]?=some (some v)/\Q v H
def tC(v:V):TE:=fun _ H Q=>Q v H
theorem DO{i:Nat}{x:Str}{pos:Pos}(hN:X.N[i]?=some x)(hv:Ky X.env.scope x)(hd:(x == ("__debug__":Str))=false:=by decide)(hcd:(x == ("__classdict__":Str))=false:=by decide):PE X (.Name x pos) (KZ i):=by
 intro pins s σ H Q I h;obtain⟨v,e,h⟩:=h;obtain⟨m,hn,hl⟩:=I.loc;obtain⟨u,r,l⟩:=hl i x v hN e hv;have fin:EP X pins σ Q u s:=⟨v,H,I,r,h⟩;rcases l with ⟨hk,hm⟩|⟨hk,c,hc,Rp⟩
 ·exact QU (wpAny_loadName_local I.ok.kind hk hn hm fin) hd
 ·rcases hk with hk|hk
  ·exact QU (wpAny_loadName_cell I.ok.kind hk hc Rp fin) hd
  ·exact QU (wpAny_loadName_free I.ok.kind hk hc Rp fin hcd) hd
theorem HR{i j pos}:PE X (.Constant (.int i) j pos) (tC (.int i)):=fun _ _ _ H _ I h=>wpAny_Constant_int ⟨.int i,H,I.tok _,⟨_,rfl⟩,h⟩
theorem JK{b j pos}:PE X (.Constant (.bool b) j pos) (tC (.bl b)):=fun _ _ _ H _ I h=>Constant_bool ⟨.bl b,H,I,rfl,h⟩
theorem HP{j pos}:PE X (.Constant .none j pos) (tC .non):=fun _ _ _ H _ I h=>Constant_none ⟨.non,H,I,rfl,h⟩
theorem HM{x j pos}:PE X (.Constant (.str x) j pos) (tC (.str x)):=fun _ _ _ H _ I h=>Calls.Constant_str ⟨.str x,H,I.tok _,⟨_,rfl⟩,h⟩
def Gl(X:Cx)(x:Str):Prop:=X.env.kindOf x=some .globalImplicit
theorem oQ{E:Mf->Mi->Prop}{pins:List (Mg×Obj)}{s:Mi}{σ:St}{H:Hp}{x:Str}{u:Mf}{pos:Pos}{Q:Mf->Mi->Prop}(I:Inv X pins σ H s)(hg:Gl X x)(hm:X.mg x=some u)(h:Q u s)
  (hd:(x == ("__debug__":Str))=false:=by decide):Mo (Ms X.prog X.w) X.A (eval (.Name x pos) X.env) Q E s:=
 Qc I.ok.kind hg (Calls.loadGlobal_global (by rw[I.ok.glob];exact I.mod.glob.keeps I.bk) hm h) hd
theorem iN{E:Mf->Mi->Prop}{pins:List (Mg×Obj)}{s:Mi}{σ:St}{H:Hp}{x:Str}{u:Mf}{pos:Pos}{Q:Mf->Mi->Prop}(I:Inv X pins σ H s)(hg:Gl X x)(hm:X.mg x=none)(hv:NA x=some u)(h:Q u s)
  (hn:x≠"__name__":=by decide) (hd:(x == ("__debug__":Str))=false:=by decide):Mo (Ms X.prog X.w) X.A (eval (.Name x pos) X.env) Q E s:=by
 obtain⟨mb,h1,h2⟩:=I.mod.blt;exact Qc I.ok.kind hg (Calls.loadGlobal_builtin (by rw[I.ok.glob];exact I.mod.glob.keeps I.bk) hm (by rw[I.ok.blt];exact h1.keeps I.bk) ((h2 x hn).trans hv) h) hd
theorem Bn{x:Str}{v:V}{u:Mf}{pos:Pos}(hg:Gl X x)(hm:X.mg x=some u)(r:aB v u)(hd:(x == ("__debug__":Str))=false:=by decide):PE X (.Name x pos) (tC v):=
 fun _ _ _ H _ I h=>oQ I hg hm ⟨v,H,I,r,h⟩ hd
theorem FM{x:Str}{v:V}{u:Mf}{pos:Pos}(hg:Gl X x)(hm:X.mg x=none)(hv:NA x=some u)(r:aB v u)(hn:x≠"__name__":=by decide)(hd:(x == ("__debug__":Str))=false:=by decide):PE X (.Name x pos) (tC v):=
 fun _ _ _ H _ I h=>iN I hg hm hv ⟨v,H,I,r,h⟩ hn hd
variable{a b:MJ}{ta tb:TE}{pos:Pos}
def PC(X:Cx)(op:O4)(a b:MJ)(t:TE):Prop:=
 ∀ (pins:List (Mg×Obj)) (s:Mi) (σ:St) (H:Hp) (Q:VK),Inv X pins σ H s->t σ H Q->
  Mo (Ms X.prog X.w) X.A (eval a X.env) (fun v s₁=>Mo (Ms X.prog X.w) X.A (eval b X.env) (fun u s₂=>Mo (Ms X.prog X.w) X.A (MS op v u) (EP X pins σ Q) X.xe s₂) X.xe s₁) X.xe s
def tB(t:TE):TT:=fun σ H Q=>t σ H fun x H1=>∃ c,x=.bl c/\Q c H1
theorem HS{op:O4}{t:TE}(h:PC X op a b t)(h1:Ng op b=false:=by first|exact nobehind _ (by decide) (by decide)|rfl):PE X (.Compare a [op] [b] pos) t:=fun pins s σ H Q I hw=>wpAny_Compare1 (h pins s σ H Q I hw) h1
theorem DD{op:O4}{t:TE}(h:PC X op a b t)(h1:Ng op b=false:=by first|exact nobehind _ (by decide) (by decide)|rfl):PT X (.Compare a [op] [b] pos) (tB t):=by
 intro pins s σ H Q I hw;refine QC (cb (h pins s σ H _ I hw) fun v s1 h1=>cb h1 fun u s2 h2=>cb h2 fun c s3 zz=>?_) h1;obtain⟨x,H1,I1,r1,q1⟩:=zz;obtain⟨d,rfl,q⟩:=q1;cases r1;exact Nz ⟨H1,I1,q⟩
variable{tA tB':TT}{lP:List MJ}
def K9(t u:TT):TT:=fun σ H Q=>t σ H fun c H1=>if c=true then u σ H1 Q else Q false H1
def LS(t u:TT):TT:=fun σ H Q=>t σ H fun c H1=>if c=true then Q true H1 else u σ H1 Q
def K3(t:TT):TT:=fun σ H Q=>t σ H fun c H1=>Q (!c) H1
theorem Ft(ha:PT X a tA):PW X (.BoolOp .And [a] pos) tA:=by
 intro wh pins s σ H Q I h;refine isTrue_and (cb (ha pins s σ H Q I h) fun c s1 e=>?_);cases c with
 | true=>exact isTrue_and_nil e
 | false=>exact e
theorem HD(ha:PT X a tA):PW X (.BoolOp .Or [a] pos) tA:=by
 intro wh pins s σ H Q I h;refine isTrue_or (cb (ha pins s σ H Q I h) fun c s1 e=>?_);cases c with
 | false=>exact isTrue_or_nil e
 | true=>exact e
theorem HE(ha:PT X a tA)(hb:PW X (.BoolOp .And (b::lP) pos) tB'):PW X (.BoolOp .And (a::b::lP) pos) (K9 tA tB'):=by
 intro wh pins s σ H Q I h;refine isTrue_and (cb (ha pins s σ H _ I h) fun c s1 zz=>?_);obtain⟨H1,I1,q1⟩:=zz;cases c with
 | true=>exact hb wh pins s1 σ H1 Q I1 q1
 | false=>exact⟨H1,I1,q1⟩
theorem JC(ha:PT X a tA)(hb:PW X (.BoolOp .Or (b::lP) pos) tB'):PW X (.BoolOp .Or (a::b::lP) pos) (LS tA tB'):=by
 intro wh pins s σ H Q I h;refine isTrue_or (cb (ha pins s σ H _ I h) fun c s1 zz=>?_);obtain⟨H1,I1,q1⟩:=zz;cases c with
 | true=>exact⟨H1,I1,q1⟩
 | false=>exact hb wh pins s1 σ H1 Q I1 q1
theorem HG(ha:PT X a tA):PT X (.UnaryOp .Not a pos) (K3 tA):=by
 intro pins s σ H Q I h;exact isTrue_not (ha pins s σ H (fun c H1=>Q (!c) H1) I h)
def Jq(ta tb:TE):TE:=fun σ H Q=>ta σ H fun x H1=>∃ c,x=.bl c/\if c=true then tb σ H1 Q else Q (.bl false) H1
theorem HN{op}{t:TE}(h:PE X a t):PE X (.BoolOp op [a] pos) t:=fun pins s σ H Q I hw=>BoolOp_one (h pins s σ H Q I hw)
theorem HU(ha:PE X a ta)(hb:PE X (.BoolOp .And (b::lP) pos) tb):PE X (.BoolOp .And (a::b::lP) pos) (Jq ta tb):=by
 intro pins s σ H Q I h;refine BoolOp_and (cb (ha pins s σ H _ I h) fun v s1 zz=>?_);obtain⟨x,H1,I1,r1,q1⟩:=zz;obtain⟨c,rfl,q1⟩:=q1;cases r1;refine Nz ?_;cases c with
 | true=>exact hb pins s1 σ H1 Q I1 q1
 | false=>exact⟨.bl false,H1,I1,rfl,q1⟩
def LU(t:TT)(ta tb:TE):TE:=fun σ H Q=>t σ H fun c H1=>if c=true then ta σ H1 Q else tb σ H1 Q
theorem DR{c:MJ}(hc:PT X c tA)(ha:PE X a ta)(hb:PE X b tb):PE X (.IfExp c a b pos) (LU tA ta tb):=by
 intro pins s σ H Q I h;refine wpAny_IfExp (cb (hc pins s σ H _ I h) fun d s1 zz=>?_);obtain⟨H1,I1,q1⟩:=zz;cases d with
 | true=>exact ha pins s1 σ H1 Q I1 q1
 | false=>exact hb pins s1 σ H1 Q I1 q1
end
def j_(K:Ow)(H:Hp)(a:Mg)(xs:List V):Prop:=
 Rd H a (.lst xs)\/
  ∃ (o:Obj) (its:Array Mf) (n:Nat),K.lookup a=some o/\o.cls=.type "list"/\o.dict=none/\o.data=.seq its n/\its.size<=Mq/\Vals xs its.toList
def jS(K:Ow)(H:Hp)(a:Mg)(xs:List V):Prop:=
 Rd H a (.tup xs)\/
  ∃ (o:Obj) (its:Array Mf) (n:Nat),K.lookup a=some o/\(o.cls=.type "tuple"/\o.dict=none)/\o.data=.seq its n/\its.size<=Mq/\Vals xs its.toList
def LC:Mf->Option V
 | .none=>some .non
 | .bool b=>some (.bl b)
 | .int i _=>some (.int i)
 | .str x _=>some (.str x)
 | .bytes b _=>some (.byt b)
 | .float b _=>some (.flt b)
 | .ref a=>some (.ref a)
 | .type n=>some (.ty n)
 | _=>none
theorem aB.abs{x:V}{u:Mf}(r:aB x u):LC u=some x:=by
 cases x with
 | non=>cases r;rfl
 | bl _=>cases r;rfl
 | int _=>obtain⟨t,rfl⟩:=r;rfl
 | str _=>obtain⟨t,rfl⟩:=r;rfl
 | byt _=>obtain⟨t,rfl⟩:=r;rfl
 | flt _=>obtain⟨t,rfl⟩:=r;rfl
 | ref _=>cases r;rfl
 | ty _=>cases r;rfl
theorem aB.inj{x y:V}{u:Mf}(r:aB x u)(q:aB y u):x=y:=Option.some.inj (r.abs.symm.trans q.abs)
theorem Vals.inj:∀ {xs ys:List V} {us:List Mf},Vals xs us->Vals ys us->xs=ys
 | _,_,_,.nil,.nil=>rfl
 | _,_,_,.cons r t,.cons r' t'=>by rw[r.inj r',Vals.inj t t']
section
variable{X:Cx}{pins:List (Mg×Obj)}{σ:St}{H:Hp}{s:Mi}{a:Mg}{xs ys:List V}
theorem j_.of{K:Ow}(h:H a=some (.lst xs)):j_ K H a xs:=.inl (.inl h)
theorem jS.of{K:Ow}(h:H a=some (.tup xs)):jS K H a xs:=.inl (.inl h)
theorem Inv.list(I:Inv X pins σ H s)(h:j_ X.K H a xs):∃ its:List Mf,Vals xs its/\PlainL s.heap a its.toArray/\xs.length<=Mq:=by
 rcases h with h|⟨o,its,n,hk,hc,hd,hs,hz,r⟩
 ·obtain⟨z,its,n,r,e⟩:=h.ok I.hok;exact⟨its,r,⟨_,n,e,rfl,rfl,rfl⟩,z⟩
 ·refine⟨its.toList,r,⟨o,n,I.kIn a o hk,hc,hd,by simpa using hs⟩,?_⟩
  have e:=r.length;simp only[Array.length_toList]at e;omega
theorem Inv.tuple(I:Inv X pins σ H s)(h:jS X.K H a xs):∃ its:List Mf,Vals xs its/\IsTup s.heap a its.toArray/\xs.length<=Mq:=by
 rcases h with h|⟨o,its,n,hk,hc,hs,hz,r⟩
 ·obtain⟨z,its,r,p⟩:=h.ok I.hok;exact⟨its,r,p.tup,z⟩
 ·refine⟨its.toList,r,⟨o,I.kIn a o hk,hc.1,n,by simpa using hs⟩,?_⟩
  have e:=r.length;simp only[Array.length_toList]at e;omega
theorem Inv.list_inj(I:Inv X pins σ H s)(h:j_ X.K H a xs)(h':j_ X.K H a ys):xs=ys:=by
 obtain⟨its,r,⟨o,n,e,_,_,d⟩,_⟩:=I.list h;obtain⟨its',r',⟨o',n',e',_,_,d'⟩,_⟩:=I.list h';rw[e]at e';cases e';rw[d]at d';injection d' with d1 _
 have:its=its':=by simpa using congrArg Array.toList d1
 subst this;exact r.inj r'
theorem Inv.tuple_inj(I:Inv X pins σ H s)(h:jS X.K H a xs)(h':jS X.K H a ys):xs=ys:=by
 obtain⟨its,r,⟨o,e,_,n,d⟩,_⟩:=I.tuple h;obtain⟨its',r',⟨o',e',_,n',d'⟩,_⟩:=I.tuple h';rw[e]at e';cases e';rw[d]at d';injection d' with d1 _
 have:its=its':=by simpa using congrArg Array.toList d1
 subst this;exact r.inj r'
end
abbrev Cx.wish(X:Cx)(E:Mf->Mi->Prop):Cx:={ X with xe:=E }
abbrev Cx.nox(X:Cx):Cx:=X.wish fun _ _=>False
theorem Cx.Ok.wish{X:Cx}(ok:X.Ok)(E:Mf->Mi->Prop):(X.wish E).Ok:=
 ⟨ok.mod,ok.kind,ok.glob,ok.blt,ok.above,ok.inj,ok.has,ok.cab,ok.hd,ok.frames,ok.stk,ok.exf,ok.bs,ok.bsz,ok.noex,ok.exfs,ok.funs,ok.frf⟩
theorem Cx.Ok.unwish{X:Cx}{E:Mf->Mi->Prop}(ok:(X.wish E).Ok):X.Ok:=
 ⟨ok.mod,ok.kind,ok.glob,ok.blt,ok.above,ok.inj,ok.has,ok.cab,ok.hd,ok.frames,ok.stk,ok.exf,ok.bs,ok.bsz,ok.noex,ok.exfs,ok.funs,ok.frf⟩
section
variable{X:Cx}{pins:List (Mg×Obj)}{σ:St}{H:Hp}{s:Mi}{E:Mf->Mi->Prop}
theorem Inv.wish(I:Inv X pins σ H s)(E:Mf->Mi->Prop):Inv (X.wish E) pins σ H s:=⟨I.ok.wish E,I.os,I.bare,I.base,I.loc,I.cell,I.free,I.freeC,I.pin,I.hok,I.len⟩
theorem Inv.unwish(I:Inv (X.wish E) pins σ H s):Inv X pins σ H s:=⟨I.ok.unwish,I.os,I.bare,I.base,I.loc,I.cell,I.free,I.freeC,I.pin,I.hok,I.len⟩
theorem SP.unwish{D:Ends}{f:Flow}{s':Mi}(h:SP (X.wish E) pins D f s'):SP X pins D f s':=by
 cases f with
 | next=>obtain⟨σ',H',I,q⟩:=h;exact⟨σ',H',I.unwish,q⟩
 | brk=>obtain⟨σ',H',I,q⟩:=h;exact⟨σ',H',I.unwish,q⟩
 | cont=>obtain⟨σ',H',I,q⟩:=h;exact⟨σ',H',I.unwish,q⟩
 | ret u=>obtain⟨v,σ',H',I,r,q⟩:=h;exact⟨v,σ',H',I.unwish,r,q⟩
theorem nj.nox{st:List ML}{t:TS}(h:nj X.nox st t):nj X st t:=fun pins s σ H D I hw=>
 M_ (h pins s σ H D (I.wish _) hw) (fun _ _ q=>q.unwish) fun _ _ z=>False.elim z
end
section
variable{X:Cx}{st:ML}{lP:List ML}{t u:TS}{e:MJ}{te:TE}{pos:Pos}
def Jn:TS:=fun D σ H=>D.nx σ H
def K1(t u:TS):TS:=fun D σ H=>t { D with nx:=u D } σ H
theorem Fz:nj X [] Jn:=fun _ _ σ H _ I h=>Ox ⟨σ,H,I,h⟩
theorem DF(h1:PS X st t)(h2:nj X lP u):nj X (st::lP) (K1 t u):=by
 intro pins s σ H D I h;refine wpAny_execs_cons (cb (h1 pins s σ H { D with nx:=u D } I h) fun f s1 q=>?_)
 cases f with
 | next=>
  obtain⟨σ',H',I',q⟩:=q;exact h2 pins s1 σ' H' D I' q
 | ret v=>exact q
 | brk=>exact q
 | cont=>exact q
theorem Fy(h1:PS X st t):nj X [st] t:=by
 intro pins s σ H D I h;refine wpAny_execs_cons (cb (h1 pins s σ H D I h) fun f s1 q=>?_);cases f with
 | next=>exact Ox q
 | ret v=>exact q
 | brk=>exact q
 | cont=>exact q
theorem Inv.quiet{pins:List (Mg×Obj)}{σ:St}{H:Hp}{s:Mi}(I:Inv X pins σ H s):interactive X.env=false:=by simp[interactive,I.ok.kind]
def Jo(te:TE):TS:=fun D σ H=>te σ H fun _ H1=>D.nx σ H1
theorem FB(he:PE X e te)(hs:N3 e none pos.line X.env=pure false:=by rfl):PS X (.Expr e pos) (Jo te):=by
 intro pins s σ H D I h;exact wpAny_Expr_any (cb (he pins s σ H _ I h) fun v s1 ⟨x,H1,I1,r1,q1⟩=>⟨σ,H1,I1,q1⟩) I.quiet hs
def K2(te:TE):TS:=fun D σ H=>te σ H D.rt
theorem DI(he:PE X e te):PS X (.Return (some e) pos) (K2 te):=by
 intro pins s σ H D I h;exact wpAny_Return_some (cb (he pins s σ H _ I h) fun v s1 ⟨x,H1,I1,r1,q1⟩=>⟨x,σ,H1,I1,r1,q1⟩)
def Jk:TS:=fun D _ H=>D.rt .non H
theorem FA:PS X (.Return none pos) Jk:=fun _ _ σ H _ I h=>wpAny_Return_none ⟨.non,σ,H,I,rfl,h⟩
def K5(c:TT)(t u:TS):TS:=fun D σ H=>c σ H fun b H1=>if b=true then t D σ H1 else u D σ H1
theorem JD{c:MJ}{a b:List ML}{tc:TT}(hc:PT X c tc)(ha:nj X a t)(hb:nj X b u):PS X (.If c a b pos) (K5 tc t u):=by
 intro pins s σ H D I h;refine wpAny_If (cb (hc pins s σ H _ I h) fun d s1 zz=>?_);obtain⟨H1,I1,q1⟩:=zz;cases d with
 | true=>exact ha pins s1 σ H1 D I1 q1
 | false=>exact hb pins s1 σ H1 D I1 q1
def Hq:TS:=fun _ _ _=>False
theorem DJ:PS X st Hq:=fun _ _ _ _ _ _ h=>h.elim
end
abbrev TG:=V->St->Hp->(St->Hp->Prop)->Prop
abbrev GC:=List V->St->Hp->(St->Hp->Prop)->Prop
def PG(X:Cx)(target:MJ)(t:TG):Prop:=
 ∀ (pins:List (Mg×Obj)) (s:Mi) (σ:St) (H:Hp) (v:V) (u:Mf) (Q:St->Hp->Prop),Inv X pins σ H s->aB v u->t v σ H Q->
  Mo (Ms X.prog X.w) X.A (assign target X.env u) (fun _ s'=>∃ σ' H',Inv X pins σ' H' s'/\Q σ' H') X.xe s
def ER(X:Cx)(ts:List MJ)(t:GC):Prop:=
 ∀ (pins:List (Mg×Obj)) (s:Mi) (σ:St) (H:Hp) (vs:List V) (us:List Mf) (Q:St->Hp->Prop),Inv X pins σ H s->Vals vs us->t vs σ H Q->
  Mo (Ms X.prog X.w) X.A (assignInOrder ((NM ts X.env).map (·.2)) us) (fun _ s'=>∃ σ' H',Inv X pins σ' H' s'/\Q σ' H') X.xe s
abbrev GB:=V->V->V->Hp->(Hp->Prop)->Prop
def Jb(X:Cx)(t:GB):Prop:=
 ∀ (pins:List (Mg×Obj)) (s:Mi) (σ:St) (H:Hp) (o i v:V) (ov iv u:Mf) (Q:Hp->Prop),Inv X pins σ H s->aB o ov->aB i iv->aB v u->t o i v H Q->
  Mo (Ms X.prog X.w) X.A (Q9 ov iv u) (fun _ s'=>∃ H',Inv X pins σ H' s'/\Q H') X.xe s
section
variable{X:Cx}{pos:Pos}
def zo(i:Nat):TG:=fun v σ H Q=>Q (σ.set i (some v)) H
theorem FH{i:Nat}{x:Str}(hN:X.N.Nodup)(hi:X.N[i]?=some x)(hx:Hd X.env.scope x)(hf:X.fn x=true\/X.env.scope.names.lookup x=some .local:=by first|exact .inl rfl|exact .inr rfl|assumption):PG X (.Name x pos) (zo i):=by
 intro pins s σ H v u Q I r h;exact Q5 (nw I hN hi hx r (fun s' I'=>⟨_,H,I',h⟩) hf)
def Ls:GC:=fun vs σ H Q=>vs=[]/\Q σ H
def JZ(t:TG)(u:GC):GC:=fun vs σ H Q=>∃ v r,vs=v::r/\t v σ H fun σ' H'=>u r σ' H' Q
theorem FG:ER X [] Ls:=by
 intro pins s σ H vs us Q I r h;obtain⟨e,h⟩:=h;subst e;cases r;exact assignInOrder_nil ⟨σ,H,I,h⟩
theorem DN{e:MJ}{es:List MJ}{t:TG}{u:GC}(h1:PG X e t)(h2:ER X es u)
  (hs:(NM (e::es) X.env).map (·.2)=assign e X.env::(NM es X.env).map (·.2):=by rfl):ER X (e::es) (JZ t u):=by
 intro pins s σ H vs us Q I r h;obtain⟨v,vr,e1,h⟩:=h;subst e1;cases r with
 | cons r rr=>
  rw[hs];refine assignInOrder_cons (cb (h1 pins s σ H _ _ _ I r h) fun _ s1 zz=>?_);obtain⟨σ1,H1,I1,q1⟩:=zz;exact h2 pins s1 σ1 H1 _ _ Q I1 rr q1
def Lq(K:Ow)(n:Nat)(t:GC):TG:=fun v σ H Q=>∃ a xs,v=.ref a/\jS K H a xs/\xs.length=n/\t xs σ H Q
theorem HJ{es:List MJ}{k:Nat}{t:GC}{n:Nat}(hc:X.calm=true)(h:ER X es t)
  (hn:(NM es X.env).length=n:=by rfl) (hst:(NM es X.env).findIdx? (·.1)=none:=by rfl):PG X (.Tuple es k pos) (Lq X.K n t):=by
 intro pins s σ H v u Q I r hw;obtain⟨a,xs,e1,hq,hl,hw⟩:=hw;subst e1;cases r;obtain⟨its,rv,ht,hz⟩:=I.tuple hq;refine assign_Tuple_tuple (I.ok.hd hc) ht (by simp[hn,<- hl,rv.length]) hst fun h' hx=>?_
 have I1:Inv X pins σ H { s with heap:=h' }:=I.kept (t':=s.toks) fun b o e=>hx b o (MO (Mu e)) e
 exact h pins _ σ H xs _ Q I1 (by simpa using rv) hw
def Lr(to ti:TE)(t:GB):TG:=fun v σ H Q=>to σ H fun o H1=>ti σ H1 fun i H2=>t o i v H2 fun H3=>Q σ H3
theorem HK{o i:MJ}{to ti:TE}{t:GB}(ho:PE X o to)(hi:PE X i ti)(hs:Jb X t)
  (ha:∀ v,assign (.Subscript o i pos) X.env v=(do
   let ov <- holding [v] (eval o X.env)
   let iv <- holding [v,ov] (eval i X.env)
   OB pos
   holding [v,ov,iv] (Q9 ov iv v)
   release [v,ov,iv] []):=by intro _;rfl):PG X (.Subscript o i pos) (Lr to ti t):=by
 intro pins s σ H v u Q I r h;rw[ha];refine Me (M8 (cb (ho pins s σ H _ I h) fun ov s1 zz=>?_));obtain⟨x,H1,I1,r1,q1⟩:=zz;refine Me (M8 (cb (hi pins s1 σ H1 _ I1 q1) fun iv s2 zz=>?_));obtain⟨y,H2,I2,r2,q2⟩:=zz;refine Me (Pm (Me (M8 (cb (hs pins s2 σ H2 x y v ov iv u _ I2 r1 r2 r q2) fun _ s3 zz=>?_))));obtain⟨H3,I3,q3⟩:=zz;exact wpAny_release ⟨σ,H3,I3,q3⟩
def Hs(te:TE)(g:TG):TS:=fun D σ H=>te σ H fun x H1=>g x σ H1 D.nx
theorem HH{tg e:MJ}{te:TE}{g:TG}(he:PE X e te)(hg:PG X tg g)(hs:swapsWithSole [tg] e pos.line X.env=pure false:=by rfl)(hw:swappedStores [tg] e X.env=pure none:=by rfl)
  (h1:(NM [tg] X.env).map (·.2)=[assign tg X.env]:=by rfl):PS X (.Assign [tg] e pos) (Hs te g):=by
 intro pins s σ H D I h;refine wpAny_Assign_stores (cb (he pins s σ H _ I h) fun v s1 zz=>?_) hs hw;obtain⟨x,H1,I1,r1,q1⟩:=zz;rw[h1];exact cb (hg pins s1 σ H1 x v _ I1 r1 q1) fun _ s2 q=>q
theorem DH{i:Nat}{x:Str}{e:MJ}{te:TE}{pos':Pos}(hN:X.N.Nodup)(hi:X.N[i]?=some x)(hx:Hd X.env.scope x)(he:PE X e te)(hs:N3 e (some (.Name x pos')) pos.line X.env=pure false:=by rfl)(hf:X.fn x=true\/X.env.scope.names.lookup x=some .local:=by first|exact .inl rfl|exact .inr rfl|assumption):
  PS X (.Assign [.Name x pos'] e pos) (Hs te (zo i)):=by
 intro pins s σ H D I h;refine wpAny_Assign_Name (cb (he pins s σ H _ I h) fun v s1 zz=>?_) hs;obtain⟨y,H1,I1,r1,q1⟩:=zz;exact nw I1 hN hi hx r1 (fun s2 I2=>⟨_,H1,I2,q1⟩) hf
def Ho(c:TT)(tb:TS):TS:=fun D σ H=>∃ W:Nat->St->Hp->Prop,(∃ m,W m σ H)/\∀ m σ H,W m σ H->
 c σ H fun b H1=>if b=true then ∃ N:St->Hp->Prop,(∀ σ' H',N σ' H'->∃ m',m' < m/\W m' σ' H')/\tb { D with nx:=N,ct:=N,bk:=D.nx } σ H1 else D.nx σ H1
theorem DG{c:MJ}{body:List ML}{tc:TT}{tb:TS}(hp:Pk (Ms X.prog X.w) X.A X.env X.xe)(hc:PT X c tc)(hb:nj X body tb):PS X (.While c body [] pos) (Ho tc tb):=by
 intro pins s σ H D I h;obtain⟨W,⟨m0,w0⟩,turn⟩:=h;refine wpAny_While (codeAny_whileLoop (fun n s'=>∃ σ' H',Inv X pins σ' H' s'/\W n σ' H') ?_ m0 ⟨σ,H,I,w0⟩)
 rintro n s1 ⟨σ1,H1,I1,w1⟩
 refine M7 hp (cb (hc pins s1 σ1 H1 _ I1 (turn n σ1 H1 w1)) fun b s2 zz=>?_);obtain⟨H2,I2,q2⟩:=zz;cases b with
 | true=>
  obtain⟨N,hN,q2⟩:=q2;rw[if_pos rfl];refine M7 hp (cb (hb pins s2 σ1 H2 _ I2 q2) fun f s3 q3=>?_);cases f with
  | next=>
   obtain⟨σ3,H3,I3,n3⟩:=q3;obtain⟨m',hm,w3⟩:=hN σ3 H3 n3;exact⟨m',hm,σ3,H3,I3,w3⟩
  | cont=>
   obtain⟨σ3,H3,I3,n3⟩:=q3;obtain⟨m',hm,w3⟩:=hN σ3 H3 n3;exact⟨m',hm,σ3,H3,I3,w3⟩
  | brk=>exact q3
  | ret v=>exact q3
 | false=>
  rw[if_neg Bool.false_ne_true];exact Ox ⟨σ1,H2,I2,q2⟩
end
structure It where
 go:Nat->Hp->Prop
 yld:Nat->Hp->V->Hp->Prop
 stop:Nat->Hp->Prop
def qw(X:Cx)(pins:List (Mg×Obj))(H:Hp)(b:Mg):Prop:=
 H b=none/\b≠X.env.locals/\b∉X.fs/\(b∈X.ex\/X.s₀.heap.objs.size<=b)/\(∀ x c,X.env.cells.lookup x=some c->c≠b)/\∀ p∈X.pn ++ pins,p.1≠b
theorem Inv.fpOk{X:Cx}{pins:List (Mg×Obj)}{σ:St}{H H':Hp}{s:Mi}{b:Mg}(I:Inv X pins σ H s)(hb:s.heap.objs.size<=b)(hn:H' b=none):qw X pins H' b:=by
 refine⟨hn,Pc (MH I.lt hb),I.nofs hb,.inr (le_trans I.sz hb),fun x c e z=>?_,fun p hp z=>?_⟩
 ·obtain⟨v,q⟩:=I.cell x c e;exact absurd (MH q.lt (by rw[z];exact hb)) (Nat.lt_irrefl _)
 ·exact absurd (MH (Mu (I.pin p hp).1) (by rw[z];exact hb)) (Nat.lt_irrefl _)
structure Turn(P:Mw)(w:MG)(K:Ow)(tg:MJ)(J:It)(fp:List Mg)(it:Mg)(tn:Nat->MD->Prop):Prop where
 mem:it∈fp
 obj:∀ i h,tn i h->∀ b∈fp,∃ o,h.get? b=some o/\∀ v,o.data≠.cell v
 keep:∀ i h h',tn i h->(∀ b∈fp,∀ o,h.get? b=some o->h'.get? b=some o)->tn i h'
 item:∀ (X:Cx),X.prog=P->X.w=w->X.K=K->X.calm=true->∀ (i:Nat) (pins:List (Mg×Obj)) (s:Mi) (σ:St) (H:Hp) (E:Mf->Mi->Prop),Inv X pins σ H s->(∀ b∈fp,qw X pins H b)->tn i s.heap->J.go i H->
  Mo (Ms P w) X.A (NK (.ref it)) (fun r s1=>∃ u,r=some u/\
   Mo (Ms P w) X.A (Oc tg (.ref it) u) (fun _ s2=>∃ x H',Inv X pins σ H' s2/\aB x u/\J.yld i H x H'/\tn (i+1) s2.heap/\∀ b∈fp,H' b=none) E s1) E s
 done:∀ (X:Cx),X.prog=P->X.w=w->X.K=K->X.calm=true->∀ (i:Nat) (pins:List (Mg×Obj)) (s:Mi) (σ:St) (H:Hp) (E:Mf->Mi->Prop),Inv X pins σ H s->(∀ b∈fp,qw X pins H b)->tn i s.heap->J.stop i H->
  Mo (Ms P w) X.A (NK (.ref it)) (fun r s1=>r=none/\Inv X pins σ H s1) E s
 self:∀ (A:MB) (i:Nat) (s:Mi) (Q:Mf->Mi->Prop) (E:Mf->Mi->Prop),tn i s.heap->Q (.ref it) s->Mo (Ms P w) A (OF (.ref it)) Q E s
abbrev TI:=St->Hp->(It->Hp->Prop)->Prop
def Hb(X:Cx)(pins:List (Mg×Obj))(σ:St)(tg:MJ)(R:It->Hp->Prop)(itv:Mf)(s2:Mi):Prop:=
 ∃ (it:Mg) (fp:List Mg) (tn:Nat->MD->Prop) (J:It) (H':Hp),itv=.ref it/\Inv X pins σ H' s2/\Turn X.prog X.w X.K tg J fp it tn/\tn 0 s2.heap/\(∀ b∈fp,qw X pins H' b)/\R J H'
def PI(X:Cx)(tg iter:MJ)(wi:TI):Prop:=
 ∀ (pins:List (Mg×Obj)) (s:Mi) (σ:St) (H:Hp) (R:It->Hp->Prop),Inv X pins σ H s->wi σ H R->
  Mo (Ms X.prog X.w) X.A (eval iter X.env) (fun v s1=>Mo (Ms X.prog X.w) X.A (OF v) (Hb X pins σ tg R) X.xe s1) X.xe s
theorem zl{M:Model}{A:MB}{E:Mf->Mi->Prop}{s:Mi}{tg:MJ}{it:Mg}{u:Mf}{o:Obj}{n:String}{vs:Array Mf}{Q:Unit->Mi->Prop}(ho:s.heap.get? it=some o)(hc:o.cls=.type n)(hd:o.data=.fields vs)
  (hn:["enumerate","zip","dict_itemiterator","dict_reverseitemiterator","odict_iterator","itertools.zip_longest","itertools.pairwise"].contains n=false) (hQ:Q () s):Mo M A (Oc tg (.ref it) u) Q E s:=by
 unfold Oc;cases tg<;>first
  | exact Mj hQ
  | (cases u<;>first
    | exact Mj hQ
    | (refine Me (wpAny_load ho ?_)
       rw[hc,hd];show Mo M A (if (["enumerate","zip","dict_itemiterator","dict_reverseitemiterator","odict_iterator","itertools.zip_longest","itertools.pairwise"].contains n && vs[0]? == some (M9 _))=true then _ else _) Q E s
       rw[if_neg (by intro h;rw[hn,Bool.false_and]at h;cases h)]
       exact Mj hQ))
def KE(K:Ow)(a:Mg):It:=
 ⟨fun i H=>∃ xs x,j_ K H a xs/\xs[i]?=some x,fun i H x H'=>H'=H/\∀ xs,j_ K H a xs->xs[i]?=some x,fun i H=>∃ xs,j_ K H a xs/\xs.length<=i⟩
def LG(K:Ow)(a:Mg):It:=
 ⟨fun i H=>∃ xs x,jS K H a xs/\xs[i]?=some x,fun i H x H'=>H'=H/\∀ xs,jS K H a xs->xs[i]?=some x,fun i H=>∃ xs,jS K H a xs/\xs.length<=i⟩
def KD(lo:Int)(n:Nat):It:=⟨fun i _=>i < n,fun i H x H'=>H'=H/\x=.int (lo+i),fun i _=>n<=i⟩
theorem BU{P:Mw}{w:MG}{K:Ow}{tg:MJ}(a it:Mg):Turn P w K tg (KE K a) [it] it (fun i h=>h.IsListIter it a i) where
 mem:=by simp
 obj:=fun i h st b hb=>by
  have e:b=it:=by simpa using hb
  subst e;obtain⟨o,e,c,d⟩:=st;exact⟨o,e,fun v z=>by rw[d]at z;cases z⟩
 keep:=fun i h h' st k=>st.at fun o e=>k it (by simp) o e
 item:=by
  intro X hP hw hK hc i pins s σ H E I hf st hg;subst hP hw hK;obtain⟨xs,x,hq,hx⟩:=hg;obtain⟨its,rv,p,hz⟩:=I.list hq;obtain⟨u,hu,ru⟩:=rv.get hx;obtain⟨f0,f1,f2,f3,f4,f5⟩:=hf it (by simp)
  refine Qt st p.isList (x:=u) (by simpa using hu) fun h' st' sb=>?_
  have I1:Inv X pins σ H { s with heap:=h' }:=I.turned (t':=s.toks) (fun b o hb e=>(sb.2 b hb).trans e) f0 f1 f3 f4 f5
  obtain⟨o,e,c,d⟩:=id st';exact⟨u,rfl,zl (s:={ s with heap:=h' }) e c d (by decide) ⟨x,H,I1,ru,⟨rfl,fun ys hy=>by rw[I.list_inj hy hq];exact hx⟩,st',fun b hb=>(hf b hb).1⟩⟩
 done:=by
  intro X hP hw hK hc i pins s σ H E I hf st hg;subst hP hw hK;obtain⟨xs,hq,hx⟩:=hg;obtain⟨its,rv,p,hz⟩:=I.list hq;obtain⟨f0,f1,f2,f3,f4,f5⟩:=hf it (by simp)
  have hl:=rv.length;exact QB (I.ok.hd hc) st p.isList (by simp;omega) fun h' eb=>⟨rfl,I.turned (t':=s.toks) (fun b o hb e=>eb b o hb e) f0 f1 f3 f4 f5⟩
 self:=fun _ _ _ _ _ st h=>wpAny_pyIter_listiter st h
theorem zZ{P:Mw}{w:MG}{K:Ow}{tg:MJ}(a it:Mg):Turn P w K tg (LG K a) [it] it (fun i h=>h.IsTupleIter it a i) where
 mem:=by simp
 obj:=fun i h st b hb=>by
  have e:b=it:=by simpa using hb
  subst e;obtain⟨o,e,c,d⟩:=st;exact⟨o,e,fun v z=>by rw[d]at z;cases z⟩
 keep:=fun i h h' st k=>st.at fun o e=>k it (by simp) o e
 item:=by
  intro X hP hw hK hc i pins s σ H E I hf st hg;subst hP hw hK;obtain⟨xs,x,hq,hx⟩:=hg;obtain⟨its,rv,p,hz⟩:=I.tuple hq;obtain⟨u,hu,ru⟩:=rv.get hx;obtain⟨f0,f1,f2,f3,f4,f5⟩:=hf it (by simp)
  refine wpAny_pyNext_tuple_item st (show s.heap.IsTuple a its.toArray from p) (x:=u) (by simpa using hu) fun h' st' sb=>?_
  have I1:Inv X pins σ H { s with heap:=h' }:=I.turned (t':=s.toks) (fun b o hb e=>(sb.2 b hb).trans e) f0 f1 f3 f4 f5
  obtain⟨o,e,c,d⟩:=id st';exact⟨u,rfl,zl (s:={ s with heap:=h' }) e c d (by decide) ⟨x,H,I1,ru,⟨rfl,fun ys hy=>by rw[I.tuple_inj hy hq];exact hx⟩,st',fun b hb=>(hf b hb).1⟩⟩
 done:=by
  intro X hP hw hK hc i pins s σ H E I hf st hg;subst hP hw hK;obtain⟨xs,hq,hx⟩:=hg;obtain⟨its,rv,p,hz⟩:=I.tuple hq;obtain⟨f0,f1,f2,f3,f4,f5⟩:=hf it (by simp)
  have hl:=rv.length;exact wpAny_pyNext_tuple_end (I.ok.hd hc) st (show s.heap.IsTuple a its.toArray from p) (by simp;omega) fun h' eb=>⟨rfl,I.turned (t':=s.toks) (fun b o hb e=>eb b o hb e) f0 f1 f3 f4 f5⟩
 self:=fun _ _ _ _ _ st h=>wpAny_pyIter_tupleiter st h
theorem z9{P:Mw}{w:MG}{K:Ow}{tg:MJ}(it:Mg)(lo:Int)(n:Nat):Turn P w K tg (KD lo n) [it] it (fun i h=>IsRangeIter h it (lo+(i:Nat)*1) ((n:Int) - (i:Nat)) 1) where
 mem:=by simp
 obj:=fun i h st b hb=>by
  have e:b=it:=by simpa using hb
  subst e;exact⟨_,st,fun v z=>by
   have z':Data.fields _=Data.cell v:=z;cases z'⟩
 keep:=fun i h h' st k=>k it (by simp) _ st
 item:=by
  intro X hP hw hK hc i pins s σ H E I hf st hg;subst hP hw hK;obtain⟨f0,f1,f2,f3,f4,f5⟩:=hf it (by simp)
  have W:=Walks.range (prog:=X.prog) (w:=X.w) (I.ok.hd hc) it lo 1 n;refine W.item i s _ _ hg st fun v h' tk hv st' kk=>?_;obtain⟨t,rfl⟩:=hv;have I1:Inv X pins σ H { s with heap:=h',toks:=tk }:=I.turned (fun b o hb e=>kk b o (by simpa using hb) e) f0 f1 f3 f4 f5
  refine⟨_,rfl,zl (s:={ s with heap:=h',toks:=tk }) (n:="range_iterator") st' rfl rfl (by decide) ⟨.int (lo+i),H,I1,⟨t,?_⟩,⟨rfl,rfl⟩,st',fun b hb=>(hf b hb).1⟩⟩
  rw[Int.mul_one]
 done:=by
  intro X hP hw hK hc i pins s σ H E I hf st hg;subst hP hw hK;obtain⟨f0,f1,f2,f3,f4,f5⟩:=hf it (by simp)
  exact wpAny_pyNext_range_end (I.ok.hd hc) st (by have:n<=i:=hg;omega) fun h' eb=>⟨rfl,I.turned (t':=s.toks) (fun b o hb e=>eb b o hb e) f0 f1 f3 f4 f5⟩
 self:=fun _ _ _ _ _ st h=>wpAny_pyIter_rangeiter st h
section
variable{X:Cx}{tg:MJ}
theorem yD{pins:List (Mg×Obj)}{σ:St}{H:Hp}{s:Mi}{R:It->Hp->Prop}{E:Mf->Mi->Prop}{lo hi:Int}{t u v:Tok}{tk:Nat}(I:Inv X pins σ H s)(h1:-(2 ^ 62)<=lo)(h2:lo < 2 ^ 62)(h3:-(2 ^ 62)<=hi)(h4:hi < 2 ^ 62)
  (q:R (KD lo (hi - lo).toNat) H):Mo (Ms X.prog X.w) X.A (OF (.ref s.heap.objs.size)) (Hb X pins σ tg R) E { s with heap:=s.heap.push { cls:=.type "range",data:=.fields #[.int lo t,.int hi u,.int 1 v] },toks:=tk }:=by
 refine wpAny_pyIter_range (IsRange.new ..) (small_one h1 h2 h3 h4) ?_;have I1:Inv X pins σ H { s with heap:=s.heap.push { cls:=.type "range",data:=.fields #[.int lo t,.int hi u,.int 1 v] },toks:=tk }:=I.kept fun b o e=>Mm _ e
 refine⟨(s.heap.push { cls:=.type "range",data:=.fields #[.int lo t,.int hi u,.int 1 v] }).objs.size,[(s.heap.push { cls:=.type "range",data:=.fields #[.int lo t,.int hi u,.int 1 v] }).objs.size],_,_,H,rfl,
  I1.kept (t':=tk) fun b o e=>Mm _ e,z9 _ lo (hi - lo).toNat,?_,fun b hb=>?_,q⟩
 ·have e1:lo+((0:Nat):Int)*1=lo:=by simp
  have e2:(((hi - lo).toNat:Nat):Int) - ((0:Nat):Int)=Builtin.Range.rangeSize lo hi 1:=by rw[rangeSize_one];split<;>omega
  show IsRangeIter _ _ (lo+((0:Nat):Int)*1) ((((hi - lo).toNat:Nat):Int) - ((0:Nat):Int)) 1
  rw[e1,e2];exact Mn _ rfl
 ·have e:b=(s.heap.push { cls:=.type "range",data:=.fields #[.int lo t,.int hi u,.int 1 v] }).objs.size:=by simpa using hb
  subst e;exact I1.fpOk (le_refl _) (I1.hok.fresh (le_refl _))
def JY(ta:TA):TI:=fun σ H R=>ta σ H fun vs H1=>∃ j:Int,vs=[.int j]/\-(2 ^ 62)<=j/\j < 2 ^ 62/\R (KD 0 j.toNat) H1
def JX(ta:TA):TI:=fun σ H R=>ta σ H fun vs H1=>∃ i j:Int,vs=[.int i,.int j]/\(-(2 ^ 62)<=i/\i < 2 ^ 62/\-(2 ^ 62)<=j/\j < 2 ^ 62)/\R (KD i (j - i).toNat) H1
theorem B8{a:MJ}{ta:TA}{p pos:Pos}(hg:Gl X "range")(hm:X.mg "range"=none)(ha:PA X [a] ta)(hs:Mr [a] X.env=[(false,eval a X.env)]:=by rfl):PI X tg (.Call (.Name "range" p) [a] [] pos) (JY ta):=by
 intro pins s σ H R I h;refine Rh (iN I hg hm boot_range (PyProof.Rows.callWith_type1 (cb (ha pos pins s σ H _ I h) fun us s1 ⟨vs,H1,I1,r1,q1⟩=>?_) hs rfl));obtain⟨j,e,q1,q2,q⟩:=q1;subst e;cases r1 with
 | cons r rr=>
  cases rr;obtain⟨t,rfl⟩:=r;exact call_range_1 (yD I1 (by walk_at "o") (by walk_at "o") q1 q2 (by simpa using q))
theorem B7{a b:MJ}{ta:TA}{p pos:Pos}(hg:Gl X "range")(hm:X.mg "range"=none)(ha:PA X [a,b] ta)(hs:Mr [a,b] X.env=[(false,eval a X.env),(false,eval b X.env)]:=by rfl)(hs2:Mr [b] X.env=[(false,eval b X.env)]:=by rfl):
  PI X tg (.Call (.Name "range" p) [a,b] [] pos) (JX ta):=by
 intro pins s σ H R I h;refine Rh (iN I hg hm boot_range (PyProof.Rows.callWith_type1 (cb (ha pos pins s σ H _ I h) fun us s1 ⟨vs,H1,I1,r1,q1⟩=>?_) (by rw[hs,hs2]) (by rw[hs2];rfl)))
 obtain⟨i,j,e,⟨q1,q2,q3,q4⟩,q⟩:=q1;subst e;cases r1 with
 | cons r rr=>
  cases rr with
  | cons r' rr=>
   cases rr;obtain⟨t,rfl⟩:=r;obtain⟨t',rfl⟩:=r';exact call_range_2 (yD I1 q1 q2 q3 q4 q)
def K6(wi:TI)(g:TG)(tb:TS):TS:=fun D σ H=>wi σ H fun J H1=>∃ W:Nat->Nat->St->Hp->Prop,(∃ m,W 0 m σ H1)/\∀ i m σ H,W i m σ H->
 (J.stop i H/\D.nx σ H)\/(J.go i H/\∃ N:St->Hp->Prop,(∀ σ' H',N σ' H'->∃ m',m' < m/\W (i+1) m' σ' H')/\∀ x H',J.yld i H x H'->g x σ H' fun σ2 H2=>tb { D with nx:=N,ct:=N,bk:=D.nx } σ2 H2)
def pT(fp:List Mg)(h:MD):List (Mg×Obj):=fp.filterMap fun b=>(h.get? b).map fun o=>(b,o)
theorem h9{fp:List Mg}{h:MD}{b:Mg}{o:Obj}(hb:b∈fp)(e:h.get? b=some o):(b,o)∈pT fp h:=List.mem_filterMap.mpr ⟨b,hb,by rw[e];rfl⟩
theorem Cd{fp:List Mg}{h:MD}{p:Mg×Obj}(hp:p∈pT fp h):p.1∈fp/\h.get? p.1=some p.2:=by
 obtain⟨b,hb,e⟩:=List.mem_filterMap.mp hp;cases q:h.get? b with
 | none=>rw[q]at e;cases e
 | some o=>
  rw[q]at e;have e':(b,o)=p:=Option.some.inj e;subst e';exact⟨hb,q⟩
theorem Inv.pinned{pins:List (Mg×Obj)}{σ:St}{H:Hp}{s:Mi}{fp:List Mg}(I:Inv X pins σ H s)(hf:∀ b∈fp,qw X pins H b)(ho:∀ b∈fp,∃ o,s.heap.get? b=some o/\∀ v,o.data≠.cell v):Inv X (pins ++ pT fp s.heap) σ H s:=
 I.pins_of fun p hp=>(QY.mp hp).elim (fun z=>I.pin p (MV _ z)) fun z=>by
  obtain⟨hb,e⟩:=Cd z;obtain⟨f0,f1,f2,_⟩:=hf p.1 hb;obtain⟨o,e',d⟩:=ho p.1 hb;rw[e]at e';cases e';exact⟨e,f0,f1,f2,d⟩
theorem Inv.unpinned{pins pl:List (Mg×Obj)}{σ:St}{H:Hp}{s:Mi}(I:Inv X (pins ++ pl) σ H s):Inv X pins σ H s:=I.pins_of fun p hp=>I.pin p (MV _ (List.mem_append_left _ hp))
theorem DK{iter:MJ}{body:List ML}{wi:TI}{g:TG}{tb:TS}{pos:Pos}(hp:Pk (Ms X.prog X.w) X.A X.env X.xe)(hc:X.calm=true)(hi:PI X tg iter wi)(hg:PG X tg g)(hb:nj X body tb)
  (hs:∀ x,Nh iter X.env x=pure x:=by intro _;rfl):PS X (.For tg iter body [] pos) (K6 wi g tb):=by
 intro pins s σ H D I h;refine wpAny_For (cb (hi pins s σ H _ I h) fun v s1 h1=>cb h1 fun itv s2 h2=>?_) hs;obtain⟨it,fp,tn,J,H2,e,I2,T,st2,f2,W,⟨m0,w0⟩,turn⟩:=h2;subst e;have RK:∀ {H':Hp},(∀ b∈fp,H' b=none)->∀ b∈fp,qw X pins H' b:=fun hn b hb=>⟨hn b hb,(f2 b hb).2⟩;refine QQ (fun n s'=>∃ i σ' H',Inv X pins σ' H' s'/\tn i s'.heap/\(∀ b∈fp,H' b=none)/\W i n σ' H') ?_ m0 ⟨0,σ,H2,I2,st2,fun b hb=>(f2 b hb).1,w0⟩
 rintro n s3 ⟨i,σ3,H3,I3,st3,fr3,w3⟩
 rcases turn i n σ3 H3 w3 with ⟨stop,qn⟩|⟨go,N,hN,step⟩
 ·refine M7 hp (cb (T.done X rfl rfl rfl hc i pins s3 σ3 H3 X.xe I3 (RK fr3) st3 stop) fun r s4 zz=>?_);obtain⟨hr,I4⟩:=zz;subst hr;exact Ox ⟨σ3,H3,I4,qn⟩
 ·refine M7 hp (cb (T.item X rfl rfl rfl hc i pins s3 σ3 H3 X.xe I3 (RK fr3) st3 go) fun r s4 zz=>?_);obtain⟨u,hr,h4⟩:=zz;subst hr;refine M7 hp (cb h4 fun _ s5 zz=>?_);obtain⟨x,H5,I5,r5,y5,st5,fr5⟩:=zz;have I5':=I5.pinned (RK fr5) (T.obj _ _ st5);refine M7 hp (cb (hg _ s5 σ3 H5 x u _ I5' r5 (step x H5 y5)) fun _ s6 zz=>?_);obtain⟨σ6,H6,I6,q6⟩:=zz;refine M7 hp (cb (hb _ s6 σ6 H6 _ I6 q6) fun f s7 q7=>?_);have again:∀ {σ7:St} {H7:Hp},Inv X (pins ++ pT fp s5.heap) σ7 H7 s7->N σ7 H7->∃ m,m < n/\∃ i σ' H',Inv X pins σ' H' s7/\tn i s7.heap/\(∀ b∈fp,H' b=none)/\W i m σ' H':=fun {σ7 H7} I7 n7=>by
   obtain⟨m',hm,w7⟩:=hN σ7 H7 n7;refine⟨m',hm,i+1,σ7,H7,I7.unpinned,T.keep _ _ _ st5 fun b hb o e=>(I7.pin (b,o) (MV _ (MV _ (h9 hb e)))).1,fun b hb=>?_,w7⟩;obtain⟨o,e,d⟩:=T.obj _ _ st5 b hb;exact (I7.pin (b,o) (MV _ (MV _ (h9 hb e)))).2.1
  cases f with
  | next=>obtain⟨σ7,H7,I7,n7⟩:=q7;exact again I7 n7
  | cont=>obtain⟨σ7,H7,I7,n7⟩:=q7;exact again I7 n7
  | brk=>obtain⟨σ7,H7,I7,q7⟩:=q7;exact⟨σ7,H7,I7.unpinned,q7⟩
  | ret v=>obtain⟨x7,σ7,H7,I7,r7,q7⟩:=q7;exact⟨x7,σ7,H7,I7.unpinned,r7,q7⟩
end
abbrev R2:=V->V->Hp->VK->Prop
def gW(X:Cx)(f:Mf->Mf->Sem Mf)(r:R2):Prop:=
 ∀ (pins:List (Mg×Obj)) (s:Mi) (σ:St) (H:Hp) (x y:V) (v u:Mf) (Q:VK),Inv X pins σ H s->aB x v->aB y u->r x y H Q->
  Mo (Ms X.prog X.w) X.A (f v u) (EP X pins σ Q) X.xe s
def dU(X:Cx)(f:Mf)(r:List V->Hp->VK->Prop):Prop:=
 ∀ (pins:List (Mg×Obj)) (s:Mi) (σ:St) (H:Hp) (xs:List V) (us:List Mf) (Q:VK),Inv X pins σ H s->Vals xs us->r xs H Q->
  Mo (Ms X.prog X.w) X.A (call f us) (EP X pins σ Q) X.xe s
def LD(X:Cx)(r:V->Hp->(Bool->Hp->Prop)->Prop):Prop:=
 ∀ (pins:List (Mg×Obj)) (s:Mi) (σ:St) (H:Hp) (x:V) (v:Mf) (Q:Bool->Hp->Prop),Inv X pins σ H s->aB x v->r x H Q->
  Mo (Ms X.prog X.w) X.A (truthy v) (TP X pins σ Q) X.xe s
def Je(r:R2)(ta tb:TE):TE:=fun σ H Q=>ta σ H fun x H1=>tb σ H1 fun y H2=>r x y H2 Q
def rI(C:Int->Int->Prop)(g:Int->Int->V):R2:=fun x y H Q=>∃ i j,x=.int i/\y=.int j/\C i j/\Q (g i j) H
def HA(g:Int->Int->V):R2:=fun x y H Q=>∃ i j,x=.int i/\y=.int j/\Q (g i j) H
section
variable{X:Cx}{a b c:MJ}{ta tb tc:TE}{pos:Pos}
theorem IV(ha:PE X a ta)(hb:PE X b tb){pins:List (Mg×Obj)}{s:Mi}{σ:St}{H:Hp}{R:V->V->Hp->Prop}(I:Inv X pins σ H s)
  (h:ta σ H fun x H1=>tb σ H1 fun y H2=>R x y H2) {Q:Mf->Mi->Prop} {f:Mf->Mf->Sem Mf}
  (hf:∀ v u s2 x y H2,Inv X pins σ H2 s2->aB x v->aB y u->R x y H2->Mo (Ms X.prog X.w) X.A (f v u) Q X.xe s2):
  Mo (Ms X.prog X.w) X.A (eval a X.env) (fun v s₁=>Mo (Ms X.prog X.w) X.A (eval b X.env) (fun u s₂=>Mo (Ms X.prog X.w) X.A (f v u) Q X.xe s₂) X.xe s₁) X.xe s:=by
 refine cb (ha pins s σ H _ I h) fun v s1 zz=>?_;obtain⟨x,H1,I1,r1,q1⟩:=zz;refine cb (hb pins s1 σ H1 _ I1 q1) fun u s2 zz=>?_;obtain⟨y,H2,I2,r2,q2⟩:=zz;exact hf v u s2 x y H2 I2 r1 r2 q2
theorem JG{op:Operator}{r:R2}(ho:gW X (Nx op) r)(ha:PE X a ta)(hb:PE X b tb):PE X (.BinOp a op b pos) (Je r ta tb):=by
 intro pins s σ H Q I h;exact wpAny_BinOp (IV ha hb I h fun v u s2 x y H2 I2 rx ry q=>ho pins s2 σ H2 x y v u Q I2 rx ry q)
theorem Lg{f:Mf->Mf->Sem Mf}{C:Int->Int->Prop}{g:Int->Int->Int}
  (rule:∀ (i j:Int) (t u:Tok) (s:Mi) (Q:Mf->Mi->Prop) (E:Mf->Mi->Prop),C i j->Q (.int (g i j) s.toks) { s with toks:=s.toks+1 }->Mo (Ms X.prog X.w) X.A (f (.int i t) (.int j u)) Q E s):
  gW X f (rI C fun i j=>.int (g i j)):=by
 intro pins s σ H x y v u Q I rx ry h;obtain⟨i,j,rfl,rfl,hc,q⟩:=h;obtain⟨t,rfl⟩:=rx;obtain⟨t',rfl⟩:=ry;exact rule i j t t' s _ _ hc ⟨.int (g i j),H,I.tok _,⟨_,rfl⟩,q⟩
theorem JQ{f:Mf->Mf->Sem Mf}{g:Int->Int->Int}
  (rule:∀ (i j:Int) (t u:Tok) (s:Mi) (Q:Mf->Mi->Prop) (E:Mf->Mi->Prop),Q (.int (g i j) s.toks) { s with toks:=s.toks+1 }->Mo (Ms X.prog X.w) X.A (f (.int i t) (.int j u)) Q E s):
  gW X f (HA fun i j=>.int (g i j)):=by
 intro pins s σ H x y v u Q I rx ry h;obtain⟨i,j,rfl,rfl,q⟩:=h;obtain⟨t,rfl⟩:=rx;obtain⟨t',rfl⟩:=ry;exact rule i j t t' s _ _ ⟨.int (g i j),H,I.tok _,⟨_,rfl⟩,q⟩
theorem JR{f:Mf->Mf->Sem Mf}{g:Int->Int->Bool}
  (rule:∀ (i j:Int) (t u:Tok) (s:Mi) (Q:Mf->Mi->Prop) (E:Mf->Mi->Prop),Q (.bool (g i j)) s->Mo (Ms X.prog X.w) X.A (f (.int i t) (.int j u)) Q E s):
  gW X f (HA fun i j=>.bl (g i j)):=by
 intro pins s σ H x y v u Q I rx ry h;obtain⟨i,j,rfl,rfl,q⟩:=h;obtain⟨t,rfl⟩:=rx;obtain⟨t',rfl⟩:=ry;exact rule i j t t' s _ _ ⟨.bl (g i j),H,I,rfl,q⟩
def KG(i j:Int):Prop:=0 < j/\j < 1073741824
def LJ(i j:Int):Prop:=0<=j/\j<=1000000/\i.natAbs < 2 ^ 64
def GG(i j:Int):Prop:=(-(2 ^ 64) < i/\i < 2 ^ 64)\/(-(2 ^ 64) < j/\j < 2 ^ 64)
theorem GG.ok{i j:Int}(h:GG i j):IntMulOk i j:=by
 rcases h with ⟨h1,h2⟩|⟨h1,h2⟩
 ·exact .of_left (intBits_le_64 h1 h2)
 ·exact .of_right (intBits_le_64 h1 h2)
theorem Ic:gW X (Nx .Add) (HA fun i j=>.int (i+j)):=JQ fun _ _ _ _ _ _ _ q=>add_int q
theorem H_:gW X (Nx .Sub) (HA fun i j=>.int (i - j)):=JQ fun _ _ _ _ _ _ _ q=>sub_int q
theorem Ia:gW X (Nx .Mult) (rI GG fun i j=>.int (i*j)):=Lg fun _ _ _ _ _ _ _ hc q=>mul_int q hc.ok
theorem FV:gW X (Nx .FloorDiv) (rI KG fun i j=>.int (i / j)):=Lg fun i j _ _ _ _ _ hc q=>by
 have h1:(0:Int) < j:=hc.1;have h2:j < 1073741824:=hc.2;exact floordiv_int (by walk_at "o") (by rw[Int.fdiv_eq_ediv_of_nonneg i (by walk_at "o")];exact q) (.inl (PyProof.noPylong_small (by walk_at "o")))
theorem Ib:gW X (Nx .Mod) (rI (fun _ j=>0 < j) fun i j=>.int (i % j)):=Lg fun i j _ _ _ _ _ hc q=>by
 have h1:(0:Int) < j:=hc;exact mod_int' (by walk_at "o") (by rw[Int.fmod_eq_emod_of_nonneg i (by walk_at "o")];exact q)
theorem JO:gW X (MS .Lt) (HA fun i j=>.bl (decide (i < j))):=JR fun _ _ _ _ _ _ _ q=>lt_int q
theorem JP:gW X (MS .LtE) (HA fun i j=>.bl (decide (i<=j))):=JR fun _ _ _ _ _ _ _ q=>le_int q
theorem gW.or{f:Mf->Mf->Sem Mf}{r r':R2}(h:gW X f r)(h':gW X f r'):gW X f (fun x y H Q=>r x y H Q\/r' x y H Q):=by
 intro pins s σ H x y v u Q I rx ry q;rcases q with q|q
 ·exact h pins s σ H x y v u Q I rx ry q
 ·exact h' pins s σ H x y v u Q I rx ry q
theorem bc(b:MJ){op:O4}(h:op≠.In:=by decide)(h2:op≠.NotIn:=by decide):Ng op b=false:=by
 have e1:(op == CmpOp.In)=false:=by cases op<;>first|rfl|exact absurd rfl h
 have e2:(op == CmpOp.NotIn)=false:=by cases op<;>first|rfl|exact absurd rfl h2
 cases b<;>simp[Ng,e1,e2]
theorem FK{op:O4}{r:R2}(ho:gW X (MS op) r)(ha:PE X a ta)(hb:PE X b tb)(hm:Ng op b=false):PE X (.Compare a [op] [b] pos) (Je r ta tb):=by
 intro pins s σ H Q I h;exact wpAny_Compare1 (IV ha hb I h fun v u s2 x y H2 I2 rx ry q=>ho pins s2 σ H2 x y v u Q I2 rx ry q) hm
def Db(t:TE):TT:=fun σ H Q=>t σ H fun x H'=>∃ k,x=.bl k/\Q k H'
theorem Bl{op:O4}{r:R2}(ho:gW X (MS op) r)(ha:PE X a ta)(hb:PE X b tb)(hm:Ng op b=false):PT X (.Compare a [op] [b] pos) (Db (Je r ta tb)):=by
 intro pins s σ H Q I h;refine QC (cb (ha pins s σ H _ I h) fun v s1 zz=>?_) hm;obtain⟨x,H1,I1,r1,q1⟩:=zz;refine cb (hb pins s1 σ H1 _ I1 q1) fun u s2 zz=>?_;obtain⟨y,H2,I2,r2,q2⟩:=zz;refine cb (ho pins s2 σ H2 x y v u _ I2 r1 r2 q2) fun c s3 zz=>?_;obtain⟨z,H3,I3,r3,k,e,q3⟩:=zz;subst e;cases r3;exact Nz ⟨H3,I3,q3⟩
def De(r r':R2)(ta tb tc:TE):TE:=fun σ H Q=>ta σ H fun x H1=>tb σ H1 fun y H2=>r x y H2 fun z H3=>∃ k,z=.bl k/\
 (if k=true then tc σ H3 fun w' H4=>r' y w' H4 Q else Q (.bl false) H3)
theorem DE{op op':O4}{r r':R2}(ho:gW X (MS op) r)(ho':gW X (MS op') r')(ha:PE X a ta)(hb:PE X b tb)(hc:PE X c tc)
  (hm:lastMarks [op,op'] [b,c]=false:=by with_unfolding_all rfl):PT X (.Compare a [op,op'] [b,c] pos) (Db (De r r' ta tb tc)):=by
 intro pins s σ H Q I h;refine isTrue_chain (cb (ha pins s σ H _ I h) fun v s1 ⟨x,H1,I1,r1,q1⟩=>test_link (cb (hb pins s1 σ H1 _ I1 q1) fun u s2 zz=>?_)) hm;obtain⟨y,H2,I2,r2,q2⟩:=zz;refine cb (ho pins s2 σ H2 x y v u _ I2 r1 r2 q2) fun d s3 zz=>?_;obtain⟨z,H3,I3,r3,k,e,q3⟩:=zz;subst e;cases r3;refine Nz ?_;cases k with
 | false=>
  obtain⟨k',e',q'⟩:=q3;cases e';exact ite_ff ⟨H3,I3,q'⟩
 | true=>
  refine ite_tt (test_last (cb (hc pins s3 σ H3 _ I3 q3) fun w' s4 zz=>?_));obtain⟨z',H4,I4,r4,q4⟩:=zz;refine cb (ho' pins s4 σ H4 y z' u w' _ I4 r2 r4 q4) fun d' s5 zz=>?_;obtain⟨z2,H5,I5,r5,k2,e2,q5⟩:=zz;subst e2;cases r5;exact Nz ⟨H5,I5,q5⟩
def Kz(K:Ow)(x:V)(H:Hp)(k:Bool):Prop:=
 match x with
 | .non=>k=false
 | .bl b=>k=b
 | .int i=>k=(i != 0)
 | .str y=>y.length<=Mq/\k=((y.length:Int) != 0)
 | .byt y=>y.size<=Mq/\k=((y.size:Int) != 0)
 | .ref p=>(∃ xs,j_ K H p xs/\k=!xs.isEmpty)\/(∃ xs,jS K H p xs/\k=!xs.isEmpty)\/∃ kvs,H p=some (.dK kvs)/\k=!kvs.isEmpty
 | _=>False
theorem AM{κ:Type}{kvs:List (κ×V)}{vs:List (κ×Mf)}(r:KV kvs vs):(!vs.isEmpty)=!kvs.isEmpty:=by
 cases r<;>rfl
theorem tS{xs:List V}{its:List Mf}(r:Vals xs its):(!its.toArray.isEmpty)=!xs.isEmpty:=by
 cases r<;>simp
theorem kS:(Mq:Nat) < 2 ^ 63:=by rw[Ni];decide
theorem Hl:LD X (fun x H Q=>∃ k,Kz X.K x H k/\Q k H):=by
 intro pins s σ H x v Q I rx h;obtain⟨k,e,q⟩:=h;have hl:=kS;have hs:Mq=16777216:=Ni;cases x with
 | non=>
  cases rx;have e':k=false:=e;subst e';exact truthy_none ⟨H,I,q⟩
 | bl b=>
  cases rx;have e':k=b:=e;subst e';exact Nz ⟨H,I,q⟩
 | int i=>
  obtain⟨t,rfl⟩:=rx;have e':k=(i != 0):=e;subst e';exact PySem.P.truthy_int ⟨H,I,q⟩
 | str y=>
  obtain⟨t,rfl⟩:=rx;obtain⟨hy,e'⟩:y.length<=Mq/\k=((y.length:Int) != 0):=e;subst e';exact PySem.P.truthy_str (by walk_at "o") ⟨H,I.tok _,q⟩
 | byt y=>
  obtain⟨t,rfl⟩:=rx;obtain⟨hy,e'⟩:y.size<=Mq/\k=((y.size:Int) != 0):=e;subst e';exact PySem.W.truthy_bytes (by walk_at "o") ⟨H,I.tok _,q⟩
 | ref p=>
  cases rx;have e':(∃ xs,j_ X.K H p xs/\k=!xs.isEmpty)\/(∃ xs,jS X.K H p xs/\k=!xs.isEmpty)\/∃ kvs,H p=some (.dK kvs)/\k=!kvs.isEmpty:=e;rcases e' with ⟨xs,hx,e'⟩|⟨xs,hx,e'⟩|⟨kvs,hx,e'⟩
  ·subst e';obtain⟨its,r,pl,hz⟩:=I.list hx;have hlen:=r.length;exact wpAny_truthy_list pl.isList (by simp only[Mt];omega) ⟨H,I.tok _,by rw[tS r];exact q⟩
  ·subst e';obtain⟨its,r,pl,hz⟩:=I.tuple hx;have hlen:=r.length;exact truthy_tuple pl (by simp only[Mt];omega) ⟨H,I.tok _,by rw[tS r];exact q⟩
  ·subst e';obtain⟨hz,hS,vs,r,m⟩:kvs.length<=Mq/\(p == M5)=false/\∃ vs,KV kvs vs/\s.heap.DictOf (aZ X.prog X.w) p vs:=I.hok p _ hx;have hlen:kvs.length=vs.length:=N_ r;exact wpAny_truthy_dict hS m (by walk_at "o") ⟨H,I.tok _,by rw[AM r];exact q⟩
 | _=>exact (show False from e).elim
theorem DC(ha:PE X a ta)(he:∀ whole,Qv a X.env whole=(do let v <- whole;OB a.pos;holding [v] (truthy v))):
  PT X a (fun σ H Q=>ta σ H fun x H'=>∃ k,Kz X.K x H' k/\Q k H'):=by
 intro pins s σ H Q I h;exact isTrue_plain (cb (ha pins s σ H _ I h) fun v s1 ⟨x,H1,I1,r1,q1⟩=>Hl pins s1 σ H1 x v Q I1 r1 q1) (he _)
theorem Az:gW X (Nx .Add) (fun x y H Q=>∃ i j,x=.str i/\y=.str j/\i.length+j.length<=Mq/\Q (.str (i ++ j)) H):=by
 intro pins s σ H x y v u Q I rx ry h;obtain⟨i,j,rfl,rfl,hz,q⟩:=h;obtain⟨t,rfl⟩:=rx;obtain⟨t',rfl⟩:=ry;exact add_str (fun t' tk=>⟨.str (i ++ j),H,I.tok _,⟨_,rfl⟩,q⟩) hz
theorem xN{x:V}{us:List Mf}(r:Vals [x] us):∃ u,us=[u]/\aB x u:=by
 cases r with
 | cons r1 r2=>cases r2;exact⟨_,rfl,r1⟩
theorem C4{x y:V}{us:List Mf}(r:Vals [x,y] us):∃ u w',us=[u,w']/\aB x u/\aB y w':=by
 cases r with
 | cons r1 r2=>
  cases r2 with
  | cons r3 r4=>cases r4;exact⟨_,_,rfl,r1,r3⟩
theorem CK(hc:X.calm=true):dU X (.builtin "min") (fun xs H Q=>∃ i j,xs=[.int i,.int j]/\Q (.int (if j < i then j else i)) H):=by
 intro pins s σ H xs us Q I r h;obtain⟨i,j,rfl,q⟩:=h;obtain⟨u,w',rfl,⟨t,rfl⟩,⟨t',rfl⟩⟩:=C4 r;refine min_two_ints (I.ok.hd hc) fun h' tk k=>⟨_,H,I.kept k,?_,q⟩
 by_cases hj:j < i
 ·rw[if_pos hj,if_pos hj];exact⟨_,rfl⟩
 ·rw[if_neg hj,if_neg hj];exact⟨_,rfl⟩
end
structure ObjM(h:MD)(x dx C:Mg)(mA:Str->Option Mf):Prop where
 obj:h.get? x=some (OV C dx)
 ns:h.Ns1 dx mA
 ne:dx≠x
theorem Cm{h:MD}{dx:Mg}{mA:Str->Option Mf}(n:h.Ns1 dx mA):∃ od,h.get? dx=some od/\∀ name,QZ name od=some (mA name):=by
 obtain⟨o,es,ep,ho,hd,hk,_,hm⟩:=n;refine⟨o,ho,fun name=>?_⟩;have e:=hm name;unfold nsFind findBy at e;rw[<- Array.find?_toList]at e;unfold QZ;rw[hd];dsimp only;split
 ·rename_i y q;rw[q]at e;exact congrArg some e
 ·rename_i q;rw[q]at e;have a:es.toList.any (·.refKey)=false:=by
   rw[List.any_eq_false];intro y hy;obtain⟨z,t,hkey⟩:=hk y (Array.mem_toList_iff.mp hy);simp[DictEntry.refKey,hkey]
  have a':¬ es.toList.any (·.refKey)=true:=by rw[a];exact Bool.false_ne_true
  rw[if_neg a'];exact congrArg some e
theorem ObjM.look{h:MD}{x dx C:Mg}{mA:Str->Option Mf}(I:ObjM h x dx C mA):∃ od,PySem.W.InstAt h x (OV C dx) C (some od)/\∀ name,QZ name od=some (mA name):=
 let ⟨od,ho,hl⟩:=Cm I.ns
 ⟨od,⟨I.obj,rfl,rfl,ho⟩,hl⟩
section
variable{prog:Mw}{w:MG}{A:MB}{E:Mf->Mi->Prop}{s:Mi}{K:Ow}{x dx C f:Mg}{mA:Str->Option Mf}{name:Str}{v:Mf}
theorem Ge{expr:Bool}{Q:Mf->Mi->Prop}(X:K.In s.heap)(I:ObjM s.heap x dx C mA)(hg:P7 K C name=true)(hh:Qn K C=true)
  (ha:Sj K (.ref C) name=some none) (hv:mA name=some v) (hv':PySem.W.handedIn v=true) (h:Q v { s with toks:=s.toks+1 }):
  Mo (Ms prog w) A (getAttr (.ref x) name expr) Q E s:=by
 obtain⟨od,J,hl⟩:=I.look;exact PySem.W.get_value X J (PQ hg).1 (PySem.W.findObj_own hh ha rfl (by rw[hl,hv])) hv' h
theorem Ei{pl:Sem Bool}{Q:Mf×List Mf->Mi->Prop}(X:K.In s.heap)(I:ObjM s.heap x dx C mA)(hg:P7 K C name=true)
  (hf:Sj K (.ref C) name=some (some (.ref f))) (ht:Sq K (.ref f)=true) (hv:mA name=none) (h:Q (.ref f,[.ref x]) s):
  Mo (Ms prog w) A (OE (.ref x) name pl) Q E s:=by
 obtain⟨od,J,hl⟩:=I.look;exact PySem.W.method_fn X J (PQ hg).1 (PQ hg).2 hf (beq_iff_eq.mp ht) (by show (QZ name od).map (·.isSome)=some false;rw[hl,hv];rfl) h
theorem Fl{ns:List Str}{Q:Unit->Mi->Prop}(X:K.In s.heap)(I:ObjM s.heap x dx C mA)
  (hs:Sj K (.ref C) "__setattr__"=some (some (.builtin "object.__setattr__"))) (hp:PySem.W.plainOver K C=true) (ht:Q7 K C name=some none) (hh:Qn K C=true)
  (hw:PySem.Within mA ns) (hsz:ns.length<=Mq)
  (h:∀ h',ObjM h' x dx C (fun y=>if y=name then some v else mA y)->NN dx s.heap h'->Q () { s with heap:=h',toks:=s.toks+2 }):
  Mo (Ms prog w) A (setAttr (.ref x) name v) Q E s:=by
 obtain⟨od,J,hl⟩:=I.look;refine PySem.W.set_plain X J hs (PySem.W.osa_open (s:={ s with toks:=s.toks+1 }) (r:=none) X J hp ht fun b=>?_)
 obtain⟨cd,hc,hd'⟩:=PySem.W.any_some hh;have hx:s.heap.get? x=some ⟨.ref C,some dx,.plain,#[]⟩:=I.obj;refine Me (Mj (Me (Me (wpAny_loadPart hx (Me (PySem.W.Looks.here (s:={ s with toks:=s.toks+1 }) (PySem.W.looks_clsIn X hc) ?_))))))
 rw[hd'];refine Mj (a:=some dx) (Me (Mj (Me ?_)));refine wpAny_nsSet1 (s:={ s with toks:=s.toks+1 }) I.ns fun h' hn2 hs2=>?_
 obtain⟨oD,esD,epD,hoD,hdD,hcD⟩:=hn2.count (PySem.Within.cons name v hw);refine Me (wpAny_lookBehind hoD (by rw[hdD];exact pastItsLine_dict (le_trans hcD (by rw[MC];omega))) ?_)
 exact Mj (h _ ⟨(hs2.2 _ (Ne.symm I.ne)).trans I.obj,hn2,I.ne⟩ hs2)
theorem D7{R:Q2->Mi->Prop}{vs:List Mf}{kw:List (Str×Mf)}(X:K.In s.heap)(hm:Sn K C=true)
  (hi:Sj K (.ref C) "__init__"=some (some (.ref f))) (hf:PySem.W.typeIn K (.ref f)=some (.type "function"))
  (h:OP (Ms prog w) (A.under (.builtin "type.__call__" ⟨.ref C::vs,kw⟩)) (.call (.ref f) ⟨.ref (s.heap.objs.size+1)::vs,kw⟩) (PySem.W.InitBack (s.heap.objs.size+1) R)
   { s with heap:=(s.heap.push Oh).push (OV C s.heap.objs.size) }):
  OP (Ms prog w) A (.call (.ref C) ⟨vs,kw⟩) R s:=by
 obtain⟨hh,g,d,t,os⟩:=s;exact PySem.W.make_core (PySem.W.makes_of X hm) (PySem.W.looks_findIn X hi) (fun self=>PySem.W.bind_fn X self hf) (.inl rfl) h
end
def e8(f:Str)(v:V):List (Str×V)->List (Str×V)
 | []=>[(f,v)]
 | (g,x)::r=>if g=f then (g,v)::r else (g,x)::e8 f v r
theorem qS(f g:Str)(v:V):∀ fs:List (Str×V),(e8 f v fs).lookup g=if g=f then some v else fs.lookup g
 | []=>by
  show List.lookup g [(f,v)]=_
  by_cases h:g=f
  ·have hb:(g == f)=true:=beq_iff_eq.mpr h;simp only[List.lookup,hb,if_pos h]
  ·have hb:(g == f)=false:=beq_eq_false_iff_ne.mpr h;simp only[List.lookup,hb,if_neg h]
 | (k,x)::r=>by
  have ih:=qS f g v r;rw[show e8 f v ((k,x)::r)=(if k=f then (k,v)::r else (k,x)::e8 f v r)from rfl]
  by_cases hk:k=f
  ·rw[if_pos hk]
   by_cases h:g=k
   ·have hb:(g == k)=true:=beq_iff_eq.mpr h;simp only[List.lookup,hb,if_pos (h.trans hk)]
   ·have hb:(g == k)=false:=beq_eq_false_iff_ne.mpr h;simp only[List.lookup,hb,if_neg (fun e:g=f=>h (e.trans hk.symm))]
  ·rw[if_neg hk]
   by_cases h:g=k
   ·have hb:(g == k)=true:=beq_iff_eq.mpr h;simp only[List.lookup,hb,if_neg (fun e:g=f=>hk (h.symm.trans e))]
   ·have hb:(g == k)=false:=beq_eq_false_iff_ne.mpr h;simp only[List.lookup,hb];exact ih
theorem qc(f:Str)(v:V):∀ fs:List (Str×V),f∈(e8 f v fs).map (·.1)/\∀ g,g∈fs.map (·.1)->g∈(e8 f v fs).map (·.1)
 | []=>⟨by simp[e8],fun g h=>by simp at h⟩
 | (k,x)::r=>by
  obtain⟨i1,i2⟩:=qc f v r;rw[show e8 f v ((k,x)::r)=(if k=f then (k,v)::r else (k,x)::e8 f v r)from rfl]
  by_cases hk:k=f
  ·rw[if_pos hk];subst hk;exact⟨by simp,fun g h=>by simpa using h⟩
  ·rw[if_neg hk];refine⟨?_,fun g h=>?_⟩
   ·rw[MF];exact My _ i1
   ·rw[MF]at h ⊢;rcases MP.mp h with e|e
    ·exact MP.mpr (.inl e)
    ·exact My _ (i2 g e)
theorem qV(f:Str)(v:V):∀ fs:List (Str×V),(e8 f v fs).length<=fs.length+1
 | []=>by simp[e8]
 | (k,x)::r=>by
  have ih:=qV f v r;rw[show e8 f v ((k,x)::r)=(if k=f then (k,v)::r else (k,x)::e8 f v r)from rfl]
  by_cases hk:k=f
  ·rw[if_pos hk,MC,MC];omega
  ·rw[if_neg hk,MC,MC];omega
theorem j8.some_of{v:V}{o:Option Mf}(r:j8 (some v) o):∃ u,o=some u/\aB v u:=by
 cases o with
 | none=>exact (show False from r).elim
 | some u=>exact⟨u,rfl,r⟩
theorem j8.none_of{o:Option Mf}(r:j8 none o):o=none:=by
 cases o with
 | none=>rfl
 | some u=>exact (show False from r).elim
theorem Cv{v:V}{u:Mf}(r:aB v u):PySem.W.handedIn u=true:=by
 cases v with
 | non=>cases (show u=Value.none from r);rfl
 | bl b=>cases (show u=Value.bool b from r);rfl
 | int i=>obtain⟨t,e⟩:=(show ∃ t,u=Value.int i t from r);cases e;rfl
 | str x=>obtain⟨t,e⟩:=(show ∃ t,u=Value.str x t from r);cases e;rfl
 | byt b=>obtain⟨t,e⟩:=(show ∃ t,u=Value.bytes b t from r);cases e;rfl
 | flt b=>obtain⟨t,e⟩:=(show ∃ t,u=Value.float b t from r);cases e;rfl
 | ref a=>cases (show u=Value.ref a from r);rfl
 | ty n=>cases (show u=Value.type n from r);rfl
section
variable{P:Mw}{w:MG}{H H':Hp}{h h':MD}{a C dx:Mg}{fs fs':List (Str×V)}
theorem r0(hok:iF P w H h)(e:H a=some (.ins C dx fs)):∃ mA,ObjM h a dx C mA/\(∀ f,j8 (fs.lookup f) (mA f))/\PySem.Within mA (fs.map (·.1))/\fs.length<=1000/\H dx=some (.own a):=by
 obtain⟨d,z,ne,ob,mA,n,r,q⟩:=(show bD P w H h a (.ins C dx fs)from hok a _ e)
 exact⟨mA,⟨ob,n,ne⟩,r,q,z,d⟩
end
structure Cls(K:Ow)(C:Mg):Prop where
 pg:P7 K C Str.empty=true
 hd:Qn K C=true
 po:PySem.W.plainOver K C=true
 sa:Sj K (.ref C) "__setattr__"=some (some (.builtin "object.__setattr__"))
theorem Cls.get{K:Ow}{C:Mg}(c:Cls K C)(f:Str):P7 K C f=true:=c.pg
def cE(K:Ow)(C:Mg)(f:Str):Prop:=Sj K (.ref C) f=some none
theorem cE.taker{K:Ow}{C:Mg}{f:Str}(n:cE K C f):Q7 K C f=some none:=by
 unfold Q7;rw[show Sj K (.ref C) f=some none from n]
 rfl
structure Meth(K:Ow)(C:Mg)(m:Str)(f:Mg):Prop where
 at_:Sj K (.ref C) m=some (some (.ref f))
 fn:Sq K (.ref f)=true
 kp:Pe K (.ref f)=true
section
variable{X:Cx}{pins:List (Mg×Obj)}{σ:St}{H:Hp}{s:Mi}{a C dx:Mg}{fs:List (Str×V)}{f:Str}{v:V}{A:MB}{E:Mf->Mi->Prop}
theorem AR{b:Bool}{Q:Mf->Mi->Prop}(I:Inv X pins σ H s)(e:H a=some (.ins C dx fs))(c:Cls X.K C)(n:cE X.K C f)(l:fs.lookup f=some v)
  (h:∀ u s',Inv X pins σ H s'->aB v u->Q u s'):Mo (Ms X.prog X.w) A (getAttr (.ref a) f b) Q E s:=by
 obtain⟨mA,O,r,_,_,_⟩:=r0 I.hok e;obtain⟨u,hu,ru⟩:=j8.some_of (v:=v) (o:=mA f) (by rw[<- l];exact r f)
 exact Ge I.kIn O (c.get f) c.hd n hu (Cv ru) (h u _ (I.tok _) ru)
theorem m8{m:Str}{g:Mg}{pl:Sem Bool}{Q:Mf×List Mf->Mi->Prop}(I:Inv X pins σ H s)(e:H a=some (.ins C dx fs))(c:Cls X.K C)(k:Meth X.K C m g)(l:fs.lookup m=none)
  (h:Q (.ref g,[.ref a]) s):Mo (Ms X.prog X.w) A (OE (.ref a) m pl) Q E s:=by
 obtain⟨mA,O,r,_,_,_⟩:=r0 I.hok e;have hn:mA m=none:=j8.none_of (by rw[<- l];exact r m)
 exact Ei I.kIn O (c.get m) k.at_ k.fn hn h
theorem Ad{y:V}{u:Mf}{Q:Unit->Mi->Prop}(I:Inv X pins σ H s)(e:H a=some (.ins C dx fs))(c:Cls X.K C)(n:cE X.K C f)(hl:fs.length < 1000)(ry:aB y u)
  (h:∀ s',Inv X pins σ (aV H a (.ins C dx (e8 f y fs))) s'->Q () s'):Mo (Ms X.prog X.w) A (setAttr (.ref a) f u) Q E s:=by
 obtain⟨mA,O,r,wi,_,ho⟩:=r0 I.hok e;have hz:(fs.map (·.1)).length<=Mq:=by rw[Ml,Ni];omega
 refine Fl I.kIn O c.sa c.po n.taker c.hd wi hz fun h' O' sb=>h _ ?_;have hd:∃ o,h'.get? dx=some o:=let ⟨o,_,_,e',_⟩:=O'.ns;⟨o,e'⟩;refine I.write (x:=a) (e:=dx) (by rw[e];exact True.intro) (.inr ho) (fun b q hb z=>(sb.2 b hb).trans z) hd ?_
 refine⟨by rw[ar O.ne];exact ho,?_,O.ne,O'.obj,_,O'.ns,fun g=>?_,fun g hg=>?_⟩
 ·have:=qV f y fs;omega
 ·show j8 ((e8 f y fs).lookup g) (if g=f then some u else mA g)
  rw[qS]
  by_cases q:g=f
  ·rw[if_pos q,if_pos q];exact ry
  ·rw[if_neg q,if_neg q];exact r g
 ·by_cases q:g=f
  ·rw[q];exact (qc f y fs).1
  ·refine (qc f y fs).2 g (wi g fun z=>hg ?_);show (if g=f then some u else mA g)=none
   rw[if_neg q];exact z
theorem Inv.made(I:Inv X pins σ H s):Inv X pins σ (aV (aV H s.heap.objs.size (.own (s.heap.objs.size+1))) (s.heap.objs.size+1) (.ins C s.heap.objs.size []))
  { s with heap:=(s.heap.push Oh).push (OV C s.heap.objs.size) }:=by
 have e1:(s.heap.push Oh).get? s.heap.objs.size=some Oh:=Mn s.heap rfl;have e2:((s.heap.push Oh).push (OV C s.heap.objs.size)).get? (s.heap.objs.size+1)=some (OV C s.heap.objs.size):=by
  have:=Mn (s.heap.push Oh) (o:=OV C s.heap.objs.size) rfl;rwa[Ny]at this
 have e3:(s.heap.push Oh).Ns s.heap.objs.size (fun _=>none):=⟨Oh,#[],_,e1,rfl,(fun e he=>absurd he (by simp)),fun _=>rfl⟩
 have I1:=I.laid (a:=s.heap.objs.size) (o:=.own (s.heap.objs.size+1)) (h':=s.heap.push Oh) (t':=s.toks) (fun b u q=>Mm _ q) (le_refl _) ⟨_,e1⟩;refine I1.laid (a:=s.heap.objs.size+1) (o:=.ins C s.heap.objs.size []) (t':=s.toks) (fun b u q=>Mm _ q) (Pd (Ny _ _)) ?_;have ne:s.heap.objs.size≠s.heap.objs.size+1:=MO (Ol _);refine⟨by rw[ar ne,aG],M0 _,ne,e2,fun _=>none,(Heap.Ns1.of_empty e3).at fun o q=>Mm _ q,fun _=>True.intro,fun y hy=>absurd rfl hy⟩
theorem Gv{prog:Mw}{w:MG}{env:Env}{e:MJ}{f:Str}{pos:Pos}{s:Mi}{Q:Mf->Mi->Prop}(hb:NS e f env (eval e env)=eval e env)
  (h:Mo (Ms prog w) A (eval e env) (fun o s₁=>Mo (Ms prog w) A (getAttr o f true) Q E s₁) E s):Mo (Ms prog w) A (eval (.Attribute e f pos) env) Q E s:=
 Attribute_any_ h (by rw[arm_eval_Attribute,hb])
end
def K7(K:Ow)(ta:TE)(f:Str):TE:=fun σ H Q=>ta σ H fun x H1=>∃ a C dx fs v,x=.ref a/\H1 a=some (.ins C dx fs)/\Cls K C/\cE K C f/\fs.lookup f=some v/\Q v H1
def Lb(K:Ow)(ta tv:TE)(f:Str):TS:=fun D σ H=>tv σ H fun y H1=>ta σ H1 fun x H2=>∃ a C dx fs,x=.ref a/\H2 a=some (.ins C dx fs)/\Cls K C/\cE K C f/\fs.length < 1000/\
 D.nx σ (aV H2 a (.ins C dx (e8 f y fs)))
section
variable{X:Cx}{o e value:MJ}{f:Str}{pos pos' tpos:Pos}{ta tv:TE}
theorem DS(he:PE X e ta)(hb:NS e f X.env (eval e X.env)=eval e X.env):PE X (.Attribute e f pos) (K7 X.K ta f):=by
 intro pins s σ H Q I h;refine Gv hb (cb (he pins s σ H _ I h) fun u s1 zz=>?_);obtain⟨x,H1,I1,rx,a,C,dx,fs,v,ex,ea,c,n,l,q⟩:=zz;subst ex;obtain rfl:u=Value.ref a:=rx;exact AR I1 ea c n l fun u' s2 I2 ru=>⟨v,H1,I2,ru,q⟩
theorem Au(ha:PE X o ta)(hv:PE X value tv)(hs:N3 value (some (.Attribute o f pos')) pos.line X.env=pure false):PS X (.Assign [.Attribute o f pos'] value pos) (Lb X.K ta tv f):=by
 intro pins s σ H D I h;refine plainObj_wpAny_Assign_Attribute (cb (hv pins s σ H _ I h) fun u s1 zz=>?_) hs;obtain⟨y,H1,I1,ry,q⟩:=zz;refine cb (ha pins s1 σ H1 _ I1 q) fun ov s2 zz=>?_;obtain⟨x,H2,I2,rx,a,C,dx,fs,ex,ea,c,n,l,q2⟩:=zz;subst ex;obtain rfl:ov=Value.ref a:=rx;exact Ad I2 ea c n l ry fun s3 I3=>⟨σ,_,I3,q2⟩
end
section
variable{X:Cx}{pins:List (Mg×Obj)}{σ:St}{H:Hp}{s:Mi}{A:MB}{E:Mf->Mi->Prop}{Q:Mf->Mi->Prop}{c:Mf}{b:Bool}
inductive TyOf(K:Ow)(H:Hp):V->Mf->Prop where
 | non:TyOf K H .non (.type "NoneType")
 | bl (x:Bool):TyOf K H (.bl x) (.type "bool")
 | int (i:Int):TyOf K H (.int i) (.type "int")
 | str (x:Str):TyOf K H (.str x) (.type "str")
 | flt (x:UInt64):TyOf K H (.flt x) (.type "float")
 | lst {a:Mg} {xs:List V} (e:H a=some (.lst xs)):TyOf K H (.ref a) (.type "list")
 | frz {a:Mg} {o:Obj} {xs:List V} (e:H a=some (.frz o (.lst xs))):TyOf K H (.ref a) (.type "list")
 | tup {a:Mg} {xs:List V} (e:H a=some (.tup xs)):TyOf K H (.ref a) (.type "tuple")
 | dK {a:Mg} {kvs:List (aA×V)} (e:H a=some (.dK kvs)):TyOf K H (.ref a) (.type "dict")
 | dT {a:Mg} {kvs:List (List aA×V)} (e:H a=some (.dT kvs)):TyOf K H (.ref a) (.type "dict")
 | ins {a C dx:Mg} {fs:List (Str×V)} (e:H a=some (.ins C dx fs)) (cl:Cls K C) (ha:Sj K (.ref C) "__class__"=some (some (.builtin "object.__class__")))
   (hn:So K (.builtin "object.__class__") "__get__"=some (some (.builtin "getset_descriptor.__get__"))) (htk:Q6 K (.builtin "object.__class__")=some true)
   (hm:Qi K C (.type "object")=some true):TyOf K H (.ref a) (.ref C)
theorem lE{x:V}{u t:Mf}(I:Inv X pins σ H s)(rx:aB x u)(ty:TyOf X.K H x t)(e:Nl X.K t c=some b)(h:∀ tk,Q (.bool b) { s with toks:=tk }):
  Mo (Ms X.prog X.w) A (call (.builtin "isinstance") [u,c]) Q E s:=by
 cases ty with
 | non=>cases (show u=Value.none from rx);exact Od PySem.W.kitx_none I.kIn True.intro e (fun z=>nomatch z) h
 | bl y=>cases (show u=Value.bool y from rx);exact Od PySem.W.kitx_bool I.kIn True.intro e (fun z=>nomatch z) h
 | int i=>obtain⟨t,q⟩:=(show ∃ t,u=Value.int i t from rx);cases q;exact Od PySem.W.kitx_int I.kIn True.intro e (fun z=>nomatch z) h
 | str y=>obtain⟨t,q⟩:=(show ∃ t,u=Value.str y t from rx);cases q;exact Od PySem.W.kitx_str I.kIn True.intro e (fun z=>nomatch z) h
 | flt y=>obtain⟨t,q⟩:=(show ∃ t,u=Value.float y t from rx);cases q;exact Od PySem.W.kitx_float I.kIn True.intro e (fun z=>nomatch z) h
 | @lst a xs ea=>
  cases (show u=Value.ref a from rx)
  obtain⟨_,_,n,_,h1⟩:=(show bD X.prog X.w H s.heap a (.lst xs)from I.hok a _ ea)
  exact Od Ql I.kIn ⟨_,h1,rfl⟩ e (fun z=>nomatch z) h
 | @frz a ob xs ea=>
  cases (show u=Value.ref a from rx)
  obtain⟨_,_,_,n,_,h1⟩:=(show bD X.prog X.w H s.heap a (.frz ob (.lst xs))from I.hok a _ ea)
  exact Od Ql I.kIn ⟨_,h1,rfl⟩ e (fun z=>nomatch z) h
 | @tup a xs ea=>
  cases (show u=Value.ref a from rx)
  obtain⟨_,_,_,p⟩:=(show bD X.prog X.w H s.heap a (.tup xs)from I.hok a _ ea)
  obtain⟨o,h1,h2,_⟩:=p;exact Od PySem.W.kitx_tuple I.kIn ⟨o,h1,h2.1⟩ e (fun z=>nomatch z) h
 | @dK a kvs ea=>
  cases (show u=Value.ref a from rx)
  obtain⟨_,_,vs,_,p⟩:=(show bD X.prog X.w H s.heap a (.dK kvs)from I.hok a _ ea)
  obtain⟨o,es,ep,h1,h2,_⟩:=p;exact Od PySem.W.kitx_dict I.kIn ⟨o,h1,h2.1⟩ e (fun z=>nomatch z) h
 | @dT a kvs ea=>
  cases (show u=Value.ref a from rx)
  obtain⟨_,_,xs,_,o,es,ep,h1,h2,_⟩:=(show bD X.prog X.w H s.heap a (.dT kvs)from I.hok a _ ea)
  exact Od PySem.W.kitx_dict I.kIn ⟨o,h1,h2.1⟩ e (fun z=>nomatch z) h
 | @ins a C dx fs ea cl ha hn htk hm=>
  cases (show u=Value.ref a from rx)
  obtain⟨mA,O,_⟩:=r0 I.hok ea;obtain⟨od,J,_⟩:=O.look;exact Od (PySem.W.kitx_own (cl.get _) cl.hd ha hn htk hm) I.kIn J e (fun z=>nomatch z) h
end
structure Room(k:Nat)(A:MB):Prop where
 hd:A.handled=none
 dp:A.depth+3*k+5 < recursionLimit
 un:A.units+16*k+200 < MT
theorem Room.mono{j k:Nat}{A:MB}(r:Room k A)(h:j<=k):Room j A:=⟨r.hd,by have:=r.dp;omega,by have:=r.un;omega⟩
theorem Room.deeper{k:Nat}{A:MB}(r:Room (k+1) A)(env:Env):Room k (A.deeper env):=
 ⟨r.hd,by have:=r.dp;show A.depth+1+3*k+5 < _;omega,by have:=r.un;show A.units+3+16*k+200 < _;omega⟩
theorem Room.in1{k:Nat}{A:MB}(r:Room (k+1) A):Room k A.in1:=
 ⟨r.hd,by have:=r.dp;show A.depth+3*k+5 < _;omega,by have:=r.un;show A.units+1+16*k+200 < _;omega⟩
theorem AH{A:MB}{C:Mg}{us:List Mf}{kw:List (Str×Mf)}:(A.under (.builtin "type.__call__" ⟨.ref C::us,kw⟩)).depth=A.depth+1:=by
 first|rfl|simp[QA,Code.weight,Code.isCreation,Code.isGuard,Code.isCaller,Code.frames,Qy,guardIds]
theorem AG{A:MB}{C:Mg}{us:List Mf}{kw:List (Str×Mf)}:(A.under (.builtin "type.__call__" ⟨.ref C::us,kw⟩)).units=A.units+1:=by
 first|rfl|simp[QA,Code.cUnits,Code.frames,Qy]
theorem Room.make{k:Nat}{A:MB}(r:Room (k+1) A)(C:Mg)(us:List Mf)(kw:List (Str×Mf)):Room k (A.under (.builtin "type.__call__" ⟨.ref C::us,kw⟩)):=
 ⟨r.hd,by have:=r.dp;rw[AH];omega,by have:=r.un;rw[AG];omega⟩
theorem Room.depth{k:Nat}{A:MB}(r:Room k A):A.depth < recursionLimit:=by have:=r.dp;omega
theorem Room.units{k:Nat}{A:MB}(r:Room k A):A.units+64 < MT:=by have:=r.un;omega
def Jm:TA:=fun _ H Q=>Q [] H
def Jp(ta:TE)(tr:TA):TA:=fun σ H Q=>ta σ H fun x H1=>tr σ H1 fun xs H2=>Q (x::xs) H2
section
variable{X:Cx}{e:MJ}{es:List MJ}{te:TE}{t:TA}{pos:Pos}
theorem HV:PA X [] Jm:=fun _ _ _ _ H Q I h=>Oo ⟨[],H,I,.nil,h⟩
theorem FN(ha:PE X e te)(hr:PA X es t)(hs:Mr (e::es) X.env=(false,eval e X.env)::Mr es X.env:=by rfl):PA X (e::es) (Jp te t):=by
 intro pos pins s σ H Q I h;rw[hs];show Mo _ _ (spliced ((false,eval e X.env)::Nn pos (Mr es X.env))) _ _ s
 refine NO (cb (ha pins s σ H _ I h) fun u s1 zz=>?_);obtain⟨x,H1,I1,r1,q1⟩:=zz;exact cb (hr pos pins s1 σ H1 _ I1 q1) fun us s2 ⟨xs,H2,I2,r2,q2⟩=>⟨x::xs,H2,I2,.cons r1 r2,q2⟩
def K0(t:TA):TE:=fun σ H Q=>t σ H fun xs H1=>xs.length<=Mq/\∀ p,H1 p=none->Q (.ref p) (aV H1 p (.tup xs))
def K4(t:TA):TE:=fun σ H Q=>t σ H fun xs H1=>xs.length<=Mq/\∀ p,H1 p=none->Q (.ref p) (aV H1 p (.lst xs))
theorem HL{x1}(h:PA X es t):PE X (.Tuple es x1 pos) (K0 t):=by
 intro pins s σ H Q I hq;refine wpAny_Tuple_spliced (cb (h pos pins s σ H _ I hq) fun us s1 ⟨xs,H1,I1,r,z,q⟩=>⟨by rw[<- r.length];exact z,?_⟩)
 have hf:H1 s1.heap.objs.size=none:=I1.hok.fresh (le_refl _);refine⟨.ref s1.heap.objs.size,aV H1 s1.heap.objs.size (.tup xs),I1.laid (t':=s1.toks) (fun b u e=>Mm _ e) (le_refl _) ?_,rfl,q _ hf⟩;exact⟨z,us,r,vn.new _ _⟩
theorem HQ(h:PA X es t):PE X (.List es pos) (K4 t):=by
 intro pins s σ H Q I hq;refine wpAny_List_spliced (cb (h pos pins s σ H _ I hq) fun us s1 ⟨xs,H1,I1,r,z,q⟩=>⟨by rw[<- r.length];exact z,?_⟩)
 have hf:H1 s1.heap.objs.size=none:=I1.hok.fresh (le_refl _);refine⟨.ref s1.heap.objs.size,aV H1 s1.heap.objs.size (.lst xs),I1.laid (t':=s1.toks) (fun b u e=>Mm _ e) (le_refl _) ?_,rfl,q _ hf⟩;exact⟨z,us,0,r,Mn _ rfl⟩
end
abbrev Sp:=List V->Hp->VK->XK->Prop
abbrev E2:=List Env->Hp->Mi->XK->Mf->Mi->Prop
structure Env0(P:Mw)(w:MG)(K:Ow)(mg:Str->Option Mf)(base:MD)(A:MB)(outer:List Env)(s:Mi)(H:Hp):Prop where
 frames:A.frames=some outer
 mod:Mod K mg base
 bs:∀ b o,base.get? b=some o->s.heap.get? b=some o/\H b=none
 bsz:base.objs.size<=s.heap.objs.size
 funs:s.heap.FunFrames base outer
 frf:∀ b∈tY outer,H b=none
 hok:iF P w H s.heap
 bare:O1 s.gens
def CE(outer:List Env)(P:Mw)(w:MG)(H:Hp)(s:Mi)(Q:VK)(u:Mf)(s':Mi):Prop:=
 ∃ v H',s'.os=s.os/\O1 s'.gens/\Un (tY outer) [] H H' s.heap s'.heap/\iF P w H' s'.heap/\aB v u/\Q v H'
def CR(CX:E2)(outer:List Env)(P:Mw)(w:MG)(H:Hp)(s:Mi)(Q:VK)(E:XK)(r:Q2)(s':Mi):Prop:=
 match r with
 | .ok (.ret u)=>CE outer P w H s Q u s'
 | .ok _=>False
 | .error e=>CX outer H s E e s'
structure FnOk(P:Mw)(w:MG)(K:Ow)(mg:Str->Option Mf)(base:MD)(CX:E2)(k:Nat)(f:Mg)(fd:NB)(ps:List Str)(sp:Sp):Prop where
 len:∀ vs H Q E,sp vs H Q E->vs.length=ps.length
 run:∀ (A:MB) (outer:List Env) (s:Mi) (H:Hp) (args:Args) (us:List Mf) (vs:List V) (Q:VK) (E:XK),Room k A->Env0 P w K mg base A outer s H->Ri s fd args (ps.zip us)->Vals vs us->sp vs H Q E->
  OP (Ms P w) A (.call (.ref f) args) (CR CX outer P w H s Q E) s
theorem FnOk.mono{P:Mw}{w:MG}{K:Ow}{mg:Str->Option Mf}{base:MD}{CX:E2}{j k:Nat}{f:Mg}{fd:NB}{ps:List Str}{sp:Sp}(F:FnOk P w K mg base CX j f fd ps sp)(h:j<=k):
  FnOk P w K mg base CX k f fd ps sp:=⟨F.len,fun A outer s H args us vs Q E hr=>F.run A outer s H args us vs Q E (hr.mono h)⟩
theorem Env0.make{P:Mw}{w:MG}{K:Ow}{mg:Str->Option Mf}{base:MD}{A:MB}{outer:List Env}{s:Mi}{H:Hp}(e:Env0 P w K mg base A outer s H)(C:Mg)(us:List Mf)(kw:List (Str×Mf)):
  Env0 P w K mg base (A.under (.builtin "type.__call__" ⟨.ref C::us,kw⟩)) outer s H:=⟨by first|exact e.frames|(simpa[QA,Code.envs,Qy,pushEnvs]using e.frames),e.mod,e.bs,e.bsz,e.funs,e.frf,e.hok,e.bare⟩
theorem Env0.in1{P:Mw}{w:MG}{K:Ow}{mg:Str->Option Mf}{base:MD}{A:MB}{outer:List Env}{s:Mi}{H:Hp}(e:Env0 P w K mg base A outer s H):
  Env0 P w K mg base A.in1 outer s H:=⟨e.frames,e.mod,e.bs,e.bsz,e.funs,e.frf,e.hok,e.bare⟩
section
variable{X:Cx}{pins:List (Mg×Obj)}{σ:St}{H:Hp}{s s':Mi}
theorem Inv.env0(I:Inv X pins σ H s):Env0 X.prog X.w X.K X.mg X.base X.A X.stack s H:=
 ⟨I.ok.frames,I.ok.mod,I.bs,le_trans I.ok.bsz I.sz,I.stack,I.stkFree,I.hok,I.bare⟩
theorem Inv.after{Q:VK}{u:Mf}(I:Inv X pins σ H s)(h:CE X.stack X.prog X.w H s Q u s'):EP X pins σ Q u s':=by
 obtain⟨v,H',os,bare,un,hok,r,q⟩:=h;obtain⟨hh,g,d,t,os'⟩:=s';obtain rfl:os'=s.os:=os;exact⟨v,H',I.call (h':=hh) (g':=g) (d':=d) (t':=t) (ch:=[]) un hok bare (fun b z=>absurd z (by simp)),r,q⟩
end
def GK(sp:Sp)(dvs:List V)(E:XK)(t:TA):TE:=fun σ H Q=>t σ H fun vs H1=>sp (vs ++ dvs) H1 Q E
def Dc(C:Mg)(m:Str)(sp:Sp)(dvs:List V)(E:XK)(ta:TE)(t:TA):TE:=fun σ H Q=>ta σ H fun x H1=>∃ a dx fs,x=.ref a/\H1 a=some (.ins C dx fs)/\fs.lookup m=none/\
 t σ H1 fun vs H2=>sp (x::(vs ++ dvs)) H2 Q E
def GJ(C:Mg)(sp:Sp)(dvs:List V)(E:XK)(t:TA):TE:=fun σ H Q=>t σ H fun vs H1=>∀ x dx,H1 x=none->H1 dx=none->dx≠x->
 sp (.ref x::(vs ++ dvs)) (aV (aV H1 dx (.own x)) x (.ins C dx [])) (fun v H2=>v=.non/\Q (.ref x) H2) E
def eA(K:Ow)(fd:NB)(ps:List Str)(ds:List Mf):Prop:=
 ∀ (s:Mi) (us:List Mf),K.In s.heap->(us ++ ds).length=ps.length->Ri s fd ⟨us,[]⟩ (ps.zip (us ++ ds))
theorem eA.all{K:Ow}{fd:NB}{ps:List Str}(h:∀ us:List Mf,us.length=ps.length->bindArgs fd ⟨us,[]⟩=pure (ps.zip us)):eA K fd ps []:=fun s us _ hl=>by
 rw[No]at hl ⊢;exact .of_eq (h us hl)
def ng(CX:E2)(X:Cx)(E:XK):Prop:=∀ (pins:List (Mg×Obj)) (σ:St) (H:Hp) (s:Mi) (e:Mf) (s':Mi),Inv X pins σ H s->CX X.stack H s E e s'->X.xe e s'
section
variable{X:Cx}{CX:E2}{k:Nat}{f C:Mg}{fd:NB}{ps:List Str}{sp:Sp}{dvs:List V}{ds:List Mf}{E:XK}{x m:Str}{p pos apos:Pos}{e o:MJ}{es:List MJ}{ta:TE}{t:TA}
theorem pK{pins:List (Mg×Obj)}{σ:St}{H:Hp}{s:Mi}{Q:VK}{us:List Mf}{vs:List V}(F:FnOk X.prog X.w X.K X.mg X.base CX k f fd ps sp)(hr:Room k X.A)(hb:eA X.K fd ps ds)(hd:Vals dvs ds)(hx:ng CX X E)
  (I:Inv X pins σ H s) (r:Vals vs us) (h:sp (vs ++ dvs) H Q E):Mo (Ms X.prog X.w) X.A (call (.ref f) us) (EP X pins σ Q) X.xe s:=by
 have r2:Vals (vs ++ dvs) (us ++ ds):=r.append hd;have hl:(us ++ ds).length=ps.length:=by rw[<- r2.length];exact F.len _ _ _ _ h
 refine P6 (OD (F.run X.A X.stack s H ⟨us,[]⟩ (us ++ ds) (vs ++ dvs) Q E hr I.env0 (hb s us I.kIn hl) r2 h) fun r s' hq=>?_);cases r with
 | error e=>exact hx pins σ H s e s' I hq
 | ok fl=>
  cases fl with
  | ret u=>exact I.after hq
  | next=>exact False.elim hq
  | brk=>exact False.elim hq
  | cont=>exact False.elim hq
theorem FL(F:FnOk X.prog X.w X.K X.mg X.base CX k f fd ps sp)(hr:Room k X.A)(hg:Gl X x)(hm:X.mg x=some (.ref f))(hk:Pe X.K (.ref f)=true)(hb:eA X.K fd ps ds)(hd:Vals dvs ds)(hx:ng CX X E)
  (ha:PA X (e::es) t) (hdb:(x == ("__debug__":Str))=false:=by decide) (he:Mr (e::es) X.env=(false,eval e X.env)::Mr es X.env:=by rfl) (hpl:(Nn pos (Mr es X.env)).any (·.1)=false:=by rfl):
  PE X (.Call (.Name x p) (e::es) [] pos) (GK sp dvs E t):=by
 intro pins s σ H Q I h;refine Nw (oQ I hg hm ?_ hdb);refine OY (h₀:=X.base) I.ok.mod.kin hk (cb (ha pos pins s σ H _ I h) fun us s1 ⟨vs,H1,I1,r,q⟩=>⟨I1.kIn,?_⟩) he hpl;exact pK F hr hb hd hx I1 r q
theorem FI{pl:Sem Bool}(he:PE X o ta)(c:Cls X.K C)(hm:Meth X.K C m f)(F:FnOk X.prog X.w X.K X.mg X.base CX k f fd ps sp)(hr:Room k X.A)(hb:eA X.K fd ps ds)(hd:Vals dvs ds)(hx:ng CX X E)(ha:PA X (e::es) t)
  (hst:Mr (e::es) X.env=(false,eval e X.env)::Mr es X.env:=by rfl) (hpl:(Nn pos (Mr es X.env)).any (·.1)=false:=by rfl)
  (ht:eval (.Call (.Attribute o m apos) (e::es) [] pos) X.env=(do
   let ov <- eval o X.env
   OB apos.atName
   let (f,first) <- holding [ov] (OE ov m pl)
   PD pos f first (Nn pos (Mr (e::es) X.env)) (OH pos (NZ [] X.env))):=by rfl):
  PE X (.Call (.Attribute o m apos) (e::es) [] pos) (Dc C m sp dvs E ta t):=by
 intro pins s σ H Q I h;refine OQ (pl:=pl) (cb (he pins s σ H _ I h) fun u s1 zz=>?_) ht;obtain⟨x,H1,I1,rx,a,dx,fs,ex,ea,l,q⟩:=zz;subst ex;obtain rfl:u=Value.ref a:=rx;refine m8 I1 ea c hm l ?_;refine OY (first:=[.ref a]) (h₀:=X.base) I.ok.mod.kin hm.kp (cb (ha pos pins s1 σ H1 _ I1 q) fun us s2 ⟨vs,H2,I2,r,q2⟩=>⟨I2.kIn,?_⟩) hst hpl
 exact pK (us:=.ref a::us) (vs:=.ref a::vs) F hr hb hd hx I2 (.cons rfl r) q2
theorem DQ{pl:Sem Bool}(he:PE X o ta)(c:Cls X.K C)(hm:Meth X.K C m f)(F:FnOk X.prog X.w X.K X.mg X.base CX k f fd ps sp)(hr:Room k X.A)(hb:eA X.K fd ps ds)(hd:Vals dvs ds)(hx:ng CX X E)
  (ht:eval (.Call (.Attribute o m apos) [] [] pos) X.env=(do
   let ov <- eval o X.env
   OB apos.atName
   let (f,first) <- holding [ov] (OE ov m pl)
   PD pos f first (Nn pos (Mr [] X.env)) (OH pos (NZ [] X.env))):=by rfl):
  PE X (.Call (.Attribute o m apos) [] [] pos) (Dc C m sp dvs E ta Jm):=by
 intro pins s σ H Q I h;refine OQ (pl:=pl) (cb (he pins s σ H _ I h) fun u s1 zz=>?_) ht;obtain⟨x,H1,I1,rx,a,dx,fs,ex,ea,l,q⟩:=zz;subst ex;obtain rfl:u=Value.ref a:=rx;refine m8 I1 ea c hm l ?_;exact PySem.W.callWith_K0 (first:=[.ref a]) I1.kIn hm.kp (pK (us:=[.ref a]) (vs:=[.ref a]) F hr hb hd hx I1 (.cons rfl .nil) q)
structure Mk(K:Ow)(C f:Mg):Prop where
 makes:Sn K C=true
 init:Sj K (.ref C) "__init__"=some (some (.ref f))
 fn:Sq K (.ref f)=true
 kp:Pe K (.ref C)=true
theorem Do{pins:List (Mg×Obj)}{σ:St}{H:Hp}{s:Mi}{Q:VK}{us:List Mf}{vs:List V}(M:Mk X.K C f)(F:FnOk X.prog X.w X.K X.mg X.base CX k f fd ps sp)(hr:Room (k+1) X.A)(hb:eA X.K fd ps ds)(hd:Vals dvs ds)
  (hx:ng CX X E) (I:Inv X pins σ H s) (r:Vals vs us)
  (h:∀ x dx,H x=none->H dx=none->dx≠x->sp (.ref x::(vs ++ dvs)) (aV (aV H dx (.own x)) x (.ins C dx [])) (fun v H2=>v=.non/\Q (.ref x) H2) E):
  Mo (Ms X.prog X.w) X.A (call (.ref C) us) (EP X pins σ Q) X.xe s:=by
 have hq:=h (s.heap.objs.size+1) s.heap.objs.size (I.hok.fresh (Nat.le_succ _)) (I.hok.fresh (le_refl _)) (MO (Ol _));have I2:=Inv.made (C:=C) I;have r2:Vals (V.ref (s.heap.objs.size+1)::(vs ++ dvs)) (Value.ref (s.heap.objs.size+1)::(us ++ ds)):=.cons rfl (r.append hd);have hl:(Value.ref (s.heap.objs.size+1)::us ++ ds).length=ps.length:=by
  have e:=r2.length;rw[F.len _ _ _ _ hq]at e;exact e.symm
 refine P6 (D7 (f:=f) I.kIn M.makes M.init (beq_iff_eq.mp M.fn) (OD (F.run _ X.stack _ _ ⟨Value.ref (s.heap.objs.size+1)::us,[]⟩ (Value.ref (s.heap.objs.size+1)::(us ++ ds)) _ _ E (hr.make C us [])
  (I2.env0.make C us []) (hb _ (Value.ref (s.heap.objs.size+1)::us) I2.kIn hl) r2 hq) fun r s' hq'=>?_))
 cases r with
 | error e=>exact hx pins σ _ _ e s' I2 hq'
 | ok fl=>
  cases fl with
  | ret u=>
   obtain⟨v,H',I3,rv,ev,q3⟩:=I2.after hq';subst ev;exact⟨rv,⟨V.ref (s.heap.objs.size+1),H',I3,rfl,q3⟩⟩
  | next=>exact False.elim hq'
  | brk=>exact False.elim hq'
  | cont=>exact False.elim hq'
theorem FJ(M:Mk X.K C f)(F:FnOk X.prog X.w X.K X.mg X.base CX k f fd ps sp)(hr:Room (k+1) X.A)(hg:Gl X x)(hm:X.mg x=some (.ref C))(hb:eA X.K fd ps ds)(hd:Vals dvs ds)(hx:ng CX X E)
  (ha:PA X (e::es) t) (hdb:(x == ("__debug__":Str))=false:=by decide) (he:Mr (e::es) X.env=(false,eval e X.env)::Mr es X.env:=by rfl) (hpl:(Nn pos (Mr es X.env)).any (·.1)=false:=by rfl):
  PE X (.Call (.Name x p) (e::es) [] pos) (GJ C sp dvs E t):=by
 intro pins s σ H Q I h;refine Nw (oQ I hg hm ?_ hdb);refine OY (h₀:=X.base) I.ok.mod.kin M.kp (cb (ha pos pins s σ H _ I h) fun us s1 ⟨vs,H1,I1,r,q⟩=>⟨I1.kIn,?_⟩) he hpl;exact Do M F hr hb hd hx I1 r q
end
structure FnScope(N P:List Str)(sc:NV):Prop where
 kind:sc.kind=.function
 co:sc.isCoroutine=false
 gen:sc.isGenerator=false
 nd:N.Nodup
 pre:N.take P.length=P
 par:∀ x∈P,sc.names.lookup x=some .local\/sc.names.lookup x=some .cell
 nofree:∀ y∈sc.names,y.2≠.free
theorem wb{kindOf:Str->Option OJ}{x:Str}:∀ {binds:List (Str×Mf)} {m:Str->Option Mf},(∀ v,(x,v)∉binds)->Qo kindOf binds m x=m x
 | [],_,_=>rfl
 | (n,v)::r,m,h=>by
  unfold Qo;rw[wb fun w hw=>h w (My _ hw)];split
  ·have:x≠n:=by rintro rfl;exact h v Mz
   simp[this]
  ·rfl
theorem wf{kindOf:Str->Option OJ}{x:Str}:∀ {binds:List (Str×Mf)} {m:Str->Option Mf},(∀ v,(x,v)∉binds)->Qp kindOf binds m x=m x
 | [],_,_=>rfl
 | (n,v)::r,m,h=>by
  unfold Qp;rw[wf fun w hw=>h w (My _ hw)];split
  ·rfl
  ·have:x≠n:=by rintro rfl;exact h v Mz
   simp[this]
theorem we{kindOf:Str->Option OJ}{x:Str}{v:Mf}:∀ {P:List Str} {vs:List Mf} {i:Nat} {m:Str->Option Mf},P.Nodup->P[i]?=some x->vs[i]?=some v->kindOf x=some .local->
  Qo kindOf (P.zip vs) m x=some v
 | [],_,_,_,_,h,_,_=>by simp at h
 | _::_,[],_,_,_,_,h,_=>by simp at h
 | p::P,w::vs,0,m,nd,h1,h2,hk=>by
  simp at h1 h2;subst h1;subst h2;show Qo kindOf ((p,w)::P.zip vs) m p=_
  unfold Qo;rw[wb fun v hv=>(NY.mp nd).1 (List.of_mem_zip hv).1,if_pos hk];simp
 | p::P,w::vs,i+1,m,nd,h1,h2,hk=>by
  show Qo kindOf ((p,w)::P.zip vs) m x=_
  unfold Qo;exact we (i:=i) (NY.mp nd).2 (by simpa using h1) (by simpa using h2) hk
theorem wg{kindOf:Str->Option OJ}{x:Str}{v:Mf}:∀ {P:List Str} {vs:List Mf} {i:Nat} {m:Str->Option Mf},P.Nodup->P[i]?=some x->vs[i]?=some v->kindOf x≠some .local->
  Qp kindOf (P.zip vs) m x=some v
 | [],_,_,_,_,h,_,_=>by simp at h
 | _::_,[],_,_,_,_,h,_=>by simp at h
 | p::P,w::vs,0,m,nd,h1,h2,hk=>by
  simp at h1 h2;subst h1;subst h2;show Qp kindOf ((p,w)::P.zip vs) m p=_
  unfold Qp;rw[wf fun v hv=>(NY.mp nd).1 (List.of_mem_zip hv).1,if_neg hk];simp
 | p::P,w::vs,i+1,m,nd,h1,h2,hk=>by
  show Qp kindOf ((p,w)::P.zip vs) m x=_
  unfold Qp;exact wg (i:=i) (NY.mp nd).2 (by simpa using h1) (by simpa using h2) hk
def start(N:List Str)(vs:List V):St:=vs.map some ++ List.replicate (N.length - vs.length) none
def zB(CX:E2)(P:Mw)(w:MG)(K:Ow)(mg:Str->Option Mf)(base:MD)(N:List Str)(qual:Str)(scope:NV)(f:Mg)(cd:Mf)(A:MB)(outer:List Env)(s:Mi)(H:Hp)(E:XK):Cx where
 prog:=P
 w:=w
 K:=K
 mg:=mg
 base:=base
 A:=A.deeper (Os qual scope s.heap.objs.size f cd)
 N:=N
 s₀:=s
 H₀:=H
 env:=Os qual scope s.heap.objs.size f cd
 outer:=outer
 stack:=Os qual scope s.heap.objs.size f cd::outer
 ex:=[]
 calm:=true
 fn:=fun _=>true
 pn:=[]
 xe:=fun e s'=>Mo (Ms P w) (A.deeper (Os qual scope s.heap.objs.size f cd)) (leaving (Os qual scope s.heap.objs.size f cd) e) (fun _ s''=>CX outer H s E e s'') (fun e' s''=>CX outer H s E e' s'') s'
theorem zH{sc:NV}{n:Nat}{x:Str}(h:sc.names.lookup x=some .cell):∃ c,(cellsFrom n sc.names []).lookup x=some c:=by
 have q:=PySem.W.cellsFrom_some sc.names n [] (.inl h);exact Option.isSome_iff_exists.mp q
theorem Cs{CX:E2}{P:Mw}{w:MG}{K:Ow}{mg:Str->Option Mf}{base:MD}{N ps:List Str}{qual:Str}{scope:NV}{f:Mg}{cd:Mf}{A:MB}{outer:List Env}{s s1:Mi}{H:Hp}{E:XK}{us:List Mf}{vs:List V}
  (S:FnScope N ps scope) (hd:A.handled=none) (e0:Env0 P w K mg base A outer s H) (hl:vs.length=ps.length) (r:Vals vs us)
  (x:InCallC s s.heap.objs.size (Qo (Os qual scope s.heap.objs.size f cd).kindOf (ps.zip us) fun _=>none) (cellsFrom (s.heap.objs.size+1) scope.names []) (Qp (Os qual scope s.heap.objs.size f cd).kindOf (ps.zip us) fun _=>none) s1):
  Inv (zB CX P w K mg base N qual scope f cd A outer s H E) [] (start N vs) H s1:=by
 have hpl:ps.length<=N.length:=by have:=congrArg List.length S.pre;rw[M6]at this;omega
 obtain⟨h1,tk,rfl,hk⟩:=x.done;have noA:∀ b:Mg,b∉(zB CX P w K mg base N qual scope f cd A outer s H E).ex:=fun b z=>absurd (show b∈([]:List Mg)from z) (by simp)
 refine⟨⟨e0.mod,S.kind,rfl,rfl,le_refl _,fun y z c h1 h2=>?_,fun y hy=>?_,fun y c _ h=>?_,fun _=>hd,QP e0.frames,.inr ⟨rfl,rfl⟩,fun b z=>absurd z (noA b),e0.bs,e0.bsz,fun b _ _=>noA b,fun b z=>absurd z (noA b),e0.funs,e0.frf⟩,
  rfl,e0.bare,Un.kept hk,⟨_,x.toInCall.ns,fun i y v h1 h2 h3=>?_⟩,fun y c h=>⟨_,x.cell y c h⟩,e0.hok.fresh (le_refl _),fun y c h=>?_,fun p hp=>absurd (show p∈([]:List (Mg×Obj))from hp) (by simp),e0.hok.kept hk,?_⟩
 ·exact name_of_addr x.apart (PySem.mem_of_lookup h1) (PySem.mem_of_lookup h2)
 ·have hy:scope.names.lookup y=some .cell\/scope.names.lookup y=some .free:=hy;rcases hy with hy|hy
  ·exact zH hy
  ·exact absurd rfl (S.nofree _ (PySem.mem_of_lookup hy))
 ·exact le_of_lt (x.above y c (PySem.mem_of_lookup h))
 ·have hi:i < vs.length:=by
   unfold start at h2
   by_cases hi:i < vs.length
   ·exact hi
   ·rw[List.getElem?_append_right (by simpa using hi)]at h2
    rw[List.getElem?_replicate]at h2;split at h2<;>cases h2
  have ha:vs[i]?=some v:=by
   unfold start at h2;rw[List.getElem?_append_left (by simpa using hi),MA]at h2
   cases e:vs[i]? with
   | none=>rw[e]at h2;cases h2
   | some a=>rw[e]at h2;cases h2;rfl
  obtain⟨u,hu,rv⟩:=r.get ha;have hp:ps[i]?=some y:=by
   rw[<- S.pre,List.getElem?_take_of_lt (by walk_at "o")];exact h1
  have ndP:ps.Nodup:=by rw[<- S.pre];exact S.nd.sublist (List.take_sublist _ _)
  refine⟨u,rv,?_⟩;rcases S.par y (Mv hp)with k|k
  ·exact .inl ⟨k,we ndP hp hu k⟩
  ·obtain⟨c,e⟩:=zH (n:=s.heap.objs.size+1) k;refine .inr ⟨.inl k,c,e,?_⟩;have q:=x.cell y c e;rw[wg ndP hp hu (by show scope.names.lookup y≠_;rw[k];decide)]at q
   exact q
 ·exact e0.hok.fresh (le_of_lt (x.above y c (PySem.mem_of_lookup h)))
 ·unfold start;show _=N.length
  rw[Na,Ml,List.length_replicate];omega
theorem GW{CX:E2}{P:Mw}{w:MG}{K:Ow}{mg:Str->Option Mf}{base:MD}{k:Nat}{f:Mg}{name qual:Str}{params:PM}{body:List ML}{scope:NV}{dV kV doc pm cdv ct oc:Mf}{an od:Option Mg}
  {osl:Array (Option Mf)} {N ps:List Str} {sp:Sp} (lk:K.lookup f=some ⟨oc,od,.func (Qh name qual params body scope dV kV doc pm an cdv ct),osl⟩) (hcd:P9 K cdv qual=true) (S:FnScope N ps scope)
  (len:∀ vs H Q E,sp vs H Q E->vs.length=ps.length)
  (Rl:∀ (A:MB) (outer:List Env) (s:Mi) (H:Hp) (vs:List V) (Q:VK) (E:XK),Room k (A.deeper (Os qual scope s.heap.objs.size f cdv))->sp vs H Q E->
   ∃ t,nj (zB CX P w K mg base N qual scope f cdv A outer s H E) body t/\t { nx:=fun _ H'=>Q .non H',rt:=Q } (start N vs) H):
  FnOk P w K mg base CX (k+1) f (Qh name qual params body scope dV kV doc pm an cdv ct) ps sp:=by
 refine⟨len,fun A outer s H args us vs Q E hr e0 hb r hsp=>?_⟩;have hl:=len _ _ _ _ hsp;have KX:K.In s.heap:=e0.mod.kin.keeps fun b o e=>(e0.bs b o e).1;have lim:s.heap.NoLimit:=e0.mod.nolimit.keeps fun b o e=>(e0.bs b o e).1;have RZ:∀ y∈ps.zip us,scope.names.lookup y.1=some .local\/(scope.names.lookup y.1=some .cell/\((cellsFrom (s.heap.objs.size+1) scope.names []).lookup y.1).isSome=true):=fun⟨n,v⟩ hy=>by
  rcases S.par n (List.of_mem_zip hy).1 with q|q
  ·exact .inl q
  ·exact .inr ⟨q,PySem.W.cellsFrom_some _ _ _ (.inl q)⟩
 refine QE hr.depth (KX _ _ lk) rfl S.co S.gen rfl (PySem.W.codeRec_of KX hcd) (hb _ _ _ _ ?_);refine wpAny_newFunctionEnv_cells S.kind RZ fun env he s1 x=>?_;subst he;refine⟨lim.keeps x.toInCall.keep,codeAny_func ?_⟩;obtain⟨t,ht,hq⟩:=Rl A outer s H vs Q E (hr.deeper _) hsp;have I:Inv (zB CX P w K mg base N qual scope f cdv A outer s H E) [] (start N vs) H s1:=Cs S hr.hd e0 hl r x;refine M_ (ht [] s1 (start N vs) H _ I hq) (fun fl s' hs=>?_) fun e s' hs=>hs;have fin:∀ {σ':St} {H':Hp} {v:V} {u:Mf},Inv (zB CX P w K mg base N qual scope f cdv A outer s H E) [] σ' H' s'->aB v u->Q v H'->CE outer P w H s Q u s':=
  fun {σ' H' v u} J rv q=>⟨v,H',J.os,J.bare,J.base,J.hok,rv,q⟩
 cases fl with
 | ret u=>
  obtain⟨v,σ',H',J,rv,q⟩:=hs;exact fin J rv q
 | next=>
  obtain⟨σ',H',J,q⟩:=hs;exact fin (v:=V.non) (u:=Value.none) J rfl q
 | brk=>
  obtain⟨_,_,_,q⟩:=hs;exact False.elim q
 | cont=>
  obtain⟨_,_,_,q⟩:=hs;exact False.elim q
section
variable{X:Cx}{x:Str}{p pos:Pos}{e:MJ}{es:List MJ}{t:TA}{id T:String}{r:List V->Hp->VK->Prop}
def K8(r:List V->Hp->VK->Prop)(t:TA):TE:=fun σ H Q=>t σ H fun vs H1=>r vs H1 Q
theorem DU(hc:dU X (.builtin id) r)(hg:Gl X x)(hm:X.mg x=none)(hv:NA x=some (.builtin id))(ha:PA X (e::es) t)(hn:x≠"__name__":=by decide)(hdb:(x == ("__debug__":Str))=false:=by decide)
  (he:Mr (e::es) X.env=(false,eval e X.env)::Mr es X.env:=by rfl) (hpl:(Nn pos (Mr es X.env)).any (·.1)=false:=by rfl):PE X (.Call (.Name x p) (e::es) [] pos) (K8 r t):=by
 intro pins s σ H Q I h;refine Nw (iN I hg hm hv ?_ hn hdb);exact PyProof.Rows.callWith_builtin1 (cb (ha pos pins s σ H _ I h) fun us s1 ⟨vs,H1,I1,r1,q1⟩=>hc pins s1 σ H1 vs us Q I1 r1 q1) he hpl
theorem Cc(hc:dU X (.type T) r)(hg:Gl X x)(hm:X.mg x=none)(hv:NA x=some (.type T))(ha:PA X (e::es) t)(hn:x≠"__name__":=by decide)(hdb:(x == ("__debug__":Str))=false:=by decide)
  (he:Mr (e::es) X.env=(false,eval e X.env)::Mr es X.env:=by rfl) (hpl:(Nn pos (Mr es X.env)).any (·.1)=false:=by rfl):PE X (.Call (.Name x p) (e::es) [] pos) (K8 r t):=by
 intro pins s σ H Q I h;refine Nw (iN I hg hm hv ?_ hn hdb);exact PyProof.Rows.callWith_type1 (cb (ha pos pins s σ H _ I h) fun us s1 ⟨vs,H1,I1,r1,q1⟩=>hc pins s1 σ H1 vs us Q I1 r1 q1) he hpl
end
end L2
namespace HT
open PySem PyProof.Rows
section
open PySem.SeqAt
open PySem.AutoSeq1 (wpAny_loadPart')
open PySem.MeetsSeq PySem.MeetsSeq2 PySem.MeetsSeq3
end
section
variable{prog:Mw}{w:MG}{A:MB}{E:Mf->Mi->Prop}{s:Mi}
theorem cat_tup{t b:Mg}{vs ws:List Mf}{Q:Mf->Mi->Prop}(ht:IsTup s.heap t vs.toArray)(hb:IsTup s.heap b ws.toArray)(hv:vs≠[])
  (h1:ws=[]->Q (.ref t) s) (h2:ws≠[]->Q (.ref s.heap.objs.size) { s with heap:=s.heap.push { cls:=.type "tuple",data:=.seq (vs ++ ws).toArray } })
  (hsz:vs.length+ws.length<=Mq):Mo (Ms prog w) A (Nx .Add (.ref t) (.ref b)) Q E s:=by
 obtain⟨⟨cls,dd,data,sl⟩,ho,hc,n,hd⟩:=id ht;obtain⟨⟨cls2,dd2,data2,sl2⟩,ho2,hc2,n2,hd2⟩:=id hb;simp only at hc hd hc2 hd2;subst hc hd hc2 hd2;have e:vs.toArray ++ ws.toArray=(vs ++ ws).toArray:=by simp
 by_cases hw:ws=[]
 ·exact Qw ⟨_,ho,rfl⟩ ⟨_,ho2,rfl⟩ noFill_tuple_add seq_tuple_add PySem.F.slot_tuple_add PySem.F.entry_tuple_add (PySem.F.args_tuple_add_2 _ _)
   (tuple_addW1 t b vs.toArray ws.toArray n n2 dd dd2 sl sl2 (by simpa using hv) (by simp[hw])) ⟨ho,ho2,h1 hw⟩
 ·refine Qw ⟨_,ho,rfl⟩ ⟨_,ho2,rfl⟩ noFill_tuple_add seq_tuple_add PySem.F.slot_tuple_add PySem.F.entry_tuple_add (PySem.F.args_tuple_add_2 _ _)
   (tuple_addW2 t b vs.toArray ws.toArray n n2 dd dd2 sl sl2 (by simpa using hv) (by simpa using hw) (by rw[Mt,Mt];exact hsz)) ⟨ho,ho2,?_⟩
  rw[e];exact h2 hw
def sIx(n d:Nat):Option Int->Nat
 | none=>d
 | some v=>if v < 0 then (v+(n:Int)).toNat else min v.toNat n
theorem sIx_le(n d:Nat)(hd:d<=n)(o:Option Int):sIx n d o<=n:=by
 cases o with
 | none=>exact hd
 | some v=>
  show (if v < 0 then (v+(n:Int)).toNat else min v.toNat n)<=n
  by_cases hv:v < 0
  ·rw[if_pos hv];omega
  ·rw[if_neg hv];exact Nat.min_le_right _ _
theorem BF(v:Int)(n d:Nat):(if v < 0 then max (v+(n:Int)) 0 else min v (n:Int))=((sIx n d (some v):Nat):Int):=by
 show (if v < 0 then max (v+(n:Int)) 0 else min v (n:Int))=(((if v < 0 then (v+(n:Int)).toNat else min v.toNat n):Nat):Int)
 by_cases hv:v < 0
 ·simp only[if_pos hv];omega
 ·simp only[if_neg hv];omega
theorem A5(lo hi:Option Int)(n:Nat):OK lo hi 1 (n:Int)=(((sIx n 0 lo:Nat):Int),((sIx n n hi:Nat):Int)):=by
 have h1:¬ ((1:Int) < 0):=by walk_at "o"
 unfold OK;simp only[h1,if_false];refine Prod.ext ?_ ?_
 ·cases lo with
  | none=>rfl
  | some v=>exact BF v n 0
 ·cases hi with
  | none=>rfl
  | some v=>exact BF v n n
theorem Av(i j:Nat):N5 (i:Int) (j:Int) 1=j - i:=by
 unfold N5;have h1:(1:Int) > 0:=by walk_at "o"
 simp only[h1,if_true,Int.ediv_one];split<;>omega
theorem si{v:Mf}{o:Option Int}{Q:Option Int->Mi->Prop}(p:Pw v o)(h:Q o s):Mo (Ms prog w) A (Builtin.Slice.slicePartIndex v) Q E s:=by
 cases p with
 | none=>exact slicePart_none h
 | int i t=>exact slicePart_int h
theorem pC{sl:Mg}{vl vu:Mf}{lo hi:Option Int}{n:Nat}{Q:Int×Int×Nat->Mi->Prop}(hs:s.heap.IsSliceOf sl vl vu .none)(pl:Pw vl lo)(pu:Pw vu hi)
  (h:Q (((sIx n 0 lo:Nat):Int),1,sIx n n hi - sIx n 0 lo) s):Mo (Ms prog w) A (Qd (.ref sl) (pure (n:Int))) Q E s:=by
 obtain⟨os,hos,hcs,hds⟩:=id hs;unfold Qd Builtin.Slice.sliceFields;refine Me (Me (Nr hos hds (x:=vl) rfl (Me (Nr hos hds (x:=vu) rfl (Me (Nr hos hds (x:=.none) rfl (Mj ?_)))))));refine Me (slicePart_none ?_);show Mo _ _ (if ((1:Int) == 0)=true then _ else _) _ _ s
 rw[if_neg (by decide)]
 refine Me (si pl (Me (si pu (Me (Mj ?_)))));show Mo _ _ (match OK lo hi 1 (n:Int) with|(lo,hi)=>pure (lo,(1:Int),N5 lo hi 1)) _ _ s
 rw[A5 lo hi n];show Mo _ _ (pure (((sIx n 0 lo:Nat):Int),(1:Int),N5 ((sIx n 0 lo:Nat):Int) ((sIx n n hi:Nat):Int) 1)) _ _ s
 rw[Av];exact Mj h
theorem DL(xs:Array Mf)(i k:Nat):((List.range k).filterMap fun (m:Nat)=>xs[((i:Int)+(m:Int)*1).toNat]?).toArray=((xs.toList.drop i).take k).toArray:=by
 have e:(fun (m:Nat)=>xs[((i:Int)+(m:Int)*1).toNat]?)=fun m=>xs[i+m]?:=by
  funext m;have:((i:Int)+(m:Int)*1).toNat=i+m:=by walk_at "o"
  rw[this]
 rw[e];have:=pick_run xs i k;rw[List.filterMap_map]at this;have e2:((fun x=>xs[x]?) ∘ fun x=>i+x)=fun m=>xs[i+m]?:=rfl;rw[e2]at this;rw[this]
theorem getItem_tuple_cut{t sl:Mg}{items:Array Mf}{vl vu:Mf}{lo hi:Option Int}{Q:Mf->Mi->Prop}(ht:IsTup s.heap t items)(hs:s.heap.IsSliceOf sl vl vu .none)(pl:Pw vl lo)(pu:Pw vu hi)
  (hw:¬ (sIx items.size 0 lo=0/\sIx items.size items.size hi=items.size))
  (h:Q (.ref s.heap.objs.size) { s with heap:=s.heap.push { cls:=.type "tuple",data:=.seq ((items.toList.drop (sIx items.size 0 lo)).take (sIx items.size items.size hi - sIx items.size 0 lo)).toArray } })
  (hsz:items.size<=Mq):Mo (Ms prog w) A (OW (.ref t) (.ref sl)) Q E s:=by
 have Ry:sizeOk (.seq ((items.toList.drop (sIx items.size 0 lo)).take (sIx items.size items.size hi - sIx items.size 0 lo)).toArray):=by
  show ((items.toList.drop (sIx items.size 0 lo)).take (sIx items.size items.size hi - sIx items.size 0 lo)).toArray.size<=Mq
  rw[Mt,M6,ON,Array.length_toList];omega
 have hj:sIx items.size items.size hi<=items.size:=sIx_le _ _ (le_refl _) hi;obtain⟨os,hos,hcs,hds⟩:=id hs;have hTs:s.TypeIs (.ref sl) "slice":=⟨os,hos,hcs⟩;unfold OW
 try with_reducible refine M8 ?_
 first|refine Me (Mj ?_)|skip
 refine Me (wpAny_sequenceKey ht.typeIs (by decide) ?_)
 refine Me (Nf (name:=Mh "__getitem__") ht.typeIs PyProof.Rows.slot_tuple_getitem
  (Nd PyProof.Rows.slot_tuple_getitem ht.typeIs entry_tuple_getitem ?_ (args_tuple_getitem _ _)))
 show Mo _ _ (Builtin.Tuple.tupleItemsOf (.ref t) >>= _) _ _ s
 refine Me (tupleItemsOf_ ht ?_);refine Me (Qs hTs ?_);rw[if_pos (by decide)]
 refine Me (pC hs pl pu ?_);have hno:¬ ((((sIx items.size 0 lo:Nat):Int) == 0 && (1:Int) == 1 && (sIx items.size items.size hi - sIx items.size 0 lo) == items.size)=true):=by
  intro q;rw[Bool.and_eq_true,Bool.and_eq_true]at q;have q1:((sIx items.size 0 lo:Nat):Int)=0:=eq_of_beq q.1.1;have q2:sIx items.size items.size hi - sIx items.size 0 lo=items.size:=eq_of_beq q.2;exact hw ⟨by walk_at "o",by walk_at "o"⟩
 show Mo _ _ (if (((sIx items.size 0 lo:Nat):Int) == 0 && (1:Int) == 1 && (sIx items.size items.size hi - sIx items.size 0 lo) == items.size)=true then _ else _) _ _ s
 rw[if_neg hno,DL]
 first
  | exact Me (m:=Oa _) (MW (Mj ⟨_,rfl,Mj h⟩) Ry)
  | exact Me (m:=Oa _) (MW (Me (Mj (Mj ⟨_,rfl,Mj h⟩))) Ry)
  | exact Me (Me (m:=Oa _) (MW (Mj (Mj ⟨_,rfl,Mj h⟩)) Ry))
  | exact Me (Me (m:=Oa _) (MW (Mj ⟨_,rfl,Mj h⟩) Ry))
end
end HT
namespace L2
open PySem PySem.Spec PyProof.Rows
abbrev TO:=St->Hp->(Option Int->Hp->Prop)->Prop
def PO(X:Cx)(e:Option MJ)(t:TO):Prop:=
 ∀ (pins:List (Mg×Obj)) (s:Mi) (σ:St) (H:Hp) (Q:Option Int->Hp->Prop),Inv X pins σ H s->t σ H Q->
  Mo (Ms X.prog X.w) X.A (evalPart e X.env) (fun u s'=>∃ o H',Inv X pins σ H' s'/\Pw u o/\Q o H') X.xe s
def Fb:TO:=fun _ H Q=>Q none H
def Jl(t:TE):TO:=fun σ H Q=>t σ H fun x H1=>∃ i,x=.int i/\Q (some i) H1
section
variable{X:Cx}{e:MJ}{te:TE}{lo hi:Option MJ}{tl th:TO}{pos p2:Pos}
theorem FE:PO X none Fb:=by
 intro pins s σ H Q I h;rw[evalPart_none];exact Mj ⟨none,H,I,.none,h⟩
theorem FD(h:PE X e te):PO X (some e) (Jl te):=by
 intro pins s σ H Q I hw;rw[evalPart_some];refine cb (h pins s σ H _ I hw) fun u s1 zz=>?_;obtain⟨x,H1,I1,r1,q1⟩:=zz;obtain⟨i,rfl,q⟩:=q1;obtain⟨t,rfl⟩:=r1;exact⟨some i,H1,I1,.int i t,q⟩
def CM(X:Cx)(r:V->Option Int->Option Int->Hp->VK->Prop):Prop:=
 ∀ (pins:List (Mg×Obj)) (s:Mi) (σ:St) (H:Hp) (x:V) (v vl vu:Mf) (lo hi:Option Int) (sl:Mg) (Q:VK),Inv X pins σ H s->aB x v->s.heap.IsSliceOf sl vl vu .none->Pw vl lo->Pw vu hi->r x lo hi H Q->
  ∃ T id,Pr (.type T) "__getitem__"=pure (some (.builtin id))/\s.TypeIs v T/\Mo (Ms X.prog X.w) X.A (OW v (.ref sl)) (EP X pins σ Q) X.xe s
theorem CM.or{r r':V->Option Int->Option Int->Hp->VK->Prop}(h:CM X r)(h':CM X r'):CM X (fun x lo hi H Q=>r x lo hi H Q\/r' x lo hi H Q):=by
 intro pins s σ H x v vl vu lo hi sl Q I rx hs pl pu q;rcases q with q|q
 ·exact h pins s σ H x v vl vu lo hi sl Q I rx hs pl pu q
 ·exact h' pins s σ H x v vl vu lo hi sl Q I rx hs pl pu q
def LR(r:V->Option Int->Option Int->Hp->VK->Prop)(te:TE)(tl th:TO):TE:=fun σ H Q=>te σ H fun x H1=>tl σ H1 fun l H2=>th σ H2 fun u H3=>r x l u H3 Q
theorem DP{r:V->Option Int->Option Int->Hp->VK->Prop}(hr:CM X r)(he:PE X e te)(hl:PO X lo tl)(hu:PO X hi th):PE X (.Subscript e (.Slice lo hi none p2) pos) (LR r te tl th):=by
 intro pins s σ H Q I h;refine Q1 (cb (he pins s σ H _ I h) fun v s1 zz=>?_);obtain⟨x,H1,I1,r1,q1⟩:=zz;refine wpAny_Slice (cb (hl pins s1 σ H1 _ I1 q1) fun vl s2 zz=>?_);obtain⟨l,H2,I2,pl,q2⟩:=zz;refine cb (hu pins s2 σ H2 _ I2 q2) fun vu s3 zz=>?_;obtain⟨u,H3,I3,pu,q3⟩:=zz;rw[evalPart_none];refine Mj ?_;have I4:Inv X pins σ H3 { s3 with heap:=s3.heap.push { cls:=.type "slice",data:=.fields #[vl,vu,.none] } }:=I3.kept (t':=s3.toks) fun b ob q=>Mm _ q
 obtain⟨T,id,hT,ht,hg⟩:=hr pins { s3 with heap:=s3.heap.push { cls:=.type "slice",data:=.fields #[vl,vu,.none] } } σ H3 x v vl vu l u s3.heap.objs.size Q I4 r1 (Heap.IsSliceOf.new ..) pl pu q3
 show Mo (Ms X.prog X.w) X.A (Qf e (.Slice lo hi none p2) v (.ref s3.heap.objs.size)) (EP X pins σ Q) X.xe { s3 with heap:=s3.heap.push { cls:=.type "slice",data:=.fields #[vl,vu,.none] } }
 exact tail_any (ops:=[.ref s3.heap.objs.size,v]) ht hT hg (by with_unfolding_all rfl)
def zC(xs:List V)(lo hi:Option Int):List V:=(xs.drop (HT.sIx xs.length 0 lo)).take (HT.sIx xs.length xs.length hi - HT.sIx xs.length 0 lo)
theorem rf(xs:List V)(lo hi:Option Int):(zC xs lo hi).length<=xs.length:=by
 unfold zC;rw[M6,ON];omega
def Ld(K:Ow):V->Option Int->Option Int->Hp->VK->Prop:=fun x lo hi H Q=>∃ a xs,x=.ref a/\jS K H a xs/\
 ¬ (HT.sIx xs.length 0 lo=0/\HT.sIx xs.length xs.length hi=xs.length)/\∀ p,H p=none->Q (.ref p) (aV H p (.tup (zC xs lo hi)))
theorem Ht:CM X (Ld X.K):=by
 intro pins s σ H x v vl vu lo hi sl Q I rx hs pl pu h;obtain⟨a,xs,rfl,hx,hw,q⟩:=h;cases rx;obtain⟨its,r,ht,hz⟩:=I.tuple hx;have hlen:its.toArray.size=xs.length:=by rw[Mt];exact r.length.symm
 refine⟨"tuple",_,PyProof.Rows.slot_tuple_getitem.lookup,ht.typeIs,?_⟩;refine HT.getItem_tuple_cut ht hs pl pu (by rw[hlen];exact hw) ?_ (by rw[hlen];exact hz)
 rw[hlen];refine⟨.ref s.heap.objs.size,_,I.laid (t':=s.toks) (o:=.tup (zC xs lo hi)) (fun b ob q=>Mm _ q) (le_refl _) ?_,rfl,q _ (I.hok.fresh (le_refl _))⟩;exact⟨le_trans (rf xs lo hi) hz,_,(r.drop (HT.sIx xs.length 0 lo)).take (HT.sIx xs.length xs.length hi - HT.sIx xs.length 0 lo),vn.new _ _⟩
def Jy(K:Ow):R2:=fun x y H Q=>∃ a b xs ys,x=.ref a/\y=.ref b/\jS K H a xs/\jS K H b ys/\xs≠[]/\xs.length+ys.length<=Mq/\
 (ys=[]->Q (.ref a) H)/\(ys≠[]->∀ p,H p=none->Q (.ref p) (aV H p (.tup (xs ++ ys))))
theorem Vals.nil_iff{xs:List V}{us:List Mf}(r:Vals xs us):us=[]↔xs=[]:=by
 cases r with
 | nil=>simp
 | cons _ _=>simp
theorem FW:gW X (Nx .Add) (Jy X.K):=by
 intro pins s σ H x y v u Q I rx ry h;obtain⟨a,b,xs,ys,rfl,rfl,ha,hb,hx,hz,q1,q2⟩:=h;cases rx;cases ry;obtain⟨its,r1,p1,_⟩:=I.tuple ha;obtain⟨its2,r2,p2,_⟩:=I.tuple hb;refine HT.cat_tup p1 p2 (fun z=>hx (r1.nil_iff.mp z)) (fun z=>⟨.ref a,H,I,rfl,q1 (r2.nil_iff.mp z)⟩) (fun z=>?_) (by rw[<- r1.length,<- r2.length];exact hz)
 refine⟨.ref s.heap.objs.size,_,I.laid (t':=s.toks) (o:=.tup (xs ++ ys)) (fun b ob q=>Mm _ q) (le_refl _) ?_,rfl,q2 (fun w=>z (r2.nil_iff.mpr w)) _ (I.hok.fresh (le_refl _))⟩;exact⟨by rw[Na];exact hz,_,r1.append r2,vn.new _ _⟩
end
def F_(n:Nat)(i:Int):Option Nat:=if 0<=i then (if i < n then some i.toNat else none)else if -(n:Int)<=i then some (i+n).toNat else none
def lW{α:Type}(xs:List α)(i:Int):Option α:=(F_ xs.length i).bind fun j=>xs[j]?
theorem By{n:Nat}{i:Int}{j:Nat}(h:F_ n i=some j):seqIndex? i n=some j/\j < n/\-(n:Int)<=i/\i < n:=by
 unfold F_ at h
 by_cases h0:0<=i
 ·rw[if_pos h0]at h
  by_cases h1:i < n
  ·rw[if_pos h1]at h;have e:i.toNat=j:=Option.some.inj h;exact⟨by rw[QI h0 h1,e],by walk_at "o",by walk_at "o",h1⟩
  ·rw[if_neg h1]at h;cases h
 ·rw[if_neg h0]at h
  by_cases h1:-(n:Int)<=i
  ·rw[if_pos h1]at h;have e:(i+n).toNat=j:=Option.some.inj h;exact⟨by rw[seqIndex_neg (by walk_at "o") h1,e],by walk_at "o",h1,by walk_at "o"⟩
  ·rw[if_neg h1]at h;cases h
theorem xD{α:Type}{xs:List α}{i:Int}{v:α}(h:lW xs i=some v):∃ j,seqIndex? i xs.length=some j/\xs[j]?=some v/\j < xs.length/\-(xs.length:Int)<=i/\i < xs.length:=by
 unfold lW at h;cases e:F_ xs.length i with
 | none=>rw[e]at h;cases h
 | some j=>
  rw[e]at h;obtain⟨h1,h2,h3,h4⟩:=By e;exact⟨j,h1,h,h2,h3,h4⟩
def BO(b:MJ):Prop:=∀ o i,PP b false o i=operate [o,i] (OW o i)
def CN(X:Cx)(r:R2):Prop:=
 ∀ (value slice:MJ) (pins:List (Mg×Obj)) (s:Mi) (σ:St) (H:Hp) (x y:V) (v u:Mf) (Q:VK),Inv X pins σ H s->aB x v->aB y u->r x y H Q->
  PP slice false v u=operate [v,u] (OW v u)->Mo (Ms X.prog X.w) X.A (Qf value slice v u) (EP X pins σ Q) X.xe s
def KC(X:Cx)(id:String)(r:V->List V->Hp->VK->Prop):Prop:=
 ∀ (pins:List (Mg×Obj)) (s:Mi) (σ:St) (H:Hp) (x:V) (xs:List V) (v:Mf) (us:List Mf) (Q:VK),Inv X pins σ H s->aB x v->Vals xs us->r x xs H Q->
  Mo (Ms X.prog X.w) X.A (call (.builtin id) (v::us)) (EP X pins σ Q) X.xe s
section
variable{X:Cx}{a b:MJ}{ta tb:TE}{pos:Pos}
theorem CN.or{r r':R2}(h:CN X r)(h':CN X r'):CN X (fun x y H Q=>r x y H Q\/r' x y H Q):=by
 intro value slice pins s σ H x y v u Q I rx ry q hs;rcases q with q|q
 ·exact h value slice pins s σ H x y v u Q I rx ry q hs
 ·exact h' value slice pins s σ H x y v u Q I rx ry q hs
theorem KC.or{id:String}{r r':V->List V->Hp->VK->Prop}(h:KC X id r)(h':KC X id r'):KC X id (fun x xs H Q=>r x xs H Q\/r' x xs H Q):=by
 intro pins s σ H x xs v us Q I rx rs q;rcases q with q|q
 ·exact h pins s σ H x xs v us Q I rx rs q
 ·exact h' pins s σ H x xs v us Q I rx rs q
theorem JH{r:R2}(hr:CN X r)(ha:PE X a ta)(hb:PE X b tb)(hs:BO b):PE X (.Subscript a b pos) (Je r ta tb):=by
 intro pins s σ H Q I h;exact Q1 (IV ha hb I h fun v u s2 x y H2 I2 rx ry q=>hr a b pins s2 σ H2 x y v u Q I2 rx ry q (hs _ _))
def Jx(K:Ow):R2:=fun x y H Q=>∃ p xs i v,x=.ref p/\y=.int i/\j_ K H p xs/\lW xs i=some v/\Q v H
def Jv(K:Ow):R2:=fun x y H Q=>∃ p xs i v,x=.ref p/\y=.int i/\jS K H p xs/\lW xs i=some v/\Q v H
def Jw:R2:=fun x y H Q=>∃ z i c,x=.str z/\y=.int i/\z.length<=Mq/\lW z.cps.toList i=some c/\Q (.str ⟨#[c]⟩) H
theorem F9:CN X (Jx X.K):=by
 intro value slice pins s σ H x y v u Q I rx ry h hs;obtain⟨p,xs,i,z,rfl,rfl,hq,he,q⟩:=h;cases rx;obtain⟨t,rfl⟩:=ry;obtain⟨its,r,pl,hz⟩:=I.list hq;obtain⟨j,h1,h2,h3,h4,h5⟩:=xD he;obtain⟨w,ew,rw'⟩:=r.get h2;have hl:=r.length;have hn:=kS;have fin:EP X pins σ Q w s:=⟨z,H,I,rw',q⟩
 by_cases h0:0<=i
 ·have hj:i.toNat=j:=by
   rw[QI h0 h5]at h1;exact Option.some.inj h1
  exact item_listR pl.isList h0 (by walk_at "o") (by rw[hj];simpa using ew) fin hs
 ·have hj:(i+(its.toArray.size:Int)).toNat=j:=by
   rw[seqIndex_neg (by walk_at "o") h4]at h1
   rw[Mt,<- hl];exact Option.some.inj h1
  exact Qu (x:=w) pl.isList.typeIs slot_list_getitem.lookup
   (wpAny_getItem_list_neg (Q:=fun r s'=>r=w/\EP X pins σ Q r s') pl.isList (by walk_at "o") (by rw[Mt]<;>omega) (by walk_at "o") (by rw[hj];simpa using ew) ⟨rfl,fin⟩) hs
theorem Iy:CN X (Jv X.K):=by
 intro value slice pins s σ H x y v u Q I rx ry h hs;obtain⟨p,xs,i,z,rfl,rfl,hq,he,q⟩:=h;cases rx;obtain⟨t,rfl⟩:=ry;obtain⟨its,r,pl,hz⟩:=I.tuple hq;obtain⟨j,h1,h2,h3,h4,h5⟩:=xD he;obtain⟨w,ew,rw'⟩:=r.get h2;have hl:=r.length;have hn:=kS;have fin:EP X pins σ Q w s:=⟨z,H,I,rw',q⟩;exact Qu (x:=w) pl.typeIs slot_tuple_getitem.lookup
  (getItem_tuple (j:=j) (Q:=fun r s'=>r=w/\EP X pins σ Q r s') pl (by walk_at "o") (by walk_at "o") (by rw[Mt,<- hl];exact h1) (by simpa using ew) ⟨rfl,fin⟩) hs
theorem Iz:CN X Jw:=by
 intro value slice pins s σ H x y v u Q I rx ry h hs;obtain⟨z,i,c,rfl,rfl,hz,he,q⟩:=h;obtain⟨t,rfl⟩:=rx;obtain⟨t',rfl⟩:=ry;obtain⟨j,h1,h2,h3,h4,h5⟩:=xD he;have hl:z.cps.toList.length=z.length:=by simp[OZ]
 rw[hl]at h1 h4 h5;have hn:=kS;exact tail_any (QV s z t) slot_str_getitem.lookup (getItem_str (c:=c) (by
  have e1:decide (i < -(2 ^ 63:Int))=false:=decide_eq_false (by walk_at "o")
  have e2:decide (i>=2 ^ 63)=false:=decide_eq_false (by walk_at "o")
  rw[e1,e2,Bool.or_false]) (by rw[h1];simpa using h2) ⟨.str ⟨#[c]⟩,H,I.tok _,⟨_,rfl⟩,q⟩) hs
def LX(K:Ow):R2:=fun x y H Q=>Jx K x y H Q\/Jv K x y H Q\/Jw x y H Q
theorem IA:CN X (LX X.K):=F9.or (Iy.or Iz)
theorem AF(its:List Mf)(n j:Nat)(u:Mf):NC (·.setIfInBounds j u) { cls:=.type "list",data:=.seq its.toArray n }={ cls:=.type "list",data:=.seq (its.set j u).toArray n }:=by
 simp[NC]
theorem Inv.lst{pins:List (Mg×Obj)}{σ:St}{H:Hp}{s:Mi}{p:Mg}{xs:List V}(I:Inv X pins σ H s)(h:H p=some (.lst xs)):
  ∃ (its:List Mf) (n:Nat),Vals xs its/\s.heap.get? p=some { cls:=.type "list",data:=.seq its.toArray n }/\xs.length<=Mq:=by
 obtain⟨z,its,n,r,e⟩:=I.hok p _ h;exact⟨its,n,r,e,z⟩
theorem Inv.lstUpd{pins:List (Mg×Obj)}{σ:St}{H:Hp}{s:Mi}{p:Mg}{xs ys:List V}{its its':List Mf}{n n':Nat}{f:Obj->Obj}(I:Inv X pins σ H s)(h:H p=some (.lst xs))
  (ho:s.heap.get? p=some { cls:=.type "list",data:=.seq its.toArray n }) (hf:f { cls:=.type "list",data:=.seq its.toArray n }={ cls:=.type "list",data:=.seq its'.toArray n' }) (r:Vals ys its') (hz:ys.length<=Mq) (t:Nat):
  Inv X pins σ (aV H p (.lst ys)) { s with heap:=s.heap.update p f,toks:=t }:=by
 have e:(s.heap.update p f).get? p=some { cls:=.type "list",data:=.seq its'.toArray n' }:=by
  rw[O8 f ho (by rw[hf]<;>rfl),hf]
 refine I.write (x:=p) (e:=p) (by rw[h];trivial) (.inl rfl) (fun b u hb q=>(On _ _ (Ne.symm hb)).trans q) ⟨_,e⟩ ?_
 exact⟨hz,its',n',r,e⟩
def Ju:V->V->V->Hp->(Hp->Prop)->Prop:=fun o i v H Q=>∃ p xs k j,o=.ref p/\i=.int k/\H p=some (.lst xs)/\F_ xs.length k=some j/\Q (aV H p (.lst (xs.set j v)))
theorem Dk:Jb X Ju:=by
 intro pins s σ H o i v ov iv u Q I ro ri rv h;obtain⟨p,xs,k,j,rfl,rfl,hp,hj,q⟩:=h;cases ro;obtain⟨t,rfl⟩:=ri;obtain⟨its,n,r,ho,hz⟩:=I.lst hp;obtain⟨h1,h2,h3,h4⟩:=By hj;have hl:=r.length;have hn:=kS;have I':Inv X pins σ (aV H p (.lst (xs.set j v))) { s with heap:=s.heap.update p (NC (·.setIfInBounds j u)) }:=
  I.lstUpd hp ho (AF its n j u) (r.set rv j) (by rw[List.length_set];exact hz) s.toks
 by_cases h0:0<=k
 ·have hk:k.toNat=j:=by
   rw[QI h0 h4]at h1;exact Option.some.inj h1
  exact PySem.W.ki_setAt ho h0 (by walk_at "o") (by rw[Mt,<- hl];exact h4) (by rw[hk];exact⟨_,I',q⟩)
 ·have hk:(k+(its.toArray.size:Int)).toNat=j:=by
   rw[seqIndex_neg (by walk_at "o") h3]at h1
   rw[Mt,<- hl];exact Option.some.inj h1
  exact PySem.W.ki_setBack ho (by walk_at "o") (by rw[Mt,<- hl];exact h3) (by walk_at "o") (by rw[hk];exact⟨_,I',q⟩)
theorem wy(lo hi:Option Int)(n:Nat):(NH lo hi none n).1=((HT.sIx n 0 lo:Nat):Int)/\(NH lo hi none n).2.1=((HT.sIx n n hi:Nat):Int)/\(NH lo hi none n).2.2=1:=by
 refine⟨?_,?_,rfl⟩
 ·cases lo with
  | none=>simp[NH,HT.sIx]
  | some i=>
   simp only[NH,HT.sIx,Option.getD_none,show (1:Int) > 0 by decide,if_true]
   by_cases h:i < 0
   ·simp only[h,if_true]<;>omega
   ·simp only[h,if_false]<;>omega
 ·cases hi with
  | none=>simp[NH,HT.sIx]
  | some i=>
   simp only[NH,HT.sIx,Option.getD_none,show (1:Int) > 0 by decide,if_true]
   by_cases h:i < 0
   ·simp only[h,if_true]<;>omega
   ·simp only[h,if_false]<;>omega
theorem uy(its:List Mf)(lo hi:Option Int):slicePick its.toArray lo hi none=((its.drop (HT.sIx its.length 0 lo)).take (HT.sIx its.length its.length hi - HT.sIx its.length 0 lo)).toArray:=by
 obtain⟨h1,h2,h3⟩:=wy lo hi its.toArray.size;unfold slicePick;rw[h1,h2,h3];simp only[sliceRange_one,pick_run,Mt]<;>rfl
def Le(K:Ow):V->Option Int->Option Int->Hp->VK->Prop:=fun x lo hi H Q=>∃ a xs,x=.ref a/\j_ K H a xs/\∀ p,H p=none->Q (.ref p) (aV H p (.lst (zC xs lo hi)))
theorem Fj:CM X (Le X.K):=by
 intro pins s σ H x v vl vu lo hi sl Q I rx hs pl pu h;obtain⟨a,xs,rfl,hx,q⟩:=h;cases rx;obtain⟨its,r,ht,hz⟩:=I.list hx;have hlen:=r.length;refine⟨"list",_,slot_list_getitem.lookup,ht.isList.typeIs,?_⟩;refine wpAny_getItem_list_slice ht.isList hs pl pu .none (by simp) ?_ (by rw[Mt]<;>omega)
 rw[uy,<- hlen];refine⟨.ref s.heap.objs.size,_,I.laid (t':=s.toks) (o:=.lst (zC xs lo hi)) (fun b ob q=>Mm _ q) (le_refl _) ?_,rfl,q _ (I.hok.fresh (le_refl _))⟩;exact⟨le_trans (rf xs lo hi) hz,_,0,(r.drop (HT.sIx xs.length 0 lo)).take (HT.sIx xs.length xs.length hi - HT.sIx xs.length 0 lo),Mn _ rfl⟩
def flatV:V->Bool
 | .non=>true
 | .bl _=>true
 | .int _=>true
 | .str _=>true
 | _=>false
theorem xz:dU X (.builtin "len") (fun xs H Q=>∃ p ys,xs=[.ref p]/\(j_ X.K H p ys\/jS X.K H p ys)/\Q (.int ys.length) H):=by
 intro pins s σ H xs us Q I r h;obtain⟨p,ys,rfl,hq,q⟩:=h;obtain⟨u,rfl,rx⟩:=xN r;cases rx;have hn:=kS;rcases hq with hq|hq
 ·obtain⟨its,r',pl,hz⟩:=I.list hq;have hlen:=r'.length;exact Calls.call_len_list pl.isList (by simp only[Mt]<;>omega) ⟨.int ys.length,H,I.tok _,⟨s.toks+1,by rw[Mt,hlen]⟩,q⟩
 ·obtain⟨its,r',pl,hz⟩:=I.tuple hq;have hlen:=r'.length;exact len_tuple pl (by simp only[Mt]<;>omega) ⟨.int ys.length,H,I.tok _,⟨s.toks+1,by rw[Mt,hlen]⟩,q⟩
theorem xy:dU X (.builtin "len") (fun xs H Q=>∃ z,xs=[.str z]/\z.length<=Mq/\Q (.int z.length) H):=by
 intro pins s σ H xs us Q I r h;obtain⟨z,rfl,hz,q⟩:=h;obtain⟨u,rfl,t,rfl⟩:=xN r;have hn:=kS;exact len_str (by walk_at "o") ⟨.int z.length,H,I.tok _,⟨_,rfl⟩,q⟩
theorem dU.or{f:Mf}{r r':List V->Hp->VK->Prop}(h:dU X f r)(h':dU X f r'):dU X f (fun xs H Q=>r xs H Q\/r' xs H Q):=by
 intro pins s σ H xs us Q I rs q;rcases q with q|q
 ·exact h pins s σ H xs us Q I rs q
 ·exact h' pins s σ H xs us Q I rs q
theorem xx:dU X (.type "list") (fun xs H Q=>∃ p ys,xs=[.ref p]/\(j_ X.K H p ys\/jS X.K H p ys)/\∀ l,H l=none->Q (.ref l) (aV H l (.lst ys))):=by
 intro pins s σ H xs us Q I r h;obtain⟨p,ys,rfl,hq,q⟩:=h;obtain⟨u,rfl,rx⟩:=xN r;cases rx;have fin:∀ (its:List Mf),Vals ys its->ys.length<=Mq->∀ (h':MD) (c':Nat),(∀ b o',s.heap.get? b=some o'->h'.get? b=some o')->
   h'.get? s.heap.objs.size=some { cls:=.type "list",dict:=none,data:=.seq its.toArray c',slots:=#[] }->EP X pins σ Q (.ref s.heap.objs.size) { s with heap:=h' }:=fun its r' hz h' c' kp e=>
  ⟨.ref s.heap.objs.size,_,I.laid (t':=s.toks) kp (le_refl _) (show bD X.prog X.w _ h' _ (.lst ys)from ⟨hz,its,c',r',e⟩),rfl,q _ (I.hok.fresh (le_refl _))⟩
 rcases hq with hq|hq
 ·obtain⟨its,r',pl,hz⟩:=I.list hq;have hlen:=r'.length;obtain⟨o,ho,hc,n,hd⟩:=pl.isList;exact call_list_seq p (.inl rfl) ho hc hd (fun h' c' kp e=>fin its r' hz h' c' kp e) (by simp only[Mt]<;>omega)
 ·obtain⟨its,r',pl,hz⟩:=I.tuple hq;have hlen:=r'.length;obtain⟨o,ho,hc,n,hd⟩:=pl;exact call_list_seq p (.inr rfl) ho hc hd (fun h' c' kp e=>fin its r' hz h' c' kp e) (by simp only[Mt]<;>omega)
theorem vk:dU X (.type "tuple") (fun xs H Q=>∃ p ys,xs=[.ref p]/\((j_ X.K H p ys/\∀ l,H l=none->Q (.ref l) (aV H l (.tup ys)))\/(jS X.K H p ys/\Q (.ref p) H))):=by
 intro pins s σ H xs us Q I r h;obtain⟨p,ys,rfl,h⟩:=h;obtain⟨u,rfl,rx⟩:=xN r;cases rx;rcases h with ⟨hq,q⟩|⟨hq,q⟩
 ·obtain⟨its,r',pl,hz⟩:=I.list hq;have hlen:=r'.length;refine call_tuple_list pl.isList (fun h' kp=>?_) (by simp only[Mt]<;>omega)
  have I1:Inv X pins σ H { s with heap:=h' }:=I.kept (t':=s.toks) kp
  have I2:Inv X pins σ (aV H h'.objs.size (.tup ys)) { s with heap:=h'.push { cls:=.type "tuple",data:=.seq its.toArray } }:=
   I1.laid (t':=s.toks) (fun b o e=>Mm _ e) (le_refl _) (show bD X.prog X.w _ _ _ (.tup ys)from ⟨hz,its,r',vn.new _ _⟩)
  exact⟨.ref h'.objs.size,_,I2,rfl,q _ (I1.hok.fresh (le_refl _))⟩
 ·obtain⟨its,r',pl,hz⟩:=I.tuple hq;exact call_tuple_same pl ⟨.ref p,H,I,rfl,q⟩
def LM(K:Ow)(T:String)(x:V)(H:Hp):Prop:=match x with
 | .str _=>T="str"
 | .int _=>T="int"
 | .ref p=>(T="list"/\∃ xs,j_ K H p xs)\/(T="tuple"/\∃ o,K.lookup p=some o/\o.cls=.type "tuple"/\o.dict=none)\/
   (T="dict"/\((∃ kvs,H p=some (.dK kvs))\/∃ kvs,H p=some (.dT kvs)))\/(T="set"/\∃ S n,H p=some (.set S n))
 | _=>False
theorem Hk{pins:List (Mg×Obj)}{σ:St}{H:Hp}{s:Mi}{T:String}{x:V}{v:Mf}(I:Inv X pins σ H s)(r:aB x v)(ty:LM X.K T x H):
  s.TypeIs v T/\∀ a,v=.ref a->∃ ob,s.heap.get? a=some ob/\ob.dict=none:=by
 cases x with
 | str z=>
  obtain⟨t,rfl⟩:=r;cases (show T="str" from ty)
  exact⟨QV s z t,fun _ e=>nomatch e⟩
 | int i=>
  obtain⟨t,rfl⟩:=r;cases (show T="int" from ty)
  exact⟨typeIs_int s i t,fun _ e=>nomatch e⟩
 | ref p=>
  cases r;rcases ty with ⟨rfl,xs,hq⟩|⟨rfl,o,hk,hc,hd⟩|⟨rfl,hk⟩|⟨rfl,S,n,hk⟩
  ·obtain⟨its,_,pl,_⟩:=I.list hq;refine⟨pl.isList.typeIs,fun a e=>?_⟩;cases e;obtain⟨o,n,e,c,hd,_⟩:=pl;exact⟨o,e,hd⟩
  ·refine⟨⟨o,I.kIn p o hk,hc⟩,fun a e=>?_⟩;cases e;exact⟨o,I.kIn _ o hk,hd⟩
  ·have z:∃ o,s.heap.get? p=some o/\o.ExactDict:=by
    rcases hk with ⟨kvs,hk⟩|⟨kvs,hk⟩
    ·obtain⟨_,_,_,_,o,_,_,e,ex,_⟩:=I.hok p _ hk;exact⟨o,e,ex⟩
    ·obtain⟨_,_,_,_,o,_,_,e,ex,_⟩:=I.hok p _ hk;exact⟨o,e,ex⟩
   obtain⟨o,e,ex⟩:=z;refine⟨⟨o,e,ex.1⟩,fun a e2=>?_⟩;cases e2;exact⟨o,e,ex.2.1⟩
  ·obtain⟨o,_,_,_,e,ex,_⟩:=I.hok p _ hk;refine⟨⟨o,e,ex.1⟩,fun a e2=>?_⟩;cases e2;exact⟨o,e,ex.2.1⟩
 | _=>exact False.elim ty
def LV(K:Ow)(T:String)(r:V->List V->Hp->VK->Prop)(to:TE)(t:TA):TE:=fun σ H Q=>to σ H fun x H1=>LM K T x H1/\t σ H1 fun xs H2=>r x xs H2 Q
variable{o e:MJ}{es:List MJ}{to:TE}{t:TA}{name:Str}{apos cpos:Pos}{T id:String}{r:V->List V->Hp->VK->Prop}
theorem JJ(pa:PlainAttrs T)(slot:Slot T name id)(hty:typeOf (.builtin id)=pure (.type "method_descriptor"))(hm:KC X id r)(ho:PE X o to)(ha:PA X (e::es) t)
  (Rq:NS o name X.env (eval o X.env)=eval o X.env:=by rfl)
  (RU:((Nn cpos (Mr (e::es) X.env)).all (fun x=>!x.1) && (OH cpos (NZ [] X.env)).all (fun x=>x.1.isSome)
   && decide ((e::es).length+([]:List P4).length+(if ([]:List P4).isEmpty then 0 else 1) < 30))=true:=by rfl)
  (Rn:(apos.endLine == cpos.line)=true:=by rfl) (hs:Mr (e::es) X.env=(false,eval e X.env)::Mr es X.env:=by rfl) (Rs:(Nn cpos (Mr es X.env)).any (·.1)=false:=by rfl):
  PE X (.Call (.Attribute o name apos) (e::es) [] cpos) (LV X.K T r to t):=by
 intro pins s σ H Q I h;refine wpAny_Call_method_late Rq RU Rn rfl (cb (ho pins s σ H _ I h) fun v s1 zz=>?_);obtain⟨x,H1,I1,r1,ty,q1⟩:=zz;obtain⟨h1,h2⟩:=Hk I1 r1 ty;refine⟨T,id,pa,slot,hty,h1,h2,?_⟩;have hA:=ha cpos pins s1 σ H1 _ I1 q1;rw[hs]at hA ⊢;refine O0 (by show (false || (Nn cpos (Mr es X.env)).any (·.1))=false;rw[Rs]<;>rfl) (QN ?_)
 exact cb hA fun us s2 ⟨vs,H2,I2,r2,q2⟩=>hm pins s2 σ H2 x vs v us Q I2 r1 r2 q2
end
def L9(X:Cx)(id:String)(r:V->List V->Hp->VK->Prop):Prop:=
 ∀ (pins:List (Mg×Obj)) (s:Mi) (σ:St) (H:Hp) (x:V) (xs:List V) (v:Mf) (us:List Mf) (Q:VK),Inv X pins σ H s->aB x v->Vals xs us->r x xs H Q->
  Mo (Ms X.prog X.w) X.A (call (.builtin id) (v::us)) (EP X pins σ Q) X.xe s
theorem Vals.one:∀ {x:V} {us:List Mf},Vals [x] us->∃ u,us=[u]/\aB x u
 | _,_,.cons r .nil=>⟨_,rfl,r⟩
theorem Vals.two:∀ {x y:V} {us:List Mf},Vals [x,y] us->∃ u v,us=[u,v]/\aB x u/\aB y v
 | _,_,_,.cons r (.cons q .nil)=>⟨_,_,rfl,r,q⟩
section
variable{X:Cx}{pins:List (Mg×Obj)}{σ:St}{H:Hp}{s:Mi}{l b:Mg}{xs ys zs:List V}
theorem Inv.lset{its its':List Mf}{n:Nat}{f:Array Mf->Array Mf}{t':Nat}(I:Inv X pins σ H s)(hH:H l=some (.lst xs))
  (e:s.heap.get? l=some { cls:=.type "list",data:=.seq its.toArray n }) (hf:f its.toArray=its'.toArray) (hv:Vals ys its') (hz:ys.length<=Mq):
  Inv X pins σ (aV H l (.lst ys)) { s with heap:=s.heap.update l (NC f),toks:=t' }:=by
 have q:=PySem.IsL.update e f;rw[hf]at q;refine I.write (x:=l) (e:=l) (by rw[hH];exact trivial) (.inl rfl) (fun b' u hb hu=>(On s.heap (NC f) (Ne.symm hb)).trans hu) ⟨_,q⟩ ?_
 exact⟨hz,its',_,hv,q⟩
theorem Inv.lnew{its:List Mf}{t':Nat}(I:Inv X pins σ H s)(hv:Vals ys its)(hz:ys.length<=Mq):
  Inv X pins σ (aV H s.heap.objs.size (.lst ys)) { s with heap:=s.heap.push { cls:=.type "list",data:=.seq its.toArray },toks:=t' }:=
 I.laid (fun _ _ q=>Mm _ q) (le_refl _) ⟨hz,its,0,hv,Mn _ rfl⟩
theorem Inv.fresh(I:Inv X pins σ H s):H s.heap.objs.size=none:=I.hok.fresh (le_refl _)
theorem Inv.lstM(I:Inv X pins σ H s)(hH:H l=some (.lst xs)):xs.length<=Mq/\∃ (its:List Mf) (n:Nat),Vals xs its/\xs.length=its.length/\s.heap.get? l=some { cls:=.type "list",data:=.seq its.toArray n }:=by
 obtain⟨z,its,n,r,e⟩:=I.hok l _ hH;exact⟨z,its,n,r,r.length,e⟩
end
section
variable{X:Cx}
def rAppend:V->List V->Hp->VK->Prop:=fun x vs H Q=>∃ l xs y,x=.ref l/\vs=[y]/\H l=some (.lst xs)/\xs.length < Mq/\Q .non (aV H l (.lst (xs ++ [y])))
theorem vV:L9 X "list.append" rAppend:=by
 intro pins s σ H x vs v us Q I rx rv h;obtain⟨l,xs,y,rfl,rfl,hH,hz,q⟩:=h;cases rx;obtain⟨u,rfl,ru⟩:=rv.one;obtain⟨z,its,n,r,hl,e⟩:=I.lstM hH;refine Q0 F.slot_list_append ⟨_,e,rfl⟩ F.entry_list_append (F.args_list_append_2 _ _) (PySem.list_append l its.toArray n u (by rw[Mt];omega)) ⟨e,?_⟩
 refine⟨.non,_,I.lset (its':=its ++ [u]) hH e (by simp) (r.append (.cons ru .nil)) ?_,rfl,q⟩
 rw[Na,List.length_singleton];omega
end
end L2
namespace Att
open PySem PySem.W PySem.Calls PyProof.Rows
theorem rR{P:Params}{h:MD}:∀ (ns:List Int) (vs:List Mf),WellAll P h vs (ns.map WData.int)->Rb vs ns:=by
 intro ns
 induction ns with
 | nil=>
  intro vs w;rw[Pi]at w;cases w;exact .nil
 | cons n ns ih=>
  intro vs w;rw[MF]at w;cases w with
  | cons a b=>
   cases a;exact .cons _ _ (ih _ b)
theorem B0{l:Q_}{n:Nat}(hn:l.most=some n){P:Params}{h:MD}{args:List WData}{vals:List Mf}
  (RH:l.row.toRowW.claim.pre args=true) (hwl:WellAll P h vals args):
  ∃ a vs ns,vals=[Value.ref a]/\args=[WData.list (ns.map WData.int)]/\h.get? a=some { cls:=.type "list",data:=.seq vs.toArray }/\Rb vs ns/\ns.length<=n:=by
 have hsh:WShape.hasAll [] args [.list .int]=true:=(pre_splitW RH).1;have hc:l.pre.holds [] { args:=args }=true:=(pre_splitW RH).2;obtain⟨d,r,rfl,h1,h2⟩:=hasAllW_cons hsh;obtain rfl:=hasAllW_nil h2;obtain⟨xs,rfl,h3⟩:=hasW_list h1;obtain⟨ns,rfl⟩:=items_int h3;have hlen:ns.length<=n:=by
  unfold OpenLaw.pre at hc;have h4:(WTm.not (.lt (.lit (.int (n:Int))) (.len (.arg 0)))).holds [] { args:=[.list (ns.map .int)] }=true:=by
   have h4:=(holds_andW hc).1;rw[hn]at h4;exact h4
  have h5:=condW_of h4 (w_not (w_lt w_lit (w_len_list (w_arg rfl))));rw[Ml]at h5;refine Nat.le_of_not_lt fun q=>?_;have q':(n:Int) < ((ns.length:Nat):Int):=by walk_at "o"
  first
   | (rw[decide_eq_true q']at h5;exact absurd h5 (by decide))
   | (simp at h5;omega)
 cases hwl with
 | cons w1 w2=>
  cases w2;cases w1 with
  | list ho hall=>exact⟨_,_,ns,rfl,rfl,ho,rR ns _ hall,hlen⟩
theorem B6(l:Q_)(args:List WData):l.row.toRowW.claim.post args (.bool true) args=true:=
 postW_of (r:=l.row.toRowW) (X:=(true == true))
  (show WShape.has [] (.bool true) .bool=true by first|rfl|decide|simp[WShape.has,WShape.arms,WShape.armsAll])
  (show (WTm.eq .res (.lit (.bool true))).value [] { args:=args,res:=some (.bool true),after:=args }=some (.bool (true == true))from w_eq_bool (w_res rfl) w_lit) rfl
theorem attach_call{l:Q_}{n:Nat}{q:Mw}{loose:List Str}{XP:(Str->Option Mf)->MD->Prop}{YP:MG->MD->Prop}{d:DefRec}
  (hn:l.most=some n) (hdf:d.params.defaults=[])
  (call:∀ (w:MG) (s₀ s₁:Mi) (mg mb:Str->Option Mf) (fa:Mg) (o:Obj) (pm cd doc:Mf) (a:Mg) (vs:List Mf) (ns:List Int),
   Ground q loose [] XP w s₀ mg mb s₁.heap->YP w s₁.heap->
   s₁.heap.get? fa=some o->o.data=.func (docDef d.name d.params d.body d.scope pm cd doc)->s₁.heap.CodeRec cd d.name->mg d.name=some (.ref fa)->
   s₁.heap.get? a=some { cls:=.type "list",data:=.seq vs.toArray }->Rb vs ns->ns.length<=n->s₁.gens=#[]->
   OP (Ms l.prog w) Qx (.call (.ref fa) ⟨[.ref a],[]⟩) (fun r s'=>r=.ok (.ret (.bool true))/\OldK s₁.heap s'.heap/\s'.os=s₁.os/\O1 s'.gens) s₁):
  WalkO q loose XP YP l.row.toRowW d [] (fun f vs=>PySem.call f vs):=by
 intro w s₀ s₁ mg mb G Y fa o pm cd doc dV kV ho hd hcd hD hmg hg args vals as RH hlay hrd hwl hlo;obtain rfl:dV=.none:=Dflts.none hD hdf;obtain rfl:kV=.none:=Dflts.noKw hD;obtain⟨a,vs,ns,rfl,rfl,Rt,hints,hlen⟩:=B0 hn RH hwl;refine enter_call (OD (call w s₀ s₁ mg mb fa o pm cd doc a vs ns G Y ho (fd_plain hd) hcd hmg Rt hints hlen hg) fun r s' hq=>?_);obtain⟨rfl,h2,h3,h4⟩:=hq;exact⟨.inl ⟨.bool true,.bool true,[],rfl,fun _=>rfl,.bool true,B6 l _,fun _=>⟨List.Pairwise.nil,fun _ hm=>(nomatch hm)⟩⟩,h2,h3,h4⟩
end Att
namespace L2
open PySem PySem.Spec PyProof.Rows
theorem vC:∀ {vs:List Mf} {ns:List Int},Rb vs ns->Vals (ns.map V.int) vs
 | _,_,.nil=>.nil
 | _,_,.cons n t h=>.cons ⟨t,rfl⟩ (vC h)
abbrev Mc{K:Ow}{h:MD}(_:K.In h):Ow:=K
def aN(s:ML)(j:Nat):ML:=match s with
 | .ClassDef _ _ _ body _ _ _ _ _ _ _=>body.getD j (.Pass ⟨0,0,0,0⟩)
 | _=>.Pass ⟨0,0,0,0⟩
def cM(s:ML):PM:=match s with
 | .FunctionDef _ a _ _ _ _ _ _ _ _=>a
 | _=>{ posonlyargs:=[],args:=[],vararg:=none,kwonlyargs:=[],kw_defaults:=[],kwarg:=none,defaults:=[] }
def b8(s:ML):List ML:=match s with
 | .FunctionDef _ _ b _ _ _ _ _ _ _=>b
 | _=>[]
def ag(s:ML):NV:=match s with
 | .FunctionDef _ _ _ _ _ _ sc _ _ _=>sc
 | _=>{ kind:=.function,names:=[],isGenerator:=false,isCoroutine:=false }
abbrev pj:E2:=fun _ _ _ _ _ _=>False
abbrev E0:XK:=fun _ _ _=>False
theorem s_{X:Cx}:ng pj X E0:=fun _ _ _ _ _ _ _ h=>h.elim
theorem iteF{A B:Prop}(h:B):if false=true then A else B:=by
 rw[if_neg Bool.false_ne_true];exact h
theorem iteT{A B:Prop}(h:A):if true=true then A else B:=by
 rw[if_pos rfl];exact h
def vo(H H':Hp):Prop:=∀ b o,H b=some o->H' b=some o
theorem vo.refl(H:Hp):vo H H:=fun _ _ h=>h
theorem vo.trans{H H1 H2:Hp}(a:vo H H1)(b:vo H1 H2):vo H H2:=fun c o h=>b c o (a c o h)
theorem vo.free{H H':Hp}(e:vo H H'){l:Mg}(h:H' l=Option.none):H l=Option.none:=by
 cases q:H l with
 | none=>rfl
 | some o=>
  rw[e l o q]at h;cases h
theorem vo.seq{K:Ow}{H H':Hp}{a:Mg}{xs:List V}(e:vo H H')(h:j_ K H a xs):j_ K H' a xs:=by
 rcases h with (h|⟨o,h⟩)|h
 ·exact .inl (.inl (e _ _ h))
 ·exact .inl (.inr ⟨o,e _ _ h⟩)
 ·exact .inr h
section
variable{κ:Type}[DecidableEq κ]
def lK(kvs:List (κ×V))(k:κ):Option V:=(kvs.find? fun kv=>decide (kv.1=k)).map (·.2)
def mU(kvs:List (κ×V))(k:κ)(v:V):List (κ×V):=
 if (kvs.any fun kv=>decide (kv.1=k))=true then kvs.map (fun kv=>if kv.1=k then (kv.1,v)else kv)else kvs ++ [(k,v)]
def GZ(kvs:List (κ×V))(k:κ):List (κ×V):=kvs.filter fun kv=>decide (kv.1≠k)
theorem nr{p:κ×V}{r:List (κ×V)}{k:κ}(e:p.1=k):lK (p::r) k=some p.2:=by simp[lK,MR,e]
theorem nu{p:κ×V}{r:List (κ×V)}{k:κ}(e:¬ p.1=k):lK (p::r) k=lK r k:=by simp[lK,MR,e]
theorem se(k:κ):∀ kvs:List (κ×V),(kvs.any fun kv=>decide (kv.1=k))=(lK kvs k).isSome
 | []=>rfl
 | p::r=>by
  rw[OT]
  by_cases e:p.1=k
  ·simp only[nr e,decide_eq_true e,Bool.true_or,Option.isSome_some]
  ·rw[nu e,decide_eq_false e,Bool.false_or];exact se k r
theorem qU(kvs:List (κ×V))(k:κ)(v:V):(mU kvs k v).length<=kvs.length+1:=by
 unfold mU;split
 ·rw[Ml];omega
 ·rw[Na,MC,MZ];omega
theorem j8.isSome_eq{o:Option V}{u:Option Mf}(r:j8 o u):o.isSome=u.isSome:=by
 cases o with
 | none=>cases u with
  | none=>rfl
  | some _=>exact (show False from r).elim
 | some _=>cases u with
  | none=>exact (show False from r).elim
  | some _=>rfl
theorem j8.getD{o:Option V}{u:Option Mf}{d:V}{d':Mf}(r:j8 o u)(rd:aB d d'):aB (o.getD d) (u.getD d'):=by
 cases o with
 | none=>cases u with
  | none=>exact rd
  | some _=>exact (show False from r).elim
 | some _=>cases u with
  | none=>exact (show False from r).elim
  | some _=>exact r
theorem KV.val{kvs:List (κ×V)}{vs:List (κ×Mf)}(r:KV kvs vs)(k:κ):j8 (lK kvs k) (Py vs k):=by
 unfold KV at r
 induction r with
 | nil=>exact True.intro
 | @cons p q ps qs h t ih=>
  obtain⟨h1,h2⟩:=h
  by_cases e:p.1=k
  ·have e':q.1=k:=h1.symm.trans e;have b:Py (q::qs) k=some q.2:=by simp[Py,MR,e']
   rw[nr e,b];exact h2
  ·have e':¬ q.1=k:=fun z=>e (h1.trans z);have b:Py (q::qs) k=Py qs k:=by simp[Py,MR,e']
   rw[nu e,b];exact ih
theorem KV.any{kvs:List (κ×V)}{vs:List (κ×Mf)}(r:KV kvs vs)(k:κ):(kvs.any fun kv=>decide (kv.1=k))=vs.any fun kv=>decide (kv.1=k):=by
 unfold KV at r
 induction r with
 | nil=>rfl
 | cons h t ih=>rw[OT,OT,ih,h.1]
theorem KV.repl{kvs:List (κ×V)}{vs:List (κ×Mf)}(r:KV kvs vs)(k:κ){y:V}{u:Mf}(ry:aB y u):
  KV (kvs.map fun kv=>if kv.1=k then (kv.1,y)else kv) (vs.map fun kv=>if kv.1=k then (kv.1,u)else kv):=by
 unfold KV at r ⊢
 induction r with
 | nil=>exact .nil
 | @cons p q ps qs h t ih=>
  rw[MF,MF];refine .cons ?_ ih;obtain⟨h1,h2⟩:=h
  by_cases e:p.1=k
  ·rw[if_pos e,if_pos (h1.symm.trans e)];exact⟨h1,ry⟩
  ·rw[if_neg e,if_neg (fun z=>e (h1.trans z))];exact⟨h1,h2⟩
theorem KV.put{kvs:List (κ×V)}{vs:List (κ×Mf)}(r:KV kvs vs)(k:κ){y:V}{u:Mf}(ry:aB y u):KV (mU kvs k y) (stored vs k u):=by
 unfold mU stored;rw[r.any k]
 by_cases e:(vs.any fun kv=>decide (kv.1=k))=true
 ·rw[if_pos e,if_pos e];exact r.repl k ry
 ·rw[if_neg e,if_neg e];exact PV r ⟨rfl,ry⟩
theorem KV.drop{kvs:List (κ×V)}{vs:List (κ×Mf)}(r:KV kvs vs)(k:κ):KV (GZ kvs k) (without vs k):=by
 unfold KV at r ⊢;unfold GZ without
 induction r with
 | nil=>exact .nil
 | @cons p q ps qs h t ih=>
  obtain⟨h1,h2⟩:=h;rw[List.filter_cons,List.filter_cons]
  by_cases e:p.1=k
  ·have a:¬ decide (p.1≠k)=true:=by simp[e]
   have b:¬ decide (q.1≠k)=true:=by simp[h1.symm.trans e]
   rw[if_neg a,if_neg b];exact ih
  ·have e':¬ q.1=k:=fun z=>e (h1.trans z);have a:decide (p.1≠k)=true:=by simp[e]
   have b:decide (q.1≠k)=true:=by simp[e']
   rw[if_pos a,if_pos b];exact .cons ⟨h1,h2⟩ ih
theorem KV.keys{kvs:List (κ×V)}{vs:List (κ×Mf)}(r:KV kvs vs):kvs.map (·.1)=vs.map (·.1):=by
 unfold KV at r
 induction r with
 | nil=>rfl
 | cons h t ih=>rw[MF,MF,ih,h.1]
theorem KV.length{kvs:List (κ×V)}{vs:List (κ×Mf)}(r:KV kvs vs):kvs.length=vs.length:=N_ r
end
theorem vZ{P:Mw}{w:MG}{k:aA}{u:Mf}(r:aB (kV k) u):(aZ P w).is k u=true:=by
 cases k with
 | inl i=>obtain⟨t,e⟩:=(show ∃ t,u=Value.int i t from r);subst e;exact yS P w i t
 | inr x=>obtain⟨t,e⟩:=(show ∃ t,u=Value.str x t from r);subst e;exact yR P w x t
theorem qf{P:Mw}{w:MG}:∀ {ks:List aA} {us:List Mf},Vals (ks.map kV) us->ItemsAre (aZ P w) ks us
 | [],_,r=>by rw[Pi]at r;cases r;exact .nil
 | k::ks,_,r=>by
  rw[MF]at r;cases r with
  | cons h t=>exact .cons (vZ h) (qf t)
abbrev KT(H:Hp):List (List aA×V)->List (List aA×Mg×Mf)->Prop:=Oz fun p q=>p.1=q.1/\H q.2.1=some (.tup (p.1.map kV))/\aB p.2 q.2.2
theorem KT.val{H:Hp}{kvs:List (List aA×V)}{xs:List (List aA×Mg×Mf)}(r:KT H kvs xs)(k:List aA):j8 (lK kvs k) ((Ov xs k).map (·.2)):=by
 induction r with
 | nil=>exact True.intro
 | @cons p q ps qs h t ih=>
  obtain⟨h1,_,h2⟩:=h
  by_cases e:p.1=k
  ·have e':q.1=k:=h1.symm.trans e;have b:Ov (q::qs) k=some q.2:=by simp[Ov,MR,e']
   rw[nr e,b];exact h2
  ·have e':¬ q.1=k:=fun z=>e (h1.trans z);have b:Ov (q::qs) k=Ov qs k:=by simp[Ov,MR,e']
   rw[nu e,b];exact ih
theorem KT.repl{H:Hp}{kvs:List (List aA×V)}{xs:List (List aA×Mg×Mf)}(r:KT H kvs xs)(k:List aA){y:V}{u:Mf}(ry:aB y u):
  KT H (kvs.map fun kv=>if kv.1=k then (kv.1,y)else kv) (xs.map (putAt k u)):=by
 induction r with
 | nil=>exact .nil
 | @cons p q ps qs h t ih=>
  rw[MF,MF];refine .cons ?_ ih;obtain⟨h1,h2,h3⟩:=h;unfold putAt
  by_cases e:p.1=k
  ·rw[if_pos e,if_pos (h1.symm.trans e)];exact⟨h1,h2,ry⟩
  ·rw[if_neg e,if_neg (fun z=>e (h1.trans z))];exact⟨h1,h2,h3⟩
theorem KT.put{H:Hp}{kvs:List (List aA×V)}{xs:List (List aA×Mg×Mf)}(r:KT H kvs xs)(k:List aA){b:Mg}{y:V}{u:Mf}(hb:H b=some (.tup (k.map kV)))(ry:aB y u):
  KT H (mU kvs k y) (Ph xs k b u):=by
 have e:(kvs.any fun kv=>decide (kv.1=k))=(Ov xs k).isSome:=by
  rw[se,(r.val k).isSome_eq,Option.isSome_map]
 unfold mU Ph;rw[e]
 by_cases q:(Ov xs k).isSome=true
 ·rw[if_pos q,if_pos q];exact r.repl k ry
 ·rw[if_neg q,if_neg q];exact PV r ⟨rfl,hb,ry⟩
theorem KT.keeps{H H':Hp}{kvs:List (List aA×V)}{xs:List (List aA×Mg×Mf)}(r:KT H kvs xs)(ht:∀ b ys,H b=some (.tup ys)->H' b=some (.tup ys)):KT H' kvs xs:=
 Paired.mapP r fun _ _ z=>⟨z.1,ht _ _ z.2.1,z.2.2⟩
section
variable{P:Mw}{w:MG}{H:Hp}{h:MD}{a:Mg}
theorem GL{u:HO}(ok:iF P w H h)(e:Rd H a u):bD P w H h a u:=e.ok ok
theorem v7{kvs:List (aA×V)}(ok:iF P w H h)(e:Rd H a (.dK kvs)):kvs.length<=Mq/\(a == M5)=false/\∃ vs,KV kvs vs/\h.DictOf (aZ P w) a vs:=
 show bD P w H h a (.dK kvs)from GL ok e
theorem Ka{kvs:List (aA×V)}(ok:iF P w H h)(e:H a=some (.dK kvs)):kvs.length<=Mq/\(a == M5)=false/\∃ vs,KV kvs vs/\h.DictOf (aZ P w) a vs:=v7 ok (.inl e)
theorem qd{ks:List aA}(ok:iF P w H h)(e:H a=some (.tup (ks.map kV))):(Nk (aZ P w)).is h ks a:=by
 obtain⟨_,its,r,o,h1,h2,n,h3⟩:=(show bD P w H h a (.tup (ks.map kV))from ok a _ e)
 exact⟨o,its.toArray,n,h1,h2.1,h3,by simpa using qf r⟩
theorem v6{kvs:List (List aA×V)}(ok:iF P w H h)(e:Rd H a (.dT kvs)):kvs.length<=Mq/\(a == M5)=false/\
  ∃ xs,KT H kvs xs/\h.DictOfH (Nk (aZ P w)) a xs:=by
 obtain⟨z,y,xs,r,o,es,ep,h1,h2,h3,h4,h5⟩:=(show bD P w H h a (.dT kvs)from GL ok e)
 refine⟨z,y,xs,r,o,es,ep,h1,h2,h3,h4,fun x hx=>?_,h5⟩;have all:∀ {l:List (List aA×V)} {m:List (List aA×Mg×Mf)},KT H l m->∀ x∈m,(Nk (aZ P w)).is h x.1 x.2.1:=by
  intro l m q
  induction q with
  | nil=>intro x hx;exact nomatch hx
  | @cons p q ps qs hq t ih=>
   intro x hx;rcases MP.mp hx with e|hx
   ·subst e;exact qd ok (by rw[<- hq.1];exact hq.2.1)
   ·exact ih x hx
 exact all r x hx
theorem J_{kvs:List (List aA×V)}(ok:iF P w H h)(e:H a=some (.dT kvs)):kvs.length<=Mq/\(a == M5)=false/\
  ∃ xs,KT H kvs xs/\h.DictOfH (Nk (aZ P w)) a xs:=v6 ok (.inl e)
end
def uw(H:Hp)(a:Mg)(y:V)(r:Option V):Prop:=
 (∃ kvs k,Rd H a (.dK kvs)/\y=kV k/\r=lK kvs k)\/∃ kvs k b,Rd H a (.dT kvs)/\y=.ref b/\H b=some (.tup (k.map kV))/\r=lK kvs k
def CT(H:Hp)(a:Mg)(y v:V)(H':Hp):Prop:=
 (∃ kvs k,H a=some (.dK kvs)/\y=kV k/\kvs.length < Mq/\H'=aV H a (.dK (mU kvs k v)))\/
 ∃ kvs k b,H a=some (.dT kvs)/\y=.ref b/\H b=some (.tup (k.map kV))/\kvs.length < Mq/\H'=aV H a (.dT (mU kvs k v))
theorem uw.k{H:Hp}{a:Mg}{kvs:List (aA×V)}{k:aA}(e:H a=some (.dK kvs)):uw H a (kV k) (lK kvs k):=.inl ⟨kvs,k,.inl e,rfl,rfl⟩
theorem uw.t{H:Hp}{a b:Mg}{kvs:List (List aA×V)}{k:List aA}(e:H a=some (.dT kvs))(eb:H b=some (.tup (k.map kV))):uw H a (.ref b) (lK kvs k):=.inr ⟨kvs,k,b,.inl e,rfl,eb,rfl⟩
theorem CT.k{H:Hp}{a:Mg}{kvs:List (aA×V)}{k:aA}{v:V}(e:H a=some (.dK kvs))(hl:kvs.length < Mq):CT H a (kV k) v (aV H a (.dK (mU kvs k v))):=.inl ⟨kvs,k,e,rfl,hl,rfl⟩
theorem CT.t{H:Hp}{a b:Mg}{kvs:List (List aA×V)}{k:List aA}{v:V}(e:H a=some (.dT kvs))(eb:H b=some (.tup (k.map kV)))(hl:kvs.length < Mq):
  CT H a (.ref b) v (aV H a (.dT (mU kvs k v))):=.inr ⟨kvs,k,b,e,rfl,eb,hl,rfl⟩
section
variable{X:Cx}{pins:List (Mg×Obj)}{σ:St}{H:Hp}{s:Mi}{a:Mg}{y v:V}{u r:Mf}{o:Option V}{A:MB}{E:Mf->Mi->Prop}
theorem Inv.big(I:Inv X pins σ H s):M5 < s.heap.objs.size:=by
 have h:Mx < s.heap.objs.size:=(I.mod.glob.keeps I.bk).lt;exact Nat.lt_trans (by decide) h
theorem CF{Q:Mf->Mi->Prop}(hu:A.units+1 < MT)(I:Inv X pins σ H s)(g:uw H a y (some v))(ry:aB y u)(h:∀ w' s',Inv X pins σ H s'->aB v w'->Q w' s'):
  Mo (Ms X.prog X.w) A (OW (.ref a) u) Q E s:=by
 rcases g with ⟨kvs,k,e,ey,l⟩|⟨kvs,k,b,e,ey,eb,l⟩
 ·subst ey;obtain⟨z,hd,vs,rel,dd⟩:=v7 I.hok e;obtain⟨w',hw,rw'⟩:=j8.some_of (v:=v) (o:=Py vs k) (by rw[l];exact rel.val k)
  exact wpAny_getItem_of (vZ ry) dd.mapOf hw (h w' _ (I.tok _) rw')
 ·subst ey;cases (show u=Value.ref b from ry)
  obtain⟨z,hd,xs,rel,dd⟩:=v6 I.hok e;obtain⟨w',hw,rw'⟩:=j8.some_of (v:=v) (o:=(Ov xs k).map (·.2)) (by rw[l];exact rel.val k)
  obtain⟨p,hp,hp2⟩:=Option.map_eq_some_iff.mp hw;refine QS (M4 hu) (qd I.hok eb) dd hp ?_;rw[hp2];exact h w' _ (I.tok _) rw'
theorem Ly{Q:Mf->Mi->Prop}(hu:A.units+1 < MT)(I:Inv X pins σ H s)(g:uw H a y o)(ry:aB y u)(h:∀ s',Inv X pins σ H s'->Q (.bool o.isSome) s'):
  Mo (Ms X.prog X.w) A (MS .In u (.ref a)) Q E s:=by
 rcases g with ⟨kvs,k,e,ey,l⟩|⟨kvs,k,b,e,ey,eb,l⟩
 ·subst ey;obtain⟨z,hd,vs,rel,dd⟩:=v7 I.hok e;refine wpAny_in_of (vZ ry) hd dd.mapOf ?_;rw[<- (rel.val k).isSome_eq,<- l];exact h _ (I.tok _)
 ·subst ey;cases (show u=Value.ref b from ry)
  obtain⟨z,hd,xs,rel,dd⟩:=v6 I.hok e;refine wpAny_in_heap (M4 hu) (qd I.hok eb) hd dd ?_;have q:=(rel.val k).isSome_eq;rw[Option.isSome_map]at q;rw[<- q,<- l];exact h _ (I.tok _)
theorem Gq{Q:Mf->Mi->Prop}(hu:A.units+1 < MT)(I:Inv X pins σ H s)(g:uw H a y o)(ry:aB y u)(h:∀ s',Inv X pins σ H s'->Q (.bool (!o.isSome)) s'):
  Mo (Ms X.prog X.w) A (MS .NotIn u (.ref a)) Q E s:=by
 rcases g with ⟨kvs,k,e,ey,l⟩|⟨kvs,k,b,e,ey,eb,l⟩
 ·subst ey;obtain⟨z,hd,vs,rel,dd⟩:=v7 I.hok e;refine wpAny_notIn_of (vZ ry) hd dd.mapOf ?_;rw[<- (rel.val k).isSome_eq,<- l];exact h _ (I.tok _)
 ·subst ey;cases (show u=Value.ref b from ry)
  obtain⟨z,hd,xs,rel,dd⟩:=v6 I.hok e;refine wpAny_notIn_heap (M4 hu) (qd I.hok eb) hd dd ?_;have q:=(rel.val k).isSome_eq;rw[Option.isSome_map]at q;rw[<- q,<- l];exact h _ (I.tok _)
theorem r_{h':MD}{t':Nat}{ob:HO}(I:Inv X pins σ H s)(mu:ET (H a))(hs:NN a s.heap h')(he:∃ q,h'.get? a=some q)(new:bD X.prog X.w (aV H a ob) h' a ob):
  Inv X pins σ (aV H a ob) { s with heap:=h',toks:=t' }:=
 I.write (x:=a) (e:=a) mu (.inl rfl) (fun b q hb z=>(hs.2 b hb).trans z) he new
theorem II{P:Mw}{w:MG}{H':Hp}{h':MD}{kvs:List (aA×V)}{vs:List (aA×Mf)}(z:kvs.length<=Mq)(hd:(a == M5)=false)(rel:KV kvs vs)(dd:h'.DictOf (aZ P w) a vs):
  bD P w H' h' a (.dK kvs):=⟨z,hd,vs,rel,dd⟩
theorem CD{H':Hp}{Q:Unit->Mi->Prop}(hu:A.units+1 < MT)(I:Inv X pins σ H s)(g:CT H a y v H')(ry:aB y u)(rv:aB v r)(h:∀ s',Inv X pins σ H' s'->Q () s'):
  Mo (Ms X.prog X.w) A (Q9 (.ref a) u r) Q E s:=by
 rcases g with ⟨kvs,k,e,ey,l,eH⟩|⟨kvs,k,b,e,ey,eb,l,eH⟩
 ·subst ey eH;obtain⟨z,hd,vs,rel,dd⟩:=Ka I.hok e;have hz:vs.length<=Mq:=by rw[<- rel.length];exact z
  have hl:(mU kvs k v).length<=Mq:=by have:=qU kvs k v;omega
  refine wpAny_setItem_pairs (hsz:=hz) (vZ ry) dd fun h' dd' hs=>h _ ?_;have he:∃ q,h'.get? a=some q:=let ⟨q,_,_,hq,_⟩:=dd';⟨q,hq⟩;exact r_ I (by rw[e];exact True.intro) hs he (II hl hd (rel.put k rv) dd')
 ·subst ey eH;cases (show u=Value.ref b from ry)
  obtain⟨z,hd,xs,rel,dd⟩:=J_ I.hok e;have hz:xs.length<=Mq:=by rw[<- N_ rel];exact z
  have hl:(mU kvs k v).length<=Mq:=by have:=qU kvs k v;omega
  refine QR (hsz:=hz) (M4 hu) (qd I.hok eb) dd fun h' dd' hs=>h _ ?_;obtain⟨q,es,ep,hq,h2,h3,h4,_,h5⟩:=dd';refine r_ I (by rw[e];exact True.intro) hs ⟨q,hq⟩ ⟨hl,hd,_,(rel.put k eb rv).keeps fun c ys ec=>?_,q,es,ep,hq,h2,h3,h4,h5⟩
  rw[ar (JU ec e (fun z=>nomatch z))];exact ec
end
def KB(i:MJ):Prop:=∀ ov iv,PP i false ov iv=operate [ov,iv] (OW ov iv)
theorem Fc{prog:Mw}{w:MG}{A:MB}{E:Mf->Mi->Prop}{s:Mi}{env:Env}{value slice:MJ}{pos:Pos}{T id:String}{Q:Mf->Mi->Prop}
  (hl:Pr (.type T) "__getitem__"=pure (some (.builtin id))) (hs:KB slice)
  (h:Mo (Ms prog w) A (eval value env) (fun o s₁=>Mo (Ms prog w) A (eval slice env) (fun i s₂=>s₂.TypeIs o T/\Mo (Ms prog w) A (OW o i) Q E s₂) E s₁) E s):
  Mo (Ms prog w) A (eval (.Subscript value slice pos) env) Q E s:=by
 refine Q1 (M_ h (fun o s₁ h₁=>M_ h₁ (fun i s₂ h₂=>?_) fun _ _ x=>x) fun _ _ x=>x);obtain⟨hT,h₂⟩:=h₂;unfold Qf;refine Me ?_;rw[getitemInPython_of_ne hT.not_modules];refine Me (wpAny_specialOf hT hl ?_);have fin:Mo (Ms prog w) A (PP slice false o i) (fun r s₃=>Mo (Ms prog w) A (letTemporaryGo value o r >>= fun _=>pure r) Q E s₃) E s₂:=by
  rw[hs o i];exact wpAny_operating (M_ h₂ (fun r s₃ h₃=>Me (wpAny_letTemporaryGo (Mj h₃))) fun _ _ x=>x)
 first
  | exact Mj (Me fin)
  | exact Me (Mj (Me fin))
  | exact Me fin
theorem Ew{P:Mw}{w:MG}{H:Hp}(h:MD)(hb:M5 < h.objs.size):bD P w H (h.push { cls:=.type "dict",data:=.dict #[] }) h.objs.size (.dK []):=
 ⟨M0 _,beq_eq_false_iff_ne.mpr (Ne.symm (MO hb)),[],.nil,Heap.DictOf.new h⟩
def Hr:TE:=fun _ H Q=>∀ p,H p=none->Q (.ref p) (aV H p (.dK []))
section
variable{X:Cx}{pos:Pos}
theorem DT:PE X (.Dict [] [] pos) Hr:=fun pins s σ H Q I h=>
 wpAny_Dict_empty ⟨.ref s.heap.objs.size,_,I.laid (a:=s.heap.objs.size) (o:=.dK []) (t':=s.toks) (fun _ _ q=>Mm _ q) (le_refl _) (Ew s.heap I.big),rfl,h _ (I.hok.fresh (le_refl _))⟩
end
structure M2(X:Cx)(o:MJ)(m:Str)(apos:Pos)(e f:MJ)(cpos:Pos):Prop where
 base:NS o m X.env (eval o X.env)=eval o X.env
 few:((Nn cpos (Mr [e,f] X.env)).all (fun x=>!x.1) && (OH cpos (NZ [] X.env)).all (fun x=>x.1.isSome)
  && decide (([e,f]:List MJ).length+([]:List P4).length+(if ([]:List P4).isEmpty then 0 else 1) < 30))=true
 line:(apos.endLine == cpos.line)=true
 trees:Nn cpos (Mr [e,f] X.env)=[(false,eval e X.env),(false,eval f X.env)]
def Ma(H:Hp)(a:Mg):Prop:=(∃ kvs,Rd H a (.dK kvs))\/∃ kvs,Rd H a (.dT kvs)
theorem IC{X:Cx}{pins:List (Mg×Obj)}{σ:St}{H:Hp}{s:Mi}{a:Mg}(I:Inv X pins σ H s)(d:Ma H a):
  s.TypeIs (.ref a) "dict"/\(∀ b,Value.ref a=.ref b->∃ ob,s.heap.get? b=some ob/\ob.dict=none)/\(a == M5)=false:=by
 rcases d with ⟨kvs,e⟩|⟨kvs,e⟩
 ·obtain⟨_,hd,vs,_,dd⟩:=v7 I.hok e;refine⟨dd.typeIs,fun b q=>?_,hd⟩;cases q;obtain⟨ob,_,_,h1,h2,_⟩:=dd;exact⟨ob,h1,h2.2.1⟩
 ·obtain⟨_,hd,xs,_,dd⟩:=v6 I.hok e;refine⟨dd.typeIs,fun b q=>?_,hd⟩;cases q;obtain⟨ob,_,_,h1,h2,_⟩:=dd;exact⟨ob,h1,h2.2.1⟩
section
variable{X:Cx}{pins:List (Mg×Obj)}{σ:St}{H:Hp}{s:Mi}{a:Mg}{y d:V}{u r:Mf}{o:Option V}{A:MB}{E:Mf->Mi->Prop}
theorem IJ{Q:Mf->Mi->Prop}(hu:A.units+1 < MT)(I:Inv X pins σ H s)(g:uw H a y o)(ry:aB y u)(rd:aB d r)(h:∀ w' s',Inv X pins σ H s'->aB (o.getD d) w'->Q w' s'):
  Mo (Ms X.prog X.w) A (call (.builtin "dict.get") [.ref a,u,r]) Q E s:=by
 rcases g with ⟨kvs,k,e,ey,l⟩|⟨kvs,k,b,e,ey,eb,l⟩
 ·subst ey;obtain⟨z,hd,vs,rel,dd⟩:=v7 I.hok e;refine PB PySem.F.slot_dict_get dd.typeIs PySem.F.entry_dict_get (PySem.F.args_dict_get_3 _ _ _) (meets_dict_get_default (aZ X.prog X.w) a (vZ ry) hd r) ⟨_,dd.mapOf,h _ _ (I.tok _) ?_⟩;rw[l];exact (rel.val k).getD rd
 ·subst ey;cases (show u=Value.ref b from ry)
  obtain⟨z,hd,xs,rel,dd⟩:=v6 I.hok e;refine PB PySem.F.slot_dict_get dd.typeIs PySem.F.entry_dict_get (PySem.F.args_dict_get_3 _ _ _) (Qk (Nk (aZ X.prog X.w)) a b hd r) ⟨M4 hu,k,xs,qd I.hok eb,dd,h _ _ (I.tok _) ?_⟩;rw[l];exact (rel.val k).getD rd
end
end L2
namespace L3
open PySem PySem.Spec PyProof.Rows L2
abbrev St:=L2.St
inductive D where
 | non|bl (b:Bool)|int (i:Int)|str (x:Str)|tup (ds:List D)|lst (ds:List D)|fl (ds:List D)|ref (a:Mg)|ty (n:String)
inductive GO where
 | lst (ds:List D)
 | ins (C:Mg) (L:List Str) (ds:List D)
 | dK (kvs:List (aA×D))
 | dT (hw:List aA->Int) (kvs:List (List aA×D))
 | dF (ob:Obj) (hw:List aA->Int) (xs:List (List aA×Mg×Mf)) (kvs:List (List aA×D))
 | fx (ob:Obj)
abbrev Gp:=Mg->Option GO
def gset(G:Gp)(a:Mg)(o:GO):Gp:=fun b=>if b=a then some o else G b
def eX(G:Gp)(a:Mg):Gp:=fun b=>if b=a then none else G b
theorem au{G:Gp}{a:Mg}{o:GO}:gset G a o a=some o:=by unfold gset;rw[if_pos rfl]
theorem ai{G:Gp}{a b:Mg}{o:GO}(h:b≠a):gset G a o b=G b:=by unfold gset;rw[if_neg h]
theorem d6{G:Gp}{a:Mg}{o u:GO}:gset (gset G a o) a u=gset G a u:=by
 funext b;unfold gset;split<;>rfl
theorem d7{G:Gp}{a:Mg}:eX G a a=none:=by unfold eX;rw[if_pos rfl]
theorem d8{G:Gp}{a b:Mg}(h:b≠a):eX G a b=G b:=by unfold eX;rw[if_neg h]
def EV(K:Ow)(H:Hp)(a:Mg)(xs:List V):Prop:=
 (∃ o,H a=some (.frz o (.lst xs)))\/
  ∃ (o:Obj) (its:Array Mf) (n:Nat),K.lookup a=some o/\o.cls=.type "list"/\o.dict=none/\o.data=.seq its n/\its.size<=Mq/\Vals xs its.toList
theorem EV.sq{K:Ow}{H:Hp}{a:Mg}{xs:List V}(h:EV K H a xs):j_ K H a xs:=by
 rcases h with ⟨o,e⟩|h
 ·exact .inl (.inr ⟨o,e⟩)
 ·exact .inr h
mutual
def RD(K:Ow)(H:Hp):D->V->Prop
 | .non,v=>v=.non
 | .bl b,v=>v=.bl b
 | .int i,v=>v=.int i
 | .str x,v=>v=.str x
 | .ref a,v=>v=.ref a
 | .ty n,v=>v=.ty n
 | .fl _,_=>False
 | .tup ds,v=>∃ a xs,v=.ref a/\jS K H a xs/\RDs K H ds xs
 | .lst ds,v=>∃ a xs,v=.ref a/\EV K H a xs/\RDs K H ds xs
def RDs(K:Ow)(H:Hp):List D->List V->Prop
 | [],xs=>xs=[]
 | d::ds,xs=>∃ x r,xs=x::r/\RD K H d x/\RDs K H ds r
end
structure Stb(K:Ow)(H H':Hp):Prop where
 t:∀ a xs,jS K H a xs->jS K H' a xs
 l:∀ a xs,EV K H a xs->EV K H' a xs
mutual
theorem RD.mono{K:Ow}{H H':Hp}(s:Stb K H H'):∀ (d:D) (v:V),RD K H d v->RD K H' d v
 | .non,v,h=>by simp only[RD]at h ⊢;exact h
 | .bl b,v,h=>by simp only[RD]at h ⊢;exact h
 | .int i,v,h=>by simp only[RD]at h ⊢;exact h
 | .str x,v,h=>by simp only[RD]at h ⊢;exact h
 | .ref a,v,h=>by simp only[RD]at h ⊢;exact h
 | .ty n,v,h=>by simp only[RD]at h ⊢;exact h
 | .fl _,v,h=>by simp only[RD]at h
 | .tup ds,v,h=>by
  simp only[RD]at h ⊢;obtain⟨a,xs,e,q,r⟩:=h;exact⟨a,xs,e,s.t _ _ q,RDs.mono s ds xs r⟩
 | .lst ds,v,h=>by
  simp only[RD]at h ⊢;obtain⟨a,xs,e,q,r⟩:=h;exact⟨a,xs,e,s.l _ _ q,RDs.mono s ds xs r⟩
theorem RDs.mono{K:Ow}{H H':Hp}(s:Stb K H H'):∀ (ds:List D) (xs:List V),RDs K H ds xs->RDs K H' ds xs
 | [],xs,h=>by simp only[RDs]at h ⊢;exact h
 | d::ds,xs,h=>by
  simp only[RDs]at h ⊢;obtain⟨x,r,e,h1,h2⟩:=h;exact⟨x,r,e,RD.mono s d x h1,RDs.mono s ds r h2⟩
end
section
variable{K:Ow}{H:Hp}
theorem RDs.nil:RDs K H [] []:=by simp only[RDs]
theorem RDs.cons{d:D}{x:V}{ds:List D}{xs:List V}(h:RD K H d x)(t:RDs K H ds xs):RDs K H (d::ds) (x::xs):=by
 simp only[RDs];exact⟨x,xs,rfl,h,t⟩
theorem RDs.inv_nil{xs:List V}(h:RDs K H [] xs):xs=[]:=by simpa only[RDs]using h
theorem RDs.inv_cons{d:D}{ds:List D}{xs:List V}(h:RDs K H (d::ds) xs):∃ x r,xs=x::r/\RD K H d x/\RDs K H ds r:=by simpa only[RDs]using h
theorem RDs.length:∀ {ds:List D} {xs:List V},RDs K H ds xs->ds.length=xs.length
 | [],xs,h=>by rw[h.inv_nil];rfl
 | d::ds,xs,h=>by
  obtain⟨x,r,e,_,h2⟩:=h.inv_cons;subst e;simp[RDs.length h2]
theorem RDs.get:∀ {ds:List D} {xs:List V} {i:Nat} {d:D},RDs K H ds xs->ds[i]?=some d->∃ x,xs[i]?=some x/\RD K H d x
 | [],xs,i,d,h,e=>by simp at e
 | c::ds,xs,0,d,h,e=>by
  obtain⟨x,r,e1,h1,h2⟩:=h.inv_cons;subst e1;simp at e;subst e;exact⟨x,rfl,h1⟩
 | c::ds,xs,i+1,d,h,e=>by
  obtain⟨x,r,e1,h1,h2⟩:=h.inv_cons;subst e1;obtain⟨y,q1,q2⟩:=RDs.get (i:=i) (d:=d) h2 (by simpa using e)
  exact⟨y,by simpa using q1,q2⟩
theorem RDs.append:∀ {ds es:List D} {xs ys:List V},RDs K H ds xs->RDs K H es ys->RDs K H (ds ++ es) (xs ++ ys)
 | [],es,xs,ys,h,h'=>by rw[h.inv_nil];exact h'
 | d::ds,es,xs,ys,h,h'=>by
  obtain⟨x,r,e,h1,h2⟩:=h.inv_cons;subst e;exact RDs.cons h1 (RDs.append h2 h')
theorem RDs.take:∀ {ds:List D} {xs:List V} (n:Nat),RDs K H ds xs->RDs K H (ds.take n) (xs.take n)
 | _,_,0,_=>by simp only[List.take_zero];exact RDs.nil
 | [],xs,n+1,h=>by rw[h.inv_nil];simp only[List.take_nil];exact RDs.nil
 | d::ds,xs,n+1,h=>by
  obtain⟨x,r,e,h1,h2⟩:=h.inv_cons;subst e;exact RDs.cons h1 (RDs.take n h2)
theorem RDs.drop:∀ {ds:List D} {xs:List V} (n:Nat),RDs K H ds xs->RDs K H (ds.drop n) (xs.drop n)
 | _,_,0,h=>by simpa only[List.drop_zero]using h
 | [],xs,n+1,h=>by rw[h.inv_nil];simp only[List.drop_nil];exact RDs.nil
 | d::ds,xs,n+1,h=>by
  obtain⟨x,r,e,h1,h2⟩:=h.inv_cons;subst e;exact RDs.drop n h2
theorem RDs.set:∀ {ds:List D} {xs:List V} {d:D} {x:V} (n:Nat),RDs K H ds xs->RD K H d x->RDs K H (ds.set n d) (xs.set n x)
 | [],xs,d,x,n,h,_=>by rw[h.inv_nil];simp only[List.set_nil];exact RDs.nil
 | c::ds,xs,d,x,0,h,h'=>by
  obtain⟨y,r,e,h1,h2⟩:=h.inv_cons;subst e;exact RDs.cons h' h2
 | c::ds,xs,d,x,n+1,h,h'=>by
  obtain⟨y,r,e,h1,h2⟩:=h.inv_cons;subst e;exact RDs.cons h1 (RDs.set n h2 h')
theorem RDs.ints:∀ ns:List Int,RDs K H (ns.map D.int) (ns.map V.int)
 | []=>RDs.nil
 | n::r=>RDs.cons (by simp only[RD]) (RDs.ints r)
theorem RDs.strs:∀ ns:List Str,RDs K H (ns.map D.str) (ns.map V.str)
 | []=>RDs.nil
 | n::r=>RDs.cons (by simp only[RD]) (RDs.strs r)
end
def xK(hw:List aA->Int)(a:Mg)(xs:List (List aA×Mg×Mf)):MD->Prop:=fun h=>(a == M5)=false/\∃ o es ep,h.get? a=some o/\o.ExactDict/\o.data=.dict es ep/\es.toList=xs.map fun x=>(⟨hw x.1,.ref x.2.1,x.2.2⟩:DictEntry)
def LQ(ob:Obj)(hw:List aA->Int)(a:Mg)(xs:List (List aA×Mg×Mf)):MD->Prop:=fun h=>h.get? a=some ob/\xK hw a xs h
def pc(K:Ow)(H:Hp):List (List aA×D)->List (List aA×Mg×Mf)->Prop:=Oz fun p q=>p.1=q.1/\jS K H q.2.1 (p.1.map kV)/\∃ v,RD K H p.2 v/\aB v q.2.2
def zL(K:Ow)(H:Hp):List (aA×D)->List (aA×V)->Prop:=Oz fun p q=>p.1=q.1/\RD K H p.2 q.2
def RO(K:Ow)(H:Hp)(a:Mg):GO->HO->Prop
 | .lst ds,.lst xs=>RDs K H ds xs
 | .ins C L ds,.ins C' _ gs=>C'=C/\gs.map (·.1)=L/\RDs K H ds (gs.map (·.2))
 | .dK kvs,.dK hs=>zL K H kvs hs
 | .dT hw kvs,.ext φ=>∃ xs,φ=xK hw a xs/\pc K H kvs xs/\(kvs.map (·.1)).Nodup/\kvs.length<=Mq
 | .dF ob hw xs kvs,.ext φ=>φ=LQ ob hw a xs/\pc K H kvs xs/\(kvs.map (·.1)).Nodup/\kvs.length<=Mq
 | .fx ob,.ext φ=>φ=fun h=>h.get? a=some ob
 | _,_=>False
def RG(K:Ow)(H:Hp)(G:Gp):Prop:=∀ a o,G a=some o->∃ h,H a=some h/\RO K H a o h
def Kp(G:Gp)(H:Hp)(G':Gp)(H':Hp):Prop:=∀ a h,H a=some h->G a=none->H' a=some h/\G' a=none
def Jc(G:Gp)(H:Hp)(p:Mg):Prop:=∀ h,H p=some h->G p≠none
section
variable{K:Ow}{H H' H1 H2:Hp}{G G' G1 G2:Gp}{p:Mg}
theorem pc.mono(s:Stb K H H'){kvs:List (List aA×D)}{xs:List (List aA×Mg×Mf)}(r:pc K H kvs xs):pc K H' kvs xs:=Paired.mapP r fun _ _ zz=>by
 obtain⟨a,b,v,c,d⟩:=zz;exact (
  ⟨a,s.t _ _ b,v,RD.mono s _ _ c,d⟩)
theorem zL.mono(s:Stb K H H'){kvs:List (aA×D)}{xs:List (aA×V)}(r:zL K H kvs xs):zL K H' kvs xs:=Paired.mapP r fun _ _ zz=>by
 obtain⟨a,b⟩:=zz;exact (
  ⟨a,RD.mono s _ _ b⟩)
theorem RO.mono(s:Stb K H H'){a:Mg}{o:GO}{h:HO}(r:RO K H a o h):RO K H' a o h:=by
 cases o<;>cases h<;>first
  | exact r.elim
  | exact RDs.mono s _ _ r
  | exact⟨r.1,r.2.1,RDs.mono s _ _ r.2.2⟩
  | exact zL.mono s r
  | (obtain⟨xs,e,q,n⟩:=r;exact⟨xs,e,q.mono s,n⟩)
  | exact⟨r.1,r.2.1.mono s,r.2.2⟩
  | exact r
theorem RG.none_of(rg:RG K H G){a:Mg}{h:HO}(e:H a=some h)(n:∀ o,¬ RO K H a o h):G a=none:=by
 cases q:G a with
 | none=>rfl
 | some o=>
  obtain⟨h',e',r⟩:=rg a o q;rw[e]at e';cases e';exact absurd r (n o)
theorem RG.free(rg:RG K H G)(e:H p=none):G p=none:=by
 cases q:G p with
 | none=>rfl
 | some o=>
  obtain⟨h',e',r⟩:=rg p o q;rw[e]at e';cases e'
theorem Ij{a:Mg}(o:GO)(xs:List V):¬ RO K H a o (.tup xs):=by cases o<;>exact id
theorem D5{a:Mg}(o:GO)(ob:Obj)(u:HO):¬ RO K H a o (.frz ob u):=by cases o<;>exact id
theorem Kp.refl:Kp G H G H:=fun _ _ e n=>⟨e,n⟩
theorem Kp.trans(a:Kp G H G1 H1)(b:Kp G1 H1 G2 H2):Kp G H G2 H2:=fun x h e n=>b x h (a x h e n).1 (a x h e n).2
theorem Kp.stb(k:Kp G H G' H')(rg:RG K H G):Stb K H H' where
 t:=fun a xs q=>by
  rcases q with (q|⟨o,q⟩)|q
  ·exact .inl (.inl (k a _ q (rg.none_of q fun o=>Ij o xs)).1)
  ·exact .inl (.inr ⟨o,(k a _ q (rg.none_of q fun o'=>D5 o' o _)).1⟩)
  ·exact .inr q
 l:=fun a xs q=>by
  rcases q with ⟨o,q⟩|q
  ·exact .inl ⟨o,(k a _ q (rg.none_of q fun o'=>D5 o' o _)).1⟩
  ·exact .inr q
theorem Kp.fr(k:Kp G H G1 H1)(f:Jc G1 H1 p):Jc G H p:=fun h e n=>f h (k p h e n).1 (k p h e n).2
theorem r6(e:H p=none):Jc G H p:=fun h q=>by rw[e]at q;cases q
theorem Kp.laid{o:HO}(e:H p=none):Kp G H G (aV H p o):=fun a h q n=>⟨by rw[ar (ba q e)];exact q,n⟩
theorem RG.laid{o:HO}(rg:RG K H G)(e:H p=none):RG K (aV H p o) G:=fun a o' q=>by
 obtain⟨h,e1,r⟩:=rg a o' q;exact⟨h,by rw[ar (ba e1 e)];exact e1,r.mono ((Kp.laid (G:=G) e).stb rg)⟩
end
abbrev eO:=List (Option D)
def A6(K:Ow)(H:Hp):Option D->Option V->Prop
 | some d,some v=>RD K H d v
 | none,_=>True
 | some _,none=>False
def RS(K:Ow)(H:Hp)(σ:eO)(τ:St):Prop:=Oz (A6 K H) σ τ
section
variable{K:Ow}{H H':Hp}
theorem A6.mono(s:Stb K H H'):∀ {a:Option D} {b:Option V},A6 K H a b->A6 K H' a b
 | some d,some v,r=>RD.mono s d v r
 | none,_,_=>trivial
 | some _,none,r=>r.elim
theorem RS.mono(s:Stb K H H'){σ:eO}{τ:St}(r:RS K H σ τ):RS K H' σ τ:=Paired.mapP r fun _ _ q=>q.mono s
theorem RS.get:∀ {σ:eO} {τ:St} {i:Nat} {d:D},RS K H σ τ->σ[i]?=some (some d)->∃ v,τ[i]?=some (some v)/\RD K H d v
 | _,_,_,_,.nil,e=>by simp at e
 | _,_,0,d,.cons (b:=b) r _,e=>by
  simp at e;subst e;cases b with
  | none=>exact r.elim
  | some v=>exact⟨v,rfl,r⟩
 | _,_,i+1,d,.cons _ t,e=>by
  obtain⟨v,h1,h2⟩:=RS.get (i:=i) (d:=d) t (by simpa using e)
  exact⟨v,by simpa using h1,h2⟩
theorem RS.set{d:D}{v:V}(r:RD K H d v):∀ {σ:eO} {τ:St} (i:Nat),RS K H σ τ->RS K H (σ.set i (some d)) (τ.set i (some v))
 | _,_,_,.nil=>.nil
 | _,_,0,.cons _ t=>.cons (show A6 K H (some d) (some v)from r) t
 | _,_,i+1,.cons q t=>.cons q (RS.set r i t)
theorem RS.length{σ:eO}{τ:St}(r:RS K H σ τ):σ.length=τ.length:=N_ r
end
def RE(K:Ow)(G:Gp)(H:Hp)(G':Gp)(H':Hp)(d:D)(v:V):Prop:=
 (∃ ds p xs,d=.fl ds/\v=.ref p/\H' p=some (.lst xs)/\G' p=none/\RDs K H' ds xs/\Jc G H p)\/RD K H' d v
section
variable{K:Ow}{H H' H1 H2:Hp}{G G' G1 G2:Gp}{d:D}{v:V}
theorem RE.of(r:RD K H' d v):RE K G H G' H' d v:=.inr r
theorem RE.wait(r:RE K G H G1 H1 d v)(k:Kp G1 H1 G2 H2)(rg:RG K H1 G1):RE K G H G2 H2 d v:=by
 rcases r with ⟨ds,p,xs,e1,e2,e3,e4,e5,e6⟩|r
 ·exact .inl ⟨ds,p,xs,e1,e2,(k p _ e3 e4).1,(k p _ e3 e4).2,RDs.mono (k.stb rg) _ _ e5,e6⟩
 ·exact .inr (RD.mono (k.stb rg) _ _ r)
theorem RE.base(r:RE K G1 H1 G2 H2 d v)(k:Kp G H G1 H1):RE K G H G2 H2 d v:=by
 rcases r with ⟨ds,p,xs,e1,e2,e3,e4,e5,e6⟩|r
 ·exact .inl ⟨ds,p,xs,e1,e2,e3,e4,e5,k.fr e6⟩
 ·exact .inr r
theorem RE.rd(r:RE K G H G' H' d v)(h:∀ ds,d≠.fl ds):RD K H' d v:=by
 rcases r with ⟨ds,p,xs,e1,_⟩|r
 ·exact absurd e1 (h ds)
 ·exact r
theorem RE.int{i:Int}(r:RE K G H G' H' (.int i) v):v=.int i:=by
 have:=r.rd (by intro ds h;cases h);simpa only[RD]using this
theorem RE.str{i:Str}(r:RE K G H G' H' (.str i) v):v=.str i:=by
 have:=r.rd (by intro ds h;cases h);simpa only[RD]using this
theorem RE.bl{i:Bool}(r:RE K G H G' H' (.bl i) v):v=.bl i:=by
 have:=r.rd (by intro ds h;cases h);simpa only[RD]using this
theorem RE.non(r:RE K G H G' H' .non v):v=.non:=by
 have:=r.rd (by intro ds h;cases h);simpa only[RD]using this
theorem RE.ref{a:Mg}(r:RE K G H G' H' (.ref a) v):v=.ref a:=by
 have:=r.rd (by intro ds h;cases h);simpa only[RD]using this
theorem RE.tup{ds:List D}(r:RE K G H G' H' (.tup ds) v):∃ a xs,v=.ref a/\jS K H' a xs/\RDs K H' ds xs:=by
 have:=r.rd (by intro ds h;cases h);simpa only[RD]using this
theorem RE.lst{ds:List D}(r:RE K G H G' H' (.lst ds) v):∃ a xs,v=.ref a/\EV K H' a xs/\RDs K H' ds xs:=by
 have:=r.rd (by intro ds h;cases h);simpa only[RD]using this
theorem RE.fl{ds:List D}(r:RE K G H G' H' (.fl ds) v):∃ p xs,v=.ref p/\H' p=some (.lst xs)/\G' p=none/\RDs K H' ds xs/\Jc G H p:=by
 rcases r with ⟨ds',p,xs,e1,e2,e3,e4,e5,e6⟩|r
 ·cases e1;exact⟨p,xs,e2,e3,e4,e5,e6⟩
 ·simp only[RD]at r
theorem eh{i:Int}:RD K H (.int i) (.int i):=by simp only[RD]
theorem jm{i:Str}:RD K H (.str i) (.str i):=by simp only[RD]
theorem eU{i:Bool}:RD K H (.bl i) (.bl i):=by simp only[RD]
theorem mT:RD K H .non .non:=by simp only[RD]
theorem eK{a:Mg}:RD K H (.ref a) (.ref a):=by simp only[RD]
theorem pS{ds:List D}{xs:List V}{a:Mg}(h:jS K H a xs)(r:RDs K H ds xs):RD K H (.tup ds) (.ref a):=by
 simp only[RD];exact⟨a,xs,rfl,h,r⟩
theorem sP{ds:List D}{xs:List V}{a:Mg}(h:EV K H a xs)(r:RDs K H ds xs):RD K H (.lst ds) (.ref a):=by
 simp only[RD];exact⟨a,xs,rfl,h,r⟩
end
def rT(G:Gp):D->Option (List D)
 | .lst ds=>some ds
 | .fl ds=>some ds
 | .ref a=>match G a with
  | some (.lst ds)=>some ds
  | _=>none
 | _=>none
def EO(G:Gp):D->Option (List D)
 | .tup ds=>some ds
 | d=>rT G d
section
variable{K:Ow}{H H':Hp}{G G':Gp}{d:D}{v:V}{ds:List D}
theorem jz(h:rT G' d=some ds)(r:RE K G H G' H' d v)(rg:RG K H' G'):∃ a xs,v=.ref a/\j_ K H' a xs/\RDs K H' ds xs:=by
 cases d with
 | lst es=>
  obtain⟨a,xs,e,f,q⟩:=r.lst;simp only[rT,Option.some.injEq]at h;subst h;exact⟨a,xs,e,f.sq,q⟩
 | fl es=>
  obtain⟨a,xs,e,f,_,q,_⟩:=r.fl;simp only[rT,Option.some.injEq]at h;subst h;exact⟨a,xs,e,j_.of f,q⟩
 | ref a=>
  have e:=r.ref;simp only[rT]at h;cases q:G' a with
  | none=>rw[q]at h;cases h
  | some o=>
   rw[q]at h;cases o with
   | lst es=>
    simp only[Option.some.injEq]at h;subst h;obtain⟨ho,e1,e2⟩:=rg a _ q;cases ho with
    | lst xs=>exact⟨a,xs,e,j_.of e1,e2⟩
    | _=>exact e2.elim
   | _=>cases h
 | _=>simp[rT]at h
theorem qt(h:EO G' d=some ds)(r:RE K G H G' H' d v)(rg:RG K H' G'):∃ a xs,v=.ref a/\(j_ K H' a xs\/jS K H' a xs)/\RDs K H' ds xs:=by
 cases d with
 | tup es=>
  obtain⟨a,xs,e,f,q⟩:=r.tup;simp only[EO,Option.some.injEq]at h;subst h;exact⟨a,xs,e,.inr f,q⟩
 | _=>
  obtain⟨a,xs,e,f,q⟩:=jz (by simpa only[EO]using h) r rg
  exact⟨a,xs,e,.inl f,q⟩
theorem xm{xs:List V}{p:Mg}(rg:RG K H G)(e:H p=none)(r:RDs K H ds xs):RE K G H G (aV H p (.lst xs)) (.fl ds) (.ref p):=
 .inl ⟨ds,p,xs,rfl,rfl,aG,rg.free e,RDs.mono ((Kp.laid (G:=G) e).stb rg) _ _ r,r6 e⟩
theorem nv{xs:List V}{p:Mg}(rg:RG K H G)(e:H p=none)(r:RDs K H ds xs):RD K (aV H p (.tup xs)) (.tup ds) (.ref p):=
 pS (jS.of aG) (RDs.mono ((Kp.laid (G:=G) e).stb rg) _ _ r)
end
end L3
namespace L2
open PySem PySem.Spec PyProof.Rows
section
variable{X:Cx}
theorem PE.imp{e:MJ}{t t':TE}(h:PE X e t)(i:∀ σ H Q,t' σ H Q->t σ H Q):PE X e t':=fun pins s σ H Q I q=>h pins s σ H Q I (i σ H Q q)
theorem PT.imp{e:MJ}{t t':TT}(h:PT X e t)(i:∀ σ H Q,t' σ H Q->t σ H Q):PT X e t':=fun pins s σ H Q I q=>h pins s σ H Q I (i σ H Q q)
theorem PW.imp{e:MJ}{t t':TT}(h:PW X e t)(i:∀ σ H Q,t' σ H Q->t σ H Q):PW X e t':=fun wh pins s σ H Q I q=>h wh pins s σ H Q I (i σ H Q q)
theorem PA.imp{es:List MJ}{t t':TA}(h:PA X es t)(i:∀ σ H Q,t' σ H Q->t σ H Q):PA X es t':=fun pos pins s σ H Q I q=>h pos pins s σ H Q I (i σ H Q q)
theorem PS.imp{e:ML}{t t':TS}(h:PS X e t)(i:∀ D σ H,t' D σ H->t D σ H):PS X e t':=fun pins s σ H D I q=>h pins s σ H D I (i D σ H q)
theorem nj.imp{e:List ML}{t t':TS}(h:nj X e t)(i:∀ D σ H,t' D σ H->t D σ H):nj X e t':=fun pins s σ H D I q=>h pins s σ H D I (i D σ H q)
theorem gW.imp{f:Mf->Mf->Sem Mf}{r r':R2}(h:gW X f r)(i:∀ x y H Q,r' x y H Q->r x y H Q):gW X f r':=fun pins s σ H x y v u Q I rx ry q=>h pins s σ H x y v u Q I rx ry (i x y H Q q)
theorem dU.imp{f:Mf}{r r':List V->Hp->VK->Prop}(h:dU X f r)(i:∀ xs H Q,r' xs H Q->r xs H Q):dU X f r':=fun pins s σ H xs us Q I r q=>h pins s σ H xs us Q I r (i xs H Q q)
theorem CM.imp{r r':V->Option Int->Option Int->Hp->VK->Prop}(h:CM X r)(i:∀ x lo hi H Q,r' x lo hi H Q->r x lo hi H Q):CM X r':=fun pins s σ H x v vl vu lo hi sl Q I rx hs pl pu q=>h pins s σ H x v vl vu lo hi sl Q I rx hs pl pu (i x lo hi H Q q)
theorem CN.imp{r r':R2}(h:CN X r)(i:∀ x y H Q,r' x y H Q->r x y H Q):CN X r':=fun value slice pins s σ H x y v u Q I rx ry q hs=>h value slice pins s σ H x y v u Q I rx ry (i x y H Q q) hs
theorem Inv.freeze{pins:List (Mg×Obj)}{σ:St}{H:Hp}{s:Mi}{p:Mg}{xs:List V}(I:Inv X pins σ H s)(e:H p=some (.lst xs)):∃ o,Inv X pins σ (aV H p (.frz o (.lst xs))) s:=by
 obtain⟨its,n,rv,ho,hz⟩:=I.lst e;have stay:∀ b,H b=none->(aV H p (.frz { cls:=.type "list",data:=.seq its.toArray n } (.lst xs))) b=none:=fun b hb=>by
  rw[ar (fun z=>by subst z;rw[hb]at e;cases e)];exact hb
 refine⟨{ cls:=.type "list",data:=.seq its.toArray n },⟨I.ok,I.os,I.bare,⟨I.base.keep,I.base.slot,fun b o h1 h2 h3=>stay b (I.base.free b o h1 h2 h3),I.base.there,fun b ys q=>?_,fun b o u q=>?_,fun b ps q=>?_⟩,I.loc,I.cell,stay _ I.free,fun x c hc=>stay c (I.freeC x c hc),fun q hq=>?_,fun b u q=>?_,I.len⟩⟩
 ·have q':=I.base.tups b ys q;rw[ar (fun z=>by subst z;rw[e]at q';cases q')];exact q'
 ·have q':=I.base.frzs b o u q;rw[ar (fun z=>by subst z;rw[e]at q';cases q')];exact q'
 ·obtain⟨more,q'⟩:=I.base.tbls b ps q;exact⟨more,by rw[ar (fun z=>by subst z;rw[e]at q';cases q')];exact q'⟩
 ·obtain⟨h1,h2,h3⟩:=I.pin q hq;exact⟨h1,stay _ h2,h3⟩
 ·by_cases hb:b=p
  ·subst hb;rw[aG]at q;cases q;exact⟨ho,hz,its,n,rv,ho⟩
  ·rw[ar hb]at q;refine (I.hok b u q).stay (fun _ _ _ z=>z) (fun c z=>?_) fun c ys z=>?_
   ·rw[ar (fun y=>by subst y;rw[e]at z;cases z)];exact z
   ·rw[ar (fun y=>by subst y;rw[e]at z;cases z)];exact z
def gh(t:TE):TE:=fun σ H Q=>t σ H fun v H1=>Q v H1\/∃ p xs,v=.ref p/\H1 p=some (.lst xs)/\∀ o,Q v (aV H1 p (.frz o (.lst xs)))
theorem JI{e:MJ}{t:TE}(h:PE X e t):PE X e (gh t):=fun pins s σ H Q I q=>
 cb (h pins s σ H _ I q) fun u s' zz=>by
  obtain⟨v,H',I',r,q'⟩:=zz;rcases q' with q'|⟨p,xs,rfl,e,q'⟩
  ·exact⟨v,H',I',r,q'⟩
  ·obtain⟨o,I2⟩:=I'.freeze e;exact⟨.ref p,_,I2,r,q' o⟩
end
end L2
namespace L3
open PySem PySem.Spec PyProof.Rows L2
abbrev j9:=D->Gp->Prop
abbrev bn:=eO->Gp->j9->Prop
abbrev rj:=eO->Gp->(Bool->Gp->Prop)->Prop
abbrev m_:=eO->Gp->(List D->Gp->Prop)->Prop
structure Ends3 where
 nx:eO->Gp->Prop
 rt:j9
 bk:eO->Gp->Prop:=fun _ _=>False
 ct:eO->Gp->Prop:=fun _ _=>False
abbrev bP:=Ends3->eO->Gp->Prop
def uq(K:Ow)(G:Gp)(H:Hp)(Q3:j9)(Q:VK):Prop:=∀ d G' v H',Q3 d G'->Kp G H G' H'->RG K H' G'->RE K G H G' H' d v->Q v H'
def ay(K:Ow)(t:bn):TE:=fun τ H Q=>∃ σ G Q3,RS K H σ τ/\RG K H G/\t σ G Q3/\uq K G H Q3 Q
def cz(K:Ow)(t:rj):TT:=fun τ H Q=>∃ σ G Q3,RS K H σ τ/\RG K H G/\t σ G Q3/\∀ b G' H',Q3 b G'->Kp G H G' H'->RG K H' G'->Q b H'
def eg(K:Ow)(t:m_):TA:=fun τ H Q=>∃ σ G Q3,RS K H σ τ/\RG K H G/\t σ G Q3/\∀ ds G' vs H',Q3 ds G'->Kp G H G' H'->RG K H' G'->RDs K H' ds vs->Q vs H'
structure EndsOk(K:Ow)(G:Gp)(H:Hp)(D3:Ends3)(D:Ends):Prop where
 nx:∀ σ G' τ H',D3.nx σ G'->Kp G H G' H'->RG K H' G'->RS K H' σ τ->D.nx τ H'
 rt:uq K G H D3.rt D.rt
 bk:∀ σ G' τ H',D3.bk σ G'->Kp G H G' H'->RG K H' G'->RS K H' σ τ->D.bk τ H'
 ct:∀ σ G' τ H',D3.ct σ G'->Kp G H G' H'->RG K H' G'->RS K H' σ τ->D.ct τ H'
def bO(K:Ow)(t:bP):TS:=fun D τ H=>∃ σ G D3,RS K H σ τ/\RG K H G/\t D3 σ G/\EndsOk K G H D3 D
theorem uq.base{K:Ow}{G G1:Gp}{H H1:Hp}{Q3:j9}{Q:VK}(f:uq K G H Q3 Q)(k:Kp G H G1 H1):uq K G1 H1 Q3 Q:=
 fun d G' v H' q k' rg re=>f d G' v H' q (k.trans k') rg (re.base k)
theorem EndsOk.base{K:Ow}{G G1:Gp}{H H1:Hp}{D3:Ends3}{D:Ends}(f:EndsOk K G H D3 D)(k:Kp G H G1 H1):EndsOk K G1 H1 D3 D:=
 ⟨fun σ G' τ H' q k'=>f.nx σ G' τ H' q (k.trans k'),f.rt.base k,fun σ G' τ H' q k'=>f.bk σ G' τ H' q (k.trans k'),fun σ G' τ H' q k'=>f.ct σ G' τ H' q (k.trans k')⟩
def val:D->D
 | .fl ds=>.lst ds
 | d=>d
def vX(K:Ow)(t:bn):TE:=fun τ H Q=>∃ σ G Q3,RS K H σ τ/\RG K H G/\t σ G Q3/\∀ d G' v H',Q3 d G'->Kp G H G' H'->RG K H' G'->RD K H' (val d) v->Q v H'
section
variable{X:Cx}{e:MJ}{t:bn}
theorem En{K:Ow}{G G':Gp}{H H':Hp}{p:Mg}{o:HO}(k:Kp G H G' H')(f:Jc G H p):Kp G H G' (aV H' p o):=fun a h e n=>by
 have:a≠p:=fun z=>by subst z;exact f h e n
 exact⟨by rw[ar this];exact (k a h e n).1,(k a h e n).2⟩
theorem Em{K:Ow}{G':Gp}{H':Hp}{p:Mg}{xs:List V}{o:Obj}(rg:RG K H' G')(e:H' p=some (.lst xs))(n:G' p=none):RG K (aV H' p (.frz o (.lst xs))) G'/\Stb K H' (aV H' p (.frz o (.lst xs))):=by
 have st:Stb K H' (aV H' p (.frz o (.lst xs))):=by
  constructor
  ·intro a ys q;rcases q with (q|⟨ob,q⟩)|q
   ·exact .inl (.inl (by rw[ar (fun z=>by subst z;rw[e]at q;cases q)];exact q))
   ·exact .inl (.inr ⟨ob,by rw[ar (fun z=>by subst z;rw[e]at q;cases q)];exact q⟩)
   ·exact .inr q
  ·intro a ys q;rcases q with ⟨ob,q⟩|q
   ·exact .inl ⟨ob,by rw[ar (fun z=>by subst z;rw[e]at q;cases q)];exact q⟩
   ·exact .inr q
 refine⟨fun a o' q=>?_,st⟩;obtain⟨h,e1,r⟩:=rg a o' q;exact⟨h,by rw[ar (fun z=>by subst z;rw[n]at q;cases q)];exact e1,r.mono st⟩
theorem dB(h:PE X e (ay X.K t)):PE X e (vX X.K t):=(JI h).imp fun τ H Q zz=>by
 obtain⟨σ,G,Q3,rs,rg,ht,hk⟩:=zz;refine⟨σ,G,Q3,rs,rg,ht,fun d G' v H' q k rg' re=>?_⟩;cases d with
 | fl ds=>
  obtain⟨p,xs,rfl,e1,e2,e3,e4⟩:=re.fl;refine .inr ⟨p,xs,rfl,e1,fun o=>?_⟩;obtain⟨rg2,st⟩:=Em (o:=o) rg' e1 e2;exact hk _ G' _ _ q (En (K:=X.K) k e4) rg2 (sP (.inl ⟨o,aG⟩) (RDs.mono st _ _ e3))
 | _=>exact .inl (hk _ G' v H' q k rg' (re.rd (by intro ds z;cases z)))
end
def dL:bP:=fun D σ G=>D.nx σ G
def sSeq(t u:bP):bP:=fun D σ G=>t { D with nx:=u D } σ G
section
variable{X:Cx}{st:ML}{lP:List ML}{t u:bP}{e:MJ}{te:bn}{pos:Pos}
theorem dM:nj X [] (bO X.K dL):=Fz.imp fun D τ H zz=>by
 obtain⟨σ,G,D3,rs,rg,h,k⟩:=zz;exact (
  k.nx σ G τ H h Kp.refl rg rs)
theorem al(h1:PS X st (bO X.K t))(h2:nj X lP (bO X.K u)):nj X (st::lP) (bO X.K (sSeq t u)):=(DF h1 h2).imp fun D τ H zz=>by
 obtain⟨σ,G,D3,rs,rg,h,k⟩:=zz;exact (
   ⟨σ,G,{ D3 with nx:=u D3 },rs,rg,h,⟨fun σ' G' τ' H' q k' rg' rs'=>⟨σ',G',D3,rs',rg',q,k.base k'⟩,k.rt,k.bk,k.ct⟩⟩)
theorem av(h1:PS X st (bO X.K t)):nj X [st] (bO X.K t):=Fy h1
def bW(te:bn):bP:=fun D σ G=>te σ G fun _ G'=>D.nx σ G'
theorem bj(he:PE X e (ay X.K te))(hs:N3 e none pos.line X.env=pure false:=by rfl):PS X (.Expr e pos) (bO X.K (bW te)):=(FB he hs).imp fun D τ H zz=>by
 obtain⟨σ,G,D3,rs,rg,h,k⟩:=zz;exact (
   ⟨σ,G,fun _ G'=>D3.nx σ G',rs,rg,h,fun d G' v H' q k' rg' _=>k.nx σ G' τ H' q k' rg' (rs.mono (k'.stb rg))⟩)
def bo(te:bn):bP:=fun D σ G=>te σ G D.rt
theorem aL(he:PE X e (ay X.K te)):PS X (.Return (some e) pos) (bO X.K (bo te)):=(DI he).imp fun D τ H zz=>by
 obtain⟨σ,G,D3,rs,rg,h,k⟩:=zz;exact (
  ⟨σ,G,D3.rt,rs,rg,h,k.rt⟩)
def Dl:bP:=fun D _ G=>D.rt .non G
theorem HB:PS X (.Return none pos) (bO X.K Dl):=FA.imp fun D τ H zz=>by
 obtain⟨σ,G,D3,rs,rg,h,k⟩:=zz;exact (
  k.rt _ G _ H h Kp.refl rg (.of mT))
def Hy:bP:=fun D σ G=>D.bk σ G
def Jt:bP:=fun D σ G=>D.ct σ G
def mN(c:rj)(t u:bP):bP:=fun D σ G=>c σ G fun b G'=>if b=true then t D σ G' else u D σ G'
theorem fq{c:MJ}{a b:List ML}{tc:rj}(hc:PT X c (cz X.K tc))(ha:nj X a (bO X.K t))(hb:nj X b (bO X.K u)):PS X (.If c a b pos) (bO X.K (mN tc t u)):=
 (JD hc ha hb).imp fun D τ H zz=>by
 obtain⟨σ,G,D3,rs,rg,h,k⟩:=zz;exact (
  ⟨σ,G,_,rs,rg,h,fun b G' H' q k' rg'=>by
    cases b with
    | true=>exact⟨σ,G',D3,rs.mono (k'.stb rg),rg',q,k.base k'⟩
    | false=>exact⟨σ,G',D3,rs.mono (k'.stb rg),rg',q,k.base k'⟩⟩)
def mM:bP:=fun _ _ _=>False
theorem oz:PS X st (bO X.K mM):=DJ.imp fun D τ H zz=>by
 obtain⟨σ,G,D3,rs,rg,h,k⟩:=zz;exact (
  h)
def bz(i:Nat)(te:bn):bP:=fun D σ G=>te σ G fun d G'=>D.nx (σ.set i (some (val d))) G'
theorem aU{i:Nat}{x:Str}{pos':Pos}(hN:X.N.Nodup)(hi:X.N[i]?=some x)(hx:Hd X.env.scope x)(he:PE X e (ay X.K te))(hs:N3 e (some (.Name x pos')) pos.line X.env=pure false:=by rfl)
  (hf:X.fn x=true\/X.env.scope.names.lookup x=some .local:=by first|exact .inl rfl|exact .inr rfl|assumption):PS X (.Assign [.Name x pos'] e pos) (bO X.K (bz i te)):=
 (DH hN hi hx (dB he) hs hf).imp fun D τ H zz=>by
 obtain⟨σ,G,D3,rs,rg,h,k⟩:=zz;exact (
  ⟨σ,G,_,rs,rg,h,fun d G' v H' q k' rg' rd=>k.nx _ G' _ H' q k' rg' ((rs.mono (k'.stb rg)).set rd i)⟩)
def Aj(i:Nat)(te:bn):bP:=fun D σ G=>te σ G fun d G'=>∃ ds,d=.fl ds/\∀ p,G' p=none->D.nx (σ.set i (some (.ref p))) (gset G' p (.lst ds))
theorem DW{K:Ow}{G:Gp}{H:Hp}{p:Mg}{xs:List V}{ds:List D}(rg:RG K H G)(e:H p=some (.lst xs))(r:RDs K H ds xs):RG K H (gset G p (.lst ds)):=fun a o q=>by
 by_cases ha:a=p
 ·subst ha;rw[au]at q;cases q;exact⟨_,e,r⟩
 ·rw[ai ha]at q;exact rg a o q
theorem DX{G G':Gp}{H H':Hp}{p:Mg}{o:GO}(k:Kp G H G' H')(f:Jc G H p):Kp G H (gset G' p o) H':=fun a h e n=>by
 have:a≠p:=fun z=>by subst z;exact f h e n
 exact⟨(k a h e n).1,by rw[ai this];exact (k a h e n).2⟩
theorem sU{i:Nat}{x:Str}{pos':Pos}(hN:X.N.Nodup)(hi:X.N[i]?=some x)(hx:Hd X.env.scope x)(he:PE X e (ay X.K te))(hs:N3 e (some (.Name x pos')) pos.line X.env=pure false:=by rfl)
  (hf:X.fn x=true\/X.env.scope.names.lookup x=some .local:=by first|exact .inl rfl|exact .inr rfl|assumption):PS X (.Assign [.Name x pos'] e pos) (bO X.K (Aj i te)):=
 (DH hN hi hx he hs hf).imp fun D τ H zz=>by
 obtain⟨σ,G,D3,rs,rg,h,k⟩:=zz;exact (
  ⟨σ,G,_,rs,rg,h,fun d G' v H' q k' rg' re=>by
    obtain⟨ds,rfl,q⟩:=q;obtain⟨p,xs,rfl,e1,e2,e3,e4⟩:=re.fl;exact k.nx _ _ _ H' (q p e2) (DX k' e4) (DW rg' e1 e3) ((rs.mono (k'.stb rg)).set eK i)⟩)
def gR(i:Nat):bP:=fun D σ G=>match σ[i]? with
 | some (some (.ref p))=>match G p with
  | some (.lst ds)=>D.rt (.fl ds) (eX G p)
  | _=>False
 | _=>False
theorem i8{i:Nat}{x:Str}{pos':Pos}(hN:X.N[i]?=some x)(hv:Ky X.env.scope x)(hd:(x == ("__debug__":Str))=false:=by decide)(hcd:(x == ("__classdict__":Str))=false:=by decide):
  PS X (.Return (some (.Name x pos')) pos) (bO X.K (gR i)):=(DI (DO hN hv hd hcd)).imp fun D τ H zz=>by
 obtain⟨σ,G,D3,rs,rg,h,k⟩:=zz;unfold gR at h;split at h
 ·rename_i p hp;split at h
  ·rename_i ds hg;obtain⟨v,e1,r⟩:=rs.get hp;simp only[RD]at r;subst r;obtain⟨ho,e2,ro⟩:=rg p _ hg;refine⟨_,e1,?_⟩;cases ho with
   | lst xs=>
    have rg2:RG X.K H (eX G p):=fun a o q=>by
     by_cases ha:a=p
     ·subst ha;rw[d7]at q;cases q
     ·rw[d8 ha]at q;exact rg a o q
    refine k.rt _ _ _ H h (fun a ha e n=>⟨e,?_⟩) rg2 (.inl ⟨ds,p,xs,rfl,rfl,e2,d7,ro,fun h' _=>by rw[hg];exact fun z=>nomatch z⟩)
    by_cases hap:a=p
    ·subst hap;exact d7
    ·rw[d8 hap];exact n
   | _=>exact ro.elim
  ·exact h.elim
 ·exact h.elim
end
def ab(i:Nat):bn:=fun σ G Q=>match σ[i]? with
 | some (some d)=>Q d G
 | _=>False
def eC(d:D):bn:=fun _ G Q=>Q d G
section
variable{X:Cx}{pos:Pos}{j:Nat}
theorem JL{i:Nat}{x:Str}(hN:X.N[i]?=some x)(hv:Ky X.env.scope x)(hd:(x == ("__debug__":Str))=false:=by decide)(hcd:(x == ("__classdict__":Str))=false:=by decide):PE X (.Name x pos) (ay X.K (ab i)):=
 (DO hN hv hd hcd).imp fun τ H Q zz=>by
  obtain⟨σ,G,Q3,rs,rg,h,k⟩:=zz;unfold ab at h;split at h
  ·rename_i d hp;obtain⟨v,e1,r⟩:=rs.get hp;exact⟨v,e1,k d G v H h Kp.refl rg (.of r)⟩
  ·exact h.elim
theorem ak(i:Nat){x:Str}(hN:X.N[i]?=some x:=by rfl)(hv:Ky X.env.scope x:=by first|exact Or.inl rfl|exact Or.inr (Or.inl rfl)|exact Or.inr (Or.inr rfl))(hd:(x == ("__debug__":Str))=false:=by decide)
  (hcd:(x == ("__classdict__":Str))=false:=by decide):PE X (.Name x pos) (ay X.K (ab i)):=JL hN hv hd hcd
theorem Jf{e:MJ}{d:D}{v:V}(h:PE X e (tC v))(r:∀ H,RD X.K H d v):PE X e (ay X.K (eC d)):=h.imp fun τ H Q zz=>by
 obtain⟨σ,G,Q3,rs,rg,hq,k⟩:=zz;exact (
  k d G v H hq Kp.refl rg (.of (r H)))
theorem aw{i:Int}:PE X (.Constant (.int i) j pos) (ay X.K (eC (.int i))):=Jf HR fun _=>eh
theorem FU{b:Bool}:PE X (.Constant (.bool b) j pos) (ay X.K (eC (.bl b))):=Jf JK fun _=>eU
theorem vT:PE X (.Constant .none j pos) (ay X.K (eC .non)):=Jf HP fun _=>mT
theorem dP{x:Str}:PE X (.Constant (.str x) j pos) (ay X.K (eC (.str x))):=Jf HM fun _=>jm
end
abbrev R3:=D->D->Gp->j9->Prop
def dj(K:Ow)(r3:R3):R2:=fun v u H Q=>∃ x y G0 H0 G Q3,RE K G0 H0 G H x v/\RE K G0 H0 G H y u/\RG K H G/\r3 x y G Q3/\uq K G H Q3 Q
def bd(r:R3)(ta tb:bn):bn:=fun σ G Q=>ta σ G fun x G1=>tb σ G1 fun y G2=>r x y G2 Q
section
variable{X:Cx}{a b c:MJ}{ta tb tc:bn}{pos:Pos}{r r':R3}
theorem two{K:Ow}{r2:R2}{Q:VK}{τ:St}{H:Hp}(hr:r2=dj K r)(h:ay K (bd r ta tb) τ H Q):Je r2 (ay K ta) (ay K tb) τ H Q:=by
 subst hr;obtain⟨σ,G,Q3,rs,rg,h,k⟩:=h;refine⟨σ,G,fun x G1=>tb σ G1 fun y G2=>r x y G2 Q3,rs,rg,h,fun x G1 v H1 h1 k1 rg1 re1=>⟨σ,G1,fun y G2=>r x y G2 Q3,rs.mono (k1.stb rg),rg1,h1,fun y G2 u H2 h2 k2 rg2 re2=>?_⟩⟩;exact⟨x,y,G,H,G2,Q3,re1.wait k2 rg1,re2.base k1,rg2,h2,k.base (k1.trans k2)⟩
theorem aX{op:Operator}(ho:gW X (Nx op) (dj X.K r))(ha:PE X a (ay X.K ta))(hb:PE X b (ay X.K tb)):PE X (.BinOp a op b pos) (ay X.K (bd r ta tb)):=
 (JG ho ha hb).imp fun _ _ _ h=>two rfl h
def cr(t:bn):rj:=fun σ G Q=>t σ G fun d G'=>match d with
 | .bl b=>Q b G'
 | _=>False
theorem wu{K:Ow}{t:bn}{τ:St}{H:Hp}{Q:Bool->Hp->Prop}(h:cz K (cr t) τ H Q):Db (ay K t) τ H Q:=by
 obtain⟨σ,G,Q3,rs,rg,h,k⟩:=h;refine⟨σ,G,_,rs,rg,h,fun d G' v H' q k' rg' re=>?_⟩;cases d with
 | bl b=>exact⟨b,re.bl,k b G' H' q k' rg'⟩
 | _=>exact q.elim
theorem pU{op:O4}(ho:gW X (MS op) (dj X.K r))(ha:PE X a (ay X.K ta))(hb:PE X b (ay X.K tb))(hm:Ng op b=false):PT X (.Compare a [op] [b] pos) (cz X.K (cr (bd r ta tb))):=
 (Bl ho ha hb hm).imp fun _ _ _ h=>two rfl (wu h)
def ql(r r':R3)(ta tb tc:bn):bn:=fun σ G Q=>ta σ G fun x G1=>tb σ G1 fun y G2=>r x y G2 fun z G3=>match z with
 | .bl k=>if k=true then tc σ G3 fun w G4=>r' y w G4 Q else Q (.bl false) G3
 | _=>False
theorem Kd{K:Ow}{Q:VK}{τ:St}{H:Hp}(h:ay K (ql r r' ta tb tc) τ H Q):De (dj K r) (dj K r') (ay K ta) (ay K tb) (ay K tc) τ H Q:=by
 obtain⟨σ,G,Q3,rs,rg,h,k⟩:=h;refine⟨σ,G,_,rs,rg,h,fun x G1 v H1 h1 k1 rg1 re1=>⟨σ,G1,_,rs.mono (k1.stb rg),rg1,h1,fun y G2 u H2 h2 k2 rg2 re2=>?_⟩⟩;refine⟨x,y,G,H,G2,_,re1.wait k2 rg1,re2.base k1,rg2,h2,fun z G3 w H3 h3 k3 rg3 re3=>?_⟩;have k13:=k1.trans (k2.trans k3);cases z with
 | bl kk=>
  refine⟨kk,re3.bl,?_⟩;cases kk with
  | true=>
   refine iteT ?_;refine⟨σ,G3,_,rs.mono (k13.stb rg),rg3,h3,fun w' G4 w4 H4 h4 k4 rg4 re4=>?_⟩;exact⟨y,w',G,H,G4,Q3,(re2.base k1).wait (k3.trans k4) rg2,re4.base k13,rg4,h4,k.base (k13.trans k4)⟩
  | false=>exact iteF (k _ G3 _ H3 h3 k13 rg3 (.of eU))
 | _=>exact h3.elim
theorem tj{op op':O4}(ho:gW X (MS op) (dj X.K r))(ho':gW X (MS op') (dj X.K r'))(ha:PE X a (ay X.K ta))(hb:PE X b (ay X.K tb))(hc:PE X c (ay X.K tc))
  (hm:lastMarks [op,op'] [b,c]=false:=by with_unfolding_all rfl):PT X (.Compare a [op,op'] [b,c] pos) (cz X.K (cr (ql r r' ta tb tc))):=
 (DE ho ho' ha hb hc hm).imp fun τ H Q h=>by
  obtain⟨σ,G,Q3,rs,rg,h,k⟩:=h;refine Kd (Q:=fun x H'=>∃ k,x=.bl k/\Q k H') ⟨σ,G,_,rs,rg,h,fun d G' v H' q k' rg' re=>?_⟩;cases d with
  | bl b=>exact⟨b,re.bl,k b G' H' q k' rg'⟩
  | _=>exact q.elim
def vD(t u:rj):rj:=fun σ G Q=>t σ G fun c G1=>if c=true then u σ G1 Q else Q false G1
def xS(t u:rj):rj:=fun σ G Q=>t σ G fun c G1=>if c=true then Q true G1 else u σ G1 Q
def sg(t:rj):rj:=fun σ G Q=>t σ G fun c G1=>Q (!c) G1
variable{tA tB:rj}{es:List MJ}
theorem zY(ha:PT X a (cz X.K tA)):PW X (.BoolOp .And [a] pos) (cz X.K tA):=Ft ha
theorem C1(ha:PT X a (cz X.K tA)):PW X (.BoolOp .Or [a] pos) (cz X.K tA):=HD ha
theorem C3(ha:PT X a (cz X.K tA))(hb:PW X (.BoolOp .And (b::es) pos) (cz X.K tB)):PW X (.BoolOp .And (a::b::es) pos) (cz X.K (vD tA tB)):=(HE ha hb).imp fun τ H Q zz=>by
 obtain⟨σ,G,Q3,rs,rg,h,k⟩:=zz;exact (
   ⟨σ,G,_,rs,rg,h,fun c G1 H1 q k1 rg1=>by
    cases c with
    | true=>exact iteT ⟨σ,G1,Q3,rs.mono (k1.stb rg),rg1,q,fun b' G' H' q' k' rg'=>k b' G' H' q' (k1.trans k') rg'⟩
    | false=>exact iteF (k false G1 H1 q k1 rg1)⟩)
theorem E_(ha:PT X a (cz X.K tA))(hb:PW X (.BoolOp .Or (b::es) pos) (cz X.K tB)):PW X (.BoolOp .Or (a::b::es) pos) (cz X.K (xS tA tB)):=(JC ha hb).imp fun τ H Q zz=>by
 obtain⟨σ,G,Q3,rs,rg,h,k⟩:=zz;exact (
   ⟨σ,G,_,rs,rg,h,fun c G1 H1 q k1 rg1=>by
    cases c with
    | false=>exact iteF ⟨σ,G1,Q3,rs.mono (k1.stb rg),rg1,q,fun b' G' H' q' k' rg'=>k b' G' H' q' (k1.trans k') rg'⟩
    | true=>exact iteT (k true G1 H1 q k1 rg1)⟩)
theorem td(ha:PT X a (cz X.K tA)):PT X (.UnaryOp .Not a pos) (cz X.K (sg tA)):=(HG ha).imp fun τ H Q zz=>by
 obtain⟨σ,G,Q3,rs,rg,h,k⟩:=zz;exact (
  ⟨σ,G,_,rs,rg,h,fun c G1 H1 q k1 rg1=>k (!c) G1 H1 q k1 rg1⟩)
def CB(ta tb:bn):bn:=fun σ G Q=>ta σ G fun x G1=>match x with
 | .bl c=>if c=true then tb σ G1 Q else Q (.bl false) G1
 | _=>False
def L6(ta tb:bn):bn:=fun σ G Q=>ta σ G fun x G1=>match x with
 | .bl c=>if c=true then Q (.bl true) G1 else tb σ G1 Q
 | _=>False
theorem DV{op}(h:PE X a (ay X.K ta)):PE X (.BoolOp op [a] pos) (ay X.K ta):=HN h
theorem Br(ha:PE X a (ay X.K ta))(hb:PE X (.BoolOp .And (b::es) pos) (ay X.K tb)):PE X (.BoolOp .And (a::b::es) pos) (ay X.K (CB ta tb)):=(HU ha hb).imp fun τ H Q zz=>by
 obtain⟨σ,G,Q3,rs,rg,h,k⟩:=zz;exact (
   ⟨σ,G,_,rs,rg,h,fun x G1 v H1 q k1 rg1 re=>by
    cases x with
    | bl c=>
     refine⟨c,re.bl,?_⟩;cases c with
     | true=>exact iteT ⟨σ,G1,Q3,rs.mono (k1.stb rg),rg1,q,k.base k1⟩
     | false=>exact iteF (k _ G1 _ H1 q k1 rg1 (.of eU))
    | _=>exact q.elim⟩)
def J7(ta:bn):bn:=fun σ G Q=>ta σ G fun x G1=>match x with
 | .bl c=>Q (.bl (!c)) G1
 | _=>False
def GY(c:rj)(ta tb:bn):bn:=fun σ G Q=>c σ G fun b G1=>if b=true then ta σ G1 Q else tb σ G1 Q
theorem JM(hc:PT X c (cz X.K tA))(ha:PE X a (ay X.K ta))(hb:PE X b (ay X.K tb)):PE X (.IfExp c a b pos) (ay X.K (GY tA ta tb)):=(DR hc ha hb).imp fun τ H Q zz=>by
 obtain⟨σ,G,Q3,rs,rg,h,k⟩:=zz;exact (
   ⟨σ,G,_,rs,rg,h,fun x G1 H1 q k1 rg1=>by
    cases x with
    | true=>exact iteT ⟨σ,G1,Q3,rs.mono (k1.stb rg),rg1,q,k.base k1⟩
    | false=>exact iteF ⟨σ,G1,Q3,rs.mono (k1.stb rg),rg1,q,k.base k1⟩⟩)
def C8(G:Gp):D->Option Bool
 | .non=>some false
 | .bl b=>some b
 | .int i=>some (i != 0)
 | .str y=>some ((y.length:Int) != 0)
 | d=>(EO G d).map fun ds=>!ds.isEmpty
def jT(t:bn):rj:=fun σ G Q=>t σ G fun d G'=>match C8 G' d with
 | some b=>(match d with|.str y=>y.length<=Mq|_=>True)/\Q b G'
 | none=>False
theorem dO(ha:PE X a (ay X.K ta))(he:∀ whole,Qv a X.env whole=(do let v <- whole;OB a.pos;holding [v] (truthy v)):=by intro _;rfl):PT X a (cz X.K (jT ta)):=
 (DC ha he).imp fun τ H Q zz=>by
 obtain⟨σ,G,Q3,rs,rg,h,k⟩:=zz;exact (
  ⟨σ,G,_,rs,rg,h,fun d G' v H' q k' rg' re=>by
    cases d with
    | non=>rw[re.non];exact⟨false,rfl,k _ G' H' q.2 k' rg'⟩
    | bl b=>rw[re.bl];exact⟨b,rfl,k _ G' H' q.2 k' rg'⟩
    | int i=>rw[re.int];exact⟨_,rfl,k _ G' H' q.2 k' rg'⟩
    | str y=>rw[re.str];exact⟨_,⟨q.1,rfl⟩,k _ G' H' q.2 k' rg'⟩
    | ty n=>exact q.elim
    | _=>
     split at q
     ·rename_i b hb;simp only[C8,Option.map_eq_some_iff]at hb;obtain⟨ds,hq,rfl⟩:=hb;obtain⟨a,xs,rfl,s,r⟩:=qt hq re rg';have el:(!ds.isEmpty)=!xs.isEmpty:=by
       have:=r.length;cases ds<;>cases xs<;>simp_all
      refine⟨!xs.isEmpty,?_,k _ G' H' (by rw[<- el];exact q.2) k' rg'⟩
      rcases s with s|s
      ·exact .inl ⟨xs,s,rfl⟩
      ·exact .inr (.inl ⟨xs,s,rfl⟩)
     ·exact q.elim⟩)
end
end L3
namespace L2
open PySem PySem.Spec PyProof.Rows
section
variable{X:Cx}
def Jz(K:Ow):R2:=fun x y H Q=>∃ l b xs zs,x=.ref l/\y=.ref b/\j_ K H l xs/\j_ K H b zs/\xs.length+zs.length<=Mq/\∀ p,H p=none->Q (.ref p) (aV H p (.lst (xs ++ zs)))
theorem FX:gW X (Nx .Add) (Jz X.K):=by
 intro pins s σ H x y v u Q I rx ry h;obtain⟨l,b,xs,zs,rfl,rfl,hH,hB,hz,q⟩:=h;cases rx;cases ry;obtain⟨its,r,pl,z⟩:=I.list hH;obtain⟨its2,r2,pl2,z2⟩:=I.list hB;obtain⟨⟨cls,dd,data,sl⟩,ho,hc,n,hd⟩:=pl.isList;obtain⟨⟨cls2,dd2,data2,sl2⟩,ho2,hc2,n2,hd2⟩:=pl2.isList;simp only at hc hd hc2 hd2;subst hc hd hc2 hd2;have hl:=r.length;have hl2:=r2.length;have e:its.toArray ++ its2.toArray=(its ++ its2).toArray:=by simp
 refine Qw ⟨_,ho,rfl⟩ ⟨_,ho2,rfl⟩ noFill_list_add seq_list_add PySem.F.slot_list_add PySem.F.entry_list_add (PySem.F.args_list_add_2 _ _) (list_addW l b its.toArray its2.toArray n n2 dd dd2 sl sl2 (by simp only[Mt];omega)) ⟨ho,ho2,?_⟩
 rw[e];exact⟨.ref _,_,I.lnew (t':=s.toks) (r.append r2) (by rw[Na];omega),rfl,q _ I.fresh⟩
end
end L2
namespace L3
open PySem PySem.Spec PyProof.Rows L2
section
variable{X:Cx}
def f8:R3:=fun x y G Q=>match x,y with
 | .int i,.int j=>Q (.int (i+j)) G
 | .str i,.str j=>i.length+j.length<=Mq/\Q (.str (i ++ j)) G
 | .tup xs,.tup ys=>xs≠[]/\xs.length+ys.length<=Mq/\Q (.tup (xs ++ ys)) G
 | x,y=>match rT G x,rT G y with
  | some xs,some ys=>xs.length+ys.length<=Mq/\Q (.fl (xs ++ ys)) G
  | _,_=>False
theorem d_:gW X (Nx .Add) (dj X.K f8):=by
 refine ((Ic (X:=X)).or ((Az (X:=X)).or ((FW (X:=X)).or (FX (X:=X))))).imp fun v u H Q zz=>?_;obtain⟨x,y,G0,H0,G,Q3,rx,ry,rg,h,k⟩:=zz;unfold f8 at h;split at h
 ·rename_i i j;exact .inl ⟨i,j,rx.int,ry.int,k _ G _ H h Kp.refl rg (.of eh)⟩
 ·rename_i i j;exact .inr (.inl ⟨i,j,rx.str,ry.str,h.1,k _ G _ H h.2 Kp.refl rg (.of jm)⟩)
 ·rename_i ds es;obtain⟨a,xs,rfl,s1,r1⟩:=rx.tup;obtain⟨b,ys,rfl,s2,r2⟩:=ry.tup;have l1:=r1.length;have l2:=r2.length;refine .inr (.inr (.inl ⟨a,b,xs,ys,rfl,rfl,s1,s2,fun z=>h.1 ?_,by have:=h.2.1;omega,fun z=>?_,fun _ p hp=>?_⟩))
  ·subst z;exact length_eq_zero_iff.mp l1
  ·subst z;have:es=[]:=length_eq_zero_iff.mp l2;subst this;have hh:=h.2.2;rw[No]at hh;exact k _ G _ H hh Kp.refl rg (.of (pS s1 r1))
  ·exact k _ G _ _ h.2.2 (Kp.laid hp) (rg.laid hp) (.of (nv rg hp (r1.append r2)))
 ·split at h
  ·rename_i ds es hx hy;obtain⟨a,xs,rfl,s1,r1⟩:=jz hx rx rg;obtain⟨b,ys,rfl,s2,r2⟩:=jz hy ry rg;have l1:=r1.length;have l2:=r2.length;exact .inr (.inr (.inr ⟨a,b,xs,ys,rfl,rfl,s1,s2,by have:=h.1;omega,fun p hp=>k _ G _ _ h.2 (Kp.laid hp) (rg.laid hp) (xm rg hp (r1.append r2))⟩))
  ·exact h.elim
def oI(C:Int->Int->Prop)(g:Int->Int->D):R3:=fun x y G Q=>match x,y with
 | .int i,.int j=>C i j/\Q (g i j) G
 | _,_=>False
def GM(g:Int->Int->D):R3:=fun x y G Q=>match x,y with
 | .int i,.int j=>Q (g i j) G
 | _,_=>False
theorem LK{f:Mf->Mf->Sem Mf}{C:Int->Int->Prop}{g:Int->Int->V}{g3:Int->Int->D}(h:gW X f (rI C g))(r:∀ i j H,RD X.K H (g3 i j) (g i j)):gW X f (dj X.K (oI C g3)):=
 h.imp fun v u H Q zz=>by
  obtain⟨x,y,G0,H0,G,Q3,rx,ry,rg,h,k⟩:=zz;unfold oI at h;split at h
  ·rename_i i j;exact⟨i,j,rx.int,ry.int,h.1,k _ G _ H h.2 Kp.refl rg (.of (r i j H))⟩
  ·exact h.elim
theorem Hi{f:Mf->Mf->Sem Mf}{g:Int->Int->V}{g3:Int->Int->D}(h:gW X f (HA g))(r:∀ i j H,RD X.K H (g3 i j) (g i j)):gW X f (dj X.K (GM g3)):=
 h.imp fun v u H Q zz=>by
  obtain⟨x,y,G0,H0,G,Q3,rx,ry,rg,h,k⟩:=zz;unfold GM at h;split at h
  ·rename_i i j;exact⟨i,j,rx.int,ry.int,k _ G _ H h Kp.refl rg (.of (r i j H))⟩
  ·exact h.elim
def Ce:R3:=GM fun i j=>.int (i - j)
theorem Bd:gW X (Nx .Sub) (dj X.K Ce):=Hi H_ fun _ _ _=>eh
def ft:R3:=oI (fun _ j=>0 < j) fun i j=>.int (i % j)
theorem dq:gW X (Nx .Mod) (dj X.K ft):=LK Ib fun _ _ _=>eh
def jt:R3:=oI KG fun i j=>.int (i / j)
theorem fV:gW X (Nx .FloorDiv) (dj X.K jt):=LK FV fun _ _ _=>eh
def Lj:R3:=oI LJ fun i j=>.int (i ^ j.toNat)
def Jg:R3:=GM fun i j=>.bl (decide (i < j))
theorem E8:gW X (MS .Lt) (dj X.K Jg):=Hi JO fun _ _ _=>eU
def Jh:R3:=GM fun i j=>.bl (decide (i<=j))
theorem E9:gW X (MS .LtE) (dj X.K Jh):=Hi JP fun _ _ _=>eU
def LO:R3:=GM fun i j=>.bl (decide (j < i))
def L0:R3:=GM fun i j=>.bl (decide (j<=i))
def aq:m_:=fun _ G Q=>Q [] G
def ae(ta:bn)(tr:m_):m_:=fun σ G Q=>ta σ G fun x G1=>tr σ G1 fun xs G2=>Q (val x::xs) G2
variable{e:MJ}{es:List MJ}{te:bn}{t:m_}{pos:Pos}
theorem aj:PA X [] (eg X.K aq):=HV.imp fun τ H Q zz=>by
 obtain⟨σ,G,Q3,rs,rg,h,k⟩:=zz;exact (
  k [] G [] H h Kp.refl rg RDs.nil)
theorem aa(ha:PE X e (ay X.K te))(hr:PA X es (eg X.K t))(hs:Mr (e::es) X.env=(false,eval e X.env)::Mr es X.env:=by rfl):PA X (e::es) (eg X.K (ae te t)):=
 (FN (dB ha) hr hs).imp fun τ H Q zz=>by
 obtain⟨σ,G,Q3,rs,rg,h,k⟩:=zz;exact (
  ⟨σ,G,_,rs,rg,h,fun x G1 v H1 q k1 rg1 rd=>⟨σ,G1,_,rs.mono (k1.stb rg),rg1,q,fun ds G2 vs H2 q2 k2 rg2 rds=>
    k _ G2 _ H2 q2 (k1.trans k2) rg2 (RDs.cons (RD.mono (k2.stb rg1) _ _ rd) rds)⟩⟩)
def h_(t:m_):bn:=fun σ G Q=>t σ G fun ds G1=>ds.length<=Mq/\Q (.tup ds) G1
def uc(t:m_):bn:=fun σ G Q=>t σ G fun ds G1=>ds.length<=Mq/\Q (.fl ds) G1
theorem fb{x1}(h:PA X es (eg X.K t)):PE X (.Tuple es x1 pos) (ay X.K (h_ t)):=(HL h).imp fun τ H Q zz=>by
 obtain⟨σ,G,Q3,rs,rg,h,k⟩:=zz;exact (
  ⟨σ,G,_,rs,rg,h,fun ds G1 vs H1 q k1 rg1 rds=>
   ⟨by rw[<- rds.length];exact q.1,fun p hp=>k _ G1 _ _ q.2 (k1.trans (Kp.laid hp)) (rg1.laid hp) (.of (nv rg1 hp rds))⟩⟩)
theorem oA(h:PA X es (eg X.K t)):PE X (.List es pos) (ay X.K (uc t)):=(HQ h).imp fun τ H Q zz=>by
 obtain⟨σ,G,Q3,rs,rg,h,k⟩:=zz;exact (
  ⟨σ,G,_,rs,rg,h,fun ds G1 vs H1 q k1 rg1 rds=>
   ⟨by rw[<- rds.length];exact q.1,fun p hp=>k _ G1 _ _ q.2 (k1.trans (Kp.laid hp)) (rg1.laid hp) ((xm rg1 hp rds).base k1)⟩⟩)
def strAt(x:Str)(i:Int):Option D:=(lW x.cps.toList i).map fun c=>.str ⟨#[c]⟩
def gl:R3:=fun x y G Q=>match x,y with
 | .str z,.int i=>z.length<=Mq/\match strAt z i with
  | some d=>Q d G
  | none=>False
 | x,.int i=>match EO G x with
  | some ds=>match lW ds i with
   | some d=>Q d G
   | none=>False
  | none=>False
 | _,_=>False
theorem Gx{K:Ow}{H:Hp}{ds:List D}{xs:List V}{i:Int}{d:D}(r:RDs K H ds xs)(h:lW ds i=some d):∃ v,lW xs i=some v/\RD K H d v:=by
 unfold lW at h ⊢;rw[<- r.length];cases e:F_ ds.length i with
 | none=>rw[e]at h;cases h
 | some j=>
  rw[e]at h;exact r.get h
theorem KP:CN X (dj X.K gl):=(IA (X:=X)).imp fun v u H Q zz=>by
 obtain⟨x,y,G0,H0,G,Q3,rx,ry,rg,h,k⟩:=zz;unfold gl at h;split at h
 ·rename_i z i;obtain⟨h1,h2⟩:=h;split at h2
  ·rename_i d hd;unfold strAt at hd;rw[Option.map_eq_some_iff]at hd;obtain⟨c,hc,rfl⟩:=hd;exact .inr (.inr ⟨z,i,c,rx.str,ry.int,h1,hc,k _ G _ H h2 Kp.refl rg (.of jm)⟩)
  ·exact h2.elim
 ·rename_i i _;split at h
  ·rename_i ds hds;split at h
   ·rename_i d hd;obtain⟨a,xs,rfl,s,r⟩:=qt hds rx rg;obtain⟨w,hw,rd⟩:=Gx r hd;have fin:=k _ G _ H h Kp.refl rg (.of rd);rcases s with s|s
    ·exact .inl ⟨a,xs,i,w,rfl,ry.int,s,hw,fin⟩
    ·exact .inr (.inl ⟨a,xs,i,w,rfl,ry.int,s,hw,fin⟩)
   ·exact h.elim
  ·exact h.elim
 ·exact h.elim
variable{a b:MJ}{ta tb:bn}
theorem cV(ha:PE X a (ay X.K ta))(hb:PE X b (ay X.K tb))(hs:BO b:=by exact fun _ _=>rfl):PE X (.Subscript a b pos) (ay X.K (bd gl ta tb)):=(JH KP ha hb hs).imp fun _ _ _ h=>two rfl h
abbrev I_:=eO->Gp->(Option Int->Gp->Prop)->Prop
def Bw(K:Ow)(t:I_):TO:=fun τ H Q=>∃ σ G Q3,RS K H σ τ/\RG K H G/\t σ G Q3/\∀ o G' H',Q3 o G'->Kp G H G' H'->RG K H' G'->Q o H'
theorem PO.imp{e:Option MJ}{t t':TO}(h:PO X e t)(i:∀ σ H Q,t' σ H Q->t σ H Q):PO X e t':=fun pins s σ H Q I q=>h pins s σ H Q I (i σ H Q q)
def JS:I_:=fun _ G Q=>Q none G
def kP(t:bn):I_:=fun σ G Q=>t σ G fun x G1=>match x with
 | .int i=>Q (some i) G1
 | _=>False
theorem AA:PO X none (Bw X.K JS):=PO.imp FE fun τ H Q zz=>by
 obtain⟨σ,G,Q3,rs,rg,h,k⟩:=zz;exact (
  k none G H h Kp.refl rg)
theorem jr(h:PE X e (ay X.K te)):PO X (some e) (Bw X.K (kP te)):=PO.imp (FD h) fun τ H Q ⟨σ,G,Q3,rs,rg,h,k⟩=>⟨σ,G,_,rs,rg,h,fun d G1 v H1 q k1 rg1 re=>by
 cases d with
 | int i=>exact⟨i,re.int,k _ G1 H1 q k1 rg1⟩
 | _=>exact q.elim⟩
abbrev KA:=D->Option Int->Option Int->Gp->j9->Prop
def Ea(K:Ow)(r:KA):V->Option Int->Option Int->Hp->VK->Prop:=fun v lo hi H Q=>∃ x G0 H0 G Q3,RE K G0 H0 G H x v/\RG K H G/\r x lo hi G Q3/\uq K G H Q3 Q
def GX(r:KA)(te:bn)(tl th:I_):bn:=fun σ G Q=>te σ G fun x G1=>tl σ G1 fun l G2=>th σ G2 fun u G3=>r x l u G3 Q
theorem lA{r:KA}{lo hi:Option MJ}{tl th:I_}{p2:Pos}(hr:CM X (Ea X.K r))(he:PE X e (ay X.K te))(hl:PO X lo (Bw X.K tl))(hu:PO X hi (Bw X.K th)):PE X (.Subscript e (.Slice lo hi none p2) pos) (ay X.K (GX r te tl th)):=
 (DP hr he hl hu).imp fun τ H Q zz=>by
 obtain⟨σ,G,Q3,rs,rg,h,k⟩:=zz;exact (
  ⟨σ,G,_,rs,rg,h,fun x G1 v H1 q1 k1 rg1 re=>⟨σ,G1,_,rs.mono (k1.stb rg),rg1,q1,fun l G2 H2 q2 k2 rg2=>
    ⟨σ,G2,_,rs.mono ((k1.trans k2).stb rg),rg2,q2,fun u G3 H3 q3 k3 rg3=>⟨x,G,H,G3,Q3,re.wait (k2.trans k3) rg1,rg3,q3,k.base (k1.trans (k2.trans k3))⟩⟩⟩⟩)
def cutD(ds:List D)(lo hi:Option Int):List D:=(ds.drop (HT.sIx ds.length 0 lo)).take (HT.sIx ds.length ds.length hi - HT.sIx ds.length 0 lo)
theorem BC{K:Ow}{H:Hp}{ds:List D}{xs:List V}(r:RDs K H ds xs)(lo hi:Option Int):RDs K H (cutD ds lo hi) (zC xs lo hi):=by
 unfold cutD zC;rw[r.length];exact (r.drop _).take _
end
end L3
namespace L2
open PySem PySem.Spec PyProof.Rows
def LH(xs:List V):It:=⟨fun i _=>i < xs.length,fun i H x H'=>H'=H/\xs[i]?=some x,fun i _=>i=xs.length⟩
def dh(x:Str):List V:=x.cps.toList.map fun c=>V.str ⟨#[c]⟩
theorem lX(x:Str):(dh x).length=x.cps.size:=by simp[dh]
theorem C7{P:Mw}{w:MG}{K:Ow}{tg:MJ}(it:Mg)(x:Str)(t:Tok)(ty:String)(hty:ty="str_ascii_iterator"\/ty="str_iterator"):
  Turn P w K tg (LH (dh x)) [it] it (fun i h=>h.IsStrIter it ty x t i) where
 mem:=by simp
 obj:=fun i h st b hb=>by
  have e:b=it:=by simpa using hb
  subst e;obtain⟨o,e,c,d⟩:=st;exact⟨o,e,fun v z=>by rw[d]at z;cases z⟩
 keep:=fun i h h' st k=>let ⟨o,ho,r⟩:=st;⟨o,k it (by simp) o ho,r⟩
 item:=by
  intro X hP hw hK hc i pins s σ H E I hf st hg;subst hP hw hK;obtain⟨f0,f1,f2,f3,f4,f5⟩:=hf it (by simp)
  have W:Walks X.prog X.w X.A it [it] [it] x.cps.size (SignAt x) (fun i h=>h.IsStrIter it ty x t i):=by
   rcases hty with rfl|rfl
   ·exact Walks.strAscii (I.ok.hd hc) it x t
   ·exact Walks.strWide (I.ok.hd hc) it x t
  refine W.item i s _ _ (by have:i < (dh x).length:=hg;rw[lX]at this;exact this) st fun v h' tk hv st' kk=>?_
  obtain⟨c,u,hc',rfl⟩:=hv;have I1:Inv X pins σ H { s with heap:=h',toks:=tk }:=I.turned (fun b o hb e=>kk b o (by simpa using hb) e) f0 f1 f3 f4 f5
  obtain⟨o,e,c1,d⟩:=id st';refine⟨_,rfl,zl (s:={ s with heap:=h',toks:=tk }) e c1 d (by rcases hty with rfl|rfl<;>decide) ⟨.str ⟨#[c]⟩,H,I1,⟨u,rfl⟩,⟨rfl,?_⟩,st',fun b hb=>(hf b hb).1⟩⟩
  simp only[dh,MA,Array.getElem?_toList,hc',Option.map_some]
 done:=by
  intro X hP hw hK hc i pins s σ H E I hf st hg;subst hP hw hK;obtain⟨f0,f1,f2,f3,f4,f5⟩:=hf it (by simp)
  have W:Walks X.prog X.w X.A it [it] [it] x.cps.size (SignAt x) (fun i h=>h.IsStrIter it ty x t i):=by
   rcases hty with rfl|rfl
   ·exact Walks.strAscii (I.ok.hd hc) it x t
   ·exact Walks.strWide (I.ok.hd hc) it x t
  have e:i=x.cps.size:=by have:i=(dh x).length:=hg;rw[lX]at this;exact this
  subst e;exact W.done s _ _ st fun h' tk kk=>⟨rfl,I.turned (fun b o hb e=>kk b o (by simpa using hb) e) f0 f1 f3 f4 f5⟩
 self:=fun A i s Q E st h=>by
  rcases hty with rfl|rfl
  ·exact wpAny_pyIter_striter_ascii st h
  ·exact wpAny_pyIter_striter_wide st h
section
variable{X:Cx}{tg:MJ}
theorem A2{env:Env}:∀ (names:List (Str×OJ)) (sc:NV),sc.names=names->(∀ x∈names,x.2=.free->∃ c,env.cells.lookup x.1=some c)->
  ∃ cl,P_ sc env=pure cl/\(∀ x c,cl.lookup x=some c->env.cells.lookup x=some c)/\(∀ x∈names,x.2=.free->∃ c,cl.lookup x.1=some c):=by
 have loop:∀ (names:List (Str×OJ)) (cs:List (Str×Mg)),(∀ x∈names,x.2=.free->∃ c,env.cells.lookup x.1=some c)->(∀ x c,cs.lookup x=some c->env.cells.lookup x=some c)->
   ∃ cl,(forIn names cs fun (x:Str×OJ) (r:List (Str×Mg))=>(match x with
    | (name,kind)=>if (kind == NameKind.free)=true then (do let a <- cellOf env name;pure (ForInStep.yield ((name,a)::r)))else pure (ForInStep.yield r):Sem (ForInStep (List (Str×Mg)))))=(pure cl:Sem (List (Str×Mg)))/\
    (∀ x c,cl.lookup x=some c->env.cells.lookup x=some c)/\(∀ x,(∃ c,cs.lookup x=some c)->∃ c,cl.lookup x=some c)/\(∀ x∈names,x.2=.free->∃ c,cl.lookup x.1=some c):=by
  intro names
  induction names with
  | nil=>intro cs _ h2;exact⟨cs,rfl,h2,fun _ z=>z,fun _ z=>nomatch z⟩
  | cons y r ih=>
   obtain⟨name,kind⟩:=y;intro cs h1 h2;cases hk:(kind == NameKind.free) with
   | false=>
    obtain⟨cl,e,a,b,c⟩:=ih cs (fun x hx=>h1 x (My _ hx)) h2;refine⟨cl,?_,a,b,fun x hx hf=>?_⟩
    ·rw[Oe];simp only[hk,Bool.false_eq_true,if_false];exact e
    ·rcases MP.mp hx with rfl|hx
     ·rw[show kind=NameKind.free from hf]at hk;cases hk
     ·exact c x hx hf
   | true=>
    have hkf:kind=NameKind.free:=by simpa using hk
    obtain⟨ca,hca⟩:=h1 (name,kind) Mz hkf;have R1:env.cells.lookup name=some ca:=hca;have nx:∀ x c,((name,ca)::cs).lookup x=some c->env.cells.lookup x=some c:=fun x c hx=>by
     rw[Nt]at hx;split at hx
     ·rename_i hb;have:x=name:=by simpa using hb
      cases hx;rw[this];exact R1
     ·exact h2 x c hx
    obtain⟨cl,e,a,b,c⟩:=ih ((name,ca)::cs) (fun x hx=>h1 x (My _ hx)) nx;refine⟨cl,?_,a,fun x ⟨c',hx⟩=>?_,fun x hx hf=>?_⟩
    ·rw[Oe];simp only[hk,if_true];unfold cellOf;rw[R1];exact e
    ·by_cases hxn:x=name
     ·exact b x ⟨ca,by rw[Nt,hxn,beq_self_eq_true]⟩
     ·exact b x ⟨c',by rw[Nt,show (x == name)=false by simpa using hxn];exact hx⟩
    ·rcases MP.mp hx with rfl|hx
     ·exact b name ⟨ca,by rw[Nt,beq_self_eq_true]⟩
     ·exact c x hx hf
 intro names sc hsc h;subst hsc;obtain⟨cl,e,a,_,c⟩:=loop sc.names [] h (fun x c z=>by simp at z)
 refine⟨cl,?_,a,c⟩;unfold P_;show (forIn sc.names [] _ >>= fun r=>pure r)=_
 refine Eq.trans ?_ (congrArg (fun m=>m >>= fun r=>(pure r:Sem (List (Str×Mg)))) e);rfl
def bC(X:Cx)(N':List Str)(scope:NV)(cl:List (Str×Mg))(C:Mg)(s₀:Mi)(H₀:Hp)(fp:List Mg):Cx:=
 { X with N:=N',s₀:=s₀,H₀:=H₀,env:=compEnvC scope cl C X.env,outer:=X.stack,ex:=fp,fn:=fun _=>false,pn:=[],xe:=fun _ _=>False }
end
section
variable{prog:Mw}{w:MG}{A:MB}{R:Q2->Mi->Prop}{s:Mi}
theorem k_{elt target iter:MJ}{ifs:List MJ}{scope:NV}{pos:Pos}{it acc:Mf}{env:Env}(J:Nat->Mi->Prop)
  (turn:∀ n s,J n s->Mo (Ms prog w) A (NK it) (fun r s₁=>match r with
   | none=>R (.ok .next) s₁
   | some v=>Mo (Ms prog w) A (Oc target it v) (fun _ s₁'=>Mo (Ms prog w) A (assign target env v) (fun _ s₂=>
     Mo (Ms prog w) A (forIn ifs true fun c r=>if r=true then do let ok <- Qv c env (eval c env);pure (ForInStep.yield ok)else pure (ForInStep.yield r)) (fun ok s₃=>
      if ok=true then Mo (Ms prog w) A (eval elt env) (fun x s₄=>
       Mo (Ms prog w) A (call (.builtin "list.append") [acc,x]) (fun _ s₅=>∃ m,m < n/\J m s₅) (fun _ _=>False) s₄) (fun _ _=>False) s₃
      else ∃ m,m < n/\J m s₃) (fun _ _=>False) s₂) (fun _ _=>False) s₁') (fun _ _=>False) s₁) (fun _ _=>False) s)
  (n:Nat) (h:J n s):OP (Ms prog w) A (.compLoop (.ListComp elt [⟨target,iter,ifs,0⟩] scope pos) 0 it acc env) R s:=by
 refine codeAny_loop rfl J (fun n s hI=>?_) n h;show Mo _ A ((compTurn (.ListComp elt [⟨target,iter,ifs,0⟩] scope pos) 0 it acc env).onRaise (fun x=>do noteFrame x env;theTreesLotGoes x)) _ _ s
 refine wpAny_noted ?_;rw[compTurn_list];refine Me (Pm (Me (M_ (turn n s hI) (fun r s₁ h₁=>?_) fun _ _ h'=>h'.elim)));cases r with
 | none=>exact Mj h₁
 | some v=>
  refine Me (M_ h₁ (fun _ s₁' h₁'=>?_) fun _ _ h'=>h'.elim);refine Me (M_ h₁' (fun _ s₂ h₂=>Me (M_ h₂ (fun ok s₃ h₃=>?_) fun _ _ h'=>h'.elim)) fun _ _ h'=>h'.elim);cases ok with
  | false=>exact Mj ⟨rfl,h₃⟩
  | true=>exact Me (Me (M_ h₃ (fun x s₄ h₄=>Me (M_ h₄ (fun _ s₅ h₅=>Mj (Mj ⟨rfl,h₅⟩)) fun _ _ h'=>h'.elim)) fun _ _ h'=>h'.elim))
end
def EZ(X:Cx)(ifs:List MJ)(tt:TT):Prop:=
 ∀ (pins:List (Mg×Obj)) (s:Mi) (σ:St) (H:Hp) (Q:Bool->Hp->Prop),Inv X pins σ H s->tt σ H Q->
  Mo (Ms X.prog X.w) X.A (forIn ifs true fun c r=>if r=true then do let ok <- Qv c X.env (eval c X.env);pure (ForInStep.yield ok)else pure (ForInStep.yield r)) (TP X pins σ Q) X.xe s
theorem Fw{X:Cx}:EZ X [] (fun _ H Q=>Q true H):=fun pins s σ H Q I h=>wpAny_tests_nil ⟨H,I,h⟩
theorem Fv{X:Cx}{c:MJ}{tt:TT}(h:PT X c tt):EZ X [c] tt:=fun pins s σ H Q I q=>wpAny_tests_one (h pins s σ H Q I q)
def Bg(ent:St->St)(wi:TI)(g:TG)(tt:TT)(te:TE):TE:=fun σ H Q=>wi σ H fun J H1=>∀ D,H1 D=none->∃ W:Nat->Nat->List V->St->Hp->Prop,(∃ m,W 0 m [] (ent σ) (aV H1 D (.lst [])))/\
 ∀ i m ys σ1 H2,W i m ys σ1 H2->H2 D=some (.lst ys)/\((J.stop i H2/\Q (.ref D) H2)\/(J.go i H2/\∃ N:List V->St->Hp->Prop,(∀ ys' σ' H',N ys' σ' H'->∃ m',m' < m/\W (i+1) m' ys' σ' H')/\
  ∀ x H',J.yld i H2 x H'->g x σ1 H' fun σ2 H3=>tt σ2 H3 fun b H4=>if b=true then te σ2 H4 fun y H5=>H5 D=some (.lst ys)/\ys.length < Mq/\N (ys ++ [y]) σ2 (aV H5 D (.lst (ys ++ [y])))else N ys σ2 H4))
theorem gT{scope:NV}{env:Env}(Rp:∀ y∈scope.names,y.2≠.cell){x:Str}(h:(PZ scope env).names.lookup x=some .cell\/(PZ scope env).names.lookup x=some .free):∃ y∈scope.names,y.1=x/\y.2=.free:=by
 have go:∀ (names:List (Str×OJ)),(∀ y∈names,y.2≠.cell)->∀ k,(names.map fun (n,k)=>if (k == .free && env.scope.kind == .function && env.kindOf n == some .cell)then (n,NameKind.cell)else (n,k)).lookup x=some k->(k=.cell\/k=.free)->∃ y∈names,y.1=x/\y.2=.free:=by
  intro names
  induction names with
  | nil=>intro _ k e _;simp at e
  | cons y r ih=>
   obtain⟨n,kd⟩:=y;intro hc k e hk;rw[MF,Nt]at e;split at e
   ·rename_i hb;cases e;have nc:kd≠.cell:=hc (n,kd) Mz;refine⟨(n,kd),Mz,?_,?_⟩
    ·split at hb
     ·simpa using (eq_of_beq hb).symm
     ·simpa using (eq_of_beq hb).symm
    ·split at hk
     ·rename_i hq;simp only[Bool.and_eq_true]at hq
      simpa using hq.1.1
     ·rcases hk with hk|hk
      ·exact absurd hk nc
      ·exact hk
   ·obtain⟨y,hy,q⟩:=ih (fun y hy=>hc y (My _ hy)) k e hk;exact⟨y,My _ hy,q⟩
 rcases h with h|h
 ·exact go scope.names Rp _ h (.inl rfl)
 ·exact go scope.names Rp _ h (.inr rfl)
theorem l_{scope:NV}{env:Env}{x:Str}(h:(PZ scope env).names.lookup x=some .local):∃ y∈scope.names,y.1=x/\y.2=.local:=by
 have go:∀ (names:List (Str×OJ)),(names.map fun (n,k)=>if (k == .free && env.scope.kind == .function && env.kindOf n == some .cell)then (n,NameKind.cell)else (n,k)).lookup x=some .local->∃ y∈names,y.1=x/\y.2=.local:=by
  intro names
  induction names with
  | nil=>intro e;simp at e
  | cons y r ih=>
   obtain⟨n,kd⟩:=y;intro e;rw[MF,Nt]at e;split at e
   ·rename_i hb;refine⟨(n,kd),Mz,?_,?_⟩
    ·split at hb
     ·simpa using (eq_of_beq hb).symm
     ·simpa using (eq_of_beq hb).symm
    ·split at e
     ·cases e
     ·simpa using e
   ·obtain⟨y,hy,q⟩:=ih e;exact⟨y,My _ hy,q⟩
 exact go scope.names h
structure CompOk(X:Cx)(scope:NV)(T M:List Str):Prop where
 calm:X.calm=true
 kind:scope.kind=.function
 cell:∀ y∈scope.names,y.2≠.cell
 names:∀ y∈scope.names,y.2=.local->scope.names.lookup y.1=some .local
 loc:∀ y∈scope.names,y.2=.local->y.1∈((".0":Str)::T)
 len:M.length=X.N.length
 sub:∀ (i:Nat) x,M[i]?=some x->X.N[i]?=some x\/∀ y∈scope.names,y.1≠x
 off:∀ x∈M,x∉((".0":Str)::T)
 free:∀ y∈scope.names,y.2=.free->X.env.kindOf y.1=some .cell\/X.env.kindOf y.1=some .free
def ent(T:List Str)(σ:St):St:=T.map (fun _=>none) ++ σ
section
variable{X:Cx}{pins:List (Mg×Obj)}{σ:St}{H:Hp}{s:Mi}
theorem Inv.block{scope:NV}{T M:List Str}{fp:List Mg}{h₁:MD}{tk:Nat}{cl:List (Str×Mg)}(I:Inv X pins σ H s)(ok:CompOk X scope T M)(hf:∀ b∈fp,qw X pins H b)(ho:∀ b∈fp,∃ o,s.heap.get? b=some o)
  (hc1:∀ x c,cl.lookup x=some c->X.env.cells.lookup x=some c) (hc2:∀ x∈scope.names,x.2=.free->∃ c,cl.lookup x.1=some c)
  (hns:h₁.Ns s.heap.objs.size fun _=>none) (kp:∀ b o,s.heap.get? b=some o->h₁.get? b=some o):
  Inv (bC X (T ++ M) scope cl s.heap.objs.size s H fp) [] (ent T σ) H { s with heap:=h₁,toks:=tk }:=by
 have fpC:∀ b∈fp,b≠s.heap.objs.size:=fun b hb z=>by
  obtain⟨o,e⟩:=ho b hb;exact absurd (Mu e) (by rw[z];exact Nat.lt_irrefl _)
 have cellsOk:∀ x c,(bC X (T ++ M) scope cl s.heap.objs.size s H fp).env.cells.lookup x=some c->X.env.cells.lookup x=some c:=hc1;refine⟨⟨I.ok.mod,ok.kind,I.ok.glob,I.ok.blt,le_refl _,fun x y c h1 h2=>I.ok.inj x y c (hc1 x c h1) (hc1 y c h2),fun x hx=>?_,(fun x c h=>absurd h (by show ¬ (false=true);decide)),I.ok.hd,I.ok.frames,.inl rfl,fun b hb=>⟨fpC b hb,fun x c e=>(hf b hb).2.2.2.2.1 x c (hc1 x c e)⟩,I.bs,le_trans I.ok.bsz I.sz,fun b o e hb=>?_,fun b hb hs=>?_,I.stack,I.stkFree⟩,
  rfl,I.bare,Un.kept kp,⟨_,hns,fun i x v e1 e2 e3=>?_⟩,fun x c e=>?_,I.hok.fresh (le_refl _),fun x c e=>I.freeC x c (hc1 x c e),fun p hp=>absurd (show p∈([]:List (Mg×Obj))from hp) (by simp),I.hok.kept kp,?_⟩
 ·obtain⟨y,hy,e,hfr⟩:=gT ok.cell hx;rw[<- e];exact hc2 y hy hfr
 ·rcases (hf b hb).2.2.2.1 with z|z
  ·exact I.ok.noex b o e z
  ·exact absurd (MH (Mu e) (le_trans I.ok.bsz z)) (Nat.lt_irrefl _)
 ·rcases MP.mp (I.stkSub b hs)with z|z
  ·exact (hf b hb).2.1 z
  ·exact (hf b hb).2.2.1 z
 ·-- a name that is known: it is drawn from around
  have hi:T.length<=i:=by
   refine Nat.le_of_not_lt fun hlt=>?_;unfold ent at e2;rw[List.getElem?_append_left (by simpa using hlt),MA]at e2
   cases q:T[i]? with
   | none=>rw[q]at e2;cases e2
   | some z=>rw[q]at e2;cases e2
  have e0':M[i - T.length]?=some x:=by
   have:=e1;show M[i - T.length]?=some x
   rw[<- List.getElem?_append_right hi];exact this
  have e1':X.N[i - T.length]?=some x:=by
   rcases ok.sub _ x e0' with z|z
   ·exact z
   ·exfalso;rcases e3 with e3|e3|e3
    ·obtain⟨y,hy,e,hl⟩:=l_ e3;exact z y hy e
    ·obtain⟨y,hy,e,_⟩:=gT ok.cell (.inl e3);exact z y hy e
    ·obtain⟨y,hy,e,_⟩:=gT ok.cell (.inr e3);exact z y hy e
  have e2':σ[i - T.length]?=some (some v):=by
   unfold ent at e2;rw[List.getElem?_append_right (by simpa using hi),Ml]at e2
   exact e2
  have Ro:(PZ scope X.env).names.lookup x=some .cell\/(PZ scope X.env).names.lookup x=some .free:=by
   rcases e3 with e3|e3|e3
   ·obtain⟨y,hy,e,hl⟩:=l_ e3;exact absurd (by rw[<- e];exact ok.loc y hy hl) (ok.off x (Mv e0'))
   ·exact .inl e3
   ·exact .inr e3
  obtain⟨y,hy,e,hfr⟩:=gT ok.cell Ro;subst e;have hk:=ok.free y hy hfr;obtain⟨m,hn,hl⟩:=I.loc;obtain⟨u,r,l⟩:=hl _ _ v e1' e2' (by rcases hk with hk|hk;exact .inr (.inl hk);exact .inr (.inr hk))
  refine⟨u,r,.inr ⟨Ro,?_⟩⟩;rcases l with ⟨l1,_⟩|⟨_,c,ec,z⟩
  ·rcases hk with hk|hk
   ·rw[hk]at l1;cases l1
   ·rw[hk]at l1;cases l1
  ·obtain⟨c',ec'⟩:=hc2 y hy hfr;have:=hc1 _ _ ec';rw[ec]at this;cases this;obtain⟨o,ho',hd⟩:=z;exact⟨c,ec',o,kp _ _ ho',hd⟩
 ·obtain⟨v,o,ho',hd⟩:=I.cell x c (hc1 x c e);exact⟨v,o,kp _ _ ho',hd⟩
 ·show (ent T σ).length=(T ++ M).length;unfold ent;rw[Na,Na,Ml,I.len,ok.len]
end
section
variable{X:Cx}{elt tg iter:MJ}{ifs:List MJ}{scope:NV}{T M:List Str}{pos:Pos}{wi:TI}{g:TG}{tt:TT}{te:TE}
theorem zD{pins:List (Mg×Obj)}{s2:Mi}{σ:St}{H1:Hp}{Q:VK}{J:It}{it:Mg}{fp:List Mg}{tn:Nat->MD->Prop}{cl:List (Str×Mg)}{RR:Mf->Mg->Q2->Mi->Prop}{E:Mf->Mi->Prop}(ok:CompOk X scope T M)
  (hin:∀ cl C s₀ H₀ fp,PG (bC X (T ++ M) scope cl C s₀ H₀ fp) tg g/\EZ (bC X (T ++ M) scope cl C s₀ H₀ fp) ifs tt/\PE (bC X (T ++ M) scope cl C s₀ H₀ fp) elt te)
  (hc1:∀ x c,cl.lookup x=some c->X.env.cells.lookup x=some c) (hc2:∀ x∈scope.names,x.2=.free->∃ c,cl.lookup x.1=some c)
  (I2:Inv X pins σ H1 s2) (Tn:Turn X.prog X.w X.K tg J fp it tn) (st2:tn 0 s2.heap) (f2:∀ b∈fp,qw X pins H1 b)
  (h:∀ D,H1 D=none->∃ W:Nat->Nat->List V->St->Hp->Prop,(∃ m,W 0 m [] (ent T σ) (aV H1 D (.lst [])))/\
   ∀ i m ys σ1 H2,W i m ys σ1 H2->H2 D=some (.lst ys)/\((J.stop i H2/\Q (.ref D) H2)\/(J.go i H2/\∃ N:List V->St->Hp->Prop,(∀ ys' σ' H',N ys' σ' H'->∃ m',m' < m/\W (i+1) m' ys' σ' H')/\
    ∀ x H',J.yld i H2 x H'->g x σ1 H' fun σ2 H3=>tt σ2 H3 fun b H4=>if b=true then te σ2 H4 fun y H5=>H5 D=some (.lst ys)/\ys.length < Mq/\N (ys ++ [y]) σ2 (aV H5 D (.lst (ys ++ [y])))else N ys σ2 H4)))
  (hRR:∀ D C H' s',Inv X pins σ H' s'->(∃ m,s'.heap.Ns C m)->H' C=none->C≠X.env.locals->X.s₀.heap.objs.size<=C->(∀ x c,X.env.cells.lookup x=some c->c≠C)->(∀ p∈X.pn ++ pins,p.1≠C)->Q (.ref D) H'->RR (.ref D) C (.ok .next) s'):
  Mo (Ms X.prog X.w) X.A (newList []) (fun acc s₃=>Mo (Ms X.prog X.w) X.A (newFunctionEnv scope X.env.globals cl [] X.env.qual none .none (some X.env)) (fun cenv s₄=>
   OP (Ms X.prog X.w) X.A (.compStart (.ListComp elt [⟨tg,iter,ifs,0⟩] scope pos) 0 (.ref it) acc { cenv with scope:=PZ scope X.env }) (RR acc cenv.locals) s₄) E s₃) E s2:=by
 refine MW ?_;have hD:H1 s2.heap.objs.size=none:=I2.hok.fresh (le_refl _);obtain⟨W,⟨m0,w0⟩,turn⟩:=h _ hD;have I3:Inv X pins σ (aV H1 s2.heap.objs.size (.lst [])) { s2 with heap:=s2.heap.push { cls:=.type "list",data:=.seq ([]:List Mf).toArray } }:=I2.lnew (t':=s2.toks) .nil (M0 _)
 have f3:∀ b∈fp,qw X pins (aV H1 s2.heap.objs.size (.lst [])) b:=fun b hb=>by
  have q:=f2 b hb;obtain⟨o,e,_⟩:=Tn.obj 0 _ st2 b hb;exact⟨by rw[ar (MO (Mu e))];exact q.1,q.2⟩
 have st3:tn 0 (s2.heap.push { cls:=.type "list",data:=.seq ([]:List Mf).toArray }):=Tn.keep _ _ _ st2 fun b _ o e=>Mm _ e;generalize hs3:({ s2 with heap:=s2.heap.push { cls:=.type "list",data:=.seq ([]:List Mf).toArray } }:Mi)=s3 at I3 ⊢
 have RV:tn 0 s3.heap:=by rw[<- hs3];exact st3
 generalize hH3:aV H1 s2.heap.objs.size (.lst [])=H3 at I3 f3 w0;generalize hDD:s2.heap.objs.size=D at *
 refine QG ok.cell (by intro y hy;simp at hy) (fun h₁ Sd hsb₁=>?_) ok.kind
 have kp:∀ b o,s3.heap.get? b=some o->h₁.get? b=some o:=fun b o e=>hsb₁.extBut b o (MO (Mu e)) (Mm _ e);have hns:h₁.Ns s3.heap.objs.size fun _=>none:=by simpa using Sd
 have I4:Inv (bC X (T ++ M) scope cl s3.heap.objs.size s3 H3 fp) [] (ent T σ) H3 { s3 with heap:=h₁,toks:=s3.toks+([]:List (Str×Mf)).length }:=
  I3.block ok f3 (fun b hb=>let ⟨o,e,_⟩:=Tn.obj 0 _ RV b hb;⟨o,e⟩) hc1 hc2 hns kp
 have st4:tn 0 h₁:=Tn.keep _ _ _ RV fun b _ o e=>kp b o e;obtain⟨hG,hT,hE⟩:=hin cl s3.heap.objs.size s3 H3 fp;have back:∀ {Rk:List (Mg×Obj)} {σ':St} {H':Hp} {s':Mi},Inv (bC X (T ++ M) scope cl s3.heap.objs.size s3 H3 fp) Rk σ' H' s'->Inv X pins σ H' s':=fun {Rk σ' H' s'} I'=>
  I3.call' (ch:=fp) I'.os I'.base I'.hok I'.bare fun b hb=>let q:=f3 b hb;⟨q.2.2.2.1,q.2.1,q.2.2.2.2.1,q.2.2.2.2.2⟩
 have loop:∀ s4:Mi,Inv (bC X (T ++ M) scope cl s3.heap.objs.size s3 H3 fp) [] (ent T σ) H3 s4->tn 0 s4.heap->
   OP (Ms X.prog X.w) X.A (.compLoop (.ListComp elt [⟨tg,iter,ifs,0⟩] scope pos) 0 (.ref it) (.ref D) (compEnvC scope cl s3.heap.objs.size X.env)) (RR (.ref D) s3.heap.objs.size) s4:=by
  intro s4 I4 st4;have fpX:∀ {Rk:List (Mg×Obj)} {H':Hp},Rk=[]->(∀ b∈fp,H' b=none)->∀ b∈fp,qw (bC X (T ++ M) scope cl s3.heap.objs.size s3 H3 fp) Rk H' b:=fun {Rk H'} ep hn b hb=>by
   subst ep;refine⟨hn b hb,(I4.ok.exf b hb).1,I4.ok.exfs b hb,.inl hb,(I4.ok.exf b hb).2,fun p hp=>absurd (show p∈([]:List (Mg×Obj))from hp) (by simp)⟩
  refine k_ (fun n s'=>∃ i ys σ' H',Inv (bC X (T ++ M) scope cl s3.heap.objs.size s3 H3 fp) [] σ' H' s'/\tn i s'.heap/\(∀ b∈fp,H' b=none)/\W i n ys σ' H') ?_ m0 ⟨0,[],ent T σ,H3,I4,st4,fun b hb=>(f3 b hb).1,w0⟩
  rintro n s5 ⟨i,ys,σ5,H5,I5,st5,fr5,w5⟩
  obtain⟨hDl,hstep⟩:=turn i n ys σ5 H5 w5;rcases hstep with ⟨stop,qn⟩|⟨go,N,hN,step⟩
  ·refine cb (Tn.done (bC X (T ++ M) scope cl s3.heap.objs.size s3 H3 fp) rfl rfl rfl ok.calm i [] s5 _ H5 _ I5 (fpX rfl fr5) st5 stop) fun r s6 zz=>?_;obtain⟨hr,I6⟩:=zz;subst hr;have I7:=back I6;obtain⟨m,hm,_⟩:=I6.loc;refine hRR D s3.heap.objs.size H5 s6 I7 ⟨m,hm⟩ I6.free ?_ ?_ ?_ ?_ qn
   ·exact Pc I3.lt
   ·exact I3.sz
   ·intro x c e z;obtain⟨v,q⟩:=I3.cell x c e;exact absurd q.lt (by rw[z];exact Nat.lt_irrefl _)
   ·intro p hp z;exact absurd (Mu (I3.pin p hp).1) (by rw[z];exact Nat.lt_irrefl _)
  ·refine cb (Tn.item (bC X (T ++ M) scope cl s3.heap.objs.size s3 H3 fp) rfl rfl rfl ok.calm i [] s5 _ H5 _ I5 (fpX rfl fr5) st5 go) fun r s6 zz=>?_;obtain⟨u,hr,h6⟩:=zz;subst hr;refine cb h6 fun _ s7 zz=>?_;obtain⟨x,H7,I7,r7,y7,st7,fr7⟩:=zz;have I7':=I7.pinned (fpX rfl fr7) (Tn.obj _ _ st7);refine cb (hG _ s7 _ H7 x u _ I7' r7 (step x H7 y7)) fun _ s8 zz=>?_;obtain⟨σ8,H8,I8,q8⟩:=zz;have again:∀ {s9:Mi} {H9:Hp} {ys':List V},Inv (bC X (T ++ M) scope cl s3.heap.objs.size s3 H3 fp) ([] ++ pT fp s7.heap) σ8 H9 s9->N ys' σ8 H9->
     ∃ m,m < n/\∃ i ys σ' H',Inv (bC X (T ++ M) scope cl s3.heap.objs.size s3 H3 fp) [] σ' H' s9/\tn i s9.heap/\(∀ b∈fp,H' b=none)/\W i m ys σ' H':=fun {s9 H9 ys'} I9 n9=>by
    obtain⟨m',hm,w9⟩:=hN ys' σ8 H9 n9;refine⟨m',hm,i+1,ys',σ8,H9,I9.unpinned,Tn.keep _ _ _ st7 fun b hb o e=>(I9.pin (b,o) (MV _ (MV _ (h9 hb e)))).1,fun b hb=>?_,w9⟩;obtain⟨o,e,d⟩:=Tn.obj _ _ st7 b hb;exact (I9.pin (b,o) (MV _ (MV _ (h9 hb e)))).2.1
   refine cb (hT _ s8 σ8 H8 _ I8 q8) fun b s9 zz=>?_;obtain⟨H9,I9,q9⟩:=zz;cases b with
   | false=>exact again I9 q9
   | true=>
    refine cb (hE _ s9 σ8 H9 _ I9 q9) fun u10 s10 zz=>?_;obtain⟨y,H10,I10,r10,e10,l10,n10⟩:=zz;refine cb (vV (X:=bC X (T ++ M) scope cl s3.heap.objs.size s3 H3 fp) _ s10 σ8 H10 (.ref D) [y] (.ref D) [u10] (fun v H'=>v=.non/\H'=aV H10 D (.lst (ys ++ [y]))) I10 rfl (.cons r10 .nil) ⟨D,ys,y,rfl,rfl,e10,l10,rfl,rfl⟩) fun u11 s11 zz=>?_;obtain⟨z,H11,I11,r11,_,e11⟩:=zz;subst e11;exact again I11 n10
 exact codeAny_compStart_list (loop _ I4 st4) (Tn.self _ 0 _ _ _ st4 (loop _ I4 st4))
theorem BE(ok:CompOk X scope T M){pins:List (Mg×Obj)}{σ:St}{H:Hp}{s:Mi}(I:Inv X pins σ H s):∃ cl,P_ scope X.env=pure cl/\(∀ x c,cl.lookup x=some c->X.env.cells.lookup x=some c)/\(∀ x∈scope.names,x.2=.free->∃ c,cl.lookup x.1=some c):=
 A2 scope.names scope rfl fun x hx hf=>I.ok.has x.1 (ok.free x hx hf)
theorem Bo(ok:CompOk X scope T M)
  (hin:∀ cl C s₀ H₀ fp,PG (bC X (T ++ M) scope cl C s₀ H₀ fp) tg g/\EZ (bC X (T ++ M) scope cl C s₀ H₀ fp) ifs tt/\PE (bC X (T ++ M) scope cl C s₀ H₀ fp) elt te)
  (hi:PI X tg iter wi) (hs:∀ x,Nh iter X.env x=pure x:=by intro _;rfl):PE X (.ListComp elt [⟨tg,iter,ifs,0⟩] scope pos) (Bg (ent T) wi g tt te):=by
 intro pins s σ H Q I h;obtain⟨cl,hcl,hc1,hc2⟩:=BE ok I;rw[eval_ListComp];refine Qe (use:=none) rfl hs hcl ok.kind ok.names (cb (hi pins s σ H _ I h) fun v s1 h1=>cb h1 fun itv s2 h2=>?_);obtain⟨it,fp,tn,J,H2,e,I2,Tn,st2,f2,hh⟩:=h2;subst e;refine zD (Q:=Q) (RR:=fun acc C=>compPost (Ms X.prog X.w) X.A X.xe none (EP X pins σ Q) acc C) ok hin hc1 hc2 I2 Tn st2 f2 hh ?_;intro D C H' s' I' hm hn n1 n2 n3 n4 q;obtain⟨m,hm⟩:=hm;exact⟨m,hm,fun h' sb=>⟨.ref D,H',I'.turned (t':=s'.toks) (fun b o hb e=>(sb.2 b hb).trans e) hn (Ne.symm (Ne.symm n1)) (.inr n2) n3 n4,rfl,q⟩⟩
theorem FC{i:Nat}{x:Str}{px spos:Pos}(ok:CompOk X scope T M)(hN:X.N.Nodup)(hix:X.N[i]?=some x)(hx:X.env.scope.names.lookup x=some .local)
  (hin:∀ cl C s₀ H₀ fp,PG (bC X (T ++ M) scope cl C s₀ H₀ fp) tg g/\EZ (bC X (T ++ M) scope cl C s₀ H₀ fp) ifs tt/\PE (bC X (T ++ M) scope cl C s₀ H₀ fp) elt te)
  (hi:PI X tg iter wi) (hsw:N3 (.ListComp elt [⟨tg,iter,ifs,0⟩] scope pos) (some (.Name x px)) spos.line X.env=pure true:=by rfl) (hs:∀ x,Nh iter X.env x=pure x:=by intro _;rfl):
  PS X (.Assign [.Name x px] (.ListComp elt [⟨tg,iter,ifs,0⟩] scope pos) spos) (Hs (gh (Bg (ent T) wi g tt te)) (zo i)):=by
 intro pins s σ H D3 I h;obtain⟨cl,hcl,hc1,hc2⟩:=BE ok I;rw[exec_Assign_Name_used _ _ _ _ hsw];refine Me (Pm (Me ?_));show Mo _ X.A (do let _ <- comprehension (.ListComp elt [⟨tg,iter,ifs,0⟩] scope pos) scope X.env _ (newList []) false (eval iter X.env) (some (assign (.Name x px) X.env))) _ _ s
 refine Me (M_ (Qe (use:=some (assign (.Name x px) X.env)) (Q:=fun _ s'=>SP X pins D3 .next s') rfl hs hcl ok.kind ok.names
  (cb (hi pins s σ H _ I h) fun v s1 h1=>cb h1 fun itv s2 h2=>?_)) (fun _ s' hq=>Mj (Mj hq)) fun _ _ e=>e)
 obtain⟨it,fp,tn,J,H2,e,I2,Tn,st2,f2,hh⟩:=h2;subst e;refine zD (Q:=fun v H1=>zo i v σ H1 D3.nx\/∃ p xs,v=.ref p/\H1 p=some (.lst xs)/\∀ o,zo i v σ (aV H1 p (.frz o (.lst xs))) D3.nx) (RR:=fun acc C=>compPost (Ms X.prog X.w) X.A X.xe (some (assign (.Name x px) X.env)) (fun _ s'=>SP X pins D3 .next s') acc C) ok hin hc1 hc2 I2 Tn st2 f2 hh ?_;intro D C H' s' I' hm hn n1 n2 n3 n4 q;obtain⟨m,hm⟩:=hm;have fin:∀ {H'':Hp},Inv X pins σ H'' s'->H'' C=none->D3.nx (σ.set i (some (.ref D))) H''->
   Mo (Ms X.prog X.w) X.A (assign (.Name x px) X.env (.ref D)) (fun _ s''=>∃ m,s''.heap.Ns C m/\∀ h',NN C s''.heap h'->SP X pins D3 .next { s'' with heap:=h' }) X.xe s':=fun {H''} J' hn' q'=>by
  refine Q5 (vE (v:=V.ref D) J' hN hix (.inl hx) rfl (fun s'' I'' ⟨a,sb,ha⟩=>?_) (.inr hx));have aC:C≠a:=by
   rcases ha with z|z
   ·rw[z];exact n1
   ·exact fun y=>n3 _ _ z y.symm
  refine⟨m,hm.sameBut sb aC,fun h' sb'=>⟨_,H'',I''.turned (t':=s''.toks) (fun b o hb e=>(sb'.2 b hb).trans e) hn' n1 (.inr n2) n3 n4,q'⟩⟩
 rcases q with q|⟨p,xs,ep,e1,q⟩
 ·exact fin I' hn q
 ·obtain⟨o,I''⟩:=I'.freeze e1;refine fin I'' ?_ (q o);rw[ar (fun z=>by subst z;rw[hn]at e1;cases e1)];exact hn
end
section
variable{X:Cx}{tg:MJ}
theorem PG.imp{e:MJ}{t t':TG}(h:PG X e t)(i:∀ v σ H Q,t' v σ H Q->t v σ H Q):PG X e t':=fun pins s σ H v u Q I r q=>h pins s σ H v u Q I r (i v σ H Q q)
theorem ER.imp{es:List MJ}{t t':GC}(h:ER X es t)(i:∀ vs σ H Q,t' vs σ H Q->t vs σ H Q):ER X es t':=fun pins s σ H v u Q I r q=>h pins s σ H v u Q I r (i v σ H Q q)
theorem PI.imp{e:MJ}{t t':TI}(h:PI X tg e t)(i:∀ σ H R,t' σ H R->t σ H R):PI X tg e t':=fun pins s σ H R I q=>h pins s σ H R I (i σ H R q)
variable{pins:List (Mg×Obj)}{σ:St}{H:Hp}{s:Mi}{R:It->Hp->Prop}{E:Mf->Mi->Prop}{a:Mg}{xs:List V}
theorem qe(I:Inv X pins σ H s)(hq:j_ X.K H a xs)(q:R (KE X.K a) H):Mo (Ms X.prog X.w) X.A (OF (.ref a)) (Hb X pins σ tg R) E s:=by
 obtain⟨its,rv,p,hz⟩:=I.list hq;refine OL p.isList ?_;refine⟨s.heap.objs.size,[s.heap.objs.size],_,_,H,rfl,I.kept (t':=s.toks) fun b o e=>Mm _ e,BU a _,⟨_,Mn _ rfl,rfl,rfl⟩,fun b hb=>?_,q⟩;have e:b=s.heap.objs.size:=by simpa using hb
 subst e;exact I.fpOk (le_refl _) (I.hok.fresh (le_refl _))
theorem zg(I:Inv X pins σ H s)(hq:jS X.K H a xs)(q:R (LG X.K a) H):Mo (Ms X.prog X.w) X.A (OF (.ref a)) (Hb X pins σ tg R) E s:=by
 obtain⟨its,rv,p,hz⟩:=I.tuple hq;refine wpAny_pyIter_tuple (show s.heap.IsTuple a its.toArray from p) ?_
 refine⟨s.heap.objs.size,[s.heap.objs.size],_,_,H,rfl,I.kept (t':=s.toks) fun b o e=>Mm _ e,zZ a _,⟨_,Mn _ rfl,rfl,rfl⟩,fun b hb=>?_,q⟩;have e:b=s.heap.objs.size:=by simpa using hb
 subst e;exact I.fpOk (le_refl _) (I.hok.fresh (le_refl _))
theorem zh{z:Str}{t:Tok}(I:Inv X pins σ H s)(q:R (LH (dh z)) H):Mo (Ms X.prog X.w) X.A (OF (.str z t)) (Hb X pins σ tg R) E s:=by
 have fin:∀ (ty:String),(ty="str_ascii_iterator"\/ty="str_iterator")->Hb X pins σ tg R (.ref s.heap.objs.size) { s with heap:=s.heap.push { cls:=.type ty,data:=.fields #[.str z t,.int 0 0] } }:=fun ty hty=>by
  refine⟨s.heap.objs.size,[s.heap.objs.size],_,_,H,rfl,I.kept (t':=s.toks) fun b o e=>Mm _ e,C7 _ z t ty hty,⟨_,Mn _ rfl,rfl,rfl⟩,fun b hb=>?_,q⟩;have e:b=s.heap.objs.size:=by simpa using hb
  subst e;exact I.fpOk (le_refl _) (I.hok.fresh (le_refl _))
 cases ha:z.cps.all (· < 128)
 ·exact wpAny_pyIter_wide ha (fin _ (.inr rfl))
 ·exact wpAny_pyIter_ascii ha (fin _ (.inl rfl))
end
end L2
namespace L3
open PySem PySem.Spec PyProof.Rows L2
abbrev ux:=D->eO->Gp->(eO->Gp->Prop)->Prop
abbrev CL:=List D->eO->Gp->(eO->Gp->Prop)->Prop
def jd(K:Ow)(g:ux):TG:=fun v τ H Q=>∃ d σ G Q3,RD K H d v/\RS K H σ τ/\RG K H G/\g d σ G Q3/\∀ σ' G' τ' H',Q3 σ' G'->Kp G H G' H'->RG K H' G'->RS K H' σ' τ'->Q τ' H'
def xb(K:Ow)(g:CL):GC:=fun vs τ H Q=>∃ ds σ G Q3,RDs K H ds vs/\RS K H σ τ/\RG K H G/\g ds σ G Q3/\∀ σ' G' τ' H',Q3 σ' G'->Kp G H G' H'->RG K H' G'->RS K H' σ' τ'->Q τ' H'
def gN(i:Nat):ux:=fun d σ G Q=>Q (σ.set i (some d)) G
def kY:CL:=fun ds σ G Q=>match ds with
 | []=>Q σ G
 | _=>False
def dk(t:ux)(u:CL):CL:=fun ds σ G Q=>match ds with
 | d::r=>t d σ G fun σ' G'=>u r σ' G' Q
 | []=>False
def kX(n:Nat)(t:CL):ux:=fun d σ G Q=>match d with
 | .tup ds=>ds.length=n/\t ds σ G Q
 | _=>False
section
variable{X:Cx}{pos:Pos}{e:MJ}{es:List MJ}{t:ux}{u:CL}
theorem aM{i:Nat}{x:Str}(hN:X.N.Nodup)(hi:X.N[i]?=some x)(hx:Hd X.env.scope x)(hf:X.fn x=true\/X.env.scope.names.lookup x=some .local:=by first|exact .inl rfl|exact .inr rfl|assumption):PG X (.Name x pos) (jd X.K (gN i)):=
 (FH hN hi hx hf).imp fun v τ H Q zz=>by
 obtain⟨d,σ,G,Q3,rd,rs,rg,h,k⟩:=zz;exact (
  k _ G _ H h Kp.refl rg (rs.set rd i))
theorem zn:ER X [] (xb X.K kY):=FG.imp fun vs τ H Q zz=>by
 obtain⟨ds,σ,G,Q3,rd,rs,rg,h,k⟩:=zz;cases ds with
 | nil=>exact⟨rd.inv_nil,k _ G _ H h Kp.refl rg rs⟩
 | cons _ _=>exact h.elim
theorem iO(h1:PG X e (jd X.K t))(h2:ER X es (xb X.K u))(hs:(NM (e::es) X.env).map (·.2)=assign e X.env::(NM es X.env).map (·.2):=by rfl):ER X (e::es) (xb X.K (dk t u)):=
 (DN h1 h2 hs).imp fun vs τ H Q zz=>by
  obtain⟨ds,σ,G,Q3,rd,rs,rg,h,k⟩:=zz;cases ds with
  | nil=>exact h.elim
  | cons d r=>
   obtain⟨x,xs,e1,r1,r2⟩:=rd.inv_cons;refine⟨x,xs,e1,d,σ,G,_,r1,rs,rg,h,fun σ' G' τ' H' q k' rg' rs'=>⟨r,σ',G',Q3,RDs.mono (k'.stb rg) _ _ r2,rs',rg',q,fun σ2 G2 τ2 H2 q2 k2=>k σ2 G2 τ2 H2 q2 (k'.trans k2)⟩⟩
theorem zm{k:Nat}{n:Nat}(hc:X.calm=true)(h:ER X es (xb X.K u))(hn:(NM es X.env).length=n:=by rfl)(hst:(NM es X.env).findIdx? (·.1)=none:=by rfl):PG X (.Tuple es k pos) (jd X.K (kX n u)):=
 (HJ hc h hn hst).imp fun v τ H Q zz=>by
  obtain⟨d,σ,G,Q3,rd,rs,rg,h,k⟩:=zz;cases d with
  | tup ds=>
   simp only[RD]at rd;obtain⟨a,xs,e1,q,r⟩:=rd;exact⟨a,xs,e1,q,by rw[<- r.length];exact h.1,ds,σ,G,Q3,r,rs,rg,h.2,k⟩
  | _=>exact h.elim
end
abbrev EY:=eO->Gp->(List D->Gp->Prop)->Prop
def xH(K:Ow)(G0:Gp)(H0:Hp)(ds:List D)(J:It):Prop:=∀ i G H,Kp G0 H0 G H->RG K H G->
 (i < ds.length->J.go i H/\∀ x H',J.yld i H x H'->Kp G H G H'/\RG K H' G/\∃ d,ds[i]?=some d/\RD K H' d x)/\(i=ds.length->J.stop i H)
def qT(K:Ow)(ti:EY):TI:=fun τ H R=>∃ σ G Q3,RS K H σ τ/\RG K H G/\ti σ G Q3/\∀ ds G' J H',Q3 ds G'->Kp G H G' H'->RG K H' G'->xH K G' H' ds J->R J H'
def signs(x:Str):List D:=x.cps.toList.map fun c=>D.str ⟨#[c]⟩
theorem Bz{K:Ow}{G0:Gp}{H0:Hp}{ds:List D}{xs:List V}(r:∀ H,RDs K H ds xs):xH K G0 H0 ds (LH xs):=fun i G H _ rg=>by
 have hl:=(r H).length;refine⟨fun hi=>⟨(show i < xs.length by walk_at "o"),fun x H' y=>?_⟩,fun e=>(show i=xs.length by walk_at "o")⟩
 obtain⟨rfl,hx⟩:=y;refine⟨Kp.refl,rg,ds[i],by simp[hi],?_⟩
 obtain⟨y,e,q⟩:=(r H').get (i:=i) (d:=ds[i]) (by simp[hi])
 rw[hx]at e;cases e;exact q
theorem BA{K:Ow}{G0:Gp}{H0:Hp}{ds:List D}{xs:List V}{a:Mg}(rg0:RG K H0 G0)(f:EV K H0 a xs)(r:RDs K H0 ds xs):xH K G0 H0 ds (KE K a):=fun i G H k rg=>by
 have hl:=r.length;have f':=(k.stb rg0).l _ _ f;have r':=RDs.mono (k.stb rg0) _ _ r;refine⟨fun hi=>⟨⟨xs,xs[i]'(by walk_at "o"),f'.sq,by simp[show i < xs.length by walk_at "o"]⟩,fun x H' y=>?_⟩,fun e=>⟨xs,f'.sq,by walk_at "o"⟩⟩
 obtain⟨rfl,hx⟩:=y;refine⟨Kp.refl,rg,ds[i],by simp[hi],?_⟩
 obtain⟨y,e,q⟩:=r'.get (i:=i) (d:=ds[i]) (by simp[hi])
 rw[hx xs f'.sq]at e;cases e;exact q
theorem Ed{K:Ow}{G0:Gp}{H0:Hp}{ds:List D}{xs:List V}{a:Mg}(rg0:RG K H0 G0)(f:jS K H0 a xs)(r:RDs K H0 ds xs):xH K G0 H0 ds (LG K a):=fun i G H k rg=>by
 have hl:=r.length;have f':=(k.stb rg0).t _ _ f;have r':=RDs.mono (k.stb rg0) _ _ r;refine⟨fun hi=>⟨⟨xs,xs[i]'(by walk_at "o"),f',by simp[show i < xs.length by walk_at "o"]⟩,fun x H' y=>?_⟩,fun e=>⟨xs,f',by walk_at "o"⟩⟩
 obtain⟨rfl,hx⟩:=y;refine⟨Kp.refl,rg,ds[i],by simp[hi],?_⟩
 obtain⟨y,e,q⟩:=r'.get (i:=i) (d:=ds[i]) (by simp[hi])
 rw[hx xs f']at e;cases e;exact q
def eF:D->Option (List D)
 | .lst ds=>some ds
 | .fl ds=>some ds
 | .tup ds=>some ds
 | .str x=>some (signs x)
 | _=>none
def eM(te:bn):EY:=fun σ G Q=>te σ G fun d G'=>match eF d with
 | some ds=>Q ds G'
 | none=>False
def fH(lo:Int)(n:Nat):List D:=(List.range n).map fun k=>D.int (lo+(k:Nat))
theorem zi{K:Ow}{G0:Gp}{H0:Hp}{lo:Int}{n:Nat}:xH K G0 H0 (fH lo n) (KD lo n):=fun i G H _ rg=>by
 have hl:(fH lo n).length=n:=by simp[fH]
 rw[hl];refine⟨fun hi=>⟨hi,fun x H' y=>?_⟩,fun e=>(show n<=i by walk_at "o")⟩
 obtain⟨rfl,rfl⟩:=y;exact⟨Kp.refl,rg,.int (lo+(i:Nat)),by simp[fH,hi],eh⟩
def KM(ta:m_):EY:=fun σ G Q=>ta σ G fun ds G'=>match ds with
 | [.int j]=>(-(2 ^ 62)<=j/\j < 2 ^ 62)/\Q (fH 0 j.toNat) G'
 | _=>False
def Lp(ta:m_):EY:=fun σ G Q=>ta σ G fun ds G'=>match ds with
 | [.int i,.int j]=>(-(2 ^ 62)<=i/\i < 2 ^ 62/\-(2 ^ 62)<=j/\j < 2 ^ 62)/\Q (fH i (j - i).toNat) G'
 | _=>False
section
variable{X:Cx}{tg e:MJ}{te:bn}
theorem dD(h:PE X e (ay X.K te)):PI X tg e (qT X.K (eM te)):=by
 intro pins s τ H R I hq;obtain⟨σ,G,Q3,rs,rg,hq,k⟩:=hq;refine cb (dB h pins s τ H (fun v H1=>∃ d G1,Kp G H G1 H1/\RG X.K H1 G1/\RD X.K H1 (val d) v/\(match eF d with|some ds=>Q3 ds G1|none=>False)) I ⟨σ,G,_,rs,rg,hq,fun d G' v H' q k' rg' rd=>⟨d,G',k',rg',rd,q⟩⟩) fun u s1 zz=>?_
 obtain⟨v,H1,I1,r1,d,G1,k1,rg1,rd,q⟩:=zz;have seq:∀ {a:Mg} {xs:List V} {ds:List D},EV X.K H1 a xs->RDs X.K H1 ds xs->Q3 ds G1->Mo (Ms X.prog X.w) X.A (OF (.ref a)) (Hb X pins τ tg R) X.xe s1:=fun f r q=>qe I1 f.sq (k _ G1 _ H1 q k1 rg1 (BA rg1 f r));cases d with
 | lst ds=>
  simp only[val,RD]at rd;obtain⟨a,xs,rfl,f,r⟩:=rd;cases r1;exact seq f r q
 | fl ds=>
  simp only[val,RD]at rd;obtain⟨a,xs,rfl,f,r⟩:=rd;cases r1;exact seq f r q
 | tup ds=>
  simp only[val,RD]at rd;obtain⟨a,xs,rfl,f,r⟩:=rd;cases r1;exact zg I1 f (k _ G1 _ H1 q k1 rg1 (Ed rg1 f r))
 | str z=>
  simp only[val,RD]at rd;subst rd;obtain⟨t,rfl⟩:=r1;refine zh I1 (k _ G1 _ H1 q k1 rg1 (Bz fun H'=>?_));have:signs z=(z.cps.toList.map fun c=>(⟨#[c]⟩:Str)).map D.str:=by simp[signs]
  rw[this];have e2:dh z=(z.cps.toList.map fun c=>(⟨#[c]⟩:Str)).map V.str:=by simp[dh]
  rw[e2];exact RDs.strs _
 | _=>exact q.elim
theorem zj{a:MJ}{ta:m_}{p pos:Pos}(hg:Gl X "range")(hm:X.mg "range"=none)(ha:PA X [a] (eg X.K ta))(hs:Mr [a] X.env=[(false,eval a X.env)]:=by rfl):PI X tg (.Call (.Name "range" p) [a] [] pos) (qT X.K (KM ta)):=
 (B8 hg hm ha hs).imp fun τ H R zz=>by
 obtain⟨σ,G,Q3,rs,rg,h,k⟩:=zz;exact (
  ⟨σ,G,_,rs,rg,h,fun ds G1 vs H1 q k1 rg1 rds=>by
    split at q
    ·rename_i j;obtain⟨x,r,e1,r1,r2⟩:=rds.inv_cons;have:=r2.inv_nil;simp only[RD]at r1;subst e1 this r1;exact⟨j,rfl,q.1.1,q.1.2,k _ G1 _ H1 q.2 k1 rg1 zi⟩
    ·exact q.elim⟩)
theorem Eg{a b:MJ}{ta:m_}{p pos:Pos}(hg:Gl X "range")(hm:X.mg "range"=none)(ha:PA X [a,b] (eg X.K ta))(hs:Mr [a,b] X.env=[(false,eval a X.env),(false,eval b X.env)]:=by rfl)(hs2:Mr [b] X.env=[(false,eval b X.env)]:=by rfl):
  PI X tg (.Call (.Name "range" p) [a,b] [] pos) (qT X.K (Lp ta)):=
 (B7 hg hm ha hs hs2).imp fun τ H R zz=>by
 obtain⟨σ,G,Q3,rs,rg,h,k⟩:=zz;exact (
  ⟨σ,G,_,rs,rg,h,fun ds G1 vs H1 q k1 rg1 rds=>by
    split at q
    ·rename_i i j;obtain⟨x,r,e1,r1,r2⟩:=rds.inv_cons;obtain⟨x',r',e1',r1',r2'⟩:=r2.inv_cons;have:=r2'.inv_nil;simp only[RD]at r1 r1';subst e1 e1' this r1 r1';exact⟨i,j,rfl,q.1,k _ G1 _ H1 q.2 k1 rg1 zi⟩
    ·exact q.elim⟩)
end
def ForIn(g:ux)(tb:bP)(E:Ends3)(σ:eO)(ds:List D)(G1:Gp):Prop:=∃ Pv:Nat->eO->Gp->Prop,Pv 0 σ G1/\
 (∀ (i:Nat) d σ' G',ds[i]?=some d->Pv i σ' G'->g d σ' G' fun σ2 G2=>tb { E with nx:=Pv (i+1),ct:=Pv (i+1),bk:=E.nx } σ2 G2)/\∀ σ' G',Pv ds.length σ' G'->E.nx σ' G'
def jl(ti:EY)(g:ux)(tb:bP):bP:=fun D σ G=>ti σ G fun ds G1=>ForIn g tb D σ ds G1
theorem i9{X:Cx}{tg iter:MJ}{body:List ML}{ti:EY}{g:ux}{tb:bP}{pos:Pos}(hp:Pk (Ms X.prog X.w) X.A X.env X.xe)(hc:X.calm=true)(hi:PI X tg iter (qT X.K ti))(hg:PG X tg (jd X.K g))(hb:nj X body (bO X.K tb))
  (hs:∀ x,Nh iter X.env x=pure x:=by intro _;rfl):PS X (.For tg iter body [] pos) (bO X.K (jl ti g tb)):=
 (DK hp hc hi hg hb hs).imp fun D τ H zz=>by
 obtain⟨σ,G,D3,rs,rg,h,k⟩:=zz;exact (
  ⟨σ,G,_,rs,rg,h,fun ds G1 J H1 q k1 rg1 it=>by
    obtain⟨Pv,p0,step,fin⟩:=q;refine⟨fun i m τ' H'=>m=ds.length - i/\i<=ds.length/\∃ σ' G',RS X.K H' σ' τ'/\RG X.K H' G'/\Pv i σ' G'/\Kp G1 H1 G' H',⟨ds.length,rfl,M0 _,σ,G1,rs.mono (k1.stb rg),rg1,p0,Kp.refl⟩,?_⟩
    rintro i m τ' H' ⟨rfl,hi',σ',G',rs',rg',pv,k'⟩
    obtain⟨hgo,hstop⟩:=it i G' H' k' rg'
    by_cases hlt:i < ds.length
    ·obtain⟨go,yld⟩:=hgo hlt;refine .inr ⟨go,fun τ2 H2=>∃ σ2 G2,RS X.K H2 σ2 τ2/\RG X.K H2 G2/\Pv (i+1) σ2 G2/\Kp G1 H1 G2 H2,fun τ2 H2 ⟨σ2,G2,a,b,c,d⟩=>⟨ds.length - (i+1),by walk_at "o",rfl,hlt,σ2,G2,a,b,c,d⟩,fun x H2 y=>?_⟩
     obtain⟨ky,rgy,d,hd,rd⟩:=yld x H2 y;refine⟨d,σ',G',_,rd,rs'.mono (ky.stb rg'),rgy,step i d σ' G' hd pv,fun σ3 G3 τ3 H3 q3 k3 rg3 rs3=>?_⟩;have kk:Kp G1 H1 G3 H3:=k'.trans (ky.trans k3);have kG:Kp G H G3 H3:=k1.trans kk;refine⟨σ3,G3,_,rs3,rg3,q3,⟨fun σ4 G4 τ4 H4 q4 k4 rg4 rs4=>⟨σ4,G4,rs4,rg4,q4,kk.trans k4⟩,k.rt.base kG,fun σ4 G4 τ4 H4 q4 k4=>k.nx σ4 G4 τ4 H4 q4 (kG.trans k4),fun σ4 G4 τ4 H4 q4 k4 rg4 rs4=>⟨σ4,G4,rs4,rg4,q4,kk.trans k4⟩⟩⟩
    ·have e:i=ds.length:=by walk_at "o"
     refine .inl ⟨hstop e,k.nx σ' G' τ' H' (fin σ' G' (by rw[<- e];exact pv)) (k1.trans k') rg' rs'⟩⟩)
def ik:rj:=fun _ G Q=>Q true G
def ni(k:Nat)(g:ux)(tt:rj)(te:bn)(σ:eO)(ds:List D)(G1:Gp)(Q:j9):Prop:=ds.length<=Mq/\∃ Pv:Nat->List D->Gp->Prop,Pv 0 [] G1/\
 (∀ (i:Nat) d acc G',ds[i]?=some d->Pv i acc G'->g d (List.replicate k none ++ σ) G' fun σ2 G2=>(k<=σ2.length/\σ2.drop k=σ)/\tt σ2 G2 fun b G3=>if b=true then te σ2 G3 fun y G4=>Pv (i+1) (acc ++ [val y]) G4 else Pv (i+1) acc G3)/\
 ∀ acc G',Pv ds.length acc G'->Q (.fl acc) G'
def dR(k:Nat)(ti:EY)(g:ux)(tt:rj)(te:bn):bn:=fun σ G Q=>ti σ G fun ds G1=>ni k g tt te σ ds G1 Q
theorem gc{k:Nat}{g:ux}{te:bn}{σ:eO}{ds:List D}{G1:Gp}{Q:j9}(f:D->D)(hl:ds.length<=Mq)
  (he:∀ d∈ds,∀ P:j9,(∀ y,val y=f d->P y G1)->g d (List.replicate k none ++ σ) G1 fun σ2 G2=>(k<=σ2.length/\σ2.drop k=σ)/\te σ2 G2 P) (hq:Q (.fl (ds.map f)) G1):ni k g ik te σ ds G1 Q:=by
 refine⟨hl,fun i acc G'=>acc=(ds.take i).map f/\G'=G1,⟨by simp,rfl⟩,fun i d acc G' hd ⟨ha,hG⟩=>?_,fun acc G' ⟨ha,hG⟩=>?_⟩
 ·subst hG;exact he d (Mv hd) (fun y G4=>acc ++ [val y]=(ds.take (i+1)).map f/\G4=G') fun y hy=>⟨by rw[ha,hy,MQ,hd];simp,rfl⟩
 ·subst hG;rw[ha,MM];exact hq
theorem zE{k:Nat}{g:ux}{tt:rj}{te:bn}{σ:eO}{ds:List D}{G1:Gp}{Q:j9}(p:D->Bool)(f:D->D)(hl:ds.length<=Mq)
  (he:∀ d∈ds,∀ (P:j9) (R:Gp->Prop),(p d=true->∀ y,val y=f d->P y G1)->(p d=false->R G1)->g d (List.replicate k none ++ σ) G1 fun σ2 G2=>(k<=σ2.length/\σ2.drop k=σ)/\tt σ2 G2 fun b G3=>if b=true then te σ2 G3 P else R G3)
  (hq:Q (.fl ((ds.filter p).map f)) G1):ni k g tt te σ ds G1 Q:=by
 refine⟨hl,fun i acc G'=>acc=((ds.take i).filter p).map f/\G'=G1,⟨by simp,rfl⟩,fun i d acc G' hd ⟨ha,hG⟩=>?_,fun acc G' ⟨ha,hG⟩=>?_⟩
 ·subst hG;have e:(ds.take (i+1)).filter p=(ds.take i).filter p ++ (if p d=true then [d]else []):=by
   rw[MQ,hd,Nu];cases hp:p d<;>simp[hp]
  refine he d (Mv hd) (fun y G4=>acc ++ [val y]=((ds.take (i+1)).filter p).map f/\G4=G') (fun G4=>acc=((ds.take (i+1)).filter p).map f/\G4=G') (fun hp y hy=>⟨?_,rfl⟩) fun hp=>⟨?_,rfl⟩
  ·rw[e,hp,ha,hy];simp
  ·rw[e,hp,ha];simp
 ·subst hG;rw[ha,MM];exact hq
section
variable{X:Cx}{elt tg iter:MJ}{ifs:List MJ}{scope:NV}{T M:List Str}{pos:Pos}{ti:EY}{g:ux}{tt:rj}{te:bn}
theorem Dq{K:Ow}{H:Hp}{σ:eO}{τ:St}(T:List Str)(r:RS K H σ τ):RS K H (List.replicate T.length none ++ σ) (ent T τ):=by
 unfold ent
 induction T with
 | nil=>exact r
 | cons a t ih=>exact .cons (show A6 K H none none from trivial) ih
theorem pL{K:Ow}{H:Hp}:∀ (k:Nat) {σ:eO} {τ:St},k<=σ.length->RS K H σ τ->RS K H (List.replicate k none ++ σ.drop k) τ
 | 0,_,_,_,r=>r
 | k+1,[],_,h,_=>absurd h (by simp)
 | k+1,a::t,_,h,.cons _ r=>.cons (show A6 K H none _ from trivial) (pL k (by simpa using h) r)
theorem v9{K:Ow}{τ:St}{H:Hp}{Q:VK}(h:ay K (dR T.length ti g tt te) τ H Q):
  Bg (ent T) (qT K ti) (jd K g) (cz K tt) (vX K te) τ H Q:=by
 obtain⟨σ,G,Q3,rs,rg,h,k⟩:=h;refine⟨σ,G,_,rs,rg,h,fun ds G1 J H1 q k1 rg1 it Da hD=>?_⟩;obtain⟨hsz,Pv,p0,step,fin⟩:=q;have kD:Kp G1 H1 G1 (aV H1 Da (.lst [])):=Kp.laid hD;have rgD:RG K (aV H1 Da (.lst [])) G1:=rg1.laid hD;have gD:G1 Da=none:=rg1.free hD;refine⟨fun i m ys τ2 H2=>m=ds.length - i/\i<=ds.length/\∃ acc G2,H2 Da=some (.lst ys)/\G2 Da=none/\RG K H2 G2/\RS K H2 (List.replicate T.length none ++ σ) τ2/\RDs K H2 acc ys/\acc.length<=i/\Pv i acc G2/\(∀ a h,a≠Da->H1 a=some h->G1 a=none->H2 a=some h/\G2 a=none),
  ⟨ds.length,rfl,M0 _,[],G1,aG,gD,rgD,Dq T (rs.mono ((k1.trans kD).stb rg)),RDs.nil,le_refl _,p0,fun a h ha e n=>⟨by rw[ar ha];exact e,n⟩⟩,?_⟩
 rintro i m ys τ2 H2 ⟨rfl,hi',acc,G2,eD,nD,rg2,rs2,ra,la,pv,k2⟩
 have k2':Kp G1 H1 G2 H2:=fun a h e n=>k2 a h (ba e hD) e n;refine⟨eD,?_⟩;obtain⟨hgo,hstop⟩:=it i G2 H2 k2' rg2
 by_cases hlt:i < ds.length
 ·obtain⟨go,yld⟩:=hgo hlt;refine .inr ⟨go,fun ys' τ' H'=>∃ acc G',H' Da=some (.lst ys')/\G' Da=none/\RG K H' G'/\RS K H' (List.replicate T.length none ++ σ) τ'/\RDs K H' acc ys'/\acc.length<=i+1/\Pv (i+1) acc G'/\(∀ a h,a≠Da->H1 a=some h->G1 a=none->H' a=some h/\G' a=none),
   fun ys' τ' H' q'=>⟨ds.length - (i+1),by walk_at "o",rfl,hlt,q'⟩,fun x H3 y=>?_⟩
  obtain⟨ky,rgy,d,hd,rd⟩:=yld x H3 y;refine⟨d,List.replicate T.length none ++ σ,G2,_,rd,rs2.mono (ky.stb rg2),rgy,step i d acc G2 hd pv,fun σ4 G4 τ4 H4 q4 k4 rg4 rs4=>?_⟩;obtain⟨⟨hlen,hdrop⟩,q4⟩:=q4;have rs4':RS K H4 (List.replicate T.length none ++ σ) τ4:=by
   have:=pL T.length hlen rs4;rw[hdrop]at this;exact this
  refine⟨σ4,G4,_,rs4,rg4,q4,fun b G5 H5 q5 k5 rg5=>?_⟩;have e3:H3 Da=some (.lst ys):=(ky Da _ eD nD).1;have e4:=k4 Da _ e3 nD;have e5:=k5 Da _ e4.1 e4.2;have kk:∀ {G6:Gp} {H6:Hp},Kp G5 H5 G6 H6->∀ a h,a≠Da->H1 a=some h->G1 a=none->H6 a=some h/\G6 a=none:=fun k6 a h ha e n=>((((Kp.trans k2' ky).trans k4).trans k5).trans k6) a h e n;cases b with
  | false=>
   refine iteF ⟨acc,G5,e5.1,e5.2,rg5,rs4'.mono (k5.stb rg4),RDs.mono (((ky.trans k4).trans k5).stb rg2) _ _ ra,by walk_at "o",q5,kk Kp.refl⟩
  | true=>
   refine iteT ⟨σ4,G5,_,rs4.mono (k5.stb rg4),rg5,q5,fun yv G6 v H6 q6 k6 rg6 rd6=>?_⟩;have e6:=k6 Da _ e5.1 e5.2;have la':=ra.length;have st:Stb K H6 (aV H6 Da (.lst (ys ++ [v]))):=by
    constructor
    ·intro a zs q;rcases q with (q|⟨o,q⟩)|q
     ·exact .inl (.inl (by rw[ar (fun z=>by subst z;rw[e6.1]at q;cases q)];exact q))
     ·exact .inl (.inr ⟨o,by rw[ar (fun z=>by subst z;rw[e6.1]at q;cases q)];exact q⟩)
     ·exact .inr q
    ·intro a zs q;rcases q with ⟨o,q⟩|q
     ·exact .inl ⟨o,by rw[ar (fun z=>by subst z;rw[e6.1]at q;cases q)];exact q⟩
     ·exact .inr q
   refine⟨e6.1,by walk_at "o",acc ++ [val yv],G6,aG,e6.2,fun a o q=>?_,(rs4'.mono ((k5.trans k6).stb rg4)).mono st,?_,by simp;omega,q6,fun a h ha e n=>?_⟩
   ·obtain⟨h',q1,q2⟩:=rg6 a o q;exact⟨h',by rw[ar (fun z=>by subst z;rw[e6.2]at q;cases q)];exact q1,q2.mono st⟩
   ·exact RDs.append (RDs.mono st _ _ (RDs.mono ((((ky.trans k4).trans k5).trans k6).stb rg2) _ _ ra)) (RDs.cons (RD.mono st _ _ rd6) RDs.nil)
   ·rw[ar ha];exact kk k6 a h ha e n
 ·have e:i=ds.length:=by walk_at "o"
  refine .inl ⟨hstop e,k _ G2 _ H2 (fin acc G2 (by rw[<- e];exact pv)) (k1.trans k2') rg2 (.inl ⟨acc,Da,ys,rfl,rfl,eD,nD,ra,?_⟩)⟩
  exact k1.fr (r6 hD)
theorem iH:EZ X [] (cz X.K ik):=fun pins s τ H Q I h=>by
 obtain⟨σ,G,Q3,rs,rg,h,k⟩:=h;exact Fw pins s τ H Q I (k true G H h Kp.refl rg)
theorem kg{c:MJ}{tc:rj}(h:PT X c (cz X.K tc)):EZ X [c] (cz X.K tc):=Fv h
theorem fI(ok:CompOk X scope T M)
  (hin:∀ cl C s₀ H₀ fp,PG (bC X (T ++ M) scope cl C s₀ H₀ fp) tg (jd X.K g)/\EZ (bC X (T ++ M) scope cl C s₀ H₀ fp) ifs (cz X.K tt)/\PE (bC X (T ++ M) scope cl C s₀ H₀ fp) elt (ay X.K te))
  (hi:PI X tg iter (qT X.K ti)) (hs:∀ x,Nh iter X.env x=pure x:=by intro _;rfl):PE X (.ListComp elt [⟨tg,iter,ifs,0⟩] scope pos) (ay X.K (dR T.length ti g tt te)):=
 (Bo ok (fun cl C s₀ H₀ fp=>let ⟨a,b,c⟩:=hin cl C s₀ H₀ fp;⟨a,b,dB c⟩) hi hs).imp fun _ _ _ h=>v9 h
theorem Ar{i:Nat}{x:Str}{px spos:Pos}(ok:CompOk X scope T M)(hN:X.N.Nodup)(hix:X.N[i]?=some x)(hx:X.env.scope.names.lookup x=some .local)
  (hin:∀ cl C s₀ H₀ fp,PG (bC X (T ++ M) scope cl C s₀ H₀ fp) tg (jd X.K g)/\EZ (bC X (T ++ M) scope cl C s₀ H₀ fp) ifs (cz X.K tt)/\PE (bC X (T ++ M) scope cl C s₀ H₀ fp) elt (ay X.K te))
  (hi:PI X tg iter (qT X.K ti)) (hsw:N3 (.ListComp elt [⟨tg,iter,ifs,0⟩] scope pos) (some (.Name x px)) spos.line X.env=pure true:=by rfl) (hs:∀ x,Nh iter X.env x=pure x:=by intro _;rfl):
  PS X (.Assign [.Name x px] (.ListComp elt [⟨tg,iter,ifs,0⟩] scope pos) spos) (bO X.K (bz i (dR T.length ti g tt te))):=
 (FC ok hN hix hx (fun cl C s₀ H₀ fp=>let ⟨a,b,c⟩:=hin cl C s₀ H₀ fp;⟨a,b,dB c⟩) hi hsw hs).imp fun D τ H zz=>by
  obtain⟨σ,G,D3,rs,rg,h,k⟩:=zz;refine v9 (Q:=fun v H1=>D.nx (τ.set i (some v)) H1\/∃ p xs,v=.ref p/\H1 p=some (.lst xs)/\∀ o,D.nx (τ.set i (some v)) (aV H1 p (.frz o (.lst xs)))) ⟨σ,G,_,rs,rg,h,fun d G' v H' q k' rg' re=>?_⟩;cases d with
  | fl ds=>
   obtain⟨p,xs,rfl,e1,e2,e3,e4⟩:=re.fl;refine .inr ⟨p,xs,rfl,e1,fun o=>?_⟩;obtain⟨rg2,st⟩:=Em (o:=o) rg' e1 e2;exact k.nx _ G' _ _ q (En (K:=X.K) k' e4) rg2 (((rs.mono (k'.stb rg)).mono st).set (sP (.inl ⟨o,aG⟩) (RDs.mono st _ _ e3)) i)
  | _=>exact .inl (k.nx _ G' _ H' q k' rg' ((rs.mono (k'.stb rg)).set (re.rd (by intro ds z;cases z)) i))
end
open PySem.SeqAt
def cB(x y:D):Bool:=@decide (x=y) (Classical.propDecidable _)
theorem jy{x y:D}:cB x y=true↔x=y:=by unfold cB;exact @decide_eq_true_iff _ (Classical.propDecidable _)
theorem aY(x:D):cB x x=true:=jy.mpr rfl
theorem Et{x y:D}(h:x=y):cB x y=true:=jy.mpr h
theorem bB{x y:D}(h:x≠y):cB x y=false:=by
 cases e:cB x y with
 | false=>rfl
 | true=>exact absurd (jy.mp e) h
theorem kZ{x y:D}{b:Bool}(h:(b=true)↔x=y):cB x y=b:=by
 cases b with
 | true=>exact Et (h.mp rfl)
 | false=>exact bB fun e=>nomatch h.mpr e
def pl:Nat->D->Prop
 | _,.non=>True
 | _,.int _=>True
 | _,.str _=>True
 | n+1,.tup ds=>∀ d∈ds,pl n d
 | n+1,.lst ds=>∀ d∈ds,pl n d
 | _,_=>False
section
variable{X:Cx}{pins:List (Mg×Obj)}{σ:St}{H:Hp}{s:Mi}
theorem Bt(I:Inv X pins σ H s){a:Mg}{xs ys:List V}(h1:jS X.K H a xs)(h2:j_ X.K H a ys):False:=by
 obtain⟨_,_,⟨o,e,c,_⟩,_⟩:=I.tuple h1;obtain⟨_,_,p,_⟩:=I.list h2;obtain⟨o',e',c',_⟩:=p.isList;rw[e]at e';cases e';rw[c]at c';injection c' with z
 exact absurd z (by decide)
theorem Ap(I:Inv X pins σ H s):∀ (n:Nat) {x y:D} {v:V},pl n x->pl n y->RD X.K H x v->RD X.K H y v->x=y:=by
 intro n
 induction n with
 | zero=>
  intro x y v px py rx ry;cases x<;>first|exact px.elim|(cases y<;>first|exact py.elim|(simp only[RD]at rx ry;subst rx;first|rfl|(cases ry;rfl)|cases ry))
 | succ n ih=>
  have seq:∀ {ds es:List D} {xs:List V},(∀ d∈ds,pl n d)->(∀ d∈es,pl n d)->RDs X.K H ds xs->RDs X.K H es xs->ds=es:=by
   intro ds
   induction ds with
   | nil=>
    intro es xs _ _ r1 r2;have:=r1.inv_nil;subst this;cases es with
    | nil=>rfl
    | cons e t=>have:=r2.length;simp at this
   | cons d t ihd=>
    intro es xs p1 p2 r1 r2;obtain⟨v,vs,e1,a1,b1⟩:=r1.inv_cons;subst e1;cases es with
    | nil=>have:=r2.length;simp at this
    | cons e u=>
     obtain⟨v',vs',e2,a2,b2⟩:=r2.inv_cons;cases e2;rw[ih (p1 d Mz) (p2 e Mz) a1 a2,ihd (fun z hz=>p1 z (My _ hz)) (fun z hz=>p2 z (My _ hz)) b1 b2]
  intro x y v px py rx ry;cases x with
  | tup ds=>
   simp only[RD]at rx;obtain⟨a,xs,rfl,s1,r1⟩:=rx;cases y with
   | tup es=>
    simp only[RD]at ry;obtain⟨b,ys,e,s2,r2⟩:=ry;cases e;have:=I.tuple_inj s1 s2;subst this;rw[seq px py r1 r2]
   | lst es=>
    simp only[RD]at ry;obtain⟨b,ys,e,s2,r2⟩:=ry;cases e;exact (Bt I s1 s2.sq).elim
   | _=>first|exact py.elim|(simp only[RD]at ry;cases ry)
  | lst ds=>
   simp only[RD]at rx;obtain⟨a,xs,rfl,s1,r1⟩:=rx;cases y with
   | lst es=>
    simp only[RD]at ry;obtain⟨b,ys,e,s2,r2⟩:=ry;cases e;have:=I.list_inj s1.sq s2.sq;subst this;rw[seq px py r1 r2]
   | tup es=>
    simp only[RD]at ry;obtain⟨b,ys,e,s2,r2⟩:=ry;cases e;exact (Bt I s2 s1.sq).elim
   | _=>first|exact py.elim|(simp only[RD]at ry;cases ry)
  | _=>first|exact px.elim|(cases y with
   | tup es=>simp only[RD]at rx ry;obtain⟨b,ys,e,_⟩:=ry;rw[rx]at e;cases e
   | lst es=>simp only[RD]at rx ry;obtain⟨b,ys,e,_⟩:=ry;rw[rx]at e;cases e
   | _=>first|exact py.elim|(simp only[RD]at rx ry;subst rx;first|rfl|(cases ry;rfl)|cases ry))
structure Cmp3(A:MB)(s:Mi)(v u:Mf)(b:Bool):Prop where
 eq:EqAt A s v u b
 rc:RcAt A s v u b
 ne:RcNeAt A s v u (!b)
theorem xE{ds es:List D}(n:Nat)(hn:n=min ds.length es.length):((List.range n).all (fun j=>cB (ds.getD j .non) (es.getD j .non)) && ds.length == es.length)=cB (.tup ds) (.tup es):=by
 symm;refine kZ ?_;rw[Bool.and_eq_true,List.all_eq_true,beq_iff_eq];constructor
 ·rintro⟨h1,h2⟩
  congr 1;refine List.ext_getElem h2 fun i hi hj=>?_;have:=jy.mp (h1 i (mem_range.mpr (by walk_at "o")))
  rw[ME,ME,Mp hi,Mp hj]at this
  simpa using this
 ·intro h;cases h;exact⟨fun i _=>aY _,rfl⟩
theorem Gj{ds es:List D}:cB (.lst ds) (.lst es)=cB (.tup ds) (.tup es):=kZ (by rw[jy];constructor<;>(intro h;cases h;rfl))
theorem Vals.getV:∀ {xs:List V} {us:List Mf} {i:Nat} {u:Mf},Vals xs us->us[i]?=some u->∃ x,xs[i]?=some x/\aB x u
 | _,_,_,_,.nil,e=>by simp at e
 | _,_,0,_,.cons r _,e=>by simp at e;subst e;exact⟨_,rfl,r⟩
 | _,_,i+1,u,.cons _ t,e=>by
  obtain⟨x,h1,h2⟩:=Vals.getV (i:=i) (u:=u) t (by simpa using e)
  exact⟨x,by simpa using h1,h2⟩
theorem RDs.getV{K:Ow}{H:Hp}:∀ {ds:List D} {xs:List V} {i:Nat} {x:V},RDs K H ds xs->xs[i]?=some x->∃ d,ds[i]?=some d/\RD K H d x
 | [],xs,i,x,h,e=>by rw[h.inv_nil]at e;simp at e
 | d::ds,xs,i,x,h,e=>by
  obtain⟨y,r,e1,h1,h2⟩:=h.inv_cons;subst e1;cases i with
  | zero=>simp at e;subst e;exact⟨d,rfl,h1⟩
  | succ i=>
   obtain⟨z,q1,q2⟩:=RDs.getV (i:=i) (x:=x) h2 (by simpa using e)
   exact⟨z,by simpa using q1,q2⟩
def sc:D->Prop
 | .non=>True
 | .int _=>True
 | .str _=>True
 | _=>False
theorem IR{j:Int}{t:Tok}{A:MB}:Cmp3 A s .none (.int j t) (cB .non (.int j)):=by rw[bB (by intro z;cases z)];exact⟨EqAt.none_int _ _,RcAt.none_int _ _,RcNeAt.none_int _ _⟩
theorem IP{j:Str}{t:Tok}{A:MB}:Cmp3 A s .none (.str j t) (cB .non (.str j)):=by rw[bB (by intro z;cases z)];exact⟨EqAt.none_str _ _,RcAt.none_str _ _,RcNeAt.none_str _ _⟩
theorem IT{j:Int}{t:Tok}{A:MB}:Cmp3 A s (.int j t) .none (cB (.int j) .non):=by rw[bB (by intro z;cases z)];exact⟨EqAt.int_none _ _,RcAt.int_none _ _,RcNeAt.int_none _ _⟩
theorem IM{j:Str}{t:Tok}{A:MB}:Cmp3 A s (.str j t) .none (cB (.str j) .non):=by rw[bB (by intro z;cases z)];exact⟨EqAt.str_none _ _,RcAt.str_none _ _,RcNeAt.str_none _ _⟩
theorem IS{i:Int}{j:Str}{t u:Tok}{A:MB}:Cmp3 A s (.int i t) (.str j u) (cB (.int i) (.str j)):=by rw[bB (by intro z;cases z)];exact⟨EqAt.int_str _ _ _ _,RcAt.int_str _ _ _ _,RcNeAt.int_str _ _ _ _⟩
theorem IN{i:Str}{j:Int}{t u:Tok}{A:MB}:Cmp3 A s (.str i t) (.int j u) (cB (.str i) (.int j)):=by rw[bB (by intro z;cases z)];exact⟨EqAt.str_int _ _ _ _,RcAt.str_int _ _ _ _,RcNeAt.str_int _ _ _ _⟩
theorem IU{i j:Int}{t u:Tok}{A:MB}:Cmp3 A s (.int i t) (.int j u) (cB (.int i) (.int j)):=by
 have e:cB (.int i) (.int j)=(i == j):=kZ (by rw[beq_iff_eq];exact⟨fun z=>by rw[z],fun z=>by cases z;rfl⟩)
 rw[e];exact⟨EqAt.int_int _ _ _ _,RcAt.int_int _ _ _ _,RcNeAt.int_int _ _ _ _⟩
theorem IL{i j:Str}{t u:Tok}{A:MB}:Cmp3 A s (.str i t) (.str j u) (cB (.str i) (.str j)):=by
 have e:cB (.str i) (.str j)=(i == j):=kZ (by rw[beq_iff_eq];exact⟨fun z=>by rw[z],fun z=>by cases z;rfl⟩)
 rw[e];exact⟨EqAt.str_str _ _ _ _,RcAt.str_str _ _ _ _,RcNeAt.str_str _ _ _ _⟩
theorem IQ{A:MB}:Cmp3 A s .none .none (cB .non .non):=by rw[aY];exact⟨EqAt.same _,RcAt.none_none,RcNeAt.none_none⟩
theorem pD{K:Ow}{x:D}{v:V}{v':Mf}(h:sc x)(r:RD K H x v)(l:aB v v'):(x=.non/\v'=.none)\/(∃ i t,x=.int i/\v'=.int i t)\/(∃ i t,x=.str i/\v'=.str i t):=by
 cases x with
 | non=>simp only[RD]at r;subst r;exact .inl ⟨rfl,l⟩
 | int i=>simp only[RD]at r;subst r;obtain⟨t,e⟩:=l;exact .inr (.inl ⟨i,t,rfl,e⟩)
 | str i=>simp only[RD]at r;subst r;obtain⟨t,e⟩:=l;exact .inr (.inr ⟨i,t,rfl,e⟩)
 | _=>exact h.elim
theorem EI{K:Ow}{A:MB}{x y:D}{v u:V}{v' u':Mf}(h1:sc x)(h2:sc y)(rx:RD K H x v)(ry:RD K H y u)(lx:aB v v')(ly:aB u u'):Cmp3 A s v' u' (cB x y):=by
 rcases pD h1 rx lx with ⟨rfl,rfl⟩|⟨i,t,rfl,rfl⟩|⟨i,t,rfl,rfl⟩
 ·rcases pD h2 ry ly with ⟨rfl,rfl⟩|⟨j,u,rfl,rfl⟩|⟨j,u,rfl,rfl⟩
  ·exact IQ
  ·exact IR
  ·exact IP
 ·rcases pD h2 ry ly with ⟨rfl,rfl⟩|⟨j,u,rfl,rfl⟩|⟨j,u,rfl,rfl⟩
  ·exact IT
  ·exact IU
  ·exact IS
 ·rcases pD h2 ry ly with ⟨rfl,rfl⟩|⟨j,u,rfl,rfl⟩|⟨j,u,rfl,rfl⟩
  ·exact IM
  ·exact IN
  ·exact IL
theorem vI{n:Nat}{x:D}(p:pl n x):sc x\/(∃ m ds,n=m+1/\x=.tup ds/\∀ d∈ds,pl m d)\/(∃ m ds,n=m+1/\x=.lst ds/\∀ d∈ds,pl m d):=by
 cases x with
 | non=>exact .inl trivial
 | int _=>exact .inl trivial
 | str _=>exact .inl trivial
 | tup ds=>cases n with
  | zero=>exact p.elim
  | succ m=>exact .inr (.inl ⟨m,ds,rfl,rfl,p⟩)
 | lst ds=>cases n with
  | zero=>exact p.elim
  | succ m=>exact .inr (.inr ⟨m,ds,rfl,rfl,p⟩)
 | bl _=>cases n<;>exact p.elim
 | fl _=>cases n<;>exact p.elim
 | ref _=>cases n<;>exact p.elim
 | ty _=>cases n<;>exact p.elim
theorem EG{K:Ow}{A:MB}{b:Mg}{its:Array Mf}{es:List D}(hu0:A.units < MT)(t2:s.heap.IsTuple b its){x:D}{v:V}{v':Mf}(h:sc x)(rx:RD K H x v)(lx:aB v v'):Cmp3 A s v' (.ref b) (cB x (.tup es))/\Cmp3 A s (.ref b) v' (cB (.tup es) x):=by
 rcases pD h rx lx with ⟨rfl,rfl⟩|⟨i,t,rfl,rfl⟩|⟨i,t,rfl,rfl⟩
 ·rw[bB (by intro z;cases z),bB (by intro z;cases z)]
  exact⟨⟨EqAt.none_tuple t2 hu0,RcAt.none_tuple t2 hu0,RcNeAt.none_tuple t2 hu0⟩,⟨EqAt.tuple_none t2 hu0,RcAt.tuple_none t2 hu0,RcNeAt.tuple_none t2 hu0⟩⟩
 ·rw[bB (by intro z;cases z),bB (by intro z;cases z)]
  exact⟨⟨EqAt.int_tuple _ _ t2 hu0,RcAt.int_tuple _ _ t2 hu0,RcNeAt.int_tuple _ _ t2 hu0⟩,⟨EqAt.tuple_int _ _ t2 hu0,RcAt.tuple_int _ _ t2 hu0,RcNeAt.tuple_int _ _ t2 hu0⟩⟩
 ·rw[bB (by intro z;cases z),bB (by intro z;cases z)]
  exact⟨⟨EqAt.str_tuple _ _ t2 hu0,RcAt.str_tuple _ _ t2 hu0,RcNeAt.str_tuple _ _ t2 hu0⟩,⟨EqAt.tuple_str _ _ t2 hu0,RcAt.tuple_str _ _ t2 hu0,RcNeAt.tuple_str _ _ t2 hu0⟩⟩
theorem EH{K:Ow}{A:MB}{b:Mg}{its:Array Mf}{es:List D}(hu0:A.units < MT)(t2:s.heap.IsList b its){x:D}{v:V}{v':Mf}(h:sc x)(rx:RD K H x v)(lx:aB v v'):Cmp3 A s v' (.ref b) (cB x (.lst es))/\Cmp3 A s (.ref b) v' (cB (.lst es) x):=by
 rcases pD h rx lx with ⟨rfl,rfl⟩|⟨i,t,rfl,rfl⟩|⟨i,t,rfl,rfl⟩
 ·rw[bB (by intro z;cases z),bB (by intro z;cases z)]
  exact⟨⟨EqAt.none_list t2 hu0,RcAt.none_list t2 hu0,RcNeAt.none_list t2 hu0⟩,⟨EqAt.list_none t2 hu0,RcAt.list_none t2 hu0,RcNeAt.list_none t2 hu0⟩⟩
 ·rw[bB (by intro z;cases z),bB (by intro z;cases z)]
  exact⟨⟨EqAt.int_list _ _ t2 hu0,RcAt.int_list _ _ t2 hu0,RcNeAt.int_list _ _ t2 hu0⟩,⟨EqAt.list_int _ _ t2 hu0,RcAt.list_int _ _ t2 hu0,RcNeAt.list_int _ _ t2 hu0⟩⟩
 ·rw[bB (by intro z;cases z),bB (by intro z;cases z)]
  exact⟨⟨EqAt.str_list _ _ t2 hu0,RcAt.str_list _ _ t2 hu0,RcNeAt.str_list _ _ t2 hu0⟩,⟨EqAt.list_str _ _ t2 hu0,RcAt.list_str _ _ t2 hu0,RcNeAt.list_str _ _ t2 hu0⟩⟩
theorem ug(I:Inv X pins σ H s):∀ (n:Nat) {x y:D} {v u:V} {v' u':Mf} {A:MB},pl n x->pl n y->RD X.K H x v->RD X.K H y u->aB v v'->aB u u'->A.units+n < MT->Cmp3 A s v' u' (cB x y):=by
 intro n
 induction n with
 | zero=>
  intro x y v u v' u' A px py rx ry lx ly hu;rcases vI px with h1|⟨m,_,e,_⟩|⟨m,_,e,_⟩
  ·rcases vI py with h2|⟨m,_,e,_⟩|⟨m,_,e,_⟩
   ·exact EI h1 h2 rx ry lx ly
   ·cases e
   ·cases e
  ·cases e
  ·cases e
 | succ n ih=>
  intro x y v u v' u' A px py rx ry lx ly hu;have hu0:A.units < MT:=by walk_at "o"
  have hu1:A.in1.units+n < MT:=by show A.units+1+n < MT;omega
  have items:∀ {ds es:List D} {xs ys:List V} {its its2:List Mf},(∀ d∈ds,pl n d)->(∀ d∈es,pl n d)->RDs X.K H ds xs->RDs X.K H es ys->Vals xs its->Vals ys its2->
    ∀ j (h1:j < its.toArray.size) (h2:j < its2.toArray.size),EqAt A.in1 s its.toArray[j] its2.toArray[j] (cB (ds.getD j .non) (es.getD j .non)):=by
   intro ds es xs ys its its2 p1 p2 r1 r2 w1 w2 j h1 h2;obtain⟨x1,e1,q1⟩:=Vals.getV (i:=j) (u:=its.toArray[j]) w1 (by simp at h1;simp[h1])
   obtain⟨x2,e2,q2⟩:=Vals.getV (i:=j) (u:=its2.toArray[j]) w2 (by simp at h2;simp[h2])
   obtain⟨d1,f1,g1⟩:=RDs.getV r1 e1;obtain⟨d2,f2,g2⟩:=RDs.getV r2 e2;have:=(ih (A:=A.in1) (p1 d1 (Mv f1)) (p2 d2 (Mv f2)) g1 g2 q1 q2 hu1).eq;rw[ME,ME,f1,f2];exact this
  rcases vI px with h1|⟨m,ds,e1,rfl,p1⟩|⟨m,ds,e1,rfl,p1⟩
  ·rcases vI py with h2|⟨m,es,e2,rfl,p2⟩|⟨m,es,e2,rfl,p2⟩
   ·exact EI h1 h2 rx ry lx ly
   ·simp only[RD]at ry;obtain⟨b,ys,rfl,s2,r2⟩:=ry;cases ly;obtain⟨its2,w2,t2,z2⟩:=I.tuple s2;exact (EG hu0 t2 h1 rx lx).1
   ·simp only[RD]at ry;obtain⟨b,ys,rfl,s2,r2⟩:=ry;cases ly;obtain⟨its2,w2,t2,z2⟩:=I.list s2.sq;exact (EH hu0 t2.isList h1 rx lx).1
  ·cases e1;simp only[RD]at rx;obtain⟨a,xs,rfl,s1,r1⟩:=rx;cases lx;obtain⟨its,w1,t1,z1⟩:=I.tuple s1;have l1:=w1.length;have l1':=r1.length;rcases vI py with h2|⟨m,es,e2,rfl,p2⟩|⟨m,es,e2,rfl,p2⟩
   ·exact (EG hu0 t1 h2 ry ly).2
   ·cases e2;simp only[RD]at ry;obtain⟨b,ys,rfl,s2,r2⟩:=ry;cases ly;obtain⟨its2,w2,t2,z2⟩:=I.tuple s2;have l2:=w2.length;have l2':=r2.length;have he:=items p1 p2 r1 r2 w1 w2;have hsz:its.toArray.size=ds.length:=by simp only[Mt];omega
    have RF:its2.toArray.size=es.length:=by simp only[Mt];omega
    have rc:=RcAt.tuples (A:=A) t1 t2 hu0 he;have rn:=RcNeAt.tuples (A:=A) t1 t2 hu0 he;rw[hsz,RF,xE _ rfl]at rc;rw[hsz,RF,xE _ rfl]at rn;refine⟨?_,rc,rn⟩
    by_cases hab:a=b
    ·subst hab;have:D.tup ds=D.tup es:=Ap I (n+1) (v:=.ref a) px py (pS s1 r1) (pS s2 r2);rw[this,aY];exact EqAt.same _
    ·exact EqAt.of_refs hab rc
   ·simp only[RD]at ry;obtain⟨b,ys,rfl,s2,r2⟩:=ry;cases ly;obtain⟨its2,w2,t2,z2⟩:=I.list s2.sq;rw[bB (by intro z;cases z)]
    exact⟨EqAt.tuple_list t1 t2.isList hu0,RcAt.tuple_list t1 t2.isList hu0,RcNeAt.tuple_list t1 t2.isList hu0⟩
  ·cases e1;simp only[RD]at rx;obtain⟨a,xs,rfl,s1,r1⟩:=rx;cases lx;obtain⟨its,w1,t1,z1⟩:=I.list s1.sq;have l1:=w1.length;have l1':=r1.length;rcases vI py with h2|⟨m,es,e2,rfl,p2⟩|⟨m,es,e2,rfl,p2⟩
   ·exact (EH hu0 t1.isList h2 ry ly).2
   ·simp only[RD]at ry;obtain⟨b,ys,rfl,s2,r2⟩:=ry;cases ly;obtain⟨its2,w2,t2,z2⟩:=I.tuple s2;rw[bB (by intro z;cases z)]
    exact⟨EqAt.list_tuple t1.isList t2 hu0,RcAt.list_tuple t1.isList t2 hu0,RcNeAt.list_tuple t1.isList t2 hu0⟩
   ·cases e2;simp only[RD]at ry;obtain⟨b,ys,rfl,s2,r2⟩:=ry;cases ly;obtain⟨its2,w2,t2,z2⟩:=I.list s2.sq;have l2:=w2.length;have l2':=r2.length;have he:=items p1 p2 r1 r2 w1 w2;have hsz:its.toArray.size=ds.length:=by simp only[Mt];omega
    have RF:its2.toArray.size=es.length:=by simp only[Mt];omega
    have rc:RcAt A s (.ref a) (.ref b) (cB (.lst ds) (.lst es))/\RcNeAt A s (.ref a) (.ref b) (!cB (.lst ds) (.lst es)):=by
     rw[Gj]
     by_cases hl:ds.length=es.length
     ·have rc:=RcAt.lists (A:=A) t1.isList t2.isList (by walk_at "o") hu0 he
      have rn:=RcNeAt.lists (A:=A) t1.isList t2.isList (by walk_at "o") hu0 he
      have e:=xE (ds:=ds) (es:=es) its.toArray.size (by walk_at "o")
      rw[hl,beq_self_eq_true,Bool.and_true]at e;rw[e]at rc rn;exact⟨rc,rn⟩
     ·rw[bB (by intro z;cases z;exact hl rfl)]
      exact⟨RcAt.lists_lengths t1.isList t2.isList (by rw[hsz,RF];simpa using hl) hu0,RcNeAt.lists_lengths t1.isList t2.isList (by rw[hsz,RF];simpa using hl) hu0⟩
    refine⟨?_,rc.1,rc.2⟩
    by_cases hab:a=b
    ·subst hab;have:D.lst ds=D.lst es:=Ap I (n+1) (v:=.ref a) px py (sP s1 r1) (sP s2 r2);rw[this,aY];exact EqAt.same _
    ·exact EqAt.of_refs hab rc.1
end
end L3
namespace L2
open PySem PySem.Spec PyProof.Rows
def m9(cs:List Nat)(lo hi:Option Int):List Nat:=(cs.drop (HT.sIx cs.length 0 lo)).take (HT.sIx cs.length cs.length hi - HT.sIx cs.length 0 lo)
theorem DM(cs:Array Nat)(i k:Nat):(List.range k).filterMap (fun m=>cs[i+m]?)=(cs.toList.drop i).take k:=by
 induction k generalizing i with
 | zero=>simp
 | succ k ih=>
  rw[List.range_succ_eq_map,N0,List.filterMap_map];have e:(fun m=>cs[i+m]?) ∘ Nat.succ=fun m=>cs[(i+1)+m]?:=by funext m;simp[Nat.succ_eq_add_one];congr 1;omega
  rw[e,ih (i+1)];cases h:cs.toList.drop i with
  | nil=>
   have hl:cs.toList.length<=i:=List.drop_eq_nil_iff.mp h;have h1:cs[i+0]?=none:=by simp at hl;simp[hl]
   have h2:cs.toList.drop (i+1)=[]:=List.drop_eq_nil_iff.mpr (by walk_at "o")
   rw[h1,h2];simp
  | cons c r=>
   have hlt:i < cs.toList.length:=by
    refine Nat.lt_of_not_le fun hle=>?_;rw[List.drop_eq_nil_iff.mpr hle]at h;cases h
   have h0:=List.drop_eq_getElem_cons hlt;rw[h]at h0;cases h0;have h1:cs[i+0]?=some cs.toList[i]:=by simp at hlt;simp[hlt]
   rw[h1,List.take_succ_cons]
theorem zG(n:Nat)(o:Option Int)(d:Nat)(hd:d<=n):(match o with
  | none=>(d:Int)
  | some i=>max 0 (min (if i < 0 then i+(n:Int)else i) (n:Int)))=((HT.sIx n d o:Nat):Int):=by
 cases o with
 | none=>rfl
 | some i=>
  simp only[HT.sIx]
  by_cases h:i < 0
  ·simp only[h,if_true];omega
  ·simp only[h,if_false];omega
theorem tV(lo hi:Option Int)(n:Nat):Nq lo hi 1 n=(List.range (HT.sIx n n hi - HT.sIx n 0 lo)).map fun m=>HT.sIx n 0 lo+m:=by
 have h1:=zG n lo 0 (M0 _);have h2:=zG n hi n (le_refl _);have e:Nq lo hi 1 n=QX ((HT.sIx n 0 lo:Nat):Int) ((HT.sIx n n hi:Nat):Int) 1:=by
  rw[<- h1,<- h2];unfold Nq;cases lo<;>cases hi<;>simp
 rw[e];unfold QX;simp only[show (1:Int) > 0 by decide,if_true]
 have c:(if ((HT.sIx n 0 lo:Nat):Int) < ((HT.sIx n n hi:Nat):Int)then (((HT.sIx n n hi:Nat):Int) - ((HT.sIx n 0 lo:Nat):Int)+1 - 1) / 1 else 0).toNat=HT.sIx n n hi - HT.sIx n 0 lo:=by
  rw[Int.ediv_one];split<;>omega
 rw[c];refine ND fun k _=>?_;omega
theorem k9(cs:List Nat)(lo hi:Option Int):(m9 cs lo hi).length<=cs.length:=by
 unfold m9;rw[M6,ON];omega
theorem BX(x:Str)(lo hi:Option Int):Txt.slice x lo hi=⟨(m9 x.cps.toList lo hi).toArray⟩:=by
 have hn:x.length=x.cps.toList.length:=by simp[OZ]
 have key:(Nq lo hi 1 x.length).filterMap (x.cps[·]?)=m9 x.cps.toList lo hi:=by
  rw[tV,List.filterMap_map];unfold m9;rw[<- hn,<- DM];rfl
 unfold Txt.slice;split
 ·rename_i h;rw[Bool.and_eq_true]at h;have hl:(Nq lo hi 1 x.length).length=x.length:=by simpa using h.2
  rw[tV,Ml,List.length_range]at hl;have b1:HT.sIx x.length x.length hi<=x.length:=HT.sIx_le _ _ (le_refl _) _;have h0:HT.sIx x.length 0 lo=0\/x.length=0:=by walk_at "o"
  have e:m9 x.cps.toList lo hi=x.cps.toList:=by
   unfold m9;rw[<- hn];rcases h0 with h0|h0
   ·have h3:HT.sIx x.length x.length hi=x.length:=by walk_at "o"
    rw[h0,h3,List.drop_zero,Nat.sub_zero,hn,MM]
   ·have:x.cps.toList=[]:=length_eq_zero_iff.mp (by walk_at "o")
    rw[this];simp
  rw[e]
 ·rw[key]
section
variable{X:Cx}
def uU(x:Str)(k:Nat):Str:=⟨(List.replicate k x.cps.toList).flatten.toArray⟩
theorem qi(x:Array Nat):∀ (k:Nat) (acc:List Nat),(List.replicate k x).foldl (· ++ ·) acc.toArray=(acc ++ (List.replicate k x.toList).flatten).toArray
 | 0,acc=>by simp
 | k+1,acc=>by
  rw[List.replicate_succ,OX,List.replicate_succ,List.flatten_cons];have:acc.toArray ++ x=(acc ++ x.toList).toArray:=by simp
  rw[this,qi x k];simp
theorem Ay:gW X (Nx .Mult) (fun x y H Q=>∃ z n,x=.str z/\y=.int n/\-(2 ^ 63)<=n/\n < 2 ^ 63/\z.length*n.toNat<=Mq/\Q (.str (uU z n.toNat)) H):=by
 intro pins s σ H x y v u Q I rx ry h;obtain⟨z,n,rfl,rfl,h1,h2,hl,q⟩:=h;obtain⟨t,rfl⟩:=rx;obtain⟨t',rfl⟩:=ry;have hn:=kS;have len_rep:(uU z n.toNat).length=z.length*n.toNat:=by
  simp[uU,OZ,Nat.mul_comm]
 have bound:¬ n < 1->(z.length:Int)<=(2 ^ 63 - 1) / n:=fun h=>by
  rw[Int.le_ediv_iff_mul_le (by walk_at "o")]
  have e:(z.length:Int)*n=((z.length*n.toNat:Nat):Int):=by
   rw[Int.natCast_mul,Int.toNat_of_nonneg (by walk_at "o")]
  rw[e];omega
 refine PySem.P.mul_str (by rw[decide_eq_false (by walk_at "o"),decide_eq_false (by walk_at "o")];rfl) (fun h _=>by have:=bound h;omega) (fun h _=>?_) ?_
 ·unfold Builtin.Str.tooLong;exact decide_eq_false (by walk_at "o")
 ·have fin:∀ tk s',Inv X pins σ H s'->∀ w,w=uU z n.toNat->EP X pins σ Q (.str w tk) s':=fun tk s' I' w e=>⟨.str (uU z n.toNat),H,I',⟨tk,by rw[e]⟩,q⟩
  split
  ·rename_i hlt;have:n.toNat=0:=by walk_at "o"
   exact⟨by decide,fin _ _ (I.tok _) _ (by rw[this];rfl)⟩
  ·split
   ·rename_i hlt he;refine fin _ _ I _ ?_;rw[Bool.or_eq_true]at he;rcases he with he|he
    ·have:n=1:=by simpa using he
     subst this;simp[uU]
    ·have hz:z.length=0:=by simpa using he
     have hz':z.cps=#[]:=Array.eq_empty_of_size_eq_zero hz;cases z;simp only at hz';subst hz';simp[uU]
   ·refine⟨?_,fin _ _ (I.tok _) _ ?_⟩
    ·show (⟨_⟩:Str).length<=Mq;have e:=qi z.cps n.toNat [];simp only[Oq]at e;rw[show (#[]:Array Nat)=[].toArray from rfl,e]
     exact le_trans (Pd len_rep) hl
    ·have e:=qi z.cps n.toNat [];simp only[Oq]at e;rw[show (#[]:Array Nat)=[].toArray from rfl,e]
     rfl
theorem Hu:CM X (fun x lo hi H Q=>∃ z,x=.str z/\z.length<=Mq/\Q (.str ⟨(m9 z.cps.toList lo hi).toArray⟩) H):=by
 intro pins s σ H x v vl vu lo hi sl Q I rx hs pl pu h;obtain⟨z,rfl,hz,q⟩:=h;obtain⟨t,rfl⟩:=rx;refine⟨"str",_,PySem.F.slot_str_getitem.lookup,QV _ _ _,?_⟩;have part:∀ {v:Mf} {o:Option Int},Pw v o->∃ p:Option (Int×Tok),v=partValue p/\p.map (·.1)=o:=by
  intro v o h;cases h with
  | none=>exact⟨none,rfl,rfl⟩
  | int i t=>exact⟨some (i,t),rfl,rfl⟩
 obtain⟨pl',e1,f1⟩:=part pl;obtain⟨pu',e2,f2⟩:=part pu;subst e1 e2;refine wpAny_getItem_str_slice (l:=pl') (u:=pu') (st:=none) ?_ rfl ?_
 ·obtain⟨o,a,b,c⟩:=hs;exact⟨o,a,b,c⟩
 ·unfold sliceMade;subst f1 f2;have e:(if (((none:Option (Int×Tok)).map (·.1)).getD 1 == 1 && (slicePicked z pl' pu' none).length == z.length)=true then z else ⟨((slicePicked z pl' pu' none).filterMap (z.cps[·]?)).toArray⟩)=(⟨(m9 z.cps.toList (pl'.map (·.1)) (pu'.map (·.1))).toArray⟩:Str):=by
   rw[<- BX];rfl
  refine post_val_or_str ⟨?_,fun t' k=>?_⟩
  ·rw[e];show (m9 z.cps.toList (pl'.map (·.1)) (pu'.map (·.1))).toArray.size<=Mq
   rw[Mt];refine le_trans (k9 _ _ _) ?_
   simpa[OZ]using hz
  ·rw[e];exact⟨.str _,H,I.tok k,⟨t',rfl⟩,q⟩
end
end L2
namespace L3
open PySem PySem.Spec PyProof.Rows L2
def jx(K:Ow)(r3:R3):R2:=fun v u H Q=>∃ x y G Q3,RD K H x v/\RD K H y u/\RG K H G/\r3 x y G Q3/\uq K G H Q3 Q
def dC(r:R3)(ta tb:bn):bn:=fun σ G Q=>ta σ G fun x G1=>tb σ G1 fun y G2=>r (val x) (val y) G2 Q
section
variable{X:Cx}{a b c:MJ}{ta tb tc:bn}{pos:Pos}{r:R3}
theorem Jj{K:Ow}{Q:VK}{τ:St}{H:Hp}(h:ay K (dC r ta tb) τ H Q):Je (jx K r) (vX K ta) (vX K tb) τ H Q:=by
 obtain⟨σ,G,Q3,rs,rg,h,k⟩:=h;refine⟨σ,G,_,rs,rg,h,fun x G1 v H1 h1 k1 rg1 re1=>⟨σ,G1,_,rs.mono (k1.stb rg),rg1,h1,fun y G2 u H2 h2 k2 rg2 re2=>?_⟩⟩;exact⟨val x,val y,G2,Q3,RD.mono (k2.stb rg1) _ _ re1,re2,rg2,h2,k.base (k1.trans k2)⟩
theorem kN{op:O4}(ho:gW X (MS op) (jx X.K r))(ha:PE X a (ay X.K ta))(hb:PE X b (ay X.K tb))(hm:Ng op b=false):PE X (.Compare a [op] [b] pos) (ay X.K (dC r ta tb)):=
 (FK ho (dB ha) (dB hb) hm).imp fun _ _ _ h=>Jj h
theorem bZ{op:O4}(ho:gW X (MS op) (jx X.K r))(ha:PE X a (ay X.K ta))(hb:PE X b (ay X.K tb))(hm:Ng op b=false):PT X (.Compare a [op] [b] pos) (cz X.K (cr (dC r ta tb))):=
 (Bl ho (dB ha) (dB hb) hm).imp fun _ _ _ h=>Jj (wu h)
def qP:R3:=fun x y G Q=>match x,y with
 | .bl a,.bl b=>Q (.bl (a == b)) G
 | x,y=>pl 8 x/\pl 8 y/\Q (.bl (cB x y)) G
def EW:R3:=fun x y G Q=>match x,y with
 | .bl a,.bl b=>Q (.bl (!(a == b))) G
 | x,y=>pl 8 x/\pl 8 y/\Q (.bl (!cB x y)) G
theorem iG(hu:X.A.units+8 < MT):gW X (MS .Eq) (jx X.K qP):=by
 rintro pins s σ H v u v' u' Q I rv ru ⟨x,y,G,Q3,rx,ry,rg,h,k⟩
 unfold qP at h;split at h
 ·rename_i a b;simp only[RD]at rx ry;subst rx ry;cases rv;cases ru;exact SeqAt.RcAt.bool_bool a b X.prog X.w X.xe _ ⟨.bl (a == b),H,I,rfl,k _ G _ H h Kp.refl rg (.of eU)⟩
 ·obtain⟨p1,p2,q⟩:=h;exact (ug I 8 p1 p2 rx ry rv ru hu).rc X.prog X.w X.xe _ ⟨.bl _,H,I,rfl,k _ G _ H q Kp.refl rg (.of eU)⟩
theorem BR(hu:X.A.units+8 < MT):gW X (MS .NotEq) (jx X.K EW):=by
 rintro pins s σ H v u v' u' Q I rv ru ⟨x,y,G,Q3,rx,ry,rg,h,k⟩
 unfold EW at h;split at h
 ·rename_i a b;simp only[RD]at rx ry;subst rx ry;cases rv;cases ru;exact SeqAt.RcNeAt.bool_bool a b X.prog X.w X.xe _ ⟨.bl (!(a == b)),H,I,rfl,k _ G _ H h Kp.refl rg (.of eU)⟩
 ·obtain⟨p1,p2,q⟩:=h;exact (ug I 8 p1 p2 rx ry rv ru hu).ne X.prog X.w X.xe _ ⟨.bl _,H,I,rfl,k _ G _ H q Kp.refl rg (.of eU)⟩
abbrev br:=List D->Gp->j9->Prop
def bN(K:Ow)(sp:br):Sp:=fun vs H Q _=>∃ ds G Q3,RDs K H ds vs/\RG K H G/\sp ds G Q3/\uq K G H Q3 Q
def cC(N:List Str)(ds:List D):eO:=ds.map some ++ List.replicate (N.length - ds.length) none
theorem x6{K:Ow}{H:Hp}{N:List Str}{ds:List D}{vs:List V}(r:RDs K H ds vs):RS K H (cC N ds) (L2.start N vs):=by
 unfold cC L2.start;have hl:=r.length;rw[hl];have rep:∀ n:Nat,Oz (A6 K H) (List.replicate n none) (List.replicate n none):=fun n=>by
  induction n with
  | zero=>exact .nil
  | succ n ih=>exact .cons (show A6 K H none none from trivial) ih
 have go:∀ {ds:List D} {vs:List V} {σ:eO} {τ:St},RDs K H ds vs->Oz (A6 K H) σ τ->Oz (A6 K H) (ds.map some ++ σ) (vs.map some ++ τ):=by
  intro ds
  induction ds with
  | nil=>intro vs σ τ r q;rw[r.inv_nil];exact q
  | cons d t ih=>
   intro vs σ τ r q;obtain⟨x,xs,e,h1,h2⟩:=r.inv_cons;subst e;exact .cons (show A6 K H (some d) (some x)from h1) (ih h2 q)
 exact go r (rep _)
variable{P:Mw}{w:MG}{K:Ow}{mg:Str->Option Mf}{base:MD}
structure Fn3(P:Mw)(w:MG)(K:Ow)(mg:Str->Option Mf)(base:MD)(k:Nat)(x:Str)(dds:List D)(sp:br):Prop where
 ex:∃ f fd ps ds dvs,FnOk P w K mg base pj k f fd ps (bN K sp)/\mg x=some (.ref f)/\Pe K (.ref f)=true/\eA K fd ps ds/\Vals dvs ds/\∀ H,RDs K H dds dvs
structure Mt3(P:Mw)(w:MG)(K:Ow)(mg:Str->Option Mf)(base:MD)(k:Nat)(C:Mg)(m:Str)(dds:List D)(sp:br):Prop where
 cl:Cls K C
 ex:∃ f fd ps ds dvs,FnOk P w K mg base pj k f fd ps (bN K sp)/\Meth K C m f/\eA K fd ps ds/\Vals dvs ds/\∀ H,RDs K H dds dvs
structure Mk3(P:Mw)(w:MG)(K:Ow)(mg:Str->Option Mf)(base:MD)(k:Nat)(x:Str)(C:Mg)(dds:List D)(sp:br):Prop where
 ex:∃ f fd ps ds dvs,Mk K C f/\mg x=some (.ref C)/\FnOk P w K mg base pj k f fd ps (bN K sp)/\eA K fd ps ds/\Vals dvs ds/\∀ H,RDs K H dds dvs
def aI(sp:br)(dds:List D)(ta:m_):bn:=fun σ G Q=>ta σ G fun ds G1=>sp (ds ++ dds) G1 Q
def aT(C:Mg)(L:List Str)(sp:br)(dds:List D)(to:bn)(ta:m_):bn:=fun σ G Q=>to σ G fun x G1=>match x with
 | .ref a=>match G1 a with
  | some (.ins C' L' _)=>(C'=C/\L'=L)/\ta σ G1 fun ds G2=>sp (.ref a::(ds ++ dds)) G2 Q
  | _=>False
 | _=>False
def jR(C:Mg)(sp:br)(dds:List D)(ta:m_):bn:=fun σ G Q=>ta σ G fun ds G1=>∀ a,G1 a=none->sp (.ref a::(ds ++ dds)) (gset G1 a (.ins C [] [])) fun d G2=>d=.non/\Q (.ref a) G2
variable{e o:MJ}{es:List MJ}{t:m_}{te to:bn}{k:Nat}{x m:Str}{p apos:Pos}{dds:List D}{sp:br}{C:Mg}
theorem CJ{Q:VK}{τ:St}{H:Hp}{dvs:List V}(hd:∀ H,RDs K H dds dvs)(h:ay K (aI sp dds t) τ H Q)(E:XK):GK (bN K sp) dvs E (eg K t) τ H Q:=by
 obtain⟨σ,G,Q3,rs,rg,h,kk⟩:=h;exact⟨σ,G,_,rs,rg,h,fun ds G1 vs H1 q k1 rg1 rds=>⟨ds ++ dds,G1,Q3,rds.append (hd H1),rg1,q,kk.base k1⟩⟩
theorem aF(F:Fn3 X.prog X.w X.K X.mg X.base k x dds sp)(hr:Room k X.A)(hg:Gl X x)(ha:PA X (e::es) (eg X.K t))(hdb:(x == ("__debug__":Str))=false:=by decide)(he:Mr (e::es) X.env=(false,eval e X.env)::Mr es X.env:=by rfl)
  (hpl:(Nn pos (Mr es X.env)).any (·.1)=false:=by rfl):PE X (.Call (.Name x p) (e::es) [] pos) (ay X.K (aI sp dds t)):=by
 obtain⟨f,fd,ps,ds,dvs,ok,hm,hk,hb,hv,hd⟩:=F.ex;exact (FL ok hr hg hm hk hb hv s_ ha hdb he hpl).imp fun _ _ _ h=>CJ hd h E0
theorem pZ{K:Ow}{gs:List (Str×V)}{L:List Str}{m:Str}(h:gs.map (·.1)=L)(n:m∉L):gs.lookup m=none:=by
 subst h
 induction gs with
 | nil=>rfl
 | cons g r ih=>
  obtain⟨y,v⟩:=g;rw[MF,MP,not_or]at n;rw[Nt,show (m == y)=false by simpa using n.1]
  exact ih n.2
theorem Cj{Q:VK}{τ:St}{H:Hp}{dvs:List V}{L:List Str}(hL:m∉L)(hd:∀ H,RDs K H dds dvs)(h:ay K (aT C L sp dds to t) τ H Q)(E:XK):Dc C m (bN K sp) dvs E (ay K to) (eg K t) τ H Q:=by
 obtain⟨σ,G,Q3,rs,rg,h,kk⟩:=h;refine⟨σ,G,_,rs,rg,h,fun d G1 v H1 q k1 rg1 re=>?_⟩;cases d with
 | ref a=>
  dsimp only at q;split at q
  ·rename_i C' L' ds hg;obtain⟨⟨rfl,rfl⟩,q⟩:=q;obtain⟨ho,e1,ro⟩:=rg1 a _ hg;cases ho with
   | ins C2 dx gs=>
    obtain⟨rfl,r2,r3⟩:=ro;refine⟨a,dx,gs,re.ref,e1,pZ (K:=K) r2 hL,σ,G1,_,rs.mono (k1.stb rg),rg1,q,fun ds' G2 vs H2 q2 k2 rg2 rds=>?_⟩;rw[re.ref];exact⟨.ref a::(ds' ++ dds),G2,Q3,RDs.cons eK (rds.append (hd H2)),rg2,q2,kk.base (k1.trans k2)⟩
   | _=>exact ro.elim
  ·exact q.elim
 | _=>exact q.elim
theorem bQ{pl:Sem Bool}{L:List Str}(F:Mt3 X.prog X.w X.K X.mg X.base k C m dds sp)(hL:m∉L)(hr:Room k X.A)(ho:PE X o (ay X.K to))(ha:PA X (e::es) (eg X.K t))
  (hst:Mr (e::es) X.env=(false,eval e X.env)::Mr es X.env:=by rfl) (hpl:(Nn pos (Mr es X.env)).any (·.1)=false:=by rfl)
  (ht:eval (.Call (.Attribute o m apos) (e::es) [] pos) X.env=(do
   let ov <- eval o X.env
   OB apos.atName
   let (f,first) <- holding [ov] (OE ov m pl)
   PD pos f first (Nn pos (Mr (e::es) X.env)) (OH pos (NZ [] X.env))):=by rfl):
  PE X (.Call (.Attribute o m apos) (e::es) [] pos) (ay X.K (aT C L sp dds to t)):=by
 obtain⟨f,fd,ps,ds,dvs,ok,hm,hb,hv,hd⟩:=F.ex;exact (FI ho F.cl hm ok hr hb hv s_ ha hst hpl ht).imp fun _ _ _ h=>Cj hL hd h E0
theorem b_{pl:Sem Bool}{L:List Str}(F:Mt3 X.prog X.w X.K X.mg X.base k C m dds sp)(hL:m∉L)(hr:Room k X.A)(ho:PE X o (ay X.K to))
  (ht:eval (.Call (.Attribute o m apos) [] [] pos) X.env=(do
   let ov <- eval o X.env
   OB apos.atName
   let (f,first) <- holding [ov] (OE ov m pl)
   PD pos f first (Nn pos (Mr [] X.env)) (OH pos (NZ [] X.env))):=by rfl):
  PE X (.Call (.Attribute o m apos) [] [] pos) (ay X.K (aT C L sp dds to aq)):=by
 obtain⟨f,fd,ps,ds,dvs,ok,hm,hb,hv,hd⟩:=F.ex;refine (DQ ho F.cl hm ok hr hb hv s_ ht).imp fun τ H Q h=>?_;obtain⟨σ,G,Q3,rs,rg,h,kk⟩:=h;refine⟨σ,G,_,rs,rg,h,fun d G1 v H1 q k1 rg1 re=>?_⟩;cases d with
 | ref a=>
  dsimp only at q;split at q
  ·rename_i C' L' ds hg;obtain⟨⟨rfl,rfl⟩,q⟩:=q;obtain⟨ho,e1,ro⟩:=rg1 a _ hg;cases ho with
   | ins C2 dx gs=>
    obtain⟨rfl,r2,r3⟩:=ro;refine⟨a,dx,gs,re.ref,e1,pZ (K:=X.K) r2 hL,?_⟩;rw[re.ref];exact⟨.ref a::([] ++ dds),G1,Q3,RDs.cons eK (hd H1),rg1,q,kk.base k1⟩
   | _=>exact ro.elim
  ·exact q.elim
 | _=>exact q.elim
theorem Ck{Q:VK}{τ:St}{H:Hp}{dvs:List V}(hd:∀ H,RDs K H dds dvs)(h:ay K (jR C sp dds t) τ H Q)(E:XK):GJ C (bN K sp) dvs E (eg K t) τ H Q:=by
 obtain⟨σ,G,Q3,rs,rg,h,kk⟩:=h;refine⟨σ,G,_,rs,rg,h,fun ds G1 vs H1 q k1 rg1 rds a dx na nd ne=>?_⟩;have kd:Kp G1 H1 G1 (aV H1 dx (.own a)):=Kp.laid nd;have rgd:RG K (aV H1 dx (.own a)) G1:=rg1.laid nd;have na':aV H1 dx (.own a) a=none:=by rw[ar (Ne.symm ne)];exact na
 have ka:Kp G1 H1 (gset G1 a (.ins C [] [])) (aV (aV H1 dx (.own a)) a (.ins C dx [])):=fun b h' e n=>by
  have:b≠a:=ba e na;exact⟨by rw[ar this,ar (ba e nd)];exact e,by rw[ai this];exact n⟩
 have st:Stb K H1 (aV (aV H1 dx (.own a)) a (.ins C dx [])):=ka.stb rg1;have rga:RG K (aV (aV H1 dx (.own a)) a (.ins C dx [])) (gset G1 a (.ins C [] [])):=fun b o q=>by
  by_cases hb:b=a
  ·subst hb;rw[au]at q;cases q;exact⟨_,aG,rfl,rfl,RDs.nil⟩
  ·rw[ai hb]at q;obtain⟨h',e1,r⟩:=rg1 b o q;exact⟨h',by rw[ar hb,ar (ba e1 nd)];exact e1,r.mono st⟩
 refine⟨.ref a::(ds ++ dds),_,_,RDs.cons eK (RDs.append (RDs.mono st _ _ rds) (hd _)),rga,q a (rg1.free na),fun d G2 v H2 q2 k2 rg2 re=>?_⟩;obtain⟨rfl,q2⟩:=q2;exact⟨re.non,kk _ G2 _ H2 q2 (k1.trans (ka.trans k2)) rg2 (.of eK)⟩
theorem jq(F:Mk3 X.prog X.w X.K X.mg X.base k x C dds sp)(hr:Room (k+1) X.A)(hg:Gl X x)(ha:PA X (e::es) (eg X.K t))(hdb:(x == ("__debug__":Str))=false:=by decide)(he:Mr (e::es) X.env=(false,eval e X.env)::Mr es X.env:=by rfl)
  (hpl:(Nn pos (Mr es X.env)).any (·.1)=false:=by rfl):PE X (.Call (.Name x p) (e::es) [] pos) (ay X.K (jR C sp dds t)):=by
 obtain⟨f,fd,ps,ds,dvs,M,hm,ok,hb,hv,hd⟩:=F.ex;exact (FJ M ok hr hg hm hb hv s_ ha hdb he hpl).imp fun _ _ _ h=>Ck hd h E0
def ij(C:Mg)(L:List Str)(i:Nat)(to:bn):bn:=fun σ G Q=>to σ G fun x G1=>match x with
 | .ref a=>match G1 a with
  | some (.ins C' L' ds)=>(C'=C/\L'=L)/\match ds[i]? with
   | some d=>Q d G1
   | none=>False
  | _=>False
 | _=>False
def vz(L:List Str)(f:Str)(i:Nat):Prop:=L[i]?=some f/\∀ j,j < i->L[j]?≠some f
theorem Bv:∀ {gs:List (Str×V)} {f:Str} {i:Nat} {v:V},vz (gs.map (·.1)) f i->(gs.map (·.2))[i]?=some v->gs.lookup f=some v
 | [],f,i,v,h,e=>by simp at e
 | (g,u)::r,f,0,v,h,e=>by
  have:g=f:=by simpa using h.1
  subst this;simp at e;subst e;rw[Nt,beq_self_eq_true]
 | (g,u)::r,f,i+1,v,h,e=>by
  have ne:g≠f:=fun z=>h.2 0 (Nat.succ_pos _) (by simp[z])
  rw[Nt,show (f == g)=false by simpa using Ne.symm ne]
  exact Bv (i:=i) ⟨by simpa using h.1,fun j hj z=>h.2 (j+1) (Nat.succ_lt_succ hj) (by simpa using z)⟩ (by simpa using e)
theorem Dz:∀ {gs:List (Str×V)} {f:Str} {i:Nat} (v:V),vz (gs.map (·.1)) f i->(e8 f v gs).map (·.1)=gs.map (·.1)/\(e8 f v gs).map (·.2)=(gs.map (·.2)).set i v
 | [],f,i,v,h=>by have:=h.1;simp at this
 | (g,u)::r,f,0,v,h=>by
  have:g=f:=by simpa using h.1
  subst this;simp[e8]
 | (g,u)::r,f,i+1,v,h=>by
  have ne:g≠f:=fun z=>h.2 0 (Nat.succ_pos _) (by simp[z])
  have ih:=Dz (gs:=r) (i:=i) v ⟨by simpa using h.1,fun j hj z=>h.2 (j+1) (Nat.succ_lt_succ hj) (by simpa using z)⟩
  simp only[e8,if_neg ne,MF,M1,ih.1,ih.2,and_self]
theorem put_new:∀ {gs:List (Str×V)} {f:Str} (v:V),f∉gs.map (·.1)->e8 f v gs=gs ++ [(f,v)]
 | [],f,v,h=>rfl
 | (g,u)::r,f,v,h=>by
  rw[MF,MP,not_or]at h;simp only[e8,if_neg (Ne.symm h.1),put_new v h.2,Oi]
theorem fu{f:Str}{L:List Str}{i:Nat}(cl:Cls X.K C)(na:cE X.K C f)(hi:vz L f i)(ho:PE X o (ay X.K to))(hb:NS o f X.env (eval o X.env)=eval o X.env:=by rfl):PE X (.Attribute o f pos) (ay X.K (ij C L i to)):=
 (DS ho hb).imp fun τ H Q zz=>by
 obtain⟨σ,G,Q3,rs,rg,h,kk⟩:=zz;exact (
  ⟨σ,G,_,rs,rg,h,fun d G1 v H1 q k1 rg1 re=>by
    cases d with
    | ref a=>
     dsimp only at q;split at q
     ·rename_i C' L' ds hg;obtain⟨⟨rfl,rfl⟩,q⟩:=q;split at q
      ·rename_i d hd;obtain⟨ho,e1,ro⟩:=rg1 a _ hg;cases ho with
       | ins C2 dx gs=>
        obtain⟨rfl,r2,r3⟩:=ro;subst r2;obtain⟨w,hw,rd⟩:=r3.get hd;exact⟨a,_,dx,gs,w,re.ref,e1,cl,na,Bv hi hw,kk _ G1 _ H1 q k1 rg1 (.of rd)⟩
       | _=>exact ro.elim
      ·exact q.elim
     ·exact q.elim
    | _=>exact q.elim⟩)
def Bj(C:Mg)(L:List Str)(i:Nat)(to tv:bn):bP:=fun D σ G=>tv σ G fun d G1=>to σ G1 fun x G2=>match x with
 | .ref a=>match G2 a with
  | some (.ins C' L' ds)=>(C'=C/\L'=L)/\D.nx σ (gset G2 a (.ins C L (ds.set i (val d))))
  | _=>False
 | _=>False
def sB(C:Mg)(L:List Str)(f:Str)(to tv:bn):bP:=fun D σ G=>tv σ G fun d G1=>to σ G1 fun x G2=>match x with
 | .ref a=>match G2 a with
  | some (.ins C' L' ds)=>(C'=C/\L'=L)/\D.nx σ (gset G2 a (.ins C (L ++ [f]) (ds ++ [val d])))
  | _=>False
 | _=>False
theorem At{H:Hp}{G:Gp}{a:Mg}{C2 dx:Mg}{gs gs':List (Str×V)}{L':List Str}{ds':List D}(rg:RG K H G)(e1:H a=some (.ins C2 dx gs))(r1:gs'.map (·.1)=L')(r2:RDs K H ds' (gs'.map (·.2)))(hg:G a≠none):
  Kp G H (gset G a (.ins C2 L' ds')) (aV H a (.ins C2 dx gs'))/\RG K (aV H a (.ins C2 dx gs')) (gset G a (.ins C2 L' ds')):=by
 have kp:Kp G H (gset G a (.ins C2 L' ds')) (aV H a (.ins C2 dx gs')):=fun b h e n=>by
  have:b≠a:=fun z=>by subst z;exact hg n
  exact⟨by rw[ar this];exact e,by rw[ai this];exact n⟩
 have st:=kp.stb rg;refine⟨kp,fun b o q=>?_⟩
 by_cases hb:b=a
 ·subst hb;rw[au]at q;cases q;exact⟨_,aG,rfl,r1,RDs.mono st _ _ r2⟩
 ·rw[ai hb]at q;obtain⟨h',e2,r⟩:=rg b o q;exact⟨h',by rw[ar hb];exact e2,r.mono st⟩
theorem JA{f:Str}{L:List Str}{i:Nat}{pos':Pos}(cl:Cls X.K C)(na:cE X.K C f)(hi:vz L f i)(hl:L.length < 1000)(ho:PE X o (ay X.K to))(hv:PE X e (ay X.K te))(hs:N3 e (some (.Attribute o f pos')) pos.line X.env=pure false:=by rfl):
  PS X (.Assign [.Attribute o f pos'] e pos) (bO X.K (Bj C L i to te)):=
 (Au ho (dB hv) hs).imp fun D τ H zz=>by
 obtain⟨σ,G,D3,rs,rg,h,kk⟩:=zz;exact (
  ⟨σ,G,_,rs,rg,h,fun d G1 v H1 q1 k1 rg1 rd=>⟨σ,G1,_,rs.mono (k1.stb rg),rg1,q1,fun x G2 u H2 q2 k2 rg2 re=>by
    cases x with
    | ref a=>
     dsimp only at q2;split at q2
     ·rename_i C' L' ds hg;obtain⟨⟨rfl,rfl⟩,q2⟩:=q2;obtain⟨ho,e1,ro⟩:=rg2 a _ hg;cases ho with
      | ins C2 dx gs=>
       obtain⟨rfl,r2,r3⟩:=ro;subst r2;obtain⟨p1,p2⟩:=Dz (gs:=gs) v hi;have rd2:=RD.mono (k2.stb rg1) _ _ rd;obtain⟨kp,rg3⟩:=At (gs':=e8 f v gs) (L':=gs.map (·.1)) (ds':=ds.set i (val d)) rg2 e1 p1 (by rw[p2];exact r3.set i rd2) (by rw[hg];exact fun z=>nomatch z)
       exact⟨a,_,dx,gs,re.ref,e1,cl,na,by simpa using hl,kk.nx _ _ _ _ q2 ((k1.trans k2).trans kp) rg3 (rs.mono ((((k1.trans k2).trans kp)).stb rg))⟩
      | _=>exact ro.elim
     ·exact q2.elim
    | _=>exact q2.elim⟩⟩)
theorem sW{f:Str}{L:List Str}{pos':Pos}(cl:Cls X.K C)(na:cE X.K C f)(hi:f∉L)(hl:L.length < 1000)(ho:PE X o (ay X.K to))(hv:PE X e (ay X.K te))(hs:N3 e (some (.Attribute o f pos')) pos.line X.env=pure false:=by rfl):
  PS X (.Assign [.Attribute o f pos'] e pos) (bO X.K (sB C L f to te)):=
 (Au ho (dB hv) hs).imp fun D τ H zz=>by
 obtain⟨σ,G,D3,rs,rg,h,kk⟩:=zz;exact (
  ⟨σ,G,_,rs,rg,h,fun d G1 v H1 q1 k1 rg1 rd=>⟨σ,G1,_,rs.mono (k1.stb rg),rg1,q1,fun x G2 u H2 q2 k2 rg2 re=>by
    cases x with
    | ref a=>
     dsimp only at q2;split at q2
     ·rename_i C' L' ds hg;obtain⟨⟨rfl,rfl⟩,q2⟩:=q2;obtain⟨ho,e1,ro⟩:=rg2 a _ hg;cases ho with
      | ins C2 dx gs=>
       obtain⟨rfl,r2,r3⟩:=ro;subst r2;have rd2:=RD.mono (k2.stb rg1) _ _ rd;obtain⟨kp,rg3⟩:=At (gs':=e8 f v gs) (L':=gs.map (·.1) ++ [f]) (ds':=ds ++ [val d]) rg2 e1 (by rw[put_new v hi];simp) (by rw[put_new v hi,MY];exact r3.append (RDs.cons rd2 RDs.nil)) (by rw[hg];exact fun z=>nomatch z)
       exact⟨a,_,dx,gs,re.ref,e1,cl,na,by simpa using hl,kk.nx _ _ _ _ q2 ((k1.trans k2).trans kp) rg3 (rs.mono ((((k1.trans k2).trans kp)).stb rg))⟩
      | _=>exact ro.elim
     ·exact q2.elim
    | _=>exact q2.elim⟩⟩)
def Lc(te:bn)(g:ux):bP:=fun D σ G=>te σ G fun d G'=>g (val d) σ G' D.nx
abbrev BN:=List D->Gp->j9->Prop
def mx(K:Ow)(r3:BN):List V->Hp->VK->Prop:=fun vs H Q=>∃ ds G Q3,RDs K H ds vs/\RG K H G/\r3 ds G Q3/\uq K G H Q3 Q
def eB(r:BN)(ta:m_):bn:=fun σ G Q=>ta σ G fun ds G1=>r ds G1 Q
variable{id T:String}{r3:BN}
theorem Ha{Q:VK}{τ:St}{H:Hp}(h:ay K (eB r3 t) τ H Q):K8 (mx K r3) (eg K t) τ H Q:=by
 obtain⟨σ,G,Q3,rs,rg,h,kk⟩:=h;exact⟨σ,G,_,rs,rg,h,fun ds G1 vs H1 q k1 rg1 rds=>⟨ds,G1,Q3,rds,rg1,q,kk.base k1⟩⟩
theorem b7(hc:dU X (.builtin id) (mx X.K r3))(hg:Gl X x)(hm:X.mg x=none)(hv:NA x=some (.builtin id))(ha:PA X (e::es) (eg X.K t))(hn:x≠"__name__":=by decide)(hdb:(x == ("__debug__":Str))=false:=by decide)
  (he:Mr (e::es) X.env=(false,eval e X.env)::Mr es X.env:=by rfl) (hpl:(Nn pos (Mr es X.env)).any (·.1)=false:=by rfl):PE X (.Call (.Name x p) (e::es) [] pos) (ay X.K (eB r3 t)):=
 (DU hc hg hm hv ha hn hdb he hpl).imp fun _ _ _ h=>Ha h
theorem kO(hc:dU X (.type T) (mx X.K r3))(hg:Gl X x)(hm:X.mg x=none)(hv:NA x=some (.type T))(ha:PA X (e::es) (eg X.K t))(hn:x≠"__name__":=by decide)(hdb:(x == ("__debug__":Str))=false:=by decide)
  (he:Mr (e::es) X.env=(false,eval e X.env)::Mr es X.env:=by rfl) (hpl:(Nn pos (Mr es X.env)).any (·.1)=false:=by rfl):PE X (.Call (.Name x p) (e::es) [] pos) (ay X.K (eB r3 t)):=
 (Cc hc hg hm hv ha hn hdb he hpl).imp fun _ _ _ h=>Ha h
def lb:BN:=fun ds G Q=>match ds with
 | [.str z]=>z.length<=Mq/\Q (.int z.length) G
 | [d]=>match EO G d with
  | some es=>Q (.int es.length) G
  | none=>False
 | _=>False
theorem fQ{H:Hp}{d:D}{vs:List V}(r:RDs K H [d] vs):∃ v,vs=[v]/\RD K H d v:=by
 obtain⟨v,t,e,h1,h2⟩:=r.inv_cons;have:=h2.inv_nil;subst this;exact⟨v,e,h1⟩
theorem b_len:dU X (.builtin "len") (mx X.K lb):=((xy (X:=X)).or (xz (X:=X))).imp fun vs H Q zz=>by
 obtain⟨ds,G,Q3,rds,rg,h,kk⟩:=zz;unfold lb at h;split at h
 ·rename_i z;obtain⟨v,rfl,rd⟩:=fQ rds;simp only[RD]at rd;subst rd;exact .inl ⟨z,rfl,h.1,kk _ G _ H h.2 Kp.refl rg (.of eh)⟩
 ·rename_i d _;obtain⟨v,rfl,rd⟩:=fQ rds;split at h
  ·rename_i es he;obtain⟨a,xs,rfl,s,r⟩:=qt (G:=G) (H:=H) he (.of rd) rg;exact .inr ⟨a,xs,rfl,s,by rw[<- r.length];exact kk _ G _ H h Kp.refl rg (.of eh)⟩
  ·exact h.elim
 ·exact h.elim
def uj:BN:=fun ds G Q=>match ds with
 | [d]=>match EO G d with
  | some es=>Q (.fl es) G
  | none=>False
 | _=>False
theorem b_list:dU X (.type "list") (mx X.K uj):=(xx (X:=X)).imp fun vs H Q zz=>by
 obtain⟨ds,G,Q3,rds,rg,h,kk⟩:=zz;unfold uj at h;split at h
 ·rename_i d;obtain⟨v,rfl,rd⟩:=fQ rds;split at h
  ·rename_i es he;obtain⟨a,xs,rfl,s,r⟩:=qt (G:=G) (H:=H) he (.of rd) rg;exact⟨a,xs,rfl,s,fun p hp=>kk _ G _ _ h (Kp.laid hp) (rg.laid hp) (xm rg hp r)⟩
  ·exact h.elim
 ·exact h.elim
def xB:BN:=fun ds G Q=>match ds with
 | [d]=>match EO G d with
  | some es=>Q (.tup es) G
  | none=>False
 | _=>False
theorem b_tuple:dU X (.type "tuple") (mx X.K xB):=(vk (X:=X)).imp fun vs H Q zz=>by
 obtain⟨ds,G,Q3,rds,rg,h,kk⟩:=zz;unfold xB at h;split at h
 ·rename_i d;obtain⟨v,rfl,rd⟩:=fQ rds;split at h
  ·rename_i es he;obtain⟨a,xs,rfl,s,r⟩:=qt (G:=G) (H:=H) he (.of rd) rg;refine⟨a,xs,rfl,?_⟩;rcases s with s|s
   ·exact .inl ⟨s,fun p hp=>kk _ G _ _ h (Kp.laid hp) (rg.laid hp) (.of (nv rg hp r))⟩
   ·exact .inr ⟨s,kk _ G _ H h Kp.refl rg (.of (pS s r))⟩
  ·exact h.elim
 ·exact h.elim
def Lz:BN:=fun ds G Q=>match ds with
 | [d]=>∃ ns:List Int,rT G d=some (ns.map D.int)/\Q (.int ns.sum) G
 | _=>False
def EL:BN:=fun ds G Q=>match ds with
 | [.int i,.int j]=>Q (.int (if j < i then j else i)) G
 | _=>False
def LA:BN:=fun ds G Q=>match ds with
 | [.int i,.int j]=>Q (.int (if j > i then j else i)) G
 | _=>False
theorem C6{H:Hp}{i j:Int}{vs:List V}(r:RDs K H [.int i,.int j] vs):vs=[.int i,.int j]:=by
 obtain⟨v,t,e,h1,h2⟩:=r.inv_cons;obtain⟨u,e2,h3⟩:=fQ h2;simp only[RD]at h1 h3;subst e e2 h1 h3;rfl
theorem b_min(hc:X.calm=true):dU X (.builtin "min") (mx X.K EL):=(CK (X:=X) hc).imp fun vs H Q zz=>by
 obtain⟨ds,G,Q3,rds,rg,h,kk⟩:=zz;unfold EL at h;split at h
 ·rename_i i j;exact⟨i,j,C6 rds,kk _ G _ H h Kp.refl rg (.of eh)⟩
 ·exact h.elim
end
section
variable{X:Cx}
def wX:R3:=fun x y G Q=>match x,y with
 | .int i,.int j=>GG i j/\Q (.int (i*j)) G
 | .str z,.int n=>(-(2 ^ 63)<=n/\n < 2 ^ 63/\z.length*n.toNat<=Mq)/\Q (.str (uU z n.toNat)) G
 | _,_=>False
theorem vB:gW X (Nx .Mult) (dj X.K wX):=((Ia (X:=X)).or (Ay (X:=X))).imp fun v u H Q zz=>by
 obtain⟨x,y,G0,H0,G,Q3,rx,ry,rg,h,k⟩:=zz;unfold wX at h;split at h
 ·rename_i i j;exact .inl ⟨i,j,rx.int,ry.int,h.1,k _ G _ H h.2 Kp.refl rg (.of eh)⟩
 ·rename_i z n;exact .inr ⟨z,n,rx.str,ry.int,h.1.1,h.1.2.1,h.1.2.2,k _ G _ H h.2 Kp.refl rg (.of jm)⟩
 ·exact h.elim
def Fk:KA:=fun x lo hi G Q=>match x with
 | .str z=>z.length<=Mq/\Q (.str ⟨(m9 z.cps.toList lo hi).toArray⟩) G
 | .tup ds=>¬ (HT.sIx ds.length 0 lo=0/\HT.sIx ds.length ds.length hi=ds.length)/\Q (.tup (cutD ds lo hi)) G
 | x=>match rT G x with
  | some ds=>Q (.fl (cutD ds lo hi)) G
  | none=>False
theorem BQ:CM X (Ea X.K Fk):=((Hu (X:=X)).or ((Ht (X:=X)).or (Fj (X:=X)))).imp fun v lo hi H Q zz=>by
 obtain⟨x,G0,H0,G,Q3,rx,rg,h,k⟩:=zz;unfold Fk at h;split at h
 ·rename_i z;exact .inl ⟨z,rx.str,h.1,k _ G _ H h.2 Kp.refl rg (.of jm)⟩
 ·rename_i ds;obtain⟨a,xs,rfl,s,r⟩:=rx.tup;refine .inr (.inl ⟨a,xs,rfl,s,by rw[<- r.length];exact h.1,fun p hp=>k _ G _ _ h.2 (Kp.laid hp) (rg.laid hp) (.of (nv rg hp (BC r lo hi)))⟩)
 ·split at h
  ·rename_i ds hds;obtain⟨a,xs,rfl,s,r⟩:=jz hds rx rg;exact .inr (.inr ⟨a,xs,rfl,s,fun p hp=>k _ G _ _ h (Kp.laid hp) (rg.laid hp) (xm rg hp (BC r lo hi))⟩)
  ·exact h.elim
def J9(to:bn)(ta:m_):bn:=fun σ G Q=>to σ G fun x G1=>match x with
 | .str z=>ta σ G1 fun ds G2=>match ds with
  | [d]=>∃ ys:List Str,rT G2 d=some (ys.map D.str)/\(ys.map (·.length)).sum+ys.length*z.length<=16777216/\Q (.str (Txt.join z ys)) G2
  | _=>False
 | _=>False
variable{o e:MJ}{es:List MJ}{to te:bn}{t:m_}{apos cpos pos p:Pos}
def iD(to:bn)(ta:m_):bn:=fun σ G Q=>to σ G fun x G1=>match x with
 | .ref a=>(∃ ds,G1 a=some (.lst ds))/\ta σ G1 fun es G2=>match es with
  | [d]=>match G2 a with
   | some (.lst ds)=>ds.length < Mq/\Q .non (gset G2 a (.lst (ds ++ [d])))
   | _=>False
  | _=>False
 | _=>False
theorem F4{K:Ow}{H:Hp}{G:Gp}{a:Mg}{xs ys:List V}{ds':List D}(rg:RG K H G)(e1:H a=some (.lst xs))(r2:RDs K H ds' ys)(hg:G a≠none):
  Kp G H (gset G a (.lst ds')) (aV H a (.lst ys))/\RG K (aV H a (.lst ys)) (gset G a (.lst ds')):=by
 have kp:Kp G H (gset G a (.lst ds')) (aV H a (.lst ys)):=fun b h e n=>by
  have:b≠a:=fun z=>by subst z;exact hg n
  exact⟨by rw[ar this];exact e,by rw[ai this];exact n⟩
 have st:=kp.stb rg;refine⟨kp,fun b o q=>?_⟩
 by_cases hb:b=a
 ·subst hb;rw[au]at q;cases q;exact⟨_,aG,RDs.mono st _ _ r2⟩
 ·rw[ai hb]at q;obtain⟨h',e2,r⟩:=rg b o q;exact⟨h',by rw[ar hb];exact e2,r.mono st⟩
theorem tE{K:Ow}{H:Hp}{G:Gp}{a:Mg}{ds:List D}(rg:RG K H G)(e:G a=some (.lst ds)):∃ xs,H a=some (.lst xs)/\RDs K H ds xs:=by
 obtain⟨ho,e1,ro⟩:=rg a _ e;cases ho with
 | lst xs=>exact⟨xs,e1,ro⟩
 | _=>exact ro.elim
theorem oB(ho:PE X o (ay X.K to))(ha:PA X [e] (eg X.K t))(Rq:NS o "append" X.env (eval o X.env)=eval o X.env:=by rfl)
  (RU:((Nn cpos (Mr [e] X.env)).all (fun x=>!x.1) && (OH cpos (NZ [] X.env)).all (fun x=>x.1.isSome)
   && decide (([e]:List MJ).length+([]:List P4).length+(if ([]:List P4).isEmpty then 0 else 1) < 30))=true:=by rfl)
  (Rn:(apos.endLine == cpos.line)=true:=by rfl) (hs:Mr [e] X.env=(false,eval e X.env)::Mr [] X.env:=by rfl) (Rs:(Nn cpos (Mr [] X.env)).any (·.1)=false:=by rfl):
  PE X (.Call (.Attribute o "append" apos) [e] [] cpos) (ay X.K (iD to t)):=
 (JJ PySem.F.plainAttrs_list PySem.F.slot_list_append PySem.F.type_list_append vV ho ha Rq RU Rn hs Rs).imp fun τ H Q zz=>by
 obtain⟨σ,G,Q3,rs,rg,h,k⟩:=zz;exact (
  ⟨σ,G,_,rs,rg,h,fun d G1 v H1 q k1 rg1 re=>by
    cases d with
    | ref a=>
     rw[re.ref];obtain⟨⟨ds,hg⟩,q⟩:=q;obtain⟨xs,e1,r1⟩:=tE rg1 hg;refine⟨.inl ⟨rfl,xs,j_.of e1⟩,σ,G1,_,rs.mono (k1.stb rg),rg1,q,fun es G2 vs H2 q2 k2 rg2 rds=>?_⟩;split at q2
     ·rename_i d;obtain⟨v2,rfl,rd⟩:=fQ rds;split at q2
      ·rename_i ds2 hg2;obtain⟨xs2,e2,r2⟩:=tE rg2 hg2;have rr:RDs X.K H2 (ds2 ++ [d]) (xs2 ++ [v2]):=r2.append (RDs.cons rd RDs.nil);obtain⟨kp,rg3⟩:=F4 rg2 e2 rr (by rw[hg2];exact fun z=>nomatch z)
       exact⟨a,xs2,v2,rfl,rfl,e2,by rw[<- r2.length];exact q2.1,k _ _ _ _ q2.2 ((k1.trans k2).trans kp) rg3 (.of mT)⟩
      ·exact q2.elim
     ·exact q2.elim
    | _=>exact q.elim⟩)
def gU(G:Gp):D->Option String
 | .int _=>some "int"
 | .str _=>some "str"
 | .bl _=>some "bool"
 | .tup _=>some "tuple"
 | d=>(rT G d).map fun _=>"list"
def EM:BN:=fun ds G Q=>match ds with
 | [d,.ty T]=>gU G d=some T/\Q (.bl true) G
 | _=>False
theorem Ke:dU X (.builtin "isinstance") (mx X.K EM):=by
 rintro pins s σ H vs us Q I rv ⟨ds,G,Q3,rds,rg,h,kk⟩
 unfold EM at h;split at h
 ·rename_i d T;obtain⟨v,t,e,h1,h2⟩:=rds.inv_cons;obtain⟨u2,e2,h3⟩:=fQ h2;simp only[RD]at h3;subst e e2 h3;obtain⟨u,w',rfl,ru,rw'⟩:=C4 rv;cases rw';have fin:∀ tk,EP X pins σ Q (.bool true) { s with toks:=tk }:=fun tk=>⟨.bl true,H,I.tok tk,rfl,kk _ G _ H h.2 Kp.refl rg (.of eU)⟩
  have one:∀ T':String,Nl X.K (.type T') (.type T')=some true:=fun T'=>by
   unfold Nl;rw[if_pos (beq_self_eq_true _)]
  have hk:=h.1;cases d with
  | int i=>
   simp only[gU,Option.some.injEq]at hk;subst hk;simp only[RD]at h1;subst h1;obtain⟨t,rfl⟩:=ru;exact lE (x:=V.int i) I ⟨t,rfl⟩ (TyOf.int i) (one _) fin
  | str i=>
   simp only[gU,Option.some.injEq]at hk;subst hk;simp only[RD]at h1;subst h1;obtain⟨t,rfl⟩:=ru;exact lE (x:=V.str i) I ⟨t,rfl⟩ (TyOf.str i) (one _) fin
  | bl i=>
   simp only[gU,Option.some.injEq]at hk;subst hk;simp only[RD]at h1;subst h1;cases ru;exact lE (x:=V.bl i) I rfl (TyOf.bl i) (one _) fin
  | tup es=>
   simp only[gU,Option.some.injEq]at hk;subst hk;simp only[RD]at h1;obtain⟨a,xs,rfl,sq,r⟩:=h1;cases ru;obtain⟨_,_,⟨o,e1,c,_⟩,_⟩:=I.tuple sq;exact Od PySem.W.kitx_tuple I.kIn ⟨o,e1,c⟩ (one _) (fun z=>nomatch z) fin
  | _=>
   simp only[gU,Option.map_eq_some_iff]at hk;obtain⟨es,he,rfl⟩:=hk;obtain⟨a,xs,rfl,sq,r⟩:=jz (G:=G) (H:=H) he (.of h1) rg;cases ru;obtain⟨_,_,p,_⟩:=I.list sq;obtain⟨o,e1,c,_⟩:=p.isList;exact Od Ql I.kIn ⟨o,e1,c⟩ (one _) (fun z=>nomatch z) fin
 ·exact h.elim
theorem Lf{x:Str}{T:String}(hg:Gl X x)(hm:X.mg x=none)(hv:NA x=some (.type T))(hn:x≠"__name__":=by decide)(hd:(x == ("__debug__":Str))=false:=by decide):PE X (.Name x pos) (ay X.K (eC (.ty T))):=
 Jf (FM (v:=.ty T) hg hm hv rfl hn hd) fun _=>by simp only[RD]
theorem Bp{x:Str}{d:D}{v:V}{u:Mf}(hg:Gl X x)(hm:X.mg x=some u)(r:aB v u)(rd:∀ H,RD X.K H d v)(hd:(x == ("__debug__":Str))=false:=by decide):PE X (.Name x pos) (ay X.K (eC d)):=Jf (Bn hg hm r hd) rd
def Lx(te:bn):bn:=fun σ G Q=>te σ G fun x G1=>match x with
 | .int i=>Q (.int (-i)) G1
 | _=>False
end
theorem oU{L:List Str}{f:Str}{i:Nat}(h:L.findIdx? (· == f)=some i):vz L f i:=by
 rw[List.findIdx?_eq_some_iff_getElem]at h;obtain⟨hi,h1,h2⟩:=h;refine⟨?_,fun j hj e=>?_⟩
 ·rw[Mp hi]
  simpa using h1
 ·have hj':j < L.length:=Nat.lt_trans hj hi;have:=h2 j hj;rw[Mp hj']at e;simp only[Option.some.injEq]at e;rw[e]at this;simp at this
def BD(N:List Str)(osc scope:NV)(T M:List Str):Bool:=
 decide (scope.kind=.function) && scope.names.all (fun y=>decide (y.2≠.cell) && (decide (y.2≠.local) || (decide (scope.names.lookup y.1=some .local) && ((".0":Str)::T).contains y.1)) &&
  (decide (y.2≠.free) || (decide (osc.names.lookup y.1=some .cell) || decide (osc.names.lookup y.1=some .free)))) && (M.all fun x=>!((".0":Str)::T).contains x) && decide (M.length=N.length) &&
  ((M.zip N).all fun p=>decide (p.1=p.2) || scope.names.all fun y=>decide (y.1≠p.1))
theorem bg{X:Cx}{scope:NV}{T M:List Str}(hc:X.calm=true)(h:BD X.N X.env.scope scope T M=true):CompOk X scope T M:=by
 unfold BD at h;rw[Bool.and_eq_true,Bool.and_eq_true,Bool.and_eq_true]at h;obtain⟨⟨⟨h12,h3⟩,h4⟩,h5⟩:=h;have hlen:M.length=X.N.length:=of_decide_eq_true h4;simp only[Bool.and_eq_true,List.all_eq_true,Bool.or_eq_true,decide_eq_true_eq,Bool.not_eq_true',List.contains_eq_mem]at h12 h3 h5;obtain⟨h1,h2⟩:=h12;refine⟨hc,h1,fun y hy=>(h2 y hy).1.1,fun y hy hl=>?_,fun y hy hl=>?_,hlen,fun i x hx=>?_,fun x hx=>?_,fun y hy hf=>?_⟩
 ·rcases (h2 y hy).1.2 with z|z
  ·exact absurd hl z
  ·exact z.1
 ·rcases (h2 y hy).1.2 with z|z
  ·exact absurd hl z
  ·simpa using z.2
 ·have hi:i < M.length:=(List.getElem?_eq_some_iff.mp hx).1;have hi2:i < X.N.length:=by walk_at "o"
  have hm:(x,X.N[i])∈M.zip X.N:=by
   refine Mv (i:=i) ?_;rw[List.getElem?_zip_eq_some];exact⟨hx,Mp hi2⟩
  rcases h5 _ hm with z|z
  ·left;rw[Mp hi2];exact congrArg some (show x=X.N[i]from z).symm
  ·exact .inr fun y hy=>z y hy
 ·simpa using h3 x hx
 ·rcases (h2 y hy).2 with z|z
  ·exact absurd hf z
  ·exact z
structure Fun3(K:Ow)(x qual:Str)(st:ML)(f:Mg)(fd:NB):Prop where
 ex:∃ (oc:Mf) (od:Option Mg) (dV kV doc pm:Mf) (an:Option Mg) (cdv ct:Mf) (osl:Array (Option Mf)),
  fd=Qh x qual (cM st) (b8 st) (ag st) dV kV doc pm an cdv ct/\K.lookup f=some ⟨oc,od,.func fd,osl⟩/\P9 K cdv qual=true
section
variable{P:Mw}{w:MG}{K:Ow}{mg:Str->Option Mf}{base:MD}
theorem Fun3.ok3{x qual:Str}{st:ML}{f:Mg}{fd:NB}{N ps:List Str}{k:Nat}{sp:br}(F:Fun3 K x qual st f fd)(S:FnScope N ps (ag st))(len:∀ ds G Q,sp ds G Q->ds.length=ps.length)
  (Rl:∀ (cdv:Mf) (A:MB) (outer:List Env) (s:Mi) (H:Hp) (E:XK),Room k (A.deeper (Os qual (ag st) s.heap.objs.size f cdv))->
   ∃ t:bP,nj (zB pj P w K mg base N qual (ag st) f cdv A outer s H E).nox (b8 st) (bO K t)/\∀ ds G Q,sp ds G Q->t { nx:=fun _ G'=>Q .non G',rt:=Q } (cC N ds) G):FnOk P w K mg base pj (k+1) f fd ps (bN K sp):=by
 obtain⟨oc,od,dV,kV,doc,pm,an,cdv,ct,osl,rfl,lk,hcd⟩:=F.ex;refine GW lk hcd S (fun vs H Q E ⟨ds,G,Q3,rds,rg,h,kk⟩=>by rw[<- rds.length];exact len ds G Q3 h) fun A outer s H vs Q E hr hsp=>?_
 obtain⟨ds,G,Q3,rds,rg,h,kk⟩:=hsp;obtain⟨t,ht,hq⟩:=Rl cdv A outer s H E hr;refine⟨bO K t,ht.nox,cC N ds,G,{ nx:=fun _ G'=>Q3 .non G',rt:=Q3 },x6 rds,rg,hq ds G Q3 h,⟨fun σ' G' τ' H' q k' rg' rs'=>kk _ G' _ H' q k' rg' (.of mT),kk,fun _ _ _ _ q=>q.elim,fun _ _ _ _ q=>q.elim⟩⟩
theorem iC{x qual:Str}{st:ML}{f:Mg}{oc:Mf}{od an:Option Mg}{osl:Array (Option Mf)}{dV kV doc pm cdv ct:Mf}(l:K.lookup f=some ⟨oc,od,.func (Qh x qual (cM st) (b8 st) (ag st) dV kV doc pm an cdv ct),osl⟩)
  (c:P9 K cdv qual=true):Fun3 K x qual st f (Qh x qual (cM st) (b8 st) (ag st) dV kV doc pm an cdv ct):=⟨⟨oc,od,dV,kV,doc,pm,an,cdv,ct,osl,rfl,l,c⟩⟩
end
theorem af{t u:bP}{D:Ends3}{σ:eO}{G:Gp}:sSeq t u D σ G=t { D with nx:=u D } σ G:=rfl
theorem Gt{ds:List D}{i:Int}(h:0<=i):cutD ds none (some i)=ds.take i.toNat:=by
 have:HT.sIx ds.length ds.length (some i)=min i.toNat ds.length:=by simp only[HT.sIx];rw[if_neg (by walk_at "o")]
 unfold cutD;rw[this];simp only[HT.sIx,List.drop_zero,Nat.sub_zero];rw[List.take_eq_take_iff];omega
theorem uf{ds:List D}{i j:Int}(h:0<=i)(h2:0<=j):cutD ds (some i) (some j)=(ds.drop i.toNat).take (j.toNat - i.toNat):=by
 have e1:HT.sIx ds.length 0 (some i)=min i.toNat ds.length:=by simp only[HT.sIx];rw[if_neg (by walk_at "o")]
 have e2:HT.sIx ds.length ds.length (some j)=min j.toNat ds.length:=by simp only[HT.sIx];rw[if_neg (by walk_at "o")]
 unfold cutD;rw[e1,e2]
 by_cases hi:i.toNat<=ds.length
 ·rw[Nat.min_eq_left hi,List.take_eq_take_iff,ON]
  by_cases hj:j.toNat<=ds.length
  ·rw[Nat.min_eq_left hj]
  ·have hj':=Nat.le_of_not_le hj;rw[Nat.min_eq_right hj',Nat.min_self,Nat.min_eq_right (Nat.sub_le_sub_right hj' _)]
 ·rw[Nat.min_eq_right (Nat.le_of_not_le hi),List.drop_length,List.drop_eq_nil_of_le (le_of_lt (Nat.lt_of_not_le hi))];simp
def S(cs:List Nat):Str:=⟨cs.toArray⟩
theorem kH(x:Str)(k:Nat):(uU x k).length=k*x.length:=by
 simp[uU,OZ]
theorem o8{ds:List D}{i:Int}(h0:0<=i)(h:i < ds.length):lW ds i=some (ds[i.toNat]'(by walk_at "o")):=by
 unfold lW F_;rw[if_pos h0,if_pos h];simp[show i.toNat < ds.length by walk_at "o"]
theorem ah:1000000<=Mq:=by decide
theorem iL(lo:Int)(n:Nat):(fH lo n).length=n:=by simp[fH]
theorem sT{lo:Int}{n i:Nat}{d:D}(h:(fH lo n)[i]?=some d):i < n/\d=.int (lo+(i:Nat)):=by
 have hl:i < (fH lo n).length:=(List.getElem?_eq_some_iff.mp h).1;rw[iL]at hl;refine⟨hl,?_⟩;rw[fH,MA,List.getElem?_range hl]at h
 simpa using h.symm
end L3
namespace L2
open PySem PySem.Spec PyProof.Rows
section
variable{X:Cx}
theorem PS.or{st:ML}{t t':TS}(h:PS X st t)(h':PS X st t'):PS X st (fun D σ H=>t D σ H\/t' D σ H):=fun pins s σ H D I q=>by
 rcases q with q|q
 ·exact h pins s σ H D I q
 ·exact h' pins s σ H D I q
end
end L2
namespace L3
open PySem PySem.Spec PyProof.Rows L2
def La(i:Nat)(t:bP):bP:=fun D σ G=>match σ[i]? with
 | some (some (.ref p))=>match G p with
  | some (.lst ds)=>t D (σ.set i (some (.lst ds))) (eX G p)
  | _=>False
 | some (some (.lst _))=>t D σ G
 | _=>False
def Lo(ta:m_):EY:=fun σ G Q=>ta σ G fun ds G'=>match ds with
 | [.lst es]=>Q es.reverse G'
 | _=>False
theorem Kv{a:D}:lW [a] 0=some a:=rfl
theorem Ku{a b:D}:lW [a,b] 0=some a:=rfl
theorem Kt{a b:D}:lW [a,b] 1=some b:=rfl
theorem Ks{a b c:D}:lW [a,b,c] 0=some a:=rfl
theorem Kr{a b c:D}:lW [a,b,c] 1=some b:=rfl
theorem Kq{a b c:D}:lW [a,b,c] 2=some c:=rfl
theorem Ko{a b c d:D}:lW [a,b,c,d] 0=some a:=rfl
theorem Kn{a b c d:D}:lW [a,b,c,d] 1=some b:=rfl
theorem Km{a b c d:D}:lW [a,b,c,d] 2=some c:=rfl
theorem Kl{a b c d:D}:lW [a,b,c,d] 3=some d:=rfl
theorem Kk{a b c d e:D}:lW [a,b,c,d,e] 0=some a:=rfl
theorem Kj{a b c d e:D}:lW [a,b,c,d,e] 1=some b:=rfl
theorem Ki{a b c d e:D}:lW [a,b,c,d,e] 2=some c:=rfl
theorem Kh{a b c d e:D}:lW [a,b,c,d,e] 3=some d:=rfl
theorem Kg{a b c d e:D}:lW [a,b,c,d,e] 4=some e:=rfl
theorem cD{c:rj}{t u:bP}{E:Ends3}{σ:eO}{G:Gp}(b:Bool)(hc:∀ K:Bool->Gp->Prop,K b G->c σ G K)(h:if b=true then t E σ G else u E σ G):mN c t u E σ G:=hc _ h
theorem Ae{t u:bP}{E:Ends3}{σ:eO}{G:Gp}{NX:eO->Gp->Prop}(h2:∀ σ' G',NX σ' G'->u E σ' G')(h1:∀ NX':eO->Gp->Prop,(∀ σ' G',NX σ' G'->NX' σ' G')->t { E with nx:=NX' } σ G):sSeq t u E σ G:=h1 (u E) h2
open PySem.SeqAt
def AD(x:D)(ds:List D):Bool:=ds.any fun d=>cB d x
theorem yU{x:D}{ds:List D}:AD x ds=true↔x∈ds:=by
 unfold AD;rw[PU];constructor
 ·rintro⟨d,hd,e⟩
  rw[<- jy.mp e];exact hd
 ·intro h;exact⟨x,h,aY x⟩
theorem AC{x:D}{ds:List D}:AD x ds=false↔x∉ds:=by
 rw[<- yU];simp
def vm(K:Ow)(H:Hp)(ds:List D)(x:D)(u:Mf):Bool:=@decide (∃ d∈ds,d=x/\∃ v,RD K H d v/\aB v u) (Classical.propDecidable _)
section
variable{X:Cx}{pins:List (Mg×Obj)}{σ:St}{H:Hp}{s:Mi}
theorem BL(I:Inv X pins σ H s){n:Nat}{ds:List D}{x d:D}{v:V}{u:Mf}(px:pl n x)(pds:∀ d∈ds,pl n d)(hd:d∈ds)(r:RD X.K H d v)(l:aB v u):vm X.K H ds x u=cB d x:=by
 symm;refine kZ ?_;unfold vm;rw[@decide_eq_true_iff _ (Classical.propDecidable _)];constructor
 ·rintro⟨d',hd',rfl,v',r',l'⟩
  have:=aB.inj l l';subst this;exact Ap I n (pds d hd) (pds _ hd') r r'
 ·rintro rfl
  exact⟨d,hd,rfl,v,r,l⟩
theorem uk(I:Inv X pins σ H s){n:Nat}{x:D}(px:pl n x){ds0:List D}(pds:∀ d∈ds0,pl n d):∀ {ds:List D} {xs:List V} {its:List Mf},(∀ d∈ds,d∈ds0)->RDs X.K H ds xs->Vals xs its->its.any (vm X.K H ds0 x)=AD x ds
 | [],xs,its,_,r,w=>by
  rw[r.inv_nil]at w;cases w;rfl
 | d::ds,xs,its,hs,r,w=>by
  obtain⟨v,t,e,h1,h2⟩:=r.inv_cons;subst e;cases w with
  | cons l w=>
   rw[OT,BL I px pds (hs d Mz) h1 l,uk I px pds (fun e he=>hs e (My _ he)) h2 w];rfl
theorem yT(I:Inv X pins σ H s){n:Nat}{x:D}{v:V}{v':Mf}{A:MB}(px:pl n x){ds:List D}(pds:∀ d∈ds,pl n d){xs:List V}{its:List Mf}(r:RDs X.K H ds xs)(w:Vals xs its)(rx:RD X.K H x v)(lx:aB v v')(hu:A.in1.units+n < MT):
  ∀ y,y∈its.toArray->EqAt A.in1 s y v' (vm X.K H ds x y):=fun y hy=>by
 have hy':y∈its:=by simpa using hy
 obtain⟨i,hi,e⟩:=mem_iff_getElem.mp hy';obtain⟨x1,e1,q1⟩:=Vals.getV (i:=i) (u:=y) w (by rw[Mp hi,e])
 obtain⟨d,e2,q2⟩:=RDs.getV r e1;have hd:=Mv e2;rw[BL I px pds hd q2 q1];exact (ug I n (pds d hd) px q2 rx q1 lx hu).eq
end
def KJ:R3:=fun x y G Q=>match EO G y with
 | some ds=>(pl 7 x/\∀ d∈ds,pl 7 d)/\Q (.bl (AD x ds)) G
 | none=>False
def Ig:R3:=fun x y G Q=>match EO G y with
 | some ds=>(pl 7 x/\∀ d∈ds,pl 7 d)/\Q (.bl (!AD x ds)) G
 | none=>False
section
variable{X:Cx}
theorem KQ(hu:X.A.units+8 < MT):gW X (MS .In) (jx X.K KJ):=by
 rintro pins s σ H v u v' u' Q I rv ru ⟨x,y,G,Q3,rx,ry,rg,h,k⟩
 unfold KJ at h;split at h
 ·rename_i ds hq;obtain⟨⟨px,pds⟩,q⟩:=h;obtain⟨a,xs,rfl,sq,r⟩:=qt (G:=G) (H:=H) hq (.of ry) rg;cases ru;have hu1:X.A.in1.units+7 < MT:=by show X.A.units+1+7 < MT;omega
  rcases sq with sq|sq
  ·obtain⟨its,w,p,hz⟩:=I.list sq;refine in_listAt (vm X.K H ds x) p.isList (yT I px pds r w rx rv hu1) ⟨.bl _,H,I,rfl,?_⟩;rw[show its.toArray.any (vm X.K H ds x)=its.any (vm X.K H ds x)by simp,uk I px pds (fun _ h=>h) r w]
   exact k _ G _ H q Kp.refl rg (.of eU)
  ·obtain⟨its,w,p,hz⟩:=I.tuple sq;refine in_tupleAt (vm X.K H ds x) p (yT I px pds r w rx rv hu1) ⟨.bl _,H,I,rfl,?_⟩;rw[show its.toArray.any (vm X.K H ds x)=its.any (vm X.K H ds x)by simp,uk I px pds (fun _ h=>h) r w]
   exact k _ G _ H q Kp.refl rg (.of eU)
 ·exact h.elim
end
section
variable{κ:Type}[DecidableEq κ]
def bE(kvs:List (κ×D))(k:κ):Option D:=(kvs.find? fun kv=>decide (kv.1=k)).map (·.2)
def aW(kvs:List (κ×D))(k:κ)(v:D):List (κ×D):=
 if (kvs.any fun kv=>decide (kv.1=k))=true then kvs.map (fun kv=>if kv.1=k then (kv.1,v)else kv)else kvs ++ [(k,v)]
theorem o9(k:κ):∀ kvs:List (κ×D),(kvs.any fun kv=>decide (kv.1=k))=(bE kvs k).isSome
 | []=>rfl
 | p::r=>by
  by_cases e:p.1=k
  ·simp[bE,MR,e]
  ·have ih:=o9 k r;simp only[OT,e,decide_false,Bool.false_or,ih];simp[bE,MR,e]
theorem eV(kvs:List (κ×D))(k:κ)(v:D):(aW kvs k v).length<=kvs.length+1:=by
 unfold aW;split<;>simp
theorem B4(kvs:List (κ×D))(k:κ)(v:D):(aW kvs k v).map (·.1)=if k∈kvs.map (·.1)then kvs.map (·.1)else kvs.map (·.1) ++ [k]:=by
 unfold aW;have e:((kvs.any fun kv=>decide (kv.1=k))=true)↔k∈kvs.map (·.1):=by
  rw[PU,mem_map];constructor
  ·rintro⟨p,hp,q⟩;exact⟨p,hp,of_decide_eq_true q⟩
  ·rintro⟨p,hp,rfl⟩;exact⟨p,hp,decide_eq_true rfl⟩
 by_cases h:k∈kvs.map (·.1)
 ·rw[if_pos (e.mpr h),if_pos h,MU];refine ND fun p _=>?_;simp only[Function.comp_apply];split<;>rfl
 ·rw[if_neg (fun z=>h (e.mp z)),if_neg h];simp
theorem mV{kvs:List (κ×D)}(k:κ)(v:D)(h:(kvs.map (·.1)).Nodup):((aW kvs k v).map (·.1)).Nodup:=by
 rw[B4];split
 ·exact h
 ·rename_i hk;rw[List.nodup_append];refine⟨h,by simp,fun a ha b hb=>?_⟩
  have:b=k:=by simpa using hb
  subst this;exact fun z=>hk (z ▸ ha)
end
def F8:D->Option aA
 | .int i=>some (.inl i)
 | .str x=>some (.inr x)
 | _=>none
def kD:aA->D
 | .inl i=>.int i
 | .inr x=>.str x
def zc:List D->Option (List aA)
 | []=>some []
 | d::r=>match F8 d,zc r with
  | some k,some ks=>some (k::ks)
  | _,_=>none
def m7:D->Option (List aA)
 | .tup ds=>zc ds
 | _=>none
theorem Ix(k:aA):F8 (kD k)=some k:=by cases k<;>rfl
theorem Bx:∀ ks:List aA,zc (ks.map kD)=some ks
 | []=>rfl
 | k::r=>by simp only[MF,zc,Ix,Bx r]
section
variable{K:Ow}{H:Hp}
theorem AL{d:D}{k:aA}{v:V}(h:F8 d=some k)(r:RD K H d v):v=kV k:=by
 cases d with
 | int i=>simp only[F8,Option.some.injEq]at h;subst h;simp only[RD]at r;exact r
 | str i=>simp only[F8,Option.some.injEq]at h;subst h;simp only[RD]at r;exact r
 | _=>simp[F8]at h
theorem zb:∀ {ds:List D} {ks:List aA} {vs:List V},zc ds=some ks->RDs K H ds vs->vs=ks.map kV
 | [],ks,vs,h,r=>by
  simp only[zc,Option.some.injEq]at h;subst h;exact r.inv_nil
 | d::t,ks,vs,h,r=>by
  obtain⟨x,u,e,h1,h2⟩:=r.inv_cons;subst e;simp only[zc]at h;split at h
  ·rename_i k kr e1 e2;simp only[Option.some.injEq]at h;subst h;rw[AL e1 h1,zb e2 h2];rfl
  ·cases h
theorem oR{d:D}{ks:List aA}{v:V}(h:m7 d=some ks)(r:RD K H d v):∃ b,v=.ref b/\jS K H b (ks.map kV):=by
 cases d with
 | tup ds=>
  simp only[RD]at r;obtain⟨a,xs,e,q,rr⟩:=r;exact⟨a,e,by rw[<- zb h rr];exact q⟩
 | _=>simp[m7]at h
theorem pc.keys{kvs:List (List aA×D)}{xs:List (List aA×Mg×Mf)}(r:pc K H kvs xs):kvs.map (·.1)=xs.map (·.1):=by
 unfold pc at r
 induction r with
 | nil=>rfl
 | cons h _ ih=>rw[MF,MF,h.1,ih]
theorem pc.val{kvs:List (List aA×D)}{xs:List (List aA×Mg×Mf)}(r:pc K H kvs xs)(k:List aA):
  (bE kvs k=none/\Ov xs k=none)\/∃ d b u v,bE kvs k=some d/\Ov xs k=some (b,u)/\RD K H d v/\aB v u:=by
 unfold pc at r
 induction r with
 | nil=>exact .inl ⟨rfl,rfl⟩
 | @cons p q ps qs h t ih=>
  obtain⟨h1,_,v,h2,h3⟩:=h
  by_cases e:p.1=k
  ·have e':q.1=k:=h1.symm.trans e;exact .inr ⟨p.2,q.2.1,q.2.2,v,by simp[bE,MR,e],by simp[Ov,MR,e'],h2,h3⟩
  ·have e':¬ q.1=k:=fun z=>e (h1.trans z);have a1:bE (p::ps) k=bE ps k:=by simp[bE,MR,e]
   have a2:Ov (q::qs) k=Ov qs k:=by simp[Ov,MR,e']
   rw[a1,a2];exact ih
theorem pc.put{kvs:List (List aA×D)}{xs:List (List aA×Mg×Mf)}(r:pc K H kvs xs)(k:List aA){b:Mg}{d:D}{v:V}{u:Mf}(hb:jS K H b (k.map kV))(hd:RD K H d v)(hu:aB v u):pc K H (aW kvs k d) (Ph xs k b u):=by
 have e:(kvs.any fun kv=>decide (kv.1=k))=(Ov xs k).isSome:=by
  rw[o9];rcases r.val k with ⟨a,b⟩|⟨_,_,_,_,a,b,_⟩<;>rw[a,b]<;>rfl
 unfold aW Ph;rw[e]
 by_cases q:(Ov xs k).isSome=true
 ·rw[if_pos q,if_pos q];unfold pc at r ⊢;clear e q
  induction r with
  | nil=>exact .nil
  | @cons p q ps qs h t ih=>
   rw[MF,MF];refine .cons ?_ ih;obtain⟨h1,h2,v',h3,h4⟩:=h;unfold putAt
   by_cases e:p.1=k
   ·rw[if_pos e,if_pos (h1.symm.trans e)];exact⟨h1,h2,v,hd,hu⟩
   ·rw[if_neg e,if_neg (fun z=>e (h1.trans z))];exact⟨h1,h2,v',h3,h4⟩
 ·rw[if_neg q,if_neg q];exact PV r ⟨rfl,hb,v,hd,hu⟩
theorem zL.val{kvs:List (aA×D)}{xs:List (aA×V)}(r:zL K H kvs xs)(k:aA):(bE kvs k=none/\lK xs k=none)\/∃ d v,bE kvs k=some d/\lK xs k=some v/\RD K H d v:=by
 unfold zL at r
 induction r with
 | nil=>exact .inl ⟨rfl,rfl⟩
 | @cons p q ps qs h t ih=>
  obtain⟨h1,h2⟩:=h
  by_cases e:p.1=k
  ·have e':q.1=k:=h1.symm.trans e;exact .inr ⟨p.2,q.2,by simp[bE,MR,e],nr e',h2⟩
  ·have e':¬ q.1=k:=fun z=>e (h1.trans z);have a1:bE (p::ps) k=bE ps k:=by simp[bE,MR,e]
   rw[a1,nu e'];exact ih
theorem zL.put{kvs:List (aA×D)}{xs:List (aA×V)}(r:zL K H kvs xs)(k:aA){d:D}{v:V}(hd:RD K H d v):zL K H (aW kvs k d) (mU xs k v):=by
 have e:(kvs.any fun kv=>decide (kv.1=k))=(xs.any fun kv=>decide (kv.1=k)):=by
  rw[o9,se];rcases r.val k with ⟨a,b⟩|⟨_,_,a,b,_⟩<;>rw[a,b]<;>rfl
 unfold aW mU;rw[e]
 by_cases q:(xs.any fun kv=>decide (kv.1=k))=true
 ·rw[if_pos q,if_pos q];unfold zL at r ⊢;clear e q
  induction r with
  | nil=>exact .nil
  | @cons p q ps qs h t ih=>
   rw[MF,MF];refine .cons ?_ ih;obtain⟨h1,h2⟩:=h
   by_cases e:p.1=k
   ·rw[if_pos e,if_pos (h1.symm.trans e)];exact⟨h1,hd⟩
   ·rw[if_neg e,if_neg (fun z=>e (h1.trans z))];exact⟨h1,h2⟩
 ·rw[if_neg q,if_neg q];exact PV r ⟨rfl,hd⟩
theorem zL.length{kvs:List (aA×D)}{xs:List (aA×V)}(r:zL K H kvs xs):kvs.length=xs.length:=N_ r
theorem pc.length{kvs:List (List aA×D)}{xs:List (List aA×Mg×Mf)}(r:pc K H kvs xs):kvs.length=xs.length:=N_ r
end
def aD(P:Mw)(w:MG):List aA->Int:=tupleKeyHash (aZ P w)
section
variable{X:Cx}{pins:List (Mg×Obj)}{σ:St}{H:Hp}{s:Mi}{a:Mg}
theorem key_at(I:Inv X pins σ H s){b:Mg}{ks:List aA}(h:jS X.K H b (ks.map kV)):(Nk (aZ X.prog X.w)).is s.heap ks b:=by
 obtain⟨its,r,⟨o,h1,h2,n,h3⟩,_⟩:=I.tuple h;exact⟨o,its.toArray,n,h1,h2,h3,by simpa using qf r⟩
theorem r8(I:Inv X pins σ H s){kvs:List (List aA×D)}{xs:List (List aA×Mg×Mf)}{φ:MD->Prop}(e:H a=some (.ext φ))(r:pc X.K H kvs xs)(nd:(kvs.map (·.1)).Nodup)(hφ:∀ h,φ h->xK (aD X.prog X.w) a xs h:=by exact fun _ z=>z):
  (a == M5)=false/\s.heap.DictOfH (Nk (aZ X.prog X.w)) a xs:=by
 obtain⟨hd,o,es,ep,h1,h2,h3,h4⟩:=hφ _ (show bD X.prog X.w H s.heap a (.ext φ)from I.hok a _ e).1
 refine⟨hd,o,es,ep,h1,h2,h3,h4,?_,by rw[<- r.keys];exact nd⟩
 unfold pc at r;clear h4 e nd hφ
 induction r with
 | nil=>intro x hx;exact nomatch hx
 | @cons p q ps qs hq t ih=>
  intro x hx;rcases MP.mp hx with e|hx
  ·subst e;exact key_at I (by rw[<- hq.1];exact hq.2.1)
  ·exact ih x hx
theorem qm{P:Mw}{w:MG}{H':Hp}{h:MD}{hw:List aA->Int}{xs:List (List aA×Mg×Mf)}(h1:xK hw a xs h):bD P w H' h a (.ext (xK hw a xs)):=by
 obtain⟨hd,o,es,ep,e,r⟩:=h1;exact⟨⟨hd,o,es,ep,e,r⟩,⟨o,e⟩,fun h1 h2 ⟨hd,o,es,ep,e,r⟩ k=>⟨hd,o,es,ep,k o e,r⟩⟩
end
section
variable{K:Ow}{H:Hp}{G:Gp}
theorem Gd{p:Mg}{o:GO}{ho:HO}(rg:RG K H G)(e:H p=none)(ro:∀ H':Hp,Stb K H H'->RO K H' p o ho):Kp G H (gset G p o) (aV H p ho)/\RG K (aV H p ho) (gset G p o):=by
 have kp:Kp G H (gset G p o) (aV H p ho):=fun b h q n=>by
  have:b≠p:=ba q e;exact⟨by rw[ar this];exact q,by rw[ai this];exact n⟩
 refine⟨kp,fun b u q=>?_⟩
 by_cases hb:b=p
 ·subst hb;rw[au]at q;cases q;exact⟨_,aG,ro _ (kp.stb rg)⟩
 ·rw[ai hb]at q;obtain⟨h,q1,q2⟩:=rg b u q;exact⟨h,by rw[ar hb];exact q1,q2.mono (kp.stb rg)⟩
theorem tX{a:Mg}{o:GO}{ho:HO}(rg:RG K H G)(hg:G a≠none)(ro:∀ H':Hp,Stb K H H'->RO K H' a o ho):Kp G H (gset G a o) (aV H a ho)/\RG K (aV H a ho) (gset G a o):=by
 have kp:Kp G H (gset G a o) (aV H a ho):=fun b h e n=>by
  have:b≠a:=fun z=>by subst z;exact hg n
  exact⟨by rw[ar this];exact e,by rw[ai this];exact n⟩
 refine⟨kp,fun b u q=>?_⟩
 by_cases hb:b=a
 ·subst hb;rw[au]at q;cases q;exact⟨_,aG,ro _ (kp.stb rg)⟩
 ·rw[ai hb]at q;obtain⟨h,q1,q2⟩:=rg b u q;exact⟨h,by rw[ar hb];exact q1,q2.mono (kp.stb rg)⟩
end
def qY(hw:List aA->Int):bn:=fun _ G Q=>∀ p,G p=none->Q (.ref p) (gset G p (.dT hw []))
def Eu:bn:=fun _ G Q=>∀ p,G p=none->Q (.ref p) (gset G p (.dK []))
section
variable{X:Cx}{pos:Pos}
theorem pV:PE X (.Dict [] [] pos) (ay X.K (qY (aD X.prog X.w))):=fun pins s τ H Q I zz=>by
 obtain⟨σ,G,Q3,rs,rg,h,k⟩:=zz;have hf:H s.heap.objs.size=none:=I.hok.fresh (le_refl _);obtain⟨kp,rg2⟩:=Gd (o:=.dT (aD X.prog X.w) []) (ho:=.ext (xK (aD X.prog X.w) s.heap.objs.size [])) rg hf fun H' _=>⟨[],rfl,.nil,PK,M0 _⟩;have hd:(s.heap.objs.size == M5)=false:=beq_eq_false_iff_ne.mpr (Ne.symm (MO I.big));exact wpAny_Dict_empty ⟨.ref s.heap.objs.size,_,I.laid (a:=s.heap.objs.size) (t':=s.toks) (fun _ _ q=>Mm _ q) (le_refl _) (qm ⟨hd,_,#[],0,Mn _ rfl,⟨rfl,rfl,rfl⟩,rfl,rfl⟩),rfl,
  k _ _ _ _ (h _ (rg.free hf)) kp rg2 (.of eK)⟩
theorem HY:PE X (.Dict [] [] pos) (ay X.K Eu):=DT.imp fun τ H Q ⟨σ,G,Q3,rs,rg,h,k⟩ p hp=>by
 obtain⟨kp,rg2⟩:=Gd (o:=.dK []) (ho:=.dK []) rg hp fun H' _=>(show zL X.K H' [] []from .nil)
 exact k _ _ _ _ (h _ (rg.free hp)) kp rg2 (.of eK)
end
def kQ(hw:List aA->Int):D->D->D->Gp->(Gp->Prop)->Prop:=fun o i v G Q=>match o with
 | .ref a=>match G a with
  | some (.dT hw' kvs)=>hw'=hw/\∃ ks,m7 i=some ks/\kvs.length < Mq/\Q (gset G a (.dT hw (aW kvs ks v)))
  | some (.dK kvs)=>∃ k,F8 i=some k/\kvs.length < Mq/\Q (gset G a (.dK (aW kvs k v)))
  | some (.lst ds)=>match i with
   | .int j=>∃ m,F_ ds.length j=some m/\Q (gset G a (.lst (ds.set m v)))
   | _=>False
  | _=>False
 | _=>False
def F5(K:Ow)(r:D->D->D->Gp->(Gp->Prop)->Prop):GB:=fun o i v H Q=>∃ x y z G Q3,RD K H x o/\RD K H y i/\RD K H z v/\RG K H G/\r x y z G Q3/\∀ G' H',Q3 G'->Kp G H G' H'->RG K H' G'->Q H'
def ee(hw:List aA->Int)(to ti te:bn):bP:=fun E σ G=>te σ G fun v G1=>to σ G1 fun o G2=>ti σ G2 fun i G3=>kQ hw (val o) (val i) (val v) G3 fun G4=>E.nx σ G4
section
variable{X:Cx}
theorem Hg(hu:X.A.units+8 < MT):Jb X (F5 X.K (kQ (aD X.prog X.w))):=by
 rintro pins s σ H o i v ov iv u Q I ro ri rv ⟨x,y,z,G,Q3,rx,ry,rz,rg,h,k⟩
 unfold kQ at h;split at h
 ·rename_i a;simp only[RD]at rx;subst rx;cases ro;split at h
  ·rename_i hw' kvs hg;obtain⟨rfl,ks,hk,hl,h⟩:=h;obtain⟨b,rfl,sq⟩:=oR hk ry;cases ri;obtain⟨ho,e,r⟩:=rg a _ hg;cases ho with
   | ext φ=>
    obtain⟨xs,rfl,rt,nd,_⟩:=r;obtain⟨hd,dd⟩:=r8 I e rt nd;have hz:xs.length<=Mq:=by rw[<- rt.length];omega
    refine QR (hsz:=hz) (M4 (show X.A.units+1 < MT by walk_at "o")) (key_at I sq) dd fun h' dd' hs=>?_
    obtain⟨q,es,ep,hq,h2,h3,h4,_,h5⟩:=dd';obtain⟨kp,rg2⟩:=tX (a:=a) (o:=.dT (aD X.prog X.w) (aW kvs ks z)) (ho:=.ext (xK (aD X.prog X.w) a (Ph xs ks b u))) rg (by rw[hg];exact fun z=>nomatch z)
     fun H' st=>⟨_,rfl,(rt.put ks sq rz rv).mono st,mV ks z nd,by have:=eV kvs ks z;omega⟩
    exact⟨_,r_ I (by rw[e];exact True.intro) hs ⟨q,hq⟩ (qm ⟨hd,q,es,ep,hq,h2,h3,h4⟩),k _ _ h kp rg2⟩
   | _=>exact r.elim
  ·rename_i kvs hg;obtain⟨kk,hk,hl,h⟩:=h;have ei:=AL hk ry;subst ei;obtain⟨ho,e,r⟩:=rg a _ hg;cases ho with
   | dK xs=>
    have r':zL X.K H kvs xs:=r;obtain⟨kp,rg2⟩:=tX (a:=a) (o:=.dK (aW kvs kk z)) (ho:=.dK (mU xs kk v)) rg (by rw[hg];exact fun z=>nomatch z) fun H' st=>(r'.put kk rz).mono st
    exact CD (by walk_at "o") I (CT.k e (by rw[<- r'.length];exact hl)) ri rv fun s' I'=>⟨_,I',k _ _ h kp rg2⟩
   | _=>exact r.elim
  ·rename_i ds hg;split at h
   ·rename_i j;obtain⟨m,hm,h⟩:=h;simp only[RD]at ry;subst ry;obtain⟨ho,e,r⟩:=rg a _ hg;cases ho with
    | lst xs=>
     have r':RDs X.K H ds xs:=r;obtain⟨kp,rg2⟩:=tX (a:=a) (o:=.lst (ds.set m z)) (ho:=.lst (xs.set m v)) rg (by rw[hg];exact fun z=>nomatch z) fun H' st=>RDs.mono st _ _ (r'.set m rz)
     exact Dk pins s σ H (.ref a) _ _ _ _ _ _ I rfl ri rv ⟨a,xs,j,m,rfl,rfl,e,by rw[<- r'.length];exact hm,k _ _ h kp rg2⟩
    | _=>exact r.elim
   ·exact h.elim
  ·exact h.elim
 ·exact h.elim
theorem gv{o i e:MJ}{to ti te:bn}{pos pos':Pos}(hu:X.A.units+8 < MT)(ho:PE X o (ay X.K to))(hi:PE X i (ay X.K ti))(he:PE X e (ay X.K te))
  (hs:swapsWithSole [.Subscript o i pos'] e pos.line X.env=pure false:=by rfl) (hw:swappedStores [.Subscript o i pos'] e X.env=pure none:=by rfl) (h1:(NM [.Subscript o i pos'] X.env).map (·.2)=[assign (.Subscript o i pos') X.env]:=by rfl)
  (ha:∀ v,assign (.Subscript o i pos') X.env v=(do
   let ov <- holding [v] (eval o X.env)
   let iv <- holding [v,ov] (eval i X.env)
   OB pos'
   holding [v,ov,iv] (Q9 ov iv v)
   release [v,ov,iv] []):=by intro _;rfl):PS X (.Assign [.Subscript o i pos'] e pos) (bO X.K (ee (aD X.prog X.w) to ti te)):=
 (HH (dB he) (HK (dB ho) (dB hi) (Hg hu) ha) hs hw h1).imp fun E τ H zz=>by
 obtain⟨σ,G,E3,rs,rg,h,k⟩:=zz;exact (
  ⟨σ,G,_,rs,rg,h,fun v G1 u H1 q1 k1 rg1 rd1=>
    ⟨σ,G1,_,rs.mono (k1.stb rg),rg1,q1,fun o G2 u2 H2 q2 k2 rg2 rd2=>⟨σ,G2,_,rs.mono ((k1.trans k2).stb rg),rg2,q2,fun i G3 u3 H3 q3 k3 rg3 rd3=>
     ⟨val o,val i,val v,G3,_,RD.mono (k3.stb rg2) _ _ rd2,rd3,RD.mono ((k2.trans k3).stb rg1) _ _ rd1,rg3,q3,fun G4 H4 q4 k4 rg4=>k.nx σ G4 τ H4 q4 (k1.trans (k2.trans (k3.trans k4))) rg4 (rs.mono ((k1.trans (k2.trans (k3.trans k4))).stb rg))⟩⟩⟩⟩)
end
def cA(hw:List aA->Int)(G:Gp)(o i:D)(r:Option D):Prop:=match o with
 | .ref a=>match G a with
  | some (.dT hw' kvs)=>hw'=hw/\∃ ks,m7 i=some ks/\r=bE kvs ks
  | some (.dK kvs)=>∃ k,F8 i=some k/\r=bE kvs k
  | some (.dF _ hw' _ kvs)=>hw'=hw/\∃ ks,m7 i=some ks/\r=bE kvs ks
  | _=>False
 | _=>False
def jQ(G:Gp)(o:D):Prop:=match o with
 | .ref a=>match G a with
  | some (.dT _ _)=>True
  | some (.dK _)=>True
  | some (.dF _ _ _ _)=>True
  | _=>False
 | _=>False
section
variable{X:Cx}{pins:List (Mg×Obj)}{σ:St}{H:Hp}{s:Mi}{G:Gp}{A:MB}{E:Mf->Mi->Prop}{x y d z:D}{o i zv:V}{ov iv zu:Mf}{r:Option D}
theorem cA.split(h:cA (aD X.prog X.w) G x y r)(I:Inv X pins σ H s)(rg:RG X.K H G)(rx:RD X.K H x o)(ro:aB o ov)(ry:RD X.K H y i)(ri:aB i iv):
  ∃ a,ov=.ref a/\((∃ hs k,H a=some (.dK hs)/\i=kV k/\((r=none/\lK hs k=none)\/∃ d v,r=some d/\lK hs k=some v/\RD X.K H d v))\/
   ∃ xs ks b,(a == M5)=false/\s.heap.DictOfH (Nk (aZ X.prog X.w)) a xs/\iv=.ref b/\(Nk (aZ X.prog X.w)).is s.heap ks b/\
    ((r=none/\Ov xs ks=none)\/∃ d b' u v,r=some d/\Ov xs ks=some (b',u)/\RD X.K H d v/\aB v u)):=by
 unfold cA at h;split at h
 ·rename_i a;simp only[RD]at rx;subst rx;cases ro;refine⟨a,rfl,?_⟩;split at h
  ·rename_i hw' kvs hg;obtain⟨rfl,ks,hk,rfl⟩:=h;obtain⟨b,rfl,sq⟩:=oR hk ry;cases ri;obtain⟨ho,e,q⟩:=rg a _ hg;cases ho with
   | ext φ=>
    obtain⟨xs,rfl,rt,nd,_⟩:=q;obtain⟨hd,dd⟩:=r8 I e rt nd;exact .inr ⟨xs,ks,b,hd,dd,rfl,key_at I sq,rt.val ks⟩
   | _=>exact q.elim
  ·rename_i kvs hg;obtain⟨k,hk,rfl⟩:=h;obtain⟨ho,e,q⟩:=rg a _ hg;cases ho with
   | dK hs=>
    have q':zL X.K H kvs hs:=q;exact .inl ⟨hs,k,e,AL hk ry,q'.val k⟩
   | _=>exact q.elim
  ·rename_i ob hw' xs kvs hg;obtain⟨rfl,ks,hk,rfl⟩:=h;obtain⟨b,rfl,sq⟩:=oR hk ry;cases ri;obtain⟨ho,e,q⟩:=rg a _ hg;cases ho with
   | ext φ=>
    obtain⟨rfl,rt,nd,_⟩:=q;obtain⟨hd,dd⟩:=r8 I e rt nd fun _ z=>z.2;exact .inr ⟨xs,ks,b,hd,dd,rfl,key_at I sq,rt.val ks⟩
   | _=>exact q.elim
  ·exact h.elim
 ·exact h.elim
theorem jQ.at(h:jQ G x)(I:Inv X pins σ H s)(rg:RG X.K H G)(rx:RD X.K H x o)(ro:aB o ov):
  s.TypeIs ov "dict"/\(∀ b,ov=.ref b->∃ ob,s.heap.get? b=some ob/\ob.dict=none):=by
 unfold jQ at h;split at h
 ·rename_i a;simp only[RD]at rx;subst rx;cases ro;split at h
  ·rename_i hw' kvs hg;obtain⟨ho,e,q⟩:=rg a _ hg;cases ho with
   | ext φ=>
    obtain⟨xs,rfl,rt,nd,_⟩:=q;obtain⟨hd,ob,es,ep,h1,h2,h3,h4⟩:=(show bD X.prog X.w H s.heap a (.ext (xK hw' a xs))from I.hok a _ e).1
    refine⟨⟨ob,h1,h2.1⟩,fun b hb=>?_⟩;cases hb;exact⟨ob,h1,h2.2.1⟩
   | _=>exact q.elim
  ·rename_i kvs hg;obtain⟨ho,e,q⟩:=rg a _ hg;cases ho with
   | dK hs=>
    obtain⟨t1,t2,_⟩:=IC I (.inl ⟨hs,.inl e⟩);exact⟨t1,t2⟩
   | _=>exact q.elim
  ·rename_i ob hw' xs kvs hg;obtain⟨ho,e,q⟩:=rg a _ hg;cases ho with
   | ext φ=>
    obtain⟨rfl,rt,nd,_⟩:=q;obtain⟨_,hd,ob,es,ep,h1,h2,h3,h4⟩:=(show bD X.prog X.w H s.heap a (.ext (LQ _ hw' a xs))from I.hok a _ e).1
    exact⟨⟨ob,h1,h2.1⟩,fun b hb=>by cases hb;exact⟨ob,h1,h2.2.1⟩⟩
   | _=>exact q.elim
  ·exact h.elim
 ·exact h.elim
theorem cA.dct{hw:List aA->Int}(h:cA hw G x y r):jQ G x:=by
 unfold cA at h;unfold jQ;split at h
 ·split at h
  ·rename_i e;simp only[e]
  ·rename_i e;simp only[e]
  ·rename_i e;simp only[e]
  ·exact h.elim
 ·exact h.elim
theorem Gr{Q:Mf->Mi->Prop}(hu:A.units+1 < MT)(I:Inv X pins σ H s)(rg:RG X.K H G)(h:cA (aD X.prog X.w) G x y (some d))(rx:RD X.K H x o)(ro:aB o ov)(ry:RD X.K H y i)(ri:aB i iv)
  (q:∀ v u s',Inv X pins σ H s'->RD X.K H d v->aB v u->Q u s'):Mo (Ms X.prog X.w) A (OW ov iv) Q E s:=by
 obtain⟨a,rfl,⟨hs,k,e,rfl,r⟩|⟨xs,ks,b,hd,dd,rfl,hk,r⟩⟩:=h.split I rg rx ro ry ri
 ·rcases r with ⟨z,_⟩|⟨d',v,e1,e2,rd⟩
  ·cases z
  ·cases e1;exact CF hu I (.inl ⟨hs,k,.inl e,rfl,e2.symm⟩) ri fun u s' I' rv=>q v u s' I' rd rv
 ·rcases r with ⟨z,_⟩|⟨d',b',u,v,e1,e2,rd,rv⟩
  ·cases z
  ·cases e1;exact QS (M4 hu) hk dd e2 (q v u _ (I.tok _) rd rv)
theorem G_{Q:Mf->Mi->Prop}(hu:A.units+1 < MT)(I:Inv X pins σ H s)(rg:RG X.K H G)(h:cA (aD X.prog X.w) G x y r)(rx:RD X.K H x o)(ro:aB o ov)(ry:RD X.K H y i)(ri:aB i iv)
  (q:∀ s',Inv X pins σ H s'->Q (.bool r.isSome) s'):Mo (Ms X.prog X.w) A (MS .In iv ov) Q E s:=by
 obtain⟨a,rfl,⟨hs,k,e,rfl,l⟩|⟨xs,ks,b,hd,dd,rfl,hk,l⟩⟩:=h.split I rg rx ro ry ri
 ·refine Ly hu I (uw.k e) ri fun s' I'=>?_;rcases l with ⟨rfl,e2⟩|⟨d,v,rfl,e2,_⟩<;>rw[e2]<;>exact q s' I'
 ·refine wpAny_in_heap (M4 hu) hk hd dd ?_;rcases l with ⟨rfl,e2⟩|⟨d,b',u,v,rfl,e2,_⟩<;>rw[e2]<;>exact q _ (I.tok _)
theorem EA{Q:Mf->Mi->Prop}(hu:A.units+1 < MT)(I:Inv X pins σ H s)(rg:RG X.K H G)(h:cA (aD X.prog X.w) G x y r)(rx:RD X.K H x o)(ro:aB o ov)(ry:RD X.K H y i)(ri:aB i iv)
  (q:∀ s',Inv X pins σ H s'->Q (.bool (!r.isSome)) s'):Mo (Ms X.prog X.w) A (MS .NotIn iv ov) Q E s:=by
 obtain⟨a,rfl,⟨hs,k,e,rfl,l⟩|⟨xs,ks,b,hd,dd,rfl,hk,l⟩⟩:=h.split I rg rx ro ry ri
 ·refine Gq hu I (uw.k e) ri fun s' I'=>?_;rcases l with ⟨rfl,e2⟩|⟨d,v,rfl,e2,_⟩<;>rw[e2]<;>exact q s' I'
 ·refine wpAny_notIn_heap (M4 hu) hk hd dd ?_;rcases l with ⟨rfl,e2⟩|⟨d,b',u,v,rfl,e2,_⟩<;>rw[e2]<;>exact q _ (I.tok _)
theorem Gs{Q:Mf->Mi->Prop}(hu:A.units+1 < MT)(I:Inv X pins σ H s)(rg:RG X.K H G)(h:cA (aD X.prog X.w) G x y r)(rx:RD X.K H x o)(ro:aB o ov)(ry:RD X.K H y i)(ri:aB i iv)(rz:RD X.K H z zv)(rzu:aB zv zu)
  (q:∀ v u s',Inv X pins σ H s'->RD X.K H (r.getD z) v->aB v u->Q u s'):Mo (Ms X.prog X.w) A (call (.builtin "dict.get") [ov,iv,zu]) Q E s:=by
 obtain⟨a,rfl,⟨hs,k,e,rfl,l⟩|⟨xs,ks,b,hd,dd,rfl,hk,l⟩⟩:=h.split I rg rx ro ry ri
 ·refine IJ hu I (uw.k e) ri rzu fun u s' I' rv=>?_;rcases l with ⟨rfl,e2⟩|⟨d,v,rfl,e2,rd⟩<;>rw[e2]at rv
  ·exact q _ u s' I' rz rv
  ·exact q _ u s' I' rd rv
 ·refine PB PySem.F.slot_dict_get dd.typeIs PySem.F.entry_dict_get (PySem.F.args_dict_get_3 _ _ _) (Qk (Nk (aZ X.prog X.w)) a b hd zu) ⟨M4 hu,ks,xs,hk,dd,?_⟩;rcases l with ⟨rfl,e2⟩|⟨d,b',u,v,rfl,e2,rd,rv⟩<;>rw[e2]
  ·exact q zv _ _ (I.tok _) rz rzu
  ·exact q v _ _ (I.tok _) rd rv
end
def vj(hw:List aA->Int)(to ti:bn):bn:=fun σ G Q=>to σ G fun x G1=>ti σ G1 fun y G2=>∃ d,cA hw G2 (val x) (val y) (some d)/\Q d G2
def xo(hw:List aA->Int)(ti to:bn):bn:=fun σ G Q=>ti σ G fun y G1=>to σ G1 fun x G2=>∃ r,cA hw G2 (val x) (val y) r/\Q (.bl r.isSome) G2
def lH(hw:List aA->Int)(ti to:bn):bn:=fun σ G Q=>ti σ G fun y G1=>to σ G1 fun x G2=>∃ r,cA hw G2 (val x) (val y) r/\Q (.bl (!r.isSome)) G2
def qk(hw:List aA->Int)(to ti tz:bn):bn:=fun σ G Q=>to σ G fun x G1=>jQ G1 (val x)/\ti σ G1 fun y G2=>tz σ G2 fun z G3=>∃ r,cA hw G3 (val x) (val y) r/\Q (r.getD (val z)) G3
section
variable{X:Cx}{o i e f:MJ}{to ti tz:bn}{pos apos cpos:Pos}
theorem dN{t:bn}{e:MJ}(h:PE X e (ay X.K t)){pins:List (Mg×Obj)}{s:Mi}{τ:St}{H:Hp}{σ:eO}{G:Gp}{Q3:j9}(I:Inv X pins τ H s)(rs:RS X.K H σ τ)(rg:RG X.K H G)(ht:t σ G Q3):
  Mo (Ms X.prog X.w) X.A (eval e X.env) (EP X pins τ fun v H1=>∃ d G1,Q3 d G1/\Kp G H G1 H1/\RG X.K H1 G1/\RD X.K H1 (val d) v) X.xe s:=
 dB h pins s τ H _ I ⟨σ,G,Q3,rs,rg,ht,fun d G' v H' q k rg' rd=>⟨d,G',q,k,rg',rd⟩⟩
theorem qO(hu:X.A.units+8 < MT)(ho:PE X o (ay X.K to))(hi:PE X i (ay X.K ti))(hs:KB i:=by exact fun _ _=>rfl):PE X (.Subscript o i pos) (ay X.K (vj (aD X.prog X.w) to ti)):=by
 rintro pins s τ H Q I ⟨σ,G,Q3,rs,rg,h,k⟩
 refine Fc PySem.F.slot_dict_getitem.lookup hs (cb (dN ho I rs rg h) fun ov s1 zz=>?_);obtain⟨ox,H1,I1,rox,x,G1,q1,k1,rg1,rd1⟩:=zz;refine cb (dN hi I1 (rs.mono (k1.stb rg)) rg1 q1) fun iv s2 zz=>?_;obtain⟨iy,H2,I2,riy,y,G2,q2,k2,rg2,rd2⟩:=zz;obtain⟨d,l,q2⟩:=q2;have rx:=RD.mono (k2.stb rg1) _ _ rd1;exact⟨(l.dct.at I2 rg2 rx rox).1,Gr (by walk_at "o") I2 rg2 l rx rox rd2 riy fun v u s3 I3 rd rv=>⟨v,H2,I3,rv,k _ G2 _ H2 q2 (k1.trans k2) rg2 (.of rd)⟩⟩
theorem JN(hu:X.A.units+8 < MT)(hi:PE X i (ay X.K ti))(ho:PE X o (ay X.K to))(hm:Ng .In o=false:=by rfl):PE X (.Compare i [.In] [o] pos) (ay X.K (xo (aD X.prog X.w) ti to)):=by
 refine HS (op:=.In) (fun pins s τ H Q I zz=>?_) hm;obtain⟨σ,G,Q3,rs,rg,h,k⟩:=zz;refine cb (dN hi I rs rg h) fun iv s1 zz=>?_;obtain⟨iy,H1,I1,riy,y,G1,q1,k1,rg1,rd1⟩:=zz;refine cb (dN ho I1 (rs.mono (k1.stb rg)) rg1 q1) fun ov s2 zz=>?_;obtain⟨ox,H2,I2,rox,x,G2,q2,k2,rg2,rd2⟩:=zz;obtain⟨r,l,q2⟩:=q2;exact G_ (by walk_at "o") I2 rg2 l rd2 rox (RD.mono (k2.stb rg1) _ _ rd1) riy fun s3 I3=>⟨.bl r.isSome,H2,I3,rfl,k _ G2 _ H2 q2 (k1.trans k2) rg2 (.of eU)⟩
theorem wU(hu:X.A.units+8 < MT)(ho:PE X o (ay X.K to))(he:PE X e (ay X.K ti))(hf:PE X f (ay X.K tz))(m:M2 X o "get" apos e f cpos:=by exact⟨rfl,rfl,rfl,rfl⟩):PE X (.Call (.Attribute o "get" apos) [e,f] [] cpos) (ay X.K (qk (aD X.prog X.w) to ti tz)):=by
 rintro pins s τ H Q I ⟨σ,G,Q3,rs,rg,h,k⟩
 refine wpAny_Call_method m.base m.few m.line PySem.F.plainAttrs_dict PySem.F.slot_dict_get PySem.F.type_dict_get (cb (dN ho I rs rg h) fun ov s1 zz=>?_);obtain⟨ox,H1,I1,rox,x,G1,q1,k1,rg1,rd1⟩:=zz;obtain⟨t1,t2⟩:=q1.1.at I1 rg1 rd1 rox;refine⟨t1,t2,?_⟩;rw[m.trees];refine O0 rfl (QN (NO (cb (dN he I1 (rs.mono (k1.stb rg)) rg1 q1.2) fun iv s2 ⟨iy,H2,I2,riy,y,G2,q2,k2,rg2,rd2⟩=>NO (cb (dN hf I2 (rs.mono ((k1.trans k2).stb rg)) rg2 q2) fun fv s3 zz=>?_))));obtain⟨fz,H3,I3,rfz,z,G3,q3,k3,rg3,rd3⟩:=zz;refine Oo ?_;obtain⟨r,l,q3⟩:=q3;exact Gs (by walk_at "o") I3 rg3 l (RD.mono ((k2.trans k3).stb rg1) _ _ rd1) rox (RD.mono (k3.stb rg2) _ _ rd2) riy rd3 rfz fun v u s4 I4 rd rv=>⟨v,H3,I4,rv,k _ G3 _ H3 q3 (k1.trans (k2.trans k3)) rg3 (.of rd)⟩
end
end L3
namespace PySem.W
open PySem PyProof.Rows
def KasT.run{α:Type}(lt:Nat->Nat->Bool):Q4 α->α
 | .ret a=>a
 | .ask i j k=>(k (lt i j)).run lt
theorem KasT.run_bind{α β:Type}(lt:Nat->Nat->Bool)(f:α->Q4 β):∀ t:Q4 α,(t.bind f).run lt=(f (t.run lt)).run lt
 | .ret _=>rfl
 | .ask i j k=>by
  show ((k (lt i j)).bind f).run lt=_
  rw[KasT.run_bind lt f (k (lt i j))];rfl
section
variable(r:Nat->Nat)
def lV(i j:Nat):Bool:=decide (r i < r j)
def RR(p:Array Nat)(i:Nat):Nat:=r (p.getD i 0)
def mD(p:Array Nat)(n:Nat):Prop:=∀ i,i+1 < n->RR r p i<=RR r p (i+1)
def uv(p:Array Nat)(n:Nat):Prop:=∀ i,i+1 < n->RR r p (i+1)<=RR r p i
end
section
variable{r:Nat->Nat}{p:Array Nat}
theorem mD.le{n:Nat}(h:mD r p n){i j:Nat}(hij:i<=j)(hj:j < n):RR r p i<=RR r p j:=by
 induction j with
 | zero=>
      have:i=0:=by walk_at "o"
      subst this;exact le_refl _
 | succ j ih=>
  rcases N9 i (j+1)with h1|h1
  ·exact le_trans (ih (by walk_at "o") (by walk_at "o")) (h j hj)
  ·have:i=j+1:=by walk_at "o"
   subst this;exact le_refl _
theorem uv.le{n:Nat}(h:uv r p n){i j:Nat}(hij:i<=j)(hj:j < n):RR r p j<=RR r p i:=by
 induction j with
 | zero=>
      have:i=0:=by walk_at "o"
      subst this;exact le_refl _
 | succ j ih=>
  rcases N9 i (j+1)with h1|h1
  ·exact le_trans (h j hj) (ih (by walk_at "o") (by walk_at "o"))
  ·have:i=j+1:=by walk_at "o"
   subst this;exact le_refl _
theorem zK{p q:Array Nat}{i j:Nat}(h:p[i]?=q[j]?):RR r p i=RR r q j:=by
 unfold RR;rw[Array.getD_eq_getD_getElem?,Array.getD_eq_getD_getElem?,h]
theorem xF{i j:Nat}(hj:j<=p.size)(k:Nat):RR r (NU p i j) k=if i<=k/\k < j then RR r p (i+j - 1 - k)else RR r p k:=by
 have e:=getElem?_mirror_all (xs:=p) (i:=i) hj k;unfold NU;split
 ·rename_i h;rw[if_pos h]at e;exact zK e
 ·rename_i h;rw[if_neg h]at e;exact zK e
theorem g6(i j:Nat):(NU p i j).size=p.size:=mirror_size _ _ _ _
theorem qu{i j:Nat}(hj:j<=p.size)(he:∀ k,i<=k->k < j->RR r p k=RR r p (j - 1))(k:Nat):RR r (NU p i j) k=RR r p k:=by
 rw[xF hj];split
 ·rename_i h;rw[he _ (by walk_at "o") (by walk_at "o"),he k h.1 h.2]
 ·rfl
theorem ui{i j:Nat}:lV r i j=true↔r i < r j:=by unfold lV;exact decide_eq_true_iff
theorem jf{i j:Nat}:lV r i j=false↔r j<=r i:=by unfold lV;rw[decide_eq_false_iff_not];omega
theorem A3:∀ (f n:Nat),1<=n->∃ m,(kas_asc p f n).run (lV r)=m/\n<=m/\m<=n+f/\(∀ i,n<=i->i < m->RR r p (i - 1)<=RR r p i)/\(m < n+f->RR r p m < RR r p (m - 1))
 | 0,n,_=>⟨n,rfl,le_refl _,le_refl _,fun i h1 h2=>absurd h1 (by walk_at "o"),fun h=>absurd h (by walk_at "o")⟩
 | f+1,n,hn=>by
  show ∃ m,((fun c=>if c=true then KasT.ret n else kas_asc p f (n+1)) (lV r (p.getD n 0) (p.getD (n - 1) 0))).run (lV r)=m/\_
  cases e:lV r (p.getD n 0) (p.getD (n - 1) 0) with
  | true=>exact⟨n,rfl,le_refl _,by walk_at "o",fun i h1 h2=>absurd h1 (by walk_at "o"),fun _=>ui.mp e⟩
  | false=>
   obtain⟨m,e1,h1,h2,h3,h4⟩:=A3 f (n+1) (by walk_at "o")
   refine⟨m,e1,by walk_at "o",by walk_at "o",fun i h5 h6=>?_,fun h=>h4 (by walk_at "o")⟩
   rcases N9 n i with h7|h7
   ·exact h3 i h7 h6
   ·have:i=n:=by walk_at "o"
    subst this;exact jf.mp e
structure DSt(r:Nat->Nat)(p:Array Nat)(n q:Nat):Prop where
 hq:q+1<=n
 hn:n<=p.size
 dec:uv r p n
 eq:∀ k,n - (q+1)<=k->k < n->RR r p k=RR r p (n - 1)
theorem DY{n:Nat}:∀ k,n+1 - (0+1)<=k->k < n+1->RR r p k=RR r p (n+1 - 1):=fun k h1 h2=>by
 have:k=n+1 - 1:=by walk_at "o"
 subst this;rfl
theorem xt:∀ (f:Nat) (p:Array Nat) (n q:Nat),DSt r p n q->n+f<=p.size->∃ p' n' q',(Om f p n q).run (lV r)=(p',n',q')/\DSt r p' n' q'/\n<=n'/\n'<=n+f/\p'.size=p.size/\p'.Perm p
 | 0,p,n,q,h,_=>⟨p,n,q,rfl,h,le_refl _,le_refl _,rfl,Array.Perm.refl _⟩
 | f+1,p,n,q,h,hf=>by
  have hq:=h.hq;show ∃ p' n' q',((fun c=>if c=true then (if q > 0 then Om f (NU p (n - (q+1)) n) (n+1) 0 else Om f p (n+1) 0)
   else .ask (p.getD (n - 1) 0) (p.getD n 0) fun d=>if d=true then .ret (p,n,q)else Om f p (n+1) (q+1)) (lV r (p.getD n 0) (p.getD (n - 1) 0))).run (lV r)=(p',n',q')/\_
  cases e:lV r (p.getD n 0) (p.getD (n - 1) 0) with
  | true=>
   have lt:RR r p n < RR r p (n - 1):=ui.mp e;have next:∀ p1:Array Nat,p1.size=p.size->p1.Perm p->(∀ k,RR r p1 k=RR r p k)->∃ p' n' q',(Om f p1 (n+1) 0).run (lV r)=(p',n',q')/\DSt r p' n' q'/\n<=n'/\n'<=n+(f+1)/\p'.size=p.size/\p'.Perm p:=fun p1 hz hp hR=>by
    have hn:=h.hn;have dc:uv r p1 (n+1):=fun i hi=>by
     rw[hR,hR];rcases N9 (i+1) n with h7|h7
     ·exact h.dec i h7
     ·have e2:n=i+1:=by walk_at "o"
      have e3:i=n - 1:=by walk_at "o"
      rw[<- e2,e3];exact le_of_lt lt
    obtain⟨p',n',q',e1,h1,h2,h3,h4,h5⟩:=xt f p1 (n+1) 0 ⟨by walk_at "o",by walk_at "o",dc,DY⟩ (by walk_at "o")
    exact⟨p',n',q',e1,h1,by walk_at "o",by walk_at "o",by walk_at "o",h5.trans hp⟩
   show ∃ p' n' q',(if q > 0 then Om f (NU p (n - (q+1)) n) (n+1) 0 else Om f p (n+1) 0).run (lV r)=(p',n',q')/\_
   by_cases hq0:q > 0
   ·rw[if_pos hq0];exact next _ (g6 _ _) (PR _ _ _ _) (qu (by walk_at "o") h.eq)
   ·rw[if_neg hq0];exact next p rfl (Array.Perm.refl _) fun _=>rfl
  | false=>
   have ge:RR r p (n - 1)<=RR r p n:=jf.mp e;show ∃ p' n' q',((fun d=>if d=true then KasT.ret (p,n,q)else Om f p (n+1) (q+1)) (lV r (p.getD (n - 1) 0) (p.getD n 0))).run (lV r)=(p',n',q')/\_
   cases e2:lV r (p.getD (n - 1) 0) (p.getD n 0) with
   | true=>exact⟨p,n,q,rfl,h,le_refl _,by walk_at "o",rfl,Array.Perm.refl _⟩
   | false=>
    have le:RR r p n<=RR r p (n - 1):=jf.mp e2;have dc:uv r p (n+1):=fun i hi=>by
     rcases N9 (i+1) n with h7|h7
     ·exact h.dec i h7
     ·have e2:n=i+1:=by walk_at "o"
      have e3:i=n - 1:=by walk_at "o"
      rw[<- e2,e3];exact le
    have eqq:∀ k,n+1 - (q+1+1)<=k->k < n+1->RR r p k=RR r p (n+1 - 1):=fun k h1 h2=>by
     show RR r p k=RR r p n
     rcases N9 k n with h7|h7
     ·rw[h.eq k (by walk_at "o") h7];omega
     ·have:k=n:=by walk_at "o"
      subst this;rfl
    obtain⟨p',n',q',e1,h1,h2,h3,h4,h5⟩:=xt f p (n+1) (q+1) ⟨by walk_at "o",by walk_at "o",dc,eqq⟩ (by walk_at "o")
    exact⟨p',n',q',e1,h1,by walk_at "o",by walk_at "o",h4,h5⟩
theorem xQ{n nrem:Nat}(h1:1<=n)(hn:n<=nrem)(hz:nrem<=p.size)(hd:uv r p n):∃ m p',(Og n nrem p).run (lV r)=(m,p')/\1<=m/\m<=nrem/\p'.size=p.size/\p'.Perm p/\mD r p' m:=by
 unfold Og;rw[KasT.run_bind];obtain⟨m,e,a1,a2,a3,_⟩:=A3 (r:=r) (p:=NU p 0 n) (nrem - n) n h1;rw[e];refine⟨m,_,rfl,by walk_at "o",by walk_at "o",g6 _ _,PR _ _ _ _,fun i hi=>?_⟩
 rcases N9 (i+1) n with h7|h7
 ·rw[xF (by walk_at "o"),xF (by walk_at "o"),if_pos (by walk_at "o"),if_pos (by walk_at "o")]
  exact hd.le (by walk_at "o") (by walk_at "o")
 ·exact a3 (i+1) h7 hi
theorem qZ{n nrem:Nat}(h1:1<=n)(hn:n+1<=nrem)(hz:nrem<=p.size)(hd:uv r p (n+1)):∃ m p',(OU n nrem p).run (lV r)=(m,p')/\1<=m/\m<=nrem/\p'.size=p.size/\p'.Perm p/\mD r p' m:=by
 unfold OU;rw[KasT.run_bind];obtain⟨p1,n1,q1,e,d,a1,a2,a3,a4⟩:=xt (r:=r) (nrem - (n+1)) p (n+1) 0 ⟨by walk_at "o",by walk_at "o",hd,DY⟩ (by walk_at "o")
 rw[e];have hq:=d.hq
 by_cases hq0:q1 > 0
 ·show ∃ m p',(if q1 > 0 then Og n1 nrem (NU p1 (n1 - (q1+1)) n1)else Og n1 nrem p1).run (lV r)=(m,p')/\_
  rw[if_pos hq0];have hR:=qu (r:=r) (p:=p1) (i:=n1 - (q1+1)) (j:=n1) d.hn d.eq;obtain⟨m,p',b1,b2,b3,b4,b5,b6⟩:=xQ (r:=r) (p:=NU p1 (n1 - (q1+1)) n1) (n:=n1) (nrem:=nrem) (by walk_at "o") (by walk_at "o") (by rw[g6];omega) (fun i hi=>by rw[hR,hR];exact d.dec i hi)
  exact⟨m,p',b1,b2,b3,by rw[b4,g6,a3],(b5.trans (PR _ _ _ _)).trans a4,b6⟩
 ·show ∃ m p',(if q1 > 0 then Og n1 nrem (NU p1 (n1 - (q1+1)) n1)else Og n1 nrem p1).run (lV r)=(m,p')/\_
  rw[if_neg hq0];obtain⟨m,p',b1,b2,b3,b4,b5,b6⟩:=xQ (r:=r) (p:=p1) (n:=n1) (nrem:=nrem) (by walk_at "o") (by walk_at "o") (by walk_at "o") d.dec
  exact⟨m,p',b1,b2,b3,by rw[b4,a3],b5.trans a4,b6⟩
theorem ED{nrem:Nat}(h1:1<=nrem)(hz:nrem<=p.size):∃ m p',(Qm nrem p).run (lV r)=(m,p')/\1<=m/\m<=nrem/\p'.size=p.size/\p'.Perm p/\mD r p' m:=by
 unfold Qm;rw[KasT.run_bind];obtain⟨n,e,a1,a2,a3,a4⟩:=A3 (r:=r) (p:=p) (nrem - 1) 1 (le_refl _);rw[e];have adj:mD r p n:=fun i hi=>a3 (i+1) (by walk_at "o") hi
 by_cases h2:n=nrem
 ·rw[if_pos (by simpa using h2)]
  exact⟨n,p,rfl,by walk_at "o",by walk_at "o",rfl,Array.Perm.refl _,adj⟩
 ·rw[if_neg (by simpa using h2)]
  have dn:RR r p n < RR r p (n - 1):=a4 (by walk_at "o")
  by_cases h3:n > 1
  ·rw[if_pos h3];show ∃ m p',((fun c=>if c=true then KasT.ret (n,p)else OU n nrem (NU p 0 n)) (lV r (p.getD 0 0) (p.getD (n - 1) 0))).run (lV r)=(m,p')/\_
   cases e2:lV r (p.getD 0 0) (p.getD (n - 1) 0) with
   | true=>exact⟨n,p,rfl,by walk_at "o",by walk_at "o",rfl,Array.Perm.refl _,adj⟩
   | false=>
    have ge:RR r p (n - 1)<=RR r p 0:=jf.mp e2;have eq:∀ k,0<=k->k < n->RR r p k=RR r p (n - 1):=fun k _ hk=>by
     have:=adj.le (M0 k) hk;have:=adj.le (show k<=n - 1 by walk_at "o") (by walk_at "o")
     omega
    have hR:=qu (r:=r) (p:=p) (i:=0) (j:=n) (by walk_at "o") eq
    obtain⟨m,p',b1,b2,b3,b4,b5,b6⟩:=qZ (r:=r) (p:=NU p 0 n) (n:=n) (nrem:=nrem) (by walk_at "o") (by walk_at "o") (by rw[g6];omega) (fun i hi=>by
     rw[hR,hR];rcases N9 (i+1) n with h7|h7
     ·rw[eq i (by walk_at "o") (by walk_at "o"),eq (i+1) (by walk_at "o") h7];exact le_refl _
     ·have e3:n=i+1:=by walk_at "o"
      have e4:i=n - 1:=by walk_at "o"
      rw[<- e3,e4];exact le_of_lt dn)
    exact⟨m,p',b1,b2,b3,by rw[b4,g6],b5.trans (PR _ _ _ _),b6⟩
  ·rw[if_neg h3];have e1:n=1:=by walk_at "o"
   subst e1;exact qZ (by walk_at "o") (by walk_at "o") hz (fun i hi=>by
    have:i=0:=by walk_at "o"
    subst this;exact le_of_lt dn)
theorem sY{k:Nat}(hs:mD r p k):∀ (f l u:Nat),l<=u->u<=k->u - l<=f->(∀ i,i < l->RR r p i<=RR r p k)->(∀ i,u<=i->i < k->RR r p k < RR r p i)->
  ∃ m,(Pj p k f l u).run (lV r)=m/\m<=k/\(∀ i,i < m->RR r p i<=RR r p k)/\(∀ i,m<=i->i < k->RR r p k < RR r p i)
 | 0,l,u,h1,h2,h3,h4,h5=>⟨l,rfl,by walk_at "o",h4,fun i a b=>h5 i (by walk_at "o") b⟩
 | f+1,l,u,h1,h2,h3,h4,h5=>by
  unfold Pj
  by_cases hlu:l>=u
  ·rw[if_pos hlu];exact⟨l,rfl,by walk_at "o",h4,fun i a b=>h5 i (by walk_at "o") b⟩
  ·rw[if_neg hlu];show ∃ m,((fun c=>if c=true then Pj p k f l ((l+u) / 2)else Pj p k f ((l+u) / 2+1) u) (lV r (p.getD k 0) (p.getD ((l+u) / 2) 0))).run (lV r)=m/\_
   cases e:lV r (p.getD k 0) (p.getD ((l+u) / 2) 0) with
   | true=>
    have lt:RR r p k < RR r p ((l+u) / 2):=ui.mp e;exact sY hs f l ((l+u) / 2) (by walk_at "o") (by walk_at "o") (by walk_at "o") h4 fun i a b=>MH lt (hs.le a b)
   | false=>
    have ge:RR r p ((l+u) / 2)<=RR r p k:=jf.mp e;exact sY hs f ((l+u) / 2+1) u (by walk_at "o") h2 (by walk_at "o") (fun i a=>le_trans (hs.le (show i<=(l+u) / 2 by walk_at "o") (by walk_at "o")) ge) h5
theorem qv{src d:Nat}(hs:src < p.size)(hd:d<=src)(k:Nat):RR r (bubble p src d) k=if k=src - d then RR r p src else if src - d < k/\k<=src then RR r p (k - 1)else RR r p k:=by
 have e:=getElem?_bubble hs d hd k;split
 ·rename_i h;rw[if_pos h]at e;exact zK e
 ·rename_i h;rw[if_neg h]at e;split
  ·rename_i h2;rw[if_pos h2]at e;exact zK e
  ·rename_i h2;rw[if_neg h2]at e;exact zK e
theorem EJ:∀ (f:Nat) (p:Array Nat) (k:Nat),k+f=p.size->mD r p k->∃ p',(P0 f p k).run (lV r)=p'/\p'.size=p.size/\p'.Perm p/\mD r p' p.size
 | 0,p,k,h,a=>⟨p,rfl,rfl,Array.Perm.refl _,by rw[<- h];exact a⟩
 | f+1,p,k,h,a=>by
  unfold P0;rw[KasT.run_bind];obtain⟨l,e,b1,b2,b3⟩:=sY (r:=r) a k 0 k (by walk_at "o") (le_refl _) (by walk_at "o") (fun i z=>absurd z (by walk_at "o")) (fun i x y=>absurd x (by walk_at "o"))
  rw[e];have hk:k < p.size:=by walk_at "o"
  obtain⟨p',c1,c2,c3,c4⟩:=EJ f (bubble p k (k - l)) (k+1) (by rw[QM];omega) (fun i hi=>by
   have e1:=qv (r:=r) hk (show k - l<=k by walk_at "o") i
   have e2:=qv (r:=r) hk (show k - l<=k by walk_at "o") (i+1)
   have ek:k - (k - l)=l:=by walk_at "o"
   rw[ek]at e1 e2;rw[e1,e2];rcases Nat.lt_trichotomy i l with hil|hil|hil
   ·rw[if_neg (by walk_at "o"),if_neg (by walk_at "o")]
    by_cases h2:i+1=l
    ·rw[if_pos h2];exact b2 i hil
    ·rw[if_neg h2,if_neg (by walk_at "o")];exact a i (by walk_at "o")
   ·rw[if_pos hil,if_neg (by walk_at "o"),if_pos (by walk_at "o")]
    have:i+1 - 1=i:=by walk_at "o"
    rw[this];exact le_of_lt (b3 i (by walk_at "o") (by walk_at "o"))
   ·rw[if_neg (by walk_at "o"),if_pos (by walk_at "o"),if_neg (by walk_at "o"),if_pos (by walk_at "o")]
    have:i+1 - 1=(i - 1)+1:=by walk_at "o"
    rw[this];exact a (i - 1) (by walk_at "o"))
  rw[QM]at c2 c4;exact⟨p',c1,c2,c3.trans (bubble_perm _ _ _),c4⟩
theorem Fg(r:Nat->Nat)(n:Nat)(hn:1<=n):∃ p,(QL n).run (lV r)=p/\p.toList.Perm (List.range n)/\mD r p n:=by
 unfold QL;rw[KasT.run_bind];have hz:(List.toArray (List.range n)).size=n:=by simp
 obtain⟨m,p1,e,a1,a2,a3,a4,a5⟩:=ED (r:=r) (p:=List.toArray (List.range n)) (nrem:=n) hn (by rw[hz];exact le_refl _)
 rw[e];have toL:∀ {p:Array Nat},p.Perm (List.toArray (List.range n))->p.toList.Perm (List.range n):=fun h=>by simpa using Array.perm_iff_toList_perm.mp h
 show ∃ p,(if m < n then P0 (n - max m 1) p1 (max m 1)else KasT.ret p1).run (lV r)=p/\_
 by_cases h:m < n
 ·rw[if_pos h];obtain⟨p',b1,b2,b3,b4⟩:=EJ (r:=r) (n - max m 1) p1 (max m 1) (by rw[a3,hz];omega) (by rw[show max m 1=m by walk_at "o"];exact a5)
  exact⟨p',b1,toL (b3.trans a4),by rw[a3,hz]at b4;exact b4⟩
 ·rw[if_neg h];have:m=n:=by walk_at "o"
  subst this;exact⟨p1,rfl,toL a4,a5⟩
end
section
variable{κ:Type}(blt:κ->κ->Bool)
structure SWO:Prop where
 irrefl:∀ a,blt a a=false
 trans:∀ a b c,blt a b=true->blt b c=true->blt a c=true
 neg:∀ a b c,blt a c=true->blt a b=true\/blt b c=true
def rankIn(ks:List κ)(a:κ):Nat:=ks.countP fun k=>blt k a
end
section
variable{κ:Type}{blt:κ->κ->Bool}
theorem v8{p q:κ->Bool}(ks:List κ)(h:∀ x,p x=true->q x=true):ks.countP p<=ks.countP q:=by
 induction ks with
 | nil=>exact le_refl _
 | cons x r ih=>
  rw[Pg,Pg];cases hp:p x with
  | false=>simp;split<;>omega
  | true=>rw[h x hp];simp;omega
theorem CG{p q:κ->Bool}{ks:List κ}(h:∀ x,p x=true->q x=true){y:κ}(hy:y∈ks)(h1:p y=false)(h2:q y=true):ks.countP p < ks.countP q:=by
 induction ks with
 | nil=>simp at hy
 | cons x r ih=>
  rw[Pg,Pg];rcases MP.mp hy with rfl|hy
  ·have:=v8 r h;rw[h1,h2];simp;omega
  ·have:=ih hy;cases hp:p x with
   | false=>simp;split<;>omega
   | true=>rw[h x hp];simp;omega
theorem rank_lt(o:SWO blt){ks:List κ}{a b:κ}(ha:a∈ks):blt a b=decide (rankIn blt ks a < rankIn blt ks b):=by
 cases e:blt a b with
 | true=>
  symm;rw[decide_eq_true_iff];exact CG (fun x hx=>o.trans _ _ _ hx e) ha (o.irrefl a) e
 | false=>
  symm;rw[decide_eq_false_iff_not,Nat.not_lt];refine v8 ks fun x hx=>?_;rcases o.neg x a b hx with h|h
  ·exact h
  ·rw[e]at h;cases h
end
def KasT.allR{α:Type}(n:Nat)(P:α->Prop):Q4 α->Prop
 | .ret a=>P a
 | .ask i j k=>i < n/\j < n/\∀ b,(k b).allR n P
theorem KasT.allR_mono{α:Type}{n:Nat}{P P':α->Prop}(h:∀ a,P a->P' a):∀ {t:Q4 α},t.allR n P->t.allR n P'
 | .ret a,q=>h a q
 | .ask i j k,q=>⟨q.1,q.2.1,fun b=>KasT.allR_mono h (q.2.2 b)⟩
theorem KasT.allR_bind{α β:Type}{n:Nat}{P:α->Prop}{P':β->Prop}{f:α->Q4 β}(h:∀ a,P a->(f a).allR n P'):∀ {t:Q4 α},t.allR n P->(t.bind f).allR n P'
 | .ret a,q=>h a q
 | .ask i j k,q=>⟨q.1,q.2.1,fun b=>KasT.allR_bind h (q.2.2 b)⟩
theorem KasT.walked{α:Type}{n:Nat}{P:α->Prop}{lt:Nat->Nat->Bool}{J:Mi->Prop}{cmp:Nat->Nat->(Bool->Mi->Prop)->Mi->Prop}{Q:α->Mi->Prop}
  (hc:∀ i j C s,i < n->j < n->J s->(∀ s',J s'->C (lt i j) s')->cmp i j C s):∀ (t:Q4 α) (s:Mi),t.allR n P->J s->(∀ s',J s'->P (t.run lt)->Q (t.run lt) s')->t.kasWp cmp Q s
 | .ret a,s,q,j,h=>h s j q
 | .ask i j k,s,q,hj,h=>hc i j _ s q.1 q.2.1 hj fun s' hj'=>KasT.walked hc (k (lt i j)) s' (q.2.2 _) hj' h
structure EntN(n:Nat)(p:Array Nat):Prop where
 size:p.size=n
 ent:∀ i,p.getD i 0 < n
section
variable{N:Nat}{p:Array Nat}
theorem EntN.rev(e:EntN N p){i j:Nat}(hj:j<=N):EntN N (NU p i j):=by
 refine⟨by rw[g6];exact e.size,fun k=>?_⟩
 have h:=xF (r:=id) (p:=p) (i:=i) (j:=j) (by rw[e.size];exact hj) k
 unfold RR at h;simp only[id]at h;rw[h];split<;>exact e.ent _
theorem EntN.bub(e:EntN N p){src d:Nat}(hs:src < N)(hd:d<=src):EntN N (bubble p src d):=by
 refine⟨by rw[QM];exact e.size,fun k=>?_⟩
 have h:=qv (r:=id) (p:=p) (src:=src) (d:=d) (by rw[e.size];exact hs) hd k
 unfold RR at h;simp only[id]at h;rw[h];split
 ·exact e.ent _
 ·split<;>exact e.ent _
theorem A4(e:EntN N p):∀ (f n:Nat),(kas_asc p f n).allR N fun m=>n<=m/\m<=n+f
 | 0,n=>⟨le_refl _,le_refl _⟩
 | f+1,n=>⟨e.ent _,e.ent _,fun b=>by
   cases b with
   | true=>exact⟨le_refl _,by walk_at "o"⟩
   | false=>exact KasT.allR_mono (fun m h=>⟨by walk_at "o",by walk_at "o"⟩) (A4 e f (n+1))⟩
theorem r9:∀ (f:Nat) (p:Array Nat) (n q:Nat),EntN N p->n+f<=N->(Om f p n q).allR N fun r=>EntN N r.1/\n<=r.2.1/\r.2.1<=n+f
 | 0,p,n,q,e,_=>⟨e,le_refl _,le_refl _⟩
 | f+1,p,n,q,e,h=>⟨e.ent _,e.ent _,fun b=>by
   have mono:∀ {t:Q4 (Array Nat×Nat×Nat)},(t.allR N fun r=>EntN N r.1/\n+1<=r.2.1/\r.2.1<=n+1+f)->t.allR N fun r=>EntN N r.1/\n<=r.2.1/\r.2.1<=n+(f+1):=fun h=>KasT.allR_mono (fun r z=>⟨z.1,by walk_at "o",by walk_at "o"⟩) h
   cases b with
   | true=>
    show KasT.allR N _ (if q > 0 then Om f (NU p (n - (q+1)) n) (n+1) 0 else Om f p (n+1) 0)
    split
    ·exact mono (r9 f _ (n+1) 0 (e.rev (by walk_at "o")) (by walk_at "o"))
    ·exact mono (r9 f _ (n+1) 0 e (by walk_at "o"))
   | false=>exact⟨e.ent _,e.ent _,fun d=>by
     cases d with
     | true=>exact⟨e,le_refl _,show n<=n+(f+1)by walk_at "o"⟩
     | false=>exact mono (r9 f p (n+1) (q+1) e (by walk_at "o"))⟩⟩
theorem xR(e:EntN N p){n nrem:Nat}(hn:n<=N):(Og n nrem p).allR N fun r=>EntN N r.2:=by
 unfold Og;refine KasT.allR_bind (fun m _=>?_) (A4 (e.rev (i:=0) hn) (nrem - n) n);exact (e.rev hn:EntN N (NU p 0 n))
theorem q_(e:EntN N p){n nrem:Nat}(hn:n+1<=nrem)(hz:nrem<=N):(OU n nrem p).allR N fun r=>EntN N r.2:=by
 unfold OU;refine KasT.allR_bind (fun r h=>?_) (r9 (nrem - (n+1)) p (n+1) 0 e (by walk_at "o"))
 obtain⟨p1,n1,q1⟩:=r;obtain⟨h1,h2,h3⟩:=h;show KasT.allR N _ (if q1 > 0 then Og n1 nrem (NU p1 (n1 - (q1+1)) n1)else Og n1 nrem p1)
 have hn1:n1<=N:=by simp only at h3;omega
 split
 ·exact xR (h1.rev hn1) hn1
 ·exact xR h1 hn1
theorem EE(e:EntN N p){nrem:Nat}(h1:1<=nrem)(hz:nrem<=N):(Qm nrem p).allR N fun r=>EntN N r.2:=by
 unfold Qm;refine KasT.allR_bind (fun n h=>?_) (A4 e _ _)
 by_cases h2:n=nrem
 ·rw[if_pos (by simpa using h2)];exact e
 ·rw[if_neg (by simpa using h2)]
  by_cases h3:n > 1
  ·rw[if_pos h3];refine⟨e.ent _,e.ent _,fun b=>?_⟩;cases b with
   | true=>exact e
   | false=>exact q_ (e.rev (by walk_at "o")) (by walk_at "o") hz
  ·rw[if_neg h3];exact q_ e (by walk_at "o") hz
theorem sZ(e:EntN N p)(k:Nat):∀ (f l u:Nat),(Pj p k f l u).allR N fun _=>True
 | 0,l,u=>trivial
 | f+1,l,u=>by
  unfold Pj;split
  ·exact trivial
  ·exact⟨e.ent _,e.ent _,fun b=>by
    cases b with
    | true=>exact sZ e k f _ _
    | false=>exact sZ e k f _ _⟩
theorem EK:∀ (f:Nat) (p:Array Nat) (k:Nat),EntN N p->k+f<=N->(P0 f p k).allR N (EntN N)
 | 0,p,k,e,_=>e
 | f+1,p,k,e,h=>by
  unfold P0;refine KasT.allR_bind (fun l _=>?_) (sZ e k k 0 k);exact EK f _ (k+1) (e.bub (by walk_at "o") (by walk_at "o")) (by walk_at "o")
theorem Fh{n:Nat}(hn:1<=n):(QL n).allR n (EntN n):=by
 have e:EntN n (List.toArray (List.range n)):=⟨by simp,fun i=>by
  rw[Array.getD_eq_getD_getElem?,List.getElem?_toArray];cases h:(List.range n)[i]? with
  | none=>exact hn
  | some x=>exact mem_range.mp (Mv h)⟩
 unfold QL;refine KasT.allR_bind (fun r h=>?_) (EE e hn (le_refl _));obtain⟨m,p⟩:=r;show KasT.allR n _ (if m < n then P0 (n - max m 1) p (max m 1)else KasT.ret p)
 split
 ·exact EK _ _ _ h (by walk_at "o")
 ·exact h
end
section
variable{α:Type}(blt:α->α->Bool)
structure STO:Prop where
 irrefl:∀ a,blt a a=false
 trans:∀ a b c,blt a b=true->blt b c=true->blt a c=true
 tot:∀ a b,blt a b=false->blt b a=false->a=b
def tF[DecidableEq α]:List α->List α->Bool
 | [],[]=>false
 | [],_::_=>true
 | _::_,[]=>false
 | a::r,b::t=>if a=b then tF r t else blt a b
end
section
variable{α:Type}{blt:α->α->Bool}
theorem STO.neg(o:STO blt)(a b c:α)(h:blt a c=true):blt a b=true\/blt b c=true:=by
 cases e:blt a b with
 | true=>exact .inl rfl
 | false=>
  cases e2:blt b c with
  | true=>exact .inr rfl
  | false=>
   cases e3:blt b a with
   | true=>have:=o.trans _ _ _ e3 h;rw[e2]at this;cases this
   | false=>
    have:=o.tot _ _ e e3;subst this;rw[h]at e2;cases e2
variable[DecidableEq α]
theorem lD(a b:α)(r t:List α):tF blt (a::r) (b::t)=if a=b then tF blt r t else blt a b:=rfl
theorem xc(o:STO blt):STO (tF blt) where
 irrefl:=by
  intro a
  induction a with
  | nil=>rfl
  | cons x r ih=>rw[lD,if_pos rfl,ih]
 trans:=by
  intro a
  induction a with
  | nil=>
   intro b c h1 h2;cases c with
   | nil=>cases b<;>cases h2
   | cons _ _=>rfl
  | cons x r ih=>
   intro b c h1 h2;cases b with
   | nil=>cases h1
   | cons y t=>
    cases c with
    | nil=>cases h2
    | cons z u=>
     rw[lD]at h1 h2 ⊢
     by_cases e1:x=y
     ·subst e1;rw[if_pos rfl]at h1
      by_cases e2:x=z
      ·subst e2;rw[if_pos rfl]at h2 ⊢;exact ih t u h1 h2
      ·rw[if_neg e2]at h2 ⊢;exact h2
     ·rw[if_neg e1]at h1
      by_cases e2:y=z
      ·subst e2;rw[if_neg e1];exact h1
      ·rw[if_neg e2]at h2;have h3:=o.trans _ _ _ h1 h2;rw[if_neg (fun e=>by subst e;rw[o.irrefl]at h3;cases h3)]
       exact h3
 tot:=by
  intro a
  induction a with
  | nil=>
   intro b h1 h2;cases b with
   | nil=>rfl
   | cons _ _=>cases h1
  | cons x r ih=>
   intro b h1 h2;cases b with
   | nil=>cases h2
   | cons y t=>
    rw[lD]at h1 h2
    by_cases e1:x=y
    ·subst e1;rw[if_pos rfl]at h1 h2;rw[ih t h1 h2]
    ·rw[if_neg e1]at h1;rw[if_neg (Ne.symm e1)]at h2;exact absurd (o.tot _ _ h1 h2) e1
end
def w_(a b:Nat):Bool:=decide (a < b)
theorem w8:STO w_:=⟨fun a=>by simp[w_],fun a b c h1 h2=>by simp only[w_,decide_eq_true_eq]at *;omega,fun a b h1 h2=>by simp only[w_,decide_eq_false_iff_not]at *;omega⟩
theorem oF:∀ a b:List Nat,tF w_ a b=decide (a < b)
 | [],[]=>by simp[tF]
 | [],b::t=>by simp[tF]
 | a::r,[]=>by simp[tF]
 | a::r,b::t=>by
  rw[lD]
  by_cases e:a=b
  ·subst e;rw[if_pos rfl,oF r t];simp
  ·rw[if_neg e];simp[w_,List.cons_lt_cons_iff,e]
end PySem.W
namespace L3
open PySem PySem.Spec PyProof.Rows L2 PySem.SeqAt
open PySem.AutoSeq1 (wpAny_loadPart')
open PySem.MeetsSeq PySem.MeetsSeq2 PySem.MeetsSeq3
def dE(blt:D->D->Bool):List D->List D->Bool
 | [],[]=>false
 | [],_::_=>true
 | _::_,[]=>false
 | a::r,b::t=>if cB a b=true then dE blt r t else blt a b
def lR:Nat->D->D->Bool
 | _,.int a,.int b=>decide (a < b)
 | _,.str x,.str y=>decide (x.cps.toList < y.cps.toList)
 | n+1,.tup xs,.tup ys=>dE (lR n) xs ys
 | _,_,_=>false
def Kc(n:Nat)(P:D->D->Prop):List D->List D->Prop
 | a::r,b::t=>(pl n a/\pl n b)/\(a≠b->P a b)/\Kc n P r t
 | _,_=>True
def EC:Nat->D->D->Prop
 | _,.int _,.int _=>True
 | _,.str _,.str _=>True
 | n+1,.tup xs,.tup ys=>Kc n (EC n) xs ys
 | _,_,_=>False
def GD(op:O4)(A:MB)(s:Mi)(v u:Mf)(b:Bool):Prop:=
 ∀ (prog:Mw) (w:MG) (E:Mf->Mi->Prop) (Q:Mf->Mi->Prop),Q (.bool b) s->Mo (Ms prog w) A (richCompare op v u) Q E s
def wo(op:O4)(fin:Bool)(A:MB)(s:Mi):List Mf->List Mf->Bool->Prop
 | v::vs,u::us,out=>∃ e,EqAt A s v u e/\(e=true->wo op fin A s vs us out)/\(e=false->GD op A s v u out)
 | _,_,out=>out=fin
theorem Cn{op:O4}{fin out:Bool}{A:MB}{s:Mi}:∀ {vs us:List Mf},wo op fin A s vs us out->vs.zip us=[]->out=fin
 | [],_,h,_=>h
 | _::_,[],h,_=>h
 | _::_,_::_,_,e=>by rw[Ot]at e;cases e
theorem z_(l b:Mg)(items items2:Array Mf)(n n2:Nat)(dd dd2:Option Mg)(sl sl2:Array (Option Mf))(out:Bool):
  Meets (Builtin.«tuple.__lt__» ⟨[.ref l,.ref b],[]⟩)
   (fun A R s=>s.heap.get? l=some { cls:=.type "tuple",dict:=dd,data:=.seq items n,slots:=sl }/\s.heap.get? b=some { cls:=.type "tuple",dict:=dd2,data:=.seq items2 n2,slots:=sl2 }/\
    wo .Lt (decide (items.size < items2.size)) A.in1 s items.toList items2.toList out/\R (.ok (.ret (.bool out))) s):=
 .of_wp fun prog w A R s h=>by
  obtain⟨hp,g,d,tk,os⟩:=s;obtain⟨hl,hb,hx,h⟩:=h;have f2:=AutoSeq1.sub_tuple_tuple
  wp_walk using wpAny_loadPart' hl,wpAny_loadPart' hb,wpAny_forIn_list _ (fun lP b s'=>b.1=none/\s'=⟨hp,g,d,tk,os⟩/\∃ vs ws,lP=vs.zip ws/\wo .Lt (decide (items.size < items2.size)) A.in1 ⟨hp,g,d,tk,os⟩ vs ws out) _
  case turn=>
   rintro⟨y,x⟩ lP b s' ⟨hb',rfl,vs,ws,hz,lx⟩
   cases vs with
   | nil=>rw[List.zip_nil_left]at hz;cases hz
   | cons v vs=>
    cases ws with
    | nil=>rw[List.zip_nil_right]at hz;cases hz
    | cons u ws=>
     rw[Ot]at hz;injection hz with hyx hrest
     injection hyx with hy hx'
     subst hy hx';obtain⟨e,he,l1,l2⟩:=lx;refine Me (he prog w _ _ ?_);cases e with
     | true=>
      wp_walk
      exact⟨rfl,rfl,_,_,hrest,l1 rfl⟩
     | false=>
      have hri:=l2 rfl prog w
      wp_walk using hri
      exact⟨_,rfl,by simpa using h⟩
  case fin=>
   rintro⟨b1,b2⟩ s' ⟨hb',rfl,vs,ws,hz,lx⟩
   simp only at hb';subst hb';have hv:=Cn lx hz.symm;rw[hv]at h
   wp_walk
   exact⟨_,rfl,by simpa[Builtin.Tuple.tupleCompareSizes]using h⟩
  case h=>
   exact⟨rfl,rfl,items.toList,items2.toList,rfl,hx⟩
theorem D8{A:MB}{s:Mi}{l b:Mg}{items items2:Array Mf}{out:Bool}(hl:s.heap.IsTuple l items)(hb:s.heap.IsTuple b items2)(hu:A.units < MT)
  (hx:wo .Lt (decide (items.size < items2.size)) A.in1 s items.toList items2.toList out):GD .Lt A s (.ref l) (.ref b) out:=fun prog w E Q h=>by
 obtain⟨⟨cls,dd,data,sl⟩,ho,hc,n,hd⟩:=id hl;obtain⟨⟨cls2,dd2,data2,sl2⟩,ho2,hc2,n2,hd2⟩:=id hb;simp only at hc hd hc2 hd2;subst hc hd hc2 hd2;exact richCompare_meets_room (op:=.Lt) ⟨_,ho,rfl⟩ ⟨_,ho2,rfl⟩ PySem.F.slot_tuple_lt PySem.F.entry_tuple_lt (PySem.F.args_tuple_lt_2 _ _) (z_ l b items items2 n n2 dd dd2 sl sl2 out)
  ⟨ho,ho2,hx,show Value.bool out≠Value.notImplemented/\Q (.bool out) s from ⟨(fun x=>nomatch x),h⟩⟩ hu
section
variable{X:Cx}{pins:List (Mg×Obj)}{σ:St}{H:Hp}{s:Mi}
theorem yX(I:Inv X pins σ H s){n:Nat}{A:MB}(hu:A.units+n < MT){N1 N2:Nat}
  (ih:∀ {x y:D} {v u:V} {v' u':Mf},EC n x y->RD X.K H x v->RD X.K H y u->aB v v'->aB u u'->GD .Lt A s v' u' ( lR n x y)):
  ∀ {ds es:List D} {xs ys:List V} {us ws:List Mf},Kc n (EC n) ds es->RDs X.K H ds xs->RDs X.K H es ys->Vals xs us->Vals ys ws->ds.length+N2=es.length+N1->wo .Lt (decide (N1 < N2)) A s us ws ( dE (lR n) ds es)
 | [],es,xs,ys,us,ws,_,r1,r2,w1,w2,hl=>by
  rw[r1.inv_nil]at w1;cases w1;show ( dE (lR n) [] es)=decide (N1 < N2)
  cases es with
  | nil=>
   simp only[MZ]at hl;have e1:N2=N1:=by walk_at "o"
   subst e1;simp[dE]
  | cons b t=>
   simp only[MZ,MC]at hl;have:N1 < N2:=by walk_at "o"
   simp[dE];omega
 | a::r,[],xs,ys,us,ws,_,r1,r2,w1,w2,hl=>by
  rw[r2.inv_nil]at w2;cases w2;obtain⟨x1,t1,e1,_,_⟩:=r1.inv_cons;subst e1;cases w1;show ( dE (lR n) (a::r) [])=decide (N1 < N2)
  simp only[MZ,MC]at hl;have:N2 < N1:=by walk_at "o"
  simp[dE];omega
 | a::r,b::t,xs,ys,us,ws,⟨p,c,q⟩,r1,r2,w1,w2,hl=>by
  obtain⟨x1,t1,e1,g1,g2⟩:=r1.inv_cons;subst e1;obtain⟨x2,t2,e2,f1,f2⟩:=r2.inv_cons;subst e2;cases w1 with
  | cons k1 w1=>
  cases w2 with
  | cons k2 w2=>
   refine⟨cB a b,(ug I n p.1 p.2 g1 f1 k1 k2 hu).eq,fun e=>?_,fun e=>?_⟩
   ·rw[show dE (lR n) (a::r) (b::t)=dE (lR n) r t by simp[dE,e]]
    simp only[MC]at hl;exact yX I hu ih q g2 f2 w1 w2 (by walk_at "o")
   ·rw[show dE (lR n) (a::r) (b::t)=lR n a b by simp[dE,e]]
    exact ih (c fun z=>by rw[z,aY]at e;cases e) g1 f1 k1 k2
theorem HZ(I:Inv X pins σ H s):∀ (n:Nat) {x y:D} {v u:V} {v' u':Mf} {A:MB},EC n x y->RD X.K H x v->RD X.K H y u->aB v v'->aB u u'->A.units+n < MT->GD .Lt A s v' u' ( lR n x y):=by
 intro n
 induction n with
 | zero=>
  intro x y v u v' u' A c rx ry lx ly hu;cases x<;>cases y<;>first|exact c.elim|skip
  ·simp only[RD]at rx ry;subst rx ry;obtain⟨t,rfl⟩:=lx;obtain⟨t',rfl⟩:=ly;intro prog w E Q h;exact (PyProof.Rows.lt_int h:Mo (Ms prog w) A (MS .Lt (.int _ t) (.int _ t')) Q E s)
  ·simp only[RD]at rx ry;subst rx ry;obtain⟨t,rfl⟩:=lx;obtain⟨t',rfl⟩:=ly;intro prog w E Q h;exact (PySem.P.lt_str h:Mo (Ms prog w) A (MS .Lt (.str _ t) (.str _ t')) Q E s)
 | succ n ih=>
  intro x y v u v' u' A c rx ry lx ly hu;cases x<;>cases y<;>first|exact c.elim|skip
  ·simp only[RD]at rx ry;subst rx ry;obtain⟨t,rfl⟩:=lx;obtain⟨t',rfl⟩:=ly;intro prog w E Q h;exact (PyProof.Rows.lt_int h:Mo (Ms prog w) A (MS .Lt (.int _ t) (.int _ t')) Q E s)
  ·simp only[RD]at rx ry;subst rx ry;obtain⟨t,rfl⟩:=lx;obtain⟨t',rfl⟩:=ly;intro prog w E Q h;exact (PySem.P.lt_str h:Mo (Ms prog w) A (MS .Lt (.str _ t) (.str _ t')) Q E s)
  ·rename_i ds es;simp only[RD]at rx ry;obtain⟨a,xs,rfl,s1,r1⟩:=rx;obtain⟨b,ys,rfl,s2,r2⟩:=ry;cases lx;cases ly;obtain⟨its,w1,t1,z1⟩:=I.tuple s1;obtain⟨its2,w2,t2,z2⟩:=I.tuple s2;have l1:=w1.length;have l1':=r1.length;have l2:=w2.length;have l2':=r2.length;refine D8 t1 t2 (by walk_at "o") ?_
   exact yX I (A:=A.in1) (by show A.units+1+n < MT;omega) (fun c rx ry lx ly=>ih c rx ry lx ly (by show A.units+1+n < MT;omega)) c r1 r2 w1 w2 (by simp only[Mt];omega)
end
def Li:R3:=fun x y G Q=>EC 4 x y/\Q (.bl (! lR 4 x y)) G
open PySem.W
def nh(h:MD)(d:Mg)(vs:List Mf)(ep:Nat):Prop:=∃ o es,h.get? d=some o/\o.ExactDict/\o.data=.dict es ep/\es.toList.map (·.val)=vs
section
variable{prog:Mw}{w:MG}{A:MB}{E:Mf->Mi->Prop}{s:Mi}{d r it:Mg}{vs:List Mf}{ep i:Nat}
theorem nh.ty(x:nh s.heap d vs ep):s.TypeIs (.ref d) "dict":=let ⟨o,_,e,z,_⟩:=x;⟨o,e,z.1⟩
theorem nh.there{h:MD}(x:nh h d vs ep):d < h.objs.size:=let ⟨_,_,e,_⟩:=x;Mu e
theorem nh.stay{h h':MD}(x:nh h d vs ep)(k:∀ o,h.get? d=some o->h'.get? d=some o):nh h' d vs ep:=let ⟨o,es,e,z⟩:=x;⟨o,es,k o e,z⟩
theorem Aq(hs:(d == M5)=false):MeetsIn prog w (Builtin.«dict.values» ⟨[.ref d],[]⟩) (fun _ R s=>(∃ vs ep,nh s.heap d vs ep)/\
  R (.ok (.ret (.ref s.heap.objs.size))) { s with heap:=s.heap.push { cls:=.type "dict_values",data:=.fields #[.ref d] } }):=
 .of_wp fun A R s zz=>by
  obtain⟨⟨vs,ep,x⟩,q⟩:=zz;refine Me ?_;unfold Builtin.Dict.noArgs;refine Me (O5 x.ty ?_);show Mo _ _ (pure d) _ _ s;refine Mj ?_
  show Mo _ _ (Op d >>= _) _ _ s;unfold Op
  rw[if_neg (fun z=>by rw[hs]at z;cases z)];refine Me (Mj ?_)
  exact Me (MW (Mj ⟨_,rfl,q⟩))
theorem Dw{Q:Mf->Mi->Prop}(hr:s.heap.IsValuesView r d)(x:nh s.heap d vs ep)
  (q:Q (.ref s.heap.objs.size) { s with heap:=s.heap.push { cls:=.type "dict_valueiterator",data:=.fields #[.ref d,.int 0 0,.int vs.length 0,.int ep 0] } }):Mo (Ms prog w) A (OF (.ref r)) Q E s:=by
 obtain⟨ov,e1,c1,d1⟩:=id hr;obtain⟨o,es,e2,c2,d2,rfl⟩:=x;refine Px hr.typeIs Qq (Nd Qq hr.typeIs F.entry_dict_values_iter ?_ (F.args_dict_values_iter_1 _));unfold Builtin.«dict_values.__iter__»;refine Me (Mj ?_);refine Me ?_;unfold Builtin.Dict_items.dictOf;refine Me (Nr e1 d1 (x:=.ref d) rfl (Mj ?_));refine Me ?_;unfold Builtin.Dict_items.newIterator;refine Me (NT e2 d2 ?_);refine Me (Ob e2 d2 ?_);have own:Np "dict_valueiterator"=false:=by decide
 simp only[own,Bool.false_eq_true,if_false];refine MW (Mj ⟨_,rfl,"dict_valueiterator",_,⟨_,Mn _ rfl,rfl⟩,NE.lookup,?_⟩)
 simpa[M9]using q
theorem Dx{v:Mf}{Q:Option Mf->Mi->Prop}(hi:s.heap.IsValIter it d i vs.length ep)(x:nh s.heap d vs ep)(hv:vs[i]?=some v)
  (q:∀ h',h'.IsValIter it d (i+1) vs.length ep->NN it s.heap h'->Q (some v) { s with heap:=h' }):Mo (Ms prog w) A (NK (.ref it)) Q E s:=by
 obtain⟨o,e1,c1,d1⟩:=id hi;obtain⟨od,es,e2,c2,d2,rfl⟩:=x;unfold NK;refine Me (N8 (Nf (name:=Mh "__next__") hi.typeIs NE (Nd NE hi.typeIs PH ?_ (PF _))));refine Me (Mj ?_);refine Me ?_;refine Me ?_
 first|refine Me (NF hi.typeIs (Mj ?_))|refine Me (N6 hi.typeIs (Mj ?_))
 refine Me (Pa e1 d1 ?_);have own:Np "dict_valueiterator"=false:=by decide
 simp only[own,Bool.false_eq_true,if_false];show Mo _ _ (if (Value.ref d == Value.none)=true then _ else _) _ _ s;rw[if_neg (show ¬ ((Value.ref d == Value.none)=true)from Bool.false_ne_true)]
 refine Me (Mj ?_);refine Me (NT e2 d2 ?_);have z:es.size=(es.toList.map (·.val)).length:=by simp
 rw[if_neg (by rw[z];simp)];refine Me (Mj ?_);refine Me (Ob e2 d2 ?_)
 rw[if_neg (by simp)];refine Mj ?_
 have lt:i < es.size:=by
  rw[z];rcases N9 i (es.toList.map (·.val)).length with h|h
  ·exact h
  ·rw[N4 h]at hv;cases hv
 have val:es[i].val=v:=by
  rw[MA]at hv
  simpa[lt]using hv
 simp only[show ¬ ((i:Int) < 0)from by walk_at "o",if_false,Int.toNat_natCast,Array.getElem?_eq_getElem lt];refine Me ?_
 first|refine Me (NF hi.typeIs (Mj ?_))|refine Me (N6 hi.typeIs (Mj ?_))
 refine Me (O6 hi.typeIs ?_);show Mo _ _ (QH (.ref it) 1 (M9 ((i:Int)+1)) >>= _) _ _ s;refine Me (O_ e1 d1 (by simp) ?_)
 have hi':(s.heap.update it (OR (·.setIfInBounds 1 (M9 ((i:Int)+1))))).IsValIter it d (i+1) (es.toList.map (·.val)).length ep:=
  ⟨_,O8 _ e1 (QF (OI d1 _)),(Ra ..).trans c1,by rw[OI d1];simp[M9]⟩
 refine Me (M8 ?_);refine Me (O6 (s:={ s with heap:=s.heap.update it (OR (·.setIfInBounds 1 (M9 ((i:Int)+1)))) }) hi'.typeIs ?_)
 refine Me (O6 (s:={ s with heap:=s.heap.update it (OR (·.setIfInBounds 1 (M9 ((i:Int)+1)))) }) hi'.typeIs ?_);show Mo _ _ (pure es[i].val) _ _ _
 exact Mj (Mj ⟨_,rfl,Mj (val ▸ q _ hi' (OA ..))⟩)
theorem Fp{Q:Option Mf->Mi->Prop}(hh:A.handled=none)(hi:s.heap.IsValIter it d i vs.length ep)(x:nh s.heap d vs ep)(hv:vs[i]?=none)
  (q:∀ h',Heap.ExtBut it s.heap h'->Q none { s with heap:=h' }):Mo (Ms prog w) A (NK (.ref it)) Q E s:=by
 obtain⟨o,e1,c1,d1⟩:=id hi;obtain⟨od,es,e2,c2,d2,rfl⟩:=x;unfold NK;refine Me (N8 (Nf (name:=Mh "__next__") hi.typeIs NE (Nd NE hi.typeIs PH ?_ (PF _))));refine Me (Mj ?_);refine Me ?_;refine Me ?_
 first|refine Me (NF hi.typeIs (Mj ?_))|refine Me (N6 hi.typeIs (Mj ?_))
 refine Me (Pa e1 d1 ?_);have own:Np "dict_valueiterator"=false:=by decide
 simp only[own,Bool.false_eq_true,if_false];show Mo _ _ (if (Value.ref d == Value.none)=true then _ else _) _ _ s;rw[if_neg (show ¬ ((Value.ref d == Value.none)=true)from Bool.false_ne_true)]
 refine Me (Mj ?_);refine Me (NT e2 d2 ?_);have z:es.size=(es.toList.map (·.val)).length:=by simp
 rw[if_neg (by rw[z];simp)];refine Me (Mj ?_);refine Me (Ob e2 d2 ?_)
 rw[if_neg (by simp)];refine Mj ?_
 have ge:es.size<=i:=by rw[z];simpa using hv
 simp only[show ¬ ((i:Int) < 0)from by walk_at "o",if_false,Int.toNat_natCast,Array.getElem?_eq_none ge];refine Me ?_
 first|refine Me (NF hi.typeIs (Mj ?_))|refine Me (N6 hi.typeIs (Mj ?_))
 show Mo _ _ (QH (.ref it) 0 .none >>= _) _ _ s;refine Me (O_ e1 d1 (by simp) ?_)
 show Mo _ _ (newExc (.type "StopIteration") [] >>= _) _ _ _;refine Me ?_
 simp only[newExc,newTuple];refine Me (MW ?_ (by size_fits))
 refine Me (m:=Pf _ _) (wpAny_of_eq (a:=Value.none) (by first|rfl|(simp only[Pf];rfl)) ?_);refine MW ?_ (by size_fits)
 simp only[raiseNew];refine Me (wpAny_handled ?_);rw[show A.in1.handled=none from hh]
 refine Me (Mj (wpAny_throw ?_));refine Me (PJ (T:="StopIteration") (b:=true) ⟨_,Mn _ rfl,rfl⟩ P8 ?_);exact Mj (q _ (((OA ..).extBut.push _).push _))
theorem Dv(hh:A.handled=none)(hne:d≠it):Walks prog w A it [it,d] [it] vs.length (fun i v=>vs[i]?=some v) (fun i h=>h.IsValIter it d i vs.length ep/\nh h d vs ep) where
 sub:=fun b hb=>by rw[Qg.mp hb];exact Mz
 frame:=fun _ _ _ t k=>⟨t.1.at fun o e=>k it Mz o e,t.2.stay fun o e=>k d (My _ Mz) o e⟩
 item:=fun i s Q E hi t q=>by
  obtain⟨v,hv⟩:∃ v,vs[i]?=some v:=⟨vs[i],by simp[hi]⟩
  refine Dx t.1 t.2 hv fun h' a b=>?_;exact q v h' s.toks hv ⟨a,t.2.stay fun o e=>b.extBut d o hne e⟩ fun c o hc e=>b.extBut c o (fun z=>hc (by rw[z];exact Mz)) e
 done:=fun s Q E t q=>Fp hh t.1 t.2 (by simp) fun h' b=>q h' s.toks fun c o hc e=>b c o (fun z=>hc (by rw[z];exact Mz)) e
 self:=fun _ _ _ _ t q=>wpAny_pyIter_valiter t.1 q
theorem Fo:KdlSrc prog w "dict_values" r d vs.length (fun i v=>vs[i]?=some v) (fun h=>h.IsValuesView r d/\nh h d vs ep) where
 type:=fun _ x=>x.1.typeIs
 there:=fun _ x=>⟨let ⟨_,e,_⟩:=x.1;Mu e,x.2.there⟩
 keep:=fun _ _ x k=>⟨let ⟨o,e,z⟩:=x.1;⟨o,k r (.inl rfl) o e,z⟩,x.2.stay fun o e=>k d (.inr rfl) o e⟩
 notList:=by decide
 notTuple:=by decide
 hint:=fun _ _ _ _ x q=>kdl_hint_values x.1.typeIs q
 iter:=fun _ _ hh x=>⟨_,_,(fun _ _ q=>Dw x.1 x.2 q),Dv hh (MO x.2.there),⟨⟨_,Mn _ rfl,rfl,rfl⟩,x.2.stay fun o e=>Mm _ e⟩⟩
end
def XO(a:Mg)(o:Obj):HO:=.ext fun h=>h.get? a=some o
theorem GH{P:Mw}{w:MG}{H:Hp}{h:MD}{a:Mg}{o:Obj}(e:h.get? a=some o):bD P w H h a (XO a o):=⟨e,⟨o,e⟩,fun _ _ p k=>k _ p⟩
section
variable{X:Cx}{pins:List (Mg×Obj)}{τ:St}{H H0:Hp}{s:Mi}{G:Gp}{a:Mg}{o:Obj}{u:HO}
theorem qg(I:Inv X pins τ H s)(e:H a=some (XO a o)):s.heap.get? a=some o:=(show bD X.prog X.w H s.heap a (XO a o)from I.hok a _ e).1
theorem v0{t':Nat}{h':MD}(I:Inv X pins τ H s)(ha:s.heap.objs.size=a)(hh:h'=s.heap.push o)(hf:o.isFreed=false:=by rfl):Inv X pins τ (aV H a (XO a o)) { s with heap:=h',toks:=t' }:=by
 subst ha hh;exact I.laid (fun _ _ e=>Mm _ e) (le_refl _) (GH (Mn _ hf))
theorem tT{t':Nat}{o':Obj}{f:Obj->Obj}(I:Inv X pins τ H s)(e:H a=some (XO a o))(e':(s.heap.update a f).get? a=some o'):Inv X pins τ (aV H a (XO a o')) { s with heap:=s.heap.update a f,toks:=t' }:=
 I.write (x:=a) (e:=a) (by rw[e];exact trivial) (.inl rfl) (fun b u hb hu=>(On s.heap f (Ne.symm hb)).trans hu) ⟨_,e'⟩ (GH e')
theorem mH{K:Ow}(mu:ET (H a)):Stb K H (aV H a u) where
 t:=fun b xs q=>by
  rcases q with (q|⟨z,q⟩)|q
  ·exact .inl (.inl (by rw[ar (fun e=>by subst e;rw[q]at mu;exact mu)];exact q))
  ·exact .inl (.inr ⟨z,by rw[ar (fun e=>by subst e;rw[q]at mu;exact mu)];exact q⟩)
  ·exact .inr q
 l:=fun b xs q=>by
  rcases q with ⟨z,q⟩|q
  ·exact .inl ⟨z,by rw[ar (fun e=>by subst e;rw[q]at mu;exact mu)];exact q⟩
  ·exact .inr q
theorem Bk{K:Ow}(rg:RG K H G)(g:G a=none)(mu:ET (H a)):RG K (aV H a u) G:=fun b z q=>by
 obtain⟨h,e1,r⟩:=rg b z q;have hb:b≠a:=fun e=>by subst e;rw[q]at g;cases g
 exact⟨h,by rw[ar hb];exact e1,r.mono (mH mu)⟩
theorem zd(k:Kp G H0 G H)(n:H0 a=none):Kp G H0 G (aV H a u):=fun b h e g=>⟨by rw[ar (ba e n)];exact (k b h e g).1,g⟩
theorem F7{k:Nat}{f:Mg}{fd:NB}{ps:List Str}{sp:br}{d kd:D}{v:V}{x:Mf}{A:MB}{E:Mf->Mi->Prop}(F:FnOk X.prog X.w X.K X.mg X.base pj k f fd ps (bN X.K sp))(hb:eA X.K fd ps [])(hr:Room k A)(hA:Env0 X.prog X.w X.K X.mg X.base A X.stack s H)
  (I:Inv X pins τ H s) (rg:RG X.K H G) (rd:RD X.K H d v) (rv:aB v x) (hs:sp [d] G fun z G'=>z=kd/\G'=G) (nf:∀ l,kd≠.fl l) {Q:Mf->Mi->Prop}
  (q:∀ u v' H' s',Inv X pins τ H' s'->Kp G H G H'->RG X.K H' G->RD X.K H' kd v'->aB v' u->Q u s'):Mo (Ms X.prog X.w) A (call (.ref f) [x]) Q E s:=by
 have sp1:bN X.K sp [v] H (fun v' H'=>Kp G H G H'/\RG X.K H' G/\RD X.K H' kd v') (fun _ _ _=>False):=
  ⟨[d],G,_,RDs.cons rd RDs.nil,rg,hs,fun z G' v' H' e k1 rg1 re=>by obtain⟨rfl,rfl⟩:=e;exact⟨k1,rg1,re.rd nf⟩⟩
 have r2:Vals [v] [x]:=.cons rv .nil;have hl:([x] ++ ([]:List Mf)).length=ps.length:=by
  have:=F.len _ _ _ _ sp1
  simpa using this
 refine P6 (OD (F.run A X.stack s H ⟨[x],[]⟩ ([x] ++ []) [v] _ _ hr hA (hb s [x] I.kIn hl) (by simpa using r2) sp1) fun r s' hq=>?_)
 cases r with
 | error e=>exact False.elim hq
 | ok fl=>
  cases fl with
  | ret u=>
   obtain⟨v',H',I',rv',k1,rg1,rd1⟩:=I.after hq;exact q u v' H' s' I' k1 rg1 rd1 rv'
  | next=>exact False.elim hq
  | brk=>exact False.elim hq
  | cont=>exact False.elim hq
end
theorem zf{X:Cx}{pins:List (Mg×Obj)}{τ:St}{H0:Hp}{G:Gp}{k:Nat}{f:Mg}{fd:NB}{ps:List Str}{sp:br}{A:MB}{E:Mf->Mi->Prop}(F:FnOk X.prog X.w X.K X.mg X.base pj k f fd ps (bN X.K sp))(hb:eA X.K fd ps [])(hr:Room k A)
  (hA:∀ {s H},Inv X pins τ H s->Env0 X.prog X.w X.K X.mg X.base A X.stack s H) {S D0:Mg} {oD:Obj} (nS:H0 S=none) (nD:H0 D0=none) (gS:G S=none) (gD:G D0=none) (hne:S≠D0)
  {body:Mf->PUnit->Sem (ForInStep PUnit)}
  (hbd:∀ x s Q,Mo (Ms X.prog X.w) A (call (.ref f) [x]) (fun u s'=>Mo (Ms X.prog X.w) A (Builtin.List.listUpdate (.ref S) (·.push u)) (fun _=>Q (.yield ⟨⟩)) E s') (fun _ _=>False) s->Mo (Ms X.prog X.w) A (body x ⟨⟩) Q E s):
  ∀ {ds ks:List D} {vs:List V} {us:List Mf},ks.length=ds.length->(∀ (i:Nat) d kd,ds[i]?=some d->ks[i]?=some kd->(sp [d] G fun z G'=>z=kd/\G'=G)/\∀ l,kd≠.fl l)->
   ∀ {H:Hp} {s:Mi} {done:List D} {kv:List V} {ku:List Mf} {n:Nat},Inv X pins τ H s->Kp G H0 G H->RG X.K H G->RDs X.K H ds vs->Vals vs us->H D0=some (XO D0 oD)->H S=some (XO S (NJ "list" ku.toArray n))->RDs X.K H done kv->Vals kv ku->ku.length+us.length < 64->
   ∀ {Q:PUnit->Mi->Prop},(∀ H' s' kv' ku' n',Inv X pins τ H' s'->Kp G H0 G H'->RG X.K H' G->H' D0=some (XO D0 oD)->H' S=some (XO S (NJ "list" ku'.toArray n'))->RDs X.K H' (done ++ ks) kv'->Vals kv' ku'->Stb X.K H H'->Q ⟨⟩ s')->
   Mo (Ms X.prog X.w) A (forIn us PUnit.unit body) Q E s
 | [],ks,vs,us,hl,hk,H,s,done,kv,ku,n,I,kp,rg,rds,rv,eD,eS,rdk,rvk,hz,Q,q=>by
  rw[rds.inv_nil]at rv;cases rv;rw[OS];have:ks=[]:=length_eq_zero_iff.mp (by simpa using hl)
  subst this;exact Mj (q H s kv ku n I kp rg eD eS (by rw[No];exact rdk) rvk ⟨fun _ _ z=>z,fun _ _ z=>z⟩)
 | d::ds,[],vs,us,hl,_,_,_,_,_,_,_,_,_,_,_,_,_,_,_,_,_,_,_=>by simp at hl
 | d::ds,kd::ks,vs,us,hl,hk,H,s,done,kv,ku,n,I,kp,rg,rds,rv,eD,eS,rdk,rvk,hz,Q,q=>by
  obtain⟨v,t,e,h1,h2⟩:=rds.inv_cons;subst e;cases rv with
  | @cons _ x _ us l rv=>
   rw[Oe];obtain⟨hs,nf⟩:=hk 0 d kd rfl rfl;refine Me (hbd x s _ (F7 F hb hr (hA I) I rg h1 l hs nf fun u v' H' s' I' k1 rg1 rd1 rv1=>?_));have eS':=(k1 S _ eS gS).1;have eD':=(k1 D0 _ eD gD).1;have st1:=k1.stb rg;have oS:=qg I' eS';simp only[MC]at hz;refine Po oS rfl ?_ (by rw[Mt,Ni];omega) (by rw[Array.size_push,Mt,Ni];omega)
   have ea:ku.toArray.push u=(ku ++ [u]).toArray:=by simp
   have e2:=O2 oS (·.push u);rw[ea]at e2;generalize (if ((ku ++ [u]).toArray.size == ku.toArray.size)=true then n else n+1)=n2 at e2
   have mu:ET (H' S):=by rw[eS'];exact trivial
   have I2:=tT (t':=s'.toks) I' eS' e2;have st2:Stb X.K H' (aV H' S (XO S (NJ "list" (ku ++ [u]).toArray n2))):=mH mu;refine zf F hb hr hA nS nD gS gD hne hbd (ds:=ds) (ks:=ks) (by simpa using hl) (fun i d' kd' a b=>hk (i+1) d' kd' (by simpa using a) (by simpa using b)) I2 (zd (kp.trans k1) nS) (Bk rg1 gS mu)
    (RDs.mono st2 _ _ (RDs.mono st1 _ _ h2)) rv (by rw[ar hne.symm];exact eD') aG (done:=done ++ [kd]) (kv:=kv ++ [v']) (RDs.append (RDs.mono st2 _ _ (RDs.mono st1 _ _ rdk)) (RDs.cons (RD.mono st2 _ _ rd1) RDs.nil)) (rvk.append (.cons rv1 .nil)) (by simp;omega)
    fun H3 s3 kv3 ku3 n3 I3 kp3 rg3 eD3 eS3 rd3 rv3 st3=>q H3 s3 kv3 ku3 n3 I3 kp3 rg3 eD3 eS3 (by simpa using rd3) rv3 ⟨fun b xs z=>st3.t _ _ (st2.t _ _ (st1.t _ _ z)),fun b xs z=>st3.l _ _ (st2.l _ _ (st1.l _ _ z))⟩
section
variable{X:Cx}{pins:List (Mg×Obj)}{τ:St}{H H0:Hp}{s:Mi}{G:Gp}
theorem GS(I:L2.Inv X pins τ H s){n:Nat}{A:MB}(hu:A.units+n < MT){b:Bool}{N1 N2:Nat}{Q:Bool->Mi->Prop}:
  ∀ {ds es:List D} {xs ys:List V} {us ws:List Mf} {i:Nat},(b && i == 0)=false->Kc n (EC n) ds es->RDs X.K H ds xs->RDs X.K H es ys->Vals xs us->Vals ys ws->ds.length+N2=es.length+N1->Q (dE (lR n) ds es) s->
   KatLex X.prog X.w A b (decide (N1 < N2)) Q (us.zip ws) i s
 | [],es,xs,ys,us,ws,i,hb,c,r1,r2,w1,w2,hl,q=>by
  rw[r1.inv_nil]at w1;cases w1;rw[List.zip_nil_left];refine kat_nil ?_;cases es with
  | nil=>
   simp only[MZ]at hl;rw[decide_eq_false (by walk_at "o")]
   exact q
  | cons b t=>
   simp only[MZ,MC]at hl;rw[decide_eq_true (by walk_at "o")]
   exact q
 | a::r,[],xs,ys,us,ws,i,hb,c,r1,r2,w1,w2,hl,q=>by
  rw[r2.inv_nil]at w2;cases w2;rw[List.zip_nil_right];refine kat_nil ?_;simp only[MZ,MC]at hl;rw[decide_eq_false (by walk_at "o")]
  exact q
 | a::r,b'::t,xs,ys,us,ws,i,hb,⟨p,c,z⟩,r1,r2,w1,w2,hl,q=>by
  obtain⟨x1,t1,e1,g1,g2⟩:=r1.inv_cons;subst e1;obtain⟨x2,t2,e2,f1,f2⟩:=r2.inv_cons;subst e2;cases w1 with
  | cons k1 w1=>
  cases w2 with
  | cons k2 w2=>
   rw[Ot];refine kat_cons ((ug I n p.1 p.2 g1 f1 k1 k2 hu).eq X.prog X.w _ _ (kat_go (fun e=>kat_yes ?_) fun e=>kat_no ?_))
   ·rw[show dE (lR n) (a::r) (b'::t)=dE (lR n) r t by simp[dE,e]]at q
    simp only[MC]at hl;exact GS I hu (by simp) z g2 f2 w1 w2 (by walk_at "o") q
   ·rw[show dE (lR n) (a::r) (b'::t)=lR n a b' by simp[dE,e]]at q
    rw[hb];refine kat_one _ _ ?_;exact (HZ I n (c fun y=>by rw[y,aY]at e;cases e) g1 f1 k1 k2 hu) X.prog X.w _ _ q
def Cq(d:D):Prop:=∃ t r,d=.tup (.int t::r)
theorem Kx(I:L2.Inv X pins τ H s){A:MB}(hu:A.units+4 < MT){kx ky:D}{v u:V}{v' u':Mf}(cp:EC 4 kx ky)(hx:Cq kx)(hy:Cq ky)(rx:RD X.K H kx v)(ry:RD X.K H ky u)(lx:aB v v')(ly:aB u u'){C:Bool->Mi->Prop}{E:Mf->Mi->Prop}
  (q:C (lR 4 kx ky) s):Mo (Ms X.prog X.w) A (keyLt' (tuples' true) v' u') C E s:=by
 obtain⟨i,r,rfl⟩:=hx;obtain⟨j,t,rfl⟩:=hy;simp only[RD]at rx ry;obtain⟨a,xs,rfl,s1,r1⟩:=rx;obtain⟨b,ys,rfl,s2,r2⟩:=ry;cases lx;cases ly;obtain⟨its,w1,⟨o1,h1,c1,n1,d1⟩,z1⟩:=I.tuple s1;obtain⟨its2,w2,⟨o2,h2,c2,n2,d2⟩,z2⟩:=I.tuple s2;refine kat_lt h1 d1 h2 d2 ?_;have l1:=w1.length;have l1':=r1.length;have l2:=w2.length;have l2':=r2.length;obtain⟨x1,t1,e1,g1,g2⟩:=RDs.inv_cons (d:=.int i) (ds:=r) r1;subst e1;obtain⟨x2,t2,e2,f1,f2⟩:=RDs.inv_cons (d:=.int j) (ds:=t) r2;subst e2;simp only[RD]at g1 f1;subst g1 f1;cases w1 with
 | @cons _ u1 _ m1 k1 w1=>
 cases w2 with
 | @cons _ u2 _ m2 k2 w2=>
  obtain⟨tk,rfl⟩:=k1;obtain⟨tk',rfl⟩:=k2;obtain⟨p,c,z⟩:=(show Kc 3 (EC 3) (.int i::r) (.int j::t)from cp)
  have q':C (dE (lR 3) (.int i::r) (.int j::t)) s:=q;show KatLex _ _ _ _ _ _ ((_::m1).zip (_::m2)) 0 s
  rw[Ot];refine kat_cons ((ug I 3 (x:=.int i) (y:=.int j) (v:=.int i) (u:=.int j) p.1 p.2 eh eh ⟨tk,rfl⟩ ⟨tk',rfl⟩ (by walk_at "o")).eq X.prog X.w _ _ (kat_go (fun e=>kat_yes ?_) fun e=>kat_no ?_))
  ·rw[show dE (lR 3) (.int i::r) (.int j::t)=dE (lR 3) r t by simp[dE,e]]at q'
   simp only[MC]at l1 l1' l2 l2';exact GS I (by walk_at "o") (by simp) z g2 f2 w1 w2 (by simp only[Mt,MC];omega) q'
  ·rw[show dE (lR 3) (.int i::r) (.int j::t)=lR 3 (.int i) (.int j)by simp[dE,e]]at q'
   show Mo _ _ (oneLt' true _ _) _ _ _
   exact oneLt_int q'
theorem Im(I:L2.Inv X pins τ H s){A:MB}{E:Mf->Mi->Prop}{Q:SortKind->Mi->Prop}{ks:List D}{kv:List V}{ku:List Mf}(hk:∀ d∈ks,Cq d)(r:RDs X.K H ks kv)(w:Vals kv ku)(hn:0 < ks.length)(q:Q (tuples' true) s):
  Mo (Ms X.prog X.w) A (keyKind' ku.toArray) Q E s:=by
 have go:∀ {ks:List D} {kv:List V} {ku:List Mf},(∀ d∈ks,Cq d)->RDs X.K H ks kv->Vals kv ku->∃ fs,KatTups s.heap ku fs/\fs.length=ks.length/\∀ v∈fs,∃ i t,v=Value.int i t:=by
  intro ks
  induction ks with
  | nil=>
   intro kv ku _ r w;rw[r.inv_nil]at w;cases w;exact⟨[],KatTups.nil,rfl,fun v hv=>by simp at hv⟩
  | cons d t ih=>
   intro kv ku hk r w;obtain⟨x1,t1,e1,g1,g2⟩:=r.inv_cons;subst e1;cases w with
   | cons k1 w=>
    obtain⟨fs,h1,h2,h3⟩:=ih (fun d hd=>hk d (My _ hd)) g2 w;obtain⟨i,rr,rfl⟩:=hk d Mz;simp only[RD]at g1;obtain⟨a,xs,rfl,s1,r1⟩:=g1;cases k1;obtain⟨its,w1,⟨o1,e1,c1,n1,d1⟩,z1⟩:=I.tuple s1;obtain⟨y1,u1,e2,g3,_⟩:=RDs.inv_cons (d:=.int i) (ds:=rr) r1;subst e2;simp only[RD]at g3;subst g3;cases w1 with
    | cons k2 w1=>
     obtain⟨tk,rfl⟩:=k2;refine⟨.int i tk::fs,KatTups.cons e1 c1 d1 (by simp) h1,by simp[h2],fun v hv=>?_⟩
     rcases MP.mp hv with rfl|hv
     ·exact⟨i,tk,rfl⟩
     ·exact h3 v hv
 obtain⟨fs,h1,h2,h3⟩:=go hk r w;refine kat_kind (T:=.type "int") h1 (by walk_at "o") (fun v hv=>?_) (by decide) ?_
 ·obtain⟨i,t,rfl⟩:=h3 v hv;exact Looks.of_pure rfl
 ·rw[show (Value.type "int" != Value.type "tuple")=true by decide]
  exact q
end
section
variable{X:Cx}{pins:List (Mg×Obj)}{τ:St}{H H0:Hp}{s:Mi}{G:Gp}{S D0:Mg}{A:MB}{E:Mf->Mi->Prop}{P:PySem.Fin->Mi->Prop}
theorem xP(I:L2.Inv X pins τ H s)(rg:RG X.K H G)(kp:Kp G H0 G H)(nS:H0 S=none)(nD:H0 D0=none)(gS:G S=none)(gD:G D0=none)(hne:S≠D0){e1 n:Nat}{ku out:List Mf}{ov:List V}{st:SortSt}
  (eD:H D0=some (XO D0 (NJ "list" #[] e1))) (eS:H S=some (XO S (NJ "list" ku.toArray n))) (hz:ku.length < 64) (ho:(arrOf st).map (·.2)=out.toArray) (hf:failedOf st=none) (hv:Vals ov out) (hl:out.length < 64)
  (q:∀ H' s',L2.Inv X pins τ H' s'->Kp G H0 G H'->RG X.K H' G->H' D0=some (.lst ov)->Stb X.K H H'->P (.done (.ret .none)) s'):Mo (Ms X.prog X.w) A (ksk_tail D0 false e1 (.ref S) st) P E s:=by
 unfold ksk_tail;dsimp only;rw[ho];simp only[Bool.false_eq_true,if_false];have oS:=qg I eS;have e2:=O2 oS (fun _=>(#[]:Array Mf));have mu:ET (H S):=by rw[eS];exact trivial
 have I1:=tT (t':=s.toks) I eS e2;have eD1:(aV H S (XO S (NJ "list" #[] (if ((#[]:Array Mf).size == ku.toArray.size)=true then n else n+1)))) D0=some (XO D0 (NJ "list" #[] e1)):=by rw[ar hne.symm];exact eD
 have oD:=qg I1 eD1;have mu2:ET ((aV H S (XO S (NJ "list" #[] (if ((#[]:Array Mf).size == ku.toArray.size)=true then n else n+1)))) D0):=by rw[eD1];exact trivial
 have e3:=O2 oD (fun _=>out.toArray);refine Me (Po oS rfl ?_ (by rw[Mt,Ni];omega) (M0 _))
 refine Me (PN ?_);refine Me (seqEpoch_at oD rfl ?_);refine Me (Po oD rfl ?_ (M0 _) (by rw[Mt,Ni];omega))
 rw[hf];simp only[bne_self_eq_false,Bool.false_eq_true,if_false];have I2:=I1.write (x:=D0) (e:=D0) (o:=.lst ov) (t':=s.toks) mu2 (.inl rfl) (fun b u hb hu=>(On _ (NC fun _=>out.toArray) (Ne.symm hb)).trans hu) ⟨_,e3⟩ ⟨by rw[hv.length,Ni];omega,out,_,hv,e3⟩
 refine Mj (q _ _ I2 (zd (zd kp nS) nD) (Bk (Bk rg gS mu) gD mu2) aG ?_);exact⟨fun b xs z=>(mH mu2).t _ _ ((mH mu).t _ _ z),fun b xs z=>(mH mu2).l _ _ ((mH mu).l _ _ z)⟩
theorem Cw{vs:List V}{us:List Mf}(w:Vals vs us)(i:Nat)(hi:i < vs.length):aB (vs.getD i .non) (us.getD i .none):=by
 have hl:=w.length;obtain⟨v,e,r⟩:=Vals.getV (i:=i) (u:=us[i]'(by walk_at "o")) w (by simp)
 rw[ME,ME,e,Mp (by walk_at "o")]
 exact r
theorem yV{vs:List V}{us:List Mf}(w:Vals vs us):∀ {p:List Nat},(∀ i∈p,i < vs.length)->Vals (p.map fun i=>vs.getD i .non) (p.map fun i=>us.getD i .none)
 | [],_=>.nil
 | i::r,h=>.cons (Cw w i (h i Mz)) (yV w fun j hj=>h j (My _ hj))
theorem Ej{K:Ow}{ds:List D}{vs:List V}(r:RDs K H ds vs)(i:Nat)(hi:i < vs.length):RD K H (ds.getD i .non) (vs.getD i .non):=by
 obtain⟨d,e,q⟩:=RDs.getV (i:=i) r (Mp hi);rw[ME,ME,e,Mp hi];exact q
theorem Bu{K:Ow}{ds:List D}{vs:List V}(r:RDs K H ds vs):∀ {p:List Nat},(∀ i∈p,i < vs.length)->RDs K H (p.map fun i=>ds.getD i .non) (p.map fun i=>vs.getD i .non)
 | [],_=>RDs.nil
 | i::t,h=>RDs.cons (Ej r i (h i Mz)) (Bu r fun j hj=>h j (My _ hj))
theorem range_getD{α:Type}(l:List α)(d:α):(List.range l.length).map (fun i=>l.getD i d)=l:=by
 refine List.ext_getElem (by simp) fun i h1 h2=>?_
 simp[h2]
theorem Gk(I:L2.Inv X pins τ H s)(rg:RG X.K H G)(kp:Kp G H0 G H)(nS:H0 S=none)(nD:H0 D0=none)(gS:G S=none)(gD:G D0=none)(hne:S≠D0){e1 n:Nat}{ks:List D}{kv vs:List V}{ku us:List Mf}
  (eD:H D0=some (XO D0 (NJ "list" #[] e1))) (eS:H S=some (XO S (NJ "list" ku.toArray n))) (rk:RDs X.K H ks kv) (wk:Vals kv ku) (wv:Vals vs us) (hl:ku.length=us.length) (hz:us.length < 64) (hu:A.units+4 < MT)
  (hk:∀ d∈ks,Cq d) (hc:∀ a∈ks,∀ b∈ks,EC 4 a b) (r:Nat->Nat) (hr:∀ i j a b,ks[i]?=some a->ks[j]?=some b->lR 4 a b=decide (r i < r j))
  (q:∀ (p:List Nat) H' s',p.Perm (List.range us.length)->(p.map r).Pairwise (·<=·)->L2.Inv X pins τ H' s'->Kp G H0 G H'->RG X.K H' G->H' D0=some (.lst (p.map fun i=>vs.getD i .non))->Stb X.K H H'->P (.done (.ret .none)) s'):
  Mo (Ms X.prog X.w) A (ksk_end D0 false us.toArray e1 (.ref S) ku.toArray) P E s:=by
 have lk:=wk.length;have lk':=rk.length;have lv:=wv.length;unfold ksk_end;dsimp only;simp only[Bool.false_eq_true,if_false]
 by_cases h2:us.length < 2
 ·have hs:us.toArray.size < 2:=by rw[Mt];exact h2
  rw[if_pos hs,if_pos hs];refine Me (Mj ?_);refine Me (Mj ?_);refine xP I rg kp nS nD gS gD hne eD eS (by walk_at "o") (out:=us) (ov:=vs) (st:=SortSt.mk' general' (ku.toArray.zip us.toArray) #[] 7 none) ?_ rfl wv hz fun H' s' I' kp' rg' e' st'=>?_
  ·apply Array.toList_inj.mp;show ((ku.toArray.zip us.toArray).map (·.2)).toList=_
   rw[Array.toList_map,ksk_zip];simp[List.map_snd_zip,hl]
  ·refine q (List.range us.length) H' s' (List.Perm.refl _) ?_ I' kp' rg' (by rw[<- lv,range_getD];exact e') st'
   have:us.length=0\/us.length=1:=by walk_at "o"
   rcases this with e|e<;>rw[e]<;>simp[List.range_succ]
 ·have hs:¬ us.toArray.size < 2:=by rw[Mt];exact h2
  rw[if_neg hs,if_neg hs];obtain⟨p,ep,hp,adj⟩:=Fg r us.length (by walk_at "o")
  refine Me (Im I hk rk wk (by walk_at "o") ?_)
  refine Me (M_ (kat_run (Q:=fun st' s'=>∃ p':Array Nat,arrOf st'=p'.map (kas_item (ku.toArray.zip us.toArray))/\failedOf st'=none/\s'=s/\p'=p) hl (by walk_at "o") hz (G:=fun p' s'=>s'=s/\p'=p)
   (fun p' st' s' a1 a2 a3 a4=>⟨p',a2,a3,a4.1,a4.2⟩) ?_) ?_ fun _ _ x=>x)
  ·refine KasT.walked (lt:=lV r) (J:=fun s'=>s'=s) (fun i j C s' hi hj e c=>?_) _ s (Fh (by walk_at "o")) rfl fun s' e _=>⟨e,ep⟩
   subst e;unfold kas_ask;obtain⟨v1,f1,g1⟩:=Vals.getV (i:=i) (u:=ku[i]'(by walk_at "o")) wk (by simp)
   obtain⟨v2,f2,g2⟩:=Vals.getV (i:=j) (u:=ku[j]'(by walk_at "o")) wk (by simp)
   obtain⟨d1,b1,c1⟩:=RDs.getV rk f1;obtain⟨d2,b2,c2⟩:=RDs.getV rk f2;have m1:=Mv b1;have m2:=Mv b2;rw[show ku.getD i Value.none=ku[i]'(by walk_at "o")by simp[show i < ku.length by walk_at "o"],show ku.getD j Value.none=ku[j]'(by walk_at "o")by simp[show j < ku.length by walk_at "o"]]
   refine Kx I hu (hc _ m1 _ m2) (hk _ m1) (hk _ m2) c1 c2 g1 g2 ?_;rw[hr i j d1 d2 b1 b2];exact c _ rfl
  ·rintro⟨⟨⟩,st'⟩ s' ⟨p',har,hf,rfl,rfl⟩
   dsimp only;have lp:p'.toList.length=us.length:=by rw[hp.length_eq,List.length_range]
   have inr:∀ i∈p'.toList,i < us.length:=fun i hi=>mem_range.mp (hp.mem_iff.mp hi);refine xP I rg kp nS nD gS gD hne eD eS (by walk_at "o") (out:=p'.toList.map fun i=>us.getD i Value.none) (ov:=p'.toList.map fun i=>vs.getD i .non) (kat_snds hl har) hf (yV wv fun i hi=>by rw[lv];exact inr i hi) (by rw[Ml,lp];exact hz) fun H' s' I' kp' rg' e' st'=>?_
   refine q p'.toList H' s' hp ?_ I' kp' rg' e' st';rw[OC,List.pairwise_iff_getElem];intro i j hi hj hij;have h:=adj.le (le_of_lt hij) (by walk_at "o")
   unfold RR at h;have gi:p'.getD i 0=p'.toList[i]:=by
    have:i < p'.size:=by simpa using hi
    simp[Array.getD,this]
   have gj:p'.getD j 0=p'.toList[j]:=by
    have:j < p'.size:=by simpa using hj
    simp[Array.getD,this]
   rw[gi,gj]at h;exact h
end
structure SortBy(sp:br)(G:Gp)(ds:List D)(ks:List D)(r:Nat->Nat):Prop where
 few:ds.length < 64
 len:ks.length=ds.length
 key:∀ (i:Nat) d kd,ds[i]?=some d->ks[i]?=some kd->sp [d] G fun z G'=>z=kd/\G'=G
 ki:∀ d∈ks,Cq d
 cp:∀ a∈ks,∀ b∈ks,EC 4 a b
 lt:∀ i j a b,ks[i]?=some a->ks[j]?=some b->lR 4 a b=decide (r i < r j)
section
variable{X:Cx}{pins:List (Mg×Obj)}{τ:St}{H H0:Hp}{s:Mi}{G:Gp}{S D0:Mg}{A:MB}{E:Mf->Mi->Prop}{P:PySem.Fin->Mi->Prop}
 {k:Nat} {f:Mg} {fd:NB} {ps:List Str} {sp:br} {ds ks:List D} {r:Nat->Nat} {vs:List V} {us:List Mf}
theorem Dt(F:FnOk X.prog X.w X.K X.mg X.base pj k f fd ps (bN X.K sp))(hb:eA X.K fd ps [])(hr:Room k A)(hA:∀ {s H},L2.Inv X pins τ H s->Env0 X.prog X.w X.K X.mg X.base A X.stack s H)(sb:SortBy sp G ds ks r)(hu:A.units+4 < MT)
  (I:L2.Inv X pins τ H s) (rg:RG X.K H G) (kp:Kp G H0 G H) (nS:H0 S=none) (nD:H0 D0=none) (gS:G S=none) (gD:G D0=none) (hne:S≠D0) {e1:Nat}
  (eD:H D0=some (XO D0 (NJ "list" #[] e1))) (eS:H S=some (XO S (NJ "list" #[] 0))) (rd:RDs X.K H ds vs) (wv:Vals vs us)
  (q:∀ (p:List Nat) H' s',p.Perm (List.range ds.length)->(p.map r).Pairwise (·<=·)->L2.Inv X pins τ H' s'->Kp G H0 G H'->RG X.K H' G->H' D0=some (.lst (p.map fun i=>vs.getD i .non))->Stb X.K H H'->P (.done (.ret .none)) s'):
  Mo (Ms X.prog X.w) A (ksk_rest D0 (.ref f) false us.toArray e1 (.ref S)) P E s:=by
 have l1:=rd.length;have l2:=wv.length;have few:=sb.few;unfold ksk_rest;refine Me (Pq ?_)
 first
  | rw[List.forIn_toArray]
  | (rw[<- Array.forIn_toList];simp only[List.toList_toArray])
  | rw[<- Array.forIn_toList]
 refine Me (zf F hb hr hA nS nD gS gD hne (fun x s' Q' h=>?_) sb.len (fun i d kd a b=>⟨sb.key i d kd a b,fun l e=>?_⟩) I kp rg rd wv eD (ku:=[]) (n:=0) (done:=[]) (kv:=[]) eS RDs.nil .nil (by simp only[MZ];omega)
  fun H' s' kv' ku' n' I' kp' rg' eD' eS' rk wk st=>?_)
 ·refine Me (N8 (M_ h (fun u s'' hu'=>?_) fun _ _ hF=>hF.elim));dsimp only;exact Me (M_ hu' (fun _ s3 hq=>Mj hq) fun _ _ x=>x)
 ·obtain⟨t,rr,e2⟩:=sb.ki kd (Mv b);rw[e2]at e;cases e
 ·have l3:=rk.length;have l4:=wk.length;have sl:=sb.len;simp only[Oq]at rk l3;refine Me (listItems_at (qg I' eS') rfl ?_);refine Gk I' rg' kp' nS nD gS gD hne eD' eS' rk wk wv (by walk_at "o") (by walk_at "o") hu sb.ki sb.cp r sb.lt fun p H'' s'' hp hs I'' Sb R6 e'' st''=>?_
  refine q p H'' s'' (by rw[show ds.length=us.length by walk_at "o"];exact hp) hs I'' Sb R6 e'' ⟨fun b xs z=>st''.t _ _ (st.t _ _ z),fun b xs z=>st''.l _ _ (st.l _ _ z)⟩
theorem C9(F:FnOk X.prog X.w X.K X.mg X.base pj k f fd ps (bN X.K sp))(hb:eA X.K fd ps [])(hr:Room k A)(hA:∀ {s H},L2.Inv X pins τ H s->Env0 X.prog X.w X.K X.mg X.base A X.stack s H)(sb:SortBy sp G ds ks r)(hu:A.units+4 < MT)
  (I:L2.Inv X pins τ H s) (rg:RG X.K H G) (kp:Kp G H0 G H) (h0:∀ a,H a=none->H0 a=none) (nD:H0 D0=none) (gD:G D0=none) {n:Nat}
  (eD:H D0=some (XO D0 (NJ "list" us.toArray n))) (rd:RDs X.K H ds vs) (wv:Vals vs us)
  (q:∀ (p:List Nat) H' s',p.Perm (List.range ds.length)->(p.map r).Pairwise (·<=·)->L2.Inv X pins τ H' s'->Kp G H0 G H'->RG X.K H' G->H' D0=some (.lst (p.map fun i=>vs.getD i .non))->Stb X.K H H'->P (.done (.ret .none)) s'):
  Mo (Ms X.prog X.w) A (ksk_tree D0 (.ref f) false) P E s:=by
 have l1:=rd.length;have l2:=wv.length;have few:=sb.few;have oD:=qg I eD;have mu:ET (H D0):=by rw[eD];exact trivial
 have e2:=O2 oD (fun _=>(#[]:Array Mf));generalize (if ((#[]:Array Mf).size == us.toArray.size)=true then n else n+1)=e1 at e2
 have I1:=tT (t':=s.toks) I eD e2;unfold ksk_tree;refine Me (listItems_at oD rfl ?_);refine Me (Po oD rfl ?_ (by rw[Mt,Ni];omega) (M0 _))
 refine Me (seqEpoch_at e2 rfl ?_);refine Me (P5 ?_ (by show us.length<=_;rw[Ni];omega))
 refine Me (wpAny_newList ?_ (M0 _));refine M8 ?_;have I2:L2.Inv X pins τ _ { s with heap:=(s.heap.update D0 (NC fun _=>#[])).push { cls:=.type "tuple",data:=.seq us.toArray } }:=I1.kept (t':=s.toks) fun b u e=>Mm _ e
 have fS:=I2.fresh;have I3:=v0 (t':=s.toks) (o:=NJ "list" #[] 0) I2 rfl rfl;have hS0:H ((s.heap.update D0 (NC fun _=>(#[]:Array Mf))).push { cls:=.type "tuple",data:=.seq us.toArray }).objs.size=none:=by
  by_cases e:((s.heap.update D0 (NC fun _=>(#[]:Array Mf))).push { cls:=.type "tuple",data:=.seq us.toArray }).objs.size=D0
  ·rw[e]at fS;rw[aG]at fS;cases fS
  ·rw[ar e]at fS;exact fS
 have hne:((s.heap.update D0 (NC fun _=>(#[]:Array Mf))).push { cls:=.type "tuple",data:=.seq us.toArray }).objs.size≠D0:=fun e=>by rw[e,eD]at hS0;cases hS0
 have rg1:RG X.K (aV H D0 (XO D0 (NJ "list" #[] e1))) G:=Bk rg gD mu;have st1:Stb X.K H (aV H D0 (XO D0 (NJ "list" #[] e1))):=mH mu;have st2:Stb X.K (aV H D0 (XO D0 (NJ "list" #[] e1))) (aV (aV H D0 (XO D0 (NJ "list" #[] e1))) ((s.heap.update D0 (NC fun _=>(#[]:Array Mf))).push { cls:=.type "tuple",data:=.seq us.toArray }).objs.size (XO ((s.heap.update D0 (NC fun _=>(#[]:Array Mf))).push { cls:=.type "tuple",data:=.seq us.toArray }).objs.size (NJ "list" #[] 0))):=(Kp.laid (G:=G) fS).stb rg1;refine Dt F hb hr hA sb hu I3 (rg1.laid fS) (zd (zd kp nD) (h0 _ hS0)) (h0 _ hS0) nD (rg.free hS0) gD hne (by rw[ar hne.symm,aG]) aG (RDs.mono st2 _ _ (RDs.mono st1 _ _ rd)) wv fun p H' s' hp hs I' kp' rg' e' st'=>?_
 exact q p H' s' hp hs I' kp' rg' e' ⟨fun b xs z=>st'.t _ _ (st2.t _ _ (st1.t _ _ z)),fun b xs z=>st'.l _ _ (st2.l _ _ (st1.l _ _ z))⟩
theorem Ac{d vw:Mg}{Q:Mf->Mi->Prop}(F:FnOk X.prog X.w X.K X.mg X.base pj k f fd ps (bN X.K sp))(hb:eA X.K fd ps [])(hr:Room (k+2) X.A)(sb:SortBy sp G ds ks r)(hu:X.A.units+8 < MT)(hh:X.A.handled=none)
  (I:L2.Inv X pins τ H s) (rg:RG X.K H G) {ep:Nat} (hv:s.heap.IsValuesView vw d) (dr:nh s.heap d us ep) (rd:RDs X.K H ds vs) (wv:Vals vs us)
  (q:∀ (p:List Nat) D0 H' s',p.Perm (List.range ds.length)->(p.map r).Pairwise (·<=·)->L2.Inv X pins τ H' s'->Kp G H G H'->RG X.K H' G->H D0=none->H' D0=some (.lst (p.map fun i=>vs.getD i .non))->RDs X.K H' (p.map fun i=>ds.getD i .non) (p.map fun i=>vs.getD i .non)->Q (.ref D0) s'):
  Mo (Ms X.prog X.w) X.A (call (.builtin "sorted") [.ref vw] [(Mh "key",.ref f)]) Q E s:=by
 have l1:=rd.length;have l2:=wv.length;have few:=sb.few;refine call_function_entry_kw kind_sorted plain_sorted entry_sorted (ksk_s1 _ _) ?_;unfold Builtin.«sorted»;refine Me (m:=checkCount "sorted" 1 1 _) (Mj ?_);refine Me (kdu_collect (A:=X.A.in1) (Fo (r:=vw) (d:=d) (vs:=us) (ep:=ep)) hh ⟨hv,dr⟩ (by rw[Ni];omega) fun h' tk acc hk hacc=>?_)
 have ea:acc.toList=us:=by
  refine List.ext_getElem? fun i=>?_;rcases N9 i acc.size with h|h
  ·have e:acc[i]?=some acc[i]:=by simp[h]
   have:=hacc.2 i _ e;rw[this];simp[h]
  ·rw[N4 (by simpa using h),N4 (by rw[<- hacc.1];exact h)]
 rw[ea];have I1:L2.Inv X pins τ H { s with heap:=h',toks:=tk }:=I.kept hk
 refine Me (wpAny_newList ?_ (by rw[Ni];omega))
 have fD:=I1.fresh;have I2:=v0 (t':=tk) (o:=NJ "list" us.toArray 0) I1 rfl rfl;have st:Stb X.K H (aV H h'.objs.size (XO h'.objs.size (NJ "list" us.toArray 0))):=(Kp.laid (G:=G) fD).stb rg;refine Me (M8 (wpAny_call_entry_kw slot_list_sort ⟨_,qg I2 aG,rfl⟩ entry_list_sort ?_ (ksk_l1 _ _)));rw[ksk_t1];refine C9 F hb (hr.in1.in1) (fun J=>J.env0.in1.in1) sb (by show X.A.units+1+1+4 < MT;omega) I2 (rg.laid fD) (Kp.laid fD) (fun a e=>?_) fD (rg.free fD) aG (RDs.mono st _ _ rd) wv fun p H' s' hp hs I' kp' rg' e' st'=>⟨_,rfl,?_⟩
 ·by_cases h:a=h'.objs.size
  ·subst h;exact fD
  ·rw[ar h]at e;exact e
 ·refine Mj ⟨_,rfl,q p _ H' s' hp hs I' kp' rg' fD e' (Bu (RDs.mono st' _ _ (RDs.mono st _ _ rd)) fun i hi=>?_)⟩;rw[<- l1];exact mem_range.mp (hp.mem_iff.mp hi)
end
def AT(sp:br)(to:bn):bn:=fun σ G Q=>to σ G fun x G1=>match val x with
 | .ref a=>match G1 a with
  | some (.dT _ kvs)=>∃ ks r,SortBy sp G1 (kvs.map (·.2)) ks r/\∀ p:List Nat,p.Perm (List.range (kvs.map (·.2)).length)->(p.map r).Pairwise (·<=·)->Q (.fl (p.map fun i=>(kvs.map (·.2)).getD i .non)) G1
  | _=>False
 | _=>False
theorem Dp{K:Ow}{H:Hp}{kvs:List (List aA×D)}{xs:List (List aA×Mg×Mf)}(r:pc K H kvs xs):∃ vs,RDs K H (kvs.map (·.2)) vs/\Vals vs (xs.map (·.2.2)):=by
 unfold pc at r
 induction r with
 | nil=>exact⟨[],RDs.nil,.nil⟩
 | cons h _ ih=>
  obtain⟨_,_,v,h1,h2⟩:=h;obtain⟨vs,a,b⟩:=ih;exact⟨v::vs,RDs.cons h1 a,.cons h2 b⟩
theorem FO{X:Cx}{k:Nat}{f:Str}{sp:br}{o:MJ}{to:bn}{p0 apos cpos np Sa pos:Pos}(F:Fn3 X.prog X.w X.K X.mg X.base k f [] sp)(hr:Room (k+2) X.A)(hc:X.calm=true)(hgf:Gl X f)(hg:Gl X "sorted")(hm:X.mg "sorted"=none)(ho:PE X o (ay X.K to))
  (Rq:NS o "values" X.env (eval o X.env)=eval o X.env:=by rfl) (Rn:(apos.endLine == cpos.line)=true:=by rfl) (hdf:(f == ("__debug__":Str))=false:=by decide):
  PE X (.Call (.Name "sorted" p0) [.Call (.Attribute o "values" apos) [] [] cpos] [⟨some "key",.Name f np,Sa⟩] pos) (ay X.K (AT sp to)):=by
 obtain⟨fa,fd,ps,dv,dvs,ok,hmf,_,hb,hv0,hd0⟩:=F.ex;have e0:dvs=[]:=(hd0 (fun _=>none)).inv_nil;subst e0;cases hv0;have hu:=hr.units
 rintro pins s τ H Q I ⟨σ,G,Q3,rs,rg,h,kf⟩
 refine Nw (iN I hg hm (u:=.builtin "sorted") (by decide +kernel) ?_ (by decide) (by decide))
 refine callWith_kw (id:="sorted") ?_;show Mo _ _ (spliced [(false,eval (.Call (.Attribute o "values" apos) [] [] cpos) X.env)]) _ _ _
 refine NO (wpAny_Call_method0_late Rq Rn (cb (dN ho I rs rg h) fun ov s1 zz=>?_));obtain⟨ox,H1,I1,rox,x,G1,q1,k1,rg1,rd1⟩:=zz;split at q1
 ·rename_i a hx;rw[hx]at rd1;simp only[RD]at rd1;subst rd1;cases rox;split at q1
  ·rename_i hw kvs hga;obtain⟨ks,r,sb,q1⟩:=q1;obtain⟨hob,eo,ro⟩:=rg1 a _ hga;cases hob with
   | ext φ=>
    obtain⟨xs,rfl,rt,nd,hz⟩:=ro;obtain⟨hsm,o1,es,ep,g1,g2,g3,g4⟩:=(show bD X.prog X.w H1 s1.heap a (.ext (xK hw a xs))from I1.hok a _ eo).1
    obtain⟨vs,rv,wv⟩:=Dp rt;have dr:nh s1.heap a (xs.map (·.2.2)) ep:=⟨o1,es,g1,g2,g3,by rw[g4,MU];rfl⟩
    refine⟨"dict","dict.values",PySem.F.plainAttrs_dict,PySem.F.slot_dict_values,PySem.F.type_dict_values,dr.ty,fun b e=>?_,?_⟩
    ·cases e;exact⟨o1,g1,g2.2.1⟩
    ·refine O0 rfl (PySem.evalArgs_none (PB PySem.F.slot_dict_values dr.ty PySem.F.entry_dict_values (PySem.F.args_dict_values_1 _) (Aq hsm) ⟨⟨_,ep,dr⟩,?_⟩));refine Oo ?_;have I2:L2.Inv X pins τ H1 { s1 with heap:=s1.heap.push { cls:=.type "dict_values",data:=.fields #[.ref a] } }:=I1.kept (t':=s1.toks) fun b u e=>Mm _ e
     show Mo _ _ (evalAll [(do let v <- eval (.Name f np) X.env;OB pos;pure v)]) _ _ _
     refine wpAny_evalAll_cons (Me (oQ I2 hgf hmf (Me (Pm (Mj (wpAny_evalAll_nil ?_)))) hdf));show Mo _ _ (call (.builtin "sorted") [.ref s1.heap.objs.size] [(Mh "key",.ref fa)]) _ _ _
     refine Ac ok hb hr sb (by walk_at "o") (I.ok.hd hc) I2 rg1 (ep:=ep) ⟨_,Mn _ rfl,rfl,rfl⟩ (dr.stay fun b e=>Mm _ e) rv wv fun p D0 H' s' hp hs I' kp' rg' n0 e' rd'=>?_
     exact⟨.ref D0,H',I',rfl,kf _ G1 _ H' (q1 p hp hs) (k1.trans kp') rg' (.inl ⟨_,D0,_,rfl,rfl,e',rg1.free n0,rd',k1.fr (r6 n0)⟩)⟩
   | _=>exact ro.elim
  ·exact q1.elim
 ·exact q1.elim
def J8(te:bn):bn:=fun σ G Q=>te σ G fun x G1=>match rT G1 (val x) with
 | some ds=>Q (.fl ds.reverse) G1
 | none=>False
def IH(to:bn):bn:=fun σ G Q=>to σ G fun x G1=>match x with
 | .ref a=>match G1 a with
  | some (.lst _)=>Q .non (gset G1 a (.lst []))
  | _=>False
 | _=>False
def JF{α:Type}(xs:List α)(lo hi st:Option Int):List α:=
 (QX (NH lo hi st xs.length).1 (NH lo hi st xs.length).2.1 (NH lo hi st xs.length).2.2).filterMap (xs[·]?)
def J6(te:bn)(tl th ts:I_):bn:=fun σ G Q=>te σ G fun x G1=>tl σ G1 fun l G2=>th σ G2 fun u G3=>ts σ G3 fun st G4=>st≠some 0/\match rT G4 (val x) with
 | some ds=>Q (.fl (JF ds l u st)) G4
 | none=>False
def jB(K:Ow)(mg:Str->Option Mf)(x:Str)(d:D):Prop:=∃ u v,mg x=some u/\aB v u/\∀ H,RD K H d v
theorem cZ{X:Cx}{x:Str}{d:D}{pos:Pos}(hg:Gl X x)(h:jB X.K X.mg x d)(hd:(x == ("__debug__":Str))=false:=by decide):PE X (.Name x pos) (ay X.K (eC d)):=by
 obtain⟨u,v,hm,r,rd⟩:=h;exact Bp hg hm r rd hd
theorem CI{K:Ow}{mg:Str->Option Mf}{x:Str}{ds:List D}{vs:List V}{its:Array Mf}{a:Mg}{n:Nat}{sl:Array (Option Mf)}(hm:mg x=some (.ref a))(hl:K.lookup a=some ⟨.type "tuple",none,.seq its n,sl⟩)
  (hz:its.size<=Mq) (w:Vals vs its.toList) (r:∀ H,RDs K H ds vs):jB K mg x (.tup ds):=
 ⟨.ref a,.ref a,hm,rfl,fun H=>pS (.inr ⟨_,its,n,hl,⟨rfl,rfl⟩,rfl,hz,w⟩) (r H)⟩
end L3
namespace L2
open PySem PySem.Spec PyProof.Rows
theorem Inv.turnedL{X:Cx}{pins:List (Mg×Obj)}{σ:St}{H:Hp}{s:Mi}{h':MD}{t':Nat}{fp:List Mg}(I:Inv X pins σ H s)(k:∀ b o,b∉fp->s.heap.get? b=some o->h'.get? b=some o)(hf:∀ b∈fp,qw X pins H b):
  Inv X pins σ H { s with heap:=h',toks:=t' }:=by
 have nit:∀ b u,H b=some u->b∉fp:=fun b u e z=>by rw[(hf b z).1]at e;cases e
 have hL:X.env.locals∉fp:=fun z=>(hf _ z).2.1 rfl;refine I.step (g':=s.gens) (d':=s.drawn) (ch:=fp) (fun b hb=>⟨(hf b hb).2.2.2.1,(hf b hb).2.1,(hf b hb).2.2.2.2.1,(hf b hb).2.2.2.2.2⟩) (fun b o _ _ hc e _=>k b o hc e) (fun b o _ _ hc e _=>⟨o.slots,k b o hc e⟩) (fun _ _ _ _ n=>n)
  (fun b o hc e=>⟨o,k b o hc e⟩) (fun _ _ e=>e) (fun _ _ _ e=>e) (fun b ps e=>⟨#[],by rw[e];simp⟩) (fun m hm=>?_) (fun b u e=>?_) I.bare
 ·obtain⟨o,es,ep,ho,r⟩:=hm;exact⟨o,es,ep,k _ o hL ho,r⟩
 ·refine (I.hok b u e).stay (fun c v hc q=>k c v ?_ q) (fun _ q=>q) fun _ _ q=>q;rcases hc with z|z
  ·rw[z];exact nit b u e
  ·exact nit c _ z
end L2
namespace L3
open PySem PySem.Spec PyProof.Rows L2
def Ln(a b:String):Bool:=(a == b) || ((a == "bool") && (b == "int"))
def Il(b:String):Prop:=b="int"\/b="bool"\/b="str"\/b="tuple"\/b="list"
def LB:BN:=fun ds G Q=>match ds with
 | [d,.ty T]=>Il T/\∃ T',gU G d=some T'/\Q (.bl (Ln T' T)) G
 | _=>False
def Kf:BN:=fun ds G Q=>match ds with
 | [.bl b]=>Q (.int (if b then 1 else 0)) G
 | _=>False
theorem qo{K:Ow}{mg:Str->Option Mf}{x z:Str}{t:Tok}(hm:mg x=some (.str z t)):jB K mg x (.str z):=⟨.str z t,.str z,hm,⟨t,rfl⟩,fun _=>jm⟩
end L3
namespace L2
open PySem PySem.Spec PyProof.Rows
end L2
namespace L3
open PySem PySem.Spec PyProof.Rows L2
def He(a:Mg)(g:ux)(tb:bP)(E:Ends3)(σ:eO)(ds:List D)(G1:Gp):Prop:=∃ Pv:Nat->eO->Gp->Prop,Pv 0 σ G1/\(∀ i σ' G',Pv i σ' G'->G' a=some (.lst ds))/\
 (∀ (i:Nat) d σ' G',ds[i]?=some d->Pv i σ' G'->g d σ' G' fun σ2 G2=>tb { E with nx:=Pv (i+1),ct:=Pv (i+1),bk:=E.nx } σ2 G2)/\∀ σ' G',Pv ds.length σ' G'->E.nx σ' G'
def xZ(te:bn)(g:ux)(tb:bP):bP:=fun E σ G=>te σ G fun d G1=>match d with
 | .ref a=>∃ ds,G1 a=some (.lst ds)/\He a g tb E σ ds G1
 | d=>match eF d with
  | some ds=>ForIn g tb E σ ds G1
  | none=>False
section
variable{X:Cx}{tg e:MJ}{te:bn}
theorem Bm(h:PE X e (ay X.K te)):PI X tg e (fun τ H R=>∃ σ G Q3,RS X.K H σ τ/\RG X.K H G/\te σ G Q3/\∀ d G1 H1,Q3 d G1->Kp G H G1 H1->RG X.K H1 G1->match d with
  | .ref a=>(∃ ds,G1 a=some (.lst ds))/\R (KE X.K a) H1
  | d=>∃ ds,eF d=some ds/\∀ J,xH X.K G1 H1 ds J->R J H1):=by
 intro pins s τ H R I hq;obtain⟨σ,G,Q3,rs,rg,hq,k⟩:=hq;refine cb (dB h pins s τ H (fun v H1=>∃ d G1,Kp G H G1 H1/\RG X.K H1 G1/\RD X.K H1 (val d) v/\Q3 d G1) I ⟨σ,G,_,rs,rg,hq,fun d G' v H' q k' rg' rd=>⟨d,G',k',rg',rd,q⟩⟩) fun u s1 zz=>?_;obtain⟨v,H1,I1,r1,d,G1,k1,rg1,rd,q⟩:=zz;have kk:=k d G1 H1 q k1 rg1;have seq:∀ {a:Mg} {xs:List V} {ds:List D},EV X.K H1 a xs->RDs X.K H1 ds xs->(∀ J,xH X.K G1 H1 ds J->R J H1)->Mo (Ms X.prog X.w) X.A (OF (.ref a)) (Hb X pins τ tg R) X.xe s1:=fun f r q=>qe I1 f.sq (q _ (BA rg1 f r));cases d with
 | ref a=>
  simp only[val,RD]at rd;subst rd;cases r1;obtain⟨⟨ds,hg⟩,kr⟩:=kk;obtain⟨xs,e1,r⟩:=tE rg1 hg;exact qe I1 (j_.of e1) kr
 | lst ds=>
  simp only[val,RD]at rd;obtain⟨a,xs,rfl,f,r⟩:=rd;cases r1;obtain⟨ds',e,kr⟩:=kk;cases e;exact seq f r kr
 | fl ds=>
  simp only[val,RD]at rd;obtain⟨a,xs,rfl,f,r⟩:=rd;cases r1;obtain⟨ds',e,kr⟩:=kk;cases e;exact seq f r kr
 | tup ds=>
  simp only[val,RD]at rd;obtain⟨a,xs,rfl,f,r⟩:=rd;cases r1;obtain⟨ds',e,kr⟩:=kk;cases e;exact zg I1 f (kr _ (Ed rg1 f r))
 | str z=>
  simp only[val,RD]at rd;subst rd;obtain⟨t,rfl⟩:=r1;obtain⟨ds',e,kr⟩:=kk;cases e;refine zh I1 (kr _ (Bz fun H'=>?_));have:signs z=(z.cps.toList.map fun c=>(⟨#[c]⟩:Str)).map D.str:=by simp[signs]
  rw[this];have e2:dh z=(z.cps.toList.map fun c=>(⟨#[c]⟩:Str)).map V.str:=by simp[dh]
  rw[e2];exact RDs.strs _
 | _=>
  obtain⟨ds',e,_⟩:=kk;cases e
end
theorem sV{X:Cx}{tg iter:MJ}{body:List ML}{te:bn}{g:ux}{tb:bP}{pos:Pos}(hp:Pk (Ms X.prog X.w) X.A X.env X.xe)(hc:X.calm=true)(hi:PE X iter (ay X.K te))(hg:PG X tg (jd X.K g))(hb:nj X body (bO X.K tb))
  (hs:∀ x,Nh iter X.env x=pure x:=by intro _;rfl):PS X (.For tg iter body [] pos) (bO X.K (xZ te g tb)):=
 (DK hp hc (Bm hi) hg hb hs).imp fun Dd τ H zz=>by
 obtain⟨σ,G,D3,rs,rg,h,k⟩:=zz;exact (
  ⟨σ,G,_,rs,rg,h,fun d G1 H1 q k1 rg1=>by
    have core:∀ (ds:List D) (J:It) (Pv:Nat->eO->Gp->Prop),Pv 0 σ G1->
      (∀ i σ' G' H',Pv i σ' G'->Kp G1 H1 G' H'->RG X.K H' G'->(i < ds.length->J.go i H'/\∀ x H2,J.yld i H' x H2->Kp G' H' G' H2/\RG X.K H2 G'/\∃ d,ds[i]?=some d/\RD X.K H2 d x)/\(i=ds.length->J.stop i H'))->
      (∀ (i:Nat) d σ' G',ds[i]?=some d->Pv i σ' G'->g d σ' G' fun σ2 G2=>tb { D3 with nx:=Pv (i+1),ct:=Pv (i+1),bk:=D3.nx } σ2 G2)->(∀ σ' G',Pv ds.length σ' G'->D3.nx σ' G')->
      ∃ W:Nat->Nat->St->Hp->Prop,(∃ m,W 0 m τ H1)/\∀ i m σ H,W i m σ H->
       (J.stop i H/\Dd.nx σ H)\/(J.go i H/\∃ N:St->Hp->Prop,(∀ σ' H',N σ' H'->∃ m',m' < m/\W (i+1) m' σ' H')/\∀ x H',J.yld i H x H'->jd X.K g x σ H' fun σ2 H2=>bO X.K tb { Dd with nx:=N,ct:=N,bk:=Dd.nx } σ2 H2):=by
     intro ds J Pv p0 it step fin;refine⟨fun i m τ' H'=>m=ds.length - i/\i<=ds.length/\∃ σ' G',RS X.K H' σ' τ'/\RG X.K H' G'/\Pv i σ' G'/\Kp G1 H1 G' H',⟨ds.length,rfl,M0 _,σ,G1,rs.mono (k1.stb rg),rg1,p0,Kp.refl⟩,?_⟩
     rintro i m τ' H' ⟨rfl,hi',σ',G',rs',rg',pv,k'⟩
     obtain⟨hgo,hstop⟩:=it i σ' G' H' pv k' rg'
     by_cases hlt:i < ds.length
     ·obtain⟨go,yld⟩:=hgo hlt;refine .inr ⟨go,fun τ2 H2=>∃ σ2 G2,RS X.K H2 σ2 τ2/\RG X.K H2 G2/\Pv (i+1) σ2 G2/\Kp G1 H1 G2 H2,fun τ2 H2 ⟨σ2,G2,a,b,c,d⟩=>⟨ds.length - (i+1),by walk_at "o",rfl,hlt,σ2,G2,a,b,c,d⟩,fun x H2 y=>?_⟩
      obtain⟨ky,rgy,d,hd,rd⟩:=yld x H2 y;refine⟨d,σ',G',_,rd,rs'.mono (ky.stb rg'),rgy,step i d σ' G' hd pv,fun σ3 G3 τ3 H3 q3 k3 rg3 rs3=>?_⟩;have kk:Kp G1 H1 G3 H3:=k'.trans (ky.trans k3);have kG:Kp G H G3 H3:=k1.trans kk;refine⟨σ3,G3,_,rs3,rg3,q3,⟨fun σ4 G4 τ4 H4 q4 k4 rg4 rs4=>⟨σ4,G4,rs4,rg4,q4,kk.trans k4⟩,k.rt.base kG,fun σ4 G4 τ4 H4 q4 k4=>k.nx σ4 G4 τ4 H4 q4 (kG.trans k4),fun σ4 G4 τ4 H4 q4 k4 rg4 rs4=>⟨σ4,G4,rs4,rg4,q4,kk.trans k4⟩⟩⟩
     ·have e:i=ds.length:=by walk_at "o"
      refine .inl ⟨hstop e,k.nx σ' G' τ' H' (fin σ' G' (by rw[<- e];exact pv)) (k1.trans k') rg' rs'⟩
    cases d with
    | ref a=>
     obtain⟨ds,hg,Pv,p0,live,step,fin⟩:=q;refine⟨⟨ds,hg⟩,core ds _ Pv p0 (fun i σ' G' H' pv k' rg'=>?_) step fin⟩;obtain⟨xs,e1,r⟩:=tE rg' (live i σ' G' pv);have hl:=r.length;refine⟨fun hi=>⟨⟨xs,xs[i]'(by walk_at "o"),j_.of e1,by simp[show i < xs.length by walk_at "o"]⟩,fun x H2 y=>?_⟩,fun e=>⟨xs,j_.of e1,by walk_at "o"⟩⟩
     obtain⟨rfl,hx⟩:=y;refine⟨Kp.refl,rg',ds[i],by simp[hi],?_⟩
     obtain⟨y,e,q⟩:=r.get (i:=i) (d:=ds[i]) (by simp[hi])
     rw[hx xs (j_.of e1)]at e;cases e;exact q
    | lst ds=>
     obtain⟨Pv,p0,step,fin⟩:=q;exact⟨_,rfl,fun J it=>core _ J Pv p0 (fun i σ' G' H' _ k' rg'=>it i G' H' k' rg') step fin⟩
    | fl ds=>
     obtain⟨Pv,p0,step,fin⟩:=q;exact⟨_,rfl,fun J it=>core _ J Pv p0 (fun i σ' G' H' _ k' rg'=>it i G' H' k' rg') step fin⟩
    | tup ds=>
     obtain⟨Pv,p0,step,fin⟩:=q;exact⟨_,rfl,fun J it=>core _ J Pv p0 (fun i σ' G' H' _ k' rg'=>it i G' H' k' rg') step fin⟩
    | str z=>
     obtain⟨Pv,p0,step,fin⟩:=q;exact⟨_,rfl,fun J it=>core _ J Pv p0 (fun i σ' G' H' _ k' rg'=>it i G' H' k' rg') step fin⟩
    | _=>exact q.elim⟩)
def Ai(c:rj)(tb:bP):bP:=fun E σ G=>∃ W:Nat->eO->Gp->Prop,(∃ m,W m σ G)/\∀ m σ' G',W m σ' G'->
 c σ' G' fun b G1=>if b=true then ∃ N:eO->Gp->Prop,(∀ σ2 G2,N σ2 G2->∃ m',m' < m/\W m' σ2 G2)/\tb { E with nx:=N,ct:=N,bk:=E.nx } σ' G1 else E.nx σ' G1
theorem Fs{X:Cx}{c:MJ}{body:List ML}{tc:rj}{tb:bP}{pos:Pos}(hp:Pk (Ms X.prog X.w) X.A X.env X.xe)(hc:PT X c (cz X.K tc))(hb:nj X body (bO X.K tb)):PS X (.While c body [] pos) (bO X.K (Ai tc tb)):=
 (DG hp hc hb).imp fun D τ H ⟨σ,G,D3,rs,rg,⟨W,⟨m0,w0⟩,turn⟩,k⟩=>by
  refine⟨fun m τ' H'=>∃ σ' G',RS X.K H' σ' τ'/\RG X.K H' G'/\W m σ' G'/\Kp G H G' H',⟨m0,σ,G,rs,rg,w0,Kp.refl⟩,?_⟩
  rintro m τ' H' ⟨σ',G',rs',rg',w',k'⟩
  refine⟨σ',G',_,rs',rg',turn m σ' G' w',fun b G1 H1 q k1 rg1=>?_⟩;cases b with
  | true=>
   rw[if_pos rfl]at q ⊢;obtain⟨N,hN,q⟩:=q;refine⟨fun τ2 H2=>∃ σ2 G2,RS X.K H2 σ2 τ2/\RG X.K H2 G2/\N σ2 G2/\Kp G H G2 H2,fun τ2 H2 ⟨σ2,G2,a,b,n,d⟩=>?_,?_⟩
   ·obtain⟨m',hm,w2⟩:=hN σ2 G2 n;exact⟨m',hm,σ2,G2,a,b,w2,d⟩
   ·have kG:=k'.trans k1;exact⟨σ',G1,_,rs'.mono (k1.stb rg'),rg1,q,⟨fun σ4 G4 τ4 H4 q4 k4 rg4 rs4=>⟨σ4,G4,rs4,rg4,q4,kG.trans k4⟩,k.rt.base kG,fun σ4 G4 τ4 H4 q4 k4=>k.nx σ4 G4 τ4 H4 q4 (kG.trans k4),fun σ4 G4 τ4 H4 q4 k4 rg4 rs4=>⟨σ4,G4,rs4,rg4,q4,kG.trans k4⟩⟩⟩
  | false=>
   rw[if_neg Bool.false_ne_true]at q ⊢;exact k.nx σ' G1 τ' H1 q (k'.trans k1) rg1 (rs'.mono (k1.stb rg'))
def fw:List Str->List D->Str->Option D
 | g::L,d::ds,f=>if g=f then some d else fw L ds f
 | _,_,_=>none
def i_(L:List Str)(f:Str):List Str:=match L with
 | []=>[f]
 | g::r=>if g=f then g::r else g::i_ r f
def hX:List Str->List D->Str->D->List D
 | g::L,x::ds,f,d=>if g=f then d::ds else x::hX L ds f d
 | _,_,_,d=>[d]
section
variable{K:Ow}{H:Hp}
theorem t_:∀ {gs:List (Str×V)} {ds:List D} {f:Str} {d:D},RDs K H ds (gs.map (·.2))->fw (gs.map (·.1)) ds f=some d->∃ v,gs.lookup f=some v/\RD K H d v
 | [],ds,f,d,r,e=>by simp[fw]at e
 | (g,u)::t,ds,f,d,r,e=>by
  cases ds with
  | nil=>simp[fw]at e
  | cons x ds=>
   obtain⟨y,q,e1,h1,h2⟩:=r.inv_cons;rw[MF,List.cons.injEq]at e1;obtain⟨rfl,e1⟩:=e1;simp only[MF,fw]at e;split at e
   ·rename_i hg;cases e;subst hg;exact⟨u,by rw[Nt,beq_self_eq_true],h1⟩
   ·rename_i hg;obtain⟨v,e2,h3⟩:=t_ (gs:=t) (by rw[e1];exact h2) e
    exact⟨v,by rw[Nt,show (f == g)=false by simpa using Ne.symm hg];exact e2,h3⟩
theorem yE:∀ {gs:List (Str×V)} {f:Str} {v:V},(e8 f v gs).map (·.1)=i_ (gs.map (·.1)) f
 | [],f,v=>rfl
 | (g,u)::t,f,v=>by
  simp only[e8,MF,i_];split
  ·rename_i hg;simp[hg]
  ·simp[yE (gs:=t)]
theorem yF:∀ {gs:List (Str×V)} {ds:List D} {f:Str} {v:V} {d:D},RDs K H ds (gs.map (·.2))->RD K H d v->RDs K H (hX (gs.map (·.1)) ds f d) ((e8 f v gs).map (·.2))
 | [],ds,f,v,d,r,h=>by
  have:hX ([]:List Str) ds f d=[d]:=by unfold hX;rfl
  exact RDs.cons h RDs.nil
 | (g,u)::t,ds,f,v,d,r,h=>by
  cases ds with
  | nil=>exact absurd r.length (by simp)
  | cons x ds=>
   obtain⟨y,q,e1,h1,h2⟩:=r.inv_cons;rw[MF,List.cons.injEq]at e1;obtain⟨rfl,e1⟩:=e1;simp only[e8,MF,hX];split
   ·rename_i hg;subst e1;exact RDs.cons h h2
   ·exact RDs.cons h1 (yF (gs:=t) (by rw[e1];exact h2) h)
end
def bA(cs:List Mg)(f:Str)(to:bn):bn:=fun σ G Q=>to σ G fun x G1=>match x with
 | .ref a=>match G1 a with
  | some (.ins C L ds)=>C∈cs/\match fw L ds f with
   | some d=>Q d G1
   | none=>False
  | _=>False
 | _=>False
def iV(cs:List Mg)(f:Str)(to tv:bn):bP:=fun D σ G=>tv σ G fun d G1=>to σ G1 fun x G2=>match x with
 | .ref a=>match G2 a with
  | some (.ins C L ds)=>(C∈cs/\L.length < 1000)/\D.nx σ (gset G2 a (.ins C (i_ L f) (hX L ds f (val d))))
  | _=>False
 | _=>False
def em(cs:List (Mg×br))(m:Str)(dds:List D)(to:bn)(ta:m_):bn:=fun σ G Q=>to σ G fun x G1=>match x with
 | .ref a=>match G1 a with
  | some (.ins C L _)=>m∉L/\∃ sp,(C,sp)∈cs/\ta σ G1 fun ds G2=>sp (.ref a::(ds ++ dds)) G2 Q
  | _=>False
 | _=>False
section
variable{X:Cx}{o e:MJ}{es:List MJ}{to te:bn}{t:m_}{pos apos:Pos}{k:Nat}{m:Str}{dds:List D}{sp:br}
theorem bM{f:Str}{cs:List Mg}(tab:∀ C∈cs,Cls X.K C/\cE X.K C f)(ho:PE X o (ay X.K to))(hb:NS o f X.env (eval o X.env)=eval o X.env:=by rfl):PE X (.Attribute o f pos) (ay X.K (bA cs f to)):=
 (DS ho hb).imp fun τ H Q zz=>by
 obtain⟨σ,G,Q3,rs,rg,h,kk⟩:=zz;exact (
  ⟨σ,G,_,rs,rg,h,fun d G1 v H1 q k1 rg1 re=>by
    cases d with
    | ref a=>
     dsimp only at q;split at q
     ·rename_i C L ds hg;obtain⟨hc,q⟩:=q;split at q
      ·rename_i d hd;obtain⟨ho,e1,ro⟩:=rg1 a _ hg;cases ho with
       | ins C2 dx gs=>
        obtain⟨rfl,r2,r3⟩:=ro;subst r2;obtain⟨w,hw,rd⟩:=t_ r3 hd;exact⟨a,_,dx,gs,w,re.ref,e1,(tab _ hc).1,(tab _ hc).2,hw,kk _ G1 _ H1 q k1 rg1 (.of rd)⟩
       | _=>exact ro.elim
      ·exact q.elim
     ·exact q.elim
    | _=>exact q.elim⟩)
theorem hV{f:Str}{cs:List Mg}{pos':Pos}(tab:∀ C∈cs,Cls X.K C/\cE X.K C f)(ho:PE X o (ay X.K to))(hv:PE X e (ay X.K te))(hs:N3 e (some (.Attribute o f pos')) pos.line X.env=pure false:=by rfl):
  PS X (.Assign [.Attribute o f pos'] e pos) (bO X.K (iV cs f to te)):=
 (Au ho (dB hv) hs).imp fun Dd τ H zz=>by
 obtain⟨σ,G,D3,rs,rg,h,kk⟩:=zz;exact (
  ⟨σ,G,_,rs,rg,h,fun d G1 v H1 q1 k1 rg1 rd=>⟨σ,G1,_,rs.mono (k1.stb rg),rg1,q1,fun x G2 u H2 q2 k2 rg2 re=>by
    cases x with
    | ref a=>
     dsimp only at q2;split at q2
     ·rename_i C L ds hg;obtain⟨⟨hc,hl⟩,q2⟩:=q2;obtain⟨ho,e1,ro⟩:=rg2 a _ hg;cases ho with
      | ins C2 dx gs=>
       obtain⟨rfl,r2,r3⟩:=ro;subst r2;have rd2:=RD.mono (k2.stb rg1) _ _ rd;obtain⟨kp,rg3⟩:=At (gs':=e8 f v gs) (L':=i_ (gs.map (·.1)) f) (ds':=hX (gs.map (·.1)) ds f (val d)) rg2 e1 yE (yF r3 rd2) (by rw[hg];exact fun z=>nomatch z)
       exact⟨a,_,dx,gs,re.ref,e1,(tab _ hc).1,(tab _ hc).2,by simpa using hl,kk.nx _ _ _ _ q2 ((k1.trans k2).trans kp) rg3 (rs.mono ((((k1.trans k2).trans kp)).stb rg))⟩
      | _=>exact ro.elim
     ·exact q2.elim
    | _=>exact q2.elim⟩⟩)
theorem f7{pl:Sem Bool}{cs:List (Mg×br)}(tab:∀ c∈cs,∃ k',k'<=k/\Mt3 X.prog X.w X.K X.mg X.base k' c.1 m dds c.2)(hr:Room k X.A)(ho:PE X o (ay X.K to))
  (ht:eval (.Call (.Attribute o m apos) [] [] pos) X.env=(do
   let ov <- eval o X.env
   OB apos.atName
   let (f,first) <- holding [ov] (OE ov m pl)
   PD pos f first (Nn pos (Mr [] X.env)) (OH pos (NZ [] X.env))):=by rfl):
  PE X (.Call (.Attribute o m apos) [] [] pos) (ay X.K (em cs m dds to aq)):=by
 rintro pins s τ H Q I ⟨σ,G,Q3,rs,rg,h,kk⟩
 refine OQ (pl:=pl) (cb (dN ho I rs rg h) fun u s1 zz=>?_) ht;obtain⟨x,H1,I1,rx,d,G1,q,k1,rg1,rd⟩:=zz;cases d with
 | ref a=>
  simp only[val,RD]at rd;subst rd;obtain rfl:u=Value.ref a:=rx;dsimp only at q;split at q
  ·rename_i C L ds hg;obtain⟨hL,sp,hc,q⟩:=q;obtain⟨k',hk,F⟩:=tab _ hc;obtain⟨f,fd,ps,ds',dvs,ok,hm,hb,hv,hd⟩:=F.ex;obtain⟨ho,e1,ro⟩:=rg1 a _ hg;cases ho with
   | ins C2 dx gs=>
    obtain⟨rfl,r2,r3⟩:=ro;refine m8 I1 e1 F.cl hm (pZ (K:=X.K) r2 hL) ?_;exact PySem.W.callWith_K0 (first:=[.ref a]) I1.kIn hm.kp (pK (us:=[.ref a]) (vs:=[.ref a]) ok (hr.mono hk) hb hv s_ I1 (.cons rfl .nil) ⟨.ref a::([] ++ dds),G1,Q3,RDs.cons eK (hd H1),rg1,q,kk.base k1⟩)
   | _=>exact ro.elim
  ·exact q.elim
 | _=>exact q.elim
structure Cf3(P:Mw)(w:MG)(K:Ow)(mg:Str->Option Mf)(base:MD)(k:Nat)(x m:Str)(dds:List D)(sp:br):Prop where
 ex:∃ C f fd ps ds dvs,FnOk P w K mg base pj k f fd ps (bN K sp)/\mg x=some (.ref C)/\So K (.ref C) "__getattribute__"=some (some (.builtin "type.__getattribute__"))/\PySem.W.readsIn K C (.type "type")=true/\
  PySem.W.findCls K (.ref C) (.type "type") m=some (.val (.ref f))/\Pe K (.ref f)=true/\eA K fd ps ds/\Vals dvs ds/\∀ H,RDs K H dds dvs
theorem lB{pl:Sem Bool}{x:Str}{p:Pos}(F:Cf3 X.prog X.w X.K X.mg X.base k x m dds sp)(hr:Room k X.A)(hg:Gl X x)(ha:PA X (e::es) (eg X.K t))(hdb:(x == ("__debug__":Str))=false:=by decide)
  (hst:Mr (e::es) X.env=(false,eval e X.env)::Mr es X.env:=by rfl) (hpl:(Nn pos (Mr es X.env)).any (·.1)=false:=by rfl)
  (ht:eval (.Call (.Attribute (.Name x p) m apos) (e::es) [] pos) X.env=(do
   let ov <- eval (.Name x p) X.env
   OB apos.atName
   let (f,first) <- holding [ov] (OE ov m pl)
   PD pos f first (Nn pos (Mr (e::es) X.env)) (OH pos (NZ [] X.env))):=by rfl):
  PE X (.Call (.Attribute (.Name x p) m apos) (e::es) [] pos) (ay X.K (aI sp dds t)):=by
 obtain⟨C,f,fd,ps,ds,dvs,ok,hm,hga,hrd,hfc,hk,hb,hv,hd⟩:=F.ex;intro pins s τ H Q I h;refine OQ (pl:=pl) (cb (Bn (v:=.ref C) hg hm rfl hdb pins s τ H (fun v H1=>v=.ref C/\H1=H) I ⟨rfl,rfl⟩) fun u s1 zz=>?_) ht;obtain⟨v,H1,I1,rx,e1,e2⟩:=zz;subst e1 e2;obtain rfl:u=Value.ref C:=rx;refine PySem.W.method_cls I1.kIn hga (PySem.W.cls_value I1.kIn hrd hfc rfl ?_);have I2:=I1.tok (s1.toks+1);obtain⟨σ,G,Q3,rs,rg,h,kk⟩:=h;refine OY (first:=[]) (h₀:=X.base) I.ok.mod.kin hk (cb (ha pos pins _ τ H1 (fun vs H2=>∃ ds G1,sp (ds ++ dds) G1 Q3/\Kp G H1 G1 H2/\RG X.K H2 G1/\RDs X.K H2 ds vs) I2 ⟨σ,G,_,rs,rg,h,fun ds G1 vs H2 q k1 rg1 rds=>⟨ds,G1,q,k1,rg1,rds⟩⟩) fun us s2 ⟨vs,H2,I3,r,ds1,G1,q2,k1,rg1,rds⟩=>⟨I3.kIn,?_⟩) hst hpl
 exact pK (us:=us) (vs:=vs) ok hr hb hv s_ I3 r ⟨ds1 ++ dds,G1,Q3,rds.append (hd _),rg1,q2,kk.base k1⟩
end
end L3
theorem L3.all_cons{α:Type}{p:α->Prop}{a:α}{l:List α}(h:p a)(t:∀ x∈l,p x):∀ x∈a::l,p x:=fun x hx=>by
 rcases MP.mp hx with rfl|hx
 ·exact h
 ·exact t x hx
namespace L3
open PySem PySem.Spec PyProof.Rows L2 PySem.SeqAt PySem.W
def qW:D->Bool
 | .non=>true
 | _=>false
def AB:R3:=fun x y G Q=>match y with
 | .non=>Q (.bl (qW x)) G
 | _=>False
def yL:R3:=fun x y G Q=>match y with
 | .non=>Q (.bl (!qW x)) G
 | _=>False
section
variable{X:Cx}
theorem yC{K:Ow}{G0 G:Gp}{H0 H:Hp}{x:D}{v:V}{u:Mf}(r:RE K G0 H0 G H x v)(l:aB v u):(u == Value.none)=qW x:=by
 cases x with
 | non=>rw[r.non]at l;cases l;rfl
 | fl ds=>
  obtain⟨p,xs,rfl,_⟩:=r.fl;cases l;rfl
 | lst ds=>
  obtain⟨a,xs,rfl,_⟩:=r.lst;cases l;rfl
 | tup ds=>
  obtain⟨a,xs,rfl,_⟩:=r.tup;cases l;rfl
 | int i=>rw[r.int]at l;obtain⟨t,rfl⟩:=l;rfl
 | str i=>rw[r.str]at l;obtain⟨t,rfl⟩:=l;rfl
 | bl i=>rw[r.bl]at l;cases l;rfl
 | ref a=>rw[r.ref]at l;cases l;rfl
 | ty T=>
  have:=r.rd (by intro ds z;cases z)
  simp only[RD]at this;subst this;cases l;rfl
theorem CW:gW X (MS .Is) (dj X.K AB):=by
 rintro pins s σ H v u v' u' Q I rv ru ⟨x,y,G0,H0,G,Q3,rx,ry,rg,h,k⟩
 unfold AB at h;split at h
 ·rw[ry.non]at ru;cases ru;refine is_none_gen ?_;rw[yC rx rv];exact⟨.bl _,H,I,rfl,k _ G _ H h Kp.refl rg (.of eU)⟩
 ·exact h.elim
theorem Hh:gW X (MS .IsNot) (dj X.K yL):=by
 rintro pins s σ H v u v' u' Q I rv ru ⟨x,y,G0,H0,G,Q3,rx,ry,rg,h,k⟩
 unfold yL at h;split at h
 ·rw[ry.non]at ru;cases ru;refine isnot_none_gen ?_;rw[yC rx rv];exact⟨.bl _,H,I,rfl,k _ G _ H h Kp.refl rg (.of eU)⟩
 ·exact h.elim
end
section
variable{X:Cx}{o i:MJ}{to ti:bn}{pos:Pos}
theorem Ax(hu:X.A.units+8 < MT)(hi:PE X i (ay X.K ti))(ho:PE X o (ay X.K to))(hm:Ng .In o=false:=by rfl):PT X (.Compare i [.In] [o] pos) (cz X.K (cr (xo (aD X.prog X.w) ti to))):=by
 refine (DD (op:=.In) (t:=ay X.K (xo (aD X.prog X.w) ti to)) (fun pins s τ H Q I ⟨σ,G,Q3,rs,rg,h,k⟩=>?_) hm).imp fun τ H Q h=>wu h;refine cb (dN hi I rs rg h) fun iv s1 zz=>?_;obtain⟨iy,H1,I1,riy,y,G1,q1,k1,rg1,rd1⟩:=zz;refine cb (dN ho I1 (rs.mono (k1.stb rg)) rg1 q1) fun ov s2 zz=>?_;obtain⟨ox,H2,I2,rox,x,G2,q2,k2,rg2,rd2⟩:=zz;obtain⟨r,l,q2⟩:=q2;exact G_ (by walk_at "o") I2 rg2 l rd2 rox (RD.mono (k2.stb rg1) _ _ rd1) riy fun s3 I3=>⟨.bl r.isSome,H2,I3,rfl,k _ G2 _ H2 q2 (k1.trans k2) rg2 (.of eU)⟩
theorem vS(hu:X.A.units+8 < MT)(hi:PE X i (ay X.K ti))(ho:PE X o (ay X.K to))(hm:Ng .NotIn o=false:=by rfl):PT X (.Compare i [.NotIn] [o] pos) (cz X.K (cr (lH (aD X.prog X.w) ti to))):=by
 refine (DD (op:=.NotIn) (t:=ay X.K (lH (aD X.prog X.w) ti to)) (fun pins s τ H Q I ⟨σ,G,Q3,rs,rg,h,k⟩=>?_) hm).imp fun τ H Q h=>wu h;refine cb (dN hi I rs rg h) fun iv s1 zz=>?_;obtain⟨iy,H1,I1,riy,y,G1,q1,k1,rg1,rd1⟩:=zz;refine cb (dN ho I1 (rs.mono (k1.stb rg)) rg1 q1) fun ov s2 zz=>?_;obtain⟨ox,H2,I2,rox,x,G2,q2,k2,rg2,rd2⟩:=zz;obtain⟨r,l,q2⟩:=q2;exact EA (by walk_at "o") I2 rg2 l rd2 rox (RD.mono (k2.stb rg1) _ _ rd1) riy fun s3 I3=>⟨.bl (!r.isSome),H2,I3,rfl,k _ G2 _ H2 q2 (k1.trans k2) rg2 (.of eU)⟩
end
def AX(hw:List aA->Int)(tk tv:bn):bn:=fun σ G Q=>∀ p,G p=none->tk σ (gset G p (.dT hw [])) fun x G1=>tv σ G1 fun y G2=>match G2 p with
 | some (.dT hw' [])=>hw'=hw/\∃ ks,m7 (val x)=some ks/\Q (.ref p) (gset G2 p (.dT hw [(ks,val y)]))
 | _=>False
section
variable{X:Cx}{pos:Pos}
theorem FR{k v:MJ}{tk tv:bn}(hu:X.A.units+8 < MT)(hk:PE X k (ay X.K tk))(hv:PE X v (ay X.K tv)):PE X (.Dict [some k] [v] pos) (ay X.K (AX (aD X.prog X.w) tk tv)):=fun pins s τ H Q I zz=>by
 obtain⟨σ,G,Q3,rs,rg,h,kk⟩:=zz;have hf:H s.heap.objs.size=none:=I.hok.fresh (le_refl _);obtain⟨kp,rg2⟩:=Gd (o:=.dT (aD X.prog X.w) []) (ho:=.ext (xK (aD X.prog X.w) s.heap.objs.size [])) rg hf fun H' _=>⟨[],rfl,.nil,PK,M0 _⟩;have hd:(s.heap.objs.size == M5)=false:=beq_eq_false_iff_ne.mpr (Ne.symm (MO I.big));have I1:=I.laid (a:=s.heap.objs.size) (t':=s.toks) (fun _ _ q=>Mm _ q) (le_refl _) (qm (P:=X.prog) (w:=X.w) (hw:=aD X.prog X.w) (xs:=[]) ⟨hd,_,#[],0,Mn (h:=s.heap) (o:={ cls:=.type "dict",data:=.dict #[] }) rfl,⟨rfl,rfl,rfl⟩,rfl,rfl⟩);refine wpAny_Dict_any (by rfl) (by rfl) (by simp) (by simp) ?_
 refine pairTrees_cons_walk (cb (dN hk I1 (rs.mono (kp.stb rg)) rg2 (h _ (rg.free hf))) fun kv s1 zz=>?_);obtain⟨ox,H1,I2,rox,x,G1,q1,k1,rg1,rd1⟩:=zz;refine cb (dN hv I2 (rs.mono ((kp.trans k1).stb rg)) rg1 q1) fun vv s2 zz=>?_;obtain⟨oy,H2,I3,roy,y,G2,q2,k2,rgb,rd2⟩:=zz;refine pairTrees_nil_walk ?_;unfold storeAll;rw[Oe];split at q2
 ·rename_i hw' hg;obtain⟨rfl,ks,hks,q2⟩:=q2;have R7:=RD.mono (k2.stb rg1) _ _ rd1;obtain⟨b,rfl,sq⟩:=oR hks R7;cases rox;obtain⟨ho,e,r⟩:=rgb _ _ hg;cases ho with
  | ext φ=>
   obtain⟨xs,rfl,rt,nd,_⟩:=r;have e0:xs=[]:=by
    have:=rt.length;exact length_eq_zero_iff.mp this.symm
   subst e0;obtain⟨hd2,dd⟩:=r8 I3 e rt nd;refine Me (Me (QT (hsz:=M0 _) (show X.A.units < MT by walk_at "o") (key_at I3 sq) dd fun h' dd' hs=>Mj ?_))
   dsimp only;rw[OS];refine Mj ?_;obtain⟨q,es,ep,hq,h2,h3,h4,_,h5⟩:=dd';obtain⟨kp3,rg3⟩:=tX (a:=s.heap.objs.size) (o:=.dT (aD X.prog X.w) (aW [] ks (val y))) (ho:=.ext (xK (aD X.prog X.w) s.heap.objs.size (Ph [] ks b vv))) rgb (by rw[hg];exact fun z=>nomatch z)
    fun H' st=>⟨_,rfl,(rt.put ks sq rd2 roy).mono st,mV ks (val y) nd,by have:=eV ([]:List (List aA×D)) ks (val y);have hs:=ah;simp only[MZ]at this;omega⟩
   exact⟨.ref _,_,r_ I3 (by rw[e];exact True.intro) hs ⟨q,hq⟩ (qm ⟨hd2,q,es,ep,hq,h2,h3,h4⟩),rfl,kk _ _ _ _ q2 (kp.trans (k1.trans (k2.trans kp3))) rg3 (.of eK)⟩
  | _=>exact r.elim
 ·exact q2.elim
end
def Ef(x:D):List D->Nat
 | []=>0
 | d::r=>if cB d x then 0 else Ef x r+1
def IG(to:bn)(ta:m_):bn:=fun σ G Q=>to σ G fun x G1=>match x with
 | .lst ds=>ta σ G1 fun es G2=>match es with
  | [y]=>(pl 7 y/\(∀ d∈ds,pl 7 d)/\y∈ds)/\Q (.int (Ef y ds)) G2
  | _=>False
 | _=>False
def IF(sp:br)(to:bn):bn:=fun σ G Q=>to σ G fun x G1=>match rT G1 (val x) with
 | some ds=>∃ ks r,SortBy sp G1 ds ks r/\∀ p:List Nat,p.Perm (List.range ds.length)->(p.map r).Pairwise (·<=·)->Q (.fl (p.map fun i=>ds.getD i .non)) G1
 | none=>False
section
variable{X:Cx}{pins:List (Mg×Obj)}{τ:St}{H H0:Hp}{s:Mi}{G:Gp}{E:Mf->Mi->Prop}
 {k:Nat} {f:Mg} {fd:NB} {ps:List Str} {sp:br} {ds ks:List D} {r:Nat->Nat} {vs:List V} {us:List Mf}
end
def tm(c:Bool):Nat:=if c then 31 else 7
def Tb(c:Bool)(pl:Array Nat)(led plain:Bool):Qb:={ mask:=tm c,place:=pl,dummies:=#[],finger:=0,led:=led,moves:=if c then 1 else 0,plain:=plain }
abbrev Pb:=SetTable.Probe
def look(c:Bool)(pl:Array Nat)(hs:Nat->Int)(same:Nat->Bool)(h:Int):Nat->Pb->Option (Option Nat)
 | 0,_=>none
 | f+1,p=>match (Tb c pl false false).probe hs h p with
  | none=>none
  | some (.empty j _)=>some (some j)
  | some (.candidate _ i next)=>if same i then some none else look c pl hs same h f next
def Js(es:Array (Int×Mf))(ep:Nat)(t:Qb):Obj:={ cls:=.type "set",dict:=none,data:=.set es ep t }
def ul(h:MD)(b:Mg):Prop:=∃ o items n x t r,h.get? b=some o/\o.cls=.type "tuple"/\o.data=.seq items n/\items.toList=.str x t::r
section
variable{prog:Mw}{w:MG}{κ:Type}[DecidableEq κ]{kn:KeyKind prog w κ}{A:MB}{E:Mf->Mi->Prop}{s:Mi}{a b:Mg}
abbrev hK(kn:KeyKind prog w κ):List κ->Int:=tupleKeyHash kn
def Lv(kn:KeyKind prog w κ)(xs:List (List κ×Mg)):Array (Int×Mf):=(xs.map fun x=>(hK kn x.1,Value.ref x.2)).toArray
end
section
variable{prog:Mw}{w:MG}{κ:Type}[DecidableEq κ]{kn:KeyKind prog w κ}{A:MB}{E:Mf->Mi->Prop}{s:Mi}{a b:Mg}
structure SetIs(kn:KeyKind prog w κ)(h:MD)(a:Mg)(xs:List (List κ×Mg))(c:Bool)(pl:Array Nat)(l q:Bool):Prop where
 here:∃ ep,h.get? a=some (Js (Lv kn xs) ep (Tb c pl l q))
 len:pl.size=xs.length
 pq:q=true->xs=[]
end
section
variable{prog:Mw}{w:MG}{κ:Type}[DecidableEq κ]{kn:KeyKind prog w κ}{A:MB}{E:Mf->Mi->Prop}{s:Mi}{a b:Mg}
theorem ul.stay{h h':MD}(x:ul h a)(e:∀ o,h.get? a=some o->h'.get? a=some o):ul h' a:=by
 obtain⟨o,its,n,y,t,r,ho,z⟩:=x;exact⟨o,its,n,y,t,r,e o ho,z⟩
theorem SetIs.stay{h h':MD}{xs:List (List κ×Mg)}{c:Bool}{pl:Array Nat}{l q:Bool}(x:SetIs kn h a xs c pl l q)(e:∀ o,h.get? a=some o->h'.get? a=some o):SetIs kn h' a xs c pl l q:=
 ⟨let ⟨ep,z⟩:=x.here;⟨ep,e _ z⟩,x.len,x.pq⟩
end
set_option maxRecDepth 100000
def L4(first:Mf)(i n ep:Nat)(S:Mg):Obj:={ cls:=.type "set_iterator",data:=.fields #[first,.int i 0,.ref S,.int n 0,.int ep 0] }
inductive Mode(w:MG)(h:MD)(S:Mg)(es:Array (Int×Mf))(ep:Nat)(t:Qb)(vs:List Mf)(tp:Mg)(i:Nat):Mf->Prop
 | text (m:Int):w.params.followText "set-order"=true->vs=(pickOrder (w.params.setOrder S ep) es).toList.map (·.2)->Mode w h S es ep t vs tp i (.int m 0)
 | few (m:Nat):w.params.followText "set-order"=false->t.led=true->es.size<=1->vs=es.toList.map (·.2)->(i=0/\m=0\/i=1/\t.place=#[m - 1]/\0 < m)->Mode w h S es ep t vs tp i (.int m 0)
 | drawn (ys:List Nat):w.params.followText "set-order"=false->h.get? tp=some { cls:=.type "tuple",data:=.seq (ys.map fun (y:Nat)=>M9 y).toArray }->ys.Perm (List.range es.size)->vs=ys.map (fun y=>(es[y]?.map (·.2)).getD .none)->tp≠S->Mode w h S es ep t vs tp i (.ref tp)
structure SIt(w:MG)(h:MD)(it S:Mg)(es:Array (Int×Mf))(ep:Nat)(t:Qb)(vs:List Mf)(tp:Mg)(i:Nat):Prop where
 set:h.get? S=some (Js es ep t)
 fit:t.fits es.size=true
 here:∃ first,h.get? it=some (L4 first i es.size ep S)/\Mode w h S es ep t vs tp i first
set_option maxRecDepth 100000
section
variable{prog:Mw}{w:MG}{A:MB}{E:Mf->Mi->Prop}{s:Mi}{it S tp:Mg}{es:Array (Int×Mf)}{ep i:Nat}{t:Qb}{vs:List Mf}
theorem SIt.stay{h h':MD}(x:SIt w h it S es ep t vs tp i)(k:∀ b,b=it\/b=S\/b=tp->∀ o,h.get? b=some o->h'.get? b=some o):SIt w h' it S es ep t vs tp i:=by
 obtain⟨hs,hf,first,e1,md⟩:=x
 refine⟨k S (.inr (.inl rfl)) _ hs,hf,first,k it (.inl rfl) _ e1,?_⟩
 cases md with
 | text m hb ev=>exact .text m hb ev
 | few m hb hl hz ev hm=>exact .few m hb hl hz ev hm
 | drawn ys hb et hp ev hts=>exact .drawn ys hb (k tp (.inr (.inr rfl)) _ et) hp ev hts
end
set_option maxRecDepth 100000
set_option maxRecDepth 100000
def JE(a b:Str×Int):Bool:=if a.1=b.1 then decide (a.2 < b.2)else decide (a.1.cps.toList < b.1.cps.toList)
theorem ww:STO (fun a b:List Nat=>decide (a < b)):=by
 have e:(fun a b:List Nat=>decide (a < b))=tF w_:=by funext a b;exact (oF a b).symm
 rw[e];exact xc w8
theorem HI:STO JE where
 irrefl:=fun a=>by simp[JE]
 trans:=fun a b c h1 h2=>by
  unfold JE at *
  by_cases p1:a.1=b.1
  ·rw[if_pos p1]at h1
   by_cases p2:b.1=c.1
   ·rw[if_pos p2]at h2;rw[if_pos (p1.trans p2)];simp only[decide_eq_true_eq]at *
    omega
   ·rw[if_neg p2]at h2;rw[p1,if_neg p2];exact h2
  ·rw[if_neg p1]at h1
   by_cases p2:b.1=c.1
   ·rw[<- p2,if_neg p1];exact h1
   ·rw[if_neg p2]at h2;have h3:=ww.trans _ _ _ h1 h2;rw[if_neg (fun e=>by rw[e,ww.irrefl]at h3;cases h3)]
    exact h3
 tot:=fun a b h1 h2=>by
  unfold JE at *
  by_cases p1:a.1=b.1
  ·rw[if_pos p1]at h1;rw[if_pos p1.symm]at h2;simp only[decide_eq_false_iff_not]at *
   exact Prod.ext p1 (by walk_at "o")
  ·rw[if_neg p1]at h1;rw[if_neg (Ne.symm p1)]at h2;have e:a.1.cps=b.1.cps:=Array.toList_inj.mp (ww.tot _ _ h1 h2);refine absurd ?_ p1;cases h:a.1;cases h':b.1;rw[h,h']at e;simp only at e;rw[e]
def Srt(l:List (Str×Int)):Prop:=l.Pairwise fun a b=>JE b a=false
theorem srt_uniq:∀ {L M:List (Str×Int)},L.Perm M->Srt L->Srt M->L=M
 | [],M,p,_,_=>(List.nil_perm.mp p).symm
 | a::L,[],p,_,_=>absurd p.length_eq (by simp)
 | a::L,b::M,p,h1,h2=>by
  unfold Srt at h1 h2;rw[List.pairwise_cons]at h1 h2;have e:a=b:=by
   rcases MP.mp (p.mem_iff.mp Mz)with e|m1
   ·exact e
   ·rcases MP.mp (p.mem_iff.mpr Mz)with e|m2
    ·exact e.symm
    ·exact HI.tot _ _ (h2.1 a m1) (h1.1 b m2)
  subst e;rw[srt_uniq ((List.perm_cons a).mp p) h1.2 h2.2]
structure InsAsk(K:Ow)(C:Mg):Prop where
 cl:Cls K C
 ca:Sj K (.ref C) "__class__"=some (some (.builtin "object.__class__"))
 gs:So K (.builtin "object.__class__") "__get__"=some (some (.builtin "getset_descriptor.__get__"))
 tk:Q6 K (.builtin "object.__class__")=some true
 mo:Qi K C (.type "object")=some true
def xC(cs:List (Mg×Bool))(c:Mg):BN:=fun ds G Q=>match ds with
 | [.ref a,.ref c']=>c'=c/\match G a with
  | some (.ins C _ _)=>∃ b,(C,b)∈cs/\Q (.bl b) G
  | _=>False
 | _=>False
theorem wV{X:Cx}{nm:Str}{C:Mg}{pos:Pos}(hg:Gl X nm)(hm:X.mg nm=some (.ref C))(hd:(nm == ("__debug__":Str))=false:=by decide):PE X (.Name nm pos) (ay X.K (eC (.ref C))):=Bp (v:=.ref C) hg hm rfl (fun _=>by simp only[RD]) hd
theorem BH{X:Cx}{cs:List (Mg×Bool)}{c:Mg}(tab:∀ p∈cs,InsAsk X.K p.1/\Nl X.K (.ref p.1) (.ref c)=some p.2):dU X (.builtin "isinstance") (mx X.K (xC cs c)):=by
 rintro pins s σ H vs us Q I rv ⟨ds,G,Q3,rds,rg,h,kk⟩
 unfold xC at h;split at h
 ·rename_i a c';obtain⟨rfl,h⟩:=h;split at h
  ·rename_i C L es hg;obtain⟨b,hb,hq⟩:=h;obtain⟨v,t,e,h1,h2⟩:=rds.inv_cons;obtain⟨u2,e2,h3⟩:=fQ h2;simp only[RD]at h1 h3;subst e e2 h1 h3;obtain⟨u,w',rfl,ru,rw'⟩:=C4 rv;cases ru;cases rw';obtain⟨ho,e1,ro⟩:=rg a _ hg;cases ho with
   | ins C2 dx gs=>
    obtain⟨rfl,r2,r3⟩:=ro;obtain⟨t1,t2⟩:=tab _ hb;exact lE (x:=V.ref a) I rfl (TyOf.ins e1 t1.cl t1.ca t1.gs t1.tk t1.mo) t2 fun tk=>⟨.bl _,H,I.tok tk,rfl,kk _ G _ H hq Kp.refl rg (.of eU)⟩
   | _=>exact ro.elim
  ·exact h.elim
 ·exact h.elim
end L3
namespace RQ
open PySem PySem.Spec PyProof.Rows L2 L3
structure Rw where
 pen:Str
 num:Int
 time:Int
 act:D
instance:Inhabited Rw:=⟨⟨"",0,0,.non⟩⟩
def Rw.d(r:Rw):D:=.tup [.tup [.str r.pen,.int r.num],.int r.time,r.act]
def Rw.key(r:Rw):D:=.tup [.int r.time,.tup [.str r.pen,.int r.num]]
def Rw.ok(r:Rw):Prop:=pl 4 r.act
def Rw.lt(a b:Rw):Bool:=if a.time=b.time then (if a.pen=b.pen then decide (a.num < b.num)else decide (a.pen.cps.toList < b.pen.cps.toList))else decide (a.time < b.time)
def gw(rs:List Rw):Prop:=rs.Pairwise fun a b=>a.lt b=true
def lq(a b:Rw):Prop:=¬ (a.pen=b.pen/\a.num=b.num)
def lJ(rs:List Rw):Prop:=∀ a∈rs,∀ b∈rs,a.pen=b.pen->a.num=b.num->a=b
abbrev HW:=List aA->Int
open PySem.W (SWO STO tF w_ w8 xc oF rankIn rank_lt)
theorem xw:STO (fun a b:List Nat=>decide (a < b)):=by
 have e:(fun a b:List Nat=>decide (a < b))=tF w_:=by funext a b;exact (oF a b).symm
 rw[e];exact xc w8
theorem Gu{x y:Str}(h:x.cps.toList=y.cps.toList):x=y:=by
 cases x;cases y;simp only at h;rw[Array.toList_inj.mp h]
theorem lt_irrefl(a:Rw):a.lt a=false:=by simp[Rw.lt]
theorem lt_trans(a b c:Rw)(h1:a.lt b=true)(h2:b.lt c=true):a.lt c=true:=by
 unfold Rw.lt at *
 by_cases e1:a.time=b.time
 ·rw[if_pos e1]at h1
  by_cases e2:b.time=c.time
  ·rw[if_pos e2]at h2;rw[if_pos (e1.trans e2)]
   by_cases p1:a.pen=b.pen
   ·rw[if_pos p1]at h1
    by_cases p2:b.pen=c.pen
    ·rw[if_pos p2]at h2;rw[if_pos (p1.trans p2)];simp only[decide_eq_true_eq]at *
     omega
    ·rw[if_neg p2]at h2;rw[p1,if_neg p2];exact h2
   ·rw[if_neg p1]at h1
    by_cases p2:b.pen=c.pen
    ·rw[<- p2,if_neg p1];exact h1
    ·rw[if_neg p2]at h2;have h3:=xw.trans _ _ _ h1 h2;rw[if_neg (fun e=>by rw[e,xw.irrefl]at h3;cases h3)]
     exact h3
  ·rw[if_neg e2]at h2;rw[e1,if_neg e2];exact h2
 ·rw[if_neg e1]at h1
  by_cases e2:b.time=c.time
  ·rw[<- e2,if_neg e1];exact h1
  ·rw[if_neg e2]at h2;simp only[decide_eq_true_eq]at *
   rw[if_neg (by walk_at "o")]
   simp only[decide_eq_true_eq];omega
theorem D9(a b:Rw)(h1:a.lt b=false)(h2:b.lt a=false):a.pen=b.pen/\a.num=b.num/\a.time=b.time:=by
 unfold Rw.lt at *
 by_cases e1:a.time=b.time
 ·rw[if_pos e1]at h1;rw[if_pos e1.symm]at h2
  by_cases p1:a.pen=b.pen
  ·rw[if_pos p1]at h1;rw[if_pos p1.symm]at h2;simp only[decide_eq_false_iff_not]at *
   exact⟨p1,by walk_at "o",e1⟩
  ·rw[if_neg p1]at h1;rw[if_neg (Ne.symm p1)]at h2;exact absurd (Gu (xw.tot _ _ h1 h2)) p1
 ·rw[if_neg e1]at h1;rw[if_neg (Ne.symm e1)]at h2;simp only[decide_eq_false_iff_not]at *
  omega
theorem D_{a b:Rw}(h:a.lt b=true):b.lt a=false:=by
 cases e:b.lt a with
 | false=>rfl
 | true=>have:=lt_trans _ _ _ h e;rw[lt_irrefl]at this;cases this
theorem F3{a b c:Rw}(p:a.pen=b.pen)(n:a.num=b.num)(t:a.time=b.time):a.lt c=b.lt c/\c.lt a=c.lt b:=by
 unfold Rw.lt;rw[p,n,t];exact⟨rfl,rfl⟩
theorem Dn:SWO Rw.lt where
 irrefl:=lt_irrefl
 trans:=lt_trans
 neg:=fun a b c h=>by
  cases e:a.lt b with
  | true=>exact .inl rfl
  | false=>
   cases e2:b.lt c with
   | true=>exact .inr rfl
   | false=>
    cases e3:b.lt a with
    | true=>have:=lt_trans _ _ _ e3 h;rw[e2]at this;cases this
    | false=>
     obtain⟨p,n,t⟩:=D9 a b e e3;rw[(F3 (c:=c) p n t).1,e2]at h;cases h
theorem iI:∀ {xs ys:List Rw},gw xs->gw ys->(∀ r,r∈xs↔r∈ys)->xs=ys
 | [],ys,_,_,h=>by
  cases ys with
  | nil=>rfl
  | cons y t=>have:=(h y).mpr Mz;simp at this
 | x::xs,[],_,_,h=>by have:=(h x).mp Mz;simp at this
 | x::xs,y::ys,h1,h2,h=>by
  unfold gw at h1 h2;rw[List.pairwise_cons]at h1 h2;have hxy:x=y:=by
   rcases MP.mp ((h x).mp Mz)with e|m1
   ·exact e
   ·rcases MP.mp ((h y).mpr Mz)with e|m2
    ·exact e.symm
    ·have a1:=h2.1 x m1;have a2:=h1.1 y m2;rw[D_ a1]at a2;cases a2
  subst hxy;have nx:x∉xs:=fun m=>by have:=h1.1 x m;rw[lt_irrefl]at this;cases this
  have ny:x∉ys:=fun m=>by have:=h2.1 x m;rw[lt_irrefl]at this;cases this
  rw[iI h1.2 h2.2 fun r=>⟨fun m=>?_,fun m=>?_⟩]
  ·rcases MP.mp ((h r).mp (My _ m))with e|m'
   ·subst e;exact absurd m nx
   ·exact m'
  ·rcases MP.mp ((h r).mpr (My _ m))with e|m'
   ·subst e;exact absurd m ny
   ·exact m'
theorem eY{xs:List Rw}(h:gw xs):xs.Nodup:=List.Pairwise.imp (fun {a b} q e=>by subst e;rw[lt_irrefl]at q;cases q) h
theorem rh{xs:List Rw}(h:xs.Pairwise lq):xs.Nodup:=List.Pairwise.imp (fun {a b} q e=>by subst e;exact q ⟨rfl,rfl⟩) h
open Classical in
theorem f9:∀ {xs ys:List Rw},xs.Nodup->(∀ r∈xs,r∈ys)->xs.length<=ys.length
 | [],_,_,_=>M0 _
 | x::xs,ys,h,s=>by
  rw[NY]at h;have hx:=s x Mz;have:=f9 (ys:=ys.erase x) h.2 fun r hr=>(List.mem_erase_of_ne (fun e=>by subst e;exact h.1 hr)).mpr (s r (My _ hr))
  rw[List.length_erase_of_mem hx]at this;have hp:0 < ys.length:=List.length_pos_of_mem hx;rw[MC];omega
theorem wj{rs:List Rw}(h:rs.Pairwise lq):lJ rs:=by
 induction h with
 | nil=>intro a ha;simp at ha
 | @cons x xs h1 h2 ih=>
  intro a ha b hb p n;rcases MP.mp ha with e|ha
  ·rcases MP.mp hb with e'|hb
   ·rw[e,e']
   ·rw[e]at p n;exact absurd ⟨p,n⟩ (h1 b hb)
  ·rcases MP.mp hb with e|hb
   ·rw[e]at p n;exact absurd ⟨p.symm,n.symm⟩ (h1 a ha)
   ·exact ih a ha b hb p n
theorem Ir(a b:Rw):lR 4 a.key b.key=a.lt b:=by
 show dE (lR 3) [.int a.time,.tup [.str a.pen,.int a.num]] [.int b.time,.tup [.str b.pen,.int b.num]]=_
 unfold Rw.lt
 by_cases e:a.time=b.time
 ·rw[if_pos e];have h1:cB (.int a.time) (.int b.time)=true:=by rw[e];exact aY _
  rw[show dE (lR 3) [.int a.time,.tup [.str a.pen,.int a.num]] [.int b.time,.tup [.str b.pen,.int b.num]]=dE (lR 3) [.tup [.str a.pen,.int a.num]] [.tup [.str b.pen,.int b.num]]by simp[dE,h1]]
  have inner:lR 3 (.tup [.str a.pen,.int a.num]) (.tup [.str b.pen,.int b.num])=if a.pen=b.pen then decide (a.num < b.num)else decide (a.pen.cps.toList < b.pen.cps.toList):=by
   show dE (lR 2) [.str a.pen,.int a.num] [.str b.pen,.int b.num]=_
   by_cases p:a.pen=b.pen
   ·have h2:cB (.str a.pen) (.str b.pen)=true:=by rw[p];exact aY _
    rw[if_pos p]
    by_cases n:a.num=b.num
    ·have h3:cB (.int a.num) (.int b.num)=true:=by rw[n];exact aY _
     simp[dE,h2,n,aY]
    ·have h3:cB (.int a.num) (.int b.num)=false:=bB (by simpa using n)
     simp[dE,h2,h3,lR]
   ·have h2:cB (.str a.pen) (.str b.pen)=false:=bB (by simpa using p)
    rw[if_neg p];simp[dE,h2,lR]
  by_cases t:(D.tup [.str a.pen,.int a.num])=.tup [.str b.pen,.int b.num]
  ·have h2:=Et t;simp only[D.tup.injEq,List.cons.injEq,D.str.injEq,D.int.injEq,and_true]at t;simp[dE,t.1,t.2,aY]
  ·rw[<- inner];simp[dE,bB t]
 ·rw[if_neg e];have h1:cB (.int a.time) (.int b.time)=false:=bB (by simpa using e)
  simp[dE,h1,lR]
theorem Iw(a b:Rw):EC 4 a.key b.key:=by
 refine⟨⟨trivial,trivial⟩,fun _=>trivial,⟨fun d hd=>?_,fun d hd=>?_⟩,fun _=>?_,trivial⟩
 ·simp only[MP,MN,or_false]at hd;rcases hd with rfl|rfl<;>trivial
 ·simp only[MP,MN,or_false]at hd;rcases hd with rfl|rfl<;>trivial
 ·exact⟨⟨trivial,trivial⟩,fun _=>trivial,⟨trivial,trivial⟩,fun _=>trivial,trivial⟩
def qR(r:Rw):List aA:=[.inr r.pen,.inl r.num]
def qa(r:Rw):List aA×D:=(qR r,r.d)
theorem vU{a b:Rw}:qR a=qR b↔a.pen=b.pen/\a.num=b.num:=by
 simp[qR]
theorem HF{vs:List Rw}{r:Rw}(h:r∈vs)(o:∀ a∈vs,a.pen=r.pen->a.num=r.num->a=r):aW (vs.map qa) (qR r) r.d=vs.map qa:=by
 unfold aW;rw[if_pos (by rw[PU];exact⟨qa r,Oj h,decide_eq_true rfl⟩),MU]
 refine ND fun a ha=>?_;simp only[Function.comp_apply];split
 ·rename_i e;obtain⟨p,n⟩:=vU.mp e;have:=o a ha p n;subst this;rfl
 ·rfl
theorem put_new{vs:List Rw}{r:Rw}(h:∀ a∈vs,lq a r):aW (vs.map qa) (qR r) r.d=(vs ++ [r]).map qa:=by
 unfold aW;rw[if_neg]
 ·rw[MY];rfl
 ·rw[Bool.not_eq_true,List.any_eq_false];intro kv hkv;obtain⟨a,ha,rfl⟩:=mem_map.mp hkv;simp only[decide_eq_true_eq];intro e;exact h a ha (vU.mp e)
theorem Dg{vs:List Rw}(hv:vs.Pairwise lq){p:List Nat}(hp:p.Perm (List.range vs.length))(hs:(p.map fun i=>rankIn Rw.lt vs (vs.getD i default)).Pairwise (·<=·)):
  gw (p.map fun i=>vs.getD i default)/\∀ r,r∈(p.map fun i=>vs.getD i default)↔r∈vs:=by
 have inr:∀ i∈p,i < vs.length:=fun i hi=>mem_range.mp (hp.mem_iff.mp hi);have gm:∀ i,i < vs.length->vs.getD i default∈vs:=fun i hi=>by rw[ME,Mp hi];exact Ou hi
 constructor
 ·unfold gw;rw[OC]at hs ⊢;have nd:p.Nodup:=hp.nodup_iff.mpr List.nodup_range;refine (hs.and nd).imp_of_mem fun {i j} hi hj h=>?_;have li:=inr i hi;have lj:=inr j hj;have nlt:(vs.getD j default).lt (vs.getD i default)=false:=by
   rw[rank_lt Dn (gm j lj),decide_eq_false_iff_not,Nat.not_lt];exact h.1
  cases e:(vs.getD i default).lt (vs.getD j default) with
  | true=>rfl
  | false=>
   obtain⟨pp,nn,_⟩:=D9 _ _ e nlt;have ap:lq (vs.getD i default) (vs.getD j default):=by
    rw[ME,ME,Mp li,Mp lj];rcases Nat.lt_or_gt_of_ne h.2 with l|l
    ·exact List.pairwise_iff_getElem.mp hv i j li lj l
    ·exact fun z=>List.pairwise_iff_getElem.mp hv j i lj li l ⟨z.1.symm,z.2.symm⟩
   exact absurd ⟨pp,nn⟩ ap
 ·intro r;have e:((List.range vs.length).map fun i=>vs.getD i default)=vs:=L3.range_getD vs default;have q:=hp.map fun i=>vs.getD i default;rw[e]at q;exact q.mem_iff
theorem d9{κ:Type}[DecidableEq κ](k k':κ)(v:D):∀ kvs:List (κ×D),bE (aW kvs k v) k'=if k'=k then some v else bE kvs k':=by
 have go:∀ kvs:List (κ×D),(kvs.any fun kv=>decide (kv.1=k))=true->bE (kvs.map fun kv=>if kv.1=k then (kv.1,v)else kv) k'=if k'=k then some v else bE kvs k':=by
  intro kvs
  induction kvs with
  | nil=>intro h;simp at h
  | cons p r ih=>
   intro h
   by_cases e:p.1=k
   ·by_cases e':k'=k
    ·rw[if_pos e'];simp[bE,MR,e,e']
    ·rw[if_neg e'];have n1:¬ k=k':=fun z=>e' z.symm;have skip:∀ q:List (κ×D),bE (((p.1,v):κ×D)::q) k'=bE q k':=fun q=>by simp[bE,MR,e,n1]
     have RW:bE (p::r) k'=bE r k':=by simp[bE,MR,e,n1]
     rw[MF,if_pos e,skip,RW]
     by_cases hr:(r.any fun kv=>decide (kv.1=k))=true
     ·have:=ih hr;rw[if_neg e']at this;exact this
     ·have:r.map (fun kv=>if kv.1=k then (kv.1,v)else kv)=r:=by
       rw[Bool.not_eq_true,List.any_eq_false]at hr
       conv=>rhs;rw[<- List.map_id r]
       refine ND fun a ha=>?_;have:=hr a ha;simp only[decide_eq_true_eq]at this;rw[if_neg this];rfl
      rw[this]
   ·have hr:(r.any fun kv=>decide (kv.1=k))=true:=by simpa[e]using h
    rw[MF,if_neg e]
    by_cases e2:p.1=k'
    ·have n1:¬ k'=k:=fun z=>e (e2.trans z);rw[if_neg n1];simp[bE,MR,e2]
    ·have s1:∀ q:List (κ×D),bE (p::q) k'=bE q k':=fun q=>by simp[bE,MR,e2]
     rw[s1,s1];exact ih hr
 intro kvs;unfold aW
 by_cases h:(kvs.any fun kv=>decide (kv.1=k))=true
 ·rw[if_pos h];exact go kvs h
 ·rw[if_neg h]
  by_cases e':k'=k
  ·rw[if_pos e'];subst e';have hn:bE kvs k'=none:=by
    have:=o9 k' kvs;rw[Bool.not_eq_true]at h;rw[h]at this;cases q:bE kvs k' with
    | none=>rfl
    | some _=>rw[q]at this;cases this
   unfold bE at hn ⊢;rw[List.find?_append];cases q:kvs.find? fun kv=>decide (kv.1=k') with
   | none=>simp
   | some z=>rw[q]at hn;cases hn
  ·rw[if_neg e'];unfold bE;rw[List.find?_append];cases q:kvs.find? fun kv=>decide (kv.1=k') with
   | none=>simp;exact fun z=>e' z.symm
   | some z=>rfl
structure Sl where
 pen:Str
 n:Int
 k:Int
deriving DecidableEq
instance:Inhabited Sl:=⟨⟨"",0,0⟩⟩
def Sl.d(s:Sl):D:=.tup [.str s.pen,.int s.n,.int s.k]
def Sl.key(s:Sl):List aA:=[.inr s.pen,.inl s.n,.inl s.k]
theorem Sl.key_inj{a b:Sl}(h:a.key=b.key):a=b:=by
 obtain⟨a1,a2,a3⟩:=a;obtain⟨b1,b2,b3⟩:=b;simp only[Sl.key,List.cons.injEq,Sum.inr.injEq,Sum.inl.injEq,and_true]at h;obtain⟨rfl,rfl,rfl⟩:=h;rfl
theorem Sl.d_inj{a b:Sl}(h:a.d=b.d):a=b:=by
 obtain⟨a1,a2,a3⟩:=a;obtain⟨b1,b2,b3⟩:=b;simp only[Sl.d,D.tup.injEq,List.cons.injEq,D.str.injEq,D.int.injEq,and_true]at h;obtain⟨rfl,rfl,rfl⟩:=h;rfl
theorem xi(s:Sl):m7 s.d=some s.key:=rfl
def az:Sl:=⟨Mh "",0,0⟩
inductive Act where
 | put (a:Sl) (x:Str)
 | strike (ns:List Sl)
 | dress (ns:List Sl) (w:Str)
 | move (ns:List Sl) (a:Sl)
def Act.d:Act->D
 | .put a x=>.tup [.str "put",a.d,.str x]
 | .strike ns=>.tup [.str "strike",.tup (ns.map Sl.d)]
 | .dress ns w=>.tup [.str "dress",.tup (ns.map Sl.d),.str w]
 | .move ns a=>.tup [.str "move",.tup (ns.map Sl.d),a.d]
def Act.many:Act->Nat
 | .put _ x=>x.length
 | .move ns _=>ns.length
 | _=>0
def Act.anch:Act->Sl
 | .put a _=>a
 | .move _ a=>a
 | _=>az
structure Sk where
 pen:Str
 num:Int
 time:Int
 act:Act
instance:Inhabited Sk:=⟨⟨"",0,0,.strike []⟩⟩
def Sk.rw(s:Sk):Rw:=⟨s.pen,s.num,s.time,s.act.d⟩
def Sk.d(s:Sk):D:=.tup [.tup [.str s.pen,.int s.num],.int s.time,s.act.d]
def Sk.ok(s:Sk):Prop:=1<=s.num/\s.act.many<=1000
def dQ(pen:Str)(n:Int)(m:Nat):List Sl:=(List.range m).map fun (k:Nat)=>⟨pen,n,(k:Int)+1⟩
def made(s:Sk):List Sl:=dQ s.pen s.num s.act.many
def fJ(m:Nat):List Sl:=dQ (Mh "") 0 m
theorem ck(p:Str)(n:Int)(m:Nat):(dQ p n m).length=m:=by simp[dQ]
theorem hZ(p:Str)(n:Int)(m:Nat):(dQ p n m).Nodup:=by
 unfold dQ List.Nodup;rw[OC];refine List.Pairwise.imp ?_ (List.nodup_range (n:=m));intro a b h e;injection e with e1 e2 e3
 exact h (by walk_at "o")
theorem fe{p:Str}{n:Int}{m:Nat}{x:Sl}(h:x∈dQ p n m):x.pen=p/\x.n=n/\1<=x.k:=by
 unfold dQ at h;obtain⟨k,_,rfl⟩:=mem_map.mp h;exact⟨rfl,rfl,by show 1<=(k:Int)+1;omega⟩
def CU:List Sl->D
 | []=>.non
 | s::_=>s.d
def nx:List Sl->Sl->D
 | [],_=>.non
 | a::t,c=>if a=c then CU t else nx t c
def j7:List Sl->Sl->Sl->List Sl
 | [],_,_=>[]
 | a::t,b,x=>if a=b then a::x::t else a::j7 t b x
def bR:List Sl->Sl->List Sl->List Sl
 | W,_,[]=>W
 | W,b,x::t=>bR (j7 W b x) x t
theorem fh{W:List Sl}{b x:Sl}(hb:b∈W):∀ c,c∈j7 W b x↔c∈W\/c=x:=by
 induction W with
 | nil=>simp at hb
 | cons a t ih=>
  intro c;unfold j7
  by_cases e:a=b
  ·rw[if_pos e];simp only[MP];constructor
   ·rintro (h|h|h)
    ·exact .inl (.inl h)
    ·exact .inr h
    ·exact .inl (.inr h)
   ·rintro ((h|h)|h)
    ·exact .inl h
    ·exact .inr (.inr h)
    ·exact .inr (.inl h)
  ·rw[if_neg e];have hb':b∈t:=by
    rcases MP.mp hb with z|z
    ·exact absurd z.symm e
    ·exact z
   simp only[MP,ih hb' c];constructor
   ·rintro (h|h|h)
    ·exact .inl (.inl h)
    ·exact .inl (.inr h)
    ·exact .inr h
   ·rintro ((h|h)|h)
    ·exact .inl h
    ·exact .inr (.inl h)
    ·exact .inr (.inr h)
theorem kW{W:List Sl}{b x:Sl}(hb:b∈W):(j7 W b x).length=W.length+1:=by
 induction W with
 | nil=>simp at hb
 | cons a t ih=>
  unfold j7
  by_cases e:a=b
  ·rw[if_pos e];simp
  ·rw[if_neg e];have hb':b∈t:=by
    rcases MP.mp hb with z|z
    ·exact absurd z.symm e
    ·exact z
   simp[ih hb']
theorem AO{W:List Sl}{b x:Sl}(hW:W.Nodup)(hx:x∉W)(hb:b∈W):(j7 W b x).Nodup:=by
 induction W with
 | nil=>simp at hb
 | cons a t ih=>
  unfold j7;rw[NY]at hW
  by_cases e:a=b
  ·rw[if_pos e,NY,NY];simp only[MP,not_or]at hx;refine⟨?_,hx.2,hW.2⟩;rw[MP,not_or];exact⟨Ne.symm hx.1,hW.1⟩
  ·rw[if_neg e];have hb':b∈t:=by
    rcases MP.mp hb with z|z
    ·exact absurd z.symm e
    ·exact z
   simp only[MP,not_or]at hx;rw[NY];refine⟨fun z=>?_,ih hW.2 hx.2 hb'⟩;rcases (fh hb' a).mp z with z|z
   ·exact hW.1 z
   ·exact hx.1 z.symm
theorem Ee{W:List Sl}{b x:Sl}:CU (j7 W b x)=CU W:=by
 cases W with
 | nil=>rfl
 | cons a t=>
  unfold j7;split<;>rfl
theorem Gb{W:List Sl}{b x:Sl}(hW:W.Nodup)(hx:x∉W)(hb:b∈W):∀ c,nx (j7 W b x) c=if c=x then nx W b else if c=b then x.d else nx W c:=by
 induction W with
 | nil=>simp at hb
 | cons a t ih=>
  intro c;rw[NY]at hW;simp only[MP,not_or]at hx;unfold j7
  by_cases e:a=b
  ·subst e;rw[if_pos rfl];simp only[nx]
   by_cases c1:c=x
   ·subst c1;rw[if_neg (Ne.symm hx.1),if_pos rfl,if_pos rfl];simp
   ·rw[if_neg c1]
    by_cases c2:c=a
    ·subst c2;simp[CU]
    ·rw[if_neg (Ne.symm c2),if_neg (fun z=>c1 z.symm),if_neg c2,if_neg (Ne.symm c2)]
  ·rw[if_neg e];have hb':b∈t:=by
    rcases MP.mp hb with z|z
    ·exact absurd z.symm e
    ·exact z
   simp only[nx];rw[Ee,ih hW.2 hx.2 hb' c]
   by_cases c0:a=c
   ·subst c0;rw[if_pos rfl,if_neg (fun z=>hx.1 z.symm),if_neg e,if_pos rfl]
   ·rw[if_neg c0,if_neg c0,if_neg e]
def CO(kvs:List (List aA×D))(W:List Sl):Prop:=W.Nodup/\kvs.length=W.length/\(∀ s,s∉W->bE kvs s.key=none)/\∀ s∈W,bE kvs s.key=some (nx W s)
theorem sX{κ:Type}[DecidableEq κ]{kvs:List (κ×D)}{k:κ}{v:D}:(aW kvs k v).length=if (bE kvs k).isSome=true then kvs.length else kvs.length+1:=by
 unfold aW;rw[o9];split<;>simp
theorem Ep{kvs:List (List aA×D)}{W:List Sl}{b x:Sl}(h:CO kvs W)(hb:b∈W)(hx:x∉W):CO (aW (aW kvs x.key (nx W b)) b.key x.d) (j7 W b x):=by
 obtain⟨h1,h2,h3,h4⟩:=h;have hne:b≠x:=fun z=>hx (z ▸ hb);have at2:∀ c:Sl,bE (aW (aW kvs x.key (nx W b)) b.key x.d) c.key=if c=b then some x.d else if c=x then some (nx W b)else bE kvs c.key:=fun c=>by
  rw[d9,d9]
  by_cases e1:c=b
  ·subst e1;rw[if_pos rfl,if_pos rfl]
  ·rw[if_neg (fun z=>e1 (Sl.key_inj z)),if_neg e1]
   by_cases e2:c=x
   ·subst e2;rw[if_pos rfl,if_pos rfl]
   ·rw[if_neg (fun z=>e2 (Sl.key_inj z)),if_neg e2]
 refine⟨AO h1 hx hb,?_,fun c hc=>?_,fun c hc=>?_⟩
 ·rw[sX,sX,h3 x hx,d9,if_neg (fun z=>hne (Sl.key_inj z)),h4 b hb,kW hb,h2];simp
 ·have hc':c∉W/\c≠x:=⟨fun z=>hc ((fh hb c).mpr (.inl z)),fun z=>hc ((fh hb c).mpr (.inr z))⟩;rw[at2,if_neg (fun (z:c=b)=>hc'.1 (by rw[z];exact hb)),if_neg hc'.2]
  exact h3 c hc'.1
 ·rw[at2,Gb h1 hx hb]
  by_cases e1:c=b
  ·subst e1;rw[if_pos rfl,if_neg hne,if_pos rfl]
  ·rw[if_neg e1]
   by_cases e2:c=x
   ·rw[if_pos e2,if_pos e2]
   ·rw[if_neg e2,if_neg e2,if_neg e1];rcases (fh hb c).mp hc with z|z
    ·exact h4 c z
    ·exact absurd z e2
theorem Cz(v:List Sl->Prop):CO [(az.key,.non)] [az]:=by
 refine⟨by simp,rfl,fun s hs=>?_,fun s hs=>?_⟩
 ·have:s≠az:=by simpa using hs
  simp only[bE,MR,List.find?_nil];rw[decide_eq_false (fun z=>this (Sl.key_inj z).symm)];rfl
 ·have:s=az:=by simpa using hs
  subst this;simp[bE,nx,CU]
def eZ(W:List Sl)(s:Sk):List Sl:=if s.act.anch∈W then bR W s.act.anch (made s)else W
def mO(n:Nat)(out:List Sk):List Sl:=out.foldl eZ (bR [az] az (fJ n))
theorem tU:∀ {ss W:List Sl} {b:Sl},b∈W->∀ c,c∈bR W b ss↔c∈W\/c∈ss
 | [],W,b,hb,c=>by simp[bR]
 | x::t,W,b,hb,c=>by
  unfold bR;rw[tU (ss:=t) ((fh hb x).mpr (.inr rfl)) c,fh hb c,MP];constructor
  ·rintro ((h|h)|h)
   ·exact .inl h
   ·exact .inr (.inl h)
   ·exact .inr (.inr h)
  ·rintro (h|h|h)
   ·exact .inl (.inl h)
   ·exact .inl (.inr h)
   ·exact .inr h
theorem my:∀ {ss W:List Sl} {b:Sl},b∈W->(bR W b ss).length=W.length+ss.length
 | [],W,b,hb=>by simp[bR]
 | x::t,W,b,hb=>by
  unfold bR;rw[my (ss:=t) ((fh hb x).mpr (.inr rfl)),kW hb,MC];omega
theorem AN{pre post:List Sl}{b x:Sl}(h:b∉pre):j7 (pre ++ b::post) b x=pre ++ b::x::post:=by
 induction pre with
 | nil=>simp[j7]
 | cons a t ih=>
  simp only[MP,not_or]at h;simp only[Oi,j7];rw[if_neg (Ne.symm h.1),ih h.2]
theorem oV:∀ {ss pre post:List Sl} {b:Sl},b∉pre->ss.Nodup->(∀ x∈ss,x∉pre/\x≠b)->bR (pre ++ b::post) b ss=pre ++ b::(ss ++ post)
 | [],pre,post,b,_,_,_=>by simp[bR]
 | x::t,pre,post,b,h,nd,hs=>by
  unfold bR;rw[AN h];rw[NY]at nd;have hx:=hs x Mz;have e:pre ++ b::x::post=(pre ++ [b]) ++ x::post:=by simp
  rw[e,oV (ss:=t) (pre:=pre ++ [b]) (post:=post) (b:=x) (by simp[hx.1,hx.2]) nd.2 (fun y hy=>?_)]
  ·simp
  ·have hy':=hs y (My _ hy);refine⟨by simp[hy'.1,hy'.2],fun z=>nd.1 (z ▸ hy)⟩
def A9(done:List Sk)(W:List Sl):Prop:=∀ x∈W,x.n=0\/∃ s∈done,x.pen=s.pen/\x.n=s.num
theorem Eo{done:List Sk}{W:List Sl}{s:Sk}(h:A9 done W)(hs:1<=s.num)(ap:∀ r∈done,¬ (r.pen=s.pen/\r.num=s.num)):∀ x∈made s,x∉W:=fun x hx hW=>by
 obtain⟨p1,p2,_⟩:=fe hx;rcases h x hW with z|⟨r,hr,z1,z2⟩
 ·omega
 ·exact ap r hr ⟨z1.symm.trans p1,z2.symm.trans p2⟩
theorem Cy{done:List Sk}{W:List Sl}{s:Sk}(h:A9 done W):A9 (done ++ [s]) (eZ W s):=fun x hx=>by
 unfold eZ at hx;have up:x∈W->x.n=0\/∃ r∈done ++ [s],x.pen=r.pen/\x.n=r.num:=fun z=>by
  rcases h x z with q|⟨r,hr,q⟩
  ·exact .inl q
  ·exact .inr ⟨r,List.mem_append_left _ hr,q⟩
 split at hx
 ·rename_i ha;rcases (tU ha x).mp hx with z|z
  ·exact up z
  ·obtain⟨p1,p2,_⟩:=fe z;exact .inr ⟨s,by simp,p1,p2⟩
 ·exact up hx
theorem c_(n:Nat):bR [az] az (fJ n)=az::fJ n:=by
 have:=oV (ss:=fJ n) (pre:=[]) (post:=[]) (b:=az) (by simp) (hZ _ _ _) (fun x hx=>⟨by simp,fun z=>by
  obtain⟨_,_,h⟩:=fe hx;rw[z]at h;exact absurd h (by decide)⟩)
 simpa using this
theorem AS(n:Nat):A9 [] (bR [az] az (fJ n)):=fun x hx=>by
 rw[c_]at hx;rcases MP.mp hx with z|z
 ·subst z;exact .inl rfl
 ·exact .inl (fe z).2.1
theorem zp(n:Nat):∀ (out done:List Sk) (W:List Sl),A9 done W->A9 (done ++ out) (out.foldl eZ W)
 | [],done,W,h=>by simpa using h
 | s::t,done,W,h=>by
  have:=zp n t (done ++ [s]) (eZ W s) (Cy h)
  simpa using this
theorem BW{W:List Sl}{s:Sk}{R:List Sl}(h:W=az::R):∃ R',eZ W s=az::R':=by
 unfold eZ;split
 ·rename_i ha;clear ha;generalize made s=ss;generalize s.act.anch=b
  induction ss generalizing W b R with
  | nil=>exact⟨R,h⟩
  | cons x t ih=>
   unfold bR;subst h;unfold j7;split
   ·exact ih rfl _
   ·exact ih rfl _
 ·exact⟨R,h⟩
theorem x8(n:Nat):∀ (out:List Sk) (W R:List Sl),W=az::R->∃ R',out.foldl eZ W=az::R'
 | [],W,R,h=>⟨R,h⟩
 | s::t,W,R,h=>by
  obtain⟨R',h'⟩:=BW (s:=s) h;exact x8 n t _ R' h'
def ip(n:Nat)(out:List Sk):List Sl:=(mO n out).tail
theorem rX(n:Nat)(out:List Sk):mO n out=az::ip n out:=by
 obtain⟨R,h⟩:=x8 n out _ (fJ n) (c_ n);unfold ip;have:mO n out=az::R:=h;rw[this];rfl
theorem vO(n:Nat)(out:List Sk)(s:Sk):mO n (out ++ [s])=eZ (mO n out) s:=by simp[mO]
theorem wY(W:List Sl):val (CU W)=CU W:=by cases W<;>rfl
theorem Ii(W:List Sl)(c:Sl):val (nx W c)=nx W c:=by
 induction W with
 | nil=>rfl
 | cons a t ih=>
  unfold nx;split
  ·exact wY t
  ·exact ih
end RQ
open RQ
namespace L3
open PySem PySem.Spec PyProof.Rows L2 PySem.SeqAt PySem.W
end L3
namespace L3
open PySem PySem.Spec PyProof.Rows L2 PySem.SeqAt PySem.W
def uo(h:MD)(d:Mg)(vs:List Mf)(ep:Nat):Prop:=∃ o es,h.get? d=some o/\o.ExactDict/\o.data=.dict es ep/\es.toList.map (·.key)=vs
section
variable{prog:Mw}{w:MG}{A:MB}{E:Mf->Mi->Prop}{s:Mi}{d r it:Mg}{vs:List Mf}{ep i:Nat}
theorem uo.ty(x:uo s.heap d vs ep):s.TypeIs (.ref d) "dict":=let ⟨o,_,e,z,_⟩:=x;⟨o,e,z.1⟩
theorem uo.there{h:MD}(x:uo h d vs ep):d < h.objs.size:=let ⟨_,_,e,_⟩:=x;Mu e
theorem uo.stay{h h':MD}(x:uo h d vs ep)(k:∀ o,h.get? d=some o->h'.get? d=some o):uo h' d vs ep:=let ⟨o,es,e,z⟩:=x;⟨o,es,k o e,z⟩
theorem Dy{v:Mf}{Q:Option Mf->Mi->Prop}(hi:s.heap.IsKeyIter it d i vs.length ep)(x:uo s.heap d vs ep)(hv:vs[i]?=some v)
  (q:∀ h',h'.IsKeyIter it d (i+1) vs.length ep->NN it s.heap h'->Q (some v) { s with heap:=h' }):Mo (Ms prog w) A (NK (.ref it)) Q E s:=by
 obtain⟨o,e1,c1,d1⟩:=id hi;obtain⟨od,es,e2,c2,d2,rfl⟩:=x;unfold NK;refine Me (N8 (Nf (name:=Mh "__next__") hi.typeIs NR (Nd NR hi.typeIs PX ?_ (PL _))));refine Me (Mj ?_);refine Me ?_;refine Me ?_
 first|refine Me (NG hi.typeIs (Mj ?_))|refine Me (N7 hi.typeIs (Mj ?_))
 refine Me (Pa e1 d1 ?_);have own:Np "dict_keyiterator"=false:=by decide
 simp only[own,Bool.false_eq_true,if_false];show Mo _ _ (if (Value.ref d == Value.none)=true then _ else _) _ _ s;rw[if_neg (show ¬ ((Value.ref d == Value.none)=true)from Bool.false_ne_true)]
 refine Me (Mj ?_);refine Me (NT e2 d2 ?_);have z:es.size=(es.toList.map (·.key)).length:=by simp
 rw[if_neg (by rw[z];simp)];refine Me (Mj ?_);refine Me (Ob e2 d2 ?_)
 rw[if_neg (by simp)];refine Mj ?_
 have lt:i < es.size:=by
  rw[z];rcases N9 i (es.toList.map (·.key)).length with h|h
  ·exact h
  ·rw[N4 h]at hv;cases hv
 have val:es[i].key=v:=by
  rw[MA]at hv
  simpa[lt]using hv
 simp only[show ¬ ((i:Int) < 0)from by walk_at "o",if_false,Int.toNat_natCast,Array.getElem?_eq_getElem lt];refine Me ?_
 first|refine Me (NG hi.typeIs (Mj ?_))|refine Me (N7 hi.typeIs (Mj ?_))
 refine Me (QD hi.typeIs ?_);show Mo _ _ (QH (.ref it) 1 (M9 ((i:Int)+1)) >>= _) _ _ s;refine Me (O_ e1 d1 (by simp) ?_)
 have hi':(s.heap.update it (OR (·.setIfInBounds 1 (M9 ((i:Int)+1))))).IsKeyIter it d (i+1) (es.toList.map (·.key)).length ep:=
  ⟨_,O8 _ e1 (QF (OI d1 _)),(Ra ..).trans c1,by rw[OI d1];simp[M9]⟩
 refine Me (M8 ?_);refine Me (QD (s:={ s with heap:=s.heap.update it (OR (·.setIfInBounds 1 (M9 ((i:Int)+1)))) }) hi'.typeIs ?_)
 show Mo _ _ (pure es[i].key) _ _ _
 exact Mj (Mj ⟨_,rfl,Mj (val ▸ q _ hi' (OA ..))⟩)
theorem Fq{Q:Option Mf->Mi->Prop}(hh:A.handled=none)(hi:s.heap.IsKeyIter it d i vs.length ep)(x:uo s.heap d vs ep)(hv:vs[i]?=none)
  (q:∀ h',Heap.ExtBut it s.heap h'->Q none { s with heap:=h' }):Mo (Ms prog w) A (NK (.ref it)) Q E s:=by
 obtain⟨o,e1,c1,d1⟩:=id hi;obtain⟨od,es,e2,c2,d2,rfl⟩:=x;unfold NK;refine Me (N8 (Nf (name:=Mh "__next__") hi.typeIs NR (Nd NR hi.typeIs PX ?_ (PL _))));refine Me (Mj ?_);refine Me ?_;refine Me ?_
 first|refine Me (NG hi.typeIs (Mj ?_))|refine Me (N7 hi.typeIs (Mj ?_))
 refine Me (Pa e1 d1 ?_);have own:Np "dict_keyiterator"=false:=by decide
 simp only[own,Bool.false_eq_true,if_false];show Mo _ _ (if (Value.ref d == Value.none)=true then _ else _) _ _ s;rw[if_neg (show ¬ ((Value.ref d == Value.none)=true)from Bool.false_ne_true)]
 refine Me (Mj ?_);refine Me (NT e2 d2 ?_);have z:es.size=(es.toList.map (·.key)).length:=by simp
 rw[if_neg (by rw[z];simp)];refine Me (Mj ?_);refine Me (Ob e2 d2 ?_)
 rw[if_neg (by simp)];refine Mj ?_
 have ge:es.size<=i:=by rw[z];simpa using hv
 simp only[show ¬ ((i:Int) < 0)from by walk_at "o",if_false,Int.toNat_natCast,Array.getElem?_eq_none ge];refine Me ?_
 first|refine Me (NG hi.typeIs (Mj ?_))|refine Me (N7 hi.typeIs (Mj ?_))
 show Mo _ _ (QH (.ref it) 0 .none >>= _) _ _ s;refine Me (O_ e1 d1 (by simp) ?_)
 show Mo _ _ (newExc (.type "StopIteration") [] >>= _) _ _ _;refine Me ?_
 simp only[newExc,newTuple];refine Me (MW ?_ (by size_fits))
 refine Me (m:=Pf _ _) (wpAny_of_eq (a:=Value.none) (by first|rfl|(simp only[Pf];rfl)) ?_);refine MW ?_ (by size_fits)
 simp only[raiseNew];refine Me (wpAny_handled ?_);rw[show A.in1.handled=none from hh]
 refine Me (Mj (wpAny_throw ?_));refine Me (PJ (T:="StopIteration") (b:=true) ⟨_,Mn _ rfl,rfl⟩ P8 ?_);exact Mj (q _ (((OA ..).extBut.push _).push _))
end
open HT
section
variable{X:Cx}{prog:Mw}{w:MG}{A:MB}{E:Mf->Mi->Prop}{s:Mi}
def LW:KA:=fun x lo hi G Q=>match x with
 | .tup ds=>Q (.tup (cutD ds lo hi)) G
 | _=>False
end
end L3
namespace L2
open PySem PySem.Spec PyProof.Rows
end L2
namespace L3
open PySem PySem.Spec PyProof.Rows L2
theorem RDs.bls_inv{K:Ow}{H:Hp}:∀ (ns:List Bool) {xs:List V},RDs K H (ns.map D.bl) xs->xs=ns.map V.bl
 | [],xs,h=>h.inv_nil
 | n::r,xs,h=>by
  obtain⟨x,t,e,h1,h2⟩:=RDs.inv_cons (d:=.bl n) (ds:=r.map D.bl) h;simp only[RD]at h1;subst e h1;rw[RDs.bls_inv r h2];rfl
theorem zJ:∀ {ns:List Bool} {us:List Mf},Vals (ns.map V.bl) us->us=ns.map Value.bool
 | [],us,w=>by cases w;rfl
 | n::r,us,w=>by
  rw[MF]at w;cases w with
  | cons h w=>
   cases h;rw[zJ w];rfl
def BI:BN:=fun ds G Q=>match ds with
 | [d]=>∃ bs:List Bool,rT G d=some (bs.map D.bl)/\Q (.bl (bs.all id)) G
 | _=>False
theorem wm:∀ (bs:List Bool),(List.range bs.length).all (fun i=>bs.getD i false)=bs.all id
 | []=>rfl
 | b::r=>by
  rw[MC,List.range_succ_eq_map,List.all_cons,List.all_cons,List.all_map];have:=wm r;rw[<- this];rfl
theorem IW{X:Cx}(hc:X.calm=true):dU X (.builtin "all") (mx X.K BI):=by
 rintro pins s σ H vs us Q I rv ⟨ds,G,Q3,rds,rg,h,kk⟩
 unfold BI at h;split at h
 ·rename_i d;obtain⟨v,rfl,rd⟩:=fQ rds;obtain⟨bs,he,h⟩:=h;obtain⟨a,xs,rfl,sq,r⟩:=jz (G:=G) (H:=H) he (.of rd) rg;obtain⟨u,rfl,ru⟩:=xN rv;cases ru;rw[RDs.bls_inv bs r]at sq;obtain⟨its,w,pl,hz⟩:=I.list sq;have ei:its=bs.map Value.bool:=zJ w;have ll:a < s.heap.objs.size:=let ⟨o,e,_⟩:=pl.isList;Mu e;refine call_all_walk (OL pl.isList ?_);refine⟨s.heap.objs.size,_,_,_,_,_,fun i=>bs.getD i false,rfl,Walks.list (A:=X.A.in1) (I.ok.hd hc) _ a (MO ll) its.toArray,⟨⟨_,Mn _ rfl,rfl,rfl⟩,pl.isList.push _⟩,fun i v s Q E hP hQ=>?_,fun h' tk hk=>?_⟩
  ·have e:v=.bool (bs.getD i false):=by
    have hP':its[i]?=some v:=by simpa using hP
    rw[ei,MA]at hP';cases hb:bs[i]? with
    | none=>rw[hb]at hP';cases hP'
    | some b=>
     rw[hb]at hP';cases hP';rw[ME,hb];rfl
   rw[e];exact Nz hQ
  ·have el:its.toArray.size=bs.length:=by rw[Mt,ei,Ml]
   rw[el,wm];refine⟨.bl _,H,I.kept fun b o e=>hk b o (fun z=>?_) (Mm _ e),rfl,kk _ G _ H h Kp.refl rg (.of eU)⟩;rw[Qg.mp z]at e;exact absurd (Mu e) (Nat.lt_irrefl _)
 ·exact h.elim
end L3
namespace L2
open PySem PySem.Spec PyProof.Rows
abbrev gd(h:MD)(z TI TO:Mg)(f0 f1:Mf):Prop:=
 h.get? z=some { cls:=.type "zip",dict:=none,data:=.fields #[f0,f1,.bool false,.ref TI,.ref TO],slots:=#[] }
def A8(f0:Mf):Prop:=f0=.none\/∃ T:Mg,f0=M9 T
structure ZApart(z TI TO i1 i2:Mg)(fp1 fp2:List Mg):Prop where
 a1:TI≠z
 a2:TO≠z
 a3:i1≠z
 a4:i2≠z
 a5:TI≠TO
 a6:TI≠i1
 a7:TI≠i2
 a8:TO≠i1
 a9:TO≠i2
 a10:i1≠i2
 f1:∀ b∈fp1,b≠z/\b≠TO/\b≠i2
 f2:∀ b∈fp2,b≠z/\b≠TO/\b≠i1
section
variable{prog:Mw}{w:MG}{A:MB}{E:Mf->Mi->Prop}{s:Mi}
theorem CY{α:Type}{M:Model}{a:Mg}{k:Option Obj->Sem α}{Q:α->Mi->Prop}(h:Mo M A (k (s.heap.get? a)) Q E s):Mo M A (QK a >>= k) Q E s:=fun Γ p hΓ=>by
 have e:(QK a >>= k)=Sem.loadIfAlive a k:=rfl;rw[e,Sem.wp_loadIfAlive];exact h Γ p hΓ
theorem xL{z TI TO:Mg}{f0 f1:Mf}{Q:Bool->Mi->Prop}(hz:gd s.heap z TI TO f0 f1)(hf:A8 f0)(q1:Q true s)
  (q2:∀ h' f1',gd h' z TI TO f0 f1'->NN z s.heap h'->Q false { s with heap:=h' }):Mo (Ms prog w) A (Nv (.ref z)) Q E s:=by
 unfold Nv;refine Me (Nr hz rfl (x:=f0) rfl ?_);rcases hf with rfl|⟨T,rfl⟩
 ·exact Mj q1
 ·show Mo _ _ (QK _ >>= _) _ _ _;refine CY ?_;cases hT:s.heap.get? (Int.toNat (T:Int)) with
  | none=>exact Mj q1
  | some o=>
   show Mo _ _ (field (.ref z) 1 >>= _) _ _ _
   refine Me (Nr hz rfl (x:=f1) rfl ?_)
   by_cases e:(f1 != Value.bool true)=true
   ·rw[if_pos e];exact Me (Nj hz (by simp) fun h1 hz1 hs1=>Mj (q2 h1 _ hz1 hs1))
   ·rw[if_neg e];exact Me (Mj (Mj (q2 s.heap f1 hz (Re ..))))
theorem xM{z TI TO i1 i2:Mg}{f0 f1 a b:Mf}{i:Nat}{fp1 fp2:List Mg}{n1 n2:Nat}{P1 P2:Nat->Mf->Prop}{St1 St2:Nat->MD->Prop}{Q:Option Mf->Mi->Prop}
  (D1:Rg prog w A.in1 i1 fp1 n1 P1 St1) (D2:Rg prog w A.in1 i2 fp2 n2 P2 St2) (D:ZApart z TI TO i1 i2 fp1 fp2) (hz:gd s.heap z TI TO f0 f1) (hf:A8 f0) (hTI:Of s.heap TI (.ref i1) (.ref i2)) (hTO:Of s.heap TO a b)
  (h1:St1 i s.heap) (h2:St2 i s.heap) (l1:i < n1) (l2:i < n2)
  (hQ:∀ h' tk x y f0' f1' a' b',P1 i x->P2 i y->A8 f0'->gd h' z TI TO f0' f1'->Of h' TO a' b'->St1 (i+1) h'->St2 (i+1) h'->Of h' s.heap.objs.size x y->h'.objs.size=s.heap.objs.size+1->
   (∀ c o,c≠z->c≠TO->c≠i1->c≠i2->s.heap.get? c=some o->h'.get? c=some o)->Q (some (.ref s.heap.objs.size)) { s with heap:=h',toks:=tk }):
  Mo (Ms prog w) A (NK (.ref z)) Q E s:=by
 have hT:s.TypeIs (.ref z) "zip":=⟨_,hz,rfl⟩;unfold NK;refine Me (N8 (Nf (name:=Mh "__next__") hT O3 (Nd O3 hT F.entry_zip_next ?_ (Rf _))));show Mo _ _ (field (.ref z) 2 >>= _) _ _ _;refine Me (Nr hz rfl (x:=.bool false) rfl ?_)
 show Mo _ _ (field (.ref z) 3 >>= _) _ _ _;refine Me (Nr hz rfl (x:=.ref TI) rfl ?_)
 refine Me (NW hTI rfl ?_);show Mo _ _ (Nv (.ref z) >>= _) _ _ _;refine Me (xL hz hf ?_ fun h0 f1' hz0 hs0=>?_)
 ·simp only[if_true];refine Me (Pq ?_);refine Me (Nr hz rfl (x:=.ref TO) rfl ?_);refine Me (Nj hz (by simp) fun g1 z1 s1=>?_)
  replace z1:gd g1 z TI TO .ellipsis f1:=z1
  refine Me ?_;simp only[List.zipIdx_cons,List.zipIdx_nil,Oe,OS];refine Me (Me (Pn ?_));show Mo _ _ (MX (.ref i1) >>= _) _ _ _;refine Me (D1.item i { s with heap:=g1 } _ _ l1 (D1.frame i _ _ h1 fun b hb o e=>s1.extBut _ _ (D.f1 b hb).1 e) fun x g2 t2 p1 st1 s2=>Mj ?_)
  have o2:Of g2 TO a b:=s2.extBut _ _ D.a8 (s1.extBut _ _ D.a2 hTO);refine Me (NW o2 rfl ?_);refine Me (O9 o2 fun g3 o3 s3=>?_)
  replace o3:Of g3 TO x b:=o3
  refine Me (PN (Mj ?_));refine Me (Me (Pn ?_));show Mo _ _ (MX (.ref i2) >>= _) _ _ _;refine Me (D2.item i { s with heap:=g3,toks:=t2 } _ _ l2 (D2.frame i _ _ h2 fun b hb o e=>s3.extBut _ _ (D.f2 b hb).2.1 (s2.extBut _ _ (D.f2 b hb).2.2 (s1.extBut _ _ (D.f2 b hb).1 e))) fun y g4 t4 p2 st2 s4=>Mj ?_)
  have o4:Of g4 TO x b:=s4.extBut _ _ D.a9 o3;refine Me (NW o4 rfl ?_);refine Me (O9 o4 fun g5 o5 s5=>?_)
  replace o5:Of g5 TO x y:=o5
  refine Me (PN (Mj (Mj ?_)));refine Me (NW o5 rfl ?_);refine Me (P5 ?_);have sz:g5.objs.size=s.heap.objs.size:=by rw[s5.1,s4.1,s3.1,s2.1,s1.1]
  have z5:gd g5 z TI TO .ellipsis f1:=s5.extBut _ _ D.a2.symm (s4.extBut _ _ D.a4.symm (s3.extBut _ _ D.a2.symm (s2.extBut _ _ D.a3.symm z1)));have k5:∀ c o,c≠z->c≠TO->c≠i1->c≠i2->s.heap.get? c=some o->g5.get? c=some o:=fun c o c1 c2 c3 c4 e=>s5.extBut _ _ c2 (s4.extBut _ _ c4 (s3.extBut _ _ c2 (s2.extBut _ _ c3 (s1.extBut _ _ c1 e))));have lz:z < g5.objs.size:=Mu z5;show Mo _ _ (Pl (.ref z) (.ref g5.objs.size) >>= _) _ _ _;refine Me ?_;unfold Pl
  have z6:gd (g5.push { cls:=.type "tuple",data:=.seq #[x,y] }) z TI TO .ellipsis f1:=Mm _ z5;refine Me (Nj z6 (by simp) fun g7 z7 s7=>?_)
  replace z7:gd g7 z TI TO (M9 g5.objs.size) f1:=z7
  refine Nj z7 (by simp) fun g8 z8 s8=>?_
  replace z8:gd g8 z TI TO (M9 g5.objs.size) (.bool false):=z8
  have up:∀ c o,c≠z->g5.get? c=some o->g8.get? c=some o:=fun c o c1 e=>s8.extBut _ _ c1 (s7.extBut _ _ c1 (Mm _ e));have t8:Of g8 g5.objs.size x y:=s8.extBut _ _ (Pc lz) (s7.extBut _ _ (Pc lz) (Mn _ rfl));have sz8:g8.objs.size=g5.objs.size+1:=by rw[s8.1,s7.1,Ny]
  have r1:St1 (i+1) g8:=D1.frame _ _ _ st1 fun b hb o e=>up b o (D.f1 b hb).1 (s5.extBut _ _ (D.f1 b hb).2.1 (s4.extBut _ _ (D.f1 b hb).2.2 (s3.extBut _ _ (D.f1 b hb).2.1 e)));have r2:St2 (i+1) g8:=D2.frame _ _ _ st2 fun b hb o e=>up b o (D.f2 b hb).1 (s5.extBut _ _ (D.f2 b hb).2.1 e);rw[sz]at z8 t8 sz8;refine Mj ⟨.ref g5.objs.size,rfl,Mj ?_⟩;rw[sz];exact hQ g8 t4 x y _ _ x y p1 p2 (.inr ⟨_,rfl⟩) z8 (up _ _ D.a2 o5) r1 r2 t8 sz8 fun c o c1 c2 c3 c4 e=>up c o c1 (k5 c o c1 c2 c3 c4 e)
 ·simp only[Bool.false_eq_true,if_false];rw[<- Array.forIn_toList];simp only[Oe,OS];refine Me (Me (Me (M8 ?_)));show Mo _ _ (MX (.ref i1) >>= _) _ _ _
  refine Me (D1.item i { s with heap:=h0 } _ _ l1 (D1.frame i _ _ h1 fun b hb o e=>hs0.extBut _ _ (D.f1 b hb).1 e) fun x g2 t2 p1 st1 s2=>Mj (Mj ?_))
  refine Me (Me (M8 ?_));show Mo _ _ (MX (.ref i2) >>= _) _ _ _
  refine Me (D2.item i { s with heap:=g2,toks:=t2 } _ _ l2 (D2.frame i _ _ h2 fun b hb o e=>s2.extBut _ _ (D.f2 b hb).2.2 (hs0.extBut _ _ (D.f2 b hb).1 e)) fun y g4 t4 p2 st2 s4=>Mj (Mj (Mj ?_)))
  refine Me (P5 ?_ (by show 2<=Mq;decide))
  have sz:g4.objs.size=s.heap.objs.size:=by rw[s4.1,s2.1,hs0.1]
  have k4:∀ c o,c≠z->c≠TO->c≠i1->c≠i2->s.heap.get? c=some o->g4.get? c=some o:=fun c o c1 _ c3 c4 e=>s4.extBut _ _ c4 (s2.extBut _ _ c3 (hs0.extBut _ _ c1 e));have z4:gd g4 z TI TO f0 f1':=s4.extBut _ _ D.a4.symm (s2.extBut _ _ D.a3.symm hz0);have o4:Of g4 TO a b:=s4.extBut _ _ D.a9 (s2.extBut _ _ D.a8 (hs0.extBut _ _ D.a2 hTO));refine Mj ⟨.ref g4.objs.size,rfl,Mj ?_⟩;have up:∀ c o,g4.get? c=some o->(g4.push { cls:=.type "tuple",data:=.seq #[x,y] }).get? c=some o:=fun c o e=>Mm _ e;have t8:Of (g4.push { cls:=.type "tuple",data:=.seq #[x,y] }) g4.objs.size x y:=Mn _ rfl;have sz8:(g4.push { cls:=.type "tuple",data:=.seq #[x,y] }).objs.size=g4.objs.size+1:=Ny ..;rw[sz]at t8 sz8 ⊢;exact hQ _ t4 x y _ _ a b p1 p2 hf (up _ _ z4) (up _ _ o4) (D1.frame _ _ _ st1 fun b hb o e=>up _ _ (s4.extBut _ _ (D.f1 b hb).2.2 e)) (D2.frame _ _ _ st2 fun b _ o e=>up b o e) t8 sz8 fun c o c1 c2 c3 c4 e=>up _ _ (k4 c o c1 c2 c3 c4 e)
theorem zX{z TI TO i1 i2:Mg}{f0 f1 a b:Mf}{i:Nat}{fp1 fp2:List Mg}{n1 n2:Nat}{P1 P2:Nat->Mf->Prop}{St1 St2:Nat->MD->Prop}{Q:Option Mf->Mi->Prop}
  (D1:Rg prog w A.in1 i1 fp1 n1 P1 St1) (D2:Rg prog w A.in1 i2 fp2 n2 P2 St2) (D:ZApart z TI TO i1 i2 fp1 fp2) (hz:gd s.heap z TI TO f0 f1) (hf:A8 f0) (hTI:Of s.heap TI (.ref i1) (.ref i2)) (hTO:Of s.heap TO a b)
  (h1:St1 i s.heap) (h2:St2 i s.heap) (le:i=n1\/(i < n1/\i=n2))
  (hQ:∀ h' tk,(∀ c o,c≠z->c≠TO->c≠i1->c≠i2->s.heap.get? c=some o->h'.get? c=some o)->Q none { s with heap:=h',toks:=tk }):
  Mo (Ms prog w) A (NK (.ref z)) Q E s:=by
 have hT:s.TypeIs (.ref z) "zip":=⟨_,hz,rfl⟩;unfold NK;have fin:∀ {h':MD} {tk:Nat} {e:Mg},(∀ c o,c≠z->c≠TO->c≠i1->c≠i2->s.heap.get? c=some o->h'.get? c=some o)->(∃ o,h'.get? e=some o/\o.cls=.type "StopIteration")->
   Mo (Ms prog w) A (do if <- isInstance (.ref e) (.type "StopIteration")then pure none else throw (.ref e)) Q E { s with heap:=h',toks:=tk }:=fun hk ⟨o,ho,hc⟩=>
  Me (PJ (T:="StopIteration") (b:=true) ⟨o,ho,hc⟩ P8 (Mj (hQ _ _ hk)))
 refine Me (N8 (Nf (name:=Mh "__next__") hT O3 (Nd O3 hT F.entry_zip_next ?_ (Rf _))));show Mo _ _ (field (.ref z) 2 >>= _) _ _ _;refine Me (Nr hz rfl (x:=.bool false) rfl ?_)
 show Mo _ _ (field (.ref z) 3 >>= _) _ _ _;refine Me (Nr hz rfl (x:=.ref TI) rfl ?_)
 refine Me (NW hTI rfl ?_);show Mo _ _ (Nv (.ref z) >>= _) _ _ _;refine Me (xL hz hf ?_ fun h0 f1' hz0 hs0=>?_)
 ·simp only[if_true];refine Me (Pq ?_);refine Me (Nr hz rfl (x:=.ref TO) rfl ?_);refine Me (Nj hz (by simp) fun g1 z1 s1=>?_)
  replace z1:gd g1 z TI TO .ellipsis f1:=z1
  refine Me ?_;simp only[List.zipIdx_cons,List.zipIdx_nil,Oe,OS];refine Me (Me (Pn ?_));show Mo _ _ (MX (.ref i1) >>= _) _ _ _;have st0:St1 i g1:=D1.frame i _ _ h1 fun b hb o e=>s1.extBut _ _ (D.f1 b hb).1 e;rcases le with rfl|⟨l1,rfl⟩
  ·refine Me (D1.done { s with heap:=g1 } _ _ st0 fun g2 e s2 he=>?_)
   obtain⟨oe,hoe,hce⟩:=he;have z2:gd g2 z TI TO .ellipsis f1:=s2 _ _ D.a3.symm z1;have hez:e≠z:=fun x=>by subst x;rw[z2]at hoe;cases hoe;simp at hce
   exact Nj z2 (by simp) fun g3 _ s3=>fin (tk:=s.toks) (fun c o c1 _ c3 _ x=>s3.extBut _ _ c1 (s2 _ _ c3 (s1.extBut _ _ c1 x))) ⟨oe,s3.extBut _ _ hez hoe,hce⟩
  ·refine Me (D1.item i { s with heap:=g1 } _ _ l1 st0 fun x g2 t2 p1 st1 s2=>Mj ?_)
   have o2:Of g2 TO a b:=s2.extBut _ _ D.a8 (s1.extBut _ _ D.a2 hTO);refine Me (NW o2 rfl ?_);refine Me (O9 o2 fun g3 o3 s3=>?_);refine Me (PN (Mj ?_));refine Me (Me (Pn ?_));show Mo _ _ (MX (.ref i2) >>= _) _ _ _;refine Me (D2.done { s with heap:=g3,toks:=t2 } _ _ (D2.frame i _ _ h2 fun b hb o e=>s3.extBut _ _ (D.f2 b hb).2.1 (s2.extBut _ _ (D.f2 b hb).2.2 (s1.extBut _ _ (D.f2 b hb).1 e))) fun g4 e s4 he=>?_)
   obtain⟨oe,hoe,hce⟩:=he;have z4:gd g4 z TI TO .ellipsis f1:=s4 _ _ D.a4.symm (s3.extBut _ _ D.a2.symm (s2.extBut _ _ D.a3.symm z1));have hez:e≠z:=fun x=>by subst x;rw[z4]at hoe;cases hoe;simp at hce
   exact Nj z4 (by simp) fun g5 _ s5=>fin (tk:=t2) (fun c o c1 c2 c3 c4 x=>s5.extBut _ _ c1 (s4 _ _ c4 (s3.extBut _ _ c2 (s2.extBut _ _ c3 (s1.extBut _ _ c1 x))))) ⟨oe,s5.extBut _ _ hez hoe,hce⟩
 ·simp only[Bool.false_eq_true,if_false];rw[<- Array.forIn_toList];simp only[Oe,OS];refine Me (Me (Me (M8 ?_)));show Mo _ _ (MX (.ref i1) >>= _) _ _ _
  have st0:St1 i h0:=D1.frame i _ _ h1 fun b hb o e=>hs0.extBut _ _ (D.f1 b hb).1 e;rcases le with rfl|⟨l1,rfl⟩
  ·exact Me (D1.done { s with heap:=h0 } _ _ st0 fun g2 e s2 he=>fin (tk:=s.toks) (fun c o c1 _ c3 _ x=>s2 _ _ c3 (hs0.extBut _ _ c1 x)) he)
  ·refine Me (D1.item i { s with heap:=h0 } _ _ l1 st0 fun x g2 t2 p1 st1 s2=>Mj (Mj ?_))
   refine Me (Me (M8 ?_));show Mo _ _ (MX (.ref i2) >>= _) _ _ _
   exact Me (D2.done { s with heap:=g2,toks:=t2 } _ _ (D2.frame i _ _ h2 fun b hb o e=>s2.extBut _ _ (D.f2 b hb).2.2 (hs0.extBut _ _ (D.f2 b hb).1 e)) fun g4 e s4 he=>fin (tk:=t2) (fun c o c1 _ c3 c4 x=>s4 _ _ c4 (s2.extBut _ _ c3 (hs0.extBut _ _ c1 x))) he)
theorem Hf{tg:MJ}{z TI TO:Mg}{f0 f1 u:Mf}{Q:Unit->Mi->Prop}(hz:gd s.heap z TI TO f0 f1)(hf:A8 f0)
  (hQ:∀ h' f0',A8 f0'->gd h' z TI TO f0' f1->NN z s.heap h'->Q () { s with heap:=h' }):Mo (Ms prog w) A (Oc tg (.ref z) u) Q E s:=by
 have same:Q () s:=hQ s.heap f0 hf hz (Re ..);unfold Oc;cases tg<;>first
  | exact Mj same
  | (cases u<;>first
    | exact Mj same
    | (refine Me (wpAny_load hz ?_)
       dsimp only;split
       ·refine Me (Pq ?_);exact Nj hz (by simp) fun h1 z1 s1=>hQ h1 _ (.inl rfl) z1 s1
       ·exact Mj same))
end
inductive Zk where
 | lst (l:Mg) (xs:List V)
 | txt (z:Str) (t:Tok)
def Zk.vs:Zk->List V
 | .lst _ xs=>xs
 | .txt z _=>dh z
def Zk.val:Zk->Mf
 | .lst l _=>.ref l
 | .txt z t=>.str z t
def Zk.here(K:Ow)(H:Hp):Zk->Prop
 | .lst l xs=>j_ K H l xs
 | .txt _ _=>True
def Zk.ready(h:MD):Zk->Prop
 | .lst l xs=>∃ us,Vals xs us/\h.IsList l us.toArray
 | .txt _ _=>True
def Zk.it(it:Mg)(i:Nat)(h:MD):Zk->Prop
 | .lst l _=>h.IsListIter it l i
 | .txt z t=>h.IsStrIter it (OM z) z t i
theorem mG(z:Str):OM z="str_ascii_iterator"\/OM z="str_iterator":=by unfold OM;split;exact .inl rfl;exact .inr rfl
theorem Zk.obj{k:Zk}{it:Mg}{i:Nat}{h:MD}(x:k.it it i h):∃ o,h.get? it=some o/\(∀ v,o.data≠.cell v)/\o.cls≠.type "list"/\o.cls≠.type "tuple"/\o.cls≠.type "zip":=by
 cases k with
 | lst l xs=>
  obtain⟨o,e,c,d⟩:=x;exact⟨o,e,(fun v z=>by rw[d]at z;cases z),by rw[c];decide,by rw[c];decide,by rw[c];decide⟩
 | txt z t=>
  obtain⟨o,e,c,d⟩:=x;refine⟨o,e,(fun v z=>by rw[d]at z;cases z),?_⟩
  rw[c];rcases mG z with q|q<;>rw[q]<;>decide
theorem Zk.keep{k:Zk}{it:Mg}{i:Nat}{h h':MD}(x:k.it it i h)(q:∀ o,h.get? it=some o->h'.get? it=some o):k.it it i h':=by
 cases k with
 | lst l xs=>exact x.at fun o e=>q o e
 | txt z t=>
  obtain⟨o,e,c⟩:=x;exact⟨o,q o e,c⟩
theorem Zk.of{X:Cx}{pins:List (Mg×Obj)}{σ:St}{H:Hp}{s:Mi}{k:Zk}(I:Inv X pins σ H s)(x:k.here X.K H):k.ready s.heap:=by
 cases k with
 | lst l xs=>
  obtain⟨its,rv,p,_⟩:=I.list x;exact⟨its,rv,p.isList⟩
 | txt z t=>exact True.intro
theorem Zk.draws{P:Mw}{w:MG}{k:Zk}{it:Mg}{h:MD}{j:Nat}(x:k.ready h)(y:k.it it j h):∃ (fp:List Mg) (Pv:Nat->Mf->Prop) (St:Nat->MD->Prop),(∀ A:MB,A.handled=none->Rg P w A it fp k.vs.length Pv St)/\(∀ i v,Pv i v->∃ u,k.vs[i]?=some u/\aB u v)/\
  (∀ i,k.it it i h->St i h)/\(∀ i h',St i h'->k.it it i h')/\∀ b∈fp,b=it\/∃ o,h.get? b=some o/\o.cls=.type "list":=by
 cases k with
 | lst l xs=>
  obtain⟨us,rv,p⟩:=x;obtain⟨o,e,c,d⟩:=id y;obtain⟨o',e',c',d'⟩:=id p;have hne:l≠it:=fun z=>by subst z;rw[e]at e';cases e';rw[c]at c';exact absurd c' (by decide)
  have hl:us.toArray.size=xs.length:=by rw[Mt];exact rv.length.symm
  refine⟨[it,l],fun i v=>us.toArray[i]?=some v,fun i h=>h.IsListIter it l i/\h.IsList l us.toArray,fun A hh=>?_,fun i v q=>?_,fun i q=>⟨q,p⟩,fun i h' q=>q.1,fun b hb=>?_⟩
  ·have:=Draws.list (prog:=P) (w:=w) hh it l hne us.toArray;rw[hl]at this;exact this
  ·have q':us[i]?=some v:=by simpa using q
   obtain⟨u,e1,r⟩:=L3.Vals.getV rv q';exact⟨u,e1,r⟩
  ·have hb':b=it\/b=l:=by simpa using hb
   rcases hb' with rfl|rfl
   ·exact .inl rfl
   ·exact .inr ⟨o',e',c'⟩
 | txt z t=>
  have hz:(dh z).length=z.cps.size:=by simp[dh]
  refine⟨[it],fun i v=>∃ c u,z.cps[i]?=some c/\v=.str ⟨#[c]⟩ u,fun i h=>h.IsStrIter it (OM z) z t i,fun A hh=>?_,fun i v q=>?_,fun i q=>q,fun i h' q=>q,fun b hb=>.inl (by simpa using hb)⟩
  ·show Rg P w A it [it] (dh z).length _ _;rw[hz];rcases mG z with q|q<;>rw[q]
   ·exact Draws.strAscii hh it z t
   ·exact Draws.strWide hh it z t
  ·obtain⟨c,u,e1,rfl⟩:=q;have e2:z.cps.toList[i]?=some c:=by simpa using e1
   exact⟨.str ⟨#[c]⟩,by simp[Zk.vs,dh,e2],⟨u,rfl⟩⟩
def BM(k1 k2:Zk)(z TI TO i1 i2:Mg)(i:Nat)(h:MD):Prop:=
 (∃ f0 f1,A8 f0/\gd h z TI TO f0 f1)/\Of h TI (.ref i1) (.ref i2)/\(∃ a b,Of h TO a b)/\k1.it i1 i h/\k2.it i2 i h
structure ZAp(z TI TO i1 i2:Mg):Prop where
 t:TI≠TO
 i:i1≠i2
theorem BM.apart{k1 k2:Zk}{z TI TO i1 i2:Mg}{i:Nat}{h:MD}{fp1 fp2:List Mg}(D:ZAp z TI TO i1 i2)(x:BM k1 k2 z TI TO i1 i2 i h)(q1:∀ b∈fp1,b=i1\/∃ o,h.get? b=some o/\o.cls=.type "list")(q2:∀ b∈fp2,b=i2\/∃ o,h.get? b=some o/\o.cls=.type "list"):ZApart z TI TO i1 i2 fp1 fp2:=by
 obtain⟨⟨f0,f1,_,hz⟩,hTI,⟨a,b,hTO⟩,h1,h2⟩:=x;obtain⟨o1,e1,_,c1,c2,c3⟩:=Zk.obj h1;obtain⟨o2,e2,_,d1,d2,d3⟩:=Zk.obj h2;have ne:∀ {a b:Mg} {o o':Obj},h.get? a=some o->h.get? b=some o'->o.cls≠o'.cls->a≠b:=fun ha hb hc z=>by subst z;rw[ha]at hb;cases hb;exact hc rfl
 have y1:i1≠z:=ne e1 hz c3;have y2:i2≠z:=ne e2 hz d3;have y3:TO≠i1:=(ne e1 hTO c2).symm;have y4:TO≠i2:=(ne e2 hTO d2).symm;have tz:Value.type "tuple"≠Value.type "zip":=by decide
 have lz:Value.type "list"≠Value.type "zip":=by decide
 have lt:Value.type "list"≠Value.type "tuple":=by decide
 refine⟨ne hTI hz tz,ne hTO hz tz,y1,y2,D.t,(ne e1 hTI c2).symm,(ne e2 hTI d2).symm,y3,y4,D.i,fun b hb=>?_,fun b hb=>?_⟩
 ·rcases q1 b hb with rfl|⟨o,e,c⟩
  ·exact⟨y1,y3.symm,D.i⟩
  ·exact⟨ne e hz (by rw[c];exact lz),ne e hTO (by rw[c];exact lt),ne e e2 (by rw[c];exact d1.symm)⟩
 ·rcases q2 b hb with rfl|⟨o,e,c⟩
  ·exact⟨y2,y4.symm,D.i.symm⟩
  ·exact⟨ne e hz (by rw[c];exact lz),ne e hTO (by rw[c];exact lt),ne e e1 (by rw[c];exact c1.symm)⟩
section
variable{prog:Mw}{w:MG}{A:MB}{E:Mf->Mi->Prop}{s:Mi}{k1 k2:Zk}{z TI TO i1 i2:Mg}{i:Nat}
theorem Bb{Q:Option Mf->Mi->Prop}(hh:A.in1.handled=none)(D:ZAp z TI TO i1 i2)(x:BM k1 k2 z TI TO i1 i2 i s.heap)(r1:k1.ready s.heap)(r2:k2.ready s.heap)(l1:i < k1.vs.length)(l2:i < k2.vs.length)
  (hQ:∀ h' tk x y u v,k1.vs[i]?=some u->k2.vs[i]?=some v->aB u x->aB v y->BM k1 k2 z TI TO i1 i2 (i+1) h'->Of h' s.heap.objs.size x y->h'.objs.size=s.heap.objs.size+1->
   (∀ c o,c∉[z,TI,TO,i1,i2]->s.heap.get? c=some o->h'.get? c=some o)->Q (some (.ref s.heap.objs.size)) { s with heap:=h',toks:=tk }):Mo (Ms prog w) A (NK (.ref z)) Q E s:=by
 obtain⟨fp1,P1,St1,D1,v1,t1,b1,q1⟩:=Zk.draws (P:=prog) (w:=w) r1 x.2.2.2.1;obtain⟨fp2,P2,St2,D2,v2,t2,b2,q2⟩:=Zk.draws (P:=prog) (w:=w) r2 x.2.2.2.2;have ap:=x.apart D q1 q2;obtain⟨⟨f0,f1,hf,hz⟩,hTI,⟨a,b,hTO⟩,h1,h2⟩:=x;refine xM (D1 _ hh) (D2 _ hh) ap hz hf hTI hTO (t1 i h1) (t2 i h2) l1 l2 fun h' tk x y f0' f1' a' b' p1 p2 hf' z' o' s1 s2 tp sz kp=>?_;obtain⟨u,e1,ru⟩:=v1 i x p1;obtain⟨v,e2,rv⟩:=v2 i y p2;exact hQ h' tk x y u v e1 e2 ru rv ⟨⟨f0',f1',hf',z'⟩,kp _ _ ap.a1 ap.a5 ap.a6 ap.a7 hTI,⟨a',b',o'⟩,b1 _ _ s1,b2 _ _ s2⟩ tp sz fun c o hc e=>kp c o (fun q=>hc (by simp[q])) (fun q=>hc (by simp[q])) (fun q=>hc (by simp[q])) (fun q=>hc (by simp[q])) e
theorem CV{Q:Option Mf->Mi->Prop}(hh:A.in1.handled=none)(D:ZAp z TI TO i1 i2)(x:BM k1 k2 z TI TO i1 i2 i s.heap)(r1:k1.ready s.heap)(r2:k2.ready s.heap)(l:i=min k1.vs.length k2.vs.length)
  (hQ:∀ h' tk,(∀ c o,c∉[z,TI,TO,i1,i2]->s.heap.get? c=some o->h'.get? c=some o)->Q none { s with heap:=h',toks:=tk }):Mo (Ms prog w) A (NK (.ref z)) Q E s:=by
 obtain⟨fp1,P1,St1,D1,v1,t1,b1,q1⟩:=Zk.draws (P:=prog) (w:=w) r1 x.2.2.2.1;obtain⟨fp2,P2,St2,D2,v2,t2,b2,q2⟩:=Zk.draws (P:=prog) (w:=w) r2 x.2.2.2.2;have ap:=x.apart D q1 q2;obtain⟨⟨f0,f1,hf,hz⟩,hTI,⟨a,b,hTO⟩,h1,h2⟩:=x;exact zX (D1 _ hh) (D2 _ hh) ap hz hf hTI hTO (t1 i h1) (t2 i h2) (by walk_at "o") fun h' tk kp=>hQ h' tk fun c o hc e=>kp c o (fun q=>hc (by simp[q])) (fun q=>hc (by simp[q])) (fun q=>hc (by simp[q])) (fun q=>hc (by simp[q])) e
theorem BM.keep{h h':MD}(x:BM k1 k2 z TI TO i1 i2 i h)(q:∀ b∈[z,TI,TO,i1,i2],∀ o,h.get? b=some o->h'.get? b=some o):BM k1 k2 z TI TO i1 i2 i h':=by
 obtain⟨⟨f0,f1,hf,hz⟩,hTI,⟨a,b,hTO⟩,h1,h2⟩:=x;exact⟨⟨f0,f1,hf,q z (by simp) _ hz⟩,q TI (by simp) _ hTI,⟨a,b,q TO (by simp) _ hTO⟩,Zk.keep h1 fun o e=>q i1 (by simp) o e,Zk.keep h2 fun o e=>q i2 (by simp) o e⟩
end
def LP(K:Ow)(k1 k2:Zk):It:=
 ⟨fun i H=>(i < k1.vs.length/\i < k2.vs.length)/\k1.here K H/\k2.here K H,fun i H x H'=>∃ p u v,H p=none/\x=.ref p/\H'=aV H p (.tup [u,v])/\k1.vs[i]?=some u/\k2.vs[i]?=some v,fun i H=>i=min k1.vs.length k2.vs.length/\k1.here K H/\k2.here K H⟩
theorem sf{P:Mw}{w:MG}{K:Ow}{tg:MJ}(k1 k2:Zk)(z TI TO i1 i2:Mg)(D:ZAp z TI TO i1 i2):Turn P w K tg (LP K k1 k2) [z,TI,TO,i1,i2] z (BM k1 k2 z TI TO i1 i2) where
 mem:=by simp
 obj:=fun i h st b hb=>by
  obtain⟨⟨f0,f1,hf,hz⟩,hTI,⟨a,b',hTO⟩,h1,h2⟩:=st;obtain⟨o1,e1,c1,_⟩:=Zk.obj h1;obtain⟨o2,e2,c2,_⟩:=Zk.obj h2;simp only[MP,MN,or_false]at hb;rcases hb with rfl|rfl|rfl|rfl|rfl
  ·exact⟨_,hz,fun v q=>by cases q⟩
  ·exact⟨_,hTI,fun v q=>by cases q⟩
  ·exact⟨_,hTO,fun v q=>by cases q⟩
  ·exact⟨o1,e1,c1⟩
  ·exact⟨o2,e2,c2⟩
 keep:=fun i h h' st q=>st.keep q
 item:=by
  intro X hP hw hK hc i pins s σ H E I hf st hg;subst hP hw hK;obtain⟨⟨l1,l2⟩,e1,e2⟩:=hg;refine Bb (I.ok.hd hc) D st (Zk.of I e1) (Zk.of I e2) l1 l2 fun h' tk x y u v q1 q2 ru rv st' tp sz kp=>?_;refine⟨_,rfl,?_⟩;obtain⟨⟨f0,f1,hl,hz⟩,hTI,⟨a,b,hTO⟩,h1,h2⟩:=id st';refine Hf (s:={ s with heap:=h',toks:=tk }) hz hl fun h2' f0' hl' hz' sb=>?_
  have hn:H s.heap.objs.size=none:=I.hok.fresh (le_refl _);have lt:∀ b∈[z,TI,TO,i1,i2],b≠s.heap.objs.size:=fun b hb=>by
   obtain⟨o,e,_⟩:=(show ∃ o,s.heap.get? b=some o/\True from by
    obtain⟨⟨g0,g1,_,gz⟩,gTI,⟨ga,gb,gTO⟩,k1',k2'⟩:=st;obtain⟨o1,x1,_⟩:=Zk.obj k1';obtain⟨o2,x2,_⟩:=Zk.obj k2';simp only[MP,MN,or_false]at hb;rcases hb with rfl|rfl|rfl|rfl|rfl
    ·exact⟨_,gz,True.intro⟩
    ·exact⟨_,gTI,True.intro⟩
    ·exact⟨_,gTO,True.intro⟩
    ·exact⟨_,x1,True.intro⟩
    ·exact⟨_,x2,True.intro⟩)
   exact MO (Mu e)
  have up:∀ c o,c≠z->h'.get? c=some o->h2'.get? c=some o:=fun c o hc e=>sb.extBut _ _ hc e;have hzs:z≠s.heap.objs.size:=lt z (by simp)
  have I0:Inv X pins σ (aV H s.heap.objs.size (.tup [u,v])) { s with heap:=s.heap.push { cls:=.type "tuple",data:=.seq #[x,y] },toks:=s.toks }:=by
   refine I.laid (t':=s.toks) (fun b v q=>Mm _ q) (le_refl _) ?_;exact⟨by show 2<=Mq;decide,[x,y],.cons ru (.cons rv .nil),vn.new _ _⟩
  have I1:Inv X pins σ (aV H s.heap.objs.size (.tup [u,v])) { s with heap:=h2',toks:=tk }:=by
   have:=Inv.turnedL (s:={ s with heap:=s.heap.push { cls:=.type "tuple",data:=.seq #[x,y] },toks:=s.toks }) (h':=h2') (t':=tk) (fp:=[z,TI,TO,i1,i2]) I0 (fun b o hb q=>?_) fun b hb=>?_
   ·exact this
   ·have hbz:b≠z:=fun q=>hb (by simp[q])
    have q':(s.heap.push { cls:=.type "tuple",data:=.seq #[x,y] }).get? b=some o:=q
    by_cases hbs:b=s.heap.objs.size
    ·subst hbs;rw[Mn _ rfl]at q';cases q';exact up _ _ hbz tp
    ·rw[Rc _ _ _ hbs]at q';exact up _ _ hbz (kp b o hb q')
   ·obtain⟨g0,g1,g2,g3,g4,g5⟩:=hf b hb;exact⟨by rw[ar (lt b hb)];exact g0,g1,g2,g3,g4,g5⟩
  have ap:=st'.apart (fp1:=[]) (fp2:=[]) D (fun b hb=>by simp at hb) fun b hb=>by simp at hb
  refine⟨.ref s.heap.objs.size,_,I1,rfl,⟨_,u,v,hn,rfl,rfl,q1,q2⟩,⟨⟨f0',f1,hl',hz'⟩,up _ _ ap.a1 hTI,⟨a,b,up _ _ ap.a2 hTO⟩,Zk.keep h1 fun o e=>up _ _ ap.a3 e,Zk.keep h2 fun o e=>up _ _ ap.a4 e⟩,fun b hb=>?_⟩;rw[ar (lt b hb)];exact (hf b hb).1
 done:=by
  intro X hP hw hK hc i pins s σ H E I hf st hg;subst hP hw hK;obtain⟨l,e1,e2⟩:=hg;exact CV (I.ok.hd hc) D st (Zk.of I e1) (Zk.of I e2) l fun h' tk kp=>⟨rfl,I.turnedL (t':=tk) (fp:=[z,TI,TO,i1,i2]) kp hf⟩
 self:=fun _ _ _ _ _ st h=>by
  obtain⟨⟨f0,f1,_,hz⟩,_⟩:=st;have hT:=(⟨_,hz,rfl⟩:Shared.TypeIs _ (.ref z) "zip");refine Px hT F.slot_zip_iter (Nd F.slot_zip_iter hT F.entry_zip_iter ?_ (F.args_zip_iter_1 _));show Mo _ _ (ret (.ref z)) _ _ _
  exact Mj ⟨_,rfl,"zip",_,hT,O3.lookup,h⟩
def Zk.itObj:Zk->Obj
 | .lst l _=>{ cls:=.type "list_iterator",data:=.fields #[.ref l,.int 0 0] }
 | .txt z t=>{ cls:=.type (OM z),data:=.fields #[.str z t,.int 0 0] }
theorem Zk.iter{prog:Mw}{w:MG}{A:MB}{E:Mf->Mi->Prop}{s:Mi}{k:Zk}{Q:Mf->Mi->Prop}(r:k.ready s.heap)(hQ:Q (.ref s.heap.objs.size) { s with heap:=s.heap.push k.itObj }):Mo (Ms prog w) A (OF k.val) Q E s:=by
 cases k with
 | lst l xs=>
  obtain⟨us,_,p⟩:=r;exact OL p hQ
 | txt z t=>exact wpAny_pyIter_strU hQ
theorem Zk.grow{k:Zk}{h h':MD}(r:k.ready h)(q:∀ c o,h.get? c=some o->h'.get? c=some o):k.ready h':=by
 cases k with
 | lst l xs=>
  obtain⟨us,rv,p⟩:=r;exact⟨us,rv,p.at fun o e=>q l o e⟩
 | txt z t=>exact True.intro
theorem Zk.it0{k:Zk}{h:MD}{it:Mg}(e:h.get? it=some k.itObj):k.it it 0 h:=by
 cases k with
 | lst l xs=>exact⟨_,e,rfl,rfl⟩
 | txt z t=>exact⟨_,e,rfl,rfl⟩
theorem Zk.alive{k:Zk}{h:MD}:(h.push k.itObj).get? h.objs.size=some k.itObj:=by
 cases k with
 | lst l xs=>exact Mn _ rfl
 | txt z t=>exact Mn _ rfl
abbrev E7(h:MD)(k1:Zk):MD:=h.push k1.itObj
abbrev E6(h:MD)(k1 k2:Zk):MD:=(E7 h k1).push k2.itObj
abbrev E5(h:MD)(k1 k2:Zk):MD:=(E6 h k1 k2).push { cls:=.type "tuple",data:=.seq #[.ref h.objs.size,.ref (E7 h k1).objs.size] }
abbrev E4(h:MD)(k1 k2:Zk):MD:=(E5 h k1 k2).push { cls:=.type "tuple",data:=.seq #[.none,.none] }
abbrev zW(h:MD)(k1 k2:Zk):MD:=(E4 h k1 k2).push { cls:=.type "zip",data:=.fields #[.none,.bool false,.bool false,.ref (E6 h k1 k2).objs.size,.ref (E5 h k1 k2).objs.size] }
theorem AE(k1 k2:Zk):Meets (Builtin.«zip.__new__» ⟨[.type "zip",k1.val,k2.val],[]⟩) (fun _ R s=>k1.ready s.heap/\k2.ready s.heap/\R (.ok (.ret (.ref (E4 s.heap k1 k2).objs.size))) { s with heap:=zW s.heap k1 k2 }):=
 .of_wp fun prog w A R s h=>by
  obtain⟨hp,g,d,tk,os⟩:=s;obtain⟨r1,r2,h⟩:=h;have hsub:=sub_zip;have q2:k2.ready (Shared.heap ⟨hp.push k1.itObj,g,d,tk,os⟩):=Zk.grow r2 fun c o e=>Mm _ e
  wp_walk using Zk.iter (k:=k1) (s:=⟨hp,g,d,tk,os⟩) r1,Zk.iter (k:=k2) (s:=⟨hp.push k1.itObj,g,d,tk,os⟩) q2
  exact⟨_,rfl,h⟩
theorem v_{prog:Mw}{w:MG}{A:MB}{E:Mf->Mi->Prop}{s:Mi}{k1 k2:Zk}{Q:Mf->Mi->Prop}(r1:k1.ready s.heap)(r2:k2.ready s.heap)
  (h:∀ h',BM k1 k2 (s.heap.objs.size+4) (s.heap.objs.size+2) (s.heap.objs.size+3) s.heap.objs.size (s.heap.objs.size+1) 0 h'->h'.objs.size=s.heap.objs.size+5->
   (∀ c o,s.heap.get? c=some o->h'.get? c=some o)->Q (.ref (s.heap.objs.size+4)) { s with heap:=h' }):Mo (Ms prog w) A (call (.type "zip") [k1.val,k2.val]) Q E s:=by
 refine callType_new F.called_zip (by decide) (F.typeCall_zip_2 _ _) (F.newCall_zip_2 _ _) (fun obj=>F.args_object_init_3 obj _ _) F.entry_zip_new (AE k1 k2) ⟨r1,r2,?_⟩
 have z1:(E7 s.heap k1).objs.size=s.heap.objs.size+1:=Ny ..;have z2:(E6 s.heap k1 k2).objs.size=s.heap.objs.size+2:=by rw[Ny,z1]
 have z3:(E5 s.heap k1 k2).objs.size=s.heap.objs.size+3:=by rw[Ny,z2]
 have z4:(E4 s.heap k1 k2).objs.size=s.heap.objs.size+4:=by rw[Ny,z3]
 have z5:(zW s.heap k1 k2).objs.size=s.heap.objs.size+5:=by rw[Ny,z4]
 have u:∀ {h:MD} {c:Mg} {o o':Obj},h.get? c=some o->(h.push o').get? c=some o:=fun e=>Mm _ e;have g5:(zW s.heap k1 k2).get? (E4 s.heap k1 k2).objs.size=some _:=Mn _ rfl;have g4:(zW s.heap k1 k2).get? (E5 s.heap k1 k2).objs.size=some _:=u (Mn _ rfl);have g3:(zW s.heap k1 k2).get? (E6 s.heap k1 k2).objs.size=some _:=u (u (Mn _ rfl));have g2:(zW s.heap k1 k2).get? (E7 s.heap k1).objs.size=some k2.itObj:=u (u (u Zk.alive));have g1:(zW s.heap k1 k2).get? s.heap.objs.size=some k1.itObj:=u (u (u (u Zk.alive)));show _/\_
 rw[z2,z3,z4]at g5;rw[z1,z2]at g3;rw[z3]at g4;rw[z1]at g2;rw[z4];exact⟨⟨_,g5,rfl⟩,h _ ⟨⟨_,_,.inl rfl,g5⟩,g3,⟨_,_,g4⟩,Zk.it0 g1,Zk.it0 g2⟩ z5 fun c o x=>u (u (u (u (u x))))⟩
end L2
namespace L3
open PySem PySem.Spec PyProof.Rows L2
def fy:D->Option (List D)
 | .lst ds=>some ds
 | .str x=>some (signs x)
 | _=>none
def nq:List D->List D->List D
 | a::r,b::t=>.tup [a,b]::nq r t
 | _,_=>[]
theorem ke:∀ (a b:List D),(nq a b).length=min a.length b.length
 | [],_=>by simp[nq]
 | _::_,[]=>by simp[nq]
 | _::r,_::t=>by simp only[nq,MC,ke r t];omega
theorem sd:∀ {a b:List D} {i:Nat} {x y:D},a[i]?=some x->b[i]?=some y->(nq a b)[i]?=some (.tup [x,y])
 | _::_,_::_,0,_,_,h,h'=>by simp at h h';subst h h';rfl
 | _::r,_::t,i+1,_,_,h,h'=>by simp only[Nc]at h h';simpa[nq]using sd h h'
 | [],_,_,_,_,h,_=>by simp at h
 | _::_,[],_,_,_,_,h=>by simp at h
theorem vH{K:Ow}{H:Hp}(z:Str):RDs K H (signs z) (dh z):=by
 have e1:signs z=(z.cps.toList.map fun c=>(⟨#[c]⟩:Str)).map D.str:=by simp[signs]
 have e2:dh z=(z.cps.toList.map fun c=>(⟨#[c]⟩:Str)).map V.str:=by simp[dh]
 rw[e1,e2];exact RDs.strs _
theorem Bc{K:Ow}{H:Hp}{d:D}{v:V}{u:Mf}{ds:List D}(e:fy d=some ds)(r:RD K H d v)(ru:aB v u):
  ∃ k:Zk,u=k.val/\RDs K H ds k.vs/\∀ (G:Gp) (G':Gp) (H':Hp),RG K H G->Kp G H G' H'->k.here K H'/\RDs K H' ds k.vs:=by
 cases d with
 | lst es=>
  simp only[fy,Option.some.injEq]at e;subst e;simp only[RD]at r;obtain⟨a,xs,rfl,f,rr⟩:=r;cases ru;exact⟨.lst a xs,rfl,rr,fun G G' H' rg k=>⟨((k.stb rg).l _ _ f).sq,RDs.mono (k.stb rg) _ _ rr⟩⟩
 | str z=>
  simp only[fy,Option.some.injEq]at e;subst e;simp only[RD]at r;subst r;obtain⟨t,rfl⟩:=ru;exact⟨.txt z t,rfl,vH z,fun _ _ _ _ _=>⟨True.intro,vH z⟩⟩
 | _=>simp[fy]at e
theorem IB{K:Ow}{G0:Gp}{H0:Hp}{ds es:List D}{k1 k2:Zk}(rg0:RG K H0 G0)(r1:∀ (G:Gp) (G':Gp) (H':Hp),RG K H0 G->Kp G H0 G' H'->k1.here K H'/\RDs K H' ds k1.vs)(r2:∀ (G:Gp) (G':Gp) (H':Hp),RG K H0 G->Kp G H0 G' H'->k2.here K H'/\RDs K H' es k2.vs):
  xH K G0 H0 (nq ds es) (LP K k1 k2):=fun i G H k rg=>by
 obtain⟨a1,q1⟩:=r1 G0 G H rg0 k;obtain⟨a2,q2⟩:=r2 G0 G H rg0 k;have n1:=q1.length;have n2:=q2.length;rw[ke];refine⟨fun hi=>⟨⟨⟨by walk_at "o",by walk_at "o"⟩,a1,a2⟩,fun x H' y=>?_⟩,fun e=>⟨by walk_at "o",a1,a2⟩⟩
 obtain⟨p,u,v,hn,rfl,rfl,e1,e2⟩:=y;have i1:i < ds.length:=by walk_at "o"
 have i2:i < es.length:=by walk_at "o"
 obtain⟨u',f1,g1⟩:=q1.get (Mp i1);obtain⟨v',f2,g2⟩:=q2.get (Mp i2);rw[e1]at f1;cases f1;rw[e2]at f2;cases f2;exact⟨Kp.laid hn,rg.laid hn,_,sd (Mp i1) (Mp i2),nv rg hn (RDs.cons g1 (RDs.cons g2 RDs.nil))⟩
def Ct(ta:m_):EY:=fun σ G Q=>ta σ G fun ds G'=>match ds with
 | [x,y]=>∃ a b,(fy x=some a/\fy y=some b)/\Q (nq a b) G'
 | _=>False
theorem zI:NA "zip"=some (.type "zip"):=by kernel_rfl
theorem wt{K:Ow}{H:Hp}{x y:D}{vs:List V}(h:RDs K H [x,y] vs):∃ v u,vs=[v,u]/\RD K H x v/\RD K H y u:=by
 obtain⟨v,t,rfl,h1,h2⟩:=h.inv_cons;obtain⟨u,rfl,h3⟩:=fQ h2;exact⟨v,u,rfl,h1,h3⟩
end L3
namespace L2
open PySem PySem.Spec PyProof.Rows
theorem xa:Pr (.type "list") "keys"=pure none:=by rw[PY,O7];kernel_rfl
theorem yW:Pr (.type "zip") "keys"=pure none:=by rw[PY,O7];kernel_rfl
theorem pr:Pr (.type "zip") "__getattr__"=pure none:=by rw[PY,O7];kernel_rfl
theorem xn:entryFor table "zip.__getattribute__"=some Builtin.«object.__getattribute__»:=entryFor_alias (id':="object.__getattribute__") (by kernel_rfl) (by first|rfl|decide +kernel) (by decide +kernel) (by kernel_rfl)
theorem Ci:(["__module__","__name__","__qualname__","__doc__","__annotations__"]:List Str).contains (Mh "keys")=false:=by decide +kernel
theorem vF:(Mh "keys").length+100<=Mq:=by rw[Ni];decide +kernel
theorem tD(a:Mg)(vs:Array Mf)(u:Tok):Meets (Builtin.«object.__getattribute__» ⟨[.ref a,.str "keys" u],[]⟩) (fun A R s=>s.heap.get? a=some { cls:=.type "zip",dict:=none,data:=.fields vs,slots:=#[] }/\raisesAttr (.ref a) "keys" A R s):=
 Meets.of_wp fun prog w A R s hs=>by
  obtain⟨hp,g,d,tk,os⟩:=s;obtain⟨hx,hs⟩:=hs;have hT:(⟨hp,g,d,tk,os⟩:Mi).TypeIs (.ref a) "zip":=⟨_,hx,rfl⟩;have f4:=yW;unfold Builtin.«object.__getattribute__»
  repeat (any_goals (first|assumption|wp_step))
  exact wpAny_raiseAttrError hs.1 hs.2 (attrMsg_fits (by decide +kernel) vF)
section
variable{prog:Mw}{w:MG}{A:MB}{E:Mf->Mi->Prop}{s:Mi}{a:Mg}{Q:Option Mf->Mi->Prop}
theorem wZ{xs:Array Mf}{k:Nat}{sl:Array (Option Mf)}(hx:s.heap.get? a=some { cls:=.type "list",dict:=none,data:=.seq xs k,slots:=sl })(hA:A.in1.handled=none)
  (h:∀ h' tk,(∀ c o,s.heap.get? c=some o->h'.get? c=some o)->Q none { s with heap:=h',toks:=tk }):Mo (Ms prog w) A (Pz (.ref a) "keys") Q E s:=by
 obtain⟨hp,g,d,tk,os⟩:=s;have hT:∀ tk',(⟨hp,g,d,tk',os⟩:Mi).TypeIs (.ref a) "list":=fun _=>⟨_,hx,rfl⟩;have f1:=QW;have f3:=F.slot_list_getattribute.lookup;have f4:=F.slot_list_getattribute.bind (.ref a);have f5:=am_list_getattr_none;unfold Pz getAttrBy?
 repeat (any_goals (first|assumption|exact hT _|((with_reducible show Mo _ _ (call _ _ _) _ _ _);refine Q0 F.slot_list_getattribute (hT _) am_entry_list_getattribute (F.args_list_getattribute_2 _ _) (meets_getattribute_miss_list a xs k sl _ _ xa Ci vF) ⟨hx,hA,fun h' t' e hx'=>?_⟩)|wp_step))
 obtain⟨t1,u1,he⟩:=hx'.there;show Mo _ _ (OG _ _ _ _ _ _ _) _ _ _
 unfold OG
 repeat (any_goals (first|assumption|wp_step))
 exact h _ _ hx'.keeps
theorem yN{vs:Array Mf}(hx:s.heap.get? a=some { cls:=.type "zip",dict:=none,data:=.fields vs,slots:=#[] })(hA:A.in1.handled=none)
  (h:∀ h' tk,(∀ c o,s.heap.get? c=some o->h'.get? c=some o)->Q none { s with heap:=h',toks:=tk }):Mo (Ms prog w) A (Pz (.ref a) "keys") Q E s:=by
 obtain⟨hp,g,d,tk,os⟩:=s;have hT:∀ tk',(⟨hp,g,d,tk',os⟩:Mi).TypeIs (.ref a) "zip":=fun _=>⟨_,hx,rfl⟩;have f1:=QW;have f3:=F.slot_zip_getattribute.lookup;have f4:=F.slot_zip_getattribute.bind (.ref a);have f5:=pr;unfold Pz getAttrBy?
 repeat (any_goals (first|assumption|exact hT _|((with_reducible show Mo _ _ (call _ _ _) _ _ _);refine Q0 F.slot_zip_getattribute (hT _) xn (F.args_zip_getattribute_2 _ _) (tD a vs _) ⟨hx,hA,fun h' t' e hx'=>?_⟩)|wp_step))
 obtain⟨t1,u1,he⟩:=hx'.there;show Mo _ _ (OG _ _ _ _ _ _ _) _ _ _
 unfold OG
 repeat (any_goals (first|assumption|wp_step))
 exact h _ _ hx'.keeps
end
structure PWalk(prog:Mw)(w:MG)(A:MB)(it:Mg)(wr:List Mg)(n:Nat)(Pv:Nat->Mf->Mf->Prop)(St:Nat->MD->Prop):Prop where
 frame:∀ i h h',St i h->(∀ c o,o.cls≠.type "dict"->h.get? c=some o->h'.get? c=some o)->St i h'
 item:∀ i (s:Mi) (Q:Option Mf->Mi->Prop) (E:Mf->Mi->Prop),i < n->St i s.heap->
  (∀ h' tk p k v,Pv i k v->(∃ o m,h'.get? p=some o/\o.cls=.type "tuple"/\o.data=.seq #[k,v] m)->St (i+1) h'->(∀ c o,c∉wr->s.heap.get? c=some o->h'.get? c=some o)->Q (some (.ref p)) { s with heap:=h',toks:=tk })->
  Mo (Ms prog w) A (NK (.ref it)) Q E s
 done:∀ (s:Mi) (Q:Option Mf->Mi->Prop) (E:Mf->Mi->Prop),St n s.heap->(∀ h' tk,(∀ c o,c∉wr->s.heap.get? c=some o->h'.get? c=some o)->Q none { s with heap:=h',toks:=tk })->
  Mo (Ms prog w) A (NK (.ref it)) Q E s
theorem e_:plainId "dict.update.loop"=true:=by decide +kernel
theorem k0:entryFor table "dict.update.loop"=some Builtin.«dict.update.loop»:=entryFor_of_tree (by kernel_rfl)
section
variable{prog:Mw}{w:MG}{A:MB}{it d:Mg}{wr:List Mg}{n:Nat}{Pv:Nat->Mf->Mf->Prop}{St:Nat->MD->Prop}{R:Q2->Mi->Prop}{h0:MD}
def KF(prog:Mw)(w:MG)(h:MD)(d:Mg)(xs:List (List aA×Mg×Mf)):Prop:=
 ∃ o es ep,h.get? d=some o/\o.ExactDict/\o.data=.dict es ep/\es.toList=xs.map (entryOfKey (Nk (aZ prog w)))/\(xs.map (·.1)).Nodup
theorem Aw{p:Mg}{k v:Mf}{s:Mi}{E:Mf->Mi->Prop}{Q:List Mf->Mi->Prop}(h:∃ o m,s.heap.get? p=some o/\o.cls=.type "tuple"/\o.data=.seq #[k,v] m)(q:Q [k,v] s):Mo (Ms prog w) A (Qz (.ref p)) Q E s:=by
 obtain⟨o,m,e,c,dt⟩:=h;unfold Qz;refine Me (Qs (T:="tuple") ⟨o,e,c⟩ ?_);rw[if_pos (by decide)]
 exact Me (NW e dt (Mj q))
theorem C5(W:PWalk prog w A.in1 it wr n Pv St)(hu:A.units+1 < MT)(hd:d∉wr)(hn:n<=Mq)(Acc:Nat->List (List aA×Mg×Mf)->Prop)
  (hk:∀ i k v xs,Pv i k v->Acc i xs->∃ ks b,k=.ref b/\Acc (i+1) (Ph xs ks b v)/\∀ h,(∀ c o,c∉wr->c≠d->h0.get? c=some o->h.get? c=some o)->(Nk (aZ prog w)).is h ks b)
  (hx:∀ i xs,Acc i xs->xs.length<=i/\∀ x∈xs,∀ h,(∀ c o,c∉wr->c≠d->h0.get? c=some o->h.get? c=some o)->(Nk (aZ prog w)).is h x.1 x.2.1):
  ∀ (k i:Nat) (s:Mi) (xs:List (List aA×Mg×Mf)),n - i=k->i<=n->St i s.heap->(∀ c o,c∉wr->c≠d->h0.get? c=some o->s.heap.get? c=some o)->KF prog w s.heap d xs->Acc i xs->
   (∀ h' tk ys,(∀ c o,c∉wr->c≠d->h0.get? c=some o->h'.get? c=some o)->(∀ c o,c∉wr->c≠d->s.heap.get? c=some o->h'.get? c=some o)->KF prog w h' d ys->Acc n ys->R (.ok (.ret .none)) { s with heap:=h',toks:=tk })->
   OP (Ms prog w) A (.builtin "dict.update.loop" ⟨[.ref d,.ref it,M9 i,.none],[]⟩) R s:=by
 intro k
 induction k with
 | zero=>
  intro i s xs hk' hi st keep dr ac hR;have hin:i=n:=by walk_at "o"
  subst hin;refine codeAny_builtin k0 ?_;rw[QO e_ _];show Mo _ A.in1 (NK (.ref it) >>= _) _ _ s
  refine Me (W.done s _ _ st fun h' tk kp=>?_);show Mo _ _ (Builtin.Dict.addKeywords d [] >>= _) _ _ _
  refine Me (Mj (Mj ?_));obtain⟨o,es,ep,e,r⟩:=dr;exact hR h' tk xs (fun c o hc hcd q=>kp c o hc (keep c o hc hcd q)) (fun c o hc _ q=>kp c o hc q) ⟨o,es,ep,kp d o hd e,r⟩ ac
 | succ k ih=>
  intro i s xs hk' hi st keep dr ac hR;have hlt:i < n:=by walk_at "o"
  refine codeAny_builtin k0 ?_;rw[QO e_ _];show Mo _ A.in1 (NK (.ref it) >>= _) _ _ s
  refine Me (W.item i s _ _ hlt st fun h1 t1 p kv vv pv tp st1 kp=>?_);obtain⟨ks,b,rfl,ac',key⟩:=hk i kv vv xs pv ac;refine Me (M8 (Me (wpAny_tryCatch (Aw tp ?_))));refine M8 ?_;obtain⟨o,es,ep,e,r1,r2,r3,r4⟩:=dr;have RC:∀ c o,c∉wr->c≠d->h0.get? c=some o->h1.get? c=some o:=fun c o hc hcd q=>kp c o hc (keep c o hc hcd q);obtain⟨len,keys⟩:=hx i xs ac;have dd:Heap.DictOfH (Nk (aZ prog w)) h1 d xs:=⟨o,es,ep,kp d o hd e,r1,r2,r3,fun x hx'=>keys x hx' h1 RC,r4⟩;refine QT (s:={ s with heap:=h1,toks:=t1 }) (hsz:=by walk_at "o") (show A.in1.units < MT from hu) (key h1 RC) dd fun h2 dd2 sb=>?_
  obtain⟨o2,es2,ep2,e2,q1,q2,q3,_,q4⟩:=dd2;have up:∀ c o,c≠d->h1.get? c=some o->h2.get? c=some o:=fun c o hc q=>sb.extBut _ _ hc q;have kpd:h1.get? d=some o:=kp d o hd e;refine Mj ⟨plainId_quiet e_ _,?_⟩;have:=ih (i+1) { s with heap:=h2,toks:=t1+(Nk (aZ prog w)).draws ks } (Ph xs ks b vv) (by walk_at "o") hlt (W.frame _ _ _ st1 fun c o' hc q=>up c o' (fun z=>by subst z;rw[kpd]at q;cases q;exact hc r1.1) q) (fun c o hc hcd q=>up c o hcd (RC c o hc hcd q)) ⟨o2,es2,ep2,e2,q1,q2,q3,q4⟩ ac'
   fun h' tk ys k1 k2 k3 k4=>hR h' tk ys k1 (fun c o hc hcd q=>k2 c o hc hcd (up c o hcd (kp c o hc q))) k3 k4
  exact this
end
end L2
namespace L3
open PySem PySem.Spec PyProof.Rows L2
def yJ(kv:List aA×D):D:=.tup [.tup (kv.1.map kD),kv.2]
def dictOf(kvs:List (List aA×D)):List (List aA×D):=kvs.foldl (fun a kv=>aW a kv.1 kv.2) []
theorem oY(kvs:List (List aA×D)):∀ a:List (List aA×D),(kvs.foldl (fun a kv=>aW a kv.1 kv.2) a).length<=a.length+kvs.length:=by
 induction kvs with
 | nil=>intro a;exact le_refl _
 | cons kv r ih=>
  intro a;have h1:=ih (aW a kv.1 kv.2);have h2:=eV a kv.1 kv.2;simp only[OX,MC];omega
theorem zy{kvs:List (List aA×D)}{i:Nat}{kv:List aA×D}(h:kvs[i]?=some kv):dictOf (kvs.take (i+1))=aW (dictOf (kvs.take i)) kv.1 kv.2:=by
 unfold dictOf;rw[MQ,h,List.foldl_append];rfl
theorem xr(kvs:List (List aA×D)):((dictOf kvs).map (·.1)).Nodup:=by
 unfold dictOf
 suffices h:∀ a:List (List aA×D),(a.map (·.1)).Nodup->((kvs.foldl (fun a kv=>aW a kv.1 kv.2) a).map (·.1)).Nodup from h [] PK
 induction kvs with
 | nil=>intro a h;exact h
 | cons kv r ih=>intro a h;exact ih _ (mV kv.1 kv.2 h)
theorem CC{prog:Mw}{w:MG}{A:MB}{E:Mf->Mi->Prop}{s:Mi}{src:Mg}{T:String}{Q:Mf->Mi->Prop}(hT:∃ o,s.heap.get? src=some o/\o.cls=.type T)(hne:(Value.type T != Value.type "dict")=true)
  (hno:∀ (s':Mi) (Q':Option Mf->Mi->Prop) (E':Mf->Mi->Prop),(∀ c o,s.heap.get? c=some o->s'.heap.get? c=some o)->(∀ h' tk,(∀ c o,s'.heap.get? c=some o->h'.get? c=some o)->Q' none { s' with heap:=h',toks:=tk })->Mo (Ms prog w) A.in1.in1 (Pz (.ref src) "keys") Q' E' s')
  (h:∀ h' tk,(∀ c o,s.heap.get? c=some o->h'.get? c=some o)->h'.get? s.heap.objs.size=some { cls:=.type "dict",data:=.dict #[] }->
   Mo (Ms prog w) A.in1.in1 (OF (.ref src)) (fun it s2=>OP (Ms prog w) A.in1 (.builtin "dict.update.loop" ⟨[.ref s.heap.objs.size,it,M9 0,.none],[]⟩) (wants (fun r s₂=>r=.none/\Q (.ref s.heap.objs.size) s₂) E) s2) (fun e s'=>wants (fun r s₂=>r=.none/\Q (.ref s.heap.objs.size) s₂) E (.error e) s') { s with heap:=h',toks:=tk }):
  Mo (Ms prog w) A (call (.type "dict") [.ref src]) Q E s:=by
 refine callType_codes (Q₁:=fun obj s₁=>obj=.ref s.heap.objs.size/\s₁={ s with heap:=s.heap.push { cls:=.type "dict",data:=.dict #[] } }) F.kt_called_dict (F.kt_typeCall_dict_1 _) F.entry_dict_init (kt_code_dict_new _ ⟨rfl,rfl⟩) ?_
 rintro obj s₁ ⟨rfl,rfl⟩
 have hd:(s.heap.push { cls:=.type "dict",data:=.dict #[] }).get? s.heap.objs.size=some { cls:=.type "dict",data:=.dict #[] }:=Mn _ rfl;have tyd:Shared.TypeIs { s with heap:=s.heap.push { cls:=.type "dict",data:=.dict #[] } } (.ref s.heap.objs.size) "dict":=⟨_,hd,rfl⟩
 obtain⟨o,e,c⟩:=hT;have up:∀ c o,s.heap.get? c=some o->(s.heap.push { cls:=.type "dict",data:=.dict #[] }).get? c=some o:=fun c o e=>Mm _ e;refine⟨tyd,F.args_dict_init_2 _ _,?_⟩;unfold Builtin.«dict.__init__»;refine Me ?_;unfold Builtin.Dict.selfAndRest;refine Me (O5 tyd ?_);show Mo _ _ (pure (s.heap.objs.size,[Value.ref src])) _ _ _;refine Mj ?_
 show Mo _ _ (Qr "dict.__init__" s.heap.objs.size (.ref src) [] .none) _ _ _
 unfold Qr;refine Me (Qs (T:=T) ⟨o,up _ _ e,c⟩ ?_);rw[if_pos hne];refine Me (hno _ _ _ up fun h' tk kp=>?_);simp only[Option.isNone_none,if_true];refine Me (Pq ?_);refine Me (M_ (h h' tk (fun c o e=>kp c o (up c o e)) (kp _ _ hd)) (fun it s2 q=>Mj ⟨plainId_quiet e_ _,q⟩) fun _ _ q=>q)
section
variable{X:Cx}{pins:List (Mg×Obj)}{τ:St}{H1:Hp}{s1:Mi}{G1:Gp}
theorem zx{src:Mg}{T:String}{kvs:List (List aA×D)}{Q:Mf->Mi->Prop}(hu:X.A.units+8 < MT)(I1:L2.Inv X pins τ H1 s1)(rg1:RG X.K H1 G1)(hz:kvs.length<=900000)
  (hT:∃ o,s1.heap.get? src=some o/\o.cls=.type T) (hne:(Value.type T != Value.type "dict")=true)
  (hno:∀ (s':Mi) (Q':Option Mf->Mi->Prop) (E':Mf->Mi->Prop),(∀ c o,s1.heap.get? c=some o->s'.heap.get? c=some o)->(∀ h' tk,(∀ c o,s'.heap.get? c=some o->h'.get? c=some o)->Q' none { s' with heap:=h',toks:=tk })->Mo (Ms X.prog X.w) X.A.in1.in1 (Pz (.ref src) "keys") Q' E' s')
  (hit:∀ (h2:MD) (tk2:Nat) (Q':Mf->Mi->Prop) (E':Mf->Mi->Prop),(∀ c o,s1.heap.get? c=some o->h2.get? c=some o)->s1.heap.objs.size < h2.objs.size->
   (∀ it wr Pv St h3,PWalk X.prog X.w X.A.in1.in1 it wr kvs.length Pv St->St 0 h3->(∀ c o,h2.get? c=some o->h3.get? c=some o)->(∀ b∈wr,qw X pins H1 b/\b≠s1.heap.objs.size)->
    (∀ i k v,Pv i k v->∃ kv b x,kvs[i]?=some kv/\k=.ref b/\jS X.K H1 b (kv.1.map kV)/\RD X.K H1 kv.2 x/\aB x v)->Q' (.ref it) { s1 with heap:=h3,toks:=tk2 })->
   Mo (Ms X.prog X.w) X.A.in1.in1 (OF (.ref src)) Q' E' { s1 with heap:=h2,toks:=tk2 })
  (q:∀ s' H',L2.Inv X pins τ H' s'->H1 s1.heap.objs.size=none->Kp G1 H1 (gset G1 s1.heap.objs.size (.dT (aD X.prog X.w) (dictOf kvs))) H'->RG X.K H' (gset G1 s1.heap.objs.size (.dT (aD X.prog X.w) (dictOf kvs)))->Q (.ref s1.heap.objs.size) s'):
  Mo (Ms X.prog X.w) X.A (call (.type "dict") [.ref src]) Q X.xe s1:=by
 have hsl:=ah;have sle:=Ni;refine CC hT hne hno fun h2 tk2 kp2 hd2=>?_;refine hit h2 tk2 _ _ kp2 (Mu hd2) fun it wr Pv St h3 W st0 kp3 hwr hpv=>?_;have hf:H1 s1.heap.objs.size=none:=I1.hok.fresh (le_refl _);have hdw:s1.heap.objs.size∉wr:=fun z=>(hwr _ z).2 rfl;have ltk:∀ {b:Mg} {ks:List aA},jS X.K H1 b (ks.map kV)->b∉wr/\b≠s1.heap.objs.size/\∀ h:MD,(∀ c o,c∉wr->c≠s1.heap.objs.size->s1.heap.get? c=some o->h.get? c=some o)->(Nk (aZ X.prog X.w)).is h ks b:=fun {b ks} sq=>by
  have key:=key_at I1 sq;obtain⟨o,its,n,e,c,dd,ii⟩:=id key;have hb1:b≠s1.heap.objs.size:=MO (Mu e);have hb2:b∉wr:=fun z=>by
   obtain⟨⟨g0,g1,g2,g3,g4,g5⟩,_⟩:=hwr b z;rcases sq with (e1|⟨o',e1⟩)|⟨o',its',n',kl,_⟩
   ·rw[g0]at e1;cases e1
   ·rw[g0]at e1;cases e1
   ·have e2:X.base.get? b=some o':=I1.mod.kin b o' kl;rcases g3 with g3|g3
    ·exact I1.ok.noex b o' e2 g3
    ·exact absurd (Mu (I1.ok.bs b o' e2).1) (Nat.not_lt.mpr g3)
  exact⟨hb2,hb1,fun h kp=>⟨o,its,n,kp b o hb2 hb1 e,c,dd,ii⟩⟩
 have Si:∀ {i:Nat} {xs:List (List aA×Mg×Mf)},pc X.K H1 (dictOf (kvs.take i)) xs->xs.length<=i/\∀ x∈xs,jS X.K H1 x.2.1 (x.1.map kV):=fun {i xs} r=>by
  refine⟨?_,?_⟩
  ·rw[<- r.length];have:=oY (kvs.take i) [];rw[M6]at this;unfold dictOf;simp only[MZ]at this;omega
  ·unfold pc at r;generalize dictOf (kvs.take i)=ks at r
   induction r with
   | nil=>intro x hx;exact nomatch hx
   | @cons p q ps qs hq t ih=>
    intro x hx;rcases MP.mp hx with e|hx
    ·subst e;rw[<- hq.1];exact hq.2.1
    ·exact ih x hx
 refine C5 (A:=X.A.in1) (h0:=s1.heap) (d:=s1.heap.objs.size) W (show X.A.units+1+1 < MT by walk_at "o") hdw (by walk_at "o") (fun i xs=>pc X.K H1 (dictOf (kvs.take i)) xs) (fun i k v xs pv ac=>?_) (fun i xs ac=>?_) kvs.length 0 { s1 with heap:=h3,toks:=tk2 } [] (Nat.sub_zero _) (M0 _) st0 (fun c o _ _ e=>kp3 c o (kp2 c o e)) ⟨_,#[],0,kp3 _ _ hd2,⟨rfl,rfl,rfl⟩,rfl,rfl,PK⟩ .nil fun h' tk ys k1 k2 dr ac=>?_
 ·obtain⟨kv,b,x,e,rfl,sq,rd,rv⟩:=hpv i k v pv;refine⟨kv.1,b,rfl,?_,(ltk sq).2.2⟩;show pc X.K H1 (dictOf (kvs.take (i+1))) _
  rw[zy e];exact pc.put ac kv.1 sq rd rv
 ·obtain⟨len,ks⟩:=Si ac;exact⟨len,fun x hx h kp=>(ltk (ks x hx)).2.2 h kp⟩
 ·rw[MM]at ac;obtain⟨o,es,ep,e,r1,r2,r3,r4⟩:=dr;have hsm:(s1.heap.objs.size == M5)=false:=beq_eq_false_iff_ne.mpr (Ne.symm (MO I1.big));have fd:o.isFreed=false:=by
   obtain⟨c,dd,dt,sl⟩:=o;have r2':dt=.dict es ep:=r2;subst r2';rfl
  obtain⟨kpp,rg2⟩:=Gd (o:=.dT (aD X.prog X.w) (dictOf kvs)) (ho:=.ext (xK (aD X.prog X.w) s1.heap.objs.size ys)) rg1 hf fun H' st=>⟨ys,rfl,ac.mono st,xr kvs,by
   have:=oY kvs [];unfold dictOf;simp only[MZ]at this;omega⟩
  have I2:L2.Inv X pins τ (aV H1 s1.heap.objs.size (.ext (xK (aD X.prog X.w) s1.heap.objs.size ys))) { s1 with heap:=s1.heap.push o,toks:=s1.toks }:=
   I1.laid (fun _ _ q=>Mm _ q) (le_refl _) (qm ⟨hsm,o,es,ep,Mn _ fd,r1,r2,r3⟩)
  have I3:=Inv.turnedL (s:={ s1 with heap:=s1.heap.push o,toks:=s1.toks }) (h':=h') (t':=tk) (fp:=wr) I2 (fun b o' hb qb=>by
   have qb':(s1.heap.push o).get? b=some o':=qb
   by_cases hbs:b=s1.heap.objs.size
   ·subst hbs;rw[Mn _ fd]at qb';cases qb';exact e
   ·rw[Rc _ _ _ hbs]at qb';exact k1 b o' hb hbs qb') fun b hb=>by
   obtain⟨⟨g0,g1,g2,g3,g4,g5⟩,nb⟩:=hwr b hb;exact⟨by rw[ar nb];exact g0,g1,g2,g3,g4,g5⟩
  exact⟨rfl,q _ _ I3 hf kpp rg2⟩
end
end L3
namespace L2
open PySem PySem.Spec PyProof.Rows
theorem As{prog:Mw}{w:MG}{A:MB}{it l:Mg}{us:List Mf}{Pv:Nat->Mf->Mf->Prop}(hh:A.handled=none):
  PWalk prog w A it [it] us.length Pv (fun i h=>h.IsListIter it l i/\h.IsList l us.toArray/\∀ j u,us[j]?=some u->∃ p kk vv,u=.ref p/\(∃ o m,h.get? p=some o/\o.cls=.type "tuple"/\o.data=.seq #[kk,vv] m)/\Pv j kk vv) where
 frame:=fun i h h' ⟨⟨o1,e1,c1,d1⟩,⟨o2,e2,c2,d2⟩,ps⟩ kp=>⟨⟨o1,kp _ _ (by rw[c1];decide) e1,c1,d1⟩,⟨o2,kp _ _ (by rw[c2];decide) e2,c2,d2⟩,fun j u hu=>by
  obtain⟨p,kk,vv,e,⟨o,m,g,c,dt⟩,pv⟩:=ps j u hu;exact⟨p,kk,vv,e,⟨o,m,kp _ _ (by rw[c];decide) g,c,dt⟩,pv⟩⟩
 item:=fun i s Q E hi ⟨x1,x2,ps⟩ q=>by
  have hu:us[i]?=some us[i]:=Mp hi;obtain⟨p,kk,vv,e,tp,pv⟩:=ps i _ hu;refine Qt x1 x2 (x:=us[i]) (by simpa using hu) fun h' st' sb=>?_
  obtain⟨o1,e1,c1,_⟩:=x1;obtain⟨o2,e2,c2,_⟩:=id x2;have ne:∀ {b:Mg} {o:Obj} {T:String},s.heap.get? b=some o->o.cls=.type T->Value.type T≠.type "list_iterator"->b≠it:=fun hb hc hT z=>by subst z;rw[e1]at hb;cases hb;rw[c1]at hc;exact hT hc.symm
  have lk:∀ {p:Mg} {kk vv:Mf},(∃ o m,s.heap.get? p=some o/\o.cls=.type "tuple"/\o.data=.seq #[kk,vv] m)->∃ o m,h'.get? p=some o/\o.cls=.type "tuple"/\o.data=.seq #[kk,vv] m:=fun⟨o,m,g,c,dt⟩=>⟨o,m,(sb.2 _ (ne g c (by decide))).trans g,c,dt⟩
  rw[e];refine q h' s.toks p kk vv pv (lk tp) ⟨st',x2.at fun o g=>(sb.2 l (ne e2 c2 (by decide))).trans g,fun j u hu=>?_⟩ fun c o hc g=>(sb.2 c (fun z=>hc (by simp[z]))).trans g
  obtain⟨p',k',v',e',tp',pv'⟩:=ps j u hu;exact⟨p',k',v',e',lk tp',pv'⟩
 done:=fun s Q E ⟨x1,x2,ps⟩ q=>QB hh x1 x2 (by simp) fun h' eb=>q h' s.toks fun c o hc g=>eb c o (fun z=>hc (by simp[z])) g
theorem BM.wr{k1 k2:Zk}{z TI TO i1 i2:Mg}{i:Nat}{h:MD}(x:BM k1 k2 z TI TO i1 i2 i h):∀ b∈[z,TI,TO,i1,i2],∃ o,h.get? b=some o/\o.cls≠.type "list"/\o.cls≠.type "dict":=by
 obtain⟨⟨f0,f1,_,hz⟩,hTI,⟨a,b',hTO⟩,h1,h2⟩:=x;have nd:∀ {k:Zk} {it:Mg},k.it it i h->∃ o,h.get? it=some o/\o.cls≠.type "list"/\o.cls≠.type "dict":=fun {k it} y=>by
  cases k with
  | lst l xs=>
   obtain⟨o,e,c,_⟩:=y;exact⟨o,e,by rw[c];decide,by rw[c];decide⟩
  | txt z t=>
   obtain⟨o,e,c,_⟩:=y;refine⟨o,e,?_⟩;rw[c];rcases mG z with q|q<;>rw[q]<;>decide
 intro b hb;simp only[MP,MN,or_false]at hb;rcases hb with rfl|rfl|rfl|rfl|rfl
 ·exact⟨_,hz,by show Value.type "zip"≠_;decide,by show Value.type "zip"≠_;decide⟩
 ·exact⟨_,hTI,by show Value.type "tuple"≠_;decide,by show Value.type "tuple"≠_;decide⟩
 ·exact⟨_,hTO,by show Value.type "tuple"≠_;decide,by show Value.type "tuple"≠_;decide⟩
 ·exact nd h1
 ·exact nd h2
theorem Zk.stay{k:Zk}{h h':MD}(r:k.ready h)(q:∀ c o,o.cls=.type "list"->h.get? c=some o->h'.get? c=some o):k.ready h':=by
 cases k with
 | lst l xs=>
  obtain⟨us,rv,o,e,c,d⟩:=r;exact⟨us,rv,o,q l o c e,c,d⟩
 | txt z t=>exact True.intro
theorem B3{prog:Mw}{w:MG}{A:MB}{k1 k2:Zk}{z TI TO i1 i2:Mg}(hh:A.in1.handled=none)(D:ZAp z TI TO i1 i2):
  PWalk prog w A z [z,TI,TO,i1,i2] (min k1.vs.length k2.vs.length) (fun i k v=>∃ u x,k1.vs[i]?=some u/\k2.vs[i]?=some x/\aB u k/\aB x v) (fun i h=>BM k1 k2 z TI TO i1 i2 i h/\k1.ready h/\k2.ready h) where
 frame:=fun i h h' ⟨st,r1,r2⟩ kp=>⟨st.keep fun b hb o e=>by
  obtain⟨o',e',_,c⟩:=st.wr b hb;rw[e]at e';cases e';exact kp b o c e,Zk.stay r1 fun c o hc e=>kp c o (by rw[hc];decide) e,Zk.stay r2 fun c o hc e=>kp c o (by rw[hc];decide) e⟩
 item:=fun i s Q E hi ⟨st,r1,r2⟩ q=>by
  refine Bb hh D st r1 r2 (by walk_at "o") (by walk_at "o") fun h' tk x y u v e1 e2 ru rv st' tp sz kp=>?_
  have ls:∀ c o,o.cls=.type "list"->s.heap.get? c=some o->h'.get? c=some o:=fun c o hc e=>kp c o (fun hb=>by
   obtain⟨o',e',c',_⟩:=st.wr c hb;rw[e]at e';cases e';exact c' hc) e
  exact q h' tk _ x y ⟨u,v,e1,e2,ru,rv⟩ ⟨_,_,tp,rfl,rfl⟩ ⟨st',Zk.stay r1 ls,Zk.stay r2 ls⟩ kp
 done:=fun s Q E ⟨st,r1,r2⟩ q=>CV hh D st r1 r2 rfl fun h' tk kp=>q h' tk kp
end L2
namespace L3
open PySem PySem.Spec PyProof.Rows L2
theorem wa:NA "dict"=some (.type "dict"):=by kernel_rfl
theorem GU{X:Cx}{tg:MJ}{a b:MJ}{ta:m_}{p pos:Pos}(hg:Gl X "zip")(hm:X.mg "zip"=none)(ha:PA X [a,b] (eg X.K ta))(hs:Mr [a,b] X.env=[(false,eval a X.env),(false,eval b X.env)]:=by rfl)(hs2:Mr [b] X.env=[(false,eval b X.env)]:=by rfl):
  PI X tg (.Call (.Name "zip" p) [a,b] [] pos) (qT X.K (Ct ta)):=by
 intro pins s τ H R I h;obtain⟨σ,G,Q3,rs,rg,hq,k⟩:=h;refine Rh (iN I hg hm zI (PyProof.Rows.callWith_type1 (cb (ha pos pins s τ H (fun vs H1=>∃ ds G1,(match ds with|[x,y]=>∃ a b,(fy x=some a/\fy y=some b)/\Q3 (nq a b) G1|_=>False)/\Kp G H G1 H1/\RG X.K H1 G1/\RDs X.K H1 ds vs) I
  ⟨σ,G,_,rs,rg,hq,fun ds G1 vs H1 q k1 rg1 rds=>⟨ds,G1,q,k1,rg1,rds⟩⟩) fun us s1 ⟨vs,H1,I1,r1,q1⟩=>?_) (by rw[hs,hs2]) (by rw[hs2];rfl)))
 obtain⟨ds,G1,q,k1,rg1,rds⟩:=q1;split at q
 ·rename_i x y;obtain⟨as,bs,⟨ea,eb⟩,q⟩:=q;obtain⟨v,v',rfl,rd1,rd2⟩:=wt rds;obtain⟨u,u',rfl,ru1,ru2⟩:=r1.two;obtain⟨z1,rfl,_,w1⟩:=Bc ea rd1 ru1;obtain⟨z2,rfl,_,w2⟩:=Bc eb rd2 ru2;have hr1:=(w1 G1 G1 H1 rg1 Kp.refl).1;have hr2:=(w2 G1 G1 H1 rg1 Kp.refl).1;refine v_ (Zk.of I1 hr1) (Zk.of I1 hr2) fun h' zs hsz kp=>?_;have D:ZAp (s1.heap.objs.size+4) (s1.heap.objs.size+2) (s1.heap.objs.size+3) s1.heap.objs.size (s1.heap.objs.size+1):=⟨MO (Ol (s1.heap.objs.size+2)),MO (Ol s1.heap.objs.size)⟩;refine (sf (P:=X.prog) (w:=X.w) (K:=X.K) (tg:=tg) z1 z2 _ _ _ _ _ D).self _ 0 _ _ _ zs ?_;refine⟨s1.heap.objs.size+4,[s1.heap.objs.size+4,s1.heap.objs.size+2,s1.heap.objs.size+3,s1.heap.objs.size,s1.heap.objs.size+1],_,_,H1,rfl,I1.kept (t':=s1.toks) kp,sf z1 z2 _ _ _ _ _ D,zs,fun c hc=>?_,k _ G1 _ H1 q k1 rg1 (IB rg1 w1 w2)⟩;have hc':s1.heap.objs.size<=c:=by
   simp only[MP,MN,or_false]at hc;rcases hc with rfl|rfl|rfl|rfl|rfl<;>first|exact le_refl _|exact Nat.le_add_right _ _
  exact I1.fpOk hc' (I1.hok.fresh hc')
 ·exact q.elim
def AW(hw:List aA->Int)(te:bn):bn:=fun σ G Q=>te σ G fun x G1=>match rT G1 (val x) with
 | some ds=>∃ kvs:List (List aA×D),(ds=kvs.map yJ/\kvs.length<=900000)/\∀ p,G1 p=none->Q (.ref p) (gset G1 p (.dT hw (dictOf kvs)))
 | none=>False
def AV(hw:List aA->Int)(ta:m_):bn:=fun σ G Q=>ta σ G fun ds G1=>match ds with
 | [x,y]=>∃ a b,∃ kvs:List (List aA×D),(fy x=some a/\fy y=some b/\nq a b=kvs.map yJ/\kvs.length<=900000)/\∀ p,G1 p=none->Q (.ref p) (gset G1 p (.dT hw (dictOf kvs)))
 | _=>False
theorem GT{K:Ow}{H:Hp}{ks:List aA}{v:V}(r:RD K H (.tup (ks.map kD)) v):∃ b,v=.ref b/\jS K H b (ks.map kV):=oR (d:=.tup (ks.map kD)) (Bx ks) r
theorem FQ{X:Cx}{e:MJ}{te:bn}{p1 pos:Pos}(hu:X.A.units+8 < MT)(hc:X.calm=true)(hg:Gl X "dict")(hm:X.mg "dict"=none)(he:PE X e (ay X.K te))(hs:Mr [e] X.env=[(false,eval e X.env)]:=by rfl):
  PE X (.Call (.Name "dict" p1) [e] [] pos) (ay X.K (AW (aD X.prog X.w) te)):=by
 rintro pins s τ H Q I ⟨σ,G,Q3,rs,rg,h,k⟩
 refine Rh (iN I hg hm wa (PyProof.Rows.callWith_type1 ?_ hs rfl) (by decide) (by decide))
 rw[show Nn pos (Mr [e] X.env)=[(false,eval e X.env)]by rw[hs];rfl]
 refine NO (cb (dN he I rs rg h) fun ov s1 ⟨ox,H1,I1,rox,x,G1,q1,k1,rg1,rd1⟩=>Oo ?_);split at q1
 ·rename_i ds hq;obtain⟨kvs,⟨rfl,hz⟩,q1⟩:=q1;obtain⟨l,xs,rfl,sq,r⟩:=jz (G:=G1) (H:=H1) hq (.of rd1) rg1;cases rox;obtain⟨its,rv,pl,_⟩:=I1.list sq;have n1:=r.length;have n2:=rv.length;rw[Ml]at n1;obtain⟨lo,ln,le,lc,ld,ldat⟩:=id pl;have tps:∀ (j:Nat) u,its[j]?=some u->∃ p kk vv,u=.ref p/\(∃ o m,s1.heap.get? p=some o/\o.cls=.type "tuple"/\o.data=.seq #[kk,vv] m)/\∃ kv b x,kvs[j]?=some kv/\kk=.ref b/\jS X.K H1 b (kv.1.map kV)/\RD X.K H1 kv.2 x/\aB x vv:=fun j u hu=>by
   obtain⟨v,e1,ru⟩:=Vals.getV rv hu;obtain⟨d,e2,rd⟩:=RDs.getV r e1;rw[MA]at e2;cases hkv:kvs[j]? with
   | none=>rw[hkv]at e2;cases e2
   | some kv=>
    rw[hkv]at e2;cases e2;unfold yJ at rd;simp only[RD]at rd;obtain⟨p,ys,rfl,sqp,ry⟩:=rd;obtain⟨y1,y2,rfl,ra,rb⟩:=wt ry;obtain⟨b,rfl,sb⟩:=GT (ks:=kv.1) (by simpa only[RD]using ra)
    cases ru;obtain⟨its2,rv2,tp,_⟩:=I1.tuple sqp;obtain⟨o,g1,g2,m,g3⟩:=tp;obtain⟨w1,w2,rfl,rw1,rw2⟩:=rv2.two;cases rw1;exact⟨p,_,w2,rfl,⟨o,m,g1,g2,by simpa using g3⟩,kv,b,y2,rfl,rfl,sb,rb,rw2⟩
  refine zx (T:="list") (kvs:=kvs) hu I1 rg1 hz ⟨lo,le,lc⟩ (by decide) (fun s' Q' E' kp q'=>?_) (fun h2 tk2 Q' E' kp hlt q'=>?_) fun s' H' I' hf kp rg'=>⟨.ref s1.heap.objs.size,H',I',rfl,k _ _ _ H' (q1 _ (rg1.free hf)) (k1.trans kp) rg' (.of eK)⟩
  ·obtain⟨c0,d0,t0,s0⟩:=lo;simp only at lc ld ldat;subst lc ld ldat;exact wZ (kp _ _ le) (I.ok.hd hc) q'
  ·refine OL (pl.isList.at fun o e=>kp _ _ e) ?_;have hln:kvs.length=its.length:=n1.trans n2;have W:=As (prog:=X.prog) (w:=X.w) (A:=X.A.in1.in1) (it:=h2.objs.size) (l:=l) (us:=its) (Pv:=fun (j:Nat) (kk vv:Mf)=>∃ (kv:List aA×D) (b:Mg) (x:V),kvs[j]?=some kv/\kk=Value.ref b/\jS X.K H1 b (kv.1.map kV)/\RD X.K H1 kv.2 x/\aB x vv) (I.ok.hd hc);rw[<- hln]at W;refine q' h2.objs.size [h2.objs.size] _ _ _ W ⟨⟨_,Mn _ rfl,rfl,rfl⟩,(pl.isList.at fun o e=>kp _ _ e).push _,fun j u hu=>?_⟩ (fun c o e=>Mm _ e) (fun b hb=>?_) fun i k v pv=>pv
   ·obtain⟨p,kk,vv,e,⟨o,m,g1,g2,g3⟩,pv⟩:=tps j u hu;exact⟨p,kk,vv,e,⟨o,m,Mm _ (kp _ _ g1),g2,g3⟩,pv⟩
   ·have e:=Qg.mp hb;subst e;exact⟨I1.fpOk (le_of_lt hlt) (I1.hok.fresh (le_of_lt hlt)),Pc hlt⟩
 ·exact q1.elim
theorem FP{X:Cx}{a b:MJ}{ta:m_}{p1 p2 pos RL:Pos}(hu:X.A.units+8 < MT)(hc:X.calm=true)(hg1:Gl X "dict")(hm1:X.mg "dict"=none)(hg2:Gl X "zip")(hm2:X.mg "zip"=none)(ha:PA X [a,b] (eg X.K ta))
  (hs:Mr [a,b] X.env=[(false,eval a X.env),(false,eval b X.env)]:=by rfl) (hs2:Mr [b] X.env=[(false,eval b X.env)]:=by rfl):
  PE X (.Call (.Name "dict" p1) [.Call (.Name "zip" p2) [a,b] [] RL] [] pos) (ay X.K (AV (aD X.prog X.w) ta)):=by
 rintro pins s τ H Q I ⟨σ,G,Q3,rs,rg,h,k⟩
 refine Rh (iN I hg1 hm1 wa (PyProof.Rows.callWith_type1 ?_ rfl rfl) (by decide) (by decide))
 show Mo _ _ (spliced [(false,eval (.Call (.Name "zip" p2) [a,b] [] RL) X.env)]) _ _ _
 refine NO (Rh (iN I hg2 hm2 zI (PyProof.Rows.callWith_type1 (cb (ha RL pins s τ H (fun vs H1=>∃ ds G1,(match ds with|[x,y]=>∃ a b,∃ kvs:List (List aA×D),(fy x=some a/\fy y=some b/\nq a b=kvs.map yJ/\kvs.length<=900000)/\∀ p,G1 p=none->Q3 (.ref p) (gset G1 p (.dT (aD X.prog X.w) (dictOf kvs)))|_=>False)/\Kp G H G1 H1/\RG X.K H1 G1/\RDs X.K H1 ds vs) I
  ⟨σ,G,_,rs,rg,h,fun ds G1 vs H1 q k1 rg1 rds=>⟨ds,G1,q,k1,rg1,rds⟩⟩) fun us s1 ⟨vs,H1,I1,r1,q1⟩=>?_) (by rw[hs,hs2]) (by rw[hs2];rfl)) (by decide) (by decide)))
 obtain⟨ds,G1,q,k1,rg1,rds⟩:=q1;split at q
 ·rename_i x y;obtain⟨as,bs,kvs,⟨ea,eb,ez,hz⟩,q⟩:=q;obtain⟨v,v',rfl,rd1,rd2⟩:=wt rds;obtain⟨u,u',rfl,ru1,ru2⟩:=r1.two;obtain⟨z1,rfl,t1,w1⟩:=Bc ea rd1 ru1;obtain⟨z2,rfl,t2,w2⟩:=Bc eb rd2 ru2;have n1:=t1.length;have n2:=t2.length;have hr1:=(w1 G1 G1 H1 rg1 Kp.refl).1;have hr2:=(w2 G1 G1 H1 rg1 Kp.refl).1;refine v_ (Zk.of I1 hr1) (Zk.of I1 hr2) fun h' zs hsz kp=>Oo ?_;have I2:L2.Inv X pins τ H1 { s1 with heap:=h' }:=I1.kept (t':=s1.toks) kp
  have DZ:ZAp (s1.heap.objs.size+4) (s1.heap.objs.size+2) (s1.heap.objs.size+3) s1.heap.objs.size (s1.heap.objs.size+1):=⟨MO (Ol (s1.heap.objs.size+2)),MO (Ol s1.heap.objs.size)⟩;obtain⟨f0,f1,_,hzo⟩:=zs.1;have hlen:kvs.length=min z1.vs.length z2.vs.length:=by
   have:=ke as bs;rw[ez,Ml]at this;omega
  refine zx (s1:={ s1 with heap:=h' }) (T:="zip") (kvs:=kvs) hu I2 rg1 hz ⟨_,hzo,rfl⟩ (by decide) (fun s' Q' E' kp' q'=>yN (kp' _ _ hzo) (I.ok.hd hc) q') (fun h2 tk2 Q' E' kp2 hlt q'=>?_) fun s' H' I' hf kp' rg'=>⟨.ref h'.objs.size,H',I',rfl,k _ _ _ H' (q _ (rg1.free hf)) (k1.trans kp') rg' (.of eK)⟩
  have zs2:BM z1 z2 (s1.heap.objs.size+4) (s1.heap.objs.size+2) (s1.heap.objs.size+3) s1.heap.objs.size (s1.heap.objs.size+1) 0 h2:=zs.keep fun b _ o e=>kp2 b o e;refine (sf (P:=X.prog) (w:=X.w) (K:=X.K) (tg:=.Name "" pos) z1 z2 _ _ _ _ _ DZ).self _ 0 { s1 with heap:=h2,toks:=tk2 } _ _ zs2 ?_
  have W:=B3 (prog:=X.prog) (w:=X.w) (A:=X.A.in1.in1) (k1:=z1) (k2:=z2) (I.ok.hd hc) DZ;rw[<- hlen]at W;refine q' _ _ _ _ _ W ⟨zs2,Zk.grow (Zk.of I1 hr1) fun c o e=>kp2 c o (kp c o e),Zk.grow (Zk.of I1 hr2) fun c o e=>kp2 c o (kp c o e)⟩ (fun _ _ e=>e) (fun c hc=>?_) fun i kk vv pv=>?_
  ·have hc':s1.heap.objs.size<=c/\c≠s1.heap.objs.size+5:=by
    simp only[MP,MN,or_false]at hc;rcases hc with rfl|rfl|rfl|rfl|rfl
    ·exact⟨Nat.le_add_right _ _,MO (Nat.add_lt_add_left (by decide) _)⟩
    ·exact⟨Nat.le_add_right _ _,MO (Nat.add_lt_add_left (by decide) _)⟩
    ·exact⟨Nat.le_add_right _ _,MO (Nat.add_lt_add_left (by decide) _)⟩
    ·exact⟨le_refl _,MO (Nat.lt_add_of_pos_right (by decide))⟩
    ·exact⟨Nat.le_add_right _ _,MO (Nat.add_lt_add_left (by decide) _)⟩
   refine⟨I1.fpOk hc'.1 (I1.hok.fresh hc'.1),?_⟩;show c≠h'.objs.size
   rw[hsz];exact hc'.2
  ·obtain⟨u,x,e1,e2,ru,rx⟩:=pv;obtain⟨d1,g1,r1⟩:=RDs.getV t1 e1;obtain⟨d2,g2,r2⟩:=RDs.getV t2 e2;have e3:=sd g1 g2;rw[ez,MA]at e3;cases hkv:kvs[i]? with
   | none=>rw[hkv]at e3;cases e3
   | some kv=>
    rw[hkv]at e3;simp only[Option.map_some,Option.some.injEq,yJ,D.tup.injEq,List.cons.injEq,and_true]at e3;obtain⟨rfl,rfl⟩:=e3;obtain⟨b,rfl,sb⟩:=GT r1;cases ru;exact⟨kv,b,x,rfl,rfl,sb,r2,rx⟩
 ·exact q.elim
def Ec(kv:List aA×D):D:=.tup (kv.1.map kD)
def Dm(te:bn)(g:ux)(tb:bP):bP:=fun E σ G=>te σ G fun d G1=>match d with
 | .ref a=>∃ hw kvs,G1 a=some (.dT hw kvs)/\ForIn g tb { nx:=fun σ' G'=>E.nx σ' (gset G' a (.dT hw kvs)),rt:=fun _ _=>False } σ (kvs.map Ec) (eX G1 a)
 | _=>False
theorem Cr{prog:Mw}{w:MG}{A:MB}{E:Mf->Mi->Prop}{s:Mi}{d:Mg}{vs:List Mf}{ep:Nat}{Q:Mf->Mi->Prop}(hd:(d == M5)=false)(x:uo s.heap d vs ep)
  (q:Q (.ref s.heap.objs.size) { s with heap:=s.heap.push { cls:=.type "dict_keyiterator",data:=.fields #[.ref d,.int 0 0,.int vs.length 0,.int ep 0] } }):Mo (Ms prog w) A (OF (.ref d)) Q E s:=by
 obtain⟨o,es,ho,hc,hdat,rfl⟩:=id x;refine Px x.ty PySem.F.slot_dict_iter (Nd PySem.F.slot_dict_iter x.ty PySem.F.entry_dict_iter ?_ (PySem.F.args_dict_iter_1 _));unfold Builtin.«dict.__iter__»;refine Me ?_;unfold Builtin.Dict.dictSlotNone;refine Me (O5 x.ty ?_);show Mo _ _ (pure (Value.ref d)) _ _ s;refine Mj ?_
 show Mo _ _ (Op d >>= _) _ _ s;unfold Op;rw[if_neg (by rw[hd];exact Bool.false_ne_true)]
 refine Me (Mj ?_);refine Me (NT ho hdat ?_);refine Me (Ob ho hdat ?_);refine Me (MW (Mj ⟨_,rfl,"dict_keyiterator",_,⟨_,Mn _ rfl,rfl⟩,PySem.F.slot_dict_keyiterator_next.lookup,?_⟩))
 simpa[M9]using q
theorem Ao{K:Ow}{H:Hp}:∀ ks:List aA,RDs K H (ks.map kD) (ks.map kV)
 | []=>RDs.nil
 | .inl i::r=>RDs.cons eh (Ao r)
 | .inr x::r=>RDs.cons jm (Ao r)
theorem pc.at{K:Ow}{H:Hp}{kvs:List (List aA×D)}{xs:List (List aA×Mg×Mf)}(r:pc K H kvs xs):∀ {i:Nat} {kv:List aA×D},kvs[i]?=some kv->∃ x,xs[i]?=some x/\RD K H (Ec kv) (.ref x.2.1):=by
 unfold pc at r
 induction r with
 | nil=>intro i kv h;simp at h
 | @cons p q ps qs hq t ih=>
  intro i kv h;cases i with
  | zero=>
   simp only[Nb,Option.some.injEq]at h;subst h;refine⟨q,rfl,?_⟩;unfold Ec;simp only[RD];exact⟨q.2.1,_,rfl,hq.2.1,Ao _⟩
  | succ i=>
   simp only[Nc]at h ⊢;exact ih h
abbrev EX(a:Mg)(o:Obj):HO:=.ext fun h=>h.get? a=some o
theorem J4{P:Mw}{w:MG}{H:Hp}{h:MD}{a:Mg}{o:Obj}(e:h.get? a=some o):bD P w H h a (EX a o):=⟨e,⟨o,e⟩,fun _ _ q k=>k o q⟩
theorem HC{X:Cx}{tg iter:MJ}{body:List ML}{te:bn}{g:ux}{tb:bP}{pos:Pos}(hp:Pk (Ms X.prog X.w) X.A X.env X.xe)(hc:X.calm=true)(hi:PE X iter (ay X.K te))(hg:PG X tg (jd X.K g))(hb:nj X body (bO X.K tb))
  (hs:∀ x,Nh iter X.env x=pure x:=by intro _;rfl):PS X (.For tg iter body [] pos) (bO X.K (Dm te g tb)):=by
 rintro pins s τ H Dd I ⟨σ,G,D3,rs,rg,h,k⟩
 refine wpAny_For (cb (dN hi I rs rg h) fun v s1 ⟨ox,H1,I1,rox,d,G1,q1,k1,rg1,rd1⟩=>?_) hs;cases d with
 | ref a=>
  obtain⟨hw,kvs,hga,Pv,p0,step,fin⟩:=q1;simp only[val,RD]at rd1;subst rd1;cases rox;obtain⟨hob,eo,ro⟩:=rg1 a _ hga;cases hob with
  | ext φ=>
   obtain⟨xs,rfl,rt,nd,len⟩:=ro;obtain⟨hsm,o1,es,ep,g1,g2,g3,g4⟩:=(show bD X.prog X.w H1 s1.heap a (.ext (xK hw a xs))from I1.hok a _ eo).1
   have raw:∀ {h:MD},h.get? a=some o1->uo h a (xs.map fun x=>Value.ref x.2.1) ep:=fun e=>⟨o1,es,e,g2,g3,by rw[g4,MU];rfl⟩
   have lx:=rt.length;refine Cr hsm (raw g1) ?_;have hita:a≠s1.heap.objs.size:=MO (Mu g1);have kpA:Kp G1 H1 (eX G1 a) (aV H1 a (EX a o1)):=fun b u e n=>by
    have hb:b≠a:=fun z=>by subst z;rw[hga]at n;cases n
    exact⟨by rw[ar hb];exact e,by rw[d8 hb];exact n⟩
   have rg2:RG X.K (aV H1 a (EX a o1)) (eX G1 a):=fun b u e=>by
    have hb:b≠a:=fun z=>by subst z;rw[d7]at e;cases e
    rw[d8 hb]at e;obtain⟨ho,e1,r1⟩:=rg1 b u e;exact⟨ho,by rw[ar hb];exact e1,r1.mono (kpA.stb rg1)⟩
   have I1':L2.Inv X pins τ (aV H1 a (EX a o1)) { s1 with heap:=s1.heap,toks:=s1.toks }:=I1.write (x:=a) (e:=a) (by rw[eo];exact True.intro) (.inl rfl) (fun _ _ _ q=>q) ⟨o1,g1⟩ (J4 g1)
   have I2:L2.Inv X pins τ (aV H1 a (EX a o1)) { s1 with heap:=s1.heap.push { cls:=.type "dict_keyiterator",data:=.fields #[.ref a,.int 0 0,.int (xs.map fun x=>Value.ref x.2.1).length 0,.int ep 0] } }:=I1'.kept (t':=s1.toks) fun _ _ q=>Mm _ q
   have fit:qw X pins (aV H1 a (EX a o1)) s1.heap.objs.size:=I1.fpOk (le_refl _) (by rw[ar hita.symm];exact I1.hok.fresh (le_refl _))
   have back:∀ {τ':St} {H':Hp} {G':Gp} {σ':eO} {s':Mi},L2.Inv X pins τ' H' s'->Kp (eX G1 a) (aV H1 a (EX a o1)) G' H'->RS X.K H' σ' τ'->RG X.K H' G'->D3.nx σ' (gset G' a (.dT hw kvs))->∃ τ'' H'',L2.Inv X pins τ'' H'' s'/\Dd.nx τ'' H'':=fun {τ' H' G' σ' s'} I' kk rs' rg' q=>by
    obtain⟨e1,e2⟩:=kk a _ aG d7;have e3:s'.heap.get? a=some o1:=(show bD X.prog X.w H' s'.heap a (EX a o1)from I'.hok a _ e1).1
    have I'':L2.Inv X pins τ' (aV H' a (.ext (xK hw a xs))) { s' with heap:=s'.heap,toks:=s'.toks }:=I'.write (x:=a) (e:=a) (by rw[e1];exact True.intro) (.inl rfl) (fun _ _ _ q=>q) ⟨o1,e3⟩ (qm ⟨hsm,o1,es,ep,e3,g2,g3,g4⟩)
    have st1:=(kpA.stb rg1);have st2:=(kk.stb rg2);have st3:Stb X.K H' (aV H' a (.ext (xK hw a xs))):=⟨fun b ys y=>by
     rcases y with (y|⟨o',y⟩)|y
     ·exact .inl (.inl (by rw[ar (fun z=>by rw[z,e1]at y;cases y)];exact y))
     ·exact .inl (.inr ⟨o',by rw[ar (fun z=>by rw[z,e1]at y;cases y)];exact y⟩)
     ·exact .inr y,fun b ys y=>by
     rcases y with ⟨o',y⟩|y
     ·exact .inl ⟨o',by rw[ar (fun z=>by rw[z,e1]at y;cases y)];exact y⟩
     ·exact .inr y⟩
    have rg3:RG X.K (aV H' a (.ext (xK hw a xs))) (gset G' a (.dT hw kvs)):=fun b u e=>by
     by_cases hb:b=a
     ·subst hb;rw[au]at e;cases e;exact⟨_,aG,xs,rfl,((rt.mono st1).mono st2).mono st3,nd,len⟩
     ·rw[ai hb]at e;obtain⟨ho,e4,r4⟩:=rg' b u e;exact⟨ho,by rw[ar hb];exact e4,r4.mono st3⟩
    have kpC:Kp G H (gset G' a (.dT hw kvs)) (aV H' a (.ext (xK hw a xs))):=fun b u e n=>by
     obtain⟨e4,n4⟩:=k1 b u e n;have hb:b≠a:=fun z=>by subst z;rw[hga]at n4;cases n4
     obtain⟨e5,n5⟩:=kk b u (by rw[ar hb];exact e4) (by rw[d8 hb];exact n4)
     exact⟨by rw[ar hb];exact e5,by rw[ai hb];exact n5⟩
    exact⟨τ',_,I'',k.nx σ' _ τ' _ q kpC rg3 (rs'.mono st3)⟩
   refine QQ (fun n s'=>∃ i σ' τ' G' H',L2.Inv X pins τ' H' s'/\s'.heap.IsKeyIter s1.heap.objs.size a i (xs.map fun x=>Value.ref x.2.1).length ep/\H' s1.heap.objs.size=none/\RS X.K H' σ' τ'/\RG X.K H' G'/\Pv i σ' G'/\Kp (eX G1 a) (aV H1 a (EX a o1)) G' H'/\i<=kvs.length/\n=kvs.length - i) ?_ kvs.length
    ⟨0,σ,τ,eX G1 a,_,I2,⟨_,Mn _ rfl,rfl,rfl⟩,fit.1,rs.mono ((k1.trans kpA).stb rg),rg2,p0,Kp.refl,M0 _,rfl⟩
   rintro n s3 ⟨i,σ3,τ3,G3,H3,I3,ki,fr3,rs3,rg3,pv,kk,hil,rfl⟩
   obtain⟨e1,e2⟩:=kk a _ aG d7;have e3:s3.heap.get? a=some o1:=(show bD X.prog X.w H3 s3.heap a (EX a o1)from I3.hok a _ e1).1
   by_cases hlt:i < kvs.length
   ·obtain⟨x,hx,rd⟩:=((rt.mono (kpA.stb rg1)).mono (kk.stb rg2)).at (Mp hlt);refine M7 hp (Dy ki (raw e3) (v:=.ref x.2.1) (by rw[MA,hx];rfl) fun h4 ki4 sb=>?_)
    have I4:L2.Inv X pins τ3 H3 { s3 with heap:=h4,toks:=s3.toks }:=I3.turned (fun b o hb e=>(sb.2 b hb).trans e) fr3 fit.2.1 fit.2.2.2.1 fit.2.2.2.2.1 fit.2.2.2.2.2
    obtain⟨oi,ei,ci,di⟩:=id ki4;refine M7 hp (zl (s:={ s3 with heap:=h4 }) ei ci di (by decide) ?_)
    have I4':=I4.pinned (fp:=[s1.heap.objs.size]) (fun b hb=>by rw[Qg.mp hb];exact⟨fr3,fit.2⟩) fun b hb=>by rw[Qg.mp hb];exact⟨oi,ei,fun v z=>by rw[di]at z;cases z⟩
    refine M7 hp (cb (hg _ _ τ3 H3 (.ref x.2.1) (.ref x.2.1) (fun τ2 H2=>bO X.K tb { nx:=fun τ' H'=>∃ σ' G',RS X.K H' σ' τ'/\RG X.K H' G'/\Pv (i+1) σ' G'/\Kp (eX G1 a) (aV H1 a (EX a o1)) G' H',ct:=fun τ' H'=>∃ σ' G',RS X.K H' σ' τ'/\RG X.K H' G'/\Pv (i+1) σ' G'/\Kp (eX G1 a) (aV H1 a (EX a o1)) G' H',bk:=fun τ' H'=>∃ σ' G',RS X.K H' σ' τ'/\RG X.K H' G'/\D3.nx σ' (gset G' a (.dT hw kvs))/\Kp (eX G1 a) (aV H1 a (EX a o1)) G' H',rt:=fun _ _=>False } τ2 H2) I4' rfl
     ⟨Ec kvs[i],σ3,G3,_,rd,rs3,rg3,step i _ σ3 G3 (by rw[MA,Mp hlt];rfl) pv,fun σ5 G5 τ5 H5 q5 k5 rg5 rs5=>⟨σ5,G5,_,rs5,rg5,q5,⟨fun σ6 G6 τ6 H6 q6 k6 rg6 rs6=>⟨σ6,G6,rs6,rg6,q6,kk.trans (k5.trans k6)⟩,fun _ _ _ _ q _ _ _=>q.elim,fun σ6 G6 τ6 H6 q6 k6 rg6 rs6=>⟨σ6,G6,rs6,rg6,q6,kk.trans (k5.trans k6)⟩,fun σ6 G6 τ6 H6 q6 k6 rg6 rs6=>⟨σ6,G6,rs6,rg6,q6,kk.trans (k5.trans k6)⟩⟩⟩⟩) fun _ s6 ⟨σ6,H6,I6,q6⟩=>?_)
    refine M7 hp (cb (hb _ s6 σ6 H6 _ I6 q6) fun f s7 q7=>?_);have again:∀ {τ7:St} {H7:Hp},L2.Inv X (pins ++ pT [s1.heap.objs.size] h4) τ7 H7 s7->(∃ σ' G',RS X.K H7 σ' τ7/\RG X.K H7 G'/\Pv (i+1) σ' G'/\Kp (eX G1 a) (aV H1 a (EX a o1)) G' H7)->∃ m,m < kvs.length - i/\∃ i σ' τ' G' H',L2.Inv X pins τ' H' s7/\s7.heap.IsKeyIter s1.heap.objs.size a i (xs.map fun x=>Value.ref x.2.1).length ep/\H' s1.heap.objs.size=none/\RS X.K H' σ' τ'/\RG X.K H' G'/\Pv i σ' G'/\Kp (eX G1 a) (aV H1 a (EX a o1)) G' H'/\i<=kvs.length/\m=kvs.length - i:=fun {τ7 H7} I7 ⟨σ7,G7,rs7,rg7,pv7,k7⟩=>by
     have pin:=I7.pin (s1.heap.objs.size,oi) (MV _ (MV _ (h9 (by simp) ei)))
     exact⟨kvs.length - (i+1),by walk_at "o",i+1,σ7,τ7,G7,H7,I7.unpinned,⟨oi,pin.1,ci,di⟩,pin.2.1,rs7,rg7,pv7,k7,hlt,rfl⟩
    cases f with
    | next=>obtain⟨σ7,H7,I7,n7⟩:=q7;exact again I7 n7
    | cont=>obtain⟨σ7,H7,I7,n7⟩:=q7;exact again I7 n7
    | brk=>
     obtain⟨σ7,H7,I7,σ8,G8,rs8,rg8,q8,k8⟩:=q7;exact back I7.unpinned k8 rs8 rg8 q8
    | ret v=>obtain⟨x7,σ7,H7,I7,r7,q7⟩:=q7;exact q7.elim
   ·have ei:i=kvs.length:=by walk_at "o"
    subst ei;refine M7 hp (Fq (I.ok.hd hc) ki (raw e3) (by rw[MA,N4 (by walk_at "o")];rfl) fun h4 eb=>Ox ?_)
    have I4:L2.Inv X pins τ3 H3 { s3 with heap:=h4,toks:=s3.toks }:=I3.turned (fun b o hb e=>eb b o hb e) fr3 fit.2.1 fit.2.2.2.1 fit.2.2.2.2.1 fit.2.2.2.2.2
    exact back I4 kk rs3 rg3 (fin σ3 G3 (by rw[Ml];exact pv))
  | _=>exact ro.elim
 | _=>exact q1.elim
open HT PySem.SeqAt
def J5(te:bn)(tl th ts:I_):bn:=fun σ G Q=>te σ G fun x G1=>tl σ G1 fun l G2=>th σ G2 fun u G3=>ts σ G3 fun st G4=>match x with
 | .tup ds=>(l=none/\u=none/\st=some (-1))/\Q (.tup ds.reverse) G4
 | _=>False
def Gm(to:bn)(ta:m_):bn:=fun σ G Q=>to σ G fun x G1=>match x with
 | .tup ds=>ta σ G1 fun es G2=>match es with
  | [y]=>(pl 7 y/\(∀ d∈ds,pl 7 d)/\y∈ds)/\Q (.int (Ef y ds)) G2
  | _=>False
 | _=>False
def Jd(a:Mg)(k:Nat)(g:ux)(tt:rj)(te:bn)(σ:eO)(ds:List D)(G1:Gp)(Q:j9):Prop:=ds.length<=Mq/\∃ Pv:Nat->List D->Gp->Prop,Pv 0 [] G1/\(∀ i acc G',Pv i acc G'->G' a=some (.lst ds))/\
 (∀ (i:Nat) d acc G',ds[i]?=some d->Pv i acc G'->g d (List.replicate k none ++ σ) G' fun σ2 G2=>(k<=σ2.length/\σ2.drop k=σ)/\tt σ2 G2 fun b G3=>if b=true then te σ2 G3 fun y G4=>Pv (i+1) (acc ++ [val y]) G4 else Pv (i+1) acc G3)/\
 ∀ acc G',Pv ds.length acc G'->Q (.fl acc) G'
def ud(k:Nat)(tl:bn)(g:ux)(tt:rj)(te:bn):bn:=fun σ G Q=>tl σ G fun d G1=>match d with
 | .ref a=>∃ ds,G1 a=some (.lst ds)/\Jd a k g tt te σ ds G1 Q
 | d=>match eF d with
  | some ds=>ni k g tt te σ ds G1 Q
  | none=>False
section
variable{X:Cx}{elt tg iter:MJ}{ifs:List MJ}{scope:NV}{T M:List Str}{pos:Pos}{tl:bn}{g:ux}{tt:rj}{te:bn}
theorem je{K:Ow}{τ:St}{σ:eO}{G G1:Gp}{H H1:Hp}{Q:VK}{Q3:j9}{ds:List D}{J:It}{Pv:Nat->List D->Gp->Prop}(rs:RS K H σ τ)(rg:RG K H G)(k:∀ d G' v H',Q3 d G'->Kp G H G' H'->RG K H' G'->RE K G H G' H' d v->Q v H')(k1:Kp G H G1 H1)(rg1:RG K H1 G1)
  (p0:Pv 0 [] G1) (it:∀ i acc G' H',Pv i acc G'->Kp G1 H1 G' H'->RG K H' G'->(i < ds.length->J.go i H'/\∀ x H2,J.yld i H' x H2->Kp G' H' G' H2/\RG K H2 G'/\∃ d,ds[i]?=some d/\RD K H2 d x)/\(i=ds.length->J.stop i H'))
  (step:∀ (i:Nat) d acc G',ds[i]?=some d->Pv i acc G'->g d (List.replicate T.length none ++ σ) G' fun σ2 G2=>(T.length<=σ2.length/\σ2.drop T.length=σ)/\tt σ2 G2 fun b G3=>if b=true then te σ2 G3 fun y G4=>Pv (i+1) (acc ++ [val y]) G4 else Pv (i+1) acc G3)
  (fin:∀ acc G',Pv ds.length acc G'->Q3 (.fl acc) G') (hsz:ds.length<=Mq):
  ∀ Da,H1 Da=none->∃ W:Nat->Nat->List V->St->Hp->Prop,(∃ m,W 0 m [] (ent T τ) (aV H1 Da (.lst [])))/\
   ∀ i m ys σ1 H2,W i m ys σ1 H2->H2 Da=some (.lst ys)/\((J.stop i H2/\Q (.ref Da) H2)\/(J.go i H2/\∃ N:List V->St->Hp->Prop,(∀ ys' σ' H',N ys' σ' H'->∃ m',m' < m/\W (i+1) m' ys' σ' H')/\
    ∀ x H',J.yld i H2 x H'->jd K g x σ1 H' fun σ2 H3=>cz K tt σ2 H3 fun b H4=>if b=true then vX K te σ2 H4 fun y H5=>H5 Da=some (.lst ys)/\ys.length < Mq/\N (ys ++ [y]) σ2 (aV H5 Da (.lst (ys ++ [y])))else N ys σ2 H4)):=by
 intro Da hD;have kD:Kp G1 H1 G1 (aV H1 Da (.lst [])):=Kp.laid hD;have rgD:RG K (aV H1 Da (.lst [])) G1:=rg1.laid hD;have gD:G1 Da=none:=rg1.free hD;refine⟨fun i m ys τ2 H2=>m=ds.length - i/\i<=ds.length/\∃ acc G2,H2 Da=some (.lst ys)/\G2 Da=none/\RG K H2 G2/\RS K H2 (List.replicate T.length none ++ σ) τ2/\RDs K H2 acc ys/\acc.length<=i/\Pv i acc G2/\(∀ a h,a≠Da->H1 a=some h->G1 a=none->H2 a=some h/\G2 a=none),
  ⟨ds.length,rfl,M0 _,[],G1,aG,gD,rgD,Dq T (rs.mono ((k1.trans kD).stb rg)),RDs.nil,le_refl _,p0,fun a h ha e n=>⟨by rw[ar ha];exact e,n⟩⟩,?_⟩
 rintro i m ys τ2 H2 ⟨rfl,hi',acc,G2,eD,nD,rg2,rs2,ra,la,pv,k2⟩
 have k2':Kp G1 H1 G2 H2:=fun a h e n=>k2 a h (ba e hD) e n;refine⟨eD,?_⟩;obtain⟨hgo,hstop⟩:=it i acc G2 H2 pv k2' rg2
 by_cases hlt:i < ds.length
 ·obtain⟨go,yld⟩:=hgo hlt;refine .inr ⟨go,fun ys' τ' H'=>∃ acc G',H' Da=some (.lst ys')/\G' Da=none/\RG K H' G'/\RS K H' (List.replicate T.length none ++ σ) τ'/\RDs K H' acc ys'/\acc.length<=i+1/\Pv (i+1) acc G'/\(∀ a h,a≠Da->H1 a=some h->G1 a=none->H' a=some h/\G' a=none),
   fun ys' τ' H' q'=>⟨ds.length - (i+1),by walk_at "o",rfl,hlt,q'⟩,fun x H3 y=>?_⟩
  obtain⟨ky,rgy,d,hd,rd⟩:=yld x H3 y;refine⟨d,List.replicate T.length none ++ σ,G2,_,rd,rs2.mono (ky.stb rg2),rgy,step i d acc G2 hd pv,fun σ4 G4 τ4 H4 q4 k4 rg4 rs4=>?_⟩;obtain⟨⟨hlen,hdrop⟩,q4⟩:=q4;have rs4':RS K H4 (List.replicate T.length none ++ σ) τ4:=by
   have:=pL T.length hlen rs4;rw[hdrop]at this;exact this
  refine⟨σ4,G4,_,rs4,rg4,q4,fun b G5 H5 q5 k5 rg5=>?_⟩;have e3:H3 Da=some (.lst ys):=(ky Da _ eD nD).1;have e4:=k4 Da _ e3 nD;have e5:=k5 Da _ e4.1 e4.2;have kk:∀ {G6:Gp} {H6:Hp},Kp G5 H5 G6 H6->∀ a h,a≠Da->H1 a=some h->G1 a=none->H6 a=some h/\G6 a=none:=fun k6 a h ha e n=>((((Kp.trans k2' ky).trans k4).trans k5).trans k6) a h e n;cases b with
  | false=>
   refine iteF ⟨acc,G5,e5.1,e5.2,rg5,rs4'.mono (k5.stb rg4),RDs.mono (((ky.trans k4).trans k5).stb rg2) _ _ ra,by walk_at "o",q5,kk Kp.refl⟩
  | true=>
   refine iteT ⟨σ4,G5,_,rs4.mono (k5.stb rg4),rg5,q5,fun yv G6 v H6 q6 k6 rg6 rd6=>?_⟩;have e6:=k6 Da _ e5.1 e5.2;have la':=ra.length;have st:Stb K H6 (aV H6 Da (.lst (ys ++ [v]))):=by
    constructor
    ·intro a zs q;rcases q with (q|⟨o,q⟩)|q
     ·exact .inl (.inl (by rw[ar (fun z=>by subst z;rw[e6.1]at q;cases q)];exact q))
     ·exact .inl (.inr ⟨o,by rw[ar (fun z=>by subst z;rw[e6.1]at q;cases q)];exact q⟩)
     ·exact .inr q
    ·intro a zs q;rcases q with ⟨o,q⟩|q
     ·exact .inl ⟨o,by rw[ar (fun z=>by subst z;rw[e6.1]at q;cases q)];exact q⟩
     ·exact .inr q
   refine⟨e6.1,by walk_at "o",acc ++ [val yv],G6,aG,e6.2,fun a o q=>?_,(rs4'.mono ((k5.trans k6).stb rg4)).mono st,?_,by simp;omega,q6,fun a h ha e n=>?_⟩
   ·obtain⟨h',q1,q2⟩:=rg6 a o q;exact⟨h',by rw[ar (fun z=>by subst z;rw[e6.2]at q;cases q)];exact q1,q2.mono st⟩
   ·exact RDs.append (RDs.mono st _ _ (RDs.mono ((((ky.trans k4).trans k5).trans k6).stb rg2) _ _ ra)) (RDs.cons (RD.mono st _ _ rd6) RDs.nil)
   ·rw[ar ha];exact kk k6 a h ha e n
 ·have e:i=ds.length:=by walk_at "o"
  refine .inl ⟨hstop e,k _ G2 _ H2 (fin acc G2 (by rw[<- e];exact pv)) (k1.trans k2') rg2 (.inl ⟨acc,Da,ys,rfl,rfl,eD,nD,ra,?_⟩)⟩
  exact k1.fr (r6 hD)
def JW(K:Ow)(te:bn):TI:=fun τ H R=>∃ σ G Q3,RS K H σ τ/\RG K H G/\te σ G Q3/\∀ d G1 H1,Q3 d G1->Kp G H G1 H1->RG K H1 G1->match d with
  | .ref a=>(∃ ds,G1 a=some (.lst ds))/\R (KE K a) H1
  | d=>∃ ds,eF d=some ds/\∀ J,xH K G1 H1 ds J->R J H1
theorem FF{e:MJ}{te:bn}(h:PE X e (ay X.K te)):PI X tg e (JW X.K te):=Bm h
theorem A1{K:Ow}{τ:St}{H:Hp}{Q:VK}(h:ay K (ud T.length tl g tt te) τ H Q):Bg (ent T) (JW K tl) (jd K g) (cz K tt) (vX K te) τ H Q:=by
 obtain⟨σ,G,Q3,rs,rg,h,k⟩:=h;refine⟨σ,G,_,rs,rg,h,fun d G1 H1 q k1 rg1=>?_⟩;cases d with
 | ref a=>
  obtain⟨ds,hg,hsz,Pv,p0,live,step,fin⟩:=q;refine⟨⟨ds,hg⟩,je rs rg k k1 rg1 p0 (fun i acc G' H' pv k' rg'=>?_) step fin hsz⟩;obtain⟨xs,e1,r⟩:=tE rg' (live i acc G' pv);have hl:=r.length;refine⟨fun hi=>⟨⟨xs,xs[i]'(by walk_at "o"),j_.of e1,by simp[show i < xs.length by walk_at "o"]⟩,fun x H2 y=>?_⟩,fun e=>⟨xs,j_.of e1,by walk_at "o"⟩⟩
  obtain⟨rfl,hx⟩:=y;refine⟨Kp.refl,rg',ds[i],by simp[hi],?_⟩
  obtain⟨y,e,q⟩:=r.get (i:=i) (d:=ds[i]) (by simp[hi])
  rw[hx xs (j_.of e1)]at e;cases e;exact q
 | lst ds=>
  obtain⟨hsz,Pv,p0,step,fin⟩:=q;exact⟨_,rfl,fun J it=>je rs rg k k1 rg1 p0 (fun i acc G' H' _ k' rg'=>it i G' H' k' rg') step fin hsz⟩
 | fl ds=>
  obtain⟨hsz,Pv,p0,step,fin⟩:=q;exact⟨_,rfl,fun J it=>je rs rg k k1 rg1 p0 (fun i acc G' H' _ k' rg'=>it i G' H' k' rg') step fin hsz⟩
 | tup ds=>
  obtain⟨hsz,Pv,p0,step,fin⟩:=q;exact⟨_,rfl,fun J it=>je rs rg k k1 rg1 p0 (fun i acc G' H' _ k' rg'=>it i G' H' k' rg') step fin hsz⟩
 | str z=>
  obtain⟨hsz,Pv,p0,step,fin⟩:=q;exact⟨_,rfl,fun J it=>je rs rg k k1 rg1 p0 (fun i acc G' H' _ k' rg'=>it i G' H' k' rg') step fin hsz⟩
 | _=>exact q.elim
theorem Bq(ok:CompOk X scope T M)
  (hin:∀ cl C s₀ H₀ fp,PG (bC X (T ++ M) scope cl C s₀ H₀ fp) tg (jd X.K g)/\EZ (bC X (T ++ M) scope cl C s₀ H₀ fp) ifs (cz X.K tt)/\PE (bC X (T ++ M) scope cl C s₀ H₀ fp) elt (ay X.K te))
  (hi:PE X iter (ay X.K tl)) (hs:∀ x,Nh iter X.env x=pure x:=by intro _;rfl):PE X (.ListComp elt [⟨tg,iter,ifs,0⟩] scope pos) (ay X.K (ud T.length tl g tt te)):=
 (Bo ok (fun cl C s₀ H₀ fp=>let ⟨a,b,c⟩:=hin cl C s₀ H₀ fp;⟨a,b,dB c⟩) (FF hi) hs).imp fun _ _ _ h=>A1 h
end
open PySem.W
abbrev IE(C t:Mg):Obj:={ cls:=.ref C,data:=.fields #[.ref t,.none,.none,.none,.bool false,.none] }
section
open Builtin Builtin.ObjectAttr
variable{prog:Mw}{w:MG}{A:MB}{K:Ow}{s:Mi}{x C:Mg}{o:Obj}{cd:ClassData}{name:Str}{v:Mf}
end
end L3
namespace L2
open PySem PySem.Spec PyProof.Rows
def Mb(n:Nat)(H:Hp)(h:MD)(x C dx:Mg):Prop:=n<=x/\H x=none/\∃ oe vs,h.get? x=some oe/\oe.cls=.ref C/\oe.dict=some dx/\oe.data=.fields vs/\
 (vs[1]?=some .none\/∃ T oT ts,vs[1]?=some (.ref T)/\T≠x/\n<=T/\H T=none/\h.get? T=some oT/\oT.data=.fields ts/\ts[3]?=some .none)
def Md(P:Mw)(w:MG):E2:=fun outer H s E e s'=>∃ x C dx H',e=.ref x/\s'.os=s.os/\O1 s'.gens/\Un (tY outer) [] H H' s.heap s'.heap/\iF P w H' s'.heap/\Mb s.heap.objs.size H' s'.heap x C dx/\s.heap.get? dx=none/\E (.ref C) (some dx) H'
open L3
def LL:List Mf:=[.type "ValueError",.type "Exception",.type "BaseException",.type "object"]
abbrev Gi(C t dx:Mg):Obj:={ cls:=.ref C,dict:=some dx,data:=.fields #[.ref t,.none,.none,.none,.bool false,.none] }
def AQ(H:Hp)(a:Mg):Hp:=fun b=>if b=a then none else H b
theorem Cu{H:Hp}{a:Mg}:AQ H a a=none:=by unfold AQ;rw[if_pos rfl]
theorem lF{H:Hp}{a b:Mg}(h:b≠a):AQ H a b=H b:=by unfold AQ;rw[if_neg h]
section
variable{X:Cx}{pins:List (Mg×Obj)}{σ:St}{H:Hp}{s:Mi}
theorem Inv.drop{x:Mg}{φ:MD->Prop}(I:Inv X pins σ H s)(e:H x=some (.ext φ))(hn:X.s₀.heap.objs.size<=x):Inv X pins σ (AQ H x) s:=by
 have non:∀ b,H b=none->AQ H x b=none:=fun b q=>by unfold AQ;split;rfl;exact q
 refine⟨I.ok,I.os,I.bare,⟨I.base.keep,I.base.slot,fun b o q n z=>non b (I.base.free b o q n z),I.base.there,fun b xs q=>?_,fun b o u q=>?_,fun b ps q=>?_⟩,I.loc,I.cell,non _ I.free,fun y c q=>non c (I.freeC y c q),fun p hp=>?_,fun b u q=>?_,I.len⟩
 ·have:=I.base.tups b xs q;rw[lF (fun z=>by rw[z,e]at this;cases this)];exact this
 ·have:=I.base.frzs b o u q;rw[lF (fun z=>by rw[z,e]at this;cases this)];exact this
 ·obtain⟨more,this⟩:=I.base.tbls b ps q;exact⟨more,by rw[lF (fun z=>by rw[z,e]at this;cases this)];exact this⟩
 ·obtain⟨a,b,c⟩:=I.pin p hp;exact⟨a,non _ b,c⟩
 ·have hb:b≠x:=fun z=>by rw[z,Cu]at q;cases q
  rw[lF hb]at q;refine (I.hok b u q).stay (fun _ _ _ z=>z) (fun c z=>?_) fun c ys z=>?_
  ·rw[lF (fun y=>by rw[y,e]at z;cases z)];exact z
  ·rw[lF (fun y=>by rw[y,e]at z;cases z)];exact z
end
section
variable{X:Cx}{C f:Mg}{a:Str}
def K_(C:Mg)(a:Str):Sp:=fun vs H Q _=>∃ x v t,vs=[.ref x,v]/\H x=some (XO x (IE C t))/\∀ dx,H dx=none->dx≠x->Q .non (aV (aV H dx (.xd [(a,v)])) x (XO x (Gi C t dx)))
end
open PySem.W
def Ends.un(i:Nat)(D:Ends):Ends:={ nx:=fun σ H=>D.nx (σ.set i none) H,rt:=D.rt,bk:=fun σ H=>D.bk (σ.set i none) H,ct:=fun σ H=>D.ct (σ.set i none) H }
end L2
namespace L3
open PySem PySem.Spec PyProof.Rows L2 PySem.W
abbrev XQ:=Mg->Str->D->Gp->Prop
def GF(K:Ow)(G:Gp)(H:Hp)(EQ:XQ)(E:XK):Prop:=∀ C a d G' v dx H',EQ C a d G'->Kp G H G' H'->RG K H' G'->G' dx=none->H' dx=some (.xd [(a,v)])->RD K H' d v->E (.ref C) (some dx) H'
theorem GF.base{K:Ow}{G G1:Gp}{H H1:Hp}{EQ:XQ}{E:XK}(f:GF K G H EQ E)(k:Kp G H G1 H1):GF K G1 H1 EQ E:=fun C a d G' v dx H' q k'=>f C a d G' v dx H' q (k.trans k')
abbrev KN:=List D->Gp->j9->XQ->Prop
def KL(K:Ow)(sp:KN):Sp:=fun vs H Q E=>∃ ds G Q3 EQ,RDs K H ds vs/\RG K H G/\sp ds G Q3 EQ/\uq K G H Q3 Q/\GF K G H EQ E
def Ends3.un(i:Nat)(D:Ends3):Ends3:={ nx:=fun σ G=>D.nx (σ.set i none) G,rt:=D.rt,bk:=fun σ G=>D.bk (σ.set i none) G,ct:=fun σ G=>D.ct (σ.set i none) G }
def AU(te:bn):bn:=fun σ G Q=>te σ G fun d G1=>∃ ds,d=.fl ds/\∀ p,G1 p=none->Q (.ref p) (gset G1 p (.lst ds))
theorem HX{X:Cx}{e:MJ}{te:bn}(he:PE X e (ay X.K te)):PE X e (ay X.K (AU te)):=
 he.imp fun τ H Q ⟨σ,G,Q3,rs,rg,h,k⟩=>⟨σ,G,_,rs,rg,h,fun d G' v H' q k' rg' re=>by
  obtain⟨ds,rfl,q⟩:=q;obtain⟨p,xs,rfl,e1,e2,e3,e4⟩:=re.fl;exact k (.ref p) _ _ H' (q p e2) (DX k' e4) (DW rg' e1 e3) (.of eK)⟩
open PySem.SeqAt
def Lk:R3:=fun x y G Q=>∃ ds:List D,(rT G x=some ds/\rT G y=some ds/\∀ d∈ds,pl 7 d)/\Q (.bl true) G
def Ih:R3:=fun x y G Q=>∃ ds:List D,(rT G x=some ds/\rT G y=some ds/\∀ d∈ds,pl 7 d)/\Q (.bl false) G
section
variable{X:Cx}{pins:List (Mg×Obj)}{σ:St}{H:Hp}{s:Mi}{G:Gp}{x y:D}{v u:V}{v' u':Mf}{ds:List D}
theorem Ah(hu:X.A.units+8 < MT)(I:L2.Inv X pins σ H s)(rg:RG X.K H G)(rv:aB v v')(ru:aB u u')(rx:RD X.K H x v)(ry:RD X.K H y u)(e1:rT G x=some ds)(e2:rT G y=some ds)(hp:∀ d∈ds,pl 7 d):
  RcAt X.A s v' u' true/\RcNeAt X.A s v' u' false:=by
 obtain⟨a,xs,rfl,s1,r1⟩:=jz (G:=G) (H:=H) e1 (.of rx) rg;obtain⟨b,ys,rfl,s2,r2⟩:=jz (G:=G) (H:=H) e2 (.of ry) rg;cases rv;cases ru;obtain⟨its,w1,t1,z1⟩:=I.list s1;obtain⟨its2,w2,t2,z2⟩:=I.list s2;have l1:=w1.length;have l1':=r1.length;have l2:=w2.length;have l2':=r2.length;have he:∀ j (h1:j < its.toArray.size) (h2:j < its2.toArray.size),EqAt X.A.in1 s its.toArray[j] its2.toArray[j] ((fun _=>true) j):=by
  intro j h1 h2;obtain⟨x1,e1,q1⟩:=Vals.getV (i:=j) (u:=its.toArray[j]) w1 (by simp at h1;simp[h1])
  obtain⟨x2,e2,q2⟩:=Vals.getV (i:=j) (u:=its2.toArray[j]) w2 (by simp at h2;simp[h2])
  obtain⟨d1,f1,g1⟩:=RDs.getV r1 e1;obtain⟨d2,f2,g2⟩:=RDs.getV r2 e2;rw[f1]at f2;cases f2;have p:=hp _ (Mv f1);have:=(ug (A:=X.A.in1) I 7 p p g1 g2 q1 q2 (by show X.A.units+1+7 < MT;omega)).eq
  rwa[aY]at this
 have rc:=RcAt.lists (A:=X.A) t1.isList t2.isList (by simp only[Mt];omega) (by walk_at "o") he
 have rn:=RcNeAt.lists (A:=X.A) t1.isList t2.isList (by simp only[Mt];omega) (by walk_at "o") he
 have ea:(List.range its.toArray.size).all (fun _=>true)=true:=by simp
 rw[ea]at rc rn;exact⟨rc,rn⟩
end
theorem Ji{X:Cx}(hu:X.A.units+8 < MT):gW X (MS .NotEq) (jx X.K Ih):=by
 rintro pins s σ H v u v' u' Q I rv ru ⟨x,y,G,Q3,rx,ry,rg,⟨ds,⟨e1,e2,hp⟩,h⟩,k⟩
 exact (Ah hu I rg rv ru rx ry e1 e2 hp).2 X.prog X.w X.xe _ ⟨.bl false,H,I,rfl,k _ G _ H h Kp.refl rg (.of eU)⟩
structure FnM(K:Ow)(n q:Str)(st:ML)(dV:Mf)(f:Mg):Prop where
 ex:∃ (oc:Mf) (od an:Option Mg) (sl:Array (Option Mf)) (kV dc pm cd ct:Mf),K.lookup f=some ⟨oc,od,.func (Qh n q (cM st) (b8 st) (ag st) dV kV dc pm an cd ct),sl⟩/\P9 K cd q=true
structure FnG(K:Ow)(n:Str)(st:ML):Prop where
 ex:∃ f,nsIn K Mx n=some (some (.ref f))/\FnM K n n st .none f/\Pe K (.ref f)=true
structure MtG(K:Ow)(C:Mg)(n q:Str)(st:ML):Prop where
 ex:∃ f,Meth K C n f/\FnM K n q st .none f
structure CfG(K:Ow)(C:Mg)(n q:Str)(st:ML):Prop where
 ex:∃ f,(specialIn K (.ref C) "__getattribute__"=some (some (.builtin "type.__getattribute__"))/\readsIn K C (.type "type")=true/\findCls K (.ref C) (.type "type") n=some (.val (.ref f))/\Pe K (.ref f)=true)/\FnM K n q st .none f
structure MtD(K:Ow)(C:Mg)(n q:Str)(st:ML)(x:Str):Prop where
 ex:∃ f t,Meth K C n f/\FnM K n q st (.ref t) f/\∃ (oc:Mf) (od:Option Mg) (tk:Tok) (nt:Nat) (sl:Array (Option Mf)),K.lookup t=some ⟨oc,od,.seq #[.str x tk] nt,sl⟩
section
variable{K:Ow}{n q:Str}{st:ML}{f C t:Mg}{oc oc' dV kV dc pm cd ct:Mf}{od od' an:Option Mg}{sl sl':Array (Option Mf)}
theorem t7(l:K.lookup f=some ⟨oc,od,.func (Qh n q (cM st) (b8 st) (ag st) dV kV dc pm an cd ct),sl⟩)(c:P9 K cd q=true):FnM K n q st dV f:=⟨_,_,_,_,_,_,_,_,_,l,c⟩
theorem fnG_mk(a:nsIn K Mx n=some (some (.ref f)))(l:K.lookup f=some ⟨oc,od,.func (Qh n n (cM st) (b8 st) (ag st) .none kV dc pm an cd ct),sl⟩)(c:P9 K cd n=true)(k:Pe K (.ref f)=true):FnG K n st:=⟨f,a,t7 l c,k⟩
theorem mtG_mk(a:findIn K (.ref C) n=some (some (.ref f)))(i:isFn K (.ref f)=true)(l:K.lookup f=some ⟨oc,od,.func (Qh n q (cM st) (b8 st) (ag st) .none kV dc pm an cd ct),sl⟩)(c:P9 K cd q=true)(k:Pe K (.ref f)=true):MtG K C n q st:=⟨f,⟨a,i,k⟩,t7 l c⟩
theorem cfG_mk(g:specialIn K (.ref C) "__getattribute__"=some (some (.builtin "type.__getattribute__")))(r:readsIn K C (.type "type")=true)(a:findCls K (.ref C) (.type "type") n=some (.val (.ref f)))(l:K.lookup f=some ⟨oc,od,.func (Qh n q (cM st) (b8 st) (ag st) .none kV dc pm an cd ct),sl⟩)(c:P9 K cd q=true)(k:Pe K (.ref f)=true):CfG K C n q st:=⟨f,⟨g,r,a,k⟩,t7 l c⟩
theorem mtD_mk{x:Str}{tk:Tok}{nt:Nat}(a:findIn K (.ref C) n=some (some (.ref f)))(i:isFn K (.ref f)=true)(l:K.lookup f=some ⟨oc,od,.func (Qh n q (cM st) (b8 st) (ag st) (.ref t) kV dc pm an cd ct),sl⟩)(c:P9 K cd q=true)(k:Pe K (.ref f)=true)(d:K.lookup t=some ⟨oc',od',.seq #[.str x tk] nt,sl'⟩):MtD K C n q st x:=⟨f,t,⟨a,i,k⟩,t7 l c,_,_,_,_,_,d⟩
end
def Ja(n q:Str)(st:ML)(ps:List Str):Prop:=∀ (kV dc pm:Mf) (an:Option Mg) (cd ct:Mf) (us:List Mf),us.length=ps.length->bindArgs (Qh n q (cM st) (b8 st) (ag st) .none kV dc pm an cd ct) ⟨us,[]⟩=pure (ps.zip us)
section
variable(P:Mw)(w:MG)(base:MD){K:Ow}{h:MD}{mg:Str->Option Mf}{k:Nat}{n q x:Str}{st:ML}{ps:List Str}{sp:br}{C:Mg}
theorem L5(X:K.In h)(G:h.Ns Mx mg)(H:FnG K n st)(ok:∀ {f fd},Fun3 K n n st f fd->FnOk P w K mg base pj k f fd ps (bN K sp))(b:Ja n n st ps:=by walk_at "b"):Fn3 P w K mg base k n [] sp:=by
 obtain⟨f,a,⟨⟨_,_,_,_,_,_,_,_,_,l,c⟩⟩,kp⟩:=H.ex;exact⟨_,_,_,[],[],ok (iC l c),QJ X G a,kp,.all (b _ _ _ _ _ _),.nil,fun _=>RDs.nil⟩
theorem F0(cl:Cls K C)(H:MtG K C n q st)(ok:∀ {f fd},Fun3 K n q st f fd->FnOk P w K mg base pj k f fd ps (bN K sp))(b:Ja n q st ps:=by walk_at "b"):Mt3 P w K mg base k C n [] sp:=by
 obtain⟨f,a,⟨⟨_,_,_,_,_,_,_,_,_,l,c⟩⟩⟩:=H.ex;exact⟨cl,_,_,_,[],[],ok (iC l c),a,.all (b _ _ _ _ _ _),.nil,fun _=>RDs.nil⟩
theorem JV(X:K.In h)(G:h.Ns Mx mg)(ca:nsIn K Mx x=some (some (.ref C)))(m:makesIn K C=true)(kc:Pe K (.ref C)=true)(H:MtG K C "__init__" q st)(ok:∀ {f fd},Fun3 K "__init__" q st f fd->FnOk P w K mg base pj k f fd ps (bN K sp))(b:Ja "__init__" q st ps:=by walk_at "b"):Mk3 P w K mg base k x C [] sp:=by
 obtain⟨f,a,⟨⟨_,_,_,_,_,_,_,_,_,l,c⟩⟩⟩:=H.ex;exact⟨_,_,_,[],[],⟨m,a.at_,a.fn,kc⟩,QJ X G ca,ok (iC l c),.all (b _ _ _ _ _ _),.nil,fun _=>RDs.nil⟩
theorem L7(X:K.In h)(G:h.Ns Mx mg)(ca:nsIn K Mx x=some (some (.ref C)))(H:CfG K C n q st)(ok:∀ {f fd},Fun3 K n q st f fd->FnOk P w K mg base pj k f fd ps (bN K sp))(b:Ja n q st ps:=by walk_at "b"):Cf3 P w K mg base k x n [] sp:=by
 obtain⟨f,⟨g,r,a,kp⟩,⟨⟨_,_,_,_,_,_,_,_,_,l,c⟩⟩⟩:=H.ex;exact⟨C,_,_,_,[],[],ok (iC l c),QJ X G ca,g,r,a,kp,.all (b _ _ _ _ _ _),.nil,fun _=>RDs.nil⟩
theorem Ll(cl:Cls K C)(H:MtD K C n q st x)(b:∀ {t kV dc pm an cd ct oc od tk nt sl},K.lookup t=some ⟨oc,od,.seq #[.str x tk] nt,sl⟩->eA K (Qh n q (cM st) (b8 st) (ag st) (.ref t) kV dc pm an cd ct) ps [])(ok:∀ {f fd},Fun3 K n q st f fd->FnOk P w K mg base pj k f fd ps (bN K sp)):Mt3 P w K mg base k C n [] sp:=by
 obtain⟨f,t,a,⟨⟨_,_,_,_,_,_,_,_,_,l,c⟩⟩,_,_,_,_,_,d⟩:=H.ex;exact⟨cl,_,_,_,[],[],ok (iC l c),a,b d,.nil,fun _=>RDs.nil⟩
end
theorem _root_.L2.Room.m{j k:Nat}{A:MB}(h:Room k A)(d:j<=k:=by decide):Room j A:=h.mono d
section
variable{P:Mw}{w:MG}{base:MD}{K:Ow}{h:MD}{mg:Str->Option Mf}{n q x:Str}{st:ML}{N ps:List Str}{sp:br}{spx:KN}{rd:bP}{rx:XQ->bP}{C f:Mg}{fd:NB}
abbrev LI(P:Mw)(w:MG)(K:Ow)(mg:Str->Option Mf)(base:MD)(k:Nat)(N:List Str)(q:Str)(st:ML)(rd:bP):Prop:=∀ {f:Mg} {cdv:Mf} {A:MB} {outer:List Env} {s:Mi} {H:Hp} {E:XK},Room k (A.deeper (Os q (ag st) s.heap.objs.size f cdv))->(A.deeper (Os q (ag st) s.heap.objs.size f cdv)).units+8 < MT->(A.deeper (Os q (ag st) s.heap.objs.size f cdv)).units+4 < MT->nj (zB pj P w K mg base N q (ag st) f cdv A outer s H E).nox (b8 st) (bO K rd)
theorem zV(k:Nat)(F:Fun3 K n q st f fd)(S:FnScope N ps (ag st))(len:∀ ds G Q,sp ds G Q->ds.length=ps.length)(rok:∀ ds G Q,sp ds G Q->rd { nx:=fun _ G'=>Q .non G',rt:=Q } (cC N ds) G)(d:LI P w K mg base k N q st rd):FnOk P w K mg base pj (k+1) f fd ps (bN K sp):=
 Fun3.ok3 F S len fun _ _ _ _ _ _ hr=>⟨rd,d hr (by have:=hr.units;omega) (by have:=hr.units;omega),rok⟩
variable(P w base)
theorem oZ(X:K.In h)(G:h.Ns Mx mg)(H:FnG K n st)(k:Nat)(S:FnScope N ps (ag st))(len:∀ ds G Q,sp ds G Q->ds.length=ps.length)(rok:∀ ds G Q,sp ds G Q->rd { nx:=fun _ G'=>Q .non G',rt:=Q } (cC N ds) G)(d:LI P w K mg base k N n st rd)(b:Ja n n st ps:=by walk_at "b"):Fn3 P w K mg base (k+1) n [] sp:=L5 P w base X G H (fun F=>zV k F S len rok d) b
variable(mg) in
theorem rZ(cl:Cls K C)(H:MtG K C n q st)(k:Nat)(S:FnScope N ps (ag st))(len:∀ ds G Q,sp ds G Q->ds.length=ps.length)(rok:∀ ds G Q,sp ds G Q->rd { nx:=fun _ G'=>Q .non G',rt:=Q } (cC N ds) G)(d:LI P w K mg base k N q st rd)(b:Ja n q st ps:=by walk_at "b"):Mt3 P w K mg base (k+1) C n [] sp:=F0 P w base cl H (fun F=>zV k F S len rok d) b
end
section
variable{P:Mw}{w:MG}{K:Ow}{H:Hp}{G:Gp}{h:MD}{a:Mg}{o:Obj}
theorem Ek(rg:RG K H G)(e:G a=some (.fx o)):H a=some (XO a o):=by
 obtain⟨h,e1,r⟩:=rg a _ e;cases h with
 | ext φ=>
  rw[e1];have r':φ=fun h=>h.get? a=some o:=r;rw[r'];rfl
 | _=>exact r.elim
theorem yK(e:h.get? a=some o):bD P w H h a (XO a o):=⟨e,⟨o,e⟩,fun _ _ p q=>q _ p⟩
theorem xj(rg:RG K H G)(ok:iF P w H h)(e:G a=some (.fx o)):h.get? a=some o:=(ok a _ (Ek rg e)).1
theorem iF.track{u:HO}(x:iF P w H h)(hn:H a=none)(new:bD P w (aV H a u) h a u):iF P w (aV H a u) h:=fun b v e=>by
 by_cases hb:b=a
 ·subst hb;rw[aG]at e;cases e;exact new
 ·rw[ar hb]at e;exact (x b v e).stay (fun _ _ _ q=>q) (fun c q=>by rw[ar (ba q hn)];exact q) fun c xs q=>by rw[ar (ba q hn)];exact q
end
def E1(q:Str)(G:Gp)(c:Mg):Prop:=∃ oc vs t,G c=some (.fx oc)/\oc.data=.fields vs/\vs[1]?=some (.str q t)
def xJ(pos:Pos)(q:Str)(P:Mg)(G:Gp):Prop:=G P=some (.fx (NI #[]))\/∃ c,G P=some (.fx (NI #[M9 pos.line,M9 pos.col,.ref c]))/\E1 q G c
def Hx(i:Nat)(P:Mg)(pos:Pos)(q:Str)(κ:Obj->Mg->Prop):bP:=fun D σ G=>xJ pos q P G/\∀ G' f fo c,G f=none->f≠P->G' f=some (.fx fo)->κ fo c->E1 q G' c->xJ pos q P G'->(∀ b u,b≠P->G b=some u->G' b=some u)->D.nx (σ.set i (some (.ref f))) G'
def KH(base:MD)(mg:Str->Option Mf):Prop:=∃ bm ob,mg "__builtins__"=some (.ref bm)/\bm≠Qa/\base.get? bm=some ob/\ob.cls=.type "module"/\ob.dict=some Qa/\ob.data=.plain
theorem Bf{P:Mg}{pos:Pos}{q:Str}{G:Gp}(h:xJ pos q P G):∃ ps:Array Mf,G P=some (.fx (NI ps))/\TriplesOk ps.toList/\((codeAmong pos ps.toList=none/\ps=#[])\/∃ c,codeAmong pos ps.toList=some (.ref c)/\E1 q G c):=by
 rcases h with h|⟨c,h,hc⟩
 ·exact⟨_,h,trivial,.inl ⟨rfl,rfl⟩⟩
 ·exact⟨_,h,trivial,.inr ⟨c,codeAmong_snoc [] trivial rfl,hc⟩⟩
theorem Ds{K:Ow}{H:Hp}{G:Gp}{a:Mg}{o:Obj}(rg:RG K H G)(hn:H a=none):Kp G H (gset G a (.fx o)) (aV H a (XO a o))/\RG K (aV H a (XO a o)) (gset G a (.fx o)):=by
 have kp:Kp G H (gset G a (.fx o)) (aV H a (XO a o)):=fun b h e n=>by
  have ne:=ba e hn;exact⟨by rw[ar ne];exact e,by rw[ai ne];exact n⟩
 refine⟨kp,fun b u q=>?_⟩
 by_cases hb:b=a
 ·subst hb;rw[au]at q;cases q;exact⟨_,aG,rfl⟩
 ·rw[ai hb]at q;obtain⟨h,q1,q2⟩:=rg b u q;exact⟨h,by rw[ar hb];exact q1,q2.mono (kp.stb rg)⟩
theorem JB{X:Cx}{i:Nat}{name:Str}{params:PM}{body:List ML}{scope:NV}{pos:Pos}{c P:Mg}{clos:List (Str×Mg)}{qn:Str}(hq:Ps X.env name name=qn)(hN:X.N.Nodup)(hi:X.N[i]?=some name)(hx:Hd X.env.scope name)(hcl:P_ scope X.env=pure clos)(RI:X.env.code=.ref c)(C:CodeHd X.base c P)(hB:KH X.base X.mg)
  (hd0:params.defaults=[]:=by rfl) (hk0:params.kw_defaults=[]:=by rfl) (ha:annTrees params none X.env=[]:=by rfl) (hf:X.fn name=true\/X.env.scope.names.lookup name=some .local:=by first|exact .inl rfl|exact .inr rfl|assumption):
  PS X (.FunctionDef name params body [] none [] scope none name pos) (bO X.K (Hx i P pos qn fun fo c'=>∃ doc pm ctv,fo=fnMade name qn params body scope clos doc pm c' ctv)):=by
 subst hq
 rintro pins s τ H D I ⟨σ,G,D3,rs,rg,⟨tab,nx⟩,ends⟩
 obtain⟨ps,gP,ht,tb⟩:=Bf tab;have hP:s.heap.get? P=some (NI ps):=xj rg I.hok gP;have hPn:H P=some (XO P (NI ps)):=Ek rg gP;have hgs:s.heap.Ns Mx X.mg:=I.mod.glob.keeps I.bk;obtain⟨bm,ob,b1,b2,b3,b4,b5,b6⟩:=hB;have hgP:Mx≠P:=fun q=>by
  obtain⟨o,es,ep,e,hd,_⟩:=hgs;rw[q,hP]at e;cases e;cases hd
 have hbP:bm≠P:=fun q=>by
  have e:=I.bk _ _ b3;rw[q,hP]at e;cases e;cases b4
 have hbG:bm≠Mx:=fun q=>by
  obtain⟨o,es,ep,e,hd,_⟩:=I.mod.glob;rw[q,e]at b3;cases b3;rw[hd]at b6;cases b6
 have hb:s.heap.BuiltinsAt X.mg P:=⟨bm,ob,b1,b2,hbG,hbP,I.bk _ _ b3,b4,b5,b6⟩;refine nestDef_K hd0 hk0 ha ?_;rcases tb with ⟨hnf,rfl⟩|⟨c1,hf1,cod⟩
 ·refine makeFunction_K hcl I.ok.glob hgs RI (C.keeps I.bk) hP ht hnf hgP hb fun c' ctv doc h' tk hx' hge hlt RT htb=>?_;obtain⟨c2,oc,vs,t,e2,hoc,hd,hv⟩:=RT;cases e2;have lt:∀ b u,H b=some u->b < s.heap.objs.size:=fun b u e=>I.hok.lt e;have nP:∀ b,H b=none->b≠P:=fun b e z=>by rw[z,hPn]at e;cases e
  have fc:H c'=none:=I.hok.fresh hge;have ff:H h'.objs.size=none:=I.hok.fresh (le_trans hge (le_of_lt hlt));have cf:h'.objs.size≠c':=Pc hlt;have cP:c'≠P:=nP _ fc;have fP:h'.objs.size≠P:=nP _ ff;generalize hfo:fnMade name (Ps X.env name name) params body scope clos doc ((X.mg "__name__").getD .none) c' ctv=fo;have fre:fo.isFreed=false:=by rw[<- hfo];rfl
  have pu:∀ b o,h'.get? b=some o->(h'.push fo).get? b=some o:=fun b o e=>Mm _ e;have ok1:iF X.prog X.w (aV H P (XO P (NI #[M9 pos.line,M9 pos.col,.ref c']))) h':=I.hok.write (by rw[hPn];trivial) (.inl rfl) (fun b u ne e=>hx' b u ne e) ⟨_,htb⟩ (yK htb)
  have ok2:=iF.track ok1 (a:=c') (u:=XO c' oc) (by rw[ar cP];exact fc) (yK hoc)
  have n3:aV (aV H P (XO P (NI #[M9 pos.line,M9 pos.col,.ref c']))) c' (XO c' oc) h'.objs.size=none:=by rw[ar cf,ar fP];exact ff
  have ok3:=iF.laid ok2 (h':=h'.push fo) (a:=h'.objs.size) (o:=XO h'.objs.size fo) pu (le_refl _) (yK (Mn _ fre));have old:∀ b,b≠P->b < s.heap.objs.size->aV (aV (aV H P (XO P (NI #[M9 pos.line,M9 pos.col,.ref c']))) c' (XO c' oc)) h'.objs.size (XO h'.objs.size fo) b=H b:=fun b n l=>by
   rw[ar (MO (MH l (le_trans hge (le_of_lt hlt)))),ar (MO (MH l hge)),ar n]
  have kept:∀ b o,s.heap.get? b=some o->H b=none->(h'.push fo).get? b=some o:=fun b o e n=>pu b o (hx' b o (nP b n) e);have ext:∀ b u,H b=some u->¬ (∃ φ,u=.ext φ)->aV (aV (aV H P (XO P (NI #[M9 pos.line,M9 pos.col,.ref c']))) c' (XO c' oc)) h'.objs.size (XO h'.objs.size fo) b=some u:=fun b u e n=>by
   rw[old b (fun z=>by rw[z,hPn]at e;cases e;exact n ⟨_,rfl⟩) (lt b u e),e]
  have un:Un X.fs [] H (aV (aV (aV H P (XO P (NI #[M9 pos.line,M9 pos.col,.ref c']))) c' (XO c' oc)) h'.objs.size (XO h'.objs.size fo)) s.heap (h'.push fo):=
   ⟨fun b o e n _ _=>kept b o e n,fun b o e n _ _=>⟨o.slots,kept b o e n⟩,fun b o e n _=>by rw[old b (nP b n) (Mu e)];exact n,fun b o e _=>by
    by_cases hb:b=P
    ·exact⟨_,pu _ _ (by rw[hb];exact htb)⟩
    ·exact⟨o,pu _ _ (hx' b o hb e)⟩,fun b xs e=>ext b _ e fun⟨_,z⟩=>(nomatch z),fun b o u e=>ext b _ e fun⟨_,z⟩=>(nomatch z),fun b q e=>⟨#[],by rw[Array.append_empty];exact ext b _ e fun⟨_,z⟩=>(nomatch z)⟩⟩
  have I3:=I.un (t':=tk) un ok3;obtain⟨k1,r1⟩:=tX (a:=P) (o:=.fx (NI #[M9 pos.line,M9 pos.col,.ref c'])) (ho:=XO P (NI #[M9 pos.line,M9 pos.col,.ref c'])) rg (by rw[gP];exact fun z=>nomatch z) fun _ _=>rfl
  obtain⟨k2,r2⟩:=Ds (o:=oc) r1 (a:=c') (by rw[ar cP];exact fc)
  obtain⟨k3,r3⟩:=Ds (o:=fo) r2 (a:=h'.objs.size) n3;refine nw I3 hN hi hx (v:=.ref h'.objs.size) rfl (fun s2 I4=>?_) hf;have kk:=(k1.trans k2).trans k3;have Gf:G h'.objs.size=none:=rg.free ff;have Gc:G c'=none:=rg.free fc;have cod:E1 (Ps X.env name name) (gset (gset (gset G P (.fx (NI #[M9 pos.line,M9 pos.col,.ref c']))) c' (.fx oc)) h'.objs.size (.fx fo)) c':=⟨oc,vs,t,by rw[ai cf.symm,au],hd,hv⟩
  refine⟨_,_,I4,ends.nx _ _ _ _ (nx _ h'.objs.size fo c' Gf fP au ⟨doc,_,ctv,hfo.symm⟩ cod (.inr ⟨c',by rw[ai fP.symm,ai cP.symm,au],cod⟩) fun b u n e=>?_) kk r3 (RS.set eK i (rs.mono (kk.stb rg)))⟩
  have nb:b≠h'.objs.size:=fun z=>by rw[z,Gf]at e;cases e
  have nc:b≠c':=fun z=>by rw[z,Gc]at e;cases e
  rw[ai nb,ai nc,ai n];exact e
 ·refine makeFunction_hit hcl I.ok.glob hgs RI (C.keeps I.bk) hP ht hf1 hb fun ctv doc h' tk kp hsz=>?_;generalize hfo:({ cls:=.type "function",data:=.func (fnX name (Ps X.env name name) params body scope clos .none .none doc ((X.mg "__name__").getD .none) none (.ref c1) ctv) }:Obj)=fo;have fre:fo.isFreed=false:=by rw[<- hfo];rfl
  have ff:H h'.objs.size=none:=I.hok.fresh hsz;have fP:h'.objs.size≠P:=fun z=>by rw[z,hPn]at ff;cases ff
  have I3:=I.laid (a:=h'.objs.size) (o:=XO h'.objs.size fo) (h':=h'.push fo) (t':=tk) (fun b u e=>Mm _ (kp b u e)) hsz (yK (Mn _ fre));obtain⟨k3,r3⟩:=Ds (o:=fo) rg (a:=h'.objs.size) ff;have Gf:G h'.objs.size=none:=rg.free ff;refine nw I3 hN hi hx (v:=.ref h'.objs.size) rfl (fun s2 I4=>?_) hf;have sub:∀ b u,G b=some u->gset G h'.objs.size (.fx fo) b=some u:=fun b u e=>by rw[ai (fun z=>by rw[z,Gf]at e;cases e)];exact e
  obtain⟨oc,vs,t,g1,g2,g3⟩:=cod;have Sh:E1 (Ps X.env name name) (gset G h'.objs.size (.fx fo)) c1:=⟨oc,vs,t,sub _ _ g1,g2,g3⟩;refine⟨_,_,I4,ends.nx _ _ _ _ (nx _ h'.objs.size fo c1 Gf fP au ⟨doc,_,ctv,hfo.symm⟩ Sh ?_ fun b u _ e=>sub b u e) k3 r3 (RS.set eK i (rs.mono (k3.stb rg)))⟩;rcases tab with z|⟨c2,z,⟨oc,vs,t,g1,g2,g3⟩⟩
  ·exact .inl (sub _ _ z)
  ·exact .inr ⟨c2,sub _ _ z,oc,vs,t,sub _ _ g1,g2,g3⟩
structure CelAt(b:MD)(cl:List (Str×Mg))(fr:List Str)(vs:List V):Prop where
 len:fr.length=vs.length
 at_:∀ (i:Nat) (x:Str) (v:V),fr[i]?=some x->vs[i]?=some v->∃ c u,cl.lookup x=some c/\b.IsCell c (some u)/\aB v u
 dom:∀ x c,cl.lookup x=some c->x∈fr
 inj:∀ x y c,cl.lookup x=some c->cl.lookup y=some c->x=y
structure CloScope(x:Str)(fr:List Str)(sc:NV):Prop where
 kind:sc.kind=.function
 co:sc.isCoroutine=false
 gen:sc.isGenerator=false
 par:sc.names.lookup x=some .local
 fre:∀ y∈fr,sc.names.lookup y=some .free
 has:∀ y∈sc.names,y.2=.free->y.1∈fr
 nocell:∀ y∈sc.names,y.2≠.cell
def Kb(P:Mw)(w:MG)(K:Ow)(mg:Str->Option Mf)(base:MD)(N:List Str)(qual:Str)(scope:NV)(f:Mg)(cd:Mf)(cl:List (Str×Mg))(A:MB)(outer:List Env)(s:Mi)(H:Hp):Cx where
 prog:=P
 w:=w
 K:=K
 mg:=mg
 base:=base
 A:=A.deeper (envX qual scope s.heap.objs.size f cd cl)
 N:=N
 s₀:=s
 H₀:=H
 env:=envX qual scope s.heap.objs.size f cd cl
 outer:=outer
 stack:=envX qual scope s.heap.objs.size f cd cl::outer
 ex:=[]
 calm:=true
 fn:=fun _=>false
 pn:=[]
 xe:=fun _ _=>False
section
variable{P:Mw}{w:MG}{K:Ow}{mg:Str->Option Mf}{base:MD}
theorem Ga{x qual:Str}{fr:List Str}{scope:NV}{f:Mg}{cd u:Mf}{cl:List (Str×Mg)}{A:MB}{outer:List Env}{s:Mi}{h1:MD}{tk:Nat}{H:Hp}{v:V}{cvs:List V}(S:CloScope x fr scope)(C:CelAt base cl fr cvs)(hd:A.handled=none)(e0:Env0 P w K mg base A outer s H)(r:aB v u)
  (hns:h1.Ns s.heap.objs.size fun y=>[(x,u)].reverse.lookup y) (hk:∀ b o,s.heap.get? b=some o->h1.get? b=some o):
  Inv (Kb P w K mg base (x::fr) qual scope f cd cl A outer s H) [] (some v::cvs.map some) H { s with heap:=h1,toks:=tk }:=by
 have noA:∀ b:Mg,b∉(Kb P w K mg base (x::fr) qual scope f cd cl A outer s H).ex:=fun b z=>absurd (show b∈([]:List Mg)from z) (by simp)
 have cell:∀ y c,cl.lookup y=some c->∃ u,base.IsCell c (some u):=fun y c e=>by
  obtain⟨i,hi,e2⟩:=mem_iff_getElem.mp (C.dom y c e);have e3:fr[i]?=some y:=by rw[Mp hi,e2]
  obtain⟨c',u',z1,z2,_⟩:=C.at_ i y (cvs[i]'(by rw[<- C.len];exact hi)) e3 (Mp _)
  rw[e]at z1;cases z1;exact⟨u',z2⟩
 refine⟨⟨e0.mod,S.kind,rfl,rfl,le_refl _,C.inj,fun y hy=>?_,fun y c z=>absurd (show (false=true)from z) (by decide),fun _=>hd,QP e0.frames,.inr ⟨rfl,rfl⟩,fun b z=>absurd z (noA b),e0.bs,e0.bsz,fun b _ _=>noA b,fun b z=>absurd z (noA b),e0.funs,e0.frf⟩,
  rfl,e0.bare,Un.kept hk,⟨_,hns,fun i y v' g1 g2 g3=>?_⟩,fun y c e=>?_,e0.hok.fresh (le_refl _),fun y c e=>?_,fun p hp=>absurd (show p∈([]:List (Mg×Obj))from hp) (by simp),e0.hok.kept hk,?_⟩
 ·have hy:scope.names.lookup y=some .cell\/scope.names.lookup y=some .free:=hy;rcases hy with hy|hy
  ·exact absurd rfl (S.nocell _ (PySem.mem_of_lookup hy))
  ·obtain⟨i,hi,e2⟩:=mem_iff_getElem.mp (S.has _ (PySem.mem_of_lookup hy) rfl);obtain⟨c,u',z1,_⟩:=C.at_ i y (cvs[i]'(by rw[<- C.len];exact hi)) (by rw[Mp hi,e2]) (Mp _)
   exact⟨c,z1⟩
 ·cases i with
  | zero=>
   have g1':x=y:=Option.some.inj g1;have g2':v=v':=Option.some.inj (Option.some.inj g2);subst g1' g2';exact⟨u,r,.inl ⟨S.par,by simp⟩⟩
  | succ i=>
   have g1':fr[i]?=some y:=g1;have g2':(cvs.map some)[i]?=some (some v'):=g2;rw[MA]at g2';cases q:cvs[i]? with
   | none=>rw[q]at g2';cases g2'
   | some v2=>
    rw[q]at g2';cases g2';obtain⟨c,u',z1,⟨o,z2,z3⟩,z4⟩:=C.at_ i y _ g1' q;exact⟨u',z4,.inr ⟨.inr (S.fre y (Mv g1')),c,z1,o,hk _ _ (e0.bs _ _ z2).1,z3⟩⟩
 ·obtain⟨u',o,z2,z3⟩:=cell y c e;exact⟨_,o,hk _ _ (e0.bs _ _ z2).1,z3⟩
 ·obtain⟨u',o,z2,z3⟩:=cell y c e;exact (e0.bs _ _ z2).2
 ·show (some v::cvs.map some).length=(x::fr).length;rw[MC,MC,Ml,C.len]
theorem ID{k:Nat}{f:Mg}{fo:Obj}{x name qual:Str}{params:PM}{body:List ML}{scope:NV}{cl:List (Str×Mg)}{dV kV doc pm cdv ct:Mf}{an:Option Mg}{fr:List Str}{sp:Sp}{cvs:List V}(hfo:fo.data=.func (fnX name qual params body scope cl dV kV doc pm an cdv ct))(S:CloScope x fr scope)(C:CelAt base cl fr cvs)
  (len:∀ vs H Q E,sp vs H Q E->vs.length=1) (hat:∀ vs H Q E h,sp vs H Q E->iF P w H h->h.get? f=some fo/\h.CodeRec cdv qual)
  (Rl:∀ (A:MB) (outer:List Env) (s:Mi) (H:Hp) (vs:List V) (Q:VK) (E:XK),Room k (A.deeper (envX qual scope s.heap.objs.size f cdv cl))->sp vs H Q E->∃ t,nj (Kb P w K mg base (x::fr) qual scope f cdv cl A outer s H) body t/\t { nx:=fun _ H'=>Q .non H',rt:=Q } (vs.map some ++ cvs.map some) H):
  FnOk P w K mg base pj (k+1) f (fnX name qual params body scope cl dV kV doc pm an cdv ct) [x] sp:=by
 refine⟨len,fun A outer s H args us vs Q E hr e0 hb r hsp=>?_⟩;have hl:=len _ _ _ _ hsp;obtain⟨v,rfl⟩:=List.length_eq_one_iff.mp hl;obtain⟨u,rfl⟩:=List.length_eq_one_iff.mp (r.length.symm.trans hl);have ru:aB v u:=by cases r;assumption
 have lim:s.heap.NoLimit:=e0.mod.nolimit.keeps fun b o e=>(e0.bs b o e).1;obtain⟨hf,hcd⟩:=hat _ H Q E s.heap hsp e0.hok;refine QE hr.depth hf hfo S.co S.gen rfl hcd (hb _ _ _ _ ?_);refine QG S.nocell (fun y hy=>?_) (fun h1 hns hsb=>?_) S.kind
 ·have:y=(x,u):=Qg.mp hy;rw[this];exact S.par
 ·have hk:∀ b o,s.heap.get? b=some o->h1.get? b=some o:=fun b o e=>(hsb.2 b (MO (Mu e))).trans (Mm _ e);refine⟨lim.keeps hk,codeAny_func ?_⟩;obtain⟨t,ht,hq⟩:=Rl A outer s H [v] Q E (hr.deeper _) hsp;have I:=Ga (qual:=qual) (f:=f) (cd:=cdv) (tk:=s.toks+([x].zip [u]).length) S C hr.hd e0 ru hns hk;refine M_ (ht [] _ _ H _ I hq) (fun fl s' hs=>?_) fun e s' hs=>hs.elim;have fin:∀ {σ':St} {H':Hp} {v:V} {u:Mf},Inv (Kb P w K mg base (x::fr) qual scope f cdv cl A outer s H) [] σ' H' s'->aB v u->Q v H'->CE outer P w H s Q u s':=
   fun {σ' H' v u} J rv q=>⟨v,H',J.os,J.bare,J.base,J.hok,rv,q⟩
  cases fl with
  | ret u=>
   obtain⟨v,σ',H',J,rv,q⟩:=hs;exact fin J rv q
  | next=>
   obtain⟨σ',H',J,q⟩:=hs;exact fin (v:=V.non) (u:=Value.none) J rfl q
  | brk=>
   obtain⟨_,_,_,q⟩:=hs;exact False.elim q
  | cont=>
   obtain⟨_,_,_,q⟩:=hs;exact False.elim q
structure Fv3(P:Mw)(w:MG)(K:Ow)(mg:Str->Option Mf)(base:MD)(k:Nat)(f:Mg)(sp:br):Prop where
 ex:∃ fd ps,FnOk P w K mg base pj k f fd ps (bN K sp)/\eA K fd ps []
theorem J0{f c:Mg}{fo:Obj}{x name qual:Str}{params:PM}{body:List ML}{scope:NV}{cl:List (Str×Mg)}{fr:List Str}{sp:br}{rd:bP}{cds:List D}{cvs:List V}(k:Nat)(hfo:∃ doc pm ctv,fo=fnMade name qual params body scope cl doc pm c ctv)(S:CloScope x fr scope)(C:CelAt base cl fr cvs)(rc:∀ H,RDs K H cds cvs)
  (hb:∀ (doc pm ctv u:Mf),bindArgs (fnX name qual params body scope cl .none .none doc pm none (.ref c) ctv) ⟨[u],[]⟩=pure [(x,u)])
  (len:∀ ds G Q,sp ds G Q->ds.length=1) (hat:∀ ds G Q,sp ds G Q->G f=some (.fx fo)/\E1 qual G c) (rok:∀ ds G Q,sp ds G Q->rd { nx:=fun _ G'=>Q .non G',rt:=Q } (ds.map some ++ cds.map some) G)
  (d:∀ {A:MB} {outer:List Env} {s:Mi} {H:Hp},Room k (A.deeper (envX qual scope s.heap.objs.size f (.ref c) cl))->(A.deeper (envX qual scope s.heap.objs.size f (.ref c) cl)).units+8 < MT->(A.deeper (envX qual scope s.heap.objs.size f (.ref c) cl)).units+4 < MT->nj (Kb P w K mg base (x::fr) qual scope f (.ref c) cl A outer s H) body (bO K rd)):
  Fv3 P w K mg base (k+1) f sp:=by
 obtain⟨doc,pm,ctv,rfl⟩:=hfo;refine⟨_,[x],ID (fo:=fnMade name qual params body scope cl doc pm c ctv) (name:=name) (qual:=qual) (params:=params) (body:=body) (dV:=.none) (kV:=.none) (doc:=doc) (pm:=pm) (ct:=ctv) (an:=none) (cdv:=.ref c) rfl S C (fun vs H Q E ⟨ds,G,Q3,rds,rg,h,kk⟩=>by rw[<- rds.length];exact len ds G Q3 h) (fun vs H Q E h ⟨ds,G,Q3,rds,rg,q,kk⟩ ok=>?_) (fun A outer s H vs Q E hr ⟨ds,G,Q3,rds,rg,h,kk⟩=>?_),.all fun us hl=>?_⟩
 ·obtain⟨g1,oc,vs',t,g2,g3,g4⟩:=hat ds G Q3 q;exact⟨xj rg ok g1,c,oc,vs',t,rfl,xj rg ok g2,g3,g4⟩
 ·refine⟨bO K rd,d hr (by have:=hr.units;omega) (by have:=hr.units;omega),ds.map some ++ cds.map some,G,{ nx:=fun _ G'=>Q3 .non G',rt:=Q3 },?_,rg,rok ds G Q3 h,⟨fun σ' G' τ' H' q k' rg' rs'=>kk _ G' _ H' q k' rg' (.of mT),kk,fun _ _ _ _ q=>q.elim,fun _ _ _ _ q=>q.elim⟩⟩
  have go:∀ {ds:List D} {vs:List V} {σ:eO} {τ:St},RDs K H ds vs->Oz (A6 K H) σ τ->Oz (A6 K H) (ds.map some ++ σ) (vs.map some ++ τ):=by
   intro ds
   induction ds with
   | nil=>intro vs σ τ r q;rw[r.inv_nil];exact q
   | cons d t ih=>
    intro vs σ τ r q;obtain⟨x,xs,e,h1,h2⟩:=r.inv_cons;subst e;exact .cons (show A6 K H (some d) (some x)from h1) (ih h2 q)
  have g2:=go (rc H) (σ:=[]) (τ:=[]) .nil;rw[No,No]at g2;exact go rds g2
 ·obtain⟨u,rfl⟩:=List.length_eq_one_iff.mp hl;exact hb doc pm ctv u
end
def Fx(G:Gp)(f:Mg):Prop:=∃ oc od fd sl,G f=some (.fx ⟨oc,od,.func fd,sl⟩)
def AY(f:Mg)(sp:br)(to:bn)(t:m_):bn:=fun σ G Q=>to σ G fun d G0=>(d=.ref f/\Fx G0 f)/\t σ G0 fun ds G1=>Fx G1 f/\sp ds G1 Q
section
variable{X:Cx}{k:Nat}{f:Mg}{sp:br}{x:Str}{to:bn}{t:m_}{e:MJ}{es:List MJ}{p pos:Pos}
theorem GV{K:Ow}{H:Hp}{G:Gp}{h:MD}{P:Mw}{w:MG}(rg:RG K H G)(ok:iF P w H h)(e:Fx G f):FnAt f h:=let ⟨oc,od,fd,sl,z⟩:=e;⟨oc,od,fd,sl,xj rg ok z⟩
theorem FS(F:Fv3 X.prog X.w X.K X.mg X.base k f sp)(hr:Room k X.A)(ho:PE X (.Name x p) (ay X.K to))(ha:PA X (e::es) (eg X.K t))(he:Mr (e::es) X.env=(false,eval e X.env)::Mr es X.env:=by rfl)
  (hpl:(Nn pos (Mr es X.env)).any (·.1)=false:=by rfl):PE X (.Call (.Name x p) (e::es) [] pos) (ay X.K (AY f sp to t)):=by
 obtain⟨fd,ps,ok,hb⟩:=F.ex
 rintro pins s τ H Q I ⟨σ,G,Q3,rs,rg,h,kk⟩
 refine Nw (cb (ho pins s τ H (fun v H1=>v=.ref f/\∃ G0,Kp G H G0 H1/\RG X.K H1 G0/\Fx G0 f/\t σ G0 fun ds G1=>Fx G1 f/\sp ds G1 Q3) I ⟨σ,G,_,rs,rg,h,fun d G0 v H1 q k1 rg1 re=>?_⟩) fun u s1 q=>?_)
 ·obtain⟨⟨rfl,fx⟩,q⟩:=q;exact⟨re.ref,G0,k1,rg1,fx,q⟩
 ·obtain⟨v,H1,I1,rv,rfl,G0,k1,rg1,fx,q⟩:=q;cases rv;refine callWith_F (GV rg1 I1.hok fx) (cb (ha pos pins s1 τ H1 (fun vs H2=>∃ ds G1,RDs X.K H2 ds vs/\RG X.K H2 G1/\Kp G0 H1 G1 H2/\Fx G1 f/\sp ds G1 Q3) I1 ⟨σ,G0,_,rs.mono (k1.stb rg),rg1,q,fun ds G1 vs H2 q k2 rg2 rds=>⟨ds,G1,rds,rg2,k2,q.1,q.2⟩⟩) fun us s2 q=>?_) he hpl;obtain⟨vs,H2,I2,r,ds,G1,rds,rg2,k2,fx2,q⟩:=q;exact⟨GV rg2 I2.hok fx2,pK (dvs:=[]) (ds:=[]) ok hr hb .nil s_ I2 r ⟨ds,G1,Q3,by rw[No];exact rds,rg2,q,kk.base (k1.trans k2)⟩⟩
theorem Lw{pins:List (Mg×Obj)}{τ:St}{H:Hp}{s:Mi}(I:Inv X pins τ H s):∃ b:MD,Env0 X.prog X.w X.K X.mg b X.A X.stack s H/\∀ c o,s.heap.get? c=some o->H c=none->c∉tY X.stack->b.get? c=some o:=by
 have nf:∀ b o,X.base.get? b=some o->b∉tY X.stack:=fun b o e z=>by
  have:=(I.stack.mem z).1;rw[e]at this;cases this
 let H':Hp:=fun b=>if b∈tY X.stack then some (.own 0)else H b
 have n1:∀ b,H' b=none->H b=none/\b∉tY X.stack:=fun b e=>by
  by_cases z:b∈tY X.stack
  ·have:H' b=some (.own 0):=if_pos z;rw[this]at e;cases e
  ·have:H' b=H b:=if_neg z;exact⟨this ▸ e,z⟩
 have n2:∀ b,H b=none->b∉tY X.stack->H' b=none:=fun b e z=>(if_neg z).trans e;have bk:∀ b o,X.base.get? b=some o->(oX s.heap H').get? b=some o:=fun b o e=>oW (I.bk b o e) (n2 b (I.bs b o e).2 (nf b o e));obtain⟨mb,hb1,hb2⟩:=I.mod.blt;have ff:∀ l:List Env,(∀ b∈tY l,b∈tY X.stack)->s.heap.FunFrames X.base l->s.heap.FunFrames (oX s.heap H') l:=by
  intro l
  induction l with
  | nil=>intro _ _;trivial
  | cons env r ih=>
   intro hs ⟨hk,⟨L,o,hf,hn,ho,hd⟩,hr⟩;have hL:L∈tY (env::r):=by unfold tY;rw[N0,hf];exact Mz
   refine⟨hk,⟨L,o,hf,?_,ho,hd⟩,ih (fun b hb=>hs b (by unfold tY;rw[N0,hf];exact My _ hb)) hr⟩
   cases q:(oX s.heap H').get? L with
   | none=>rfl
   | some u=>exact absurd (hs L hL) (n1 L (rY q).2).2
 exact⟨oX s.heap H',⟨I.ok.frames,⟨I.mod.kin.keeps bk,I.mod.glob.keeps bk,⟨mb,hb1.keeps bk,hb2⟩,I.mod.nolimit.keeps bk⟩,fun b o e=>⟨(rY e).1,(n1 b (rY e).2).1⟩,Pd (v3 _ _),ff X.stack (fun _ z=>z) I.stack,I.stkFree,I.hok,I.bare⟩,fun c o e n z=>oW e (n2 c n z)⟩
def flatV:D->Option V
 | .int i=>some (.int i)
 | .ref a=>some (.ref a)
 | .str x=>some (.str x)
 | _=>none
theorem Gg{K:Ow}{d:D}{v:V}(h:flatV d=some v)(H:Hp):RD K H d v:=by
 cases d<;>first|(cases h;first|exact eh|exact eK|exact jm)|cases h
theorem Gh{K:Ow}{H:Hp}{d:D}{v v':V}(h:flatV d=some v)(r:RD K H d v'):v'=v:=by
 cases d<;>first|(cases h;simpa only[RD]using r)|cases h
def AZ(js:List Nat)(κ:Obj->Mg->Prop)(sp:Mg->Obj->Mg->List D->br)(t:m_):bn:=fun σ G Q=>t σ G fun ds G1=>∃ (f:Mg) (fo:Obj) (c:Mg) (cds:List D) (cvs:List V),κ fo c/\(js.map fun j=>σ[j]?)=cds.map (fun d=>some (some d))/\cds.map flatV=cvs.map some/\sp f fo c cds ds G1 Q
theorem FT{κ:Obj->Mg->Prop}{spR:Mg->Obj->Mg->List D->br}{cl:List (Str×Mg)}{fr:List Str}{js:List Nat}(hj:js.map (fun j=>X.N[j]?)=fr.map some)(hc:∀ y∈fr,X.env.scope.names.lookup y=some .cell)(hfn:∀ y,X.fn y=true)(hcl:∀ y∈fr,cl.lookup y=X.env.cells.lookup y)(hfr:cl.map (·.1)=fr)
  (hm:∃ fa,X.mg x=some (.ref fa)/\Pe X.K (.ref fa)=true) (F:∀ {base f fo c cds cvs},κ fo c->CelAt base cl fr cvs->(∀ H,RDs X.K H cds cvs)->Fn3 X.prog X.w X.K X.mg base k x [] (spR f fo c cds)) (hr:Room k X.A) (hg:Gl X x) (ha:PA X (e::es) (eg X.K t)) (hdb:(x == ("__debug__":Str))=false:=by decide)
  (he:Mr (e::es) X.env=(false,eval e X.env)::Mr es X.env:=by rfl) (hpl:(Nn pos (Mr es X.env)).any (·.1)=false:=by rfl):PE X (.Call (.Name x p) (e::es) [] pos) (ay X.K (AZ js κ spR t)):=by
 obtain⟨fa,hm,hk⟩:=hm;have dom:∀ y c,cl.lookup y=some c->y∈fr:=fun y c e=>by rw[<- hfr];exact Oj (PySem.mem_of_lookup e)
 rintro pins s τ H Q I ⟨σ,G,Q3,rs,rg,h,kk⟩
 refine Nw (oQ I hg hm ?_ hdb);refine OY (h₀:=X.base) I.ok.mod.kin hk (cb (ha pos pins s τ H (fun vs H1=>∃ ds G1,RDs X.K H1 ds vs/\RG X.K H1 G1/\Kp G H G1 H1/\∃ (f:Mg) (fo:Obj) (c:Mg) (cds:List D) (cvs:List V),κ fo c/\(js.map fun j=>σ[j]?)=cds.map (fun d=>some (some d))/\cds.map flatV=cvs.map some/\spR f fo c cds ds G1 Q3) I ⟨σ,G,_,rs,rg,h,fun ds G1 vs H1 q k1 rg1 rds=>⟨ds,G1,rds,rg1,k1,q⟩⟩) fun us s1 q=>?_) he hpl;obtain⟨vs,H1,I1,r,ds,G1,rds,rg1,k1,f,fo,c,cds,cvs,hκ,ej,ef,q⟩:=q;refine⟨I1.kIn,?_⟩;obtain⟨b,e0,hcb⟩:=Lw I1;have l1:js.length=fr.length:=by have:=congrArg List.length hj;simpa using this
 have l2:js.length=cds.length:=by have:=congrArg List.length ej;simpa using this
 have l3:cds.length=cvs.length:=by have:=congrArg List.length ef;simpa using this
 have rs1:RS X.K H1 σ τ:=rs.mono (k1.stb rg);have fl:∀ (i:Nat) (d:D) (v:V),cds[i]?=some d->cvs[i]?=some v->flatV d=some v:=fun i d v e1 e2=>by
  have:=congrArg (·[i]?) ef;simp only[MA,e1,e2,Option.map_some]at this;exact Option.some.inj this
 have cel:CelAt b cl fr cvs:=by
  refine⟨l1.symm.trans (l2.trans l3),fun i y v e1 e2=>?_,dom,fun y z c h1 h2=>I.ok.inj y z c ((hcl y (dom y c h1)).symm.trans h1) ((hcl z (dom z c h2)).symm.trans h2)⟩;have hi:i < js.length:=by rw[l1];exact (List.getElem?_eq_some_iff.mp e1).1
  have e3:X.N[js[i]]?=some y:=by
   have:=congrArg (·[i]?) hj;simp only[MA,e1,Mp hi,Option.map_some]at this;exact Option.some.inj this
  obtain⟨d,ed⟩:∃ d,cds[i]?=some d:=⟨_,Mp (by walk_at "o")⟩
  have e4:σ[js[i]]?=some (some d):=by
   have:=congrArg (·[i]?) ej;simp only[MA,ed,Mp hi,Option.map_some]at this;exact Option.some.inj this
  obtain⟨v',e5,rd⟩:=rs1.get e4;have ev:=Gh (fl i d v ed e2) rd;subst ev;have kc:=hc y (Mv e1);obtain⟨m,hn,hl⟩:=I1.loc;obtain⟨u,ru,lk⟩:=hl _ y _ e3 e5 (.inr (.inl kc));rcases lk with ⟨z,_⟩|⟨_,c',z,o,ho,hd⟩
  ·have z':X.env.scope.names.lookup y=some .local:=z;rw[kc]at z';cases z'
  ·refine⟨c',u,(hcl y (Mv e1)).trans z,⟨o,hcb c' o ho (I1.freeC y c' z) fun hb=>?_,hd⟩,ru⟩;rcases MP.mp (I1.stkSub c' hb)with q1|q1
   ·exact I1.cne y c' z q1
   ·obtain⟨_,o',ho',_⟩:=I1.ok.funs.mem q1;exact absurd (MH (Mu ho') (I1.ok.cab y c' (hfn y) z)) (Nat.lt_irrefl _)
 have rc:∀ H,RDs X.K H cds cvs:=fun H=>by
  clear cel ej l2 hκ q
  induction cds generalizing cvs with
  | nil=>cases cvs with
   | nil=>exact RDs.nil
   | cons _ _=>cases l3
  | cons d ds ih=>cases cvs with
   | nil=>cases l3
   | cons v vs=>exact RDs.cons (Gg (fl 0 d v rfl rfl) H) (ih _ (List.cons.inj ef).2 (Nat.succ.inj l3) fun i d v e1 e2=>fl (i+1) d v e1 e2)
 obtain⟨f',fd,ps,dv,dvs,ok,hm',hk',hb,hv,hd⟩:=(F hκ cel rc).ex;have ef':=hm.symm.trans hm';cases ef';have r2:Vals (vs ++ dvs) (us ++ dv):=r.append hv;have hsp:bN X.K (spR f fo c cds) (vs ++ dvs) H1 Q E0:=⟨ds ++ [],G1,Q3,rds.append (hd H1),rg1,by rw[No];exact q,kk.base k1⟩
 have hl:(us ++ dv).length=ps.length:=by rw[<- r2.length];exact ok.len _ _ _ _ hsp
 refine P6 (OD (ok.run X.A X.stack s1 H1 ⟨us,[]⟩ (us ++ dv) (vs ++ dvs) Q E0 hr e0 (hb s1 us I1.kIn hl) r2 hsp) fun rr s' hq=>?_);cases rr with
 | error e=>exact False.elim hq
 | ok fl=>
  cases fl with
  | ret u=>exact I1.after hq
  | next=>exact False.elim hq
  | brk=>exact False.elim hq
  | cont=>exact False.elim hq
end
def pB(pos:Pos)(q:Str)(P:Mg):br:=fun vs G Q=>match vs with
 | [.lst ds]=>∃ ns:List Int,ds=ns.map D.int/\ns.length<=63/\xJ pos q P G/\∀ G',xJ pos q P G'->Q (.bl true) G'
 | _=>False
theorem EF{K:Ow}{h h':MD}{c P:Mg}{o:Obj}(e:K.lookup c=some o)(X:K.In h)(X':K.In h')(C:CodeHd h c P):CodeHd h' c P:=by
 obtain⟨o',vs,file,tf,flags,tg,inF,text,tt,e1,r⟩:=C;have e2:=X _ _ e;rw[e2]at e1;cases e1;exact⟨o,vs,file,tf,flags,tg,inF,text,tt,X' _ _ e,r⟩
theorem tabIn_mk{K:Ow}{x:Str}{st:ML}{f c P:Mg}{oc oc' dV kV dc pm ct:Mf}{od od' an:Option Mg}{sl sl':Array (Option Mf)}{vs:Array Mf}(a:nsIn K Mx x=some (some (.ref f)))(l:K.lookup f=some ⟨oc,od,.func (Qh x x (cM st) (b8 st) (ag st) dV kV dc pm an (.ref c) ct),sl⟩)(d:K.lookup c=some ⟨oc',od',.fields vs,sl'⟩)(e:vs[11]?=some (.ref P)):Q8 K x=some (c,P):=by
 unfold Q8;rw[a];dsimp only;rw[l];dsimp only;rw[d];dsimp only;rw[e]
theorem C_{K:Ow}{x:Str}{c P:Mg}(ht:Q8 K x=some (c,P)):∃ o,K.lookup c=some o:=by
 unfold Q8 at ht;split at ht
 ·split at ht
  ·split at ht
   ·split at ht
    ·rename_i hco;split at ht
     ·cases ht;exact⟨_,hco⟩
     ·cases ht
    ·cases ht
   ·cases ht
  ·cases ht
 ·cases ht
theorem walkT{l:Q_}{q:Mw}{loose:List Str}{XP:(Str->Option Mf)->MD->Prop}{YP:MG->MD->Prop}{d:DefRec}{K:Params->Ow}{k:Nat}{x y qn:Str}{pos:Pos}{c P:Mg}(hn:l.most=some 63)(hdf:d.params.defaults=[])(hr:Room k Qx)
  (hY:∀ (w:MG) (h:MD),YP w h->(K w.params).In h) (RT:((recsOf q).find? (fun e=>e.name == y)).isSome=true)
  (ht:∀ w:MG,Q8 (K w.params) y=some (c,P)) (hKP:∀ w:MG,(K w.params).lookup P=none)
  (F:∀ (w:MG) (mg:Str->Option Mf) (fa:Mg) (h:MD),(K w.params).In h->h.Ns Mx mg->mg d.name=some (.ref fa)->
   ∃ fd:NB,(∀ (s:Mi) (u:Mf),Ri s fd ⟨[u],[]⟩ [(x,u)])/\∀ base:MD,(K w.params).In base->base.Ns Mx mg->KH base mg->CodeHd base c P->FnOk l.prog w (K w.params) mg base pj k fa fd [x] (bN (K w.params) (pB pos qn P))):
  WalkO q loose XP YP l.row.toRowW d [] (fun f vs=>PySem.call f vs):=by
 refine Att.attach_call hn hdf fun w s₀ s₁ mg mb fa o pm cd doc a vs ns G Y ho hd hcd hmg ha hi hlen hg=>?_;have KX:=hY w _ Y;obtain⟨fd,hbind,hF⟩:=F w mg fa _ KX G.T.g hmg;obtain⟨dd,hdd⟩:=Option.isSome_iff_exists.mp RT;obtain⟨CH,hP⟩:=tab_of G.T KX hdd (ht w);have Sg:=hKP w;obtain⟨co,hcoW⟩:=C_ (ht w);have rv:=vC hi;have R_:=hi.length;have hl:ns.length<=Mq:=le_trans hlen (by decide)
 have aP:a≠P:=fun z=>by rw[z,hP]at ha;cases ha
 generalize hKw:K w.params=Kw at *
 have core:∀ H:Hp,H P=some (XO P (NI #[]))->(∀ b,b≠P->b≠a->H b=none)->(H a=none\/∃ xs,H a=some (.frz { cls:=.type "list",data:=.seq vs.toArray } (.lst xs)))->EV Kw H a (ns.map V.int)->iF l.prog w H s₁.heap->(H a≠none->Kw.lookup a=none)->
   OP (Ms l.prog w) Qx (.call (.ref fa) ⟨[.ref a],[]⟩) (fun r s'=>r=.ok (.ret (.bool true))/\OldK s₁.heap s'.heap/\s'.os=s₁.os/\O1 s'.gens) s₁:=by
  intro H hHP hO hHa hS hok hK;have hA:∀ b,H b≠none->b=a\/b=P:=fun b z=>by
   by_cases z1:b=P
   ·exact .inr z1
   ·by_cases z2:b=a
    ·exact .inl z2
    ·exact absurd (hO b z1 z2) z
  have Rz:∀ {b:Mg} {o:Obj},s₁.heap.get? b=some o->b≠a->b≠P->(oX s₁.heap H).get? b=some o:=fun {b o} e n1 n2=>oW e (hO b n2 n1);have nsK:∀ {b:Mg} {m:Str->Option Mf},s₁.heap.Ns b m->(oX s₁.heap H).Ns b m:=fun {b m} ⟨o,es,ep,e,d,r⟩=>⟨o,es,ep,Rz e (fun z=>by rw[z,ha]at e;cases e;cases d) (fun z=>by rw[z,hP]at e;cases e;cases d),d,r⟩
  have hKb:Kw.In (oX s₁.heap H):=fun b o e=>by
   have e1:=KX b o e;cases qq:H b with
   | none=>exact oW e1 qq
   | some u=>
    rcases hA b (by rw[qq];simp)with z|z
    ·subst z;rw[hK (by rw[qq];simp)]at e;cases e
    ·subst z;rw[Sg]at e;cases e
  obtain⟨bm,ob,b1,b2,b3,b4,b5,b6⟩:=G.T.bmain;have hB:KH (oX s₁.heap H) mg:=⟨bm,ob,b1,b2,Rz b3 (fun z=>by rw[z,ha]at b3;cases b3;cases b6) (fun z=>by rw[z,hP]at b3;cases b3;cases b6),b4,b5,b6⟩
  have Se:=G.T.nolimit;have hM:Mod Kw mg (oX s₁.heap H):=⟨hKb,nsK G.T.g,⟨mb,nsK G.T.b,G.T.builtins⟩,let ⟨mc,h1,h2⟩:=Se;⟨mc,nsK h1,h2⟩⟩;have e0:Env0 l.prog w Kw mg (oX s₁.heap H) Qx [] s₁ H:=⟨rfl,hM,fun b o e=>rY e,Pd (v3 _ _),trivial,fun b hb=>absurd (show b∈([]:List Mg)from hb) (by simp),hok,.of_eq hg⟩
  let G0:Gp:=fun b=>if b=P then some (.fx (NI #[]))else none
  have rg0:RG Kw H G0:=fun b o e=>by
   by_cases z:b=P
   ·subst z;have e':G0 b=some (.fx (NI #[])):=if_pos rfl;rw[e']at e;cases e;exact⟨_,hHP,rfl⟩
   ·have e':G0 b=none:=if_neg z;rw[e']at e;cases e
  have hsp:bN Kw (pB pos qn P) [.ref a] H (fun v H'=>v=.bl true/\∃ ps,H' P=some (XO P (NI ps))) E0:=
   ⟨[.lst (ns.map D.int)],G0,fun dd G'=>dd=.bl true/\xJ pos qn P G',RDs.cons (sP hS (RDs.ints ns)) RDs.nil,rg0,⟨ns,rfl,hlen,.inl (if_pos rfl),fun G' t=>⟨rfl,t⟩⟩,fun dd G' v H' qq _ rg' re=>by
    obtain⟨rfl,t⟩:=qq;obtain⟨ps,g,_⟩:=Bf t;exact⟨re.bl,ps,Ek rg' g⟩⟩
  refine OD ((hF _ hKb (nsK G.T.g) hB (EF hcoW KX hKb CH)).run Qx [] s₁ H ⟨[.ref a],[]⟩ [.ref a] [.ref a] _ _ hr e0 (hbind s₁ (.ref a)) (.cons rfl .nil) hsp) fun r s' h=>?_;cases r with
  | error e=>exact False.elim h
  | ok fl=>
   cases fl with
   | next=>exact False.elim h
   | brk=>exact False.elim h
   | cont=>exact False.elim h
   | ret u=>
    obtain⟨v,H',os,bare,un,hok',r',rfl,ps,hH'⟩:=h;obtain rfl:u=Value.bool true:=r';have hP':s'.heap.get? P=some (NI ps):=(hok' P _ hH').1;have kept:∀ b o,s₁.heap.get? b=some o->b≠P->s'.heap.get? b=some o:=fun b o e n=>by
     by_cases z:b=a
     ·subst z;rcases hHa with z|⟨xs,z⟩
      ·exact un.keep b o e z (by intro z;exact absurd (show b∈([]:List Mg)from z) (by simp)) (by simp)
      ·obtain⟨e1,_⟩:=hok b _ z;obtain⟨e2,_⟩:=hok' b _ (un.frzs b _ _ z);rw[e]at e1;cases e1;exact e2
     ·exact un.keep b o e (hO b n z) (by intro z;exact absurd (show b∈([]:List Mg)from z) (by simp)) (by simp)
    refine⟨rfl,⟨fun b o e=>?_,fun b o e=>?_⟩,os,bare⟩
    ·by_cases z:b=P
     ·subst z;rw[hP]at e;cases e;refine .inr (.inl ⟨?_,rfl,#[],ps,rfl,by rw[Array.empty_append];exact hP'⟩)
      obtain⟨o',vs',_,_,_,_,_,_,_,c1,c2,c3,c4,_⟩:=CH;exact⟨_,o',vs',c1,c2,c3,c4⟩
     ·exact .inl (kept b o e z)
    ·by_cases z:b=P
     ·exact⟨_,by rw[z];exact hP'⟩
     ·exact⟨o,kept b o e z⟩
 have uP:∀ (H:Hp),iF l.prog w H s₁.heap->H P=none->iF l.prog w (aV H P (XO P (NI #[]))) s₁.heap:=fun H ok n=>iF.track ok n (yK hP);cases hk:Kw.lookup a with
 | some o=>
  have e:=KX a o hk;rw[ha]at e;cases e;refine core (aV (fun _=>none) P (XO P (NI #[]))) aG (fun b n _=>by rw[ar n]) (.inl (by rw[ar aP])) (.inr ⟨_,vs.toArray,_,hk,rfl,rfl,rfl,by rw[Mt,R_];exact hl,by simpa using rv⟩) (uP _ (fun b u z=>by have z':(none:Option HO)=some u:=z;cases z') rfl) fun z=>absurd (by rw[ar aP]) z
 | none=>
  have ok0:iF l.prog w (aV (fun _=>none) a (.frz { cls:=.type "list",data:=.seq vs.toArray } (.lst (ns.map V.int)))) s₁.heap:=fun b u z=>by
   by_cases hb:b=a
   ·subst hb;rw[aG]at z;cases z;exact⟨ha,by rw[Ml];exact hl,vs,_,rv,ha⟩
   ·rw[ar hb]at z;cases z
  refine core (aV (aV (fun _=>none) a (.frz { cls:=.type "list",data:=.seq vs.toArray } (.lst (ns.map V.int)))) P (XO P (NI #[]))) aG (fun b n1 n2=>by rw[ar n1,ar n2]) (.inr ⟨_,by rw[ar aP,aG]⟩) (.inl ⟨_,by rw[ar aP,aG]⟩) (uP _ ok0 (by rw[ar aP.symm])) fun _=>hk
structure FnDn(K:Ow)(n:Str)(st:ML):Prop where
 ex:∃ f t,nsIn K Mx n=some (some (.ref f))/\FnM K n n st (.ref t) f/\Pe K (.ref f)=true/\∃ (oc:Mf) (od:Option Mg) (nt:Nat) (sl:Array (Option Mf)),K.lookup t=some ⟨oc,od,.seq #[.none] nt,sl⟩
theorem fnDn_mk{K:Ow}{n:Str}{st:ML}{f t:Mg}{oc oc' kV dc pm cd ct:Mf}{od od' an:Option Mg}{sl sl':Array (Option Mf)}{nt:Nat}(a:nsIn K Mx n=some (some (.ref f)))(l:K.lookup f=some ⟨oc,od,.func (Qh n n (cM st) (b8 st) (ag st) (.ref t) kV dc pm an cd ct),sl⟩)(c:P9 K cd n=true)(k:Pe K (.ref f)=true)(d:K.lookup t=some ⟨oc',od',.seq #[.none] nt,sl'⟩):FnDn K n st:=⟨f,t,a,t7 l c,k,_,_,_,_,d⟩
def Ff:br:=fun _ _ _=>False
section
variable(P:Mw)(w:MG)(base:MD){K:Ow}{h:MD}{mg:Str->Option Mf}{k:Nat}{n:Str}{st:ML}{N ps:List Str}{sp:br}
theorem J3(X:K.In h)(G:h.Ns Mx mg)(H:FnDn K n st)(b:∀ {t kV dc pm an cd ct oc od nt sl},K.lookup t=some ⟨oc,od,.seq #[.none] nt,sl⟩->eA K (Qh n n (cM st) (b8 st) (ag st) (.ref t) kV dc pm an cd ct) ps [])(ok:∀ {f fd},Fun3 K n n st f fd->FnOk P w K mg base pj k f fd ps (bN K sp)):Fn3 P w K mg base k n [] sp:=by
 obtain⟨f,t,a,⟨⟨_,_,_,_,_,_,_,_,_,l,c⟩⟩,kp,_,_,_,_,d⟩:=H.ex;exact⟨_,_,_,[],[],ok (iC l c),QJ X G a,kp,b d,.nil,fun _=>RDs.nil⟩
theorem J2(X:K.In h)(G:h.Ns Mx mg)(H:FnDn K n st)(b:∀ {t kV dc pm an cd ct oc od nt sl},K.lookup t=some ⟨oc,od,.seq #[.none] nt,sl⟩->eA K (Qh n n (cM st) (b8 st) (ag st) (.ref t) kV dc pm an cd ct) ps [.none])(ok:∀ {f fd},Fun3 K n n st f fd->FnOk P w K mg base pj k f fd ps (bN K sp)):Fn3 P w K mg base k n [.non] sp:=by
 obtain⟨f,t,a,⟨⟨_,_,_,_,_,_,_,_,_,l,c⟩⟩,kp,_,_,_,_,d⟩:=H.ex;exact⟨_,_,_,[.none],[.non],ok (iC l c),QJ X G a,kp,b d,.cons rfl .nil,fun _=>RDs.cons mT RDs.nil⟩
theorem Lu{c Pt:Mg}(X:K.In h)(G:h.Ns Mx mg)(H:FnG K n st)(ht:Q8 K n=some (c,Pt))(k:Nat)(S:FnScope N ps (ag st))(len:∀ ds G Q,sp ds G Q->ds.length=ps.length)
  (Rl:∀ {f:Mg} {A:MB} {outer:List Env} {s:Mi} {H:Hp} {E:XK},Room k (A.deeper (Os n (ag st) s.heap.objs.size f (.ref c)))->(A.deeper (Os n (ag st) s.heap.objs.size f (.ref c))).units+8 < MT->(A.deeper (Os n (ag st) s.heap.objs.size f (.ref c))).units+4 < MT->∃ t:bP,nj (zB pj P w K mg base N n (ag st) f (.ref c) A outer s H E).nox (b8 st) (bO K t)/\∀ ds G Q,sp ds G Q->t { nx:=fun _ G'=>Q .non G',rt:=Q } (cC N ds) G) (b:Ja n n st ps:=by walk_at "b"):Fn3 P w K mg base (k+1) n [] sp:=by
 obtain⟨f,a,⟨⟨oc,od,an,sl,kV,dc,pm,cd,ct,l,cc⟩⟩,kp⟩:=H.ex;have e:cd=.ref c:=law_code X G ht (QJ X G a) (X _ _ l) rfl;subst e;refine⟨_,_,_,[],[],GW l cc S (fun vs H Q E ⟨ds,G,Q3,rds,rg,h,kk⟩=>by rw[<- rds.length];exact len ds G Q3 h) (fun A outer s H vs Q E hr hsp=>?_),QJ X G a,kp,.all (b _ _ _ _ _ _),.nil,fun _=>RDs.nil⟩
 obtain⟨ds,G,Q3,rds,rg,h,kk⟩:=hsp;obtain⟨t,ht',hq⟩:=Rl (f:=f) (A:=A) (outer:=outer) (s:=s) (H:=H) (E:=E) hr (by have:=hr.units;omega) (by have:=hr.units;omega)
 refine⟨bO K t,ht'.nox,cC N ds,G,{ nx:=fun _ G'=>Q3 .non G',rt:=Q3 },x6 rds,rg,hq ds G Q3 h,⟨fun σ' G' τ' H' q k' rg' rs'=>kk _ G' _ H' q k' rg' (.of mT),kk,fun _ _ _ _ q=>q.elim,fun _ _ _ _ q=>q.elim⟩⟩
variable{P w base}
theorem El{f:Mg}:Fv3 P w K mg base k f Ff:=
 ⟨fnX "" "" ⟨[],[],none,[],[],none,[]⟩ [] { kind:=.function,names:=[],isGenerator:=false,isCoroutine:=false,more:=[] } [] .none .none .none .none none .none .none,[],⟨fun vs H Q E ⟨_,_,_,_,_,h,_⟩=>h.elim,fun _ _ _ _ _ _ _ _ _ _ _ _ _ ⟨_,_,_,_,_,h,_⟩=>h.elim⟩,.all fun us hl=>by
  obtain rfl:=length_eq_zero_iff.mp hl;rfl⟩
end
end L3
namespace RQ
open PySem PySem.Spec PyProof.Rows L2 L3
section
variable{α:Type}
def eN(l:List (Sl×α))(k:Sl):Option α:=(l.find? fun p=>decide (p.1=k)).map (·.2)
def lQ(l:List (Sl×α))(k:Sl)(v:α):List (Sl×α):=if (l.any fun p=>decide (p.1=k))=true then l.map (fun p=>if p.1=k then (p.1,v)else p)else l ++ [(k,v)]
def bS(l m:List (Sl×α)):List (Sl×α):=m.foldl (fun a p=>lQ a p.1 p.2) l
def aO(f:α->D)(l:List (Sl×α)):List (List aA×D):=l.map fun p=>(p.1.key,f p.2)
theorem BK(f:α->D)(k:Sl):∀ l:List (Sl×α),((aO f l).any fun kv=>decide (kv.1=k.key))=l.any fun p=>decide (p.1=k)
 | []=>rfl
 | p::r=>by
  have ih:=BK f k r;unfold aO at ih ⊢;simp only[MF,OT,ih];congr 1
  by_cases e:p.1=k
  ·rw[decide_eq_true e,decide_eq_true (by rw[e])]
  ·rw[decide_eq_false e,decide_eq_false (fun z=>e (Sl.key_inj z))]
theorem yG(f:α->D)(l:List (Sl×α))(k:Sl)(v:α):aW (aO f l) k.key (f v)=aO f (lQ l k v):=by
 unfold aW lQ;rw[BK];split
 ·unfold aO;rw[MU,MU];refine ND fun p _=>?_;simp only[Function.comp]
  by_cases e:p.1=k
  ·rw[if_pos e,if_pos (by rw[e])]
  ·rw[if_neg e,if_neg (fun z=>e (Sl.key_inj z))]
 ·unfold aO;rw[MY];rfl
theorem BJ(f:α->D)(k:Sl):∀ l:List (Sl×α),bE (aO f l) k.key=(eN l k).map f
 | []=>rfl
 | p::r=>by
  have ih:=BJ f k r;unfold aO eN bE at *
  by_cases e:p.1=k
  ·simp[MR,e]
  ·have e':¬ p.1.key=k.key:=fun z=>e (Sl.key_inj z);simp only[MF,MR,decide_eq_false e,decide_eq_false e'];exact ih
theorem ue(f:α->D)(m:List (Sl×α)):dictOf (aO f m)=aO f (bS [] m):=by
 unfold dictOf bS;have:∀ (m l:List (Sl×α)),(aO f m).foldl (fun a kv=>aW a kv.1 kv.2) (aO f l)=aO f (m.foldl (fun a p=>lQ a p.1 p.2) l):=by
  intro m
  induction m with
  | nil=>intro l;rfl
  | cons p r ih=>
   intro l;unfold aO at ih ⊢;simp only[MF,OX];have:=yG f l p.1 p.2;unfold aO at this;rw[this];exact ih _
 exact this m []
theorem Gy(l:List (Sl×α))(k j:Sl)(v:α):eN (lQ l k v) j=if j=k then some v else eN l j:=by
 unfold lQ;split
 ·rename_i h
  induction l with
  | nil=>simp at h
  | cons p r ih=>
   simp only[MF,eN,MR]
   by_cases e:p.1=k
   ·rw[if_pos e]
    by_cases ej:j=k
    ·rw[if_pos ej];simp[e,ej]
    ·rw[if_neg ej];have e2:¬ p.1=j:=fun z=>ej (z.symm.trans e);simp only[decide_eq_false e2];clear ih h
     induction r with
     | nil=>rfl
     | cons q t ih2=>
      simp only[MF,MR]
      by_cases e3:q.1=k
      ·rw[if_pos e3];have e4:¬ q.1=j:=fun z=>ej (z.symm.trans e3);simp only[decide_eq_false e4];exact ih2
      ·rw[if_neg e3]
       by_cases e4:q.1=j
       ·simp[e4]
       ·simp only[decide_eq_false e4];exact ih2
   ·rw[if_neg e];simp only[OT,decide_eq_false e,Bool.false_or]at h;have ih':=ih h;unfold eN at ih'
    by_cases e2:p.1=j
    ·have ej:¬ j=k:=fun z=>e (e2.trans z);rw[if_neg ej];simp[e2]
    ·simp only[decide_eq_false e2];exact ih'
 ·rename_i h;have hn:∀ p∈l,p.1≠k:=fun p hp z=>h (PU.mpr ⟨p,hp,decide_eq_true z⟩);unfold eN;rw[List.find?_append]
  by_cases ej:j=k
  ·rw[if_pos ej];have:l.find? (fun p=>decide (p.1=j))=none:=List.find?_eq_none.mpr fun p hp=>by simpa using fun z=>hn p hp (z.trans ej)
   rw[this];simp[ej]
  ·rw[if_neg ej];cases l.find? (fun p=>decide (p.1=j)) with
   | some p=>rfl
   | none=>
    have ek:¬ k=j:=fun z=>ej z.symm;simp[ek]
theorem DA{l:List (Sl×α)}{k:Sl}{v:α}{p:Sl×α}(h:p∈lQ l k v):p∈l\/p=(k,v):=by
 unfold lQ at h;split at h
 ·obtain⟨q,hq,e⟩:=mem_map.mp h;split at e
  ·rename_i z;exact .inr (by rw[<- e,z])
  ·exact .inl (e ▸ hq)
 ·rcases QY.mp h with h|h
  ·exact .inl h
  ·exact .inr (Qg.mp h)
theorem B5{m:List (Sl×α)}:∀ {l:List (Sl×α)} {p:Sl×α},p∈bS l m->p∈l\/p∈m:=by
 induction m with
 | nil=>intro l p h;exact .inl h
 | cons q r ih=>
  intro l p h;rcases ih (l:=lQ l q.1 q.2) h with h|h
  ·rcases DA h with h|h
   ·exact .inl h
   ·exact .inr (h ▸ Mz)
  ·exact .inr (My _ h)
theorem Gz{l:List (Sl×α)}{k:Sl}{v:α}(h:eN l k=some v):(k,v)∈l:=by
 unfold eN at h;cases e:l.find? fun p=>decide (p.1=k) with
 | none=>rw[e]at h;cases h
 | some p=>
  rw[e]at h;cases h;have h1:=List.mem_of_find?_eq_some e;have h2:=List.find?_some e;have:p.1=k:=of_decide_eq_true h2;rw[<- this];exact h1
theorem EN{l:List (Sl×α)}{p:Sl×α}(h:p∈l):∃ v,eN l p.1=some v:=by
 unfold eN;cases e:l.find? fun q=>decide (q.1=p.1) with
 | none=>exact absurd (List.find?_eq_none.mp e p h) (by simp)
 | some q=>exact⟨q.2,rfl⟩
theorem DB(l:List (Sl×α))(k:Sl)(v:α):(lQ l k v).length<=l.length+1:=by
 unfold lQ;split<;>simp
theorem eW(m:List (Sl×α)):∀ l:List (Sl×α),(bS l m).length<=l.length+m.length:=by
 induction m with
 | nil=>intro l;exact le_refl _
 | cons p r ih=>
  intro l;have h1:=ih (lQ l p.1 p.2);have h2:=DB l p.1 p.2;show (bS (lQ l p.1 p.2) r).length<=_
  rw[MC];omega
theorem e9(l a b:List (Sl×α)):bS l (a ++ b)=bS (bS l a) b:=by unfold bS;rw[List.foldl_append]
theorem mW(l a:List (Sl×α))(p:Sl×α):bS l (a ++ [p])=lQ (bS l a) p.1 p.2:=by rw[e9];rfl
end
def Lh(c:Nat):Str:=⟨#[c]⟩
def BY(x:Str):List Str:=x.cps.toList.map Lh
def gV(s:Sk):List (Sl×Str):=match s.act with
 | .put _ x=>(made s).zip (BY x)
 | _=>[]
def iR(s:Sk):List (Sl×Unit):=match s.act with
 | .strike ns=>ns.map fun n=>(n,())
 | _=>[]
def mE(s:Sk):List (Sl×Sl):=match s.act with
 | .move ns _=>ns.zip (made s)
 | _=>[]
def pz(s:Sk):List (Sl×Str):=match s.act with
 | .dress ns w=>ns.map fun n=>(n,w)
 | _=>[]
def Sk.wd(s:Sk):Nat:=match s.act with
 | .put _ x=>x.length
 | .strike ns=>ns.length
 | .dress ns _=>ns.length
 | .move ns _=>ns.length
def aE(x:Str)(o:List Sk):List (Sl×Str):=bS [] ((fJ x.length).zip (BY x) ++ o.flatMap gV)
def bH(o:List Sk):List (Sl×Unit):=bS [] (o.flatMap iR)
def cR(o:List Sk):List (Sl×Sl):=bS [] (o.flatMap mE)
def fW(o:List Sk):List (Sl×Str):=bS [] (o.flatMap pz)
abbrev Nm:=Str×Int
def Nm.d(n:Nm):D:=.tup [.str n.1,.int n.2]
def Nm.key(n:Nm):List aA:=[.inr n.1,.inl n.2]
def Sk.nm(s:Sk):Nm:=(s.pen,s.num)
def jp(row:List Sl)(s:Sk):Bool:=(made s).all fun x=>decide (x∈row)
def jh(out:List Sk)(names:List Nm)(row:List Sl):List Sk:=(out.filter fun s=>decide (s.nm∈names)).filter (jp row)
def cI(x:Str)(w:List Sk):List (Sl×Sl):=bS [] (((aE x w).filter fun p=>(eN (bH w) p.1).isNone).map fun p=>((eN (cR w) p.1).getD p.1,p.1))
structure Seat where
 slot:Sl
 name:Sl
 sign:Str
 word:Str
def Seat.d(s:Seat):D:=.tup [s.slot.d,s.name.d,.str s.sign,.str s.word]
def lu(x:Str)(w:List Sk)(row:List Sl):List (Sl×Sl):=row.filterMap fun s=>(eN (cI x w) s).map fun n=>(s,n)
def lr(x:Str)(out:List Sk)(names:List Nm):List Seat:=
 (lu x (jh out names (ip x.length out)) (ip x.length out)).map fun p=>⟨p.1,p.2,(eN (aE x (jh out names (ip x.length out))) p.2).getD "",(eN (fW (jh out names (ip x.length out))) p.2).getD ""⟩
def eu(i:Nat):ML:=PySem.Challenge.pw_redquill_k62_many_decided.main.body.getD i (.Pass ⟨0,0,0,0⟩)
def k_STANDS:D:=.str "stands"
def k_START:D:=.tup [.str "",.int 0,.int 0]
def k_WAITS:D:=.str "waits"
def k_WIPED:D:=.str "wiped"
theorem t5{a0 a1 a2 a3:D}:fw Ab0 [a0,a1,a2,a3] "name"=some a0:=by kernel_rfl
theorem t3{a0 a1 a2 a3:D}:fw Ab0 [a0,a1,a2,a3] "time"=some a1:=by kernel_rfl
theorem qj{a0 a1 a2 a3:D}:fw Ab0 [a0,a1,a2,a3] "anchor"=some a2:=by kernel_rfl
theorem rS{a0 a1 a2 a3:D}:fw Ab0 [a0,a1,a2,a3] "names"=some a3:=by kernel_rfl
theorem wN:i_ [] "name"=(["name"]:List Str):=by kernel_rfl
theorem wS{x:D}:hX [] [] "name" x=[x]:=by kernel_rfl
theorem wM:i_ ["name"] "time"=(["name","time"]:List Str):=by kernel_rfl
theorem wR{a0 x:D}:hX ["name"] [a0] "time" x=[a0,x]:=by kernel_rfl
theorem wL:i_ ["name","time"] "anchor"=(AH0:List Str):=by kernel_rfl
theorem wQ{a0 a1 x:D}:hX ["name","time"] [a0,a1] "anchor" x=[a0,a1,x]:=by kernel_rfl
theorem wK:i_ AH0 "names"=(Ab0:List Str):=by kernel_rfl
theorem wP{a0 a1 a2 x:D}:hX AH0 [a0,a1,a2] "names" x=[a0,a1,a2,x]:=by kernel_rfl
theorem zt{a0 a1 a2 a3 a4:D}:fw Af0 [a0,a1,a2,a3,a4] "name"=some a0:=by kernel_rfl
theorem zr{a0 a1 a2 a3 a4:D}:fw Af0 [a0,a1,a2,a3,a4] "time"=some a1:=by kernel_rfl
theorem vf{a0 a1 a2 a3 a4:D}:fw Af0 [a0,a1,a2,a3,a4] "anchor"=some a2:=by kernel_rfl
theorem xk{a0 a1 a2 a3 a4:D}:fw Af0 [a0,a1,a2,a3,a4] "signs"=some a4:=by kernel_rfl
theorem B_:i_ Ab0 "anchor"=(Ab0:List Str):=by kernel_rfl
theorem Cb{a0 a1 a2 a3 x:D}:hX Ab0 [a0,a1,a2,a3] "anchor" x=[a0,a1,x,a3]:=by kernel_rfl
theorem B9:i_ Ab0 "signs"=(Af0:List Str):=by kernel_rfl
theorem Ca{a0 a1 a2 a3 x:D}:hX Ab0 [a0,a1,a2,a3] "signs" x=[a0,a1,a2,a3,x]:=by kernel_rfl
theorem wO:i_ Ab0 "names"=(Ab0:List Str):=by kernel_rfl
theorem wT{a0 a1 a2 a3 x:D}:hX Ab0 [a0,a1,a2,a3] "names" x=[a0,a1,a2,x]:=by kernel_rfl
theorem vi{a0 a1 a2 a3 a4:D}:fw Ag0 [a0,a1,a2,a3,a4] "name"=some a0:=by kernel_rfl
theorem vh{a0 a1 a2 a3 a4:D}:fw Ag0 [a0,a1,a2,a3,a4] "time"=some a1:=by kernel_rfl
theorem t6{a0 a1 a2 a3 a4:D}:fw Ag0 [a0,a1,a2,a3,a4] "names"=some a3:=by kernel_rfl
theorem vg{a0 a1 a2 a3 a4:D}:fw Ag0 [a0,a1,a2,a3,a4] "word"=some a4:=by kernel_rfl
theorem yH:i_ Ab0 "word"=(Ag0:List Str):=by kernel_rfl
theorem yI{a0 a1 a2 a3 x:D}:hX Ab0 [a0,a1,a2,a3] "word" x=[a0,a1,a2,a3,x]:=by kernel_rfl
def am:List Str:=["old","drawn","states","greatest","time"]
theorem o7:vz am "old" 0:=oU (by decide +kernel)
theorem c7:vz am "drawn" 1:=oU (by decide +kernel)
theorem cm:vz am "states" 2:=oU (by decide +kernel)
theorem iE:vz am "greatest" 3:=oU (by decide +kernel)
theorem mz:vz am "time" 4:=oU (by decide +kernel)
theorem fK:("strokes":Str)∉am:=by decide +kernel
theorem kR:("check_known":Str)∉am:=by decide +kernel
theorem h8:("state":Str)∉am:=by decide +kernel
theorem gK:("strokes_in":Str)∉am:=by decide +kernel
theorem cw:("waiting":Str)∉am:=by decide +kernel
theorem jc:("unwiped":Str)∉am:=by decide +kernel
theorem uV:("view":Str)∉am:=by decide +kernel
theorem fg:("seats":Str)∉am:=by decide +kernel
theorem cK:("coming_name":Str)∉am:=by decide +kernel
theorem cJ:("coming_time":Str)∉am:=by decide +kernel
theorem fR:("draw":Str)∉am:=by decide +kernel
theorem oC:("put":Str)∉am:=by decide +kernel
theorem rK:("strike":Str)∉am:=by decide +kernel
theorem tq:("dress":Str)∉am:=by decide +kernel
theorem uX:("move":Str)∉am:=by decide +kernel
theorem uW:("part":Str)∉am:=by decide +kernel
theorem f_:("check_waits":Str)∉am:=by decide +kernel
theorem eL:("let_stand":Str)∉am:=by decide +kernel
theorem iM:("wipe":Str)∉am:=by decide +kernel
abbrev qC:ML:=eu 7
theorem wC:FnScope ["at","length"] ["at","length"] (ag qC):=by walk_at "j"
abbrev jG:ML:=eu 8
theorem pF:FnScope AS0 AS0 (ag jG):=by walk_at "j"
abbrev nH:ML:=eu 11
theorem uz:FnScope Ay0 Ay0 (ag nH):=by walk_at "j"
theorem rL:((["k"]:List Str) ++ (Ay0:List Str)).Nodup:=by decide +kernel
abbrev qy:ML:=eu 17
theorem gM:FnScope ["row","name","time","act"] Au0 (ag qy):=by walk_at "j"
abbrev iS:ML:=eu 18
theorem nA:FnScope Au0 Au0 (ag iS):=by walk_at "j"
abbrev sy:ML:=eu 19
theorem kj:FnScope ["rows","by_name","row"] ["rows"] (ag sy):=by walk_at "j"
abbrev qz:ML:=eu 21
theorem wA:FnScope ["old"] ["old"] (ag qz):=by walk_at "j"
abbrev nI:ML:=eu 22
theorem fO:FnScope AC0 ["following","anchor","slots"] (ag nI):=by walk_at "j"
abbrev vL:ML:=eu 23
theorem jk:FnScope ["following","row","slot"] ["following"] (ag vL):=by walk_at "j"
abbrev sx:ML:=eu 24
theorem kh:FnScope An0 ["old","strokes"] (ag sx):=by walk_at "j"
theorem uY:((Au0:List Str) ++ (An0:List Str)).Nodup:=by decide +kernel
abbrev xY:ML:=eu 26
theorem B2:FnScope ["keys"] ["keys"] (ag xY):=by walk_at "j"
theorem yQ:((["key"]:List Str) ++ (["keys"]:List Str)).Nodup:=by decide +kernel
abbrev qA:ML:=eu 27
theorem wB:FnScope Az0 Az0 (ag qA):=by walk_at "j"
theorem tu:((["slot"]:List Str) ++ (Az0:List Str)).Nodup:=by decide +kernel
abbrev qB:ML:=eu 28
theorem jj:FnScope Ae0 ["strokes","standing","in_row"] (ag qB):=by walk_at "j"
theorem tx:((Au0:List Str) ++ (Ae0:List Str)).Nodup:=by decide +kernel
theorem tw:((["stroke"]:List Str) ++ (Ae0:List Str)).Nodup:=by decide +kernel
abbrev jD:ML:=eu 29
theorem cY:FnScope Ax0 ["old","strokes"] (ag jD):=by walk_at "j"
abbrev kA:ML:=eu 30
theorem eE:FnScope AI0 ["strokes"] (ag kA):=by walk_at "j"
abbrev lZ:ML:=eu 31
theorem dI:FnScope AE0 ["strokes"] (ag lZ):=by walk_at "j"
abbrev nG:ML:=eu 32
theorem fN:FnScope ["strokes","worn","stroke","name"] ["strokes"] (ag nG):=by walk_at "j"
abbrev xW:ML:=eu 33
theorem dA:FnScope Ac0 Ak0 (ag xW):=by walk_at "j"
theorem yO:((["slot"]:List Str) ++ (Ac0:List Str)).Nodup:=by decide +kernel
theorem qQ:((["slot","name"]:List Str) ++ (Ai0:List Str)).Nodup:=by decide +kernel
abbrev vJ:ML:=eu 34
theorem Af:FnScope Ak0 Ak0 (ag vJ):=by walk_at "j"
theorem w6:((["seat"]:List Str) ++ (Ak0:List Str)).Nodup:=by decide +kernel
abbrev qD:ML:=eu 39
theorem wD:FnScope ["seats","at"] ["seats","at"] (ag qD):=by walk_at "j"
abbrev jE:ML:=eu 40
theorem pE:FnScope AA0 AA0 (ag jE):=by walk_at "j"
theorem mX:((["seat"]:List Str) ++ (AA0:List Str)).Nodup:=by decide +kernel
abbrev xX:ML:=eu 43
theorem B1:FnScope Ar0 Ar0 (ag xX):=by walk_at "j"
theorem yP:((Au0:List Str) ++ (Ar0:List Str)).Nodup:=by decide +kernel
abbrev jF:ML:=eu 44
theorem cv:FnScope Ap0 Ar0 (ag jF):=by walk_at "j"
abbrev sv:ML:=eu 45
theorem eT:FnScope Ap0 Ar0 (ag sv):=by walk_at "j"
abbrev nJ:ML:=eu 47
theorem lY:FnScope AJ0 ["_law_cell","_law_k"] (ag nJ):=by walk_at "j"
abbrev kB:ML:=eu 48
theorem rB:FnScope AK0 AK0 (ag kB):=by walk_at "j"
abbrev qG:ML:=eu 49
theorem d5:FnScope Ao0 ["_law_cell"] (ag qG):=by walk_at "j"
abbrev vM:ML:=eu 50
theorem gY:FnScope Am0 ["_law_paper","_law_pen","_law_number"] (ag vM):=by walk_at "j"
abbrev qF:ML:=eu 51
theorem gO:FnScope Al0 ["_law_paper","_law_pens_here","_law_cell"] (ag qF):=by walk_at "j"
abbrev l5:ML:=eu 52
theorem sn:FnScope AM0 AM0 (ag l5):=by walk_at "j"
theorem pY:((["_law_row"]:List Str) ++ (AM0:List Str)).Nodup:=by decide +kernel
abbrev qE:ML:=eu 53
theorem wE:FnScope Aq0 Aq0 (ag qE):=by walk_at "j"
abbrev s__law_decided:ML:=eu 54
theorem aH:FnScope Aa0 ["_law_paper","_law_number"] (ag s__law_decided):=by walk_at "j"
theorem oE:((["_law_row"]:List Str) ++ (Aa0:List Str)).Nodup:=by decide +kernel
theorem iA:((Aw0:List Str) ++ (Aa0:List Str)).Nodup:=by decide +kernel
theorem iz:((Aw0:List Str) ++ (Aa0:List Str)).Nodup:=by decide +kernel
abbrev vK:ML:=eu 55
theorem mI:FnScope Aj0 ["_law_script"] (ag vK):=by walk_at "j"
abbrev e7:ML:=aN (eu 12) 0
theorem mJ:FnScope AQ0 AQ0 (ag e7):=by walk_at "j"
abbrev dJ:ML:=aN (eu 12) 1
theorem rC:FnScope Ad0 Ad0 (ag dJ):=by walk_at "j"
abbrev bV:ML:=aN (eu 12) 2
theorem nB:FnScope Ad0 Ad0 (ag bV):=by walk_at "j"
abbrev kC:ML:=aN (eu 13) 0
theorem rD:FnScope As0 As0 (ag kC):=by walk_at "j"
abbrev qH:ML:=aN (eu 13) 1
theorem wF:FnScope Ad0 Ad0 (ag qH):=by walk_at "j"
abbrev vN:ML:=aN (eu 13) 3
theorem Ag:FnScope Ad0 Ad0 (ag vN):=by walk_at "j"
abbrev il:ML:=aN (eu 14) 0
theorem mK:FnScope AD0 AD0 (ag il):=by walk_at "j"
abbrev nK:ML:=aN (eu 14) 1
theorem uB:FnScope Ad0 Ad0 (ag nK):=by walk_at "j"
abbrev iU:ML:=aN (eu 15) 0
theorem nF:FnScope Av0 Av0 (ag iU):=by walk_at "j"
abbrev qJ:ML:=aN (eu 15) 1
theorem wG:FnScope Ad0 Ad0 (ag qJ):=by walk_at "j"
abbrev jK:ML:=aN (eu 16) 0
theorem pJ:FnScope At0 At0 (ag jK):=by walk_at "j"
abbrev nR:ML:=aN (eu 16) 1
theorem uG:FnScope Ad0 Ad0 (ag nR):=by walk_at "j"
abbrev sA:ML:=aN (eu 16) 2
theorem xV:FnScope Ad0 Ad0 (ag sA):=by walk_at "j"
abbrev iT:ML:=aN (eu 41) 0
theorem nE:FnScope ["self","old"] ["self","old"] (ag iT):=by walk_at "j"
abbrev jJ:ML:=aN (eu 41) 2
theorem pI:FnScope Ad0 Ad0 (ag jJ):=by walk_at "j"
abbrev gI:ML:=aN (eu 41) 5
theorem kz:FnScope Ah0 Ah0 (ag gI):=by walk_at "j"
abbrev l6:ML:=aN (eu 41) 6
theorem sr:FnScope Ah0 Ah0 (ag l6):=by walk_at "j"
abbrev gZ:ML:=aN (eu 41) 7
theorem lL:FnScope AF0 AF0 (ag gZ):=by walk_at "j"
theorem jY:((Au0:List Str) ++ (AF0:List Str)).Nodup:=by decide +kernel
abbrev jH:ML:=aN (eu 41) 8
theorem pG:FnScope Ad0 Ad0 (ag jH):=by walk_at "j"
theorem mY:((Au0:List Str) ++ (Ad0:List Str)).Nodup:=by decide +kernel
abbrev jI:ML:=aN (eu 41) 10
theorem pH:FnScope Ad0 Ad0 (ag jI):=by walk_at "j"
theorem mZ:((Au0:List Str) ++ (Ad0:List Str)).Nodup:=by decide +kernel
abbrev nM:ML:=aN (eu 41) 11
theorem uD:FnScope Ad0 Ad0 (ag nM):=by walk_at "j"
abbrev l8:ML:=aN (eu 41) 12
theorem su:FnScope Ad0 Ad0 (ag l8):=by walk_at "j"
abbrev gG:ML:=aN (eu 41) 13
theorem kq:FnScope ["self","pen"] ["self","pen"] (ag gG):=by walk_at "j"
abbrev gF:ML:=aN (eu 41) 14
theorem ko:FnScope Ad0 Ad0 (ag gF):=by walk_at "j"
abbrev nQ:ML:=aN (eu 41) 15
theorem uF:FnScope ["self","stroke"] ["self","stroke"] (ag nQ):=by walk_at "j"
abbrev qI:ML:=aN (eu 41) 16
theorem nC:FnScope ["self","pen","at","signs","seats"] ["self","pen","at","signs"] (ag qI):=by walk_at "j"
abbrev kE:ML:=aN (eu 41) 17
theorem jC:FnScope ["self","pen","at","to","seats"] ["self","pen","at","to"] (ag kE):=by walk_at "j"
abbrev l9:ML:=aN (eu 41) 18
theorem km:FnScope AG0 ["self","pen","at","to","word"] (ag l9):=by walk_at "j"
abbrev nO:ML:=aN (eu 41) 19
theorem iJ:FnScope AB0 ["self","pen","at","to","goal"] (ag nO):=by walk_at "j"
abbrev nN:ML:=aN (eu 41) 20
theorem uE:FnScope ["self","pen","at"] ["self","pen","at"] (ag nN):=by walk_at "j"
abbrev gH:ML:=aN (eu 41) 21
theorem kt:FnScope Ah0 Ah0 (ag gH):=by walk_at "j"
abbrev im:ML:=aN (eu 41) 22
theorem mL:FnScope Ah0 Ah0 (ag im):=by walk_at "j"
abbrev nL:ML:=aN (eu 41) 23
theorem uC:FnScope Ah0 Ah0 (ag nL):=by walk_at "j"
abbrev gQ:ML:=(b8 s__law_decided).getD 2 (.Pass ⟨0,0,0,0⟩)
abbrev zq:List Str:=["_law_turn","_law_paper","_law_many"]
abbrev q_picks:Str:="_law_decided.<locals>._law_picks"
abbrev pos_picks:Pos:=⟨373,4,374,105⟩
abbrev uh(L:Nat):List (Str×Mg):=[("_law_turn",L+5),("_law_paper",L+1),("_law_many",L+4)]
abbrev ze(L:Nat)(fo:Obj)(c:Mg):Prop:=∃ doc pm ctv,fo=PySem.W.fnMade "_law_picks" q_picks (cM gQ) (b8 gQ) (ag gQ) (uh L) doc pm c ctv
theorem uA:CloScope "_law_row" zq (ag gQ):=⟨rfl,rfl,rfl,rfl,by decide +kernel,by decide +kernel,by decide +kernel⟩
def bf(_:Zz)(_:HW):br:=fun ds G Q=>match ds with
 | [d]=>∃ r:Rw,d=r.d/\Q r.key G
 | _=>False
def ie(G G':Gp):Prop:=∀ a o,G a=some o->G' a=some o
theorem ie.refl{G:Gp}:ie G G:=fun _ _ h=>h
theorem ie.trans{G G1 G2:Gp}(a:ie G G1)(b:ie G1 G2):ie G G2:=fun x o h=>b x o (a x o h)
theorem ie.gset{G G1:Gp}{p:Mg}{o:GO}(a:ie G G1)(hp:G p=none):ie G (gset G1 p o):=fun x y h=>by
 have:x≠p:=fun z=>by subst z;rw[hp]at h;cases h
 rw[ai this];exact a x y h
def dG(_:Zz)(_:HW):br:=fun ds G Q=>match ds with
 | [.ref q]=>∃ rs base:List Rw,(G q=some (.lst (rs.map Rw.d))/\lJ rs/\rs.length<=1000/\base.length < 64/\∀ r∈rs,r∈base)/\∀ out G',ie G G'->gw out->(∀ r,r∈out↔r∈rs)->Q (.fl (out.map Rw.d)) G'
 | _=>False
structure Zz where
 (Z1 Z2 Z3 Z4 Z5 C_Paper:Mg)
abbrev Zz.F(z:Zz):List Mg:=[z.Z1,z.Z2,z.Z3,z.Z4,z.Z5]
def eR(zF:Zz)(hw:HW):br:=fun ds G Q=>match ds with
 | [.str x,.ref q]=>∃ sks base:List Sk,(G q=some (.lst (sks.map Sk.d))/\x.length<=1000/\lJ (sks.map Sk.rw)/\sks.length<=1000/\base.length < 64/\(∀ s∈sks,s∈base)/\∀ s∈sks,s.ok)/\
   ∀ out G',ie G G'->gw (out.map Sk.rw)->(∀ s,s∈out↔s∈sks)->Q (.fl ((ip x.length out).map Sl.d)) G'
 | _=>False
def cn(_:Zz)(_:HW):br:=fun ds G Q=>match ds with
 | [.tup [.str p,.int n],.int m]=>(0<=m/\m<=1000)/\Q (.fl ((dQ p n m.toNat).map Sl.d)) G
 | _=>False
def aS(zF:Zz)(s:Sk):GO:=match s.act with
 | .put a x=>.ins zF.Z2 Af0 [.tup [.str s.pen,.int s.num],.int s.time,a.d,.tup [],.str x]
 | .strike ns=>.ins zF.Z3 Ab0 [.tup [.str s.pen,.int s.num],.int s.time,az.d,.tup (ns.map Sl.d)]
 | .dress ns w=>.ins zF.Z4 Ag0 [.tup [.str s.pen,.int s.num],.int s.time,az.d,.tup (ns.map Sl.d),.str w]
 | .move ns a=>.ins zF.Z5 Ab0 [.tup [.str s.pen,.int s.num],.int s.time,a.d,.tup (ns.map Sl.d)]
def aR(zF:Zz)(hw:HW):br:=fun ds G Q=>match ds with
 | [.ref a,d,.int t]=>(∃ C,C∈zF.F/\G a=some (.ins C [] [])/\∃ p n,d=.tup [.str p,.int n]/\Q .non (gset G a (.ins C Ab0 [d,.int t,az.d,.tup []])))
 | _=>False
def cj(zF:Zz)(hw:HW):br:=fun ds G Q=>match ds with
 | [.ref a,d,.int t,b,.str x]=>G a=some (.ins zF.Z2 [] [])/\∃ p n s,d=.tup [.str p,.int n]/\b=Sl.d s/\Q .non (gset G a (.ins zF.Z2 Af0 [d,.int t,b,.tup [],.str x]))
 | _=>False
def bp(zF:Zz)(hw:HW):br:=fun ds G Q=>match ds with
 | [.ref a,d,.int t,.tup ns]=>G a=some (.ins zF.Z3 [] [])/\∃ p n,d=.tup [.str p,.int n]/\Q .non (gset G a (.ins zF.Z3 Ab0 [d,.int t,az.d,.tup ns]))
 | _=>False
def bL(zF:Zz)(hw:HW):br:=fun ds G Q=>match ds with
 | [.ref a,d,.int t,.tup ns,.str w]=>G a=some (.ins zF.Z4 [] [])/\∃ p n,d=.tup [.str p,.int n]/\Q .non (gset G a (.ins zF.Z4 Ag0 [d,.int t,az.d,.tup ns,.str w]))
 | _=>False
def bU(zF:Zz)(hw:HW):br:=fun ds G Q=>match ds with
 | [.ref a,d,.int t,.tup ns,b]=>G a=some (.ins zF.Z5 [] [])/\∃ p n s,d=.tup [.str p,.int n]/\b=Sl.d s/\Q .non (gset G a (.ins zF.Z5 Ab0 [d,.int t,b,.tup ns]))
 | _=>False
def da(zF:Zz)(hw:HW):br:=fun ds G Q=>match ds with
 | [d]=>∃ s:Sk,d=s.d/\∀ p,G p=none->Q (.ref p) (gset G p (aS zF s))
 | _=>False
def ax(_:Zz)(_:HW):br:=fun ds G Q=>match ds with
 | [.ref _]=>Q (.fl []) G
 | _=>False
def bI(zF:Zz)(hw:HW):br:=fun ds G Q=>match ds with
 | [.ref a]=>∃ (s:Sk) (b:Sl) (x:Str),(s.act=.put b x/\G a=some (aS zF s)/\x.length<=1000)/\Q (.fl ((made s).map Sl.d)) G
 | _=>False
def bh(zF:Zz)(hw:HW):br:=fun ds G Q=>match ds with
 | [.ref a]=>∃ (s:Sk) (b:Sl) (ns:List Sl),(s.act=.move ns b/\G a=some (aS zF s)/\ns.length<=1000)/\Q (.fl ((made s).map Sl.d)) G
 | _=>False
def db(_:Zz)(_:HW):br:=fun ds G Q=>match ds with
 | [.str x]=>x.length<=1000/\Q (.fl ((fJ x.length).map Sl.d)) G
 | _=>False
def cS(zF:Zz)(hw:HW):br:=fun ds G Q=>match ds with
 | [.ref p,a,.lst xs]=>∃ (b:Sl) (ss W:List Sl) (kvs:List (List aA×D)),(a=b.d/\xs=ss.map Sl.d/\G p=some (.dT hw kvs)/\CO kvs W/\b∈W/\ss.Nodup/\(∀ x∈ss,x∉W)/\W.length+ss.length<=900000)/\
   ∀ Rm,CO Rm (bR W b ss)->Q .non (gset G p (.dT hw Rm))
 | _=>False
def fF(zF:Zz)(hw:HW):br:=fun ds G Q=>match ds with
 | [.ref p]=>∃ (R:List Sl) (kvs:List (List aA×D)),(G p=some (.dT hw kvs)/\CO kvs (az::R)/\R.length<=900000)/\Q (.fl (R.map Sl.d)) G
 | _=>False
def iP(zF:Zz)(G:Gp)(ps:List Mg)(o:List Sk):Prop:=ps.length=o.length/\∀ (j:Nat) p s,ps[j]?=some p->o[j]?=some s->G p=some (aS zF s)
def wn(o:List Sk):Prop:=o.length<=64/\∀ s∈o,s.wd<=1000
def fE(zF:Zz)(hw:HW):br:=fun ds G Q=>match ds with
 | [.lst xs]=>(∃ ss:List Sl,(xs=ss.map Sl.d/\ss.length<=900000)/\∀ p,G p=none->Q (.ref p) (gset G p (.dT hw (aO (fun _=>.bl true) (bS [] (ss.map fun s=>(s,())))))))\/
   ∃ ns:List Nm,(xs=ns.map Nm.d/\ns.length<=900000)/\∀ p,G p=none->Q (.ref p) (gset G p (.dT hw (dictOf (ns.map fun n=>(n.key,.bl true)))))
 | _=>False
def dW(zF:Zz)(hw:HW):br:=fun ds G Q=>match ds with
 | [.ref a,.ref p]=>∃ (s:Sk) (row:List (Sl×Unit)),(G a=some (aS zF s)/\s.wd<=1000/\G p=some (.dT hw (aO (fun _=>.bl true) row)))/\Q (.bl ((made s).all fun x=>(eN row x).isSome)) G
 | _=>False
def cu(zF:Zz)(hw:HW):br:=fun ds G Q=>match ds with
 | [.str x,.lst xs]=>∃ (ps:List Mg) (o:List Sk),(xs=ps.map D.ref/\iP zF G ps o/\wn o/\x.length<=1000)/\∀ p,G p=none->Q (.ref p) (gset G p (.dT hw (aO D.str (aE x o))))
 | _=>False
def ao(zF:Zz)(hw:HW):br:=fun ds G Q=>match ds with
 | [.ref a]=>∃ (s:Sk) (ns:List Sl),((s.act=.strike ns\/(∃ w,s.act=.dress ns w)\/∃ b,s.act=.move ns b)/\G a=some (aS zF s)/\ns.length<=1000)/\Q (.fl (ns.map Sl.d)) G
 | _=>False
def cF(zF:Zz)(hw:HW):br:=fun ds G Q=>match ds with
 | [.lst xs]=>∃ (ps:List Mg) (o:List Sk),(xs=ps.map D.ref/\iP zF G ps o/\wn o)/\∀ p,G p=none->Q (.ref p) (gset G p (.dT hw (aO (fun _=>.bl true) (bH o))))
 | _=>False
def cW(zF:Zz)(hw:HW):br:=fun ds G Q=>match ds with
 | [.lst xs]=>∃ (ps:List Mg) (o:List Sk),(xs=ps.map D.ref/\iP zF G ps o/\wn o)/\∀ p,G p=none->Q (.ref p) (gset G p (.dT hw (aO Sl.d (cR o))))
 | _=>False
def du(zF:Zz)(hw:HW):br:=fun ds G Q=>match ds with
 | [.lst xs]=>∃ (ps:List Mg) (o:List Sk),(xs=ps.map D.ref/\iP zF G ps o/\wn o)/\∀ p,G p=none->Q (.ref p) (gset G p (.dT hw (aO D.str (fW o))))
 | _=>False
def dX(zF:Zz)(hw:HW):br:=fun ds G Q=>match ds with
 | [.ref q,.lst ns,.ref p]=>∃ (sks base:List Sk) (names:List Nm) (row:List Sl),(G q=some (.lst (sks.map Sk.d))/\lJ (sks.map Sk.rw)/\sks.length<=1000/\base.length < 64/\(∀ s∈sks,s∈base)/\(∀ s∈sks,s.wd<=1000)/\ns=names.map Nm.d/\names.length<=900000/\G p=some (.dT hw (aO (fun _=>.bl true) (bS [] (row.map fun s=>(s,()))))))/\
   ∀ out ps G',ie G G'->gw (out.map Sk.rw)->(∀ s,s∈out↔s∈sks)->iP zF G' ps (jh out names row)->Q (.fl (ps.map D.ref)) G'
 | _=>False
def fA(zF:Zz)(hw:HW):br:=fun ds G Q=>match ds with
 | [.str x,.ref q,.lst ns]=>∃ (sks base:List Sk) (names:List Nm),(G q=some (.lst (sks.map Sk.d))/\x.length<=1000/\lJ (sks.map Sk.rw)/\sks.length<=1000/\base.length < 64/\(∀ s∈sks,s∈base)/\(∀ s∈sks,1<=s.num/\s.wd<=1000)/\ns=names.map Nm.d/\names.length<=900000)/\
   ∀ out G',ie G G'->gw (out.map Sk.rw)->(∀ s,s∈out↔s∈sks)->Q (.fl ((lr x out names).map Seat.d)) G'
 | _=>False
def Seat.d3(s:Seat):D:=.tup [s.name.d,.str s.sign,.str s.word]
def fB(zF:Zz)(hw:HW):br:=fun ds G Q=>match ds with
 | [.str x,.ref q,.lst ns]=>∃ (sks base:List Sk) (names:List Nm),(G q=some (.lst (sks.map Sk.d))/\x.length<=1000/\lJ (sks.map Sk.rw)/\sks.length<=1000/\base.length < 64/\(∀ s∈sks,s∈base)/\(∀ s∈sks,1<=s.num/\s.wd<=1000)/\ns=names.map Nm.d/\names.length<=900000)/\
   ∀ out G',ie G G'->gw (out.map Sk.rw)->(∀ s,s∈out↔s∈sks)->Q (.fl ((lr x out names).map Seat.d3)) G'
 | _=>False
def dH(zF:Zz)(hw:HW):br:=fun ds G Q=>match ds with
 | [.ref p]=>∃ (s:Sk) (a:Sl) (x:Str),(s.act=.put a x/\G p=some (aS zF s))/\Q s.d G
 | _=>False
def cq(zF:Zz)(hw:HW):br:=fun ds G Q=>match ds with
 | [.ref p]=>∃ (s:Sk) (ns:List Sl),(s.act=.strike ns/\G p=some (aS zF s))/\Q s.d G
 | _=>False
def cH(zF:Zz)(hw:HW):br:=fun ds G Q=>match ds with
 | [.ref p]=>∃ (s:Sk) (ns:List Sl) (w:Str),(s.act=.dress ns w/\G p=some (aS zF s))/\Q s.d G
 | _=>False
def c9(zF:Zz)(hw:HW):br:=fun ds G Q=>match ds with
 | [.ref p]=>∃ (s:Sk) (ns:List Sl) (a:Sl),(s.act=.move ns a/\G p=some (aS zF s))/\Q s.d G
 | _=>False
def cg(_:Zz)(_:HW):br:=fun ds G Q=>match ds with
 | [.lst xs,.int k]=>∃ ns:List Int,(xs=ns.map D.int/\0<=k)/\∀ c:Int,Q (.int c) G
 | _=>False
structure Pp where
 old:Str
 sks:List Sk
 st:List (List aA×D)
 gr:List (aA×D)
 time:Int
def dS(C:Mg)(hw0:List aA->Int)(G:Gp)(p d s g:Mg)(P:Pp):Prop:=G p=some (.ins C am [.str P.old,.ref d,.ref s,.ref g,.int P.time])/\G d=some (.lst (P.sks.map Sk.d))/\G s=some (.dT hw0 P.st)/\G g=some (.dK P.gr)
def gn(P:Pp)(n:Nm):Bool:=cB ((bE P.st n.key).getD .non) (.str (Mh "wiped"))
def Pp.unw(P:Pp):List Nm:=(P.sks.filter fun s=>!gn P s.nm).map Sk.nm
def Pp.num(P:Pp)(pen:Str):Int:=match bE P.gr (.inr pen) with
 | some (.int m)=>m+1
 | _=>1
def Pp.add(P:Pp)(k:Sk):Pp:=⟨P.old,P.sks ++ [k],aW P.st k.nm.key (.str (Mh "waits")),aW P.gr (.inr k.pen) (.int k.num),k.time⟩
structure Pp.ok(P:Pp)(n:Nat):Prop where
 lo:P.old.length<=40
 ls:P.sks.length<=n
 lt:P.st.length<=n
 lg:P.gr.length<=n
 sk:∀ s∈P.sks,1<=s.num/\s.wd<=60/\s.time<=P.time
 ap:(P.sks.map Sk.rw).Pairwise lq
 kn:∀ s∈P.sks,∃ w:Str,bE P.st s.nm.key=some (.str w)
 gi:∀ k v,bE P.gr k=some v->∃ m:Int,v=.int m/\0<=m
 gm:∀ s∈P.sks,∃ m:Int,bE P.gr (.inr s.pen)=some (.int m)/\s.num<=m
def rl(l:List Mg)(G G':Gp):Prop:=∀ a o,a∉l->G a=some o->G' a=some o
def Srt(P:Pp)(out:List Sk):Prop:=gw (out.map Sk.rw)/\∀ s,s∈out↔s∈P.sks
def Pp.seats(P:Pp)(out:List Sk):List Seat:=lr P.old out P.unw
def bT(zF:Zz)(hw:HW):br:=fun ds G Q=>match ds with
 | [.ref p]=>∃ (P:Pp) (d s g:Mg),(dS zF.C_Paper hw G p d s g P/\P.ok 50)/\Q (.fl (P.unw.map Nm.d)) G
 | _=>False
def dw(zF:Zz)(hw:HW):br:=fun ds G Q=>match ds with
 | [.ref p]=>∃ (P:Pp) (d s g:Mg),(dS zF.C_Paper hw G p d s g P/\P.ok 50)/\∀ out G',ie G G'->Srt P out->Q (.fl ((P.seats out).map Seat.d3)) G'
 | _=>False
def bK(zF:Zz)(hw:HW):br:=fun ds G Q=>match ds with
 | [.ref p]=>∃ (P:Pp) (d s g:Mg),(dS zF.C_Paper hw G p d s g P/\P.ok 50)/\∀ out G',ie G G'->Srt P out->Q (.fl ((P.seats out).map Seat.d)) G'
 | _=>False
def bw(zF:Zz)(hw:HW):br:=fun ds G Q=>match ds with
 | [.ref p]=>∃ (P:Pp) (d s g:Mg),(dS zF.C_Paper hw G p d s g P/\P.sks.length<=50)/\Q (.fl (P.sks.map Sk.d)) G
 | _=>False
def aK(zF:Zz)(hw:HW):br:=fun ds G Q=>match ds with
 | [.ref p,.str pen]=>∃ (P:Pp) (d s g:Mg),(dS zF.C_Paper hw G p d s g P/\∀ k v,bE P.gr k=some v->∃ m:Int,v=.int m/\0<=m)/\Q (.tup [.str pen,.int (P.num pen)]) G
 | _=>False
def aJ(zF:Zz)(hw:HW):br:=fun ds G Q=>match ds with
 | [.ref p]=>∃ (P:Pp) (d s g:Mg),dS zF.C_Paper hw G p d s g P/\Q (.int (P.time+1)) G
 | _=>False
def bY(zF:Zz)(hw:HW):br:=fun ds G Q=>match ds with
 | [.ref p,.ref a]=>∃ (P:Pp) (d s g:Mg) (k:Sk),(dS zF.C_Paper hw G p d s g P/\G a=some (aS zF k)/\P.sks.length<=50/\P.st.length<=50/\P.gr.length<=50)/\∀ G',rl [p,d,s,g] G G'->dS zF.C_Paper hw G' p d s g (P.add k)->Q (.tup [.str k.pen,.int k.num]) G'
 | _=>False
def bx(zF:Zz)(hw:HW):br:=fun ds G Q=>match ds with
 | [.ref p,.tup [.str a,.int b]]=>∃ (P:Pp) (d s g:Mg) (w:Str),(dS zF.C_Paper hw G p d s g P/\bE P.st [.inr a,.inl b]=some (.str w))/\Q .non G
 | _=>False
def bJ(zF:Zz)(hw:HW):br:=fun ds G Q=>match ds with
 | [.ref p,.tup [.str a,.int b]]=>∃ (P:Pp) (d s g:Mg) (w:Str),(dS zF.C_Paper hw G p d s g P/\bE P.st [.inr a,.inl b]=some (.str w))/\Q (.str w) G
 | _=>False
def a_(zF:Zz)(hw:HW):br:=fun ds G Q=>match ds with
 | [.ref p,.tup [.str a,.int b]]=>∃ (P:Pp) (d s g:Mg),(dS zF.C_Paper hw G p d s g P/\bE P.st [.inr a,.inl b]=some (.str (Mh "waits")))/\Q .non G
 | _=>False
def Pp.wipe(P:Pp)(n:List aA):Pp:=⟨P.old,P.sks,aW P.st n (.str (Mh "wiped")),P.gr,P.time⟩
def cU(zF:Zz)(hw:HW):br:=fun ds G Q=>match ds with
 | [.ref p,.tup [.str a,.int b]]=>∃ (P:Pp) (d s g:Mg),(dS zF.C_Paper hw G p d s g P/\bE P.st [.inr a,.inl b]=some (.str (Mh "waits"))/\P.st.length<=50)/\∀ G',rl [p,d,s,g] G G'->dS zF.C_Paper hw G' p d s g (P.wipe [.inr a,.inl b])->Q .non G'
 | _=>False
def de(_:Zz)(_:HW):br:=fun ds G Q=>match ds with
 | [.int at_,.int n]=>(0<=at_/\at_<=n)/\Q .non G
 | _=>False
def bv(_:Zz)(_:HW):br:=fun ds G Q=>match ds with
 | [.int at_,.int to_,.int n]=>(0<=at_/\at_ < n/\at_ < to_/\to_<=n)/\Q .non G
 | _=>False
def bu(_:Zz)(_:HW):br:=fun ds G Q=>match ds with
 | [.lst xs,.int i,.int j]=>∃ seats:List Seat,(xs=seats.map Seat.d/\0<=i/\i<=j/\j<=seats.length/\seats.length<=100000)/\Q (.tup ((((seats.drop i.toNat).take (j - i).toNat).map Seat.name).map Sl.d)) G
 | _=>False
def Pp.next(P:Pp)(pen:Str)(k:Sk):Prop:=k.pen=pen/\k.num=P.num pen/\k.time=P.time+1
def cG(zF:Zz)(hw:HW):br:=fun ds G Q=>match ds with
 | [.ref p,.str pen,.int i,.int j]=>∃ (P:Pp) (d s g:Mg),(dS zF.C_Paper hw G p d s g P/\P.ok 49)/\∀ out,Srt P out->(0<=i/\i < (P.seats out).length/\i < j/\j<=(P.seats out).length)/\
   ∀ G',rl [p,d,s,g] G G'->dS zF.C_Paper hw G' p d s g (P.add ⟨pen,P.num pen,P.time+1,.strike ((((P.seats out).drop i.toNat).take (j - i).toNat).map Seat.name)⟩)->Q (.tup [.str pen,.int (P.num pen)]) G'
 | _=>False
def b9(zF:Zz)(hw:HW):br:=fun ds G Q=>match ds with
 | [.ref p,.str x]=>G p=some (.ins zF.C_Paper [] [])/\∀ d s g G',(G d=none/\G s=none/\G g=none)->rl [p,d,s,g] G G'->dS zF.C_Paper hw G' p d s g ⟨x,[],[],[],0⟩->Q .non G'
 | _=>False
def o_(seats:List Seat)(i:Int):Sl:=if i=0 then az else match seats[(i - 1).toNat]? with
 | some s=>s.slot
 | none=>az
def df(_:Zz)(_:HW):br:=fun ds G Q=>match ds with
 | [.lst xs,.int i]=>∃ seats:List Seat,(xs=seats.map Seat.d/\0<=i/\i<=seats.length)/\Q (o_ seats i).d G
 | _=>False
def vW(seats:List Seat)(i j:Int):List Sl:=((seats.drop i.toNat).take (j - i).toNat).map Seat.name
def cX(zF:Zz)(hw:HW):br:=fun ds G Q=>match ds with
 | [.ref p,.str pen,.int i,.int j,.str w]=>∃ (P:Pp) (d s g:Mg),(dS zF.C_Paper hw G p d s g P/\P.ok 49)/\∀ out,Srt P out->(0<=i/\i < (P.seats out).length/\i < j/\j<=(P.seats out).length)/\
   ∀ G',rl [p,d,s,g] G G'->dS zF.C_Paper hw G' p d s g (P.add ⟨pen,P.num pen,P.time+1,.dress (vW (P.seats out) i j) w⟩)->Q (.tup [.str pen,.int (P.num pen)]) G'
 | _=>False
def dg(zF:Zz)(hw:HW):br:=fun ds G Q=>match ds with
 | [.ref p,.str pen,.int i,.str x]=>∃ (P:Pp) (d s g:Mg),(dS zF.C_Paper hw G p d s g P/\P.ok 49)/\∀ out,Srt P out->(0<=i/\i<=(P.seats out).length)/\
   ∀ G',rl [p,d,s,g] G G'->dS zF.C_Paper hw G' p d s g (P.add ⟨pen,P.num pen,P.time+1,.put (o_ (P.seats out) i) x⟩)->Q (.tup [.str pen,.int (P.num pen)]) G'
 | _=>False
def dy(zF:Zz)(hw:HW):br:=fun ds G Q=>match ds with
 | [.ref p,.str pen,.int i]=>∃ (P:Pp) (d s g:Mg),(dS zF.C_Paper hw G p d s g P/\P.ok 49)/\∀ out,Srt P out->(0<=i/\i<=(P.seats out).length)/\
   ∀ G',rl [p,d,s,g] G G'->dS zF.C_Paper hw G' p d s g (P.add ⟨pen,P.num pen,P.time+1,.put (o_ (P.seats out) i) (Mh "\n")⟩)->Q (.tup [.str pen,.int (P.num pen)]) G'
 | _=>False
def dz(zF:Zz)(hw:HW):br:=fun ds G Q=>match ds with
 | [.ref p,.str pen,.int i,.int j,.int m]=>∃ (P:Pp) (d s g:Mg),(dS zF.C_Paper hw G p d s g P/\P.ok 49)/\∀ out,Srt P out->(0<=i/\i < (P.seats out).length/\i < j/\j<=(P.seats out).length/\0<=m/\m<=(P.seats out).length)/\
   ∀ G',rl [p,d,s,g] G G'->dS zF.C_Paper hw G' p d s g (P.add ⟨pen,P.num pen,P.time+1,.move (vW (P.seats out) i j) (o_ (P.seats out) m)⟩)->Q (.tup [.str pen,.int (P.num pen)]) G'
 | _=>False
def Pp.inS(P:Pp)(w:Str):List Sk:=P.sks.filter fun s=>cB ((bE P.st s.nm.key).getD .non) (.str w)
def Pp.wai(P:Pp):List Nm:=(P.inS (Mh "waits")).map Sk.nm
def be(zF:Zz)(hw:HW):br:=fun ds G Q=>match ds with
 | [.ref p,.str w]=>∃ (P:Pp) (d s g:Mg),(dS zF.C_Paper hw G p d s g P/\P.ok 50)/\Q (.fl ((P.inS w).map Sk.d)) G
 | _=>False
def aQ(zF:Zz)(hw:HW):br:=fun ds G Q=>match ds with
 | [.ref p]=>∃ (P:Pp) (d s g:Mg),(dS zF.C_Paper hw G p d s g P/\P.ok 50)/\Q (.fl (P.wai.map Nm.d)) G
 | _=>False
def Pp.stand(P:Pp)(n:List aA):Pp:=⟨P.old,P.sks,aW P.st n (.str (Mh "stands")),P.gr,P.time⟩
def bq(zF:Zz)(hw:HW):br:=fun ds G Q=>match ds with
 | [.ref p,.tup [.str a,.int b]]=>∃ (P:Pp) (d s g:Mg),(dS zF.C_Paper hw G p d s g P/\bE P.st [.inr a,.inl b]=some (.str (Mh "waits"))/\P.st.length<=50)/\∀ G',rl [p,d,s,g] G G'->dS zF.C_Paper hw G' p d s g (P.stand [.inr a,.inl b])->Q .non G'
 | _=>False
def KO(P P':Pp):Prop:=P'.old=P.old/\P'.sks=P.sks/\P'.gr=P.gr/\P'.time=P.time/\∀ n,P.ok n->P'.ok n
def Pp.thr(P:Pp):Prop:=∀ s∈P.sks,bE P.st s.nm.key=some (.str (Mh "waits"))\/bE P.st s.nm.key=some (.str (Mh "stands"))\/bE P.st s.nm.key=some (.str (Mh "wiped"))
def cT(_:Zz)(_:HW):br:=fun ds G Q=>match ds with
 | [.int _,.int _]=>∀ n:Int,(0<=n/\n < 2147483647)->Q (.int n) G
 | _=>False
def d4(_:Zz)(_:HW):br:=fun ds G Q=>match ds with
 | [.int _]=>∀ pens:List Str,0 < pens.length->pens.length<=4->Q (.fl (pens.map D.str)) G
 | _=>False
def fG(zF:Zz)(hw:HW):br:=fun ds G Q=>match ds with
 | [.ref p,.str pen,.int z]=>∃ (P:Pp) (d s g:Mg),(dS zF.C_Paper hw G p d s g P/\P.ok 49/\0<=z)/\∀ k G',P.next pen k->k.wd<=60->rl [p,d,s,g] G G'->dS zF.C_Paper hw G' p d s g (P.add k)->Q .non G'
 | _=>False
def Pp.goes(P P':Pp):Prop:=P'.old=P.old/\(∀ n,P.ok n->P'.ok (n+1))/\(P.thr->P'.thr)
def dZ(zF:Zz)(hw:HW):br:=fun ds G Q=>match ds with
 | [.ref p,.lst ps,.int _]=>∃ (P:Pp) (d s g:Mg) (pens:List Str),(dS zF.C_Paper hw G p d s g P/\P.ok 49/\ps=pens.map D.str/\0 < pens.length/\pens.length<=4)/\∀ G' P',P.goes P'->rl [p,d,s,g] G G'->dS zF.C_Paper hw G' p d s g P'->Q .non G'
 | _=>False
def mv(turn:Int)(k:Sk):Bool:=!cB (.int ((k.num+k.time) % 3)) (.int turn)
def bX(zF:Zz)(hw:HW)(f:Mg)(fo:Obj)(c:Mg)(cds:List D):br:=fun ds G Q=>match ds with
 | [r]=>(G f=some (.fx fo)/\E1 q_picks G c)/\∃ (k:Sk) (turn many:Int) (p:Mg) (P:Pp) (d s g:Mg),(r=k.d/\cds=[.int turn,.ref p,.int many])/\(dS zF.C_Paper hw G p d s g P/\P.ok 50/\(P.wai.length:Int)=many)/\Q (.bl (mv turn k)) G
 | _=>False
theorem tW(zF:Zz)(hw:HW)(f:Mg)(fo:Obj)(c:Mg)(cds:List D):∀ ds G Q,bX zF hw f fo c cds ds G Q->G f=some (.fx fo)/\E1 q_picks G c:=by
 intro ds G Q h;unfold bX at h;split at h
 ·exact h.1
 ·exact h.elim
def Wh(cf:Mg)(spc:br)(G:Gp)(P:Pp)(w:D)(b:Sk->Bool):Prop:=(w=.non/\b=fun _=>true)\/(w=.ref cf/\Fx G cf/\∀ k∈P.sks,∀ Q':j9,Q' (.bl (b k)) G->spc [k.d] G Q')
def Pp.due(P:Pp)(b:Sk->Bool):List Nm:=((P.inS (Mh "waits")).filter b).map Sk.nm
def fC(zF:Zz)(hw:HW)(cf:Mg)(spc:br):br:=fun ds G Q=>match ds with
 | [.ref p,w]=>∃ (P:Pp) (d s g:Mg) (b:Sk->Bool),(dS zF.C_Paper hw G p d s g P/\P.ok 50/\Wh cf spc G P w b)/\Q (.fl ((P.due b).map Nm.d)) G
 | _=>False
def Pp.dec(P:Pp)(v:Str)(ns:List Nm):Pp:=⟨P.old,P.sks,ns.foldl (fun st n=>aW st n.key (.str v)) P.st,P.gr,P.time⟩
def bb(zF:Zz)(hw:HW)(cf:Mg)(spc:br):br:=fun ds G Q=>match ds with
 | [.ref p,w]=>∃ (P:Pp) (d s g:Mg) (b:Sk->Bool),(dS zF.C_Paper hw G p d s g P/\P.ok 50/\Wh cf spc G P w b)/\∀ G',rl [p,d,s,g] G G'->dS zF.C_Paper hw G' p d s g (P.dec (Mh "stands") (P.due b))->Q (.fl ((P.due b).map Nm.d)) G'
 | _=>False
def c8(zF:Zz)(hw:HW)(cf:Mg)(spc:br):br:=fun ds G Q=>match ds with
 | [.ref p,w]=>∃ (P:Pp) (d s g:Mg) (b:Sk->Bool),(dS zF.C_Paper hw G p d s g P/\P.ok 50/\Wh cf spc G P w b)/\∀ G',rl [p,d,s,g] G G'->dS zF.C_Paper hw G' p d s g (P.dec (Mh "wiped") (P.due b))->Q (.fl ((P.due b).map Nm.d)) G'
 | _=>False
def dY(zF:Zz)(hw:HW)(cf:Mg)(spc:br):br:=fun ds G Q=>match ds with
 | [.ref p,.bl t,w]=>∃ (P:Pp) (d s g:Mg) (b:Sk->Bool),(dS zF.C_Paper hw G p d s g P/\P.ok 50/\Wh cf spc G P w b)/\∀ G',rl [p,d,s,g] G G'->dS zF.C_Paper hw G' p d s g (P.dec (if t=true then Mh "stands" else Mh "wiped") (P.due b))->Q (.fl ((P.due b).map Nm.d)) G'
 | _=>False
def ig(P:Pp)(k:Sk):D:=.tup [k.nm.d,(bE P.st k.nm.key).getD .non]
def cy(zF:Zz)(hw:HW):br:=fun ds G Q=>match ds with
 | [.ref p]=>∃ (P:Pp) (d s g:Mg),(dS zF.C_Paper hw G p d s g P/\P.ok 50)/\Q (.fl (P.sks.map (ig P))) G
 | _=>False
def ce(zF:Zz)(hw:HW)(Pt:Mg):br:=fun ds G Q=>match ds with
 | [.ref p,.int _]=>∃ (P:Pp) (d s g:Mg),(dS zF.C_Paper hw G p d s g P/\P.ok 50/\xJ pos_picks q_picks Pt G)/\∀ G' P',KO P P'->dS zF.C_Paper hw G' p d s g P'->xJ pos_picks q_picks Pt G'->Q (.bl true) G'
 | _=>False
def wx(_:Zz)(_:HW)(Pt:Mg):br:=pB pos_picks q_picks Pt
def jM(zF:Zz)(hw:List aA->Int):bP:=sSeq (mN (cr (bd Jg (ab 1) (eB lb (ae (ab 0) (aq))))) (bo (bd gl (ab 0) (ab 1))) (dL))
 (bo (eC (.int 0)))
def oq(zF:Zz)(hw:List aA->Int):bP:=sSeq (bz 1 (bd f8 (eC (.int 1)) (bd ft (ab 0) (eC (.int 8)))))
 (sSeq (bz 2 (bd ft (bd jt (ab 0) (eC (.int 8))) (ab 1)))
 (sSeq (Aj 3 (uc (aq)))
 (sSeq (jl (KM (ae (bd f8 (eC (.int 2)) (bd ft (bd jt (ab 0) (eC (.int 3))) (eC (.int 3)))) (aq))) (gN 4) (sSeq (bz 5 (bd gl (eC (.str "abcdefghijklmnopqrstuvwxyz")) (bd ft (bd f8 (bd jt (ab 0) (eC (.int 64))) (bd wX (ab 4) (bd f8 (eC (.int 1)) (bd ft (bd jt (ab 0) (eC (.int 5))) (eC (.int 8)))))) (eC (.int 26)))))
 (bW (iD (ab 3) (ae (bd f8 (bd f8 (bd wX (eC (.str "m")) (ab 2)) (ab 5)) (bd wX (eC (.str "m")) (bd Ce (bd Ce (ab 1) (eC (.int 1))) (ab 2)))) (aq))))))
 (gR 3))))
def mh(zF:Zz)(hw:List aA->Int):bP:=sSeq (bz 2 (bd ft (bd wX (bd f8 (bd f8 (ab 0) (bd wX (eC (.int 7919)) (ab 1))) (eC (.int 1))) (eC (.int 48271))) (eC (.int 2147483647))))
 (bo (bd ft (bd wX (ab 2) (bd f8 (bd jt (ab 2) (eC (.int 1009))) (eC (.int 69621)))) (eC (.int 2147483647))))
def mf(zF:Zz)(hw:List aA->Int):bP:=sSeq (bz 3 (ab 1))
 (jl (eM (ab 2)) (gN 4) (sSeq (ee hw (ab 0) (ab 4) (vj hw (ab 0) (ab 3)))
 (sSeq (ee hw (ab 0) (ab 3) (ab 4))
 (bz 3 (ab 4)))))
def me(zF:Zz)(hw:List aA->Int):bP:=bo (dR 1 (Lp (ae (eC (.int 1)) (ae (bd f8 (ab 1) (eC (.int 1))) (aq)))) (gN 0) (ik) (bd f8 (ab 1) (h_ (ae (ab 0) (aq)))))
def oa(zF:Zz)(hw:List aA->Int):bP:=bo (aI (cn zF hw) [] (ae (GX Fk (eC k_START) (JS) (kP (eC (.int 2)))) (ae (eB lb (ae (ab 0) (aq))) (aq))))
def ir(zF:Zz)(hw:List aA->Int):bP:=bo (h_ (ae (bd gl (ab 0) (eC (.int 1))) (ae (bd gl (ab 0) (eC (.int 0))) (aq))))
def qM(zF:Zz)(hw:List aA->Int):bP:=sSeq (bz 1 (qY hw))
 (sSeq (xZ (ab 0) (gN 2) (ee hw (ab 1) (bd gl (ab 2) (eC (.int 0))) (ab 2)))
 (bo (AT (bf zF hw) (ab 1))))
def g_(zF:Zz)(hw:List aA->Int):bP:=sSeq (iV zF.F "name" (ab 0) (ab 1))
 (sSeq (iV zF.F "time" (ab 0) (ab 2))
 (sSeq (iV zF.F "anchor" (ab 0) (eC k_START))
 (iV zF.F "names" (ab 0) (h_ (aq)))))
def jO(zF:Zz)(hw:List aA->Int):bP:=sSeq (bW (aI (aR zF hw) [] (ae (ab 0) (ae (ab 1) (ae (ab 2) (aq))))))
 (sSeq (iV zF.F "anchor" (ab 0) (ab 3))
 (iV zF.F "signs" (ab 0) (ab 4)))
def hJ(zF:Zz)(hw:List aA->Int):bP:=sSeq (bW (aI (aR zF hw) [] (ae (ab 0) (ae (ab 1) (ae (ab 2) (aq))))))
 (iV zF.F "names" (ab 0) (ab 3))
def ix(zF:Zz)(hw:List aA->Int):bP:=sSeq (bW (aI (aR zF hw) [] (ae (ab 0) (ae (ab 1) (ae (ab 2) (aq))))))
 (sSeq (iV zF.F "names" (ab 0) (ab 3))
 (iV zF.F "word" (ab 0) (ab 4)))
def i7(zF:Zz)(hw:List aA->Int):bP:=sSeq (bW (aI (aR zF hw) [] (ae (ab 0) (ae (ab 1) (ae (ab 2) (aq))))))
 (sSeq (iV zF.F "names" (ab 0) (ab 3))
 (iV zF.F "anchor" (ab 0) (ab 4)))
def n_(zF:Zz)(hw:List aA->Int):bP:=sSeq (bz 1 (bd gl (ab 0) (eC (.int 0))))
 (sSeq (bz 2 (bd gl (ab 0) (eC (.int 1))))
 (sSeq (bz 3 (bd gl (ab 0) (eC (.int 2))))
 (sSeq (mN (cr (dC qP (bd gl (ab 3) (eC (.int 0))) (eC (.str "put")))) (bo (jR zF.Z2 (cj zF hw) [] (ae (ab 1) (ae (ab 2) (ae (bd gl (ab 3) (eC (.int 1))) (ae (bd gl (ab 3) (eC (.int 2))) (aq))))))) (dL))
 (sSeq (mN (cr (dC qP (bd gl (ab 3) (eC (.int 0))) (eC (.str "strike")))) (bo (jR zF.Z3 (bp zF hw) [] (ae (ab 1) (ae (ab 2) (ae (bd gl (ab 3) (eC (.int 1))) (aq)))))) (dL))
 (sSeq (mN (cr (dC qP (bd gl (ab 3) (eC (.int 0))) (eC (.str "dress")))) (bo (jR zF.Z4 (bL zF hw) [] (ae (ab 1) (ae (ab 2) (ae (bd gl (ab 3) (eC (.int 1))) (ae (bd gl (ab 3) (eC (.int 2))) (aq))))))) (dL))
 (bo (jR zF.Z5 (bU zF hw) [] (ae (ab 1) (ae (ab 2) (ae (bd gl (ab 3) (eC (.int 1))) (ae (bd gl (ab 3) (eC (.int 2))) (aq))))))))))))
def sQ(zF:Zz)(hw:List aA->Int):bP:=sSeq (Aj 1 (uc (aq)))
 (sSeq (bz 2 (vj hw (ab 0) (eC k_START)))
 (sSeq (Ai (cr (bd yL (ab 2) (eC .non))) (sSeq (bW (iD (ab 1) (ae (ab 2) (aq))))
 (bz 2 (vj hw (ab 0) (ab 2)))))
 (gR 1)))
def jN(zF:Zz)(hw:List aA->Int):bP:=bo (uc (aq))
def ot(zF:Zz)(hw:List aA->Int):bP:=bo (aI (cn zF hw) [] (ae (bA zF.F "name" (ab 0)) (ae (eB lb (ae (bA zF.F "signs" (ab 0)) (aq))) (aq))))
def ms(zF:Zz)(hw:List aA->Int):bP:=bo (aI (cn zF hw) [] (ae (bA zF.F "name" (ab 0)) (ae (eB lb (ae (bA zF.F "names" (ab 0)) (aq))) (aq))))
def qL(zF:Zz)(hw:List aA->Int):bP:=sSeq (bz 2 (AX hw (eC k_START) (eC .non)))
 (sSeq (bW (aI (cS zF hw) [] (ae (ab 2) (ae (eC k_START) (ae (aI (db zF hw) [] (ae (ab 0) (aq))) (aq))))))
 (sSeq (jl (eM (dR 1 (eM (aI (dG zF hw) [] (ae (ab 1) (aq)))) (gN 0) (ik) (aI (da zF hw) [] (ae (ab 0) (aq))))) (gN 3) (mN (cr (xo hw (bA zF.F "anchor" (ab 3)) (ab 2))) (bW (aI (cS zF hw) [] (ae (ab 2) (ae (bA zF.F "anchor" (ab 3)) (ae (em [(zF.Z1,ax zF hw),(zF.Z2,bI zF hw),(zF.Z3,ax zF hw),(zF.Z4,ax zF hw),(zF.Z5,bh zF hw)] "slots" [] (ab 3) aq) (aq)))))) (dL)))
 (bo (aI (fF zF hw) [] (ae (ab 2) (aq))))))
def vR(zF:Zz)(hw:List aA->Int):bP:=bo (AW hw (dR 1 (eM (ab 0)) (gN 0) (ik) (h_ (ae (ab 0) (ae (eC (.bl true)) (aq))))))
def og(zF:Zz)(hw:List aA->Int):bP:=bo (eB BI (ae (dR 1 (eM (em [(zF.Z1,ax zF hw),(zF.Z2,bI zF hw),(zF.Z3,ax zF hw),(zF.Z4,ax zF hw),(zF.Z5,bh zF hw)] "slots" [] (ab 0) aq)) (gN 0) (ik) (xo hw (ab 0) (ab 2))) (aq)))
def oh(zF:Zz)(hw:List aA->Int):bP:=sSeq (bz 3 (aI (fE zF hw) [] (ae (ab 1) (aq))))
 (sSeq (bz 4 (dR 1 (eM (aI (dG zF hw) [] (ae (ab 0) (aq)))) (gN 0) (cr (xo hw (bd gl (ab 0) (eC (.int 0))) (ab 4))) (aI (da zF hw) [] (ae (ab 0) (aq)))))
 (bo (dR 1 (eM (ab 4)) (gN 0) (jT (aI (dW zF hw) [] (ae (ab 0) (ae (ab 3) (aq))))) (ab 0))))
def iW(zF:Zz)(hw:List aA->Int):bP:=sSeq (bz 2 (AV hw (ae (aI (db zF hw) [] (ae (ab 0) (aq))) (ae (ab 0) (aq)))))
 (sSeq (jl (eM (ab 1)) (gN 3) (mN (jT (eB (xC [(zF.Z1,false),(zF.Z2,true),(zF.Z3,false),(zF.Z4,false),(zF.Z5,false)] zF.Z2) (ae (ab 3) (ae (eC (.ref zF.Z2)) aq)))) (jl (Ct (ae (em [(zF.Z1,ax zF hw),(zF.Z2,bI zF hw),(zF.Z3,ax zF hw),(zF.Z4,ax zF hw),(zF.Z5,bh zF hw)] "slots" [] (ab 3) aq) (ae (bA zF.F "signs" (ab 3)) (aq)))) (kX 2 (dk (gN 4) (dk (gN 5) (kY)))) (ee hw (ab 2) (ab 4) (ab 5))) (dL)))
 (bo (ab 2)))
def iu(zF:Zz)(hw:List aA->Int):bP:=bo (eB uj (ae (bA zF.F "names" (ab 0)) (aq)))
def jL(zF:Zz)(hw:List aA->Int):bP:=sSeq (bz 1 (qY hw))
 (sSeq (jl (eM (ab 0)) (gN 2) (mN (jT (eB (xC [(zF.Z1,false),(zF.Z2,false),(zF.Z3,true),(zF.Z4,false),(zF.Z5,false)] zF.Z3) (ae (ab 2) (ae (eC (.ref zF.Z3)) aq)))) (jl (eM (em [(zF.Z1,ao zF hw),(zF.Z2,ao zF hw),(zF.Z3,ao zF hw),(zF.Z4,ao zF hw),(zF.Z5,ao zF hw)] "touched" [] (ab 2) aq)) (gN 3) (ee hw (ab 1) (ab 3) (eC (.bl true)))) (dL)))
 (bo (ab 1)))
def kI(zF:Zz)(hw:List aA->Int):bP:=sSeq (bz 1 (qY hw))
 (sSeq (jl (eM (ab 0)) (gN 2) (mN (jT (eB (xC [(zF.Z1,false),(zF.Z2,false),(zF.Z3,false),(zF.Z4,false),(zF.Z5,true)] zF.Z5) (ae (ab 2) (ae (eC (.ref zF.Z5)) aq)))) (jl (Ct (ae (em [(zF.Z1,ao zF hw),(zF.Z2,ao zF hw),(zF.Z3,ao zF hw),(zF.Z4,ao zF hw),(zF.Z5,ao zF hw)] "touched" [] (ab 2) aq) (ae (em [(zF.Z1,ax zF hw),(zF.Z2,bI zF hw),(zF.Z3,ax zF hw),(zF.Z4,ax zF hw),(zF.Z5,bh zF hw)] "slots" [] (ab 2) aq) (aq)))) (kX 2 (dk (gN 3) (dk (gN 4) (kY)))) (ee hw (ab 1) (ab 3) (ab 4))) (dL)))
 (bo (ab 1)))
def ma(zF:Zz)(hw:List aA->Int):bP:=sSeq (bz 1 (qY hw))
 (sSeq (jl (eM (ab 0)) (gN 2) (mN (jT (eB (xC [(zF.Z1,false),(zF.Z2,false),(zF.Z3,false),(zF.Z4,true),(zF.Z5,false)] zF.Z4) (ae (ab 2) (ae (eC (.ref zF.Z4)) aq)))) (jl (eM (em [(zF.Z1,ao zF hw),(zF.Z2,ao zF hw),(zF.Z3,ao zF hw),(zF.Z4,ao zF hw),(zF.Z5,ao zF hw)] "touched" [] (ab 2) aq)) (gN 3) (ee hw (ab 1) (ab 3) (bA zF.F "word" (ab 2)))) (dL)))
 (bo (ab 1)))
def vP(zF:Zz)(hw:List aA->Int):bP:=sSeq (bz 3 (aI (eR zF hw) [] (ae (ab 0) (ae (ab 1) (aq)))))
 (sSeq (bz 4 (aI (dX zF hw) [] (ae (ab 1) (ae (ab 2) (ae (aI (fE zF hw) [] (ae (ab 3) (aq))) (aq))))))
 (sSeq (bz 5 (aI (cu zF hw) [] (ae (ab 0) (ae (ab 4) (aq)))))
 (sSeq (bz 6 (aI (cF zF hw) [] (ae (ab 4) (aq))))
 (sSeq (bz 7 (aI (cW zF hw) [] (ae (ab 4) (aq))))
 (sSeq (bz 8 (aI (du zF hw) [] (ae (ab 4) (aq))))
 (sSeq (bz 9 (qY hw))
 (sSeq (Dm (ab 5) (gN 10) (mN (cr (lH hw (ab 10) (ab 6))) (ee hw (ab 9) (qk hw (ab 7) (ab 10) (ab 10)) (ab 10)) (dL)))
 (sSeq (bz 11 (dR 1 (eM (ab 3)) (gN 0) (cr (xo hw (ab 0) (ab 10))) (h_ (ae (ab 0) (ae (vj hw (ab 10) (ab 0)) (aq))))))
 (bo (dR 2 (eM (ab 11)) (kX 2 (dk (gN 0) (dk (gN 1) (kY)))) (ik) (h_ (ae (ab 0) (ae (ab 1) (ae (vj hw (ab 7) (ab 1)) (ae (qk hw (ab 10) (ab 1) (eC (.str ""))) (aq))))))))))))))))
def sO(zF:Zz)(hw:List aA->Int):bP:=bo (dR 1 (eM (aI (fA zF hw) [] (ae (ab 0) (ae (ab 1) (ae (ab 2) (aq)))))) (gN 0) (ik) (GX Fk (ab 0) (kP (eC (.int 1))) (JS)))
def i5(zF:Zz)(hw:List aA->Int):bP:=bo (ud 1 (ij zF.C_Paper am 1 (ab 0)) (gN 0) (cr (dC EW (vj hw (ij zF.C_Paper am 2 (ab 1)) (bd gl (ab 0) (eC (.int 0)))) (eC k_WIPED))) (bd gl (ab 0) (eC (.int 0))))
def mm(zF:Zz)(hw:List aA->Int):bP:=bo (aI (fB zF hw) [] (ae (ij zF.C_Paper am 0 (ab 0)) (ae (ij zF.C_Paper am 1 (ab 0)) (ae (aT zF.C_Paper am (bT zF hw) [] (ab 0) aq) (aq)))))
def oj(zF:Zz)(hw:List aA->Int):bP:=mN (sg (cr (ql Jh Jh (eC (.int 0)) (ab 0) (ab 1)))) (mM) (dL)
def jn(zF:Zz)(hw:List aA->Int):bP:=sSeq (mN (cr (dC qP (ab 1) (eC (.int 0)))) (bo (eC k_START)) (dL))
 (bo (bd gl (bd gl (ab 0) (bd Ce (ab 1) (eC (.int 1)))) (eC (.int 0))))
def kL(zF:Zz)(hw:List aA->Int):bP:=bo (aI (fA zF hw) [] (ae (ij zF.C_Paper am 0 (ab 0)) (ae (ij zF.C_Paper am 1 (ab 0)) (ae (aT zF.C_Paper am (bT zF hw) [] (ab 0) aq) (aq)))))
def sS(zF:Zz)(hw:List aA->Int):bP:=bo (h_ (ae (bA zF.F "name" (ab 0)) (ae (bA zF.F "time" (ab 0)) (ae (h_ (ae (eC (.str "put")) (ae (bA zF.F "anchor" (ab 0)) (ae (bA zF.F "signs" (ab 0)) (aq))))) (aq)))))
def mi(zF:Zz)(hw:List aA->Int):bP:=bo (h_ (ae (bA zF.F "name" (ab 0)) (ae (bA zF.F "time" (ab 0)) (ae (h_ (ae (eC (.str "strike")) (ae (bA zF.F "names" (ab 0)) (aq)))) (aq)))))
def ow(zF:Zz)(hw:List aA->Int):bP:=bo (h_ (ae (bA zF.F "name" (ab 0)) (ae (bA zF.F "time" (ab 0)) (ae (h_ (ae (eC (.str "dress")) (ae (bA zF.F "names" (ab 0)) (ae (bA zF.F "word" (ab 0)) (aq))))) (aq)))))
def qN(zF:Zz)(hw:List aA->Int):bP:=bo (h_ (ae (bA zF.F "name" (ab 0)) (ae (bA zF.F "time" (ab 0)) (ae (h_ (ae (eC (.str "move")) (ae (bA zF.F "names" (ab 0)) (ae (bA zF.F "anchor" (ab 0)) (aq))))) (aq)))))
def mr(zF:Zz)(hw:List aA->Int):bP:=sSeq (bW (iD (ij zF.C_Paper am 1 (ab 0)) (ae (em [(zF.Z2,dH zF hw),(zF.Z3,cq zF hw),(zF.Z4,cH zF hw),(zF.Z5,c9 zF hw)] "row" [] (ab 1) aq) (aq))))
 (sSeq (ee hw (ij zF.C_Paper am 2 (ab 0)) (bA zF.F "name" (ab 1)) (eC k_WAITS))
 (sSeq (ee hw (ij zF.C_Paper am 3 (ab 0)) (bd gl (bA zF.F "name" (ab 1)) (eC (.int 0))) (bd gl (bA zF.F "name" (ab 1)) (eC (.int 1))))
 (sSeq (Bj zF.C_Paper am 4 (ab 0) (bA zF.F "time" (ab 1)))
 (bo (bA zF.F "name" (ab 1))))))
def fY(zF:Zz)(hw:List aA->Int):bP:=bo (h_ (ae (ab 1) (ae (bd f8 (qk hw (ij zF.C_Paper am 3 (ab 0)) (ab 1) (eC (.int 0))) (eC (.int 1))) (aq))))
def fX(zF:Zz)(hw:List aA->Int):bP:=bo (bd f8 (ij zF.C_Paper am 4 (ab 0)) (eC (.int 1)))
def ou(zF:Zz)(hw:List aA->Int):bP:=sSeq (bz 4 (aT zF.C_Paper am (bK zF hw) [] (ab 0) aq))
 (sSeq (bW (aI (de zF hw) [] (ae (ab 2) (ae (eB lb (ae (ab 4) (aq))) (aq)))))
 (bo (aT zF.C_Paper am (bY zF hw) [] (ab 0) (ae (jR zF.Z2 (cj zF hw) [] (ae (aT zF.C_Paper am (aK zF hw) [] (ab 0) (ae (ab 1) (aq))) (ae (aT zF.C_Paper am (aJ zF hw) [] (ab 0) aq) (ae (aI (df zF hw) [] (ae (ab 4) (ae (ab 2) (aq)))) (ae (ab 3) (aq)))))) (aq)))))
def iZ(zF:Zz)(hw:List aA->Int):bP:=sSeq (mN (sg (cr (ql Jh Jg (eC (.int 0)) (ab 0) (ab 2)))) (mM) (dL))
 (mN (sg (cr (ql Jg Jh (ab 0) (ab 1) (ab 2)))) (mM) (dL))
def iX(zF:Zz)(hw:List aA->Int):bP:=bo (eB xB (ae (dR 1 (eM (GX Fk (ab 0) (kP (ab 1)) (kP (ab 2)))) (gN 0) (ik) (bd gl (ab 0) (eC (.int 1)))) (aq)))
def jP(zF:Zz)(hw:List aA->Int):bP:=sSeq (bz 4 (aT zF.C_Paper am (bK zF hw) [] (ab 0) aq))
 (sSeq (bW (aI (bv zF hw) [] (ae (ab 2) (ae (ab 3) (ae (eB lb (ae (ab 4) (aq))) (aq))))))
 (bo (aT zF.C_Paper am (bY zF hw) [] (ab 0) (ae (jR zF.Z3 (bp zF hw) [] (ae (aT zF.C_Paper am (aK zF hw) [] (ab 0) (ae (ab 1) (aq))) (ae (aT zF.C_Paper am (aJ zF hw) [] (ab 0) aq) (ae (aI (bu zF hw) [] (ae (ab 4) (ae (ab 2) (ae (ab 3) (aq))))) (aq))))) (aq)))))
def kM(zF:Zz)(hw:List aA->Int):bP:=sSeq (bz 5 (aT zF.C_Paper am (bK zF hw) [] (ab 0) aq))
 (sSeq (bW (aI (bv zF hw) [] (ae (ab 2) (ae (ab 3) (ae (eB lb (ae (ab 5) (aq))) (aq))))))
 (bo (aT zF.C_Paper am (bY zF hw) [] (ab 0) (ae (jR zF.Z4 (bL zF hw) [] (ae (aT zF.C_Paper am (aK zF hw) [] (ab 0) (ae (ab 1) (aq))) (ae (aT zF.C_Paper am (aJ zF hw) [] (ab 0) aq) (ae (aI (bu zF hw) [] (ae (ab 5) (ae (ab 2) (ae (ab 3) (aq))))) (ae (ab 4) (aq)))))) (aq)))))
def mn(zF:Zz)(hw:List aA->Int):bP:=bo (aT zF.C_Paper am (dg zF hw) [] (ab 0) (ae (ab 1) (ae (ab 2) (ae (eC (.str "\n")) (aq)))))
def mq(zF:Zz)(hw:List aA->Int):bP:=sSeq (bz 5 (aT zF.C_Paper am (bK zF hw) [] (ab 0) aq))
 (sSeq (bW (aI (bv zF hw) [] (ae (ab 2) (ae (ab 3) (ae (eB lb (ae (ab 5) (aq))) (aq))))))
 (sSeq (bW (aI (de zF hw) [] (ae (ab 4) (ae (eB lb (ae (ab 5) (aq))) (aq)))))
 (sSeq (bz 6 (aI (bu zF hw) [] (ae (ab 5) (ae (ab 2) (ae (ab 3) (aq))))))
 (bo (aT zF.C_Paper am (bY zF hw) [] (ab 0) (ae (jR zF.Z5 (bU zF hw) [] (ae (aT zF.C_Paper am (aK zF hw) [] (ab 0) (ae (ab 1) (aq))) (ae (aT zF.C_Paper am (aJ zF hw) [] (ab 0) aq) (ae (ab 6) (ae (aI (df zF hw) [] (ae (ab 5) (ae (ab 4) (aq)))) (aq)))))) (aq)))))))
def sR(zF:Zz)(hw:List aA->Int):bP:=sSeq (bz 3 (eB lb (ae (aT zF.C_Paper am (dw zF hw) [] (ab 0) aq) (aq))))
 (sSeq (bz 4 (bd ft (ab 2) (eC (.int 8))))
 (sSeq (bz 5 (bd ft (bd jt (ab 2) (eC (.int 8))) (bd f8 (ab 3) (eC (.int 1)))))
 (sSeq (mN (xS (cr (bd Jg (ab 4) (eC (.int 3)))) (cr (dC qP (ab 5) (ab 3)))) (sSeq (bW (aT zF.C_Paper am (dg zF hw) [] (ab 0) (ae (ab 1) (ae (ab 5) (ae (GX Fk (eC (.str "ab C\n~x")) (kP (bd ft (bd jt (ab 2) (eC (.int 11))) (eC (.int 4)))) (kP (bd f8 (bd f8 (bd ft (bd jt (ab 2) (eC (.int 11))) (eC (.int 4))) (eC (.int 1))) (bd ft (bd jt (ab 2) (eC (.int 307))) (eC (.int 4)))))) (aq))))))
 (Dl)) (dL))
 (sSeq (bz 6 (bd f8 (bd f8 (ab 5) (eC (.int 1))) (bd ft (bd jt (ab 2) (eC (.int 1009))) (eB EL (ae (eC (.int 5)) (ae (bd Ce (ab 3) (ab 5)) (aq)))))))
 (mN (cr (dC qP (ab 4) (eC (.int 3)))) (bW (aT zF.C_Paper am (cG zF hw) [] (ab 0) (ae (ab 1) (ae (ab 5) (ae (ab 6) (aq)))))) (mN (cr (dC qP (ab 4) (eC (.int 4)))) (bW (aT zF.C_Paper am (cX zF hw) [] (ab 0) (ae (ab 1) (ae (ab 5) (ae (ab 6) (ae (bd gl (uc (ae (eC (.str "")) (ae (eC (.str "bold")) (ae (eC (.str "bolder")) (ae (eC (.str "x")) (aq)))))) (bd ft (bd jt (ab 2) (eC (.int 31))) (eC (.int 4)))) (aq))))))) (mN (cr (dC qP (ab 4) (eC (.int 7)))) (bW (aT zF.C_Paper am (dy zF hw) [] (ab 0) (ae (ab 1) (ae (ab 5) (aq))))) (bW (aT zF.C_Paper am (dz zF hw) [] (ab 0) (ae (ab 1) (ae (ab 5) (ae (ab 6) (ae (bd ft (bd jt (ab 2) (eC (.int 53))) (bd f8 (ab 3) (eC (.int 1)))) (aq))))))))))))))
def gJ(zF:Zz)(hw:List aA->Int):bP:=bo (ud 1 (ij zF.C_Paper am 1 (ab 0)) (gN 0) (cr (dC qP (vj hw (ij zF.C_Paper am 2 (ab 1)) (bd gl (ab 0) (eC (.int 0)))) (ab 2))) (ab 0))
def i0(zF:Zz)(hw:List aA->Int):bP:=bo (dR 1 (eM (aT zF.C_Paper am (be zF hw) [] (ab 0) (ae (eC k_WAITS) (aq)))) (gN 0) (ik) (bd gl (ab 0) (eC (.int 0))))
def f6(zF:Zz)(hw:List aA->Int):bP:=mN (cr (lH hw (ab 1) (ij zF.C_Paper am 2 (ab 0)))) (mM) (dL)
def kK(zF:Zz)(hw:List aA->Int):bP:=sSeq (bW (aT zF.C_Paper am (bx zF hw) [] (ab 0) (ae (ab 1) (aq))))
 (bo (vj hw (ij zF.C_Paper am 2 (ab 0)) (ab 1)))
def fZ(zF:Zz)(hw:List aA->Int):bP:=mN (cr (dC EW (aT zF.C_Paper am (bJ zF hw) [] (ab 0) (ae (ab 1) (aq))) (eC k_WAITS))) (mM) (dL)
def hU(zF:Zz)(hw:List aA->Int):bP:=sSeq (bW (aT zF.C_Paper am (a_ zF hw) [] (ab 0) (ae (ab 1) (aq))))
 (ee hw (ij zF.C_Paper am 2 (ab 0)) (ab 1) (eC k_STANDS))
def mj(zF:Zz)(hw:List aA->Int):bP:=sSeq (bW (aT zF.C_Paper am (a_ zF hw) [] (ab 0) (ae (ab 1) (aq))))
 (ee hw (ij zF.C_Paper am 2 (ab 0)) (ab 1) (eC k_WIPED))
def oo(zF:Zz)(hw:List aA->Int):bP:=sSeq (bz 3 (aI (cT zF hw) [] (ae (ab 2) (ae (eC (.int 1)) (aq)))))
 (sSeq (bz 4 (aT zF.C_Paper am (aQ zF hw) [] (ab 0) aq))
 (mN (vD (cr (dC qP (bd ft (ab 2) (eC (.int 6))) (eC (.int 5)))) (cr (dC EW (ab 4) (uc (aq))))) (sSeq (bz 5 (bd gl (ab 4) (bd ft (bd jt (ab 3) (eC (.int 2))) (eB lb (ae (ab 4) (aq))))))
 (mN (cr (dC qP (bd ft (ab 3) (eC (.int 2))) (eC (.int 0)))) (bW (aT zF.C_Paper am (bq zF hw) [] (ab 0) (ae (ab 5) (aq)))) (bW (aT zF.C_Paper am (cU zF hw) [] (ab 0) (ae (ab 5) (aq)))))) (bW (aI (fG zF hw) [] (ae (ab 0) (ae (bd gl (ab 1) (bd ft (bd jt (ab 2) (eC (.int 6))) (eB lb (ae (ab 1) (aq))))) (ae (ab 3) (aq))))))))
def iK(zF:Zz)(hw:List aA->Int):bP:=bo (CB (dC qP (eB lb (ae (aT zF.C_Paper am (aQ zF hw) [] (ab 2) aq) (aq))) (ab 3)) (dC EW (bd ft (bd f8 (bd gl (bd gl (ab 0) (eC (.int 0))) (eC (.int 1))) (bd gl (ab 0) (eC (.int 1)))) (eC (.int 3))) (ab 1)))
def i6(zF:Zz)(hw:List aA->Int):bP:=bo (eB uj (ae (ij zF.C_Paper am 1 (ab 0)) (aq)))
def kJ(zF:Zz)(hw:List aA->Int):bP:=bo (dR 1 (eM (aT zF.C_Paper am (bw zF hw) [] (ab 0) aq)) (gN 0) (ik) (h_ (ae (bd gl (ab 0) (eC (.int 0))) (ae (aT zF.C_Paper am (bJ zF hw) [] (ab 1) (ae (bd gl (ab 0) (eC (.int 0))) (aq))) (aq)))))
def vQ(zF:Zz)(hw:List aA->Int)(cf:Mg)(spc:br):bP:=bo (dR 1 (eM (aT zF.C_Paper am (be zF hw) [] (ab 0) (ae (eC k_WAITS) (aq)))) (gN 0) (xS (cr (bd AB (ab 2) (eC .non))) (jT (AY cf spc (ab 2) (ae (ab 0) (aq))))) (bd gl (ab 0) (eC (.int 0))))
def iY(zF:Zz)(hw:List aA->Int)(cf:Mg)(spc:br):bP:=sSeq (Aj 2 (aI (fC zF hw cf spc) [] (ae (ab 0) (ae (ab 1) (aq)))))
 (sSeq (xZ (ab 2) (gN 3) (bW (aT zF.C_Paper am (bq zF hw) [] (ab 0) (ae (ab 3) (aq)))))
 (gR 2))
def qK(zF:Zz)(hw:List aA->Int)(cf:Mg)(spc:br):bP:=sSeq (Aj 2 (aI (fC zF hw cf spc) [] (ae (ab 0) (ae (ab 1) (aq)))))
 (sSeq (xZ (ab 2) (gN 3) (bW (aT zF.C_Paper am (cU zF hw) [] (ab 0) (ae (ab 3) (aq)))))
 (gR 2))
def on(zF:Zz)(hw:List aA->Int)(cf:Mg)(spc:br):bP:=sSeq (mN (vD (jT (ab 1)) (cr (bd AB (ab 2) (eC .non)))) (bo (aI (bb zF hw cf spc) [.non] (ae (ab 0) (aq)))) (dL))
 (sSeq (mN (jT (ab 1)) (bo (aI (bb zF hw cf spc) [] (ae (ab 0) (ae (ab 2) (aq))))) (dL))
 (sSeq (mN (cr (bd AB (ab 2) (eC .non))) (bo (aI (c8 zF hw cf spc) [.non] (ae (ab 0) (aq)))) (dL))
 (bo (aI (c8 zF hw cf spc) [] (ae (ab 0) (ae (ab 2) (aq)))))))
def gu(zF:Zz)(hw:List aA->Int)(Pt:Mg)(κ:Obj->Mg->Prop):bP:=sSeq (bz 2 (eB lb (ae (aT zF.C_Paper am (aQ zF hw) [] (ab 0) aq) (aq))))
 (sSeq (bz 3 (bd ft (bd jt (ab 1) (eC (.int 2))) (eC (.int 3))))
 (sSeq (Hx 4 Pt pos_picks q_picks κ)
 (sSeq (bz 5 (aI (cy zF hw) [] (ae (ab 0) (aq))))
 (sSeq (bz 6 (dC qP (bd ft (ab 1) (eC (.int 2))) (eC (.int 0))))
 (sSeq (bz 7 (eB uj (ae (aT zF.C_Paper am (bw zF hw) [] (ab 0) aq) (aq))))
 (sSeq (bz 8 (dR 1 (eM (ab 7)) (gN 0) (vD (cr (dC qP (aT zF.C_Paper am (bJ zF hw) [] (ab 1) (ae (bd gl (ab 0) (eC (.int 0))) (aq))) (eC (.str "waits")))) (cr (dC EW (bd ft (bd f8 (bd gl (bd gl (ab 0) (eC (.int 0))) (eC (.int 1))) (bd gl (ab 0) (eC (.int 1)))) (eC (.int 3))) (ab 4)))) (bd gl (ab 0) (eC (.int 0)))))
 (sSeq (bz 9 (ab 4))
 (sSeq (mN (cr (dC qP (bd ft (bd jt (ab 1) (eC (.int 6))) (eC (.int 3))) (eC (.int 0)))) (sSeq (bz 9 (eC .non))
 (bz 8 (eB uj (ae (aT zF.C_Paper am (aQ zF hw) [] (ab 0) aq) (aq))))) (dL))
 (sSeq (Aj 10 (AZ [3,0,2] κ (fun f fo c cds=>dY zF hw f (bX zF hw f fo c cds)) (ae (ab 0) (ae (ab 6) (ae (ab 9) (aq))))))
 (sSeq (mN (xS (sg (jT (eB EM (ae (ab 10) (ae (eC (.ty "list")) (aq)))))) (xS (cr (dC Ih (ab 10) (ab 8))) (cr (dC EW (aT zF.C_Paper am (bw zF hw) [] (ab 0) aq) (ab 7))))) (bo (eC (.bl false))) (dL))
 (sSeq (bz 11 (GY (jT (ab 6)) (eC (.str "stands")) (eC (.str "wiped"))))
 (sSeq (bz 12 (dR 2 (eM (ab 5)) (kX 2 (dk (gN 0) (dk (gN 1) (kY)))) (ik) (GY (cr (dC KJ (ab 0) (ab 10))) (h_ (ae (ab 0) (ae (ab 13) (aq)))) (h_ (ae (ab 0) (ae (ab 1) (aq)))))))
 (sSeq (bW (iD (ab 10) (ae (h_ (ae (eC (.str "a")) (ae (eC (.int 1)) (aq)))) (aq))))
 (bo (CB (dC qP (aI (cy zF hw) [] (ae (ab 0) (aq))) (ab 12)) (dC qP (aT zF.C_Paper am (aQ zF hw) [] (ab 0) aq) (dR 2 (eM (ab 12)) (kX 2 (dk (gN 0) (dk (gN 1) (kY)))) (cr (dC qP (ab 1) (eC (.str "waits")))) (ab 0))))))))))))))))))
def iw(zF:Zz)(hw:List aA->Int):bP:=sSeq (sB zF.C_Paper [] "old" (ab 0) (ab 1))
 (sSeq (sB zF.C_Paper ["old"] "drawn" (ab 0) (AU (uc (aq))))
 (sSeq (sB zF.C_Paper ["old","drawn"] "states" (ab 0) (qY hw))
 (sSeq (sB zF.C_Paper AL0 "greatest" (ab 0) (Eu))
 (sB zF.C_Paper ["old","drawn","states","greatest"] "time" (ab 0) (eC (.int 0))))))
def Du(zF:Zz)(hw:List aA->Int)(Pt:Mg):bP:=sSeq (bz 1 (aI (cg zF hw) [] (ae (ab 0) (ae (eC (.int 0)) (aq)))))
 (sSeq (bz 2 (GX Fk (eC (.str "a bC\nde, ~f.\n")) (JS) (kP (bd ft (bd jt (ab 1) (eC (.int 7))) (eC (.int 13))))))
 (sSeq (bz 3 (aI (d4 zF hw) [] (ae (ab 1) (aq))))
 (sSeq (bz 4 (jR zF.C_Paper (b9 zF hw) [] (ae (ab 2) (aq))))
 (sSeq (jl (eM (GX Fk (ab 0) (kP (eC (.int 2))) (kP (eC (.int 18))))) (gN 5) (bW (aI (dZ zF hw) [] (ae (ab 4) (ae (ab 3) (ae (ab 5) (aq)))))))
 (sSeq (jl (KM (ae (eC (.int 2)) (aq))) (gN 6) (mN (sg (jT (aI (ce zF hw Pt) [] (ae (ab 4) (ae (aI (cT zF hw) [] (ae (aI (cg zF hw) [] (ae (ab 0) (ae (eC (.int 1)) (aq)))) (ae (bd f8 (eC (.int 20)) (ab 6)) (aq)))) (aq)))))) (bo (eC (.bl false))) (dL)))
 (sSeq (bW (aI (bb zF hw 0 Ff) [.non] (ae (ab 4) (aq))))
 (bo (CB (dC qP (aI (bb zF hw 0 Ff) [.non] (ae (ab 4) (aq))) (uc (aq))) (CB (dC qP (aI (c8 zF hw 0 Ff) [.non] (ae (ab 4) (aq))) (uc (aq))) (dC qP (aT zF.C_Paper am (aQ zF hw) [] (ab 4) aq) (uc (aq))))))))))))
def wl:String:="dL bW bo Dl Hy Jt mN mM bz Aj gR Lc Bj sB ab eC bd dC ql CB L6 J7 GY Lx cr vD xS sg jT ik C8 h_ uc aq ae f8 oI GM Ce ft jt Lj wX Jg Jh LO L0 qP EW gl GX JS kP Fk eB lb uj xB Lz EL LA EM gU aI aT jR ij J9 iD dR jl eM KM Lp Lo La eF rT EO gN kX dk kY val cC List.map_cons List.map_nil List.replicate List.length_cons List.length_nil List.cons_append List.nil_append List.append_nil List.getElem?_cons_zero List.getElem?_cons_succ List.getElem?_nil List.set_cons_zero List.set_cons_succ List.set_nil Nat.reduceAdd Nat.reduceSub Nat.reduceLeDiff Nat.zero_add Option.some.injEq Option.map_some decide_eq_true_eq true_and and_true and_self if_true if_false Bool.false_eq_true reduceCtorEq List.cons.injEq GO.ins.injEq GO.lst.injEq D.lst.injEq D.fl.injEq exists_eq_left' exists_eq_left exists_eq' au d6 pl aY Kv Ku Kt Ks Kr Kq Ko Kn Km Kl Kk Kj Ki Kh Kg qY Eu qk ee kQ J8 J6 IH Li Ig jQ cA m7 zc F8 Bool.not_true Bool.not_false bA iV em AX IG IF AT AB yL qW Ai vj xo lH LB Kf if_true if_false AW AV Ct fy Dm BI xC J5 Gm LW J6 lH qk jQ LO AU xZ ud k_WAITS k_WIPED k_STANDS EL Lk Ih EM gU AB qW AY AZ Hx k_START t5 t3 qj rS wN wS wM wR wL wQ wK wP zt zr vf xk B_ Cb B9 Ca wO wT vi vh t6 vg yH yI bf dG cn aR cj bp bL bU da ax bI bh db cS fF eR fE dW dX cu ao cF cW du fA fB de bv df bu dH cq cH c9 bT dw bK bw be aQ aK aJ bY bx bJ a_ cU bq b9 cG dg dy cX dz fC bb c8 cT cg d4 fG dZ cy dY ce"
local macro_rules | `(tactic| walk_at "st") => do let ls <- (("sSeq " ++ wl).splitOn " ").toArray.mapM (fun s => `(Lean.Parser.Tactic.simpLemma| $(Lean.mkIdent s.toName):term)); `(tactic| simp only [$ls,*, *])
local macro_rules | `(tactic| walk_at "s1") => do let ls <- (wl.splitOn " ").toArray.mapM (fun s => `(Lean.Parser.Tactic.simpLemma| $(Lean.mkIdent s.toName):term)); `(tactic| simp only [$ls,*, *])
theorem ve{b:Bool}{p q:Prop}(h1:b=true->p)(h2:b=false->q):if b=true then p else q:=by
 cases b
 ·rw[if_neg (by decide)];exact h2 rfl
 ·rw[if_pos rfl];exact h1 rfl
theorem iteF{p q:Prop}(h:q):if (false:Bool)=true then p else q:=by rw[if_neg (by decide)];exact h
theorem iteT{p q:Prop}(h:p):if (true:Bool)=true then p else q:=by rw[if_pos rfl];exact h
theorem qX{a b:Int}(h:0 < b):0<=a % b/\a % b < b:=⟨Int.emod_nonneg _ (by walk_at "o"),Int.emod_lt_of_pos _ h⟩
def BG(m:Str)(i:Int):Str:=⟨#[m.cps.toList.getD i.toNat 0]⟩
theorem Df{m:Str}{i:Int}(h0:0<=i)(h:i < m.length):L3.strAt m i=some (.str (BG m i)):=by
 have hl:i.toNat < m.cps.toList.length:=by simp only[Array.length_toList];have:m.length=m.cps.size:=rfl;omega
 unfold L3.strAt lW F_;have h2:i < (m.cps.toList.length:Int):=by walk_at "o"
 rw[if_pos h0,if_pos h2];have hl':i.toNat < m.cps.size:=by simpa using hl
 simp[BG,hl']
theorem IX{α:Type}[Inhabited α]{f:α->D}{xs:List α}{i:Int}(h0:0<=i)(h:i < xs.length):lW (xs.map f) i=some (f (xs.getD i.toNat default)):=by
 rw[o8 h0 (by rw[Ml];exact h)]
 have hi:i.toNat < xs.length:=by walk_at "o"
 simp[hi]
theorem v4{G:Gp}{p:Mg}{o:GO}(h:G p=none):eX (gset G p o) p=G:=by
 funext a
 by_cases e:a=p
 ·subst e;rw[d7,h]
 ·rw[d8 e,ai e]
local macro_rules | `(tactic| walk_at "conds") => `(tactic| (repeat ((with_reducible refine And.intro ?cc ?_); (case cc => first | decide | omega | rfl))))
def bF(sp:br)(rd:bP)(ns:List Str):Prop:=∀ ds G Q,sp ds G Q->rd { nx:=fun _ G'=>Q .non G',rt:=Q } (cC ns ds) G
def bG(sp:br)(n:Nat):Prop:=∀ ds G Q,sp ds G Q->ds.length=n
local macro_rules | `(tactic| walk_at "i") => `(tactic| first | exact Or.inl rfl | exact Or.inr rfl)
def L8(sp:KN)(rx:XQ->bP)(ns:List Str):Prop:=∀ EQ ds G Q,sp ds G Q EQ->rx EQ { nx:=fun _ G'=>Q .non G',rt:=Q } (cC ns ds) G
def L_(sp:KN)(n:Nat):Prop:=∀ ds G Q EQ,sp ds G Q EQ->ds.length=n
theorem lM(zF:Zz)(hw:HW):bF (aR zF hw) (g_ zF hw) AQ0:=by
 intro ds G Q h;unfold aR at h;split at h
 ·rename_i a d t;obtain⟨C,hC,hG,p,n,rfl,h⟩:=h;have hs:=ah;unfold g_;walk_at "st";walk_at "conds";exact h
 ·exact h.elim
theorem pQ(zF:Zz)(hw:HW):bF (cj zF hw) (jO zF hw) As0:=by
 intro ds G Q h;unfold cj at h;split at h
 ·rename_i a d t b x;obtain⟨hG,p,n,s,rfl,rfl,h⟩:=h;have hs:=ah;have hc:zF.Z2∈zF.F:=by simp
  unfold jO;unfold Sl.d;walk_at "st";exact⟨zF.Z2,hc,rfl,p,n,rfl,⟨hc,by decide⟩,⟨hc,by decide⟩,h⟩
 ·exact h.elim
theorem lN(zF:Zz)(hw:HW):bF (bp zF hw) (hJ zF hw) AD0:=by
 intro ds G Q h;unfold bp at h;split at h
 ·obtain⟨hG,p,n,rfl,h⟩:=h;have hs:=ah;have hc:zF.Z3∈zF.F:=by simp
  unfold hJ;walk_at "st";exact⟨zF.Z3,hc,rfl,p,n,rfl,⟨hc,by decide⟩,h⟩
 ·exact h.elim
theorem mS(zF:Zz)(hw:HW):bF (bL zF hw) (ix zF hw) Av0:=by
 intro ds G Q h;unfold bL at h;split at h
 ·obtain⟨hG,p,n,rfl,h⟩:=h;have hs:=ah;have hc:zF.Z4∈zF.F:=by simp
  unfold ix;walk_at "st";exact⟨zF.Z4,hc,rfl,p,n,rfl,⟨hc,by decide⟩,⟨hc,by decide⟩,h⟩
 ·exact h.elim
theorem n8(zF:Zz)(hw:HW):bF (bU zF hw) (i7 zF hw) At0:=by
 intro ds G Q h;unfold bU at h;split at h
 ·obtain⟨hG,p,n,s,rfl,rfl,h⟩:=h;have hs:=ah;have hc:zF.Z5∈zF.F:=by simp
  unfold i7;unfold Sl.d;walk_at "st";exact⟨zF.Z5,hc,rfl,p,n,rfl,⟨hc,by decide⟩,⟨hc,by decide⟩,h⟩
 ·exact h.elim
theorem sD(zF:Zz)(hw:HW):bF (cn zF hw) (me zF hw) Ay0:=by
 intro ds G Q h;unfold cn at h;split at h
 ·rename_i p n m;obtain⟨⟨h1,h2⟩,h⟩:=h;have hs:=ah;unfold me;walk_at "s1";refine⟨⟨by walk_at "o",by walk_at "o",by walk_at "o",by walk_at "o"⟩,gc (fun d=>match d with|.int k=>.tup [.str p,.int n,.int k]|d=>d) (by rw[iL];omega) (fun d hd P hP=>?_) ?_⟩
  ·obtain⟨k,hk,rfl⟩:=mem_map.mp hd;walk_at "st";exact⟨rfl,by walk_at "o",by simp,by walk_at "o",hP _ rfl⟩
  ·have e:(fH 1 (m+1 - 1).toNat).map (fun d=>match d with|D.int k=>D.tup [.str p,.int n,.int k]|d=>d)=(dQ p n m.toNat).map Sl.d:=by
    unfold fH dQ;rw[MU,MU,show m+1 - 1=m by walk_at "o"]
    refine ND fun k _=>?_;simp only[Function.comp,Sl.d];rw[Int.add_comm]
   rw[e];exact h
 ·exact h.elim
theorem uI(zF:Zz)(hw:HW):bF (db zF hw) (oa zF hw) ["old"]:=by
 intro ds G Q h;unfold db at h;split at h
 ·rename_i x;obtain⟨h1,h⟩:=h;have hs:=ah;unfold oa;have ec:L3.cutD [D.str (Mh ""),D.int 0,D.int 0] none (some 2)=[D.str (Mh ""),D.int 0]:=by rw[Gt (by decide)];rfl
  walk_at "st";refine⟨by decide,by walk_at "o",⟨by walk_at "o",by walk_at "o"⟩,?_⟩
  rw[Int.toNat_natCast];exact h
 ·exact h.elim
theorem pP(zF:Zz)(hw:HW):bF (ax zF hw) (jN zF hw) Ad0:=by
 intro ds G Q h;unfold ax at h;split at h
 ·have hs:=ah;unfold jN;walk_at "st"
  first|exact⟨by walk_at "o",h⟩|omega
 ·exact h.elim
theorem uR(zF:Zz)(hw:HW):bF (bI zF hw) (ot zF hw) Ad0:=by
 intro ds G Q h;unfold bI at h;split at h
 ·rename_i a;obtain⟨s,b,x,⟨e,hG,hl⟩,h⟩:=h;have hs:=ah;have hc:zF.Z2∈zF.F:=by simp
  unfold aS at hG;rw[e]at hG;unfold ot;walk_at "st";refine⟨by walk_at "o",⟨by walk_at "o",by walk_at "o"⟩,?_⟩
  rw[Int.toNat_natCast];unfold made at h;rw[e]at h;exact h
 ·exact h.elim
theorem sN(zF:Zz)(hw:HW):bF (bh zF hw) (ms zF hw) Ad0:=by
 intro ds G Q h;unfold bh at h;split at h
 ·rename_i a;obtain⟨s,b,ns,⟨e,hG,hl⟩,h⟩:=h;have hs:=ah;have hc:zF.Z5∈zF.F:=by simp
  unfold aS at hG;rw[e]at hG;unfold ms;walk_at "st";rw[Ml];refine⟨⟨by walk_at "o",by walk_at "o"⟩,?_⟩
  rw[Int.toNat_natCast];unfold made at h;rw[e]at h;exact h
 ·exact h.elim
theorem pA{a b:String}(h:Mh a≠Mh b):cB (.str (Mh a)) (.str (Mh b))=false:=bB fun z=>h (by injection z)
theorem uH(zF:Zz)(hw:HW):bF (da zF hw) (n_ zF hw) ["row","name","time","act"]:=by
 intro ds G Q h;unfold da at h;split at h
 ·obtain⟨⟨pen,num,time,act⟩,rfl,h⟩:=h;have hs:=ah;unfold aS at h;unfold n_ Sk.d;cases act with
  | put a x=>
   unfold Act.d;dsimp only at h;rw[af];walk_at "s1";rw[af];walk_at "s1";rw[af];walk_at "s1";rw[af];unfold Sl.d at h;unfold Sl.d;walk_at "s1";exact fun p hp=>⟨pen,num,a,rfl,rfl,h p hp⟩
  | strike ns=>
   unfold Act.d;dsimp only at h;rw[af];walk_at "s1";rw[af];walk_at "s1";rw[af];walk_at "s1";have e0:=pA (a:="strike") (b:="put") (by decide +kernel)
   rw[af];refine cD false (fun K hK=>?_) (iteF ?_)
   ·walk_at "st"
   ·simp only[dL];rw[af];walk_at "s1";exact fun p hp=>⟨pen,num,rfl,h p hp⟩
  | dress ns w=>
   unfold Act.d;dsimp only at h;rw[af];walk_at "s1";rw[af];walk_at "s1";rw[af];walk_at "s1";have e0:=pA (a:="dress") (b:="put") (by decide +kernel)
   have e1:=pA (a:="dress") (b:="strike") (by decide +kernel)
   rw[af];refine cD false (fun K hK=>?_) (iteF ?_)
   ·walk_at "st"
   ·simp only[dL];rw[af];refine cD false (fun K hK=>?_) (iteF ?_)
    ·walk_at "st"
    ·simp only[dL];rw[af];walk_at "s1";exact fun p hp=>⟨pen,num,rfl,h p hp⟩
  | move ns a=>
   unfold Act.d;dsimp only at h;rw[af];walk_at "s1";rw[af];walk_at "s1";rw[af];walk_at "s1";have e0:=pA (a:="move") (b:="put") (by decide +kernel)
   have e1:=pA (a:="move") (b:="strike") (by decide +kernel)
   have e2:=pA (a:="move") (b:="dress") (by decide +kernel)
   rw[af];refine cD false (fun K hK=>?_) (iteF ?_)
   ·walk_at "st"
   ·simp only[dL];rw[af];refine cD false (fun K hK=>?_) (iteF ?_)
    ·walk_at "st"
    ·simp only[dL];rw[af];refine cD false (fun K hK=>?_) (iteF ?_)
     ·walk_at "st"
     ·simp only[dL];unfold Sl.d at h;unfold Sl.d;walk_at "s1";exact fun p hp=>⟨pen,num,a,rfl,rfl,h p hp⟩
 ·exact h.elim
theorem mP(zF:Zz)(hw:HW):bF (bf zF hw) (ir zF hw) Au0:=by
 intro ds G Q h;unfold bf at h;split at h
 ·obtain⟨r,rfl,h⟩:=h;have hs:=ah;unfold ir Rw.d;walk_at "st"
  first|exact⟨by walk_at "o",h⟩|omega
 ·exact h.elim
def LY(hw:List aA->Int)(G:Gp)(p:Mg)(ss W:List Sl)(b:Sl)(a:D)(i:Nat)(σ:eO)(G':Gp):Prop:=∃ (x4:Option D) (Wi:List Sl) (bi:Sl) (kvs:List (List aA×D)),σ=[some (.ref p),some a,some (.lst (ss.map Sl.d)),some bi.d,x4]/\G'=gset G p (.dT hw kvs)/\CO kvs Wi/\bi∈Wi/\(∀ x∈ss.drop i,x∉Wi)/\bR Wi bi (ss.drop i)=bR W b ss/\Wi.length=W.length+i
theorem sE(zF:Zz)(hw:HW):bF (cS zF hw) (mf zF hw) AC0:=by
 intro ds G Q h;unfold cS at h;split at h
 ·rename_i p a xs;obtain⟨b,ss,W,kvs,⟨rfl,rfl,hG,hF,hb,nd,hf,hl⟩,h⟩:=h;have hs:=ah;unfold mf;rw[af];have eb:(match b.d with|D.fl ds=>D.lst ds|d=>d)=b.d:=rfl
  simp only[bz,ab,cC,val,MF,Pi,Oi,Oq,List.replicate,Nb,Nc,MC,MZ,MK,M1,Nat.reduceAdd,Nat.reduceSub,eb];refine⟨LY hw G p ss W b b.d,⟨_,W,b,kvs,rfl,?_,hF,hb,hf,rfl,rfl⟩,?_,?_⟩
  ·funext z
   by_cases e:z=p
   ·subst e;rw[au];exact hG
   ·rw[ai e]
  ·rintro i d σ G' hd ⟨x4,Wi,bi,kvs,rfl,rfl,hF,hb,hf,hI,hlen⟩
   rw[MA]at hd;cases hx:ss[i]? with
   | none=>rw[hx]at hd;cases hd
   | some x=>
    rw[hx]at hd;cases hd;obtain⟨hi,ex⟩:=List.getElem?_eq_some_iff.mp hx;have dr:ss.drop i=x::ss.drop (i+1):=by rw[<- ex];exact List.drop_eq_getElem_cons hi
    rw[dr]at hf hI;have hxW:=hf x Mz;have fs:=Ep hF hb hxW;have lk:=hF.2.2.2 bi hb;have lx:=hF.2.2.1 x hxW;have nx1:=hF.2.1;have nd':(x::ss.drop (i+1)).Nodup:=by rw[<- dr];exact nd.sublist (List.drop_sublist _ _)
    rw[NY]at nd';simp only[gN,M1,MK];have kx:=xi x;have kb:=xi bi;have vx:val x.d=x.d:=rfl;have vb:val bi.d=bi.d:=rfl;rw[af];show ∃ d,cA hw (gset G p (.dT hw kvs)) (.ref p) bi.d (some d)/\kQ hw (.ref p) x.d (val d) (gset G p (.dT hw kvs)) _
    refine⟨nx Wi bi,?_,?_⟩
    ·show (match gset G p (.dT hw kvs) p with|some (.dT hw' kvs)=>hw'=hw/\∃ ks,m7 bi.d=some ks/\some (nx Wi bi)=bE kvs ks|some (.dK kvs)=>_|some (.dF _ hw' _ kvs)=>_|_=>False)
     rw[au];exact⟨rfl,bi.key,kb,lk.symm⟩
    ·rw[Ii];show (match gset G p (.dT hw kvs) p with|some (.dT hw' kvs)=>hw'=hw/\∃ ks,m7 x.d=some ks/\kvs.length < Mq/\_|some (.dK kvs)=>_|some (.lst ds)=>_|_=>False)
     rw[au];refine⟨rfl,x.key,kx,by walk_at "o",?_⟩
     rw[d6];dsimp only;rw[af];show (match gset G p (.dT hw (aW kvs x.key (nx Wi bi))) p with|some (.dT hw' kvs)=>hw'=hw/\∃ ks,m7 bi.d=some ks/\kvs.length < Mq/\_|some (.dK kvs)=>_|some (.lst ds)=>_|_=>False)
     rw[au];refine⟨rfl,bi.key,kb,by have:=eV kvs x.key (nx Wi bi);omega,?_⟩
     rw[d6];refine⟨_,j7 Wi bi x,x,_,rfl,rfl,fs,(fh hb x).mpr (.inr rfl),fun y hy hW=>?_,?_,by rw[kW hb];omega⟩
     ·rcases (fh hb y).mp hW with z|z
      ·exact hf y (My _ hy) z
      ·exact nd'.1 (z ▸ hy)
     ·exact hI
  ·rintro σ G' ⟨x4,Wi,bi,kvs,rfl,rfl,hF,hb,hf,hI,hlen⟩
   rw[Ml,List.drop_length]at hI;have:Wi=bR W b ss:=hI;rw[this]at hF;exact h _ hF
 ·exact h.elim
def LN(G:Gp)(p q:Mg)(R:List Sl)(m:Nat)(σ:eO)(G':Gp):Prop:=∃ i,i<=R.length/\m=R.length - i/\σ=[some (.ref p),some (.ref q),some (CU (R.drop i))]/\G'=gset G q (.lst ((R.take i).map Sl.d))
theorem JT{W:List Sl}(hW:W.Nodup):∀ {pre post:List Sl} {c:Sl},W=pre ++ c::post->nx W c=CU post:=by
 induction W with
 | nil=>intro pre post c h;simp at h
 | cons a t ih=>
  intro pre post c h;rw[NY]at hW;cases pre with
  | nil=>
   simp only[Oq,List.cons.injEq]at h;obtain⟨rfl,rfl⟩:=h;simp[nx]
  | cons a' pre=>
   simp only[Oi,List.cons.injEq]at h;obtain⟨rfl,h⟩:=h;have hc:c∈t:=by rw[h];simp
   simp only[nx];rw[if_neg (fun (z:a=c)=>hW.1 (by rw[z];exact hc))]
   exact ih hW.2 h
theorem x_(zF:Zz)(hw:HW):bF (fF zF hw) (sQ zF hw) ["following","row","slot"]:=by
 intro ds G Q h;unfold fF at h;split at h
 ·rename_i p;obtain⟨R,kvs,⟨hG,hF,hl⟩,h⟩:=h;have hs:=ah;unfold sQ;rw[af];walk_at "s1";refine⟨by walk_at "o",fun q hq=>?_⟩
  have hpq:p≠q:=fun z=>by subst z;rw[hG]at hq;cases hq
  have gp:∀ o,gset G q o p=some (.dT hw kvs):=fun o=>by rw[ai hpq];exact hG
  have look:∀ c∈az::R,∀ o,cA hw (gset G q o) (.ref p) c.d (some (nx (az::R) c)):=fun c hc o=>by
   show (match gset G q o p with|some (.dT hw' kvs)=>hw'=hw/\∃ ks,m7 c.d=some ks/\some (nx (az::R) c)=bE kvs ks|some (.dK kvs)=>_|some (.dF _ hw' _ kvs)=>_|_=>False)
   rw[gp];exact⟨rfl,c.key,xi c,(hF.2.2.2 c hc).symm⟩
  rw[af];show ∃ d,cA hw (gset G q (.lst [])) (.ref p) az.d (some d)/\_
  refine⟨_,look az (by simp) _,?_⟩
  have e0:nx (az::R) az=CU R:=by simp[nx]
  dsimp only;rw[af,e0,wY];simp only[M1,MK];refine⟨LN G p q R,⟨R.length,0,M0 _,rfl,rfl,rfl⟩,?_⟩;have wc:∀ (a b:Option D) (d:D) (K:Bool->Gp->Prop) (G:Gp),cr (bd yL (ab 2) (eC .non)) [a,b,some d] G K↔K (!qW d) G:=fun a b d K G=>Iff.rfl
  rintro m σ G' ⟨i,hi,rfl,rfl,rfl⟩
  by_cases hlt:i < R.length
  ·have dr:R.drop i=R[i]::R.drop (i+1):=List.drop_eq_getElem_cons hlt;rw[dr];refine (wc _ _ (R[i]).d _ _).mpr ?_;dsimp only;rw[show (!qW (R[i]).d)=true from rfl,if_pos rfl]
   have e1:nx (az::R) R[i]=CU (R.drop (i+1)):=JT hF.1 (pre:=az::R.take i) (by rw[Oi];congr 1;rw[<- dr];exact (List.take_append_drop i R).symm)
   refine⟨fun σ G'=>LN G p q R (R.length - (i+1)) σ G',fun σ2 G2 hN=>⟨_,by walk_at "o",hN⟩,?_⟩
   rw[af];have ua:∀ (E:Ends3) (Z:D),bW (iD (ab 1) (ae (ab 2) aq)) E [some (.ref p),some (.ref q),some (R[i]).d] (gset G q (.lst ((R.take i).map Sl.d)))↔((R.take i).map Sl.d).length < Mq/\E.nx [some (.ref p),some (.ref q),some (R[i]).d] (gset G q (.lst ((R.take i).map Sl.d ++ [(R[i]).d]))):=fun E Z=>by
    unfold Sl.d;walk_at "s1"
   rw[show CU (R[i]::R.drop (i+1))=(R[i]).d from rfl,ua _ .non]
   refine⟨by rw[Ml,M6];omega,?_⟩
   dsimp only;show ∃ d,cA hw (gset G q _) (.ref p) (R[i]).d (some d)/\_
   refine⟨_,look R[i] (by simp) _,i+1,by walk_at "o",rfl,?_,?_⟩
   ·rw[e1,wY];rfl
   ·rw[MQ,Mp hlt,MY];rfl
  ·have ei:i=R.length:=by walk_at "o"
   subst ei;rw[List.drop_length,MM];refine (wc _ _ .non _ _).mpr ?_;dsimp only;rw[show (!qW D.non)=false from rfl,if_neg (by decide)]
   show gR 1 _ _ _
   simp only[gR,Nc,Nb,au];rw[v4 hq];exact h
 ·exact h.elim
theorem Fa(vs:List Rw):(vs.map qa).map (·.2)=vs.map Rw.d:=by rw[MU];rfl
theorem Dr{rs:List Rw}{i:Nat}{d:D}(h:(rs.map Rw.d)[i]?=some d):∃ r,rs[i]?=some r/\d=r.d:=by
 rw[MA]at h;cases e:rs[i]? with
 | none=>rw[e]at h;cases h
 | some r=>rw[e]at h;cases h;exact⟨r,rfl,rfl⟩
theorem key_at{rs:List Rw}{i:Nat}{d:D}(h:(rs.map Rw.key)[i]?=some d):∃ r,rs[i]?=some r/\d=r.key:=by
 rw[MA]at h;cases e:rs[i]? with
 | none=>rw[e]at h;cases h
 | some r=>rw[e]at h;cases h;exact⟨r,rfl,rfl⟩
theorem Fi(zF:Zz)(hw:HW)(G:Gp){vs base:List Rw}(hv:vs.Pairwise lq)(hb:base.length < 64)(sub:∀ r∈vs,r∈base):
  SortBy (bf zF hw) G (vs.map Rw.d) (vs.map Rw.key) fun i=>PySem.W.rankIn Rw.lt vs (vs.getD i default) where
 few:=by
  rw[Ml];have:=f9 (rh hv) sub;omega
 len:=by rw[Ml,Ml]
 key:=fun i d kd h1 h2=>by
  obtain⟨r,e1,rfl⟩:=Dr h1;obtain⟨r',e2,rfl⟩:=key_at h2;rw[e1]at e2;cases e2;exact⟨r,rfl,rfl,rfl⟩
 ki:=fun d hd=>by
  obtain⟨r,_,rfl⟩:=mem_map.mp hd;exact⟨_,_,rfl⟩
 cp:=fun a ha b hb=>by
  obtain⟨r,_,rfl⟩:=mem_map.mp ha;obtain⟨r',_,rfl⟩:=mem_map.mp hb;exact Iw r r'
 lt:=fun i j a b h1 h2=>by
  obtain⟨r,e1,rfl⟩:=key_at h1;obtain⟨r',e2,rfl⟩:=key_at h2;rw[Ir,PySem.W.rank_lt Dn (Mv e1),ME,ME,e1,e2];rfl
theorem wI(zF:Zz)(hw:HW):bF (dG zF hw) (qM zF hw) ["rows","by_name","row"]:=by
 intro ds G Q h;unfold dG at h;split at h
 ·rename_i q;obtain⟨rs,base,⟨hq0,one,l1,l2,sub⟩,h⟩:=h;have hs:=ah;unfold qM;rw[af];walk_at "s1";intro p hp;have hqp:q≠p:=fun z=>by subst z;rw[hp]at hq0;cases hq0
  rw[af];walk_at "s1";refine⟨rs.map Rw.d,by rw[ai hqp];exact hq0,fun i σ G'=>∃ (vs:List Rw) (v:Option D),(σ=[some (.ref q),some (.ref p),v]/\G'=gset G p (.dT hw (vs.map qa)))/\vs.Pairwise lq/\∀ r,r∈vs↔r∈rs.take i,⟨[],none,⟨rfl,rfl⟩,.nil,by simp⟩,?_,?_,?_⟩
  ·rintro i σ G' ⟨vs,v,⟨_,rfl⟩,_⟩
   rw[ai hqp];exact hq0
  ·rintro i d σ G' hd ⟨vs,v,⟨rfl,rfl⟩,hv,hm⟩
   obtain⟨r,hr,rfl⟩:=Dr hd;have hr':=Mv hr;have tk:∀ x,x∈rs.take (i+1)↔x∈rs.take i\/x=r:=fun x=>by
    rw[MQ,hr,QY];simp
   have lv:vs.length<=base.length:=f9 (rh hv) fun x hx=>sub x (NP ((hm x).mp hx));simp only[gN,M1,MK];have fin:∀ G2,G2=gset G p (.dT hw (aW (vs.map qa) (qR r) r.d))->∃ (vs:List Rw) (v:Option D),(([some (D.ref q),some (.ref p),some r.d]:eO)=[some (.ref q),some (.ref p),v]/\G2=gset G p (.dT hw (vs.map qa)))/\vs.Pairwise lq/\∀ x,x∈vs↔x∈rs.take (i+1):=by
    intro G2 e
    by_cases hin:r∈vs
    ·refine⟨vs,_,⟨rfl,?_⟩,hv,fun x=>?_⟩
     ·rw[e,HF hin fun a ha pp nn=>one a (NP ((hm a).mp ha)) r hr' pp nn]
     ·rw[tk,hm];constructor
      ·exact .inl
      ·rintro (z|rfl)
       ·exact z
       ·exact (hm _).mp hin
    ·have ap:∀ a∈vs,lq a r:=fun a ha z=>hin (by
      have:=one a (NP ((hm a).mp ha)) r hr' z.1 z.2;subst this;exact ha)
     refine⟨vs ++ [r],_,⟨rfl,?_⟩,?_,fun x=>?_⟩
     ·rw[e,put_new ap]
     ·rw[List.pairwise_append];exact⟨hv,List.pairwise_singleton _ _,fun a ha b hb=>by rw[Qg.mp hb];exact ap a ha⟩
     ·rw[tk,QY,hm,Qg]
   refine (show ee hw (ab 1) (bd gl (ab 2) (eC (.int 0))) (ab 2) _ [some (D.ref q),some (.ref p),some r.d] _ from ?_)
   show (match (gset G p (.dT hw (vs.map qa))) p with
    | some (.dT hw' kvs)=>hw'=hw/\∃ ks,m7 (.tup [.str r.pen,.int r.num])=some ks/\kvs.length < Mq/\_
    | some (.dK kvs)=>_
    | some (.lst ds)=>_
    | _=>False)
   rw[au];exact⟨rfl,qR r,rfl,by rw[Ml];omega,fin _ (by rw[d6];rfl)⟩
  ·rintro σ G' ⟨vs,v,⟨rfl,rfl⟩,hv,hm⟩
   rw[Ml,MM]at hm;show (match (gset G p (.dT hw (vs.map qa))) p with
    | some (.dT _ kvs)=>∃ ks r,SortBy (bf zF hw) (gset G p (.dT hw (vs.map qa))) (kvs.map (·.2)) ks r/\∀ p':List Nat,p'.Perm (List.range (kvs.map (·.2)).length)->(p'.map r).Pairwise (·<=·)->Q (.fl (p'.map fun i=>(kvs.map (·.2)).getD i .non)) (gset G p (.dT hw (vs.map qa)))
    | _=>False)
   rw[au];dsimp only;rw[Fa];refine⟨vs.map Rw.key,_,Fi zF hw _ hv l2 (fun r hr=>sub r ((hm r).mp hr)),fun q hq hsq=>?_⟩;rw[Ml]at hq;obtain⟨st,mem⟩:=Dg hv hq hsq;have e:(q.map fun i=>(vs.map Rw.d).getD i .non)=(q.map fun i=>vs.getD i default).map Rw.d:=by
    rw[MU];refine ND fun i hi=>?_;have li:i < vs.length:=mem_range.mp (hq.mem_iff.mp hi);simp[li]
   rw[e];exact h _ _ (ie.refl.gset hp) st fun r=>(mem r).trans (hm r)
 ·exact h.elim
theorem Ak{sks:List Sk}:∀ {out:List Rw},(∀ r∈out,r∈sks.map Sk.rw)->∃ o:List Sk,out=o.map Sk.rw/\∀ s∈o,s∈sks
 | [],_=>⟨[],rfl,fun s hs=>by simp at hs⟩
 | r::t,h=>by
  obtain⟨o,e,ho⟩:=Ak fun x hx=>h x (My _ hx);obtain⟨s,hs,er⟩:=mem_map.mp (h r Mz);refine⟨s::o,by rw[e,<- er];rfl,fun x hx=>?_⟩
  rcases MP.mp hx with z|z
  ·rw[z];exact hs
  ·exact ho x z
theorem Act.d_inj{a b:Act}(h:a.d=b.d):a=b:=by
 have sl:∀ {xs ys:List Sl},xs.map Sl.d=ys.map Sl.d->xs=ys:=fun {xs ys} e=>List.map_inj_right (f:=Sl.d) (fun x y=>Sl.d_inj) |>.mp e
 have ne:∀ {x y:String},Mh x≠Mh y->D.str (Mh x)≠D.str (Mh y):=fun h z=>h (by injection z)
 cases a<;>cases b<;>simp only[Act.d,D.tup.injEq,List.cons.injEq,D.str.injEq,and_true,true_and,reduceCtorEq,and_false,false_and]at h
 ·obtain⟨h1,h2⟩:=h;rw[Sl.d_inj h1,h2]
 all_goals first
  | (exact absurd h (by decide +kernel))
  | (exact absurd h.1 (by decide +kernel))
  | skip
 ·rw[sl h]
 ·rw[sl h.1,h.2]
 ·rw[sl h.1,Sl.d_inj h.2]
theorem Sk.rw_inj{a b:Sk}(h:a.rw=b.rw):a=b:=by
 obtain⟨a1,a2,a3,a4⟩:=a;obtain⟨b1,b2,b3,b4⟩:=b;simp only[Sk.rw,Rw.mk.injEq]at h;obtain⟨rfl,rfl,rfl,h⟩:=h;rw[Act.d_inj h]
theorem t9(zF:Zz)(hw:HW){σ:eO}{G:Gp}{p:Mg}{s:Sk}{i:Nat}{Q:j9}(hσ:σ[i]?=some (some (.ref p)))(hG:G p=some (aS zF s))(h:Q s.act.anch.d G):bA zF.F "anchor" (ab i) σ G Q:=by
 obtain⟨pen,num,time,act⟩:=s;unfold bA ab;rw[hσ];cases act<;>(simp only[aS]at hG;simp only[hG];refine⟨by simp,?_⟩;first|exact h)
theorem jv(zF:Zz)(hw:HW){σ:eO}{G:Gp}{p:Mg}{s:Sk}{i:Nat}{Q:j9}(hσ:σ[i]?=some (some (.ref p)))(hG:G p=some (aS zF s))(hm:s.act.many<=1000)(h:Q (.fl ((made s).map Sl.d)) G):
  em [(zF.Z1,ax zF hw),(zF.Z2,bI zF hw),(zF.Z3,ax zF hw),(zF.Z4,ax zF hw),(zF.Z5,bh zF hw)] "slots" [] (ab i) aq σ G Q:=by
 obtain⟨pen,num,time,act⟩:=s;unfold em ab;rw[hσ];cases act with
 | put a x=>
  have hG':=hG;simp only[aS]at hG;simp only[hG];exact⟨by decide +kernel,bI zF hw,by simp,⟨_,a,x,⟨rfl,hG',hm⟩,h⟩⟩
 | strike ns=>
  simp only[aS]at hG;simp only[hG];exact⟨by decide +kernel,ax zF hw,by simp,h⟩
 | dress ns w=>
  simp only[aS]at hG;simp only[hG];exact⟨by decide +kernel,ax zF hw,by simp,h⟩
 | move ns a=>
  have hG':=hG;simp only[aS]at hG;simp only[hG];exact⟨by decide +kernel,bh zF hw,by simp,⟨_,a,ns,⟨rfl,hG',hm⟩,h⟩⟩
def ES(zF:Zz)(G:Gp)(ps:List Mg)(o:List Sk):Prop:=∀ (j:Nat) p s,ps[j]?=some p->o[j]?=some s->G p=some (aS zF s)
theorem pW(zF:Zz)(s:Sk):∃ C L ds,aS zF s=.ins C L ds:=by
 obtain⟨pen,num,time,act⟩:=s;cases act<;>exact⟨_,_,_,rfl⟩
theorem nT(n:Nat):∀ (o:List Sk) (W:List Sl),(∀ s∈o,s.act.many<=1000)->(o.foldl eZ W).length<=W.length+1000*o.length
 | [],W,_=>by simp
 | s::t,W,h=>by
  have h1:=h s Mz;have ih:=nT n t (eZ W s) fun x hx=>h x (My _ hx);have h2:(eZ W s).length<=W.length+1000:=by
   unfold eZ;split
   ·rename_i ha;rw[my ha];have:(made s).length=s.act.many:=ck _ _ _;omega
   ·omega
  simp only[OX,MC];omega
def LZ(zF:Zz)(hw:List aA->Int)(G:Gp)(f:Mg)(ps:List Mg)(o:List Sk)(n:Nat)(x0 x1:Option D)(i:Nat)(σ:eO)(G':Gp):Prop:=∃ (x3:Option D) (kvs:List (List aA×D)),σ=[x0,x1,some (.ref f),x3]/\ie G G'/\ES zF G' ps o/\G' f=some (.dT hw kvs)/\CO kvs (mO n (o.take i))
theorem wH(zF:Zz)(hw:HW):bF (eR zF hw) (qL zF hw) An0:=by
 intro ds G Q h;unfold eR at h;split at h
 ·rename_i x q;obtain⟨sks,base,⟨hq0,hx,one,l1,l2,sub,ok⟩,h⟩:=h;have hs:=ah;unfold qL;rw[af];show ∀ f,G f=none->(match gset G f (.dT hw []) f with|some (.dT hw' [])=>hw'=hw/\∃ ks,m7 az.d=some ks/\_|_=>False)
  intro f hf;have hqf:q≠f:=fun z=>by subst z;rw[hf]at hq0;cases hq0
  rw[au];refine⟨rfl,az.key,rfl,?_⟩;rw[d6];dsimp only;rw[af];simp only[M1,MK,cC,MF,Pi,Oi,Oq,List.replicate,MC,MZ,Nat.reduceAdd,Nat.reduceSub];show x.length<=1000/\(∃ (b:Sl) (ss W:List Sl) (kvs:List (List aA×D)),(az.d=b.d/\(fJ x.length).map Sl.d=ss.map Sl.d/\gset G f (.dT hw [(az.key,.non)]) f=some (.dT hw kvs)/\CO kvs W/\b∈W/\ss.Nodup/\(∀ x∈ss,x∉W)/\W.length+ss.length<=900000)/\∀ Rm,CO Rm (bR W b ss)->_)
  have ol:(fJ x.length).length=x.length:=ck _ _ _;refine⟨hx,az,fJ x.length,[az],_,⟨rfl,rfl,au,Cz (fun _=>True),by simp,hZ _ _ _,fun y hy hW=>?_,by rw[ol];simp;omega⟩,fun kvs hF=>?_⟩
  ·obtain⟨_,_,hk⟩:=fe hy;rw[Qg.mp hW]at hk;exact absurd hk (by decide)
  ·rw[d6];dsimp only;rw[af];walk_at "s1";refine⟨sks.map Sk.rw,base.map Sk.rw,⟨by rw[ai hqf,hq0,MU];rfl,one,by rw[Ml];exact l1,by rw[Ml];exact l2,fun r hr=>?_⟩,fun out G1 hE st mem=>?_⟩
   ·obtain⟨s,hs',rfl⟩:=mem_map.mp hr;exact mem_map.mpr ⟨s,sub s hs',rfl⟩
   obtain⟨o,rfl,ho⟩:=Ak (sks:=sks) (out:=out) fun r hr=>(mem r).mp hr;have memo:∀ s,s∈o↔s∈sks:=fun s=>⟨ho s,fun hs'=>by
    obtain⟨s',h1,h2⟩:=mem_map.mp ((mem s.rw).mpr (mem_map.mpr ⟨s,hs',rfl⟩));rw[<- Sk.rw_inj h2];exact h1⟩
   have lo:o.length < 64:=by
    have:=f9 (eY st) (ys:=base.map Sk.rw) fun r hr=>by
     obtain⟨s,hs',rfl⟩:=mem_map.mp hr;exact mem_map.mpr ⟨s,sub s (ho s hs'),rfl⟩
    rw[Ml,Ml]at this;omega
   have hG1:G1 f=some (.dT hw kvs):=hE f _ au;have hE1:ie G G1:=fun a o' ha=>hE a o' (by
    have:a≠f:=fun z=>by subst z;rw[hf]at ha;cases ha
    rw[ai this];exact ha)
   have dmap:(o.map Sk.rw).map Rw.d=o.map Sk.d:=by rw[MU];rfl
   rw[dmap];refine⟨by rw[Ml];omega,fun i acc G2=>∃ ps:List Mg,ps.length=i/\acc=ps.map D.ref/\ie G1 G2/\ES zF G2 ps o,⟨[],rfl,rfl,ie.refl,fun j p s hj=>by simp at hj⟩,?_,?_⟩
   ·rintro i d acc G2 hd ⟨ps,rfl,rfl,hE2,hO⟩
    rw[MA]at hd;cases hsj:o[ps.length]? with
    | none=>rw[hsj]at hd;cases hd
    | some s=>
     rw[hsj]at hd;cases hd;refine⟨⟨by simp,rfl⟩,?_⟩
     show ∃ s':Sk,s.d=s'.d/\∀ p,G2 p=none->_
     refine⟨s,rfl,fun p hp=>⟨ps ++ [p],by simp,by rw[MY];rfl,fun a o' ha=>?_,fun j q s' hj hs'=>?_⟩⟩
     ·have:a≠p:=fun z=>by subst z;rw[hE2 a o' ha]at hp;cases hp
      rw[ai this];exact hE2 a o' ha
     ·rw[List.getElem?_append]at hj;split at hj
      ·have h1:=hO j q s' hj hs';have:q≠p:=fun z=>by subst z;rw[h1]at hp;cases hp
       rw[ai this];exact h1
      ·rename_i hge;have hj0:j=ps.length:=by
        by_cases z:j - ps.length=0
        ·omega
        ·obtain⟨k,hk⟩:∃ k,j - ps.length=k+1:=⟨j - ps.length - 1,by walk_at "o"⟩
         rw[hk]at hj;simp at hj
       subst hj0;simp at hj;subst hj;rw[hsj]at hs';cases hs';exact au
   ·rintro acc G2 ⟨ps,hl,rfl,hE2,hO⟩
    rw[Ml]at hl;show L3.ForIn _ _ _ _ (ps.map D.ref) G2
    refine⟨LZ zF hw G f ps o x.length (some (.str x)) (some (.ref q)),⟨_,kvs,rfl,hE1.trans hE2,hO,hE2 f _ hG1,hF⟩,?_,?_⟩
    ·rintro i d σ G3 hd ⟨x3,kvs3,rfl,hE3,hO3,hf3,hF3⟩
     rw[MA]at hd;cases hpj:ps[i]? with
     | none=>rw[hpj]at hd;cases hd
     | some p=>
      rw[hpj]at hd;cases hd;have hil:i < o.length:=by have:=(List.getElem?_eq_some_iff.mp hpj).1;omega
      have hsi:o[i]?=some o[i]:=Mp hil;have Rt:=hO3 i p _ hpj hsi;have oks:=ok o[i] (ho _ (Ou hil));have tk:o.take (i+1)=o.take i ++ [o[i]]:=by rw[MQ,hsi];rfl
      have fr:A9 (o.take i) (mO x.length (o.take i)):=by
       have:=zp x.length (o.take i) [] _ (AS x.length)
       simpa[mO]using this
      have apart:∀ r∈o.take i,¬ (r.pen=(o[i]).pen/\r.num=(o[i]).num):=fun r hr z=>by
       obtain⟨j,hj,er⟩:=mem_iff_getElem.mp hr;rw[M6]at hj;rw[List.getElem_take]at er;have hji:j < i:=by walk_at "o"
       have st':∀ a b:Nat,(ha:a < (o.map Sk.rw).length)->(hb:b < (o.map Sk.rw).length)->a < b->((o.map Sk.rw)[a]).lt (o.map Sk.rw)[b]=true:=fun a b ha hb hab=>List.pairwise_iff_getElem.mp st a b ha hb hab;have:=st' j i (by rw[Ml];omega) (by rw[Ml];omega) hji
       rw[OO,OO,er]at this;have R8:=one (o[i]).rw (mem_map.mpr ⟨_,ho _ (Ou hil),rfl⟩) r.rw (mem_map.mpr ⟨_,ho _ (er ▸ Ou (by walk_at "o")),rfl⟩) z.1.symm z.2.symm
       rw[R8,lt_irrefl]at this;cases this
      have fresh:=Eo fr oks.1 apart;have wl:=nT x.length (o.take i) (bR [az] az (fJ x.length)) fun s hs'=>(ok s (ho s (NP hs'))).2;rw[c_]at wl;have wl2:(mO x.length (o.take i)).length<=100000:=by
       have e1:mO x.length (o.take i)=(o.take i).foldl eZ (az::fJ x.length):=by unfold mO;rw[c_]
       rw[e1];rw[M6,MC,ol]at wl;omega
      generalize o[i]=s at *
      simp only[gN,M1,MK];have nf:f≠p:=fun z=>by subst z;obtain⟨C,L,ds,e⟩:=pW zF s;rw[hf3,e]at Rt;cases Rt
      refine cD (decide (s.act.anch∈mO x.length (o.take i))) (fun K hK=>?_) (ve (fun hin=>?_) fun Sc=>?_)
      ·unfold cr xo;refine t9 zF hw (p:=p) (i:=3) rfl Rt ?_;show ∃ r,cA hw G3 (.ref f) s.act.anch.d r/\_
       refine⟨bE kvs3 s.act.anch.key,?_,?_⟩
       ·show (match G3 f with|some (.dT hw' kvs)=>hw'=hw/\∃ ks,m7 s.act.anch.d=some ks/\bE kvs3 s.act.anch.key=bE kvs ks|some (.dK kvs)=>_|some (.dF _ hw' _ kvs)=>_|_=>False)
        rw[hf3];exact⟨rfl,_,rfl,rfl⟩
       ·have e1:(bE kvs3 s.act.anch.key).isSome=decide (s.act.anch∈mO x.length (o.take i)):=by
         by_cases z:s.act.anch∈mO x.length (o.take i)
         ·rw[hF3.2.2.2 _ z,decide_eq_true z];rfl
         ·rw[hF3.2.2.1 _ z,decide_eq_false z];rfl
        rw[e1];exact hK
      ·have R0:=of_decide_eq_true hin;simp only[bW,aI,ae,aq,ab,Nb,Nc];refine t9 zF hw (p:=p) (i:=3) rfl Rt ?_;refine jv zF hw (p:=p) (i:=3) rfl Rt oks.2 ?_;have lm:(made s).length=s.act.many:=ck _ _ _;have lm2:=oks.2;show ∃ (b:Sl) (ss W:List Sl) (kvs:List (List aA×D)),(s.act.anch.d=b.d/\(made s).map Sl.d=ss.map Sl.d/\G3 f=some (.dT hw kvs)/\CO kvs W/\b∈W/\ss.Nodup/\(∀ x∈ss,x∉W)/\W.length+ss.length<=900000)/\∀ Rm,CO Rm (bR W b ss)->_
       refine⟨s.act.anch,made s,_,kvs3,⟨rfl,rfl,hf3,hF3,R0,hZ _ _ _,fresh,by walk_at "o"⟩,fun Rm hF'=>?_⟩
       refine⟨_,Rm,rfl,fun a o' ha=>?_,fun j q s' hj hs'=>?_,au,?_⟩
       ·have:a≠f:=fun z=>by subst z;rw[hf]at ha;cases ha
        rw[ai this];exact hE3 a o' ha
       ·have h1:=hO3 j q s' hj hs';have:q≠f:=fun z=>by subst z;obtain⟨C,L,ds,e⟩:=pW zF s';rw[hf3,e]at h1;cases h1
        rw[ai this];exact h1
       ·rw[tk,vO];unfold eZ;rw[if_pos R0];exact hF'
      ·have RY:=of_decide_eq_false Sc;simp only[dL];refine⟨_,kvs3,rfl,hE3,hO3,hf3,?_⟩;rw[tk,vO];unfold eZ;rw[if_neg RY];exact hF3
    ·rintro σ G3 ⟨x3,kvs3,rfl,hE3,hO3,hf3,hF3⟩
     rw[Ml,hl,MM]at hF3;rw[rX]at hF3;show ∃ (R:List Sl) (kvs:List (List aA×D)),(G3 f=some (.dT hw kvs)/\CO kvs (az::R)/\R.length<=900000)/\_
     refine⟨ip x.length o,kvs3,⟨hf3,hF3,?_⟩,h o G3 hE3 st memo⟩;have wl:=nT x.length o (bR [az] az (fJ x.length)) fun s hs'=>(ok s (ho s hs')).2;have e1:o.foldl eZ (bR [az] az (fJ x.length))=az::ip x.length o:=rX x.length o;rw[e1,c_,MC,MC,ol]at wl;omega
 ·exact h.elim
theorem lC(s:Sk):s.act.many<=s.wd:=by
 obtain⟨pen,num,time,act⟩:=s;cases act<;>first|exact le_refl _|exact M0 _
theorem An(zF:Zz)(hw:HW):bF (fE zF hw) (vR zF hw) ["keys"]:=by
 intro ds G Q h;unfold fE at h;split at h
 ·rename_i xs;have hs:=ah;unfold vR;rcases h with ⟨ss,⟨rfl,hl⟩,h⟩|⟨ns,⟨rfl,hl⟩,h⟩
  ·walk_at "s1";refine gc (fun d=>.tup [d,.bl true]) (by rw[Ml];omega) (fun d hd P hP=>?_) ?_
   ·obtain⟨s,hs',rfl⟩:=mem_map.mp hd;unfold Sl.d;walk_at "st";exact⟨rfl,by walk_at "o",hP _ rfl⟩
   ·dsimp only;refine⟨aO (fun _=>.bl true) (ss.map fun s=>(s,())),⟨?_,by unfold aO;rw[Ml,Ml];exact hl⟩,fun p hp=>?_⟩
    ·unfold aO;rw[MU,MU,MU];rfl
    ·rw[ue];exact h p hp
  ·walk_at "s1";refine gc (fun d=>.tup [d,.bl true]) (by rw[Ml];omega) (fun d hd P hP=>?_) ?_
   ·obtain⟨s,hs',rfl⟩:=mem_map.mp hd;unfold Nm.d;walk_at "st";exact⟨rfl,by walk_at "o",hP _ rfl⟩
   ·dsimp only;refine⟨ns.map fun n=>(n.key,.bl true),⟨?_,by rw[Ml];exact hl⟩,fun p hp=>h p hp⟩
    rw[MU,MU];rfl
 ·exact h.elim
theorem jw(zF:Zz)(hw:HW){G:Gp}{p:Mg}{α:Type}{f:α->D}{l:List (Sl×α)}(x:Sl)(hG:G p=some (.dT hw (aO f l))):cA hw G (.ref p) x.d ((eN l x).map f):=by
 unfold cA;dsimp only;rw[hG];exact⟨rfl,x.key,rfl,(BJ f x l).symm⟩
theorem uJ(zF:Zz)(hw:HW):bF (dW zF hw) (og zF hw) Az0:=by
 intro ds G Q h;unfold dW at h;split at h
 ·rename_i a p;obtain⟨s,row,⟨hG,hw',hp⟩,h⟩:=h;have hs:=ah;have mw:=lC s;unfold og;unfold bo eB ae aq dR eM;refine jv zF hw (p:=a) (i:=0) (s:=s) rfl hG (by walk_at "o") ?_
  dsimp only[eF];have lm:(made s).length=s.act.many:=ck _ _ _;refine gc (fun d=>match d with|.tup [.str q,.int n,.int k]=>.bl (eN row ⟨q,n,k⟩).isSome|d=>d) (by rw[Ml,lm];omega) (fun d hd P hP=>?_) ?_
  ·obtain⟨x,hx,rfl⟩:=mem_map.mp hd;refine⟨⟨by simp[cC],rfl⟩,?_⟩
   show ∃ r,cA hw G (.ref p) x.d r/\P (.bl r.isSome) G
   refine⟨_,jw zF hw x hp,hP _ ?_⟩;show D.bl ((eN row x).map _).isSome=D.bl (eN row x).isSome
   rw[Option.isSome_map]
  ·show ∃ bs:List Bool,rT G (val _)=some (bs.map D.bl)/\_;refine⟨(made s).map fun x=>(eN row x).isSome,?_,?_⟩
   ·show some _=some _;congr 1;rw[MU,MU];rfl
   ·rw[List.all_map];exact h
 ·exact h.elim
theorem FZ{ns:List Nm}(n:Nm):(bE (dictOf (ns.map fun n=>(n.key,D.bl true))) n.key).isSome=decide (n∈ns):=by
 unfold dictOf;have key_inj:∀ {a b:Nm},a.key=b.key->a=b:=fun {a b} h=>by
  obtain⟨a1,a2⟩:=a;obtain⟨b1,b2⟩:=b;simp only[Nm.key,List.cons.injEq,Sum.inr.injEq,Sum.inl.injEq,and_true]at h;obtain⟨rfl,rfl⟩:=h;rfl
 suffices H:∀ l:List (List aA×D),(bE ((ns.map fun n=>(n.key,D.bl true)).foldl (fun a kv=>aW a kv.1 kv.2) l) n.key).isSome=((bE l n.key).isSome || decide (n∈ns)) by
  have:=H []
  simpa[bE]using this
 induction ns with
 | nil=>intro l;simp
 | cons m r ih=>
  intro l;rw[MF,OX,ih,d9]
  by_cases e:n=m
  ·subst e;simp
  ·rw[if_neg (fun z=>e (key_inj z))];simp[e]
theorem iP.ext{zF:Zz}{G G':Gp}{ps:List Mg}{o:List Sk}(h:iP zF G ps o)(e:ie G G'):iP zF G' ps o:=⟨h.1,fun j p s hp hs=>e _ _ (h.2 j p s hp hs)⟩
theorem iP.nil{zF:Zz}{G:Gp}:iP zF G [] []:=⟨rfl,fun j p s hp=>by simp at hp⟩
theorem iP.add{zF:Zz}{G:Gp}{ps:List Mg}{o:List Sk}{p:Mg}{s:Sk}(h:iP zF G ps o)(hp:G p=some (aS zF s)):iP zF G (ps ++ [p]) (o ++ [s]):=by
 obtain⟨hl,h⟩:=h;refine⟨by simp[hl],fun j q t hq ht=>?_⟩
 rw[List.getElem?_append]at hq ht;split at hq
 ·rename_i hj;rw[if_pos (by walk_at "o")]at ht
  exact h j q t hq ht
 ·rename_i hj;rw[if_neg (by walk_at "o")]at ht
  have hj0:j - ps.length=0:=by
   by_cases z:j - ps.length=0
   ·exact z
   ·obtain⟨k,hk⟩:∃ k,j - ps.length=k+1:=⟨j - ps.length - 1,by walk_at "o"⟩
    rw[hk]at hq;simp at hq
  rw[hj0]at hq;rw[show j - o.length=0 by walk_at "o"]at ht
  simp only[Nb,Option.some.injEq]at hq ht;subst hq ht;exact hp
theorem F2(row:List Sl)(x:Sl):(eN (bS [] (row.map fun s=>(s,()))) x).isSome=decide (x∈row):=by
 suffices H:∀ l:List (Sl×Unit),(eN (bS l (row.map fun s=>(s,()))) x).isSome=((eN l x).isSome || decide (x∈row)) by
  have:=H []
  simpa[eN]using this
 induction row with
 | nil=>intro l;simp[bS]
 | cons m r ih=>
  intro l;show (eN (bS (lQ l m ()) (r.map fun s=>(s,()))) x).isSome=_
  rw[ih,Gy]
  by_cases e:x=m
  ·subst e;simp
  ·rw[if_neg e];simp[e]
theorem iP.snoc{zF:Zz}{G:Gp}{ps:List Mg}{o:List Sk}{p:Mg}{s:Sk}(h:iP zF G ps o)(hp:G p=none):iP zF (gset G p (aS zF s)) (ps ++ [p]) (o ++ [s]):=
 (h.ext (ie.refl.gset hp)).add au
theorem uK(zF:Zz)(hw:HW):bF (dX zF hw) (oh zF hw) Ae0:=by
 intro ds G Q h;unfold dX at h;split at h
 ·rename_i q0 ns p;obtain⟨sks,base,names,row,⟨hq0,one,l1,l2,sub,wd,rfl,l3,hG⟩,h⟩:=h;have hs:=ah;unfold oh;rw[af];walk_at "s1";refine .inr ⟨names,⟨rfl,l3⟩,fun q hq=>?_⟩;have hpq:p≠q:=fun z=>by subst z;rw[hG]at hq;cases hq
  rw[af];have g1:gset G q (.dT hw (dictOf (names.map fun n=>(n.key,.bl true)))) q=some (.dT hw (dictOf (names.map fun n=>(n.key,.bl true)))):=au;have g2:ie G (gset G q (.dT hw (dictOf (names.map fun n=>(n.key,.bl true))))):=ie.refl.gset hq;generalize gset G q (.dT hw (dictOf (names.map fun n=>(n.key,.bl true))))=G1 at g1 g2;walk_at "s1";refine⟨sks.map Sk.rw,base.map Sk.rw,⟨by rw[g2 q0 _ hq0,MU];rfl,one,by rw[Ml];exact l1,by rw[Ml];exact l2,fun r hr=>?_⟩,fun out G2 hE st mem=>?_⟩
  ·obtain⟨s,hs',rfl⟩:=mem_map.mp hr;exact mem_map.mpr ⟨s,sub s hs',rfl⟩
  obtain⟨o,rfl,ho⟩:=Ak (sks:=sks) (out:=out) fun r hr=>(mem r).mp hr;have memo:∀ s,s∈o↔s∈sks:=fun s=>⟨ho s,fun hs'=>by
   obtain⟨s',h1,h2⟩:=mem_map.mp ((mem s.rw).mpr (mem_map.mpr ⟨s,hs',rfl⟩));rw[<- Sk.rw_inj h2];exact h1⟩
  have lo:o.length < 64:=by
   have:=f9 (eY st) (ys:=base.map Sk.rw) fun r hr=>by
    obtain⟨s,hs',rfl⟩:=mem_map.mp hr;exact mem_map.mpr ⟨s,sub s (ho s hs'),rfl⟩
   rw[Ml,Ml]at this;omega
  have dmap:(o.map Sk.rw).map Rw.d=o.map Sk.d:=by rw[MU];rfl
  rw[dmap];refine⟨by rw[Ml];omega,fun i acc G3=>∃ ps:List Mg,acc=ps.map D.ref/\ie G2 G3/\iP zF G3 ps ((o.take i).filter fun s=>decide (s.nm∈names)),⟨[],rfl,ie.refl,by simpa using iP.nil⟩,?_,?_⟩
  ·rintro i d acc G3 hd ⟨ps,rfl,hE3,hO⟩
   rw[MA]at hd;cases hsj:o[i]? with
   | none=>rw[hsj]at hd;cases hd
   | some s=>
    rw[hsj]at hd;cases hd;have tk:(o.take (i+1)).filter (fun s=>decide (s.nm∈names))=(o.take i).filter (fun s=>decide (s.nm∈names)) ++ (if s.nm∈names then [s]else []):=by
     rw[MQ,hsj,Nu]
     by_cases e:s.nm∈names
     ·rw[if_pos e];simp[e]
     ·rw[if_neg e];simp[e]
    refine⟨⟨by simp,rfl⟩,?_⟩
    show ∃ r,cA hw G3 (.ref q) s.nm.d r/\(match D.bl r.isSome with|.bl b=>_|_=>False)
    refine⟨bE (dictOf (names.map fun n=>(n.key,D.bl true))) s.nm.key,?_,?_⟩
    ·unfold cA;dsimp only;rw[hE3 q _ (hE q _ g1)];exact⟨rfl,_,rfl,rfl⟩
    ·rw[FZ];dsimp only
     by_cases e:s.nm∈names
     ·rw[decide_eq_true e,if_pos rfl];show ∃ s':Sk,s.d=s'.d/\∀ p,G3 p=none->_
      refine⟨s,rfl,fun r hr=>⟨ps ++ [r],by rw[MY];rfl,fun a o' ha=>?_,?_⟩⟩
      ·have:a≠r:=fun z=>by subst z;rw[hE3 a o' ha]at hr;cases hr
       rw[ai this];exact hE3 a o' ha
      ·rw[tk,if_pos e];exact hO.snoc hr
     ·rw[decide_eq_false e,if_neg Bool.false_ne_true];refine⟨ps,rfl,hE3,?_⟩;rw[tk,if_neg e,No];exact hO
  ·rintro acc G3 ⟨ps,rfl,hE3,hO⟩
   rw[Ml,MM]at hO;dsimp only[val];have hE4:ie G G3:=g2.trans (hE.trans hE3);generalize hfl:o.filter (fun s=>decide (s.nm∈names))=ws at hO;have R5:∀ s∈ws,s∈o:=fun s hs'=>by rw[<- hfl]at hs';exact (mem_filter.mp hs').1
   have lw:ws.length<=o.length:=by rw[<- hfl];exact M3 _ _
   have hl:=hO.1;show (_<=Mq)/\_
   refine⟨by rw[Ml];omega,fun i acc G4=>∃ qs:List Mg,acc=qs.map D.ref/\G4=G3/\iP zF G3 qs ((ws.take i).filter (jp row)),⟨[],rfl,rfl,by simpa using iP.nil⟩,?_,?_⟩
   ·rintro i d acc G4 hd ⟨qs,rfl,rfl,hQ⟩
    rw[MA]at hd;cases hpi:ps[i]? with
    | none=>rw[hpi]at hd;cases hd
    | some a=>
     rw[hpi]at hd;cases hd;have hi:i < ws.length:=by have:=(List.getElem?_eq_some_iff.mp hpi).1;omega
     have hwi:ws[i]?=some ws[i]:=Mp hi;have hob:=hO.2 i a _ hpi hwi;refine⟨⟨by simp,rfl⟩,?_⟩
     have tk:(ws.take (i+1)).filter (jp row)=(ws.take i).filter (jp row) ++ (if jp row ws[i]=true then [ws[i]]else []):=by
      rw[MQ,hwi,Nu]
      by_cases e:jp row ws[i]=true
      ·rw[if_pos e];simp[e]
      ·rw[if_neg e];simp[e]
     have hgp:G4 p=some (.dT hw (aO (fun _=>.bl true) (bS [] (row.map fun s=>(s,()))))):=hE4 p _ hG;have pe:(made ws[i]).all (fun x=>(eN (bS [] (row.map fun s=>(s,()))) x).isSome)=jp row ws[i]:=by
      unfold jp;congr 1;funext x;exact F2 row x
     refine⟨_,_,⟨hob,wd _ (ho _ (R5 _ (Ou hi))),hgp⟩,?_⟩;rw[pe];show True/\_
     refine⟨trivial,?_⟩;dsimp only
     by_cases e:jp row ws[i]=true
     ·rw[if_pos e];exact⟨qs ++ [a],by rw[MY];rfl,rfl,by rw[tk,if_pos e];exact hQ.add hob⟩
     ·rw[if_neg e];exact⟨qs,rfl,rfl,by rw[tk,if_neg e,No];exact hQ⟩
   ·rintro acc G4 ⟨qs,rfl,rfl,hQ⟩
    rw[Ml,hl,MM]at hQ;refine h o qs _ hE4 st memo ?_;unfold jh;rw[hfl];exact hQ
 ·exact h.elim
theorem wz{hw:HW}{α:Type}{f:α->D}{l:List (Sl×α)}{G:Gp}{p:Mg}{x:Sl}{w:α}{K:Gp->Prop}(hG:G p=some (.dT hw (aO f l)))(hl:l.length < Mq)(h:K (gset G p (.dT hw (aO f (lQ l x w))))):kQ hw (.ref p) x.d (f w) G K:=by
 unfold kQ;dsimp only;rw[hG];exact⟨rfl,x.key,rfl,by unfold aO;rw[Ml];exact hl,by rw[yG];exact h⟩
theorem sm{α:Type}{σ:List α}{a:Nat}(h:a < σ.length):σ.set a σ[a]=σ:=List.set_getElem_self h
theorem GQ{hw:HW}{α:Type}{f:α->D}(hf:∀ v,val (f v)=f v){m l:List (Sl×α)}{a b d:Nat}{σ:eO}{G:Gp}{p:Mg}{E:Ends3}(hab:a≠b)(had:a≠d)(hbd:b≠d)(ha:a < σ.length)(hb:b < σ.length)(hσ:σ[d]?=some (some (.ref p)))(hl:l.length+m.length < Mq)
  (h:∀ u v,E.nx ((σ.set a u).set b v) (gset G p (.dT hw (aO f (bS l m))))):ForIn (kX 2 (dk (gN a) (dk (gN b) kY))) (ee hw (ab d) (ab a) (ab b)) E σ (m.map fun q=>.tup [q.1.d,f q.2]) (gset G p (.dT hw (aO f l))):=by
 refine⟨fun i σ' G'=>∃ u v,σ'=(σ.set a u).set b v/\G'=gset G p (.dT hw (aO f (bS l (m.take i)))),⟨σ[a],σ[b],by rw[sm ha,sm hb],rfl⟩,?_,?_⟩
 ·rintro i dd σ' G' hd ⟨u,v,rfl,rfl⟩
  rw[MA]at hd;cases hq:m[i]? with
  | none=>rw[hq]at hd;cases hd
  | some q=>
   rw[hq]at hd;cases hd;have hi:=(List.getElem?_eq_some_iff.mp hq).1;have tk:m.take (i+1)=m.take i ++ [q]:=by rw[MQ,hq];rfl
   unfold kX dk kY gN;refine⟨rfl,?_⟩;show ee hw (ab d) (ab a) (ab b) _ ((((σ.set a u).set b v).set a (some q.1.d)).set b (some (f q.2))) _
   have e0:(((σ.set a u).set b v).set a (some q.1.d)).set b (some (f q.2))=(σ.set a (some q.1.d)).set b (some (f q.2)):=by
    rw[List.set_comm _ _ (Ne.symm hab),List.set_set,List.set_set]
   rw[e0];have s1:((σ.set a (some q.1.d)).set b (some (f q.2)))[b]?=some (some (f q.2)):=by rw[List.getElem?_set_self (by rw[List.length_set];exact hb)]
   have s2:((σ.set a (some q.1.d)).set b (some (f q.2)))[a]?=some (some q.1.d):=by rw[NQ (Ne.symm hab),List.getElem?_set_self ha]
   have s3:((σ.set a (some q.1.d)).set b (some (f q.2)))[d]?=some (some (.ref p)):=by rw[NQ hbd,NQ had];exact hσ
   unfold ee ab;rw[s1,s2,s3];dsimp only;rw[hf];have pl:=eW (m.take i) l;rw[M6]at pl;refine wz (x:=q.1) au (by walk_at "o") ⟨_,_,rfl,?_⟩
   rw[d6,tk,mW]
 ·rintro σ' G' ⟨u,v,rfl,rfl⟩
  rw[Ml,MM];exact h u v
theorem GR{hw:HW}{α:Type}{f:α->D}{w:α}(hf:val (f w)=f w){ns:List Sl}{l:List (Sl×α)}{a d:Nat}{σ:eO}{G:Gp}{p:Mg}{E:Ends3}{te:bn}(had:a≠d)(ha:a < σ.length)(hσ:σ[d]?=some (some (.ref p)))(hl:l.length+ns.length < Mq)
  (ht:∀ u l (K:j9),K (f w) (gset G p (.dT hw (aO f l)))->te (σ.set a u) (gset G p (.dT hw (aO f l))) K)
  (h:∀ u,E.nx (σ.set a u) (gset G p (.dT hw (aO f (bS l (ns.map fun n=>(n,w))))))):ForIn (gN a) (ee hw (ab d) (ab a) te) E σ (ns.map Sl.d) (gset G p (.dT hw (aO f l))):=by
 refine⟨fun i σ' G'=>∃ u,σ'=σ.set a u/\G'=gset G p (.dT hw (aO f (bS l ((ns.take i).map fun n=>(n,w))))),⟨σ[a],by rw[sm ha],rfl⟩,?_,?_⟩
 ·rintro i dd σ' G' hd ⟨u,rfl,rfl⟩
  rw[MA]at hd;cases hq:ns[i]? with
  | none=>rw[hq]at hd;cases hd
  | some q=>
   rw[hq]at hd;cases hd;have hi:=(List.getElem?_eq_some_iff.mp hq).1;have tk:ns.take (i+1)=ns.take i ++ [q]:=by rw[MQ,hq];rfl
   show ee hw (ab d) (ab a) te _ ((σ.set a u).set a (some q.d)) _
   rw[List.set_set];have s2:(σ.set a (some q.d))[a]?=some (some q.d):=by rw[List.getElem?_set_self ha]
   have s3:(σ.set a (some q.d))[d]?=some (some (.ref p)):=by rw[NQ had];exact hσ
   unfold ee;refine ht _ _ _ ?_;unfold ab;rw[s2,s3];dsimp only;rw[hf];have pl:=eW ((ns.take i).map fun n=>(n,w)) l;rw[Ml,M6]at pl;refine wz (x:=q) au (by walk_at "o") ⟨_,rfl,?_⟩
   rw[d6,tk,MY,MF,Pi,mW]
 ·rintro σ' G' ⟨u,rfl,rfl⟩
  rw[Ml,MM];exact h u
theorem nk{α β:Type}(f:α->D)(g:β->D):∀ (a:List α) (b:List β),nq (a.map f) (b.map g)=(a.zip b).map fun q=>.tup [f q.1,g q.2]
 | [],_=>rfl
 | _::_,[]=>rfl
 | x::a,y::b=>by simp only[MF,nq,Ot,nk f g a b]
theorem vG(x:Str):L3.signs x=(BY x).map D.str:=by unfold L3.signs BY;rw[MU];rfl
theorem Bh(x:Str):(BY x).length=x.length:=by simp[BY,OZ]
theorem lG{β:Type}(g:Sk->List β){o:List Sk}{i:Nat}{s:Sk}(h:o[i]?=some s):(o.take (i+1)).flatMap g=(o.take i).flatMap g ++ g s:=by
 rw[MQ,h,List.flatMap_append];simp
theorem ub{β:Type}(g:Sk->List β):∀ {o:List Sk},(∀ s∈o,(g s).length<=1000)->(o.flatMap g).length<=1000*o.length
 | [],_=>by simp
 | s::r,h=>by
  have h1:=h s Mz;have h2:=ub g (o:=r) fun t ht=>h t (My _ ht);rw[List.flatMap_cons,Na,MC];omega
theorem qp{s:Sk}(h:s.wd<=1000):(gV s).length<=1000:=by
 obtain⟨pen,num,time,act⟩:=s;cases act with
 | put a x=>
  show ((made _).zip (BY x)).length<=1000
  rw[Pu,Bh];have:x.length<=1000:=h;omega
 | _=>exact M0 _
theorem Ab{s:Sk}(h:s.wd<=1000):(iR s).length<=1000:=by
 obtain⟨pen,num,time,act⟩:=s;cases act with
 | strike ns=>show (ns.map _).length<=1000;rw[Ml];exact h
 | _=>exact M0 _
theorem CZ{s:Sk}(h:s.wd<=1000):(pz s).length<=1000:=by
 obtain⟨pen,num,time,act⟩:=s;cases act with
 | dress ns w=>show (ns.map _).length<=1000;rw[Ml];exact h
 | _=>exact M0 _
theorem xO{s:Sk}(h:s.wd<=1000):(mE s).length<=1000:=by
 obtain⟨pen,num,time,act⟩:=s;cases act with
 | move ns a=>
  show (ns.zip (made _)).length<=1000
  rw[Pu];have:ns.length<=1000:=h;omega
 | _=>exact M0 _
theorem ji{β:Type}{o:List Sk}(h:wn o)(g:Sk->List β)(hg:∀ s:Sk,s.wd<=1000->(g s).length<=1000)(i:Nat):((o.take i).flatMap g).length<=64000:=by
 have h1:=ub g (o:=o.take i) fun s hs=>hg s (h.2 s (NP hs));have h2:=h.1;rw[M6]at h1;omega
theorem kU(zF:Zz)(hw:HW){σ:eO}{G:Gp}{a C:Mg}{s:Sk}{i:Nat}{cs:List (Mg×Bool)}{K:Bool->Gp->Prop}(b:Bool)(hσ:σ[i]?=some (some (.ref a)))(hG:G a=some (aS zF s))
  (hc:match s.act with|.put _ _=>(zF.Z2,b)∈cs|.strike _=>(zF.Z3,b)∈cs|.dress _ _=>(zF.Z4,b)∈cs|.move _ _=>(zF.Z5,b)∈cs) (h:K b G):jT (eB (xC cs C) (ae (ab i) (ae (eC (.ref C)) aq))) σ G K:=by
 obtain⟨pen,num,time,act⟩:=s;unfold jT eB ae aq ab eC xC;rw[hσ];cases act<;>(simp only[aS]at hG;simp only[val,hG];exact⟨trivial,b,hc,⟨trivial,h⟩⟩)
theorem ju(zF:Zz)(hw:HW){σ:eO}{G:Gp}{p:Mg}{s:Sk}{ns:List Sl}{i:Nat}{Q:j9}(hσ:σ[i]?=some (some (.ref p)))(hG:G p=some (aS zF s))(ha:s.act=.strike ns\/(∃ w,s.act=.dress ns w)\/∃ b,s.act=.move ns b)(hm:ns.length<=1000)(h:Q (.fl (ns.map Sl.d)) G):
  em [(zF.Z1,ao zF hw),(zF.Z2,ao zF hw),(zF.Z3,ao zF hw),(zF.Z4,ao zF hw),(zF.Z5,ao zF hw)] "touched" [] (ab i) aq σ G Q:=by
 have hG':=hG;unfold em ab;rw[hσ];obtain⟨pen,num,time,act⟩:=s;rcases ha with e|⟨w,e⟩|⟨b,e⟩<;>(have e':act=_:=e;subst e';simp only[aS]at hG;simp only[hG])
 ·exact⟨by decide +kernel,ao zF hw,by simp,_,ns,⟨.inl rfl,hG',hm⟩,h⟩
 ·exact⟨by decide +kernel,ao zF hw,by simp,_,ns,⟨.inr (.inl ⟨w,rfl⟩),hG',hm⟩,h⟩
 ·exact⟨by decide +kernel,ao zF hw,by simp,_,ns,⟨.inr (.inr ⟨b,rfl⟩),hG',hm⟩,h⟩
theorem mQ(zF:Zz)(hw:HW):bF (ao zF hw) (iu zF hw) Ad0:=by
 intro ds G Q h;unfold ao at h;split at h
 ·rename_i p;obtain⟨⟨pen,num,time,act⟩,ns,⟨ha,hG,hl⟩,h⟩:=h;have hs:=ah;unfold aS at hG;unfold iu;rcases ha with e|⟨w,e⟩|⟨b,e⟩<;>(have e':act=_:=e;subst e';dsimp only at hG)
  ·have hc:zF.Z3∈zF.F:=by simp
   walk_at "st"
   try exact h
  ·have hc:zF.Z4∈zF.F:=by simp
   walk_at "st"
   try exact h
  ·have hc:zF.Z5∈zF.F:=by simp
   walk_at "st"
   try exact h
 ·exact h.elim
theorem xA(x:Str){o:List Sk}{i:Nat}{s:Sk}(h:o[i]?=some s):aE x (o.take (i+1))=bS (aE x (o.take i)) (gV s):=by
 unfold aE;rw[lG gV h,<- List.append_assoc,e9]
theorem xT{o:List Sk}{i:Nat}{s:Sk}(h:o[i]?=some s):bH (o.take (i+1))=bS (bH (o.take i)) (iR s):=by
 unfold bH;rw[lG iR h,e9]
theorem Aa{o:List Sk}{i:Nat}{s:Sk}(h:o[i]?=some s):cR (o.take (i+1))=bS (cR (o.take i)) (mE s):=by
 unfold cR;rw[lG mE h,e9]
theorem BS{o:List Sk}{i:Nat}{s:Sk}(h:o[i]?=some s):fW (o.take (i+1))=bS (fW (o.take i)) (pz s):=by
 unfold fW;rw[lG pz h,e9]
theorem Fu{zF:Zz}{G:Gp}{ps:List Mg}{o:List Sk}{i:Nat}{d:D}(h:iP zF G ps o)(hd:(ps.map D.ref)[i]?=some d):∃ a s,d=.ref a/\o[i]?=some s/\G a=some (aS zF s):=by
 rw[MA]at hd;cases hp:ps[i]? with
 | none=>rw[hp]at hd;cases hd
 | some a=>
  rw[hp]at hd;cases hd;have hi:i < o.length:=by have:=(List.getElem?_eq_some_iff.mp hp).1;have:=h.1;omega
  exact⟨a,o[i],rfl,Mp hi,h.2 i a _ hp (Mp hi)⟩
theorem CA(zF:Zz)(hw:HW){σ:eO}{G:Gp}{p:Mg}{pen:Str}{num time:Int}{a:Sl}{x:Str}{i:Nat}{Q:j9}(hσ:σ[i]?=some (some (.ref p)))(hG:G p=some (aS zF ⟨pen,num,time,.put a x⟩))(h:Q (.str x) G):bA zF.F "signs" (ab i) σ G Q:=by
 unfold bA ab;rw[hσ];simp only[aS]at hG;simp only[hG];exact⟨by simp,h⟩
theorem Er(zF:Zz)(hw:HW){σ:eO}{G:Gp}{p:Mg}{pen:Str}{num time:Int}{ns:List Sl}{w:Str}{i:Nat}{Q:j9}(hσ:σ[i]?=some (some (.ref p)))(hG:G p=some (aS zF ⟨pen,num,time,.dress ns w⟩))(h:Q (.str w) G):bA zF.F "word" (ab i) σ G Q:=by
 unfold bA ab;rw[hσ];simp only[aS]at hG;simp only[hG];exact⟨by simp,h⟩
theorem nV(zF:Zz)(hw:HW):bF (cu zF hw) (iW zF hw) Ax0:=by
 intro ds G Q h;unfold cu at h;split at h
 ·rename_i x xs;obtain⟨ps,o,⟨rfl,hO,hS,hx⟩,h⟩:=h;have hs:=ah;unfold iW;rw[af];walk_at "s1";have ol:(fJ x.length).length=x.length:=ck _ _ _;have l0:((fJ x.length).zip (BY x)).length<=1000:=by rw[Pu];omega
  refine⟨_,_,aO D.str ((fJ x.length).zip (BY x)),⟨rfl,rfl,?_,by unfold aO;rw[Ml];omega⟩,fun p hp=>?_⟩
  ·rw[vG,nk];unfold aO;rw[MU];rfl
  rw[ue];have e0:bS [] ((fJ x.length).zip (BY x))=aE x (o.take 0):=by unfold aE;simp
  rw[e0];rw[af];have hE:ie G (gset G p (.dT hw (aO D.str (aE x (o.take 0))))):=ie.refl.gset hp;show ForIn _ _ _ _ (ps.map D.ref) _
  refine⟨fun i σ G'=>∃ x3 x4 x5,σ=[some (.str x),some (.lst (ps.map D.ref)),some (.ref p),x3,x4,x5]/\G'=gset G p (.dT hw (aO D.str (aE x (o.take i)))),⟨_,_,_,rfl,rfl⟩,?_,?_⟩
  ·rintro i d σ G' hd ⟨x3,x4,x5,rfl,rfl⟩
   obtain⟨a,s,rfl,hsi,hGa⟩:=Fu hO hd;have hap:a≠p:=fun z=>by subst z;rw[hp]at hGa;cases hGa
   have Rj:∀ u,gset G p u a=some (aS zF s):=fun u=>by rw[ai hap];exact hGa
   have swd:s.wd<=1000:=hS.2 s (Mv hsi);have bl:(aE x (o.take i)).length<=65000:=by
    have h1:=eW ((fJ x.length).zip (BY x) ++ (o.take i).flatMap gV) [];have h2:=ji hS gV (fun s hs=>qp hs) i;rw[Na,MZ]at h1;unfold aE;omega
   have bt:=xA x hsi;simp only[gN,M1,MK];obtain⟨pen,num,time,act⟩:=s;cases act with
   | put an w=>
    refine cD true (fun K hK=>kU zF hw (s:=⟨pen,num,time,.put an w⟩) (a:=a) (i:=3) true rfl (Rj _) (by simp) hK) ?_
    rw[if_pos rfl];unfold jl Ct ae aq;have mw:=lC ⟨pen,num,time,.put an w⟩;refine jv zF hw (p:=a) (i:=3) (s:=⟨pen,num,time,.put an w⟩) rfl (Rj _) (by walk_at "o") ?_
    refine CA zF hw (p:=a) (i:=3) (a:=an) (x:=w) rfl (Rj _) ?_;refine⟨_,_,⟨rfl,rfl⟩,?_⟩;rw[vG,nk];have bl2:=qp swd;refine GQ (f:=D.str) (fun _=>rfl) (m:=(made ⟨pen,num,time,.put an w⟩).zip (BY w)) (by decide) (by decide) (by decide) (by simp) (by simp) rfl (by show _+(gV ⟨pen,num,time,.put an w⟩).length < _;omega) fun u v=>⟨_,_,_,rfl,?_⟩
    rw[bt];rfl
   | _=>
    refine cD false (fun K hK=>kU zF hw (s:=⟨pen,num,time,_⟩) (a:=a) (i:=3) false rfl (Rj _) (by simp) hK) ?_
    rw[if_neg Bool.false_ne_true];refine⟨_,_,_,rfl,?_⟩;rw[bt];rfl
  ·rintro σ G' ⟨x3,x4,x5,rfl,rfl⟩
   rw[Ml,hO.1,MM];exact h p hp
 ·exact h.elim
theorem pM(zF:Zz)(hw:HW):bF (cF zF hw) (jL zF hw) AI0:=by
 intro ds G Q h;unfold cF at h;split at h
 ·rename_i xs;obtain⟨ps,o,⟨rfl,hO,hS⟩,h⟩:=h;have hs:=ah;unfold jL;rw[af];walk_at "s1";intro p hp;rw[af];show ForIn _ _ _ _ (ps.map D.ref) _
  refine⟨fun i σ G'=>∃ x2 x3,σ=[some (.lst (ps.map D.ref)),some (.ref p),x2,x3]/\G'=gset G p (.dT hw (aO (fun _=>.bl true) (bH (o.take i)))),⟨_,_,rfl,rfl⟩,?_,?_⟩
  ·rintro i d σ G' hd ⟨x2,x3,rfl,rfl⟩
   obtain⟨a,s,rfl,hsi,hGa⟩:=Fu hO hd;have hap:a≠p:=fun z=>by subst z;rw[hp]at hGa;cases hGa
   have Rj:∀ u,gset G p u a=some (aS zF s):=fun u=>by rw[ai hap];exact hGa
   have swd:s.wd<=1000:=hS.2 s (Mv hsi);have bl:(bH (o.take i)).length<=65000:=by
    have h1:=eW ((o.take i).flatMap iR) [];have h2:=ji hS iR (fun s hs=>Ab hs) i;rw[MZ]at h1;unfold bH;omega
   have bt:=xT hsi;simp only[gN,M1,MK];obtain⟨pen,num,time,act⟩:=s;cases act with
   | strike ns=>
    refine cD true (fun K hK=>kU zF hw (s:=⟨pen,num,time,.strike ns⟩) (a:=a) (i:=2) true rfl (Rj _) (by simp) hK) ?_
    rw[if_pos rfl];unfold jl eM;have hl:ns.length<=1000:=swd;refine ju zF hw (p:=a) (i:=2) (s:=⟨pen,num,time,.strike ns⟩) rfl (Rj _) (.inl rfl) hl ?_;dsimp only[eF];refine GR (f:=fun (_:Unit)=>D.bl true) (w:=()) rfl (by decide) (by simp) rfl (by walk_at "o") (fun u l K hK=>hK) fun u=>⟨_,_,rfl,?_⟩
    rw[bt];rfl
   | _=>
    refine cD false (fun K hK=>kU zF hw (s:=⟨pen,num,time,_⟩) (a:=a) (i:=2) false rfl (Rj _) (by simp) hK) ?_
    rw[if_neg Bool.false_ne_true];refine⟨_,_,rfl,?_⟩;rw[bt];rfl
  ·rintro σ G' ⟨x2,x3,rfl,rfl⟩
   rw[Ml,hO.1,MM];exact h p hp
 ·exact h.elim
theorem sC(zF:Zz)(hw:HW):bF (du zF hw) (ma zF hw) ["strokes","worn","stroke","name"]:=by
 intro ds G Q h;unfold du at h;split at h
 ·rename_i xs;obtain⟨ps,o,⟨rfl,hO,hS⟩,h⟩:=h;have hs:=ah;unfold ma;rw[af];walk_at "s1";intro p hp;rw[af];show ForIn _ _ _ _ (ps.map D.ref) _
  refine⟨fun i σ G'=>∃ x2 x3,σ=[some (.lst (ps.map D.ref)),some (.ref p),x2,x3]/\G'=gset G p (.dT hw (aO D.str (fW (o.take i)))),⟨_,_,rfl,rfl⟩,?_,?_⟩
  ·rintro i d σ G' hd ⟨x2,x3,rfl,rfl⟩
   obtain⟨a,s,rfl,hsi,hGa⟩:=Fu hO hd;have hap:a≠p:=fun z=>by subst z;rw[hp]at hGa;cases hGa
   have Rj:∀ u,gset G p u a=some (aS zF s):=fun u=>by rw[ai hap];exact hGa
   have swd:s.wd<=1000:=hS.2 s (Mv hsi);have bl:(fW (o.take i)).length<=65000:=by
    have h1:=eW ((o.take i).flatMap pz) [];have h2:=ji hS pz (fun s hs=>CZ hs) i;rw[MZ]at h1;unfold fW;omega
   have bt:=BS hsi;simp only[gN,M1,MK];obtain⟨pen,num,time,act⟩:=s;cases act with
   | dress ns w=>
    refine cD true (fun K hK=>kU zF hw (s:=⟨pen,num,time,.dress ns w⟩) (a:=a) (i:=2) true rfl (Rj _) (by simp) hK) ?_
    rw[if_pos rfl];unfold jl eM;have hl:ns.length<=1000:=swd;refine ju zF hw (p:=a) (i:=2) (s:=⟨pen,num,time,.dress ns w⟩) rfl (Rj _) (.inr (.inl ⟨w,rfl⟩)) hl ?_;dsimp only[eF];refine GR (f:=D.str) (w:=w) rfl (by decide) (by simp) rfl (by walk_at "o") (fun u l K hK=>Er zF hw (p:=a) (i:=2) (ns:=ns) (w:=w) rfl (Rj _) hK) fun u=>⟨_,_,rfl,?_⟩
    rw[bt];rfl
   | _=>
    refine cD false (fun K hK=>kU zF hw (s:=⟨pen,num,time,_⟩) (a:=a) (i:=2) false rfl (Rj _) (by simp) hK) ?_
    rw[if_neg Bool.false_ne_true];refine⟨_,_,rfl,?_⟩;rw[bt];rfl
  ·rintro σ G' ⟨x2,x3,rfl,rfl⟩
   rw[Ml,hO.1,MM];exact h p hp
 ·exact h.elim
theorem rE(zF:Zz)(hw:HW):bF (cW zF hw) (kI zF hw) AE0:=by
 intro ds G Q h;unfold cW at h;split at h
 ·rename_i xs;obtain⟨ps,o,⟨rfl,hO,hS⟩,h⟩:=h;have hs:=ah;unfold kI;rw[af];walk_at "s1";intro p hp;rw[af];show ForIn _ _ _ _ (ps.map D.ref) _
  refine⟨fun i σ G'=>∃ x2 x3 x4,σ=[some (.lst (ps.map D.ref)),some (.ref p),x2,x3,x4]/\G'=gset G p (.dT hw (aO Sl.d (cR (o.take i)))),⟨_,_,_,rfl,rfl⟩,?_,?_⟩
  ·rintro i d σ G' hd ⟨x2,x3,x4,rfl,rfl⟩
   obtain⟨a,s,rfl,hsi,hGa⟩:=Fu hO hd;have hap:a≠p:=fun z=>by subst z;rw[hp]at hGa;cases hGa
   have Rj:∀ u,gset G p u a=some (aS zF s):=fun u=>by rw[ai hap];exact hGa
   have swd:s.wd<=1000:=hS.2 s (Mv hsi);have bl:(cR (o.take i)).length<=65000:=by
    have h1:=eW ((o.take i).flatMap mE) [];have h2:=ji hS mE (fun s hs=>xO hs) i;rw[MZ]at h1;unfold cR;omega
   have bt:=Aa hsi;simp only[gN,M1,MK];obtain⟨pen,num,time,act⟩:=s;cases act with
   | move ns an=>
    refine cD true (fun K hK=>kU zF hw (s:=⟨pen,num,time,.move ns an⟩) (a:=a) (i:=2) true rfl (Rj _) (by simp) hK) ?_
    rw[if_pos rfl];unfold jl Ct ae aq;have hl:ns.length<=1000:=swd;have mw:=lC ⟨pen,num,time,.move ns an⟩;refine ju zF hw (p:=a) (i:=2) (s:=⟨pen,num,time,.move ns an⟩) rfl (Rj _) (.inr (.inr ⟨an,rfl⟩)) hl ?_;refine jv zF hw (p:=a) (i:=2) (s:=⟨pen,num,time,.move ns an⟩) rfl (Rj _) (by walk_at "o") ?_
    refine⟨_,_,⟨rfl,rfl⟩,?_⟩;rw[nk];have bl2:=xO swd;refine GQ (f:=Sl.d) (fun _=>rfl) (m:=ns.zip (made ⟨pen,num,time,.move ns an⟩)) (by decide) (by decide) (by decide) (by simp) (by simp) rfl (by show _+(mE ⟨pen,num,time,.move ns an⟩).length < _;omega) fun u v=>⟨_,_,_,rfl,?_⟩
    rw[bt];rfl
   | _=>
    refine cD false (fun K hK=>kU zF hw (s:=⟨pen,num,time,_⟩) (a:=a) (i:=2) false rfl (Rj _) (by simp) hK) ?_
    rw[if_neg Bool.false_ne_true];refine⟨_,_,_,rfl,?_⟩;rw[bt];rfl
  ·rintro σ G' ⟨x2,x3,x4,rfl,rfl⟩
   rw[Ml,hO.1,MM];exact h p hp
 ·exact h.elim
theorem sj{xs ys:List Sk}(h:xs.map Sk.rw=ys.map Sk.rw):xs=ys:=List.map_inj_right (f:=Sk.rw) (fun x y=>Sk.rw_inj) |>.mp h
def Hv:D->Sl
 | .tup [.str q,.int n,.int k]=>⟨q,n,k⟩
 | _=>default
theorem Di(x:Sl):Hv x.d=x:=rfl
theorem BZ(row:List Sl)(sit:List (Sl×Sl)):((row.map Sl.d).filter fun d=>(eN sit (Hv d)).isSome).map (fun d=>.tup [d,((eN sit (Hv d)).getD default).d])=(row.filterMap fun s=>(eN sit s).map fun n=>(s,n)).map fun p=>D.tup [p.1.d,p.2.d]:=by
 induction row with
 | nil=>rfl
 | cons s r ih=>
  rw[MF,List.filter_cons,Di];cases e:eN sit s with
  | none=>
   rw[List.filterMap_cons_none (by rw[e];rfl)]
   simpa using ih
  | some n=>
   rw[List.filterMap_cons_some (b:=(s,n)) (by rw[e];rfl)]
   simp only[Option.isSome_some,if_true,MF,ih,Di,e,Option.getD_some]
theorem Al(zF:Zz)(hw:HW):bF (fA zF hw) (vP zF hw) Ac0:=by
 intro ds G Q h;unfold fA at h;split at h
 ·rename_i x q0 ns;obtain⟨sks,base,names,⟨hq0,hx,one,l1,l2,sub,ok,rfl,l3⟩,h⟩:=h;have hs:=ah;have okk:∀ s∈sks,s.ok:=fun s hs'=>⟨(ok s hs').1,le_trans (lC s) (ok s hs').2⟩;unfold vP;rw[af];walk_at "s1";refine⟨sks,base,⟨by first|rfl|exact hq0,one,l1,l2,sub,okk⟩,fun out G1 hE1 st1 Rr=>?_⟩
  have lo:out.length < 64:=by
   have:=f9 (eY st1) (ys:=base.map Sk.rw) fun r hr=>by
    obtain⟨s,hs',rfl⟩:=mem_map.mp hr;exact mem_map.mpr ⟨s,sub s ((Rr s).mp hs'),rfl⟩
   rw[Ml,Ml]at this;omega
  have RP:(ip x.length out).length<=900000:=by
   have wl:=nT x.length out (bR [az] az (fJ x.length)) fun s hs'=>(okk s ((Rr s).mp hs')).2;have e1:out.foldl eZ (bR [az] az (fJ x.length))=az::ip x.length out:=rX x.length out;have ol:(fJ x.length).length=x.length:=ck _ _ _;rw[e1,c_,MC,MC,ol]at wl;omega
  rw[af];have h':=fun G' hE=>h out G' hE st1 Rr;clear h;unfold lr at h';generalize ip x.length out=row at RP h' ⊢;walk_at "s1";refine .inl ⟨row,⟨rfl,RP⟩,fun pm hpm=>?_⟩;refine⟨sks,base,names,row,⟨by first|exact (ie.refl.gset hpm) q0 _ (hE1 q0 _ hq0)|rfl,one,l1,l2,sub,fun s hs'=>(ok s hs').2,rfl,l3,rfl⟩,fun RM ps G2 hE2 st2 RN hO2=>?_⟩
  have eo:RM=out:=sj (iI st2 st1 fun r=>by
   constructor
   ·intro hr;obtain⟨s,hs',rfl⟩:=mem_map.mp hr;exact mem_map.mpr ⟨s,(Rr s).mpr ((RN s).mp hs'),rfl⟩
   ·intro hr;obtain⟨s,hs',rfl⟩:=mem_map.mp hr;exact mem_map.mpr ⟨s,(RN s).mpr ((Rr s).mp hs'),rfl⟩)
  subst eo;have hE3:ie G G2:=hE1.trans ((ie.refl.gset hpm).trans hE2);have sw:wn (jh RM names row):=⟨le_trans (le_trans (M3 _ _) (M3 _ _)) (by walk_at "o"),fun s hs'=>(ok s ((Rr s).mp (mem_filter.mp (mem_filter.mp hs').1).1)).2⟩
  generalize jh RM names row=w at *
  clear hE2 hpm Rr RN st1 st2 lo;rw[af];walk_at "s1";refine⟨ps,w,⟨rfl,hO2,sw⟩,fun pb hpb=>?_⟩;have hE4:ie G (gset G2 pb (.dT hw (aO D.str (aE x w)))):=hE3.trans (ie.refl.gset hpb);have hO4:=hO2.ext (G':=gset G2 pb (.dT hw (aO D.str (aE x w)))) (ie.refl.gset hpb);have f1:gset G2 pb (.dT hw (aO D.str (aE x w))) pb=some (.dT hw (aO D.str (aE x w))):=au;generalize gset G2 pb (.dT hw (aO D.str (aE x w)))=G4 at *
  clear hE3 hO2 hpb;rw[af];walk_at "s1";refine⟨ps,w,⟨rfl,hO4,sw⟩,fun pk hpk=>?_⟩;have ne1:pb≠pk:=fun z=>by subst z;rw[f1]at hpk;cases hpk
  have hE5:ie G4 (gset G4 pk (.dT hw (aO (fun _=>.bl true) (bH w)))):=ie.refl.gset hpk;have hO5:=hO4.ext hE5;have f2:gset G4 pk (.dT hw (aO (fun _=>.bl true) (bH w))) pk=some (.dT hw (aO (fun _=>.bl true) (bH w))):=au;have f1':=hE5 _ _ f1;have hE5':=hE4.trans hE5;generalize gset G4 pk (.dT hw (aO (fun _=>.bl true) (bH w)))=G5 at *
  clear hE4 hO4 hpk hE5 f1;rw[af];walk_at "s1";refine⟨ps,w,⟨rfl,hO5,sw⟩,fun pt hpt=>?_⟩;have ne2:pb≠pt:=fun z=>by subst z;rw[f1']at hpt;cases hpt
  have ne3:pk≠pt:=fun z=>by subst z;rw[f2]at hpt;cases hpt
  have hE6:ie G5 (gset G5 pt (.dT hw (aO Sl.d (cR w)))):=ie.refl.gset hpt;have hO6:=hO5.ext hE6;have f3:gset G5 pt (.dT hw (aO Sl.d (cR w))) pt=some (.dT hw (aO Sl.d (cR w))):=au;have f1:=hE6 _ _ f1';have f2':=hE6 _ _ f2;have hE6':=hE5'.trans hE6;generalize gset G5 pt (.dT hw (aO Sl.d (cR w)))=G6 at *
  clear hE5' hO5 hpt hE6 f1' f2;rw[af];walk_at "s1";refine⟨ps,w,⟨rfl,hO6,sw⟩,fun pw hpw=>?_⟩;have ne4:pb≠pw:=fun z=>by subst z;rw[f1]at hpw;cases hpw
  have hE7:ie G6 (gset G6 pw (.dT hw (aO D.str (fW w)))):=ie.refl.gset hpw;have f4:gset G6 pw (.dT hw (aO D.str (fW w))) pw=some (.dT hw (aO D.str (fW w))):=au;have f1':=hE7 _ _ f1;have f2:=hE7 _ _ f2';have f3':=hE7 _ _ f3;have R4:=hE6'.trans hE7;generalize gset G6 pw (.dT hw (aO D.str (fW w)))=G7 at *
  clear hE6' hO6 hpw hE7 f1 f2' f3;rw[af];walk_at "s1";intro pq hpq;have n1:pb≠pq:=fun z=>by subst z;rw[f1']at hpq;cases hpq
  have n2:pk≠pq:=fun z=>by subst z;rw[f2]at hpq;cases hpq
  have n3:pt≠pq:=fun z=>by subst z;rw[f3']at hpq;cases hpq
  have n4:pw≠pq:=fun z=>by subst z;rw[f4]at hpq;cases hpq
  rw[af];have gb:gset G7 pq (.dT hw []) pb=some (.dT hw (aO D.str (aE x w))):=by rw[ai n1];exact f1'
  refine⟨hw,_,gb,?_⟩;clear gb;have bl:(aE x w).length<=65000:=by
   have h1:=eW ((fJ x.length).zip (BY x) ++ w.flatMap gV) [];have h2:=ub gV (o:=w) fun s hs'=>qp (sw.2 s hs');have h3:=sw.1;rw[Na,MZ,Pu,Bh]at h1;unfold aE;omega
  have keys:(aO D.str (aE x w)).map Ec=(aE x w).map fun p=>p.1.d:=by
   unfold aO;rw[MU];rfl
  rw[keys];refine⟨fun i σ G'=>∃ x10,σ=[some (.str x),some (.ref q0),some (.lst (names.map Nm.d)),some (.lst (row.map Sl.d)),some (.lst (ps.map D.ref)),some (.ref pb),some (.ref pk),some (.ref pt),some (.ref pw),some (.ref pq),x10,none]/\G'=gset (eX G7 pb) pq (.dT hw (aO Sl.d (bS [] ((((aE x w).take i).filter fun p=>(eN (bH w) p.1).isNone).map fun p=>((eN (cR w) p.1).getD p.1,p.1))))),⟨_,rfl,?_⟩,?_,?_⟩
  ·funext b
   by_cases e1:b=pq
   ·rw[e1,d8 n1.symm,au,au];rfl
   ·rw[ai e1]
    by_cases e2:b=pb
    ·rw[e2,d7,d7]
    ·rw[d8 e2,d8 e2,ai e1]
  ·rintro i d σ G' hd ⟨x10,rfl,rfl⟩
   rw[MA]at hd;cases hq:(aE x w)[i]? with
   | none=>rw[hq]at hd;cases hd
   | some q=>
    rw[hq]at hd;cases hd;have hi:=(List.getElem?_eq_some_iff.mp hq).1;simp only[gN,M1,MK];generalize hL:(((aE x w).take i).filter fun p=>(eN (bH w) p.1).isNone).map (fun p=>((eN (cR w) p.1).getD p.1,p.1))=L;have ll:L.length<=65000:=by
     rw[<- hL,Ml];have:=M3 (fun p:Sl×Str=>(eN (bH w) p.1).isNone) ((aE x w).take i);rw[M6]at this;omega
    have pl:=eW L [];rw[MZ]at pl;have tk:(((aE x w).take (i+1)).filter fun p=>(eN (bH w) p.1).isNone).map (fun p=>((eN (cR w) p.1).getD p.1,p.1))=L ++ (if (eN (bH w) q.1).isNone=true then [((eN (cR w) q.1).getD q.1,q.1)]else []):=by
     rw[MQ,hq,Nu,MY,hL];congr 1
     by_cases e:(eN (bH w) q.1).isNone=true
     ·rw[if_pos e];simp[e]
     ·rw[if_neg e];simp[e]
    have gk:gset (eX G7 pb) pq (.dT hw (aO Sl.d (bS [] L))) pk=some (.dT hw (aO (fun _=>.bl true) (bH w))):=by rw[ai n2,d8 (Ne.symm ne1)];exact f2
    have gt:gset (eX G7 pb) pq (.dT hw (aO Sl.d (bS [] L))) pt=some (.dT hw (aO Sl.d (cR w))):=by rw[ai n3,d8 (Ne.symm ne2)];exact f3'
    refine cD (eN (bH w) q.1).isNone (fun K hK=>?_) ?_
    ·show ∃ r,cA hw _ (.ref pk) q.1.d r/\K (!r.isSome) _;refine⟨_,jw zF hw q.1 gk,?_⟩;rw[Option.isSome_map];cases e:eN (bH w) q.1<;>(rw[e]at hK;exact hK)
    ·by_cases e:(eN (bH w) q.1).isNone=true
     ·rw[if_pos e];show jQ _ _/\∃ r,cA hw _ (.ref pt) q.1.d r/\kQ hw (.ref pq) (val (r.getD q.1.d)) q.1.d _ _
      refine⟨?_,_,jw zF hw q.1 gt,?_⟩
      ·unfold jQ;simp only[val,gt]
      ·have ek:val (((eN (cR w) q.1).map Sl.d).getD q.1.d)=((eN (cR w) q.1).getD q.1).d:=by cases eN (cR w) q.1<;>rfl
       rw[ek];refine wz (f:=Sl.d) (w:=q.1) au (by walk_at "o") ⟨_,rfl,?_⟩
       rw[d6,tk,if_pos e,mW]
     ·rw[if_neg e];refine⟨_,rfl,?_⟩;rw[tk,if_neg e,No]
  ·rintro σ G' ⟨x10,rfl,rfl⟩
   rw[Ml,MM];dsimp only;have es:bS [] (((aE x w).filter fun p=>(eN (bH w) p.1).isNone).map fun p=>((eN (cR w) p.1).getD p.1,p.1))=cI x w:=rfl;rw[es];have g9:gset (gset (eX G7 pb) pq (.dT hw (aO Sl.d (cI x w)))) pb (.dT hw (aO D.str (aE x w))) pq=some (.dT hw (aO Sl.d (cI x w))):=by rw[ai n1.symm,au]
   have g5:gset (gset (eX G7 pb) pq (.dT hw (aO Sl.d (cI x w)))) pb (.dT hw (aO D.str (aE x w))) pb=some (.dT hw (aO D.str (aE x w))):=au;have g8:gset (gset (eX G7 pb) pq (.dT hw (aO Sl.d (cI x w)))) pb (.dT hw (aO D.str (aE x w))) pw=some (.dT hw (aO D.str (fW w))):=by rw[ai ne4.symm,ai n4,d8 ne4.symm];exact f4
   have gE:ie G (gset (gset (eX G7 pb) pq (.dT hw (aO Sl.d (cI x w)))) pb (.dT hw (aO D.str (aE x w)))):=fun a o ha=>by
    have h7:=R4 a o ha
    by_cases e1:a=pb
    ·rw[e1]at h7 ⊢;rw[g5,<- h7,f1']
    ·rw[ai e1];have e2:a≠pq:=fun z=>by rw[z,hpq]at h7;cases h7
     rw[ai e2,d8 e1];exact h7
   generalize gset (gset (eX G7 pb) pq (.dT hw (aO Sl.d (cI x w)))) pb (.dT hw (aO D.str (aE x w)))=G9 at *
   clear f1' f2 f3' f4 R4 hpq n1 n2 n3 n4 ne1 ne2 ne3 ne4 bl keys es;rw[af];unfold bz dR eM;simp only[ab,Nb,Nc,eF];refine zE (fun d=>(eN (cI x w) (Hv d)).isSome) (fun d=>.tup [d,((eN (cI x w) (Hv d)).getD default).d]) (by rw[Ml];omega) (fun d hd P R hP hR=>?_) ?_
   ·obtain⟨s,hs',rfl⟩:=mem_map.mp hd;rw[Di]at hP hR;refine⟨⟨by simp,rfl⟩,?_⟩
    show ∃ r,cA hw G9 (.ref pq) s.d r/\(if r.isSome=true then _ else R G9)
    refine⟨_,jw zF hw s g9,?_⟩;rw[Option.isSome_map];cases e:eN (cI x w) s with
    | none=>
     rw[e]at hR;simp only[Option.isSome_none,Bool.false_eq_true,if_false];exact hR rfl
    | some n=>
     rw[e]at hP;simp only[Option.isSome_some,if_true];have lk:=jw zF hw s g9;rw[e]at lk;show ∃ d,cA hw G9 (.ref pq) s.d (some d)/\_
     exact⟨n.d,lk,by show 2<=Mq;omega,hP rfl _ rfl⟩
   ·rw[BZ];have eI:(row.filterMap fun s=>(eN (cI x w) s).map fun n=>(s,n))=lu x w row:=rfl;rw[eI];dsimp only[val];have lI:(lu x w row).length<=900000:=le_trans (List.length_filterMap_le _ _) RP;have mem:∀ p∈lu x w row,∃ z,eN (aE x w) p.2=some z:=fun p hp=>by
     unfold lu at hp;obtain⟨s,_,e⟩:=List.mem_filterMap.mp hp;cases e2:eN (cI x w) s with
     | none=>rw[e2]at e;cases e
     | some n=>
      rw[e2]at e;cases e;have m1:=Gz e2;unfold cI at m1;rcases B5 m1 with m2|m2
      ·simp at m2
      ·obtain⟨q,hq,e3⟩:=mem_map.mp m2;have hq':=(mem_filter.mp hq).1;obtain⟨z,hz⟩:=EN hq';injection e3 with e4 e5
       exact⟨z,by show eN (aE x w) n=some z;rw[<- e5];exact hz⟩
    unfold bo;simp only[Nb,Nc,MK,M1,eF];refine gc (fun d=>match d with|.tup [a,b]=>.tup [a,b,.str ((eN (aE x w) (Hv b)).getD (Mh "")),.str ((eN (fW w) (Hv b)).getD (Mh ""))]|d=>d) (by rw[Ml];omega) (fun d hd P hP=>?_) ?_
    ·obtain⟨p,hp,rfl⟩:=mem_map.mp hd;obtain⟨z,hz⟩:=mem p hp;refine⟨rfl,⟨by simp,rfl⟩,?_⟩
     have lk:=jw zF hw p.2 g5;rw[hz]at lk;show ∃ d,cA hw G9 (.ref pb) p.2.d (some d)/\jQ G9 _/\∃ r,cA hw G9 (.ref pw) p.2.d r/\_
     refine⟨.str z,lk,?_,_,jw zF hw p.2 g8,by show 4<=Mq;omega,hP _ ?_⟩
     ·unfold jQ;simp only[val,g8]
     ·show D.tup [p.1.d,p.2.d,.str z,val (((eN (fW w) p.2).map D.str).getD (.str (Mh "")))]=D.tup [p.1.d,p.2.d,.str ((eN (aE x w) p.2).getD (Mh "")),.str ((eN (fW w) p.2).getD (Mh ""))];rw[hz];cases eN (fW w) p.2<;>rfl
    ·have:=h' G9 gE;rw[MU]at this;rw[MU];exact this
 ·exact h.elim
theorem sh(s:Sl)(n:Nat):pl (n+1) s.d:=by
 intro d hd;simp only[MP,MN,or_false]at hd;rcases hd with rfl|rfl|rfl<;>cases n<;>trivial
theorem Dh(ss:List Sl)(n:Nat):∀ d∈ss.map Sl.d,pl (n+1) d:=fun d hd=>by
 obtain⟨s,_,rfl⟩:=mem_map.mp hd;exact sh s n
theorem Hm{t u:rj}{σ:eO}{G:Gp}(b1 b2:Bool)(h1:∀ K:Bool->Gp->Prop,K b1 G->t σ G K)(h2:b1=false->∀ K:Bool->Gp->Prop,K b2 G->u σ G K):∀ K:Bool->Gp->Prop,K (b1 || b2) G->xS t u σ G K:=fun K hK=>by
 unfold xS;refine h1 _ ?_;cases b1 with
 | true=>rw[if_pos rfl];exact hK
 | false=>rw[if_neg (by decide)];exact h2 rfl K hK
theorem Hz{x:Str}{out:List Sk}(om:∀ s∈out,s.act.many<=1000):(ip x.length out).length<=x.length+1000*out.length:=by
 have wl:=nT x.length out (bR [az] az (fJ x.length)) om;have e1:out.foldl eZ (bR [az] az (fJ x.length))=az::ip x.length out:=rX x.length out;have ol:(fJ x.length).length=x.length:=ck _ _ _;rw[e1,c_,MC,MC,ol]at wl;omega
theorem xU{x:Str}{out:List Sk}{names:List Nm}(om:∀ s∈out,s.act.many<=1000):(lr x out names).length<=x.length+1000*out.length:=by
 unfold lr lu;rw[Ml];exact le_trans (List.length_filterMap_le _ _) (Hz om)
def GI:D->D
 | .tup (_::t)=>.tup t
 | d=>d
theorem BV(seats:List Seat):(seats.map Seat.d).map GI=seats.map Seat.d3:=by rw[MU];rfl
theorem x9(zF:Zz)(hw:HW):bF (fB zF hw) (sO zF hw) Ak0:=by
 intro ds G Q h;unfold fB at h;split at h
 ·rename_i x q0 ns;obtain⟨sks,base,names,hc,h⟩:=h;have hs:=ah;unfold sO;simp only[bo,dR,eM,aI,ae,aq,ab,cC,MF,Pi,Oi,Oq,List.replicate,Nb,Nc,MC,MZ,Nat.reduceAdd,Nat.reduceSub,val,No];refine⟨sks,base,names,hc,fun out G1 hE st mem=>?_⟩;obtain⟨_,hx,_,_,l2,sub,ok,_,_⟩:=hc;have lo:out.length < 64:=by
   have:=f9 (eY st) (ys:=base.map Sk.rw) fun r hr=>by
    obtain⟨s,hs',rfl⟩:=mem_map.mp hr;exact mem_map.mpr ⟨s,sub s ((mem s).mp hs'),rfl⟩
   rw[Ml,Ml]at this;omega
  have ls:=xU (x:=x) (names:=names) fun s (hs':s∈out)=>le_trans (lC s) (ok s ((mem s).mp hs')).2;refine gc GI (by rw[Ml];omega) (fun d hd P hP=>?_) ?_
  ·obtain⟨s,_,rfl⟩:=mem_map.mp hd;have ed:s.d=.tup [s.slot.d,s.name.d,.str s.sign,.str s.word]:=rfl;rw[ed]at hP ⊢;refine⟨⟨by simp[MK,List.replicate],rfl⟩,?_⟩
   show _/\_
   refine⟨by unfold HT.sIx;simp,?_⟩
   exact hP _ rfl
  ·rw[BV];exact h out G1 hE st mem
 ·exact h.elim
theorem yB(zF:Zz)(hw:HW):bF (dH zF hw) (sS zF hw) Ad0:=by
 intro ds G Q h;unfold dH at h;split at h
 ·rename_i p;obtain⟨⟨pen,num,time,act⟩,a,x,⟨rfl,hG⟩,h⟩:=h;have hs:=ah;have hc:zF.Z2∈zF.F:=by simp
  unfold aS Sl.d at hG;dsimp only at hG;unfold sS;walk_at "st";exact⟨by walk_at "o",by walk_at "o",h⟩
 ·exact h.elim
theorem sH(zF:Zz)(hw:HW):bF (cq zF hw) (mi zF hw) Ad0:=by
 intro ds G Q h;unfold cq at h;split at h
 ·rename_i p;obtain⟨⟨pen,num,time,act⟩,ns,⟨rfl,hG⟩,h⟩:=h;have hs:=ah;have hc:zF.Z3∈zF.F:=by simp
  unfold aS at hG;dsimp only at hG;unfold mi;walk_at "st";exact⟨by walk_at "o",by walk_at "o",h⟩
 ·exact h.elim
theorem uT(zF:Zz)(hw:HW):bF (cH zF hw) (ow zF hw) Ad0:=by
 intro ds G Q h;unfold cH at h;split at h
 ·rename_i p;obtain⟨⟨pen,num,time,act⟩,ns,w,⟨rfl,hG⟩,h⟩:=h;have hs:=ah;have hc:zF.Z4∈zF.F:=by simp
  unfold aS at hG;dsimp only at hG;unfold ow;walk_at "st";exact⟨by walk_at "o",by walk_at "o",h⟩
 ·exact h.elim
theorem wJ(zF:Zz)(hw:HW):bF (c9 zF hw) (qN zF hw) Ad0:=by
 intro ds G Q h;unfold c9 at h;split at h
 ·rename_i p;obtain⟨⟨pen,num,time,act⟩,ns,a,⟨rfl,hG⟩,h⟩:=h;have hs:=ah;have hc:zF.Z5∈zF.F:=by simp
  unfold aS at hG;dsimp only at hG;have ea:a.d=.tup [.str a.pen,.int a.n,.int a.k]:=rfl;rw[ea]at hG;unfold qN;walk_at "st";exact⟨by walk_at "o",by walk_at "o",h⟩
 ·exact h.elim
theorem xl(zF:Zz)(hw:HW){σ:eO}{G:Gp}{p:Mg}{i j:Nat}{vs:List D}{v:D}{Q:j9}(hσ:σ[i]?=some (some (.ref p)))(hG:G p=some (.ins zF.C_Paper am vs))(hv:vs[j]?=some v)(h:Q v G):ij zF.C_Paper am j (ab i) σ G Q:=by
 unfold ij ab;rw[hσ];dsimp only;rw[hG];dsimp only
 first
 | (rw[hv];exact⟨⟨rfl,rfl⟩,h⟩)
 | (refine⟨⟨rfl,rfl⟩,?_⟩;rw[hv];exact h)
 | exact⟨⟨rfl,rfl⟩,v,hv,h⟩
theorem Bi{hw0:List aA->Int}{to ti te:bn}{E:Ends3}{σ:eO}{G:Gp}{o i v:D}(hv:∀ Q:j9,Q v G->te σ G Q)(ho:∀ Q:j9,Q o G->to σ G Q)(hi:∀ Q:j9,Q i G->ti σ G Q)(h:kQ hw0 (val o) (val i) (val v) G fun G4=>E.nx σ G4):ee hw0 to ti te E σ G:=hv _ (ho _ (hi _ h))
theorem o6(zF:Zz)(hw:HW){σ:eO}{G:Gp}{p:Mg}{s:Sk}{i:Nat}{Q:j9}(hσ:σ[i]?=some (some (.ref p)))(hG:G p=some (aS zF s))(h:Q (.tup [.str s.pen,.int s.num]) G):bA zF.F "name" (ab i) σ G Q:=by
 obtain⟨pen,num,time,act⟩:=s;unfold bA ab;rw[hσ];cases act<;>(simp only[aS]at hG;simp only[hG];refine⟨by simp,?_⟩;first|exact h)
theorem Es(zF:Zz)(hw:HW){σ:eO}{G:Gp}{p:Mg}{s:Sk}{i:Nat}{Q:j9}(hσ:σ[i]?=some (some (.ref p)))(hG:G p=some (aS zF s))(h:Q (.int s.time) G):bA zF.F "time" (ab i) σ G Q:=by
 obtain⟨pen,num,time,act⟩:=s;unfold bA ab;rw[hσ];cases act<;>(simp only[aS]at hG;simp only[hG];refine⟨by simp,?_⟩;first|exact h)
theorem D6(zF:Zz)(hw:HW){σ:eO}{G:Gp}{p:Mg}{s:Sk}{i:Nat}{Q:j9}(hσ:σ[i]?=some (some (.ref p)))(hG:G p=some (aS zF s))(h:Q s.d G):
  em [(zF.Z2,dH zF hw),(zF.Z3,cq zF hw),(zF.Z4,cH zF hw),(zF.Z5,c9 zF hw)] "row" [] (ab i) aq σ G Q:=by
 obtain⟨pen,num,time,act⟩:=s;unfold em ab;rw[hσ];cases act with
 | put a x=>
  have hG':=hG;simp only[aS]at hG;simp only[hG];exact⟨by decide +kernel,dH zF hw,by simp,⟨_,a,x,⟨rfl,hG'⟩,h⟩⟩
 | strike ns=>
  have hG':=hG;simp only[aS]at hG;simp only[hG];exact⟨by decide +kernel,cq zF hw,by simp,⟨_,ns,⟨rfl,hG'⟩,h⟩⟩
 | dress ns w=>
  have hG':=hG;simp only[aS]at hG;simp only[hG];exact⟨by decide +kernel,cH zF hw,by simp,⟨_,ns,w,⟨rfl,hG'⟩,h⟩⟩
 | move ns a=>
  have hG':=hG;simp only[aS]at hG;simp only[hG];exact⟨by decide +kernel,c9 zF hw,by simp,⟨_,ns,a,⟨rfl,hG'⟩,h⟩⟩
theorem uL(zF:Zz)(hw:HW):bF (de zF hw) (oj zF hw) ["at","length"]:=by
 intro ds G Q h;unfold de at h;split at h
 ·obtain⟨⟨h1,h2⟩,h⟩:=h;unfold oj;walk_at "st";rw[decide_eq_true True.intro];exact True.intro
 ·exact h.elim
theorem nX(zF:Zz)(hw:HW):bF (bv zF hw) (iZ zF hw) AS0:=by
 intro ds G Q h;unfold bv at h;split at h
 ·obtain⟨⟨h1,h2,h3,h4⟩,h⟩:=h;unfold iZ;walk_at "st";rw[decide_eq_true True.intro];exact True.intro
 ·exact h.elim
theorem nZ(zF:Zz)(hw:HW):bF (bT zF hw) (i5 zF hw) Ad0:=by
 intro ds G Q h;unfold bT at h;split at h
 ·rename_i p;obtain⟨P,d,s,g,⟨⟨g1,g2,g3,g4⟩,ok⟩,h⟩:=h;have hs:=ah;have l1:=ok.ls;unfold i5;walk_at "st";refine⟨by rw[Ml];omega,fun i acc G'=>acc=(((P.sks.take i).filter fun s=>!gn P s.nm).map Sk.nm).map Nm.d/\G'=G,⟨rfl,rfl⟩,fun i acc G' hp=>by rw[hp.2];exact g2,?_,?_⟩
  ·rintro i dd acc G' hd ⟨rfl,rfl⟩
   rw[MA]at hd;cases hq:P.sks[i]? with
   | none=>rw[hq]at hd;cases hd
   | some k=>
    rw[hq]at hd;cases hd;obtain⟨w,hw0⟩:=ok.kn k (Mv hq);have tk:((P.sks.take (i+1)).filter fun s=>!gn P s.nm)=((P.sks.take i).filter fun s=>!gn P s.nm) ++ if (!gn P k.nm)=true then [k]else []:=by
     rw[MQ,hq,Nu];congr 1
     by_cases z:(!gn P k.nm)=true
     ·rw[if_pos z];exact List.filter_cons_of_pos z
     ·rw[if_neg z];exact List.filter_cons_of_neg z
    have wk:gn P k.nm=cB (.str w) (.str (Mh "wiped")):=by unfold gn;rw[hw0];rfl
    have ed:k.d=.tup [.tup [.str k.pen,.int k.num],.int k.time,k.act.d]:=rfl;rw[ed];refine⟨⟨by simp[MK,List.replicate],rfl⟩,?_⟩
    have hk:bE P.st [.inr k.pen,.inl k.num]=some (.str w):=hw0;clear ok;have tk':(((P.sks.take (i+1)).filter fun s=>!gn P s.nm).map Sk.nm).map Nm.d=(((P.sks.take i).filter fun s=>!gn P s.nm).map Sk.nm).map Nm.d ++ if (!gn P k.nm)=true then [.tup [.str k.pen,.int k.num]]else []:=by
     rw[tk,MY,MY];congr 1;split<;>rfl
    clear tk;generalize (((P.sks.take i).filter fun s=>!gn P s.nm).map Sk.nm).map Nm.d=A0 at *
    rw[wk]at tk';walk_at "st"
    by_cases z:(!cB (.str w) (.str (Mh "wiped")))=true
    ·rw[if_pos z,if_pos z]
    ·rw[if_neg z,if_neg z,No]
  ·rintro acc G' ⟨rfl,rfl⟩
   rw[Ml,MM];exact h
 ·exact h.elim
theorem n6(zF:Zz)(hw:HW):bF (bw zF hw) (i6 zF hw) Ad0:=by
 intro ds G Q h;unfold bw at h;split at h
 ·rename_i p;obtain⟨P,d,s,g,⟨⟨g1,g2,g3,g4⟩,ok⟩,h⟩:=h;have hs:=ah;unfold i6;walk_at "st"
 ·exact h.elim
theorem jV(zF:Zz)(hw:HW):bF (aK zF hw) (fY zF hw) ["self","pen"]:=by
 intro ds G Q h;unfold aK at h;split at h
 ·rename_i p pen;obtain⟨P,d,s,g,⟨⟨g1,g2,g3,g4⟩,gi⟩,h⟩:=h;have hs:=ah;unfold fY;unfold Pp.num at h;cases e:bE P.gr (.inr pen) with
  | none=>
   rw[e]at h;walk_at "st";exact⟨by walk_at "o",h⟩
  | some v=>
   obtain⟨m,rfl,_⟩:=gi _ _ e;rw[e]at h;walk_at "st";exact⟨by walk_at "o",h⟩
 ·exact h.elim
theorem jU(zF:Zz)(hw:HW):bF (aJ zF hw) (fX zF hw) Ad0:=by
 intro ds G Q h;unfold aJ at h;split at h
 ·rename_i p;obtain⟨P,d,s,g,⟨g1,g2,g3,g4⟩,h⟩:=h;unfold fX;walk_at "st"
 ·exact h.elim
theorem jX(zF:Zz)(hw:HW):bF (bx zF hw) (f6 zF hw) Ah0:=by
 intro ds G Q h;unfold bx at h;split at h
 ·rename_i p a b;obtain⟨P,d,s,g,w,⟨⟨g1,g2,g3,g4⟩,hk⟩,h⟩:=h;unfold f6;walk_at "st";exact iteF True.intro
 ·exact h.elim
theorem rG(zF:Zz)(hw:HW):bF (bJ zF hw) (kK zF hw) Ah0:=by
 intro ds G Q h;unfold bJ at h;split at h
 ·rename_i p a b;obtain⟨P,d,s,g,w,⟨⟨g1,g2,g3,g4⟩,hk⟩,h⟩:=h;unfold kK;rw[af];walk_at "s1";exact⟨P,d,s,g,w,⟨g1,g2,g3,g4⟩,hk⟩
 ·exact h.elim
theorem jW(zF:Zz)(hw:HW):bF (a_ zF hw) (fZ zF hw) Ah0:=by
 intro ds G Q h;unfold a_ at h;split at h
 ·rename_i p a b;obtain⟨P,d,s,g,⟨⟨g1,g2,g3,g4⟩,hk⟩,h⟩:=h;unfold fZ;walk_at "st";refine⟨P,d,s,g,_,⟨⟨g1,g2,g3,g4⟩,hk⟩,?_⟩;rw[aY];exact iteF True.intro
 ·exact h.elim
theorem sI(zF:Zz)(hw:HW):bF (cU zF hw) (mj zF hw) Ah0:=by
 intro ds G Q h;unfold cU at h;split at h
 ·rename_i p a b;obtain⟨P,d,s,g,⟨⟨g1,g2,g3,g4⟩,hk,l2⟩,h⟩:=h;have hs:=ah;unfold mj;rw[af];walk_at "s1";refine⟨P,d,s,g,⟨⟨g1,g2,g3,g4⟩,hk⟩,by walk_at "o",h _ (fun x o hx hG=>?_) ⟨?_,?_,au,?_⟩⟩
  ·rw[ai (fun z=>hx (by rw[z];simp))]
   exact hG
  ·rw[ai (fun z=>by rw[z,g3]at g1;cases g1)]
   exact g1
  ·rw[ai (fun z=>by rw[z,g3]at g2;cases g2)]
   exact g2
  ·rw[ai (fun z=>by rw[z,g3]at g4;cases g4)]
   exact g4
 ·exact h.elim
theorem sJ(zF:Zz)(hw:HW):bF (dw zF hw) (mm zF hw) Ad0:=by
 intro ds G Q h;unfold dw at h;split at h
 ·rename_i p;obtain⟨P,d,s,g,⟨⟨g1,g2,g3,g4⟩,ok⟩,h⟩:=h;have hs:=ah;have o1:=ok.lo;have o2:=ok.ls;have un:P.unw.length<=P.sks.length:=by
   unfold Pp.unw;rw[Ml];exact M3 _ _
  have sk:∀ k∈P.sks,1<=k.num/\k.wd<=1000:=fun k hk=>⟨(ok.sk k hk).1,le_trans (ok.sk k hk).2.1 (by decide)⟩
  unfold mm;walk_at "st";refine⟨P,d,s,g,⟨⟨g1,g2,g3,g4⟩,ok⟩,P.sks,P.sks,P.unw,⟨rfl,by walk_at "o",wj ok.ap,by walk_at "o",by walk_at "o",fun k hk=>hk,sk,rfl,by walk_at "o"⟩,fun out G' hE so mo=>h out G' hE ⟨so,mo⟩⟩
 ·exact h.elim
theorem rH(zF:Zz)(hw:HW):bF (bK zF hw) (kL zF hw) Ad0:=by
 intro ds G Q h;unfold bK at h;split at h
 ·rename_i p;obtain⟨P,d,s,g,⟨⟨g1,g2,g3,g4⟩,ok⟩,h⟩:=h;have hs:=ah;have o1:=ok.lo;have o2:=ok.ls;have un:P.unw.length<=P.sks.length:=by
   unfold Pp.unw;rw[Ml];exact M3 _ _
  have sk:∀ k∈P.sks,1<=k.num/\k.wd<=1000:=fun k hk=>⟨(ok.sk k hk).1,le_trans (ok.sk k hk).2.1 (by decide)⟩
  unfold kL;walk_at "st";refine⟨P,d,s,g,⟨⟨g1,g2,g3,g4⟩,ok⟩,P.sks,P.sks,P.unw,⟨rfl,by walk_at "o",wj ok.ap,by walk_at "o",by walk_at "o",fun k hk=>hk,sk,rfl,by walk_at "o"⟩,fun out G' hE so mo=>h out G' hE ⟨so,mo⟩⟩
 ·exact h.elim
theorem sM(zF:Zz)(hw:HW):bF (bY zF hw) (mr zF hw) ["self","stroke"]:=by
 intro ds G Q h;unfold bY at h;split at h
 ·rename_i p a;obtain⟨P,d,s,g,k,⟨⟨g1,g2,g3,g4⟩,ga,l1,l2,l3⟩,h⟩:=h;have hs:=ah;have npd:p≠d:=fun z=>by rw[z,g2]at g1;cases g1
  have nps:p≠s:=fun z=>by rw[z,g3]at g1;cases g1
  have npg:p≠g:=fun z=>by rw[z,g4]at g1;cases g1
  have nds:d≠s:=fun z=>by rw[z,g3]at g2;cases g2
  have ndg:d≠g:=fun z=>by rw[z,g4]at g2;cases g2
  have nsg:s≠g:=fun z=>by rw[z,g4]at g3;cases g3
  obtain⟨C,L,fs,eo⟩:=pW zF k;have gx:G a=some (.ins C L fs):=ga.trans (by rw[eo])
  have nad:a≠d:=fun z=>by rw[z,g2]at gx;cases gx
  have nas:a≠s:=fun z=>by rw[z,g3]at gx;cases gx
  have nag:a≠g:=fun z=>by rw[z,g4]at gx;cases gx
  unfold mr;rw[af];unfold bW iD;refine xl zF hw (i:=0) rfl g1 rfl ?_;refine⟨⟨_,g2⟩,?_⟩;unfold ae;refine D6 zF hw (i:=1) rfl ga ?_;unfold aq;dsimp only;rw[g2];dsimp only;refine⟨by rw[Ml];omega,?_⟩
  have e1:(P.sks.map Sk.d) ++ [val k.d]=(P.sks ++ [k]).map Sk.d:=by rw[MY];rfl
  rw[e1];clear e1;have h1:gset G d (.lst ((P.sks ++ [k]).map Sk.d)) p=_:=(ai npd).trans g1;have h2:gset G d (.lst ((P.sks ++ [k]).map Sk.d)) d=_:=au;have h3:gset G d (.lst ((P.sks ++ [k]).map Sk.d)) s=_:=(ai nds.symm).trans g3;have h4:gset G d (.lst ((P.sks ++ [k]).map Sk.d)) g=_:=(ai ndg.symm).trans g4;have ha:gset G d (.lst ((P.sks ++ [k]).map Sk.d)) a=_:=(ai nad).trans ga;have ho:rl [p,d,s,g] G (gset G d (.lst ((P.sks ++ [k]).map Sk.d))):=fun x o hx hG=>(ai fun z=>hx (by rw[z];simp)).trans hG
  generalize gset G d (.lst ((P.sks ++ [k]).map Sk.d))=G1 at *
  clear g1 g2 g3 g4 ga gx;rw[af];refine Bi (v:=.str (Mh "waits")) (o:=.ref s) (i:=.tup [.str k.pen,.int k.num]) (fun Q h=>h) (fun Q h=>xl zF hw (i:=0) rfl h1 rfl h) (fun Q h=>o6 zF hw (i:=1) rfl ha h) ?_;unfold kQ;dsimp only[val];rw[h3];refine⟨rfl,k.nm.key,rfl,by walk_at "o",?_⟩
  have i1:gset G1 s (.dT hw (aW P.st k.nm.key (.str (Mh "waits")))) p=_:=(ai nps).trans h1;have i2:gset G1 s (.dT hw (aW P.st k.nm.key (.str (Mh "waits")))) d=_:=(ai nds).trans h2;have i3:gset G1 s (.dT hw (aW P.st k.nm.key (.str (Mh "waits")))) s=_:=au;have i4:gset G1 s (.dT hw (aW P.st k.nm.key (.str (Mh "waits")))) g=_:=(ai nsg.symm).trans h4;have ia:gset G1 s (.dT hw (aW P.st k.nm.key (.str (Mh "waits")))) a=_:=(ai nas).trans ha;have io:rl [p,d,s,g] G (gset G1 s (.dT hw (aW P.st k.nm.key (.str (Mh "waits"))))):=fun x o hx hG=>(ai fun z=>hx (by rw[z];simp)).trans (ho x o hx hG)
  generalize gset G1 s (.dT hw (aW P.st k.nm.key (.str (Mh "waits"))))=G2 at *
  clear h1 h2 h3 h4 ha ho;rw[af];refine Bi (v:=.int k.num) (o:=.ref g) (i:=.str k.pen) (fun Q h=>by unfold bd;exact o6 zF hw (i:=1) rfl ia h) (fun Q h=>xl zF hw (i:=0) rfl i1 rfl h) (fun Q h=>by unfold bd;exact o6 zF hw (i:=1) rfl ia h) ?_
  unfold kQ;dsimp only[val];rw[i4];refine⟨.inr k.pen,rfl,by walk_at "o",?_⟩
  have j1:gset G2 g (.dK (aW P.gr (.inr k.pen) (.int k.num))) p=_:=(ai npg).trans i1;have j2:gset G2 g (.dK (aW P.gr (.inr k.pen) (.int k.num))) d=_:=(ai ndg).trans i2;have j3:gset G2 g (.dK (aW P.gr (.inr k.pen) (.int k.num))) s=_:=(ai nsg).trans i3;have j4:gset G2 g (.dK (aW P.gr (.inr k.pen) (.int k.num))) g=_:=au;have ja:gset G2 g (.dK (aW P.gr (.inr k.pen) (.int k.num))) a=_:=(ai nag).trans ia;have jo:rl [p,d,s,g] G (gset G2 g (.dK (aW P.gr (.inr k.pen) (.int k.num)))):=fun x o hx hG=>(ai fun z=>hx (by rw[z];simp)).trans (io x o hx hG)
  generalize gset G2 g (.dK (aW P.gr (.inr k.pen) (.int k.num)))=G3 at *
  clear i1 i2 i3 i4 ia io;rw[af];unfold Bj;refine Es zF hw (i:=1) (p:=a) (σ:=[some (.ref p),some (.ref a)]) rfl ja ?_;show (match G3 p with|some (.ins C' L' ds)=>_|_=>False)
  rw[j1];refine⟨⟨rfl,rfl⟩,?_⟩;have npa:a≠p:=fun z=>by
   rw[z,j1]at ja;obtain⟨pen,num,time,act⟩:=k;cases act<;>(injection ja with ja;injection ja with _ _ ja;cases ja)
  dsimp only;unfold bo;refine o6 zF hw (i:=1) (p:=a) (σ:=[some (.ref p),some (.ref a)]) rfl ((ai npa).trans ja) ?_;exact h _ (fun x o hx hG=>(ai fun z=>hx (by rw[z];simp)).trans (jo x o hx hG)) ⟨au,(ai npd.symm).trans j2,(ai nps.symm).trans j3,(ai npg.symm).trans j4⟩
 ·exact h.elim
theorem mR(zF:Zz)(hw:HW):bF (b9 zF hw) (iw zF hw) ["self","old"]:=by
 intro ds G Q h;unfold b9 at h;split at h
 ·rename_i p x;obtain⟨g1,h⟩:=h;have hs:=ah;unfold iw;rw[af];walk_at "s1";rw[af];walk_at "s1";refine⟨by walk_at "o",fun d hd=>?_⟩
  have npd:p≠d:=fun z=>by rw[<- z,au]at hd;cases hd
  have hd0:G d=none:=by rwa[ai npd.symm]at hd
  rw[ai npd,au];dsimp only;refine⟨⟨rfl,rfl⟩,?_⟩;rw[af];generalize hG1:gset (gset (gset G p _) d _) p _=G1;have a1:G1 p=some (.ins zF.C_Paper ["old","drawn"] [.str x,.ref d]):=by rw[<- hG1];exact au
  have a2:G1 d=some (.lst []):=by rw[<- hG1,ai npd.symm];exact au
  have a0:∀ y o,y≠p->y≠d->G y=some o->G1 y=some o:=fun y o h1 h2 hG=>by rw[<- hG1,ai h1,ai h2,ai h1];exact hG
  clear hG1;walk_at "s1";intro s hs1;have hs0:G s=none:=by
   cases z:G s with
   | none=>rfl
   | some o=>rw[a0 s o (fun w=>by rw[w,a1]at hs1;cases hs1) (fun w=>by rw[w,a2]at hs1;cases hs1) z]at hs1;cases hs1
  have nps:p≠s:=fun z=>by rw[<- z,a1]at hs1;cases hs1
  have nds:d≠s:=fun z=>by rw[<- z,a2]at hs1;cases hs1
  rw[ai nps,a1];dsimp only;refine⟨⟨rfl,rfl⟩,?_⟩;rw[af];generalize hG2:gset (gset G1 s _) p _=G2;have b1:G2 p=some (.ins zF.C_Paper AL0 [.str x,.ref d,.ref s]):=by rw[<- hG2];exact au
  have b2:G2 d=some (.lst []):=by rw[<- hG2,ai npd.symm,ai nds];exact a2
  have b3:G2 s=some (.dT hw []):=by rw[<- hG2,ai nps.symm];exact au
  have b0:∀ y o,y≠p->y≠d->y≠s->G y=some o->G2 y=some o:=fun y o h1 h2 h3 hG=>by rw[<- hG2,ai h1,ai h3];exact a0 y o h1 h2 hG
  clear hG2 a1 a2 a0 hs1;walk_at "s1";intro g hg;have hg0:G g=none:=by
   cases z:G g with
   | none=>rfl
   | some o=>rw[b0 g o (fun w=>by rw[w,b1]at hg;cases hg) (fun w=>by rw[w,b2]at hg;cases hg) (fun w=>by rw[w,b3]at hg;cases hg) z]at hg;cases hg
  have npg:p≠g:=fun z=>by rw[<- z,b1]at hg;cases hg
  have ndg:d≠g:=fun z=>by rw[<- z,b2]at hg;cases hg
  have nsg:s≠g:=fun z=>by rw[<- z,b3]at hg;cases hg
  rw[ai npg,b1];dsimp only;refine⟨⟨rfl,rfl⟩,?_⟩;walk_at "st";refine h d s g _ ⟨hd0,hs0,hg0⟩ (fun y o hy hG=>?_) ⟨au,?_,?_,?_⟩
  ·simp only[MP,MN,or_false,not_or]at hy;rw[ai hy.1,ai hy.2.2.2];exact b0 y o hy.1 hy.2.1 hy.2.2.1 hG
  ·rw[ai npd.symm,ai ndg];exact b2
  ·rw[ai nps.symm,ai nsg];exact b3
  ·rw[ai npg.symm];exact au
 ·exact h.elim
theorem Gw{seats:List Seat}{i:Int}(h0:0<=i)(h1:i < seats.length):lW (seats.map Seat.d) i=some (seats[i.toNat]'(by walk_at "o")).d:=by
 have:=o8 (ds:=seats.map Seat.d) (i:=i) h0 (by rw[Ml];omega)
 rw[this,OO]
def GP:D->D
 | .tup (_::d::_)=>d
 | d=>d
theorem Ch(seats:List Seat):(seats.map Seat.d).map GP=(seats.map Seat.name).map Sl.d:=by rw[MU,MU];rfl
theorem nW(zF:Zz)(hw:HW):bF (bu zF hw) (iX zF hw) AA0:=by
 intro ds G Q h;unfold bu at h;split at h
 ·rename_i xs i j;obtain⟨seats,⟨rfl,h0,h1,h2,h3⟩,h⟩:=h;have hs:=ah;unfold iX;walk_at "st";have ec:L3.cutD (seats.map Seat.d) (some i) (some j)=((seats.drop i.toNat).take (j - i).toNat).map Seat.d:=by
   rw[uf h0 (by walk_at "o"),List.map_take,List.map_drop]
   congr 1;omega
  rw[ec];refine gc GP (by rw[Ml];exact le_trans (List.length_take_le' _ _) (by rw[ON];omega)) (fun d hd P hP=>?_) ?_
  ·obtain⟨s,_,rfl⟩:=mem_map.mp hd;have ed:s.d=.tup [s.slot.d,s.name.d,.str s.sign,.str s.word]:=rfl;rw[ed]at hP ⊢;refine⟨⟨by simp[MK,List.replicate],rfl⟩,?_⟩
   exact hP _ rfl
  ·rw[Ch];exact h
 ·exact h.elim
theorem dS.off{C:Mg}{hw0:List aA->Int}{G:Gp}{p d s g a:Mg}{P:Pp}{o:GO}(h:dS C hw0 G p d s g P)(ha:G a=none):dS C hw0 (gset G a o) p d s g P:=by
 have ne:∀ {b:Mg} {u:GO},G b=some u->b≠a:=fun hb z=>by rw[z,ha]at hb;cases hb
 obtain⟨h1,h2,h3,h4⟩:=h;exact⟨(ai (ne h1)).trans h1,(ai (ne h2)).trans h2,(ai (ne h3)).trans h3,(ai (ne h4)).trans h4⟩
theorem dS.ext{C:Mg}{hw0:List aA->Int}{G G':Gp}{p d s g:Mg}{P:Pp}(h:dS C hw0 G p d s g P)(e:ie G G'):dS C hw0 G' p d s g P:=⟨e _ _ h.1,e _ _ h.2.1,e _ _ h.2.2.1,e _ _ h.2.2.2⟩
theorem Pp.ok.le{P:Pp}{n m:Nat}(h:P.ok n)(hl:n<=m):P.ok m:=⟨h.lo,le_trans h.ls hl,le_trans h.lt hl,le_trans h.lg hl,h.sk,h.ap,h.kn,h.gi,h.gm⟩
theorem Fe{P:Pp}{out:List Sk}(so:Srt P out):out.length<=P.sks.length:=by
 have:=f9 (eY so.1) (ys:=P.sks.map Sk.rw) fun r hr=>by
  obtain⟨s,hs',rfl⟩:=mem_map.mp hr;exact mem_map.mpr ⟨s,(so.2 s).mp hs',rfl⟩
 rwa[Ml,Ml]at this
theorem nz{P:Pp}{out:List Sk}(ok:P.ok 50)(so:Srt P out):(P.seats out).length<=60000:=by
 have h1:=xU (x:=P.old) (out:=out) (names:=P.unw) fun s hs'=>le_trans (lC s) (le_trans (ok.sk s ((so.2 s).mp hs')).2.1 (by decide))
 have h2:=Fe so;have h3:=ok.ls;have h4:=ok.lo;unfold Pp.seats;omega
theorem wW{G G1 G':Gp}{a p d s g:Mg}{o:GO}(e:ie G G1)(ha:G1 a=none)(h:rl [p,d,s,g] (gset G1 a o) G'):rl [p,d,s,g] G G':=fun x u hx hG=>h x u hx ((ai fun z=>by rw[<- z,e x u hG]at ha;cases ha).trans (e x u hG))
theorem pR(zF:Zz)(hw:HW):bF (cG zF hw) (jP zF hw) ["self","pen","at","to","seats"]:=by
 intro ds G Q h;unfold cG at h;split at h
 ·rename_i p pen i j;obtain⟨P,d,s,g,⟨⟨g1,g2,g3,g4⟩,ok⟩,h⟩:=h;have hs:=ah;have ok':P.ok 50:=ok.le (by decide)
  have ls:=ok.ls;have lt:=ok.lt;have lg:=ok.lg;have gi:=ok.gi;unfold jP;rw[af];walk_at "s1";refine⟨P,d,s,g,⟨⟨g1,g2,g3,g4⟩,ok'⟩,fun out G1 hE so=>?_⟩;obtain⟨⟨c1,c2,c3,c4⟩,h⟩:=h out so;have k1:=hE _ _ g1;have k2:=hE _ _ g2;have k3:=hE _ _ g3;have k4:=hE _ _ g4;rw[af];walk_at "s1";have sb:=nz ok' so;have pa:dS zF.C_Paper hw G1 p d s g P:=⟨k1,k2,k3,k4⟩;refine⟨⟨by rw[Ml];exact c2,by rw[Ml];exact c4⟩,P,d,s,g,⟨pa,gi⟩,P,d,s,g,pa,P.seats out,⟨rfl,by walk_at "o",c4,by walk_at "o"⟩,fun a ha=>⟨pen,_,rfl,P,d,s,g,⟨pen,P.num pen,P.time+1,.strike ((((P.seats out).drop i.toNat).take (j - i).toNat).map Seat.name)⟩,⟨pa.off ha,?_⟩,fun G' of pt=>h G' (wW hE ha of) pt⟩⟩
  exact⟨rfl,by walk_at "o",by walk_at "o",by walk_at "o"⟩
 ·exact h.elim
theorem sK(zF:Zz)(hw:HW):bF (dy zF hw) (mn zF hw) ["self","pen","at"]:=by
 intro ds G Q h;unfold dy at h;split at h
 ·rename_i p pen i;obtain⟨P,d,s,g,⟨⟨g1,g2,g3,g4⟩,ok⟩,h⟩:=h;unfold mn;walk_at "st";exact⟨P,d,s,g,⟨⟨g1,g2,g3,g4⟩,ok⟩,h⟩
 ·exact h.elim
theorem srt_uniq{P:Pp}{a b:List Sk}(ha:Srt P a)(hb:Srt P b):a=b:=sj (iI ha.1 hb.1 fun r=>by
 constructor
 ·intro hr;obtain⟨s,hs',rfl⟩:=mem_map.mp hr;exact mem_map.mpr ⟨s,(hb.2 s).mpr ((ha.2 s).mp hs'),rfl⟩
 ·intro hr;obtain⟨s,hs',rfl⟩:=mem_map.mp hr;exact mem_map.mpr ⟨s,(ha.2 s).mpr ((hb.2 s).mp hs'),rfl⟩)
theorem IZ{seats:List Seat}{i:Int}(h0:0 < i)(h1:i<=seats.length):∃ st:Seat,lW (seats.map Seat.d) (i - 1)=some st.d/\o_ seats i=st.slot:=by
 refine⟨seats[(i - 1).toNat]'(by walk_at "o"),Gw (by walk_at "o") (by walk_at "o"),?_⟩
 unfold o_;rw[if_neg (by walk_at "o"),Mp (by walk_at "o")]
theorem IY(zF:Zz)(hw:HW){seats:List Seat}{i:Int}{Q:j9}{G:Gp}(h0:0<=i)(h1:i<=seats.length)(h:Q (o_ seats i).d G):jn zF hw { nx:=fun _ G'=>Q .non G',rt:=Q } [some (.lst (seats.map Seat.d)),some (.int i)] G:=by
 have hs:=ah;unfold jn
 by_cases e:i=0
 ·subst e;refine Ae (NX:=fun _ _=>False) (fun _ _ z=>z.elim) fun NX hNX=>?_;refine cD true (fun K hK=>?_) (iteT ?_)
  ·walk_at "st"
  ·exact h
 ·refine Ae (NX:=fun σ' G'=>σ'=[some (.lst (seats.map Seat.d)),some (.int i)]/\G'=G) (fun σ' G' z=>?_) fun NX hNX=>?_
  ·obtain⟨rfl,rfl⟩:=z;obtain⟨st,as,ea⟩:=IZ (seats:=seats) (i:=i) (by walk_at "o") h1
   rw[ea]at h;have ed:st.d=.tup [st.slot.d,st.name.d,.str st.sign,.str st.word]:=rfl;rw[ed]at as;clear ea ed;walk_at "st"
  ·have en:cB (.int i) (.int 0)=false:=bB fun z=>e (by injection z)
   refine cD false (fun K hK=>?_) (iteF ?_)
   ·walk_at "st"
   ·exact hNX _ _ ⟨rfl,rfl⟩
theorem uM(zF:Zz)(hw:HW):bF (df zF hw) (jn zF hw) ["seats","at"]:=by
 intro ds G Q h;unfold df at h;split at h
 ·rename_i xs i;obtain⟨seats,⟨rfl,h0,h1⟩,h⟩:=h;exact IY zF hw h0 h1 h
 ·exact h.elim
theorem uS(zF:Zz)(hw:HW):bF (dg zF hw) (ou zF hw) ["self","pen","at","signs","seats"]:=by
 intro ds G Q h;unfold dg at h;split at h
 ·rename_i p pen i w;obtain⟨P,d,s,g,⟨⟨g1,g2,g3,g4⟩,ok⟩,h⟩:=h;have hs:=ah;have ok':P.ok 50:=ok.le (by decide)
  have ls:=ok.ls;have lt:=ok.lt;have lg:=ok.lg;have gi:=ok.gi;unfold ou;rw[af];walk_at "s1";refine⟨P,d,s,g,⟨⟨g1,g2,g3,g4⟩,ok'⟩,fun out G1 hE so=>?_⟩;obtain⟨⟨c1,c2⟩,h⟩:=h out so;have k1:=hE _ _ g1;have k2:=hE _ _ g2;have k3:=hE _ _ g3;have k4:=hE _ _ g4;rw[af];walk_at "s1";have sb:=nz ok' so;have pa:dS zF.C_Paper hw G1 p d s g P:=⟨k1,k2,k3,k4⟩;refine⟨by rw[Ml];exact c2,P,d,s,g,⟨pa,gi⟩,P,d,s,g,pa,P.seats out,⟨rfl,c2⟩,fun a ha=>⟨pen,_,_,rfl,rfl,P,d,s,g,⟨pen,P.num pen,P.time+1,.put (o_ (P.seats out) i) w⟩,⟨pa.off ha,?_⟩,fun G' of pt=>h G' (wW hE ha of) pt⟩⟩
  exact⟨rfl,by walk_at "o",by walk_at "o",by walk_at "o"⟩
 ·exact h.elim
theorem sL(zF:Zz)(hw:HW):bF (dz zF hw) (mq zF hw) AB0:=by
 intro ds G Q h;unfold dz at h;split at h
 ·rename_i p pen i j m;obtain⟨P,d,s,g,⟨⟨g1,g2,g3,g4⟩,ok⟩,h⟩:=h;have hs:=ah;have ok':P.ok 50:=ok.le (by decide)
  have ls:=ok.ls;have lt:=ok.lt;have lg:=ok.lg;have gi:=ok.gi;unfold mq;rw[af];walk_at "s1";refine⟨P,d,s,g,⟨⟨g1,g2,g3,g4⟩,ok'⟩,fun out G1 hE so=>?_⟩;obtain⟨⟨c1,c2,c3,c4,c5,c6⟩,h⟩:=h out so;have k1:=hE _ _ g1;have k2:=hE _ _ g2;have k3:=hE _ _ g3;have k4:=hE _ _ g4;rw[af];walk_at "s1";have sb:=nz ok' so;have pa:dS zF.C_Paper hw G1 p d s g P:=⟨k1,k2,k3,k4⟩;refine⟨⟨by rw[Ml];exact c2,by rw[Ml];exact c4⟩,?_⟩
  rw[af];walk_at "s1";refine⟨by rw[Ml];exact c6,?_⟩
  rw[af];walk_at "s1";refine⟨P.seats out,⟨rfl,by walk_at "o",c4,by walk_at "o"⟩,P,d,s,g,⟨pa,gi⟩,P,d,s,g,pa,P.seats out,⟨rfl,c6⟩,fun a ha=>⟨pen,_,_,rfl,rfl,P,d,s,g,⟨pen,P.num pen,P.time+1,.move (vW (P.seats out) i j) (o_ (P.seats out) m)⟩,⟨pa.off ha,?_⟩,fun G' of pt=>h G' (wW hE ha of) pt⟩⟩
  exact⟨rfl,by walk_at "o",by walk_at "o",by walk_at "o"⟩
 ·exact h.elim
theorem rJ(zF:Zz)(hw:HW):bF (cX zF hw) (kM zF hw) AG0:=by
 intro ds G Q h;unfold cX at h;split at h
 ·rename_i p pen i j w;obtain⟨P,d,s,g,⟨⟨g1,g2,g3,g4⟩,ok⟩,h⟩:=h;have hs:=ah;have ok':P.ok 50:=ok.le (by decide)
  have ls:=ok.ls;have lt:=ok.lt;have lg:=ok.lg;have gi:=ok.gi;unfold kM;rw[af];walk_at "s1";refine⟨P,d,s,g,⟨⟨g1,g2,g3,g4⟩,ok'⟩,fun out G1 hE so=>?_⟩;obtain⟨⟨c1,c2,c3,c4⟩,h⟩:=h out so;have k1:=hE _ _ g1;have k2:=hE _ _ g2;have k3:=hE _ _ g3;have k4:=hE _ _ g4;rw[af];walk_at "s1";have sb:=nz ok' so;have pa:dS zF.C_Paper hw G1 p d s g P:=⟨k1,k2,k3,k4⟩;refine⟨⟨by rw[Ml];exact c2,by rw[Ml];exact c4⟩,P,d,s,g,⟨pa,gi⟩,P,d,s,g,pa,P.seats out,⟨rfl,by walk_at "o",c4,by walk_at "o"⟩,fun a ha=>⟨pen,_,rfl,P,d,s,g,⟨pen,P.num pen,P.time+1,.dress (vW (P.seats out) i j) w⟩,⟨pa.off ha,?_⟩,fun G' of pt=>h G' (wW hE ha of) pt⟩⟩
  exact⟨rfl,by walk_at "o",by walk_at "o",by walk_at "o"⟩
 ·exact h.elim
theorem kF(zF:Zz)(hw:HW):bF (be zF hw) (gJ zF hw) AF0:=by
 intro ds G Q h;unfold be at h;split at h
 ·rename_i p w;obtain⟨P,d,s,g,⟨⟨g1,g2,g3,g4⟩,ok⟩,h⟩:=h;have hs:=ah;have l1:=ok.ls;unfold gJ;walk_at "st";refine⟨by rw[Ml];omega,fun i acc G'=>acc=((P.sks.take i).filter fun s=>cB ((bE P.st s.nm.key).getD .non) (.str w)).map Sk.d/\G'=G,⟨rfl,rfl⟩,fun i acc G' hp=>by rw[hp.2];exact g2,?_,?_⟩
  ·rintro i dd acc G' hd ⟨rfl,rfl⟩
   rw[MA]at hd;cases hq:P.sks[i]? with
   | none=>rw[hq]at hd;cases hd
   | some k=>
    rw[hq]at hd;cases hd;obtain⟨w',hw0⟩:=ok.kn k (Mv hq);have tk:((P.sks.take (i+1)).filter fun s=>cB ((bE P.st s.nm.key).getD .non) (.str w)).map Sk.d=((P.sks.take i).filter fun s=>cB ((bE P.st s.nm.key).getD .non) (.str w)).map Sk.d ++ if cB (.str w') (.str w)=true then [k.d]else []:=by
     rw[MQ,hq,Nu,MY];congr 1;have wk:cB ((bE P.st k.nm.key).getD .non) (.str w)=cB (.str w') (.str w):=by rw[hw0];rfl
     by_cases z:cB (.str w') (.str w)=true
     ·rw[if_pos z,Option.toList_some,List.filter_cons_of_pos (by rw[wk];exact z)];rfl
     ·rw[if_neg z,Option.toList_some,List.filter_cons_of_neg (by rw[wk];exact z)];rfl
    have ed:k.d=.tup [.tup [.str k.pen,.int k.num],.int k.time,k.act.d]:=rfl;rw[ed]at tk ⊢;refine⟨⟨by simp[MK,List.replicate],rfl⟩,?_⟩
    have hk:bE P.st [.inr k.pen,.inl k.num]=some (.str w'):=hw0;clear ok;generalize ((P.sks.take i).filter fun s=>cB ((bE P.st s.nm.key).getD .non) (.str w)).map Sk.d=A0 at *
    walk_at "st"
    by_cases z:cB (.str w') (.str w)=true
    ·rw[if_pos z,if_pos z]
    ·rw[if_neg z,if_neg z,No]
  ·rintro acc G' ⟨rfl,rfl⟩
   rw[Ml,MM];exact h
 ·exact h.elim
def J1:D->D
 | .tup (d::_)=>d
 | d=>d
theorem nY(zF:Zz)(hw:HW):bF (aQ zF hw) (i0 zF hw) Ad0:=by
 intro ds G Q h;unfold aQ at h;split at h
 ·rename_i p;obtain⟨P,d,s,g,⟨⟨g1,g2,g3,g4⟩,ok⟩,h⟩:=h;have hs:=ah;have l1:=ok.ls;have l2:(P.inS (Mh "waits")).length<=P.sks.length:=M3 _ _;unfold i0;walk_at "st";refine⟨P,d,s,g,⟨⟨g1,g2,g3,g4⟩,ok⟩,?_⟩;refine gc J1 (by rw[Ml];omega) (fun e he K hK=>?_) ?_
  ·obtain⟨k,_,rfl⟩:=mem_map.mp he;have ed:k.d=.tup [.tup [.str k.pen,.int k.num],.int k.time,k.act.d]:=rfl;rw[ed]at hK ⊢;refine⟨⟨by simp[MK,List.replicate],rfl⟩,?_⟩
   exact hK _ rfl
  ·have e:((P.inS (Mh "waits")).map Sk.d).map J1=P.wai.map Nm.d:=by unfold Pp.wai;rw[MU,MU];rfl
   rw[e];exact h
 ·exact h.elim
theorem lO(zF:Zz)(hw:HW):bF (bq zF hw) (hU zF hw) Ah0:=by
 intro ds G Q h;unfold bq at h;split at h
 ·rename_i p a b;obtain⟨P,d,s,g,⟨⟨g1,g2,g3,g4⟩,hk,l2⟩,h⟩:=h;have hs:=ah;unfold hU;rw[af];walk_at "s1";refine⟨P,d,s,g,⟨⟨g1,g2,g3,g4⟩,hk⟩,by walk_at "o",h _ (fun x o hx hG=>?_) ⟨?_,?_,au,?_⟩⟩
  ·rw[ai (fun z=>hx (by rw[z];simp))]
   exact hG
  ·rw[ai (fun z=>by rw[z,g3]at g1;cases g1)]
   exact g1
  ·rw[ai (fun z=>by rw[z,g3]at g2;cases g2)]
   exact g2
  ·rw[ai (fun z=>by rw[z,g3]at g4;cases g4)]
   exact g4
 ·exact h.elim
theorem pO(zF:Zz)(hw:HW):bF (cg zF hw) (jM zF hw) AK0:=by
 intro ds G Q h;unfold cg at h;split at h
 ·rename_i xs k;obtain⟨ns,⟨rfl,h0⟩,h⟩:=h;unfold jM;rw[af];refine cD (decide (k < ns.length)) (fun K hK=>?_) (ve (fun e=>?_) fun e=>?_)
  ·walk_at "st";rw[Ml];exact hK
  ·rw[decide_eq_true_eq]at e;walk_at "st";rw[IX h0 e];exact h _
  ·walk_at "st"
   first|done|exact h _
 ·exact h.elim
theorem Fd(a b:Str):(a ++ b).length=a.length+b.length:=Array.size_append
theorem sG(zF:Zz)(hw:HW):bF (cT zF hw) (mh zF hw) AJ0:=by
 intro ds G Q h;unfold cT at h;split at h
 ·rename_i c p;unfold mh;walk_at "st";have hn0:0<=(c+7919*p+1)*48271 % 2147483647:=Int.emod_nonneg _ (by decide)
  have hn1:(c+7919*p+1)*48271 % 2147483647 < 2147483647:=Int.emod_lt_of_pos _ (by decide)
  refine⟨.inl ⟨by decide,by decide⟩,.inr ⟨by decide,by decide⟩,by decide,⟨by decide,by decide⟩,.inl ⟨by walk_at "o",by walk_at "o"⟩,by decide,h _ (qX (by decide))⟩
 ·exact h.elim
theorem uQ(zF:Zz)(hw:HW):bF (d4 zF hw) (oq zF hw) Ao0:=by
 intro ds G Q h;unfold d4 at h;split at h
 ·rename_i c;have hs:=ah;unfold oq;rw[af];walk_at "s1";refine⟨by decide,?_⟩
  have s0:1<=1+c % 8/\1+c % 8<=8:=by walk_at "o"
  generalize 1+c % 8=sz at *
  rw[af];walk_at "s1";refine⟨⟨by decide,by decide⟩,by walk_at "o",?_⟩
  have a0:=Int.emod_nonneg (c / 8) (b:=sz) (by walk_at "o")
  have a1:=Int.emod_lt_of_pos (c / 8) (b:=sz) (by walk_at "o")
  generalize c / 8 % sz=at_ at *
  rw[af];walk_at "s1";refine⟨M0 _,fun p hp=>?_⟩;rw[af];walk_at "s1";refine⟨⟨by decide,by decide⟩,by decide,⟨by walk_at "o",by walk_at "o"⟩,fun i σ' G'=>∃ (pens:List Str) (u v:Option D),σ'=[some (.int c),some (.int sz),some (.int at_),some (.ref p),u,v]/\pens.length=i/\G'=gset G p (.lst (pens.map D.str)),⟨[],none,none,rfl,rfl,rfl⟩,?_,?_⟩
  ·rintro i dd σ' G' hd ⟨pens,u,v,rfl,hl,rfl⟩
   obtain⟨hi,rfl⟩:=sT hd;have l26:(Mh "abcdefghijklmnopqrstuvwxyz").length=26:=by decide +kernel
   have b26:=qX (a:=c / 64+(0+(i:Int))*(1+c / 5 % 8)) (b:=26) (by decide)
   have at1:=Df (m:=Mh "abcdefghijklmnopqrstuvwxyz") b26.1 (by rw[l26];exact b26.2)
   have lm:(Mh "m").length=1:=by decide +kernel
   walk_at "s1";rw[af];walk_at "s1";have lc:(BG (Mh "abcdefghijklmnopqrstuvwxyz") ((c / 64+(0+(i:Int))*(1+c / 5 % 8)) % 26)).length=1:=rfl;generalize BG (Mh "abcdefghijklmnopqrstuvwxyz") ((c / 64+(0+(i:Int))*(1+c / 5 % 8)) % 26)=w at *
   refine⟨⟨by decide,by decide⟩,⟨by decide,by decide⟩,by decide,.inl ⟨by (omega),by (omega)⟩,by decide,by (omega),⟨by (omega),by (omega),by (omega)⟩,by rw[lc,kH,lm];omega,⟨by (omega),by (omega),by (omega)⟩,by rw[Fd,lc,kH,kH,lm];omega,by rw[Ml];omega,?_⟩
   exact⟨pens ++ [_],_,_,⟨rfl,rfl⟩,by rw[Na,hl];rfl,by rw[MY];rfl⟩
  ·rintro σ' G' ⟨pens,u,v,rfl,hl,rfl⟩
   rw[iL]at hl;walk_at "s1";rw[v4 hp];exact h _ (by walk_at "o") (by walk_at "o")
 ·exact h.elim
theorem Hj(x:Int):∃ w:Str,lW [D.str (Mh ""),D.str (Mh "bold"),D.str (Mh "bolder"),D.str (Mh "x")] (x % 4)=some (.str w):=by
 have h:x % 4=0\/x % 4=1\/x % 4=2\/x % 4=3:=by walk_at "o"
 rcases h with h|h|h|h<;>rw[h]<;>exact⟨_,rfl⟩
theorem EB(l:List Nat)(a b:Option Int):(⟨(m9 l a b).toArray⟩:Str).length<=l.length:=by
 show (m9 l a b).toArray.size<=l.length
 rw[Mt];exact k9 l a b
theorem yA(zF:Zz)(hw:HW):bF (fG zF hw) (sR zF hw) Am0:=by
 intro ds G Q h;unfold fG at h;split at h
 ·rename_i p pen z;obtain⟨P,d,s,g,⟨pa,ok,z0⟩,h⟩:=h;have hs:=ah;have ok':P.ok 50:=ok.le (by decide)
  have g0:=pa.1;unfold sR;rw[af];walk_at "s1";refine⟨P,d,s,g,⟨pa,ok'⟩,fun out G1 hE so=>?_⟩;have pa1:=pa.ext hE;have g1:=pa1.1;have sb:=nz ok' so;have h':∀ k G',P.next pen k->k.wd<=60->rl [p,d,s,g] G1 G'->dS zF.C_Paper hw G' p d s g (P.add k)->Q .non G':=fun k G' nx wd of pt=>h k G' nx wd (fun x u hx hG=>of x u hx (hE x u hG)) pt;clear h pa g0;rw[Ml];generalize hM:((P.seats out).length:Int)=M at *
  rw[af];walk_at "s1";refine⟨by decide,?_⟩
  rw[af];walk_at "s1";refine⟨⟨by decide,by decide⟩,by walk_at "o",?_⟩
  have a0:=Int.emod_nonneg (z / 8) (b:=M+1) (by walk_at "o")
  have a1:=Int.emod_lt_of_pos (z / 8) (b:=M+1) (by walk_at "o")
  generalize z / 8 % (M+1)=i at *
  rw[af];refine cD (decide (z % 8 < 3) || cB (.int i) (.int M)) (Hm _ _ (fun K hK=>?_) fun _ K hK=>?_) (ve (fun e=>?_) fun e=>?_)
  ·walk_at "st"
  ·walk_at "st"
  ·rw[af];walk_at "s1";have l7:(Mh "ab C\n~x").length=7:=by decide +kernel
   refine⟨⟨by decide,by decide⟩,by decide,⟨by decide,by decide⟩,by decide,⟨by decide,by decide⟩,by decide,by rw[l7];omega,P,d,s,g,⟨pa1,ok⟩,fun o2 so2=>?_⟩
   rw[srt_uniq so2 so];refine⟨by walk_at "o",fun G' of pt=>h' _ G' ⟨rfl,rfl,rfl⟩ ?_ of pt⟩
   show (⟨(m9 (Mh "ab C\n~x").cps.toList (some (z / 11 % 4)) (some (z / 11 % 4+1+z / 307 % 4))).toArray⟩:Str).length<=60
   exact le_trans (EB _ _ _) (by rw[Array.length_toList];exact le_trans (Pd l7) (by decide))
  ·have lt:i < M:=by
    rcases Int.lt_or_le i M with q|q
    ·exact q
    ·have:i=M:=by walk_at "o"
     rw[this,aY,Bool.or_true]at e;cases e
   clear e;obtain⟨w,ew⟩:=Hj (z / 31);simp only[dL];rw[af];walk_at "s1";have mp:0 < (if M - i < 5 then M - i else 5)/\(if M - i < 5 then M - i else 5)<=5/\(if M - i < 5 then M - i else 5)<=M - i:=by split<;>omega
   refine⟨⟨by decide,by decide⟩,mp.1,?_⟩
   generalize (if M - i < 5 then M - i else 5)=m at mp ⊢
   have y1:=Int.emod_nonneg (z / 1009) (b:=m) (by walk_at "o")
   have y2:=Int.emod_lt_of_pos (z / 1009) (b:=m) (by walk_at "o")
   generalize z / 1009 % m=y at y1 y2 ⊢;have jb:i < i+1+y/\i+1+y<=M/\i+1+y - i<=5:=by walk_at "o"
   generalize i+1+y=j at jb ⊢;clear mp y1 y2;have lm:(vW (P.seats out) i j).length<=60:=by
    unfold vW;rw[Ml,M6];omega
   have q1:=Int.emod_nonneg (z / 53) (b:=M+1) (by walk_at "o")
   have q2:=Int.emod_lt_of_pos (z / 53) (b:=M+1) (by walk_at "o")
   refine ve (fun _=>⟨P,d,s,g,⟨pa1,ok⟩,fun o2 so2=>?_⟩) fun _=>ve (fun _=>⟨by walk_at "o",⟨by decide,by decide⟩,by decide,?_⟩) fun _=>ve (fun _=>⟨P,d,s,g,⟨pa1,ok⟩,fun o2 so2=>?_⟩) fun _=>⟨⟨by decide,by decide⟩,by walk_at "o",P,d,s,g,⟨pa1,ok⟩,fun o2 so2=>?_⟩
   ·rw[srt_uniq so2 so];exact⟨by walk_at "o",fun G' of pt=>h' _ G' ⟨rfl,rfl,rfl⟩ (by exact lm) of pt⟩
   ·refine⟨P,d,s,g,⟨pa1,ok⟩,fun o2 so2=>?_⟩;rw[srt_uniq so2 so];exact⟨by walk_at "o",fun G' of pt=>h' _ G' ⟨rfl,rfl,rfl⟩ (by exact lm) of pt⟩
   ·rw[srt_uniq so2 so];exact⟨by walk_at "o",fun G' of pt=>h' _ G' ⟨rfl,rfl,rfl⟩ (by show (Mh "\n").length<=60;decide +kernel) of pt⟩
   ·rw[srt_uniq so2 so];exact⟨by walk_at "o",fun G' of pt=>h' _ G' ⟨rfl,rfl,rfl⟩ (by exact lm) of pt⟩
 ·exact h.elim
theorem FY{P:Pp}{n:Nat}(ok:P.ok n)(pen:Str):1<=P.num pen:=by
 unfold Pp.num;split
 ·rename_i m e;obtain⟨m',e',h⟩:=ok.gi _ _ e;cases e';omega
 ·exact Int.le_refl _
theorem D4{P:Pp}{pen:Str}{m:Int}(h:bE P.gr (.inr pen)=some (.int m)):P.num pen=m+1:=by
 unfold Pp.num;rw[h]
theorem Ie{P:Pp}{n:Nat}{pen:Str}{k:Sk}(ok:P.ok n)(nx:P.next pen k)(wd:k.wd<=60):(P.add k).ok (n+1):=by
 obtain⟨rfl,e2,e3⟩:=nx;have np:=FY ok k.pen;refine⟨ok.lo,?_,?_,?_,fun s hs=>?_,?_,fun s hs=>?_,fun q v hv=>?_,fun s hs=>?_⟩
 ·show (P.sks ++ [k]).length<=n+1;rw[Na];exact Nat.succ_le_succ ok.ls
 ·exact le_trans (eV _ _ _) (Nat.succ_le_succ ok.lt)
 ·exact le_trans (eV _ _ _) (Nat.succ_le_succ ok.lg)
 ·rcases QY.mp hs with h|h
  ·obtain⟨h1,h2,h3⟩:=ok.sk s h;exact⟨h1,h2,by show s.time<=k.time;omega⟩
  ·rw[Qg.mp h];exact⟨by walk_at "o",wd,Int.le_refl _⟩
 ·show ((P.sks ++ [k]).map Sk.rw).Pairwise lq;rw[MY,List.pairwise_append];refine⟨ok.ap,List.pairwise_singleton _ _,fun a ha b hb=>?_⟩;obtain⟨s,hs,rfl⟩:=mem_map.mp ha;rw[MF,Pi,Qg]at hb;subst hb
  rintro⟨z1,z2⟩
  obtain⟨m,hm,le⟩:=ok.gm s hs;have z1':s.pen=k.pen:=z1;have z2':s.num=k.num:=z2;rw[z1']at hm;have:=D4 hm;omega
 ·show ∃ w:Str,bE (aW P.st k.nm.key (.str (Mh "waits"))) s.nm.key=some (.str w);rw[d9];split
  ·exact⟨_,rfl⟩
  ·rename_i ne;rcases QY.mp hs with h|h
   ·exact ok.kn s h
   ·exact absurd (by rw[Qg.mp h]) ne
 ·have hv':bE (aW P.gr (.inr k.pen) (.int k.num)) q=some v:=hv;rw[d9]at hv';split at hv'
  ·cases hv';exact⟨_,rfl,by walk_at "o"⟩
  ·exact ok.gi _ _ hv'
 ·show ∃ m:Int,bE (aW P.gr (.inr k.pen) (.int k.num)) (.inr s.pen)=some (.int m)/\s.num<=m;rw[d9];split
  ·rename_i z;refine⟨_,rfl,?_⟩;rcases QY.mp hs with h|h
   ·obtain⟨m,hm,le⟩:=ok.gm s h;rw[z]at hm;have:=D4 hm;omega
   ·rw[Qg.mp h];exact Int.le_refl _
  ·rename_i ne;rcases QY.mp hs with h|h
   ·exact ok.gm s h
   ·exact absurd (by rw[Qg.mp h]) ne
theorem pX(l:List Nm):pl 8 (.lst (l.map Nm.d)):=fun d hd=>by
 obtain⟨n,_,rfl⟩:=mem_map.mp hd;intro e he;simp only[MP,MN,or_false]at he;rcases he with rfl|rfl<;>exact trivial
theorem Be(P:Pp):P.wai.length<=P.sks.length:=by
 unfold Pp.wai;rw[Ml];exact M3 _ _
theorem Ey{P:Pp}{k:List aA}{w v:Str}(h:bE P.st k=some (.str w)):KO P ⟨P.old,P.sks,aW P.st k (.str v),P.gr,P.time⟩:=by
 refine⟨rfl,rfl,rfl,rfl,fun n ok=>⟨ok.lo,ok.ls,?_,ok.lg,ok.sk,ok.ap,fun s hs=>?_,ok.gi,ok.gm⟩⟩
 ·show (aW P.st k (.str v)).length<=n;rw[sX,h];exact ok.lt
 ·show ∃ w:Str,bE (aW P.st k (.str v)) s.nm.key=some (.str w);rw[d9];split
  ·exact⟨v,rfl⟩
  ·exact ok.kn s hs
theorem wq{P:Pp}{n:Nat}(ok:P.ok n){m:Nm}(h:m∈P.wai):bE P.st m.key=some (.str (Mh "waits")):=by
 obtain⟨k,hk,rfl⟩:=mem_map.mp h;obtain⟨h1,h2⟩:=mem_filter.mp hk;obtain⟨w,hw0⟩:=ok.kn k h1;rw[hw0]at h2 ⊢;exact congrArg some (jy.mp h2)
theorem zk{P:Pp}{k:List aA}{w v:Str}(h:bE P.st k=some (.str w))(hv:v=Mh "waits"\/v=Mh "stands"\/v=Mh "wiped"):P.goes ⟨P.old,P.sks,aW P.st k (.str v),P.gr,P.time⟩:=by
 have dc:=Ey (v:=v) h;refine⟨rfl,fun n ok=>(dc.2.2.2.2 n ok).le (Nat.le_succ _),fun th s hs=>?_⟩;show bE (aW P.st k (.str v)) s.nm.key=_\/bE (aW P.st k (.str v)) s.nm.key=_\/bE (aW P.st k (.str v)) s.nm.key=_
 rw[d9];split
 ·rcases hv with rfl|rfl|rfl
  ·exact .inl rfl
  ·exact .inr (.inl rfl)
  ·exact .inr (.inr rfl)
 ·exact th s hs
theorem Eh{P:Pp}{pen:Str}{k:Sk}(nx:P.next pen k)(wd:k.wd<=60):P.goes (P.add k):=by
 refine⟨rfl,fun n ok=>Ie ok nx wd,fun th s hs=>?_⟩;show bE (aW P.st k.nm.key _) s.nm.key=_\/bE (aW P.st k.nm.key _) s.nm.key=_\/bE (aW P.st k.nm.key _) s.nm.key=_
 rw[d9];split
 ·exact .inl rfl
 ·rename_i ne;rcases QY.mp hs with q|q
  ·exact th s q
  ·exact absurd (by rw[Qg.mp q]) ne
theorem uO(zF:Zz)(hw:HW):bF (dZ zF hw) (oo zF hw) Al0:=by
 intro ds G Q h;unfold dZ at h;split at h
 ·rename_i p ps c;obtain⟨P,d,s,g,pens,⟨pa,ok,rfl,l0,l4⟩,h⟩:=h;have hs:=ah;have g1:=pa.1;have ok':P.ok 50:=ok.le (by decide)
  have wl:=Be P;have ls:=ok.ls;have lt:=ok.lt;have q2:=pX P.wai;have due:∀ pen k G',P.next pen k->k.wd<=60->rl [p,d,s,g] G G'->dS zF.C_Paper hw G' p d s g (P.add k)->Q .non G':=fun pen k G' nx wd of pt=>h G' _ (Eh nx wd) of pt;have lp:(pens.map D.str).length=pens.length:=Ml _;obtain⟨pen,at1⟩:∃ pen:Str,lW (pens.map D.str) (c / 6 % ((pens.map D.str).length:Int))=some (.str pen):=by
   have m1:=Int.emod_nonneg (c / 6) (b:=((pens.map D.str).length:Int)) (by walk_at "o")
   have m2:=Int.emod_lt_of_pos (c / 6) (b:=((pens.map D.str).length:Int)) (by walk_at "o")
   have:=o8 (ds:=pens.map D.str) m1 (by walk_at "o")
   rw[OO]at this;exact⟨_,this⟩
  rw[lp]at at1;unfold oo;rw[af];walk_at "s1"
  rintro x ⟨x0,x1⟩
  by_cases z:P.wai=[]
  ·have ez:cB (.lst (P.wai.map Nm.d)) (.lst [])=true:=by rw[z];exact aY _
   rw[af];walk_at "s1";refine⟨P,d,s,g,⟨pa,ok'⟩,by decide,?_⟩
   simp only[ez,Bool.not_true,Bool.false_eq_true,if_false];have last:=due pen;exact ve (fun _=>⟨M0 _,q2,(fun _ hd=>by cases hd),⟨by decide,by decide⟩,by walk_at "o",P,d,s,g,⟨pa,ok⟩,due pen⟩) fun _=>⟨⟨by decide,by decide⟩,by walk_at "o",P,d,s,g,⟨pa,ok⟩,due pen⟩
  ·have lz:0 < P.wai.length:=List.length_pos_iff.mpr z;have ez:cB (.lst (P.wai.map Nm.d)) (.lst [])=false:=bB fun e=>z (List.map_eq_nil_iff.mp (by injection e))
   have lw:(P.wai.map Nm.d).length=P.wai.length:=Ml _;have m1:=Int.emod_nonneg (x / 2) (b:=((P.wai.map Nm.d).length:Int)) (by walk_at "o")
   have m2:=Int.emod_lt_of_pos (x / 2) (b:=((P.wai.map Nm.d).length:Int)) (by walk_at "o")
   have at2:=o8 (ds:=P.wai.map Nm.d) m1 (by walk_at "o")
   rw[OO]at at2;have ml:(x / 2 % ((P.wai.map Nm.d).length:Int)).toNat < P.wai.length:=by walk_at "o"
   have hk:=wq ok (Ou ml);generalize P.wai[(x / 2 % ((P.wai.map Nm.d).length:Int)).toNat]'ml=n at at2 hk;obtain⟨a,b⟩:=n;have ed:Nm.d (a,b)=.tup [.str a,.int b]:=rfl;rw[ed,lw]at at2;clear ed m1 m2 ml;have hk':bE P.st [.inr a,.inl b]=some (.str (Mh "waits")):=hk;clear hk;rw[af];walk_at "s1";refine⟨P,d,s,g,⟨pa,ok'⟩,by decide,?_⟩
   simp only[ez,Bool.not_false,if_true];refine ve (fun _=>⟨M0 _,q2,(fun _ hd=>by cases hd),?_⟩) fun _=>⟨⟨by decide,by decide⟩,by walk_at "o",P,d,s,g,⟨pa,ok⟩,due pen⟩
   rw[af];walk_at "s1";exact⟨⟨by decide,by decide⟩,by walk_at "o",by decide,ve (fun _=>⟨P,d,s,g,⟨pa,hk',by walk_at "o"⟩,fun G' of pt=>h G' _ (zk hk' (.inr (.inl rfl))) of pt⟩) fun _=>⟨P,d,s,g,⟨pa,hk',by walk_at "o"⟩,fun G' of pt=>h G' _ (zk hk' (.inr (.inr rfl))) of pt⟩⟩
 ·exact h.elim
theorem Jr(s:Sk)(n:Nat):pl (n+5) s.d:=by
 have sl:∀ ns:List Sl,pl (n+3) (.tup (ns.map Sl.d)):=fun ns=>Dh ns (n+1);have st:∀ (m:Nat) (x:Str),pl m (.str x):=fun m x=>by cases m<;>trivial
 have it:∀ (m:Nat) (x:Int),pl m (.int x):=fun m x=>by cases m<;>trivial
 obtain⟨pen,num,time,act⟩:=s;intro d hd;simp only[MP,MN,or_false]at hd;rcases hd with rfl|rfl|rfl
 ·intro d hd;simp only[MP,MN,or_false]at hd;rcases hd with rfl|rfl
  ·exact st _ _
  ·exact it _ _
 ·exact it _ _
 ·cases act with
  | put a x=>
   intro d hd;simp only[MP,MN,or_false]at hd;rcases hd with rfl|rfl|rfl
   ·exact st _ _
   ·exact sh a (n+2)
   ·exact st _ _
  | strike ns=>
   intro d hd;simp only[MP,MN,or_false]at hd;rcases hd with rfl|rfl
   ·exact st _ _
   ·exact sl ns
  | dress ns w=>
   intro d hd;simp only[MP,MN,or_false]at hd;rcases hd with rfl|rfl|rfl
   ·exact st _ _
   ·exact sl ns
   ·exact st _ _
  | move ns a=>
   intro d hd;simp only[MP,MN,or_false]at hd;rcases hd with rfl|rfl|rfl
   ·exact st _ _
   ·exact sl ns
   ·exact sh a (n+2)
theorem Hw(ss:List Sk)(n:Nat):∀ d∈ss.map Sk.d,pl (n+5) d:=fun d hd=>by
 obtain⟨s,_,rfl⟩:=mem_map.mp hd;exact Jr s n
theorem ie.none{G G':Gp}{a:Mg}(e:ie G G')(h:G' a=none):G a=none:=by
 cases q:G a with
 | none=>rfl
 | some o=>rw[e _ _ q]at h;cases h
theorem Iq{a b:Nm}(h:a.key=b.key):a=b:=by
 obtain⟨a1,a2⟩:=a;obtain⟨b1,b2⟩:=b;simp only[Nm.key,List.cons.injEq,Sum.inr.injEq,Sum.inl.injEq,and_true]at h;rw[h.1,h.2]
theorem tZ(v:Str)(k:Nm):∀ (ns:List Nm) (st:List (List aA×D)),(k∈ns->bE (ns.foldl (fun st n=>aW st n.key (.str v)) st) k.key=some (.str v))/\(k∉ns->bE (ns.foldl (fun st n=>aW st n.key (.str v)) st) k.key=bE st k.key)
 | [],st=>⟨(fun h=>by cases h),fun _=>rfl⟩
 | n::ns,st=>by
  obtain⟨h1,h2⟩:=tZ v k ns (aW st n.key (.str v));refine⟨fun h=>?_,fun h=>?_⟩
  ·by_cases hn:k∈ns
   ·exact h1 hn
   ·have e:k=n:=(MP.mp h).elim id fun z=>absurd z hn;refine (h2 hn).trans ?_;rw[d9,e,if_pos rfl]
  ·rw[MP,not_or]at h;refine (h2 h.2).trans ?_;rw[d9,if_neg fun z=>h.1 (Iq z)]
theorem Ez{P:Pp}{v:Str}{ns:List Nm}{n:Nm}(h:n∈ns):bE (P.dec v ns).st n.key=some (.str v):=(tZ v n ns P.st).1 h
theorem xu{P:Pp}{v:Str}{ns:List Nm}{n:Nm}(h:n∉ns):bE (P.dec v ns).st n.key=bE P.st n.key:=(tZ v n ns P.st).2 h
theorem xv(v:Str):∀ (ns:List Nm) (P:Pp),(∀ n∈ns,∃ w:Str,bE P.st n.key=some (.str w))->KO P (P.dec v ns)
 | [],P,_=>⟨rfl,rfl,rfl,rfl,fun _ ok=>ok⟩
 | n::ns,P,h=>by
  obtain⟨w,hw0⟩:=h n Mz;have d1:=Ey (v:=v) hw0;have d2:=xv v ns ⟨P.old,P.sks,aW P.st n.key (.str v),P.gr,P.time⟩ fun m hm=>by
   show ∃ w:Str,bE (aW P.st n.key (.str v)) m.key=some (.str w)
   rw[d9];split
   ·exact⟨v,rfl⟩
   ·exact h m (My _ hm)
  exact⟨rfl,rfl,rfl,rfl,fun n ok=>d2.2.2.2.2 n (d1.2.2.2.2 n ok)⟩
theorem xp{P:Pp}{b:Sk->Bool}{n:Nm}(h:n∈P.due b):n∈P.wai:=by
 obtain⟨k,hk,rfl⟩:=mem_map.mp h;exact Oj (mem_filter.mp hk).1
theorem BB{P:Pp}(ok:P.ok 50)(b:Sk->Bool)(v:Str):KO P (P.dec v (P.due b)):=xv v _ P fun n hn=>⟨_,wq ok (xp hn)⟩
theorem Cg{P:Pp}{n:Nat}(ok:P.ok n):(P.sks.map Sk.nm).Nodup:=by
 have h:=ok.ap;rw[OC]at h;rw[List.Nodup,OC];refine h.imp fun {a b} hab z=>hab ?_;have z':(a.pen,a.num)=(b.pen,b.num):=z;injection z' with z1 z2
 exact⟨z1,z2⟩
theorem v5{P:Pp}{n:Nat}(ok:P.ok n)(b:Sk->Bool):(P.due b).Nodup:=by
 unfold Pp.due Pp.inS;exact (Cg ok).sublist ((List.filter_sublist.trans List.filter_sublist).map _)
theorem xq(P:Pp)(b:Sk->Bool):(P.due b).length<=P.sks.length:=by
 unfold Pp.due Pp.inS;rw[Ml];exact le_trans (M3 _ _) (M3 _ _)
theorem sF(zF:Zz)(hw:HW)(f:Mg)(fo:Obj)(c:Mg)(cds:List D):∀ ds G Q,bX zF hw f fo c cds ds G Q->iK zF hw { nx:=fun _ G'=>Q .non G',rt:=Q } (ds.map some ++ cds.map some) G:=by
 intro ds G Q h;unfold bX at h;split at h
 ·rename_i r;obtain⟨_,k,turn,many,p,P,d,s,g,⟨rfl,rfl⟩,⟨pa,ok,wl⟩,h⟩:=h;have hs:=ah;have g1:=pa.1;have ed:k.d=.tup [.tup [.str k.pen,.int k.num],.int k.time,k.act.d]:=rfl;rw[ed];unfold iK;walk_at "st";refine⟨P,d,s,g,⟨pa,ok⟩,?_⟩;rw[Ml,wl,aY];exact iteT ⟨by decide,h⟩
 ·exact h.elim
theorem Am(zF:Zz)(hw:HW)(cf:Mg)(spc:br):∀ ds G Q,fC zF hw cf spc ds G Q->vQ zF hw cf spc { nx:=fun _ G'=>Q .non G',rt:=Q } (cC Ar0 ds) G:=by
 intro ds G Q h;unfold fC at h;split at h
 ·rename_i p w;obtain⟨P,d,s,g,b,⟨pa,ok,wh⟩,h⟩:=h;have hs:=ah;have ls:=ok.ls;have g1:=pa.1;have l2:(P.inS (Mh "waits")).length<=P.sks.length:=M3 _ _;unfold vQ;walk_at "st";refine⟨P,d,s,g,⟨pa,ok⟩,?_⟩;refine⟨by rw[Ml];omega,fun i acc G'=>acc=(((P.inS (Mh "waits")).take i).filter b).map (fun k=>k.nm.d)/\G'=G,⟨rfl,rfl⟩,?_,?_⟩
  ·rintro i dd acc G' hd ⟨rfl,rfl⟩
   rw[MA]at hd;cases hq:(P.inS (Mh "waits"))[i]? with
   | none=>rw[hq]at hd;cases hd
   | some k=>
    rw[hq]at hd;cases hd;have tk:(((P.inS (Mh "waits")).take (i+1)).filter b).map (fun k=>k.nm.d)=(((P.inS (Mh "waits")).take i).filter b).map (fun k=>k.nm.d) ++ if b k=true then [k.nm.d]else []:=by
     rw[MQ,hq,Nu,MY];congr 1
     by_cases z:b k=true
     ·rw[if_pos z,Option.toList_some,List.filter_cons_of_pos z];rfl
     ·rw[if_neg z,Option.toList_some,List.filter_cons_of_neg z];rfl
    have ed:k.d=.tup [.tup [.str k.pen,.int k.num],.int k.time,k.act.d]:=rfl;generalize (((P.inS (Mh "waits")).take i).filter b).map (fun k=>k.nm.d)=A0 at *
    have hk:k∈P.sks:=(mem_filter.mp (Mv hq)).1;refine⟨⟨by simp[MK,List.replicate],rfl⟩,?_⟩
    have nd:k.nm.d=.tup [.str k.pen,.int k.num]:=rfl;rcases wh with ⟨rfl,rfl⟩|⟨rfl,fx,hb⟩
    ·dsimp only at tk;rw[if_pos rfl,nd]at tk;rw[ed];walk_at "st"
    ·have hk':=hb k hk;rw[ed]at hk' ⊢;walk_at "st";refine hk' _ ?_;dsimp only;cases b k<;>exact⟨trivial,by simp⟩
  ·rintro acc G' ⟨rfl,rfl⟩
   rw[Ml,MM];have e:((P.inS (Mh "waits")).filter b).map (fun k=>k.nm.d)=(P.due b).map Nm.d:=by unfold Pp.due;rw[MU];rfl
   rw[e];exact h
 ·exact h.elim
theorem rF(zF:Zz)(hw:HW):bF (cy zF hw) (kJ zF hw) AM0:=by
 intro ds G Q h;unfold cy at h;split at h
 ·rename_i p;obtain⟨P,d,s,g,⟨pa,ok⟩,h⟩:=h;have hs:=ah;have ls:=ok.ls;have g1:=pa.1;unfold kJ;walk_at "st";refine⟨P,d,s,g,⟨pa,ls⟩,?_⟩;refine⟨by rw[Ml];omega,fun i acc G'=>acc=(P.sks.take i).map (ig P)/\G'=G,⟨rfl,rfl⟩,?_,?_⟩
  ·rintro i dd acc G' hd ⟨rfl,rfl⟩
   rw[MA]at hd;cases hq:P.sks[i]? with
   | none=>rw[hq]at hd;cases hd
   | some k=>
    rw[hq]at hd;cases hd;obtain⟨w',hw0⟩:=ok.kn k (Mv hq);have tk:(P.sks.take (i+1)).map (ig P)=(P.sks.take i).map (ig P) ++ [.tup [.tup [.str k.pen,.int k.num],.str w']]:=by
     rw[MQ,hq,MY,Option.toList_some];show _ ++ [D.tup [k.nm.d,(bE P.st k.nm.key).getD .non]]=_
     rw[hw0];rfl
    have ed:k.d=.tup [.tup [.str k.pen,.int k.num],.int k.time,k.act.d]:=rfl;rw[ed];have hk:bE P.st [.inr k.pen,.inl k.num]=some (.str w'):=hw0;generalize (P.sks.take i).map (ig P)=A0 at *
    refine⟨⟨by simp[MK,List.replicate],rfl⟩,?_⟩
    walk_at "st";exact⟨P,d,s,g,w',⟨pa,hk⟩,by walk_at "o",rfl⟩
  ·rintro acc G' ⟨rfl,rfl⟩
   rw[Ml,MM];exact h
 ·exact h.elim
theorem Ex(P:Pp)(v:Str)(ns:List Nm)(n:Nm):P.dec v (ns ++ [n])=⟨(P.dec v ns).old,(P.dec v ns).sks,aW (P.dec v ns).st n.key (.str v),(P.dec v ns).gr,(P.dec v ns).time⟩:=by
 unfold Pp.dec;rw[List.foldl_append];rfl
theorem wp{cf:Mg}{spc:br}{G:Gp}{P:Pp}{w:D}{b:Sk->Bool}(h:Wh cf spc G P w b):Wh cf spc G P (val w) b:=by
 rcases h with ⟨rfl,e⟩|⟨rfl,e⟩
 ·exact .inl ⟨rfl,e⟩
 ·exact .inr ⟨rfl,e⟩
theorem Bs{C q p d s g:Mg}{hw0:HW}{G:Gp}{P:Pp}(pa:dS C hw0 G p d s g P)(hq:G q=none):q∉[p,d,s,g]:=fun z=>by
 simp only[MP,MN,or_false]at z;obtain⟨h1,h2,h3,h4⟩:=pa;rcases z with rfl|rfl|rfl|rfl
 ·rw[h1]at hq;cases hq
 ·rw[h2]at hq;cases hq
 ·rw[h3]at hq;cases hq
 ·rw[h4]at hq;cases hq
theorem zw{C q p d s g:Mg}{hw0:HW}{G G':Gp}{P P':Pp}{o:GO}(pa:dS C hw0 G p d s g P)(hq:G q=none)(of:rl [p,d,s,g] (gset G q o) G')(pt:dS C hw0 G' p d s g P'):G' q=some o/\rl [p,d,s,g] G (eX G' q)/\dS C hw0 (eX G' q) p d s g P':=by
 have nm:=Bs pa hq;have ne:∀ x∈[p,d,s,g],x≠q:=fun x hx z=>nm (z ▸ hx);have del:∀ x,x≠q->eX G' q x=G' x:=fun x hx=>if_neg hx;refine⟨of q _ nm au,fun x y hx hy=>?_,?_⟩
 ·have nx:x≠q:=fun z=>by rw[z,hq]at hy;cases hy
  rw[del x nx];exact of x y hx ((ai nx).trans hy)
 ·obtain⟨h1,h2,h3,h4⟩:=pt;exact⟨(del p (ne p (by simp))).trans h1,(del d (ne d (by simp))).trans h2,(del s (ne s (by simp))).trans h3,(del g (ne g (by simp))).trans h4⟩
theorem zA(zF:Zz)(hw:HW){G:Gp}{p d s g q:Mg}{P:Pp}{w:D}{ns:List Nm}{v:Str}{spd:br}{E:Ends3}(pa:dS zF.C_Paper hw G p d s g P)(ok:P.ok 50)(hq:G q=none)(hl:ns.length<=50)(nd:ns.Nodup)(hn:∀ n∈ns,bE P.st n.key=some (.str (Mh "waits")))
  (sp:∀ (a:Str) (c:Int) (G1:Gp) (Q:j9) (P1:Pp),dS zF.C_Paper hw G1 p d s g P1->bE P1.st [.inr a,.inl c]=some (.str (Mh "waits"))->P1.st.length<=50->(∀ G',rl [p,d,s,g] G1 G'->dS zF.C_Paper hw G' p d s g ⟨P1.old,P1.sks,aW P1.st [.inr a,.inl c] (.str v),P1.gr,P1.time⟩->Q .non G')->spd [.ref p,.tup [.str a,.int c]] G1 Q)
  (h:∀ G' u,rl [p,d,s,g] (gset G q (.lst (ns.map Nm.d))) G'->dS zF.C_Paper hw G' p d s g (P.dec v ns)->E.nx [some (.ref p),some w,some (.ref q),u] G'):
  He q (gN 3) (bW (aT zF.C_Paper am spd [] (ab 0) (ae (ab 3) aq))) E [some (.ref p),some w,some (.ref q),none] (ns.map Nm.d) (gset G q (.lst (ns.map Nm.d))):=by
 have hs:=ah;have pa0:dS zF.C_Paper hw (gset G q (.lst (ns.map Nm.d))) p d s g P:=pa.off hq;have nm:=Bs pa hq;refine⟨fun i σ' G'=>∃ u,σ'=[some (.ref p),some w,some (.ref q),u]/\rl [p,d,s,g] (gset G q (.lst (ns.map Nm.d))) G'/\dS zF.C_Paper hw G' p d s g (P.dec v (ns.take i)),⟨none,rfl,fun _ _ _ h=>h,by rw[List.take_zero];exact pa0⟩,?_,?_,?_⟩
 ·rintro i σ' G' ⟨u,rfl,of,pt⟩
  exact of q _ nm au
 ·rintro i dd σ' G' hd ⟨u,rfl,of,pt⟩
  rw[MA]at hd;cases hi:ns[i]? with
  | none=>rw[hi]at hd;cases hd
  | some n=>
   rw[hi]at hd;cases hd;have hm:=Mv hi;have no:n∉ns.take i:=fun z=>by
    obtain⟨j,hj,e⟩:=mem_iff_getElem.mp z;rw[M6]at hj;rw[List.getElem_take]at e;obtain⟨hi',e'⟩:=List.getElem?_eq_some_iff.mp hi;have:=(List.getElem_inj nd).mp (e.trans e'.symm);omega
   have w0:=(xu (P:=P) (v:=v) no).trans (hn n hm);have o1:=(xv v (ns.take i) P fun m hm'=>⟨_,hn m (NP hm')⟩).2.2.2.2 50 ok;have te:ns.take (i+1)=ns.take i ++ [n]:=by rw[MQ,hi,Option.toList_some]
   have g1:=pt.1;obtain⟨a,c⟩:=n;have ed:Nm.d (a,c)=.tup [.str a,.int c]:=rfl;rw[ed];walk_at "s1";refine sp a c _ _ (P.dec v (ns.take i)) pt w0 o1.lt fun G2 of2 pt2=>⟨fun x y hx hy=>of2 x y hx (of x y hx hy),?_⟩;rw[Ex];exact pt2
 ·rintro σ' G' ⟨u,rfl,of,pt⟩
  rw[Ml,MM]at pt;exact h G' u of pt
theorem iq(zF:Zz)(hw:HW)(cf:Mg)(spc:br):∀ ds G Q,bb zF hw cf spc ds G Q->iY zF hw cf spc { nx:=fun _ G'=>Q .non G',rt:=Q } (cC Ap0 ds) G:=by
 intro ds G Q h;unfold bb at h;split at h
 ·rename_i p w;obtain⟨P,d,s,g,b,⟨pa,ok,wh⟩,h⟩:=h;have hs:=ah;have ls:=ok.ls;have dl:=xq P b;unfold iY;rw[af];walk_at "s1";refine⟨P,d,s,g,b,⟨pa,ok,wp wh⟩,fun q hq=>?_⟩;rw[af];walk_at "s1";refine zA zF hw pa ok hq (by walk_at "o") (v5 ok b) (fun n hn=>wq ok (xp hn)) (fun a c G1 Q P1 p1 p2 p3 p4=>⟨P1,d,s,g,⟨p1,p2,p3⟩,p4⟩) fun G' u of pt=>?_
  obtain⟨gq,o2,p2⟩:=zw pa hq of pt;have:=h _ o2 p2;walk_at "s1"
 ·exact h.elim
theorem nU(zF:Zz)(hw:HW)(cf:Mg)(spc:br):∀ ds G Q,c8 zF hw cf spc ds G Q->qK zF hw cf spc { nx:=fun _ G'=>Q .non G',rt:=Q } (cC Ap0 ds) G:=by
 intro ds G Q h;unfold c8 at h;split at h
 ·rename_i p w;obtain⟨P,d,s,g,b,⟨pa,ok,wh⟩,h⟩:=h;have hs:=ah;have ls:=ok.ls;have dl:=xq P b;unfold qK;rw[af];walk_at "s1";refine⟨P,d,s,g,b,⟨pa,ok,wp wh⟩,fun q hq=>?_⟩;rw[af];walk_at "s1";refine zA zF hw pa ok hq (by walk_at "o") (v5 ok b) (fun n hn=>wq ok (xp hn)) (fun a c G1 Q P1 p1 p2 p3 p4=>⟨P1,d,s,g,⟨p1,p2,p3⟩,p4⟩) fun G' u of pt=>?_
  obtain⟨gq,o2,p2⟩:=zw pa hq of pt;have:=h _ o2 p2;walk_at "s1"
 ·exact h.elim
theorem uN(zF:Zz)(hw:HW)(cf:Mg)(spc:br):∀ ds G Q,dY zF hw cf spc ds G Q->on zF hw cf spc { nx:=fun _ G'=>Q .non G',rt:=Q } (cC Aq0 ds) G:=by
 intro ds G Q h;unfold dY at h;split at h
 ·rename_i p t w;obtain⟨P,d,s,g,b,⟨pa,ok,wh⟩,h⟩:=h;have wv:=wp wh;unfold on;rcases wh with ⟨rfl,rfl⟩|⟨rfl,wh⟩<;>cases t
  all_goals
   walk_at "st";exact⟨P,d,s,g,_,⟨pa,ok,wv⟩,h⟩
 ·exact h.elim
theorem qh{C a p d s g:Mg}{hw0:HW}{G:Gp}{P:Pp}{o:Obj}(pa:dS C hw0 G p d s g P)(h:G a=some (.fx o)):a∉[p,d,s,g]:=fun z=>by
 simp only[MP,MN,or_false]at z;obtain⟨h1,h2,h3,h4⟩:=pa;rcases z with rfl|rfl|rfl|rfl
 ·rw[h1]at h;cases h
 ·rw[h2]at h;cases h
 ·rw[h3]at h;cases h
 ·rw[h4]at h;cases h
theorem IK{q:Str}{c:Mg}{G G':Gp}(h:E1 q G c)(k:∀ a o,G a=some (.fx o)->G' a=some (.fx o)):E1 q G' c:=by
 obtain⟨oc,vs,t,h1,h2⟩:=h;exact⟨oc,vs,t,k _ _ h1,h2⟩
theorem mF{pos:Pos}{q:Str}{Pt:Mg}{G G':Gp}(h:xJ pos q Pt G)(k:∀ a o,G a=some (.fx o)->G' a=some (.fx o)):xJ pos q Pt G':=by
 rcases h with h|⟨c,h,hc⟩
 ·exact .inl (k _ _ h)
 ·exact .inr ⟨c,k _ _ h,IK hc k⟩
theorem Hn{pos:Pos}{q:Str}{Pt:Mg}{G:Gp}(h:xJ pos q Pt G):∃ o,G Pt=some (.fx o):=by
 rcases h with h|⟨c,h,_⟩
 ·exact⟨_,h⟩
 ·exact⟨_,h⟩
theorem Gn(zF:Zz)(hw:HW){P:Pp}{p d s g:Mg}{G:Gp}{τ:eO}{Q:j9}{turn:Int}{a1 a2:Option D}(pa:dS zF.C_Paper hw G p d s g P)(ok:P.ok 50)(hq:Q (.fl ((P.due (mv turn)).map Nm.d)) G):
  ni 1 (gN 0) (vD (cr (dC qP (aT zF.C_Paper am (bJ zF hw) [] (ab 1) (ae (bd gl (ab 0) (eC (.int 0))) aq)) (eC (.str (Mh "waits"))))) (cr (dC EW (bd ft (bd f8 (bd gl (bd gl (ab 0) (eC (.int 0))) (eC (.int 1))) (bd gl (ab 0) (eC (.int 1)))) (eC (.int 3))) (ab 4)))) (bd gl (ab 0) (eC (.int 0))) (some (.ref p)::a1::a2::some (.int turn)::τ) (P.sks.map Sk.d) G Q:=by
 have hs:=ah;have ls:=ok.ls;refine⟨by rw[Ml];omega,fun i acc G'=>acc=((P.sks.take i).filter fun k=>cB ((bE P.st k.nm.key).getD .non) (.str (Mh "waits")) && mv turn k).map (fun k=>k.nm.d)/\G'=G,⟨rfl,rfl⟩,?_,?_⟩
 ·rintro i dd acc G' hd ⟨rfl,rfl⟩
  rw[MA]at hd;cases hq':P.sks[i]? with
  | none=>rw[hq']at hd;cases hd
  | some k=>
   rw[hq']at hd;cases hd;obtain⟨w',hw0⟩:=ok.kn k (Mv hq');have nd:k.nm.d=.tup [.str k.pen,.int k.num]:=rfl;have tk:((P.sks.take (i+1)).filter fun k=>cB ((bE P.st k.nm.key).getD .non) (.str (Mh "waits")) && mv turn k).map (fun k=>k.nm.d)=((P.sks.take i).filter fun k=>cB ((bE P.st k.nm.key).getD .non) (.str (Mh "waits")) && mv turn k).map (fun k=>k.nm.d) ++ if (cB (.str w') (.str (Mh "waits")) && !cB (.int ((k.num+k.time) % 3)) (.int turn))=true then [.tup [.str k.pen,.int k.num]]else []:=by
    rw[MQ,hq',Nu,MY];congr 1;have wk:(cB ((bE P.st k.nm.key).getD .non) (.str (Mh "waits")) && mv turn k)=(cB (.str w') (.str (Mh "waits")) && !cB (.int ((k.num+k.time) % 3)) (.int turn)):=by rw[hw0];rfl
    by_cases z:(cB (.str w') (.str (Mh "waits")) && !cB (.int ((k.num+k.time) % 3)) (.int turn))=true
    ·rw[if_pos z,Option.toList_some,List.filter_cons_of_pos (by rw[wk];exact z)];rfl
    ·rw[if_neg z,Option.toList_some,List.filter_cons_of_neg (by rw[wk];exact z)];rfl
   have ed:k.d=.tup [.tup [.str k.pen,.int k.num],.int k.time,k.act.d]:=rfl;rw[ed];refine⟨⟨by simp[MK,List.replicate],rfl⟩,?_⟩
   have hk:bE P.st [.inr k.pen,.inl k.num]=some (.str w'):=hw0;have g1:=pa.1;dsimp only;rw[tk];generalize ((P.sks.take i).filter fun k=>cB ((bE P.st k.nm.key).getD .non) (.str (Mh "waits")) && mv turn k).map (fun k=>k.nm.d)=A0 at *
   clear tk;walk_at "st";refine⟨P,d,s,g,w',⟨pa,hk⟩,?_⟩;cases cB (.str w') (.str (Mh "waits"))<;>cases cB (.int ((k.num+k.time) % 3)) (.int turn)<;>simp
 ·rintro acc G' ⟨rfl,rfl⟩
  rw[Ml,MM];have e:(P.sks.filter fun k=>cB ((bE P.st k.nm.key).getD .non) (.str (Mh "waits")) && mv turn k).map (fun k=>k.nm.d)=(P.due (mv turn)).map Nm.d:=by
   unfold Pp.due Pp.inS;rw[List.filter_filter,MU];congr 1;refine List.filter_congr fun k _=>?_;exact Bool.and_comm _ _
  rw[e];exact hq
theorem Dj{i j:Nat}{a b:Str}{D0:Ends3}{σ:eO}{G:Gp}{t:Bool}(hj:σ[j]?=some (some (.bl t)))(h:D0.nx (σ.set i (some (.str (if t=true then a else b)))) G):bz i (GY (jT (ab j)) (eC (.str a)) (eC (.str b))) D0 σ G:=by
 cases t
 ·simp only[bz,GY,jT,ab,eC,hj,C8,val];exact⟨trivial,h⟩
 ·simp only[bz,GY,jT,ab,eC,hj,C8,val];exact⟨trivial,h⟩
theorem Ik{a b:Nm}(h:a.d=b.d):a=b:=by
 obtain⟨a1,a2⟩:=a;obtain⟨b1,b2⟩:=b;have h':D.tup [.str a1,.int a2]=D.tup [.str b1,.int b2]:=h;injection h' with h1
 simp only[List.cons.injEq,D.str.injEq,D.int.injEq,and_true]at h1;rw[h1.1,h1.2]
theorem F1(x:Nm)(ns:List Nm):AD x.d (ns.map Nm.d)=decide (x∈ns):=by
 by_cases h:x∈ns
 ·rw[decide_eq_true h];exact yU.mpr (Oj h)
 ·rw[decide_eq_false h];refine AC.mpr fun z=>?_;obtain⟨y,hy,e⟩:=mem_map.mp z;exact h (Ik e ▸ hy)
theorem GN(n:Nm):pl 7 n.d:=by
 intro e he;simp only[MP,MN,or_false]at he;rcases he with rfl|rfl<;>exact trivial
theorem Fm{P:Pp}(ok:P.ok 50):∀ e∈P.sks.map (ig P),pl 7 e:=fun e he=>by
 obtain⟨k,hk,rfl⟩:=mem_map.mp he;obtain⟨w',hw0⟩:=ok.kn k hk;intro x hx;simp only[MP,MN,or_false]at hx;rcases hx with rfl|rfl
 ·intro e he;simp only[MP,MN,or_false]at he;rcases he with rfl|rfl<;>exact trivial
 ·rw[hw0];trivial
theorem C0(zF:Zz)(hw:HW){P:Pp}{G:Gp}{Q:j9}{ns:List Nm}{v:Str}{a0 a1 a2 a3 a4 a5 a6 a7 a9 a10 a12:Option D}(ok:P.ok 50)(hq:Q (.fl (P.sks.map (ig (P.dec v ns)))) G):
  ni 2 (kX 2 (dk (gN 0) (dk (gN 1) kY))) ik (GY (cr (dC KJ (ab 0) (ab 10))) (h_ (ae (ab 0) (ae (ab 13) aq))) (h_ (ae (ab 0) (ae (ab 1) aq)))) [a0,a1,a2,a3,a4,a5,a6,a7,some (.lst (ns.map Nm.d)),a9,a10,some (.str v),a12] (P.sks.map (ig P)) G Q:=by
 have hs:=ah;have ls:=ok.ls;refine⟨by rw[Ml];omega,fun i acc G'=>acc=(P.sks.take i).map (ig (P.dec v ns))/\G'=G,⟨rfl,rfl⟩,?_,?_⟩
 ·rintro i dd acc G' hd ⟨rfl,rfl⟩
  rw[MA]at hd;cases hq':P.sks[i]? with
  | none=>rw[hq']at hd;cases hd
  | some k=>
   rw[hq']at hd;cases hd;obtain⟨w',hw0⟩:=ok.kn k (Mv hq');have nd:k.nm.d=.tup [.str k.pen,.int k.num]:=rfl;have ed:ig P k=.tup [.tup [.str k.pen,.int k.num],.str w']:=by unfold ig;rw[hw0];rfl
   have mb:=F1 k.nm ns;rw[nd]at mb;have tk:(P.sks.take (i+1)).map (ig (P.dec v ns))=(P.sks.take i).map (ig (P.dec v ns)) ++ [if decide (k.nm∈ns)=true then .tup [.tup [.str k.pen,.int k.num],.str v]else .tup [.tup [.str k.pen,.int k.num],.str w']]:=by
    rw[MQ,hq',MY,Option.toList_some];congr 1;show [ig (P.dec v ns) k]=_
    unfold ig
    by_cases z:k.nm∈ns
    ·rw[if_pos (decide_eq_true z),Ez z];rfl
    ·rw[if_neg (by rw[decide_eq_false z];decide),xu z,hw0];rfl
   have p1:pl 7 (.tup [.str k.pen,.int k.num]):=GN k.nm;have p2:∀ e∈ns.map Nm.d,pl 7 e:=fun e he=>by
    obtain⟨n,_,rfl⟩:=mem_map.mp he;exact GN n
   rw[ed];dsimp only;rw[tk];generalize (P.sks.take i).map (ig (P.dec v ns))=A0 at *
   clear tk;refine⟨rfl,?_⟩;walk_at "st";refine⟨rfl,⟨p1,p2⟩,?_⟩;rw[mb]
   by_cases z:k.nm∈ns
   ·simp only[z,decide_true,if_true];exact⟨by walk_at "o",trivial,trivial⟩
   ·simp only[z,decide_false,if_false];exact⟨by walk_at "o",trivial,trivial⟩
 ·rintro acc G' ⟨rfl,rfl⟩
  rw[Ml,MM];exact hq
theorem Eb(zF:Zz)(hw:HW){P:Pp}{G:Gp}{Q:j9}{τ:eO}(ok:P.ok 50)(hq:Q (.fl (P.wai.map Nm.d)) G):
  ni 2 (kX 2 (dk (gN 0) (dk (gN 1) kY))) (cr (dC qP (ab 1) (eC (.str (Mh "waits"))))) (ab 0) τ (P.sks.map (ig P)) G Q:=by
 have hs:=ah;have ls:=ok.ls;refine⟨by rw[Ml];omega,fun i acc G'=>acc=((P.sks.take i).filter fun k=>cB ((bE P.st k.nm.key).getD .non) (.str (Mh "waits"))).map (fun k=>k.nm.d)/\G'=G,⟨rfl,rfl⟩,?_,?_⟩
 ·rintro i dd acc G' hd ⟨rfl,rfl⟩
  rw[MA]at hd;cases hq':P.sks[i]? with
  | none=>rw[hq']at hd;cases hd
  | some k=>
   rw[hq']at hd;cases hd;obtain⟨w',hw0⟩:=ok.kn k (Mv hq');have ed:ig P k=.tup [.tup [.str k.pen,.int k.num],.str w']:=by unfold ig;rw[hw0];rfl
   have tk:((P.sks.take (i+1)).filter fun k=>cB ((bE P.st k.nm.key).getD .non) (.str (Mh "waits"))).map (fun k=>k.nm.d)=((P.sks.take i).filter fun k=>cB ((bE P.st k.nm.key).getD .non) (.str (Mh "waits"))).map (fun k=>k.nm.d) ++ if cB (.str w') (.str (Mh "waits"))=true then [.tup [.str k.pen,.int k.num]]else []:=by
    rw[MQ,hq',Nu,MY];congr 1;have wk:cB ((bE P.st k.nm.key).getD .non) (.str (Mh "waits"))=cB (.str w') (.str (Mh "waits")):=by rw[hw0];rfl
    by_cases z:cB (.str w') (.str (Mh "waits"))=true
    ·rw[if_pos z,Option.toList_some,List.filter_cons_of_pos (by rw[wk];exact z)];rfl
    ·rw[if_neg z,Option.toList_some,List.filter_cons_of_neg (by rw[wk];exact z)];rfl
   rw[ed];dsimp only;rw[tk];generalize ((P.sks.take i).filter fun k=>cB ((bE P.st k.nm.key).getD .non) (.str (Mh "waits"))).map (fun k=>k.nm.d)=A0 at *
   clear tk;refine⟨rfl,?_⟩;walk_at "st";refine⟨rfl,?_⟩;cases cB (.str w') (.str (Mh "waits"))<;>simp
 ·rintro acc G' ⟨rfl,rfl⟩
  rw[Ml,MM];have e:(P.sks.filter fun k=>cB ((bE P.st k.nm.key).getD .non) (.str (Mh "waits"))).map (fun k=>k.nm.d)=P.wai.map Nm.d:=by
   unfold Pp.wai Pp.inS;rw[MU];rfl
  rw[e];exact hq
theorem pN(zF:Zz)(hw:HW)(Pt:Mg)(L:Nat):∀ ds G Q,ce zF hw Pt ds G Q->gu zF hw Pt (ze L) { nx:=fun _ G'=>Q .non G',rt:=Q } (cC Aa0 ds) G:=by
 intro ds G Q h;unfold ce at h;split at h
 ·rename_i p z;obtain⟨P,d,s,g,⟨pa,ok,tab⟩,h⟩:=h;have hs:=ah;have ls:=ok.ls;have wl:=Be P;have g0:=pa.1;unfold gu;rw[af];walk_at "s1";refine⟨P,d,s,g,⟨pa,ok⟩,?_⟩;rw[Ml];generalize hM:(P.wai.length:Int)=M at *
  rw[af];walk_at "s1";refine⟨⟨by decide,by decide⟩,by decide,?_⟩
  generalize z / 2 % 3=turn at *
  rw[af];obtain⟨o0,go⟩:=Hn tab;have nP:=qh pa go;walk_at "s1";refine fun G1 f fo c hf nf gf hk cod RB sub=>?_;have pa1:dS zF.C_Paper hw G1 p d s g P:=by
   have ne:∀ x∈[p,d,s,g],x≠Pt:=fun x hx e=>nP (e ▸ hx);exact⟨sub p _ (ne p (by simp)) pa.1,sub d _ (ne d (by simp)) pa.2.1,sub s _ (ne s (by simp)) pa.2.2.1,sub g _ (ne g (by simp)) pa.2.2.2⟩
  have g1:=pa1.1;have fx:Fx G1 f:=by
   obtain⟨doc,pm,ctv,e⟩:=hk;rw[e]at gf;exact⟨_,_,_,_,gf⟩
  clear pa g0 tab sub hf nf go nP;rw[af];walk_at "s1";refine⟨P,d,s,g,⟨pa1,ok⟩,?_⟩;rw[af];walk_at "s1";refine⟨by decide,?_⟩
  generalize cB (.int (z % 2)) (.int 0)=t at *
  rw[af];walk_at "s1";refine⟨P,d,s,g,⟨pa1,ls⟩,?_⟩;rw[af];walk_at "s1";refine Gn zF hw pa1 ok ?_;rw[af];walk_at "s1";refine Ae (NX:=fun σ' G'=>∃ (w:D) (b:Sk->Bool),σ'=[some (.ref p),some (.int z),some (.int M),some (.int turn),some (.ref f),some (.lst (P.sks.map (ig P))),some (.bl t),some (.lst (P.sks.map Sk.d)),some (.lst ((P.due b).map Nm.d)),some w,none,none,none]/\G'=G1/\Wh f (bX zF hw f fo c [.int turn,.ref p,.int M]) G1 P w b) ?_ fun NX hNX=>?_
  ·rintro σ' G' ⟨w,b,rfl,rfl,wh⟩
   rw[af];walk_at "s1";refine⟨f,fo,c,[.int turn,.ref p,.int M],[.int turn,.ref p,.int M],hk,rfl,rfl,P,d,s,g,b,⟨pa1,ok,wp wh⟩,fun G2 of pt q hq=>?_⟩;have dc:=BB ok b (if t=true then Mh "stands" else Mh "wiped")
   have RA:xJ pos_picks q_picks Pt G2:=mF RB fun a o ha=>of a _ (qh pa1 ha) ha;have ne:∀ {a:Mg} {o:GO},G2 a=some o->a≠q:=fun ha e=>by rw[e,hq]at ha;cases ha
   have dl:=xq P b;have RJ:∀ u,xJ pos_picks q_picks Pt (gset G2 q u):=fun u=>mF RA fun a o ha=>(ai (ne ha)).trans ha;have pa3:∀ u,dS zF.C_Paper hw (gset G2 q u) p d s g (P.dec (if t=true then Mh "stands" else Mh "wiped") (P.due b)):=fun u=>pt.off hq
   have g3:=fun u=>(pa3 u).1;have qs:∀ e∈P.sks.map Sk.d,pl 7 e:=Hw P.sks 2;have qn:∀ e∈(P.due b).map Nm.d,pl 7 e:=fun e he=>by
    obtain⟨n,_,rfl⟩:=mem_map.mp he;intro e he;simp only[MP,MN,or_false]at he;rcases he with rfl|rfl<;>exact trivial
   have s2:(P.dec (if t=true then Mh "stands" else Mh "wiped") (P.due b)).sks=P.sks:=rfl
   clear RB RA of pt gf cod pa1 g1 fx wh hk;rw[af];refine cD false (fun K hK=>?_) (iteF ?_)
   ·have g4:=g3 (.lst ((P.due b).map Nm.d));walk_at "s1";refine⟨_,⟨rfl,rfl,qn⟩,_,d,s,g,⟨pa3 _,ls⟩,qs,qs,?_⟩;rw[s2,aY];exact hK
   ·simp only[dL];rw[af];refine Dj rfl ?_;generalize (if t=true then Mh "stands" else Mh "wiped")=v at *
    have ok2:=dc.2.2.2.2 50 ok;have qr:=Fm ok2;rw[s2]at qr;dsimp only[MK,M1];rw[af];walk_at "s1";refine C0 zF hw ok ?_;rw[af];walk_at "s1";refine⟨by walk_at "o",by rw[Ml];omega,_,d,s,g,⟨pa3 _,ok2⟩,qr,qr,?_⟩
    rw[show cB (.lst ((P.dec v (P.due b)).sks.map (ig (P.dec v (P.due b))))) (.lst (P.sks.map (ig (P.dec v (P.due b)))))=true from aY _]
    refine iteT ⟨_,d,s,g,⟨pa3 _,ok2⟩,Eb zF hw (P:=P.dec v (P.due b)) ok2 ⟨pX _,pX _,?_⟩⟩;rw[aY];exact h _ _ dc (pa3 _) (RJ _)
  ·refine cD (cB (.int (z / 6 % 3)) (.int 0)) (fun K hK=>?_) (ve (fun e=>?_) fun e=>?_)
   ·walk_at "st";exact⟨⟨by decide,by decide⟩,by decide⟩
   ·rw[af];walk_at "s1";refine⟨P,d,s,g,⟨pa1,ok⟩,hNX _ _ ⟨.non,fun _=>true,?_,rfl,.inl ⟨rfl,rfl⟩⟩⟩;have e:P.due (fun _=>true)=P.wai:=by unfold Pp.due Pp.wai;rw[List.filter_eq_self.mpr fun _ _=>rfl]
    rw[e]
   ·simp only[dL];exact hNX _ _ ⟨.ref f,mv turn,rfl,rfl,.inr ⟨rfl,fx,fun k hk' Q' q=>⟨⟨gf,cod⟩,k,turn,M,p,P,d,s,g,⟨rfl,rfl⟩,⟨pa1,ok,hM⟩,q⟩⟩⟩
 ·exact h.elim
theorem Cf{P:Pp}(ok:P.ok 50):(P.dec (Mh "stands") (P.due fun _=>true)).inS (Mh "waits")=[]:=by
 unfold Pp.inS;refine List.filter_eq_nil_iff.mpr fun k hk=>?_;have hk':k∈P.sks:=hk
 by_cases z:k.nm∈P.due fun _=>true
 ·rw[Ez z,Option.getD_some,bB fun e=>absurd (D.str.inj e) (by decide +kernel)]
  decide
 ·rw[xu z];intro e;refine z (Oj (mem_filter.mpr ⟨mem_filter.mpr ⟨hk',e⟩,rfl⟩))
theorem Go{P:Pp}{b:Sk->Bool}(h:P.inS (Mh "waits")=[]):P.due b=[]:=by
 unfold Pp.due;rw[h];rfl
theorem Fn(zF:Zz)(hw:HW)(Pt:Mg):∀ ds G Q,wx zF hw Pt ds G Q->Du zF hw Pt { nx:=fun _ G'=>Q .non G',rt:=Q } (cC Aj0 ds) G:=by
 intro vs G Q h;unfold wx pB at h;split at h
 ·obtain⟨ns,rfl,hn,tab,hq⟩:=h;have hs:=ah;have l13:(Mh "a bC\nde, ~f.\n").length=13:=by decide +kernel
  unfold Du;rw[af];walk_at "s1";refine⟨ns,⟨rfl,by decide⟩,fun c=>?_⟩
  rw[af];walk_at "s1";refine⟨⟨by decide,by decide⟩,by decide,by walk_at "o",?_⟩
  have lx:=EB (Mh "a bC\nde, ~f.\n").cps.toList none (some (c / 7 % 13));rw[Array.length_toList]at lx
  replace lx:=le_trans lx (Pd l13)
  generalize (⟨(m9 (Mh "a bC\nde, ~f.\n").cps.toList none (some (c / 7 % 13))).toArray⟩:Str)=x at *
  rw[af];walk_at "s1";intro pens l0 l4;rw[af];walk_at "s1"
  rintro p hp d s g G1 ⟨hd,hs1,hg⟩ of pa
  have RB:xJ pos_picks q_picks Pt G1:=mF tab fun a o ha=>by
   have np:a≠p:=fun e=>by rw[e,hp]at ha;cases ha
   have ha':gset G p (.ins zF.C_Paper [] []) a=some (.fx o):=(ai np).trans ha;refine of a _ (fun z=>?_) ha';simp only[MP,MN,or_false]at z;rcases z with rfl|rfl|rfl|rfl
   ·exact np rfl
   ·rw[ha']at hd;cases hd
   ·rw[ha']at hs1;cases hs1
   ·rw[ha']at hg;cases hg
  clear tab of hp hd hs1 hg;rw[af];walk_at "s1";refine⟨fun i σ' G'=>∃ (u:Option D) (P:Pp),σ'=[some (.lst (ns.map D.int)),some (.int c),some (.str x),some (.lst (pens.map D.str)),some (.ref p),u,none]/\dS zF.C_Paper hw G' p d s g P/\P.ok i/\xJ pos_picks q_picks Pt G',⟨none,_,rfl,pa,⟨le_trans lx (by decide),le_refl _,le_refl _,le_refl _,(fun _ h=>by cases h),List.Pairwise.nil,(fun _ h=>by cases h),(fun _ _ h=>by cases h),(fun _ h=>by cases h)⟩,RB⟩,?_,?_⟩
  ·clear pa RB
   rintro i dd σ' G' hd ⟨u,P,rfl,pa,ok,tab⟩
   obtain⟨y,rfl,hi⟩:∃ y:Int,dd=.int y/\i < 16:=by
    rw[uf (by decide) (by decide),<- List.map_drop,<- List.map_take]at hd
    obtain⟨y,_,e⟩:=mem_map.mp (Mv hd);refine⟨y,e.symm,?_⟩;have:=(List.getElem?_eq_some_iff.mp hd).1;rw[Ml,M6]at this;exact MH this (Nat.min_le_left _ _)
   walk_at "s1";exact⟨P,d,s,g,pens,⟨pa,ok.le (by walk_at "o"),rfl,l0,l4⟩,fun G2 P' gs of2 pa2=>⟨_,P',rfl,pa2,gs.2.1 _ ok,mF tab fun a o ha=>of2 a _ (qh pa ha) ha⟩⟩
  ·rintro σ' G' ⟨u,P,rfl,pa',ok,tab⟩
   have ok5:P.ok 50:=ok.le (by
    rw[uf (by decide) (by decide),M6]
    exact le_trans (Nat.min_le_left _ _) (by decide))
   clear pa RB ok;dsimp only;rw[af];walk_at "s1";refine⟨⟨by decide,by decide⟩,fun i σ' G'=>∃ (v:Option D) (P:Pp),σ'=[some (.lst (ns.map D.int)),some (.int c),some (.str x),some (.lst (pens.map D.str)),some (.ref p),u,v]/\dS zF.C_Paper hw G' p d s g P/\P.ok 50/\xJ pos_picks q_picks Pt G',⟨none,P,rfl,pa',ok5,tab⟩,?_,?_⟩
   ·clear pa' tab ok5
    rintro i dd σ' G' hd ⟨v,P,rfl,pa,ok,tab⟩
    obtain⟨hi,rfl⟩:=sT hd;clear hd;walk_at "s1";exact⟨ns,⟨rfl,by decide⟩,fun _ _ _=>⟨P,d,s,g,⟨pa,ok⟩,fun G2 P' dc pa2 RA=>⟨_,P',rfl,pa2,dc.2.2.2.2 50 ok,RA⟩⟩⟩
   ·clear pa' tab ok5
    rintro σ' G' ⟨v,P,rfl,pa,ok,tab⟩
    dsimp only;rw[af];walk_at "s1";refine⟨P,d,s,g,fun _=>true,⟨pa,ok,.inl ⟨rfl,rfl⟩⟩,fun G2 of2 pt2=>?_⟩;have RA:xJ pos_picks q_picks Pt G2:=mF tab fun a o ha=>of2 a _ (qh pa ha) ha;have ok2:=(BB ok (fun _=>true) (Mh "stands")).2.2.2.2 50 ok;have nl:=Cf ok;generalize P.dec (Mh "stands") (P.due fun _=>true)=P2 at *
    have e0:P2.due (fun _=>true)=[]:=Go nl;have e1:P2.wai=[]:=by unfold Pp.wai;rw[nl];rfl
    have e2:∀ v,P2.dec v []=P2:=fun _=>rfl;have no:∀ d:D,d∈[]->pl 7 d:=fun _ h=>by cases h
    refine⟨P2,d,s,g,fun _=>true,⟨pt2,ok2,.inl ⟨rfl,rfl⟩⟩,fun G3 of3 pt3=>⟨M0 _,pX _,no,?_⟩⟩;rw[e0]at pt3 ⊢;rw[e2]at pt3;rw[show cB (.lst (([]:List Nm).map Nm.d)) (.lst [])=true from aY _]
    have RJ:xJ pos_picks q_picks Pt G3:=mF RA fun a o ha=>of3 a _ (qh pt2 ha) ha;refine iteT ⟨P2,d,s,g,fun _=>true,⟨pt3,ok2,.inl ⟨rfl,rfl⟩⟩,fun G4 of4 pt4=>⟨M0 _,pX _,no,?_⟩⟩;rw[e0]at pt4 ⊢;rw[e2]at pt4;rw[show cB (.lst (([]:List Nm).map Nm.d)) (.lst [])=true from aY _]
    refine iteT ?_;rw[pt4.1];refine⟨⟨rfl,rfl⟩,P2,d,s,g,⟨pt4,ok2⟩,M0 _,pX _,no,?_⟩;rw[e1,show cB (.lst (([]:List Nm).map Nm.d)) (.lst [])=true from aY _]
    exact hq _ (mF RJ fun a o ha=>of4 a _ (qh pt3 ha) ha)
 ·exact h.elim
section
variable{zF:Zz}{hw:List aA->Int}
theorem p7:bG (cg zF hw) 2:=fun _ _ _ h=>by unfold cg at h;walk_at "l"
theorem u_:bG (d4 zF hw) 1:=fun _ _ _ h=>by unfold d4 at h;walk_at "l"
theorem tK:bG (cT zF hw) 2:=fun _ _ _ h=>by unfold cT at h;walk_at "l"
theorem tI:bG (cS zF hw) 3:=fun _ _ _ h=>by unfold cS at h;walk_at "l"
theorem tH:bG (cn zF hw) 2:=fun _ _ _ h=>by unfold cn at h;walk_at "l"
theorem u0:bG (db zF hw) 1:=fun _ _ _ h=>by unfold db at h;walk_at "l"
theorem m3:bG (bf zF hw) 1:=fun _ _ _ h=>by unfold bf at h;walk_at "l"
theorem xg:bG (dG zF hw) 1:=fun _ _ _ h=>by unfold dG at h;walk_at "l"
theorem lS:bG (aR zF hw) 3:=fun _ _ _ h=>by unfold aR at h;walk_at "l"
theorem p9:bG (cj zF hw) 5:=fun _ _ _ h=>by unfold cj at h;walk_at "l"
theorem lT:bG (bp zF hw) 4:=fun _ _ _ h=>by unfold bp at h;walk_at "l"
theorem m6:bG (bL zF hw) 5:=fun _ _ _ h=>by unfold bL at h;walk_at "l"
theorem oP:bG (bU zF hw) 5:=fun _ _ _ h=>by unfold bU at h;walk_at "l"
theorem uZ:bG (da zF hw) 1:=fun _ _ _ h=>by unfold da at h;walk_at "l"
theorem yZ:bG (fF zF hw) 1:=fun _ _ _ h=>by unfold fF at h;walk_at "l"
theorem p8:bG (ax zF hw) 1:=fun _ _ _ h=>by unfold ax at h;walk_at "l"
theorem va:bG (bI zF hw) 1:=fun _ _ _ h=>by unfold bI at h;walk_at "l"
theorem tR:bG (bh zF hw) 1:=fun _ _ _ h=>by unfold bh at h;walk_at "l"
theorem xf:bG (eR zF hw) 2:=fun _ _ _ h=>by unfold eR at h;walk_at "l"
theorem AK:bG (fE zF hw) 1:=fun _ _ _ h=>by unfold fE at h;walk_at "l"
theorem u4:bG (dW zF hw) 2:=fun _ _ _ h=>by unfold dW at h;walk_at "l"
theorem u5:bG (dX zF hw) 3:=fun _ _ _ h=>by unfold dX at h;walk_at "l"
theorem oH:bG (cu zF hw) 2:=fun _ _ _ h=>by unfold cu at h;walk_at "l"
theorem m4:bG (ao zF hw) 1:=fun _ _ _ h=>by unfold ao at h;walk_at "l"
theorem p5:bG (cF zF hw) 1:=fun _ _ _ h=>by unfold cF at h;walk_at "l"
theorem rM:bG (cW zF hw) 1:=fun _ _ _ h=>by unfold cW at h;walk_at "l"
theorem tG:bG (du zF hw) 1:=fun _ _ _ h=>by unfold du at h;walk_at "l"
theorem AI:bG (fA zF hw) 3:=fun _ _ _ h=>by unfold fA at h;walk_at "l"
theorem yY:bG (fB zF hw) 3:=fun _ _ _ h=>by unfold fB at h;walk_at "l"
theorem oN:bG (bT zF hw) 1:=fun _ _ _ h=>by unfold bT at h;walk_at "l"
theorem tN:bG (dw zF hw) 1:=fun _ _ _ h=>by unfold dw at h;walk_at "l"
theorem u6:bG (de zF hw) 2:=fun _ _ _ h=>by unfold de at h;walk_at "l"
theorem u7:bG (df zF hw) 2:=fun _ _ _ h=>by unfold df at h;walk_at "l"
theorem rP:bG (bK zF hw) 1:=fun _ _ _ h=>by unfold bK at h;walk_at "l"
theorem za:bG (dH zF hw) 1:=fun _ _ _ h=>by unfold dH at h;walk_at "l"
theorem tL:bG (cq zF hw) 1:=fun _ _ _ h=>by unfold cq at h;walk_at "l"
theorem vd:bG (cH zF hw) 1:=fun _ _ _ h=>by unfold cH at h;walk_at "l"
theorem xh:bG (c9 zF hw) 1:=fun _ _ _ h=>by unfold c9 at h;walk_at "l"
theorem tQ:bG (bY zF hw) 2:=fun _ _ _ h=>by unfold bY at h;walk_at "l"
theorem j0:bG (aK zF hw) 2:=fun _ _ _ h=>by unfold aK at h;walk_at "l"
theorem jZ:bG (aJ zF hw) 1:=fun _ _ _ h=>by unfold aJ at h;walk_at "l"
theorem vc:bG (dg zF hw) 4:=fun _ _ _ h=>by unfold dg at h;walk_at "l"
theorem oK:bG (bv zF hw) 3:=fun _ _ _ h=>by unfold bv at h;walk_at "l"
theorem oJ:bG (bu zF hw) 3:=fun _ _ _ h=>by unfold bu at h;walk_at "l"
theorem p_:bG (cG zF hw) 4:=fun _ _ _ h=>by unfold cG at h;walk_at "l"
theorem rQ:bG (cX zF hw) 5:=fun _ _ _ h=>by unfold cX at h;walk_at "l"
theorem tO:bG (dy zF hw) 3:=fun _ _ _ h=>by unfold dy at h;walk_at "l"
theorem tP:bG (dz zF hw) 5:=fun _ _ _ h=>by unfold dz at h;walk_at "l"
theorem y_:bG (fG zF hw) 3:=fun _ _ _ h=>by unfold fG at h;walk_at "l"
theorem kT:bG (be zF hw) 2:=fun _ _ _ h=>by unfold be at h;walk_at "l"
theorem oM:bG (aQ zF hw) 1:=fun _ _ _ h=>by unfold aQ at h;walk_at "l"
theorem j6:bG (bx zF hw) 2:=fun _ _ _ h=>by unfold bx at h;walk_at "l"
theorem rO:bG (bJ zF hw) 2:=fun _ _ _ h=>by unfold bJ at h;walk_at "l"
theorem j5:bG (a_ zF hw) 2:=fun _ _ _ h=>by unfold a_ at h;walk_at "l"
theorem lU:bG (bq zF hw) 2:=fun _ _ _ h=>by unfold bq at h;walk_at "l"
theorem tM:bG (cU zF hw) 2:=fun _ _ _ h=>by unfold cU at h;walk_at "l"
theorem u9:bG (dZ zF hw) 3:=fun _ _ _ h=>by unfold dZ at h;walk_at "l"
theorem oO:bG (bw zF hw) 1:=fun _ _ _ h=>by unfold bw at h;walk_at "l"
theorem rN:bG (cy zF hw) 1:=fun _ _ _ h=>by unfold cy at h;walk_at "l"
theorem m5:bG (b9 zF hw) 2:=fun _ _ _ h=>by unfold b9 at h;walk_at "l"
end
structure Tx(K:Ow)(mg:Str->Option Mf)(zF:Zz):Prop where
 fa_anchor:∀ C∈zF.F,Cls K C/\cE K C "anchor"
 fa_name:∀ C∈zF.F,Cls K C/\cE K C "name"
 fa_names:∀ C∈zF.F,Cls K C/\cE K C "names"
 fa_signs:∀ C∈zF.F,Cls K C/\cE K C "signs"
 fa_time:∀ C∈zF.F,Cls K C/\cE K C "time"
 fa_word:∀ C∈zF.F,Cls K C/\cE K C "word"
 cl_Stroke:Cls K zF.Z1
 cl_Put:Cls K zF.Z2
 cl_Strike:Cls K zF.Z3
 cl_Dress:Cls K zF.Z4
 cl_Move:Cls K zF.Z5
 cl_Paper:Cls K zF.C_Paper
 na_Paper_old:cE K zF.C_Paper "old"
 na_Paper_drawn:cE K zF.C_Paper "drawn"
 na_Paper_states:cE K zF.C_Paper "states"
 na_Paper_greatest:cE K zF.C_Paper "greatest"
 na_Paper_time:cE K zF.C_Paper "time"
 b_all:mg "all"=none
 b_dict:mg "dict"=none
 b_isinstance:mg "isinstance"=none
 b_len:mg "len"=none
 b_list:mg "list"=none
 b_min:mg "min"=none
 b_range:mg "range"=none
 b_sorted:mg "sorted"=none
 b_tuple:mg "tuple"=none
 b_zip:mg "zip"=none
 k_STANDS:jB K mg "STANDS" k_STANDS
 k_START:jB K mg "START" k_START
 k_WAITS:jB K mg "WAITS" k_WAITS
 k_WIPED:jB K mg "WIPED" k_WIPED
 xm_Dress:mg "Dress"=some (.ref zF.Z4)
 ik_Dress:∀ p∈([(zF.Z1,false),(zF.Z2,false),(zF.Z3,false),(zF.Z4,true),(zF.Z5,false)]:List (Mg×Bool)),InsAsk K p.1/\Nl K (.ref p.1) (.ref zF.Z4)=some p.2
 xm_Move:mg "Move"=some (.ref zF.Z5)
 ik_Move:∀ p∈([(zF.Z1,false),(zF.Z2,false),(zF.Z3,false),(zF.Z4,false),(zF.Z5,true)]:List (Mg×Bool)),InsAsk K p.1/\Nl K (.ref p.1) (.ref zF.Z5)=some p.2
 xm_Put:mg "Put"=some (.ref zF.Z2)
 ik_Put:∀ p∈([(zF.Z1,false),(zF.Z2,true),(zF.Z3,false),(zF.Z4,false),(zF.Z5,false)]:List (Mg×Bool)),InsAsk K p.1/\Nl K (.ref p.1) (.ref zF.Z2)=some p.2
 xm_Strike:mg "Strike"=some (.ref zF.Z3)
 ik_Strike:∀ p∈([(zF.Z1,false),(zF.Z2,false),(zF.Z3,true),(zF.Z4,false),(zF.Z5,false)]:List (Mg×Bool)),InsAsk K p.1/\Nl K (.ref p.1) (.ref zF.Z3)=some p.2
theorem KY{α:Type}:∀ {us:List α},us.length=1->∃ a0,us=[a0]
 | [a0],_=>⟨a0,rfl⟩
theorem KW{α:Type}:∀ {us:List α},us.length=2->∃ a0 a1,us=[a0,a1]
 | [a0,a1],_=>⟨a0,a1,rfl⟩
theorem KU{α:Type}:∀ {us:List α},us.length=3->∃ a0 a1 a2,us=[a0,a1,a2]
 | [a0,a1,a2],_=>⟨a0,a1,a2,rfl⟩
theorem KS{α:Type}:∀ {us:List α},us.length=4->∃ a0 a1 a2 a3,us=[a0,a1,a2,a3]
 | [a0,a1,a2,a3],_=>⟨a0,a1,a2,a3,rfl⟩
theorem KR{α:Type}:∀ {us:List α},us.length=5->∃ a0 a1 a2 a3 a4,us=[a0,a1,a2,a3,a4]
 | [a0,a1,a2,a3,a4],_=>⟨a0,a1,a2,a3,a4,rfl⟩
theorem tJ(zF:Zz)(hw:List aA->Int)(f:Mg)(fo:Obj)(c:Mg)(cds:List D):∀ ds G Q,bX zF hw f fo c cds ds G Q->ds.length=1:=by
 intro ds G Q h;unfold bX at h;split at h
 all_goals first|rfl|exact h.elim
theorem AJ(zF:Zz)(hw:List aA->Int)(cf:Mg)(spc:br):∀ ds G Q,fC zF hw cf spc ds G Q->ds.length=2:=by
 intro ds G Q h;unfold fC at h;split at h
 all_goals first|rfl|exact h.elim
theorem iB(zF:Zz)(hw:List aA->Int)(cf:Mg)(spc:br):∀ ds G Q,bb zF hw cf spc ds G Q->ds.length=2:=by
 intro ds G Q h;unfold bb at h;split at h
 all_goals first|rfl|exact h.elim
theorem oG(zF:Zz)(hw:List aA->Int)(cf:Mg)(spc:br):∀ ds G Q,c8 zF hw cf spc ds G Q->ds.length=2:=by
 intro ds G Q h;unfold c8 at h;split at h
 all_goals first|rfl|exact h.elim
theorem u8(zF:Zz)(hw:List aA->Int)(cf:Mg)(spc:br):∀ ds G Q,dY zF hw cf spc ds G Q->ds.length=3:=by
 intro ds G Q h;unfold dY at h;split at h
 all_goals first|rfl|exact h.elim
theorem p6(zF:Zz)(hw:List aA->Int)(Pt:Mg):∀ ds G Q,ce zF hw Pt ds G Q->ds.length=2:=by
 intro ds G Q h;unfold ce at h;split at h
 all_goals first|rfl|exact h.elim
theorem F6(zF:Zz)(hw:List aA->Int)(Pt:Mg):∀ ds G Q,wx zF hw Pt ds G Q->ds.length=1:=by
 intro ds G Q h;unfold wx pB at h;split at h
 all_goals first|rfl|exact h.elim
local macro_rules | `(tactic| walk_at "b") => `(tactic| (intro _ _ _ _ _ _ us hl; first | (obtain ⟨_, e⟩ := KY hl; subst e; rfl) | (obtain ⟨_, _, e⟩ := KW hl; subst e; rfl) | (obtain ⟨_, _, _, e⟩ := KU hl; subst e; rfl) | (obtain ⟨_, _, _, _, e⟩ := KS hl; subst e; rfl) | (obtain ⟨_, _, _, _, _, e⟩ := KR hl; subst e; rfl)))
structure Ev(K:Ow)(h:MD)(mg:Str->Option Mf)(Z1 Z2 Z3 Z4 Z5 C_Paper ka1 tc Pt:Mg)(ks1:Array (Option Mf))(kt0:Tok)(Rx:Tok)(Rv:Tok)(Ru:Tok)(kt2:Tok)(kt3:Tok)(kz1:Nat):Prop where
 X:K.In h
 G:h.Ns Mx mg
 y0:Sm K Mx "Stroke"=some (some (.ref Z1))
 y1:Sm K Mx "Put"=some (some (.ref Z2))
 y2:Sm K Mx "Strike"=some (some (.ref Z3))
 y3:Sm K Mx "Dress"=some (some (.ref Z4))
 y4:Sm K Mx "Move"=some (some (.ref Z5))
 y5:Sm K Mx "Paper"=some (some (.ref C_Paper))
 y6:So K (.builtin "object.__class__") "__get__"=some (some (.builtin "getset_descriptor.__get__"))
 y7:Q6 K (.builtin "object.__class__")=some true
 y8:Sj K (.ref Z1) "__class__"=some (some (.builtin "object.__class__"))
 y9:Qi K Z1 (.type "object")=some true
 ya:Nl K (.ref Z1) (.ref Z4)=some false
 yb:Nl K (.ref Z1) (.ref Z5)=some false
 yc:Nl K (.ref Z1) (.ref Z2)=some false
 yd:Nl K (.ref Z1) (.ref Z3)=some false
 ye:Sj K (.ref Z2) "__class__"=some (some (.builtin "object.__class__"))
 yf:Qi K Z2 (.type "object")=some true
 yg:Nl K (.ref Z2) (.ref Z4)=some false
 yh:Nl K (.ref Z2) (.ref Z5)=some false
 yi:Nl K (.ref Z2) (.ref Z2)=some true
 yj:Nl K (.ref Z2) (.ref Z3)=some false
 yk:Sj K (.ref Z3) "__class__"=some (some (.builtin "object.__class__"))
 yl:Qi K Z3 (.type "object")=some true
 ym:Nl K (.ref Z3) (.ref Z4)=some false
 yn:Nl K (.ref Z3) (.ref Z5)=some false
 yo:Nl K (.ref Z3) (.ref Z2)=some false
 yp:Nl K (.ref Z3) (.ref Z3)=some true
 yq:Sj K (.ref Z4) "__class__"=some (some (.builtin "object.__class__"))
 yr:Qi K Z4 (.type "object")=some true
 ys:Nl K (.ref Z4) (.ref Z4)=some true
 yt:Nl K (.ref Z4) (.ref Z5)=some false
 yu:Nl K (.ref Z4) (.ref Z2)=some false
 yv:Nl K (.ref Z4) (.ref Z3)=some false
 yw:Sj K (.ref Z5) "__class__"=some (some (.builtin "object.__class__"))
 yx:Qi K Z5 (.type "object")=some true
 yy:Nl K (.ref Z5) (.ref Z4)=some false
 yz:Nl K (.ref Z5) (.ref Z5)=some true
 y00:Nl K (.ref Z5) (.ref Z2)=some false
 y01:Nl K (.ref Z5) (.ref Z3)=some false
 y02:Cls K Z1
 y03:Sn K Z1=true
 y04:Pe K (.ref Z1)=true
 y05:Sj K (.ref Z1) "anchor"=some none
 y06:Sj K (.ref Z1) "name"=some none
 y07:Sj K (.ref Z1) "names"=some none
 y08:Sj K (.ref Z1) "signs"=some none
 y09:Sj K (.ref Z1) "time"=some none
 y0a:Sj K (.ref Z1) "word"=some none
 y0b:Cls K Z2
 y0c:Sn K Z2=true
 y0d:Pe K (.ref Z2)=true
 y0e:Sj K (.ref Z2) "anchor"=some none
 y0f:Sj K (.ref Z2) "name"=some none
 y0g:Sj K (.ref Z2) "names"=some none
 y0h:Sj K (.ref Z2) "signs"=some none
 y0i:Sj K (.ref Z2) "time"=some none
 y0j:Sj K (.ref Z2) "word"=some none
 y0k:Cls K Z3
 y0l:Sn K Z3=true
 y0m:Pe K (.ref Z3)=true
 y0n:Sj K (.ref Z3) "anchor"=some none
 y0o:Sj K (.ref Z3) "name"=some none
 y0p:Sj K (.ref Z3) "names"=some none
 y0q:Sj K (.ref Z3) "signs"=some none
 y0r:Sj K (.ref Z3) "time"=some none
 y0s:Sj K (.ref Z3) "word"=some none
 y0t:Cls K Z4
 y0u:Sn K Z4=true
 y0v:Pe K (.ref Z4)=true
 y0w:Sj K (.ref Z4) "anchor"=some none
 y0x:Sj K (.ref Z4) "name"=some none
 y0y:Sj K (.ref Z4) "names"=some none
 y0z:Sj K (.ref Z4) "signs"=some none
 y10:Sj K (.ref Z4) "time"=some none
 y11:Sj K (.ref Z4) "word"=some none
 y12:Cls K Z5
 y13:Sn K Z5=true
 y14:Pe K (.ref Z5)=true
 y15:Sj K (.ref Z5) "anchor"=some none
 y16:Sj K (.ref Z5) "name"=some none
 y17:Sj K (.ref Z5) "names"=some none
 y18:Sj K (.ref Z5) "signs"=some none
 y19:Sj K (.ref Z5) "time"=some none
 y1a:Sj K (.ref Z5) "word"=some none
 y1b:Cls K C_Paper
 y1c:Sn K C_Paper=true
 y1d:Pe K (.ref C_Paper)=true
 y1e:Sj K (.ref C_Paper) "old"=some none
 y1f:Sj K (.ref C_Paper) "drawn"=some none
 y1g:Sj K (.ref C_Paper) "states"=some none
 y1h:Sj K (.ref C_Paper) "greatest"=some none
 y1i:Sj K (.ref C_Paper) "time"=some none
 y1j:Sm K Mx "all"=some none
 y1k:Sm K Mx "dict"=some none
 y1l:Sm K Mx "isinstance"=some none
 y1m:Sm K Mx "len"=some none
 y1n:Sm K Mx "list"=some none
 y1o:Sm K Mx "min"=some none
 y1p:Sm K Mx "range"=some none
 y1q:Sm K Mx "sorted"=some none
 y1r:Sm K Mx "tuple"=some none
 y1s:Sm K Mx "zip"=some none
 y1t:Sm K Mx "STANDS"=some (some (.str "stands" kt0))
 y1u:Sm K Mx "START"=some (some (.ref ka1))
 y1v:K.lookup ka1=some ⟨.type "tuple",none,.seq #[.str "" Rx,.int 0 Rv,.int 0 Ru] kz1,ks1⟩
 y1w:Sm K Mx "WAITS"=some (some (.str "waits" kt2))
 y1x:Sm K Mx "WIPED"=some (some (.str "wiped" kt3))
 y1y:FnG K "_law_cell_at" kB
 y1z:FnG K "_law_pens" qG
 y20:FnG K "_law_mixed" nJ
 y21:FnG K "lay_behind" nI
 y22:FnG K "slots_made" nH
 y23:FnG K "old_slots" qz
 y24:FnG K "place_in_order" iS
 y25:FnG K "in_order" sy
 y26:MtG K Z1 "__init__" "Stroke.__init__" e7
 y27:CfG K Z1 "__init__" "Stroke.__init__" e7
 y28:MtG K Z2 "__init__" "Put.__init__" kC
 y29:MtG K Z3 "__init__" "Strike.__init__" il
 y2a:MtG K Z4 "__init__" "Dress.__init__" iU
 y2b:MtG K Z5 "__init__" "Move.__init__" jK
 y2c:FnG K "stroke_of" qy
 y2d:FnG K "chained" vL
 y2e:MtG K Z4 "slots" "Stroke.slots" dJ
 y2f:MtG K Z3 "slots" "Stroke.slots" dJ
 y2g:MtG K Z1 "slots" "Stroke.slots" dJ
 y2h:MtG K Z2 "slots" "Put.slots" qH
 y2i:MtG K Z5 "slots" "Move.slots" nR
 y2j:FnG K "slots_of" sx
 y2k:FnG K "marked" xY
 y2l:FnG K "is_placed" qA
 y2m:FnG K "effective" qB
 y2n:FnG K "signs_brought" jD
 y2o:MtG K Z4 "touched" "Stroke.touched" bV
 y2p:MtG K Z5 "touched" "Stroke.touched" bV
 y2q:MtG K Z2 "touched" "Stroke.touched" bV
 y2r:MtG K Z3 "touched" "Stroke.touched" bV
 y2s:MtG K Z1 "touched" "Stroke.touched" bV
 y2t:FnG K "signs_struck" kA
 y2u:FnG K "slots_taken" lZ
 y2v:FnG K "words_worn" nG
 y2w:FnG K "seated" xW
 y2x:FnG K "reading" vJ
 y2y:MtG K C_Paper "unwiped" "Paper.unwiped" jI
 y2z:MtG K C_Paper "view" "Paper.view" nM
 y30:FnG K "check_gap" qC
 y31:FnG K "anchor_at" qD
 y32:MtG K C_Paper "seats" "Paper.seats" l8
 y33:MtG K Z2 "row" "Put.row" vN
 y34:MtG K Z3 "row" "Strike.row" nK
 y35:MtG K Z4 "row" "Dress.row" qJ
 y36:MtG K Z5 "row" "Move.row" sA
 y37:MtG K C_Paper "draw" "Paper.draw" nQ
 y38:MtG K C_Paper "coming_name" "Paper.coming_name" gG
 y39:MtG K C_Paper "coming_time" "Paper.coming_time" gF
 y3a:MtG K C_Paper "put" "Paper.put" qI
 y3b:FnG K "check_stretch" jG
 y3c:FnG K "names_between" jE
 y3d:MtG K C_Paper "strike" "Paper.strike" kE
 y3e:MtD K C_Paper "dress" "Paper.dress" l9 ""
 y3f:MtG K C_Paper "part" "Paper.part" nN
 y3g:MtG K C_Paper "move" "Paper.move" nO
 y3h:FnG K "_law_do" vM
 y3i:MtG K C_Paper "strokes_in" "Paper.strokes_in" gZ
 y3j:MtG K C_Paper "waiting" "Paper.waiting" jH
 y3k:MtG K C_Paper "check_known" "Paper.check_known" gI
 y3l:MtG K C_Paper "state" "Paper.state" l6
 y3m:MtG K C_Paper "check_waits" "Paper.check_waits" gH
 y3n:MtG K C_Paper "let_stand" "Paper.let_stand" im
 y3o:MtG K C_Paper "wipe" "Paper.wipe" nL
 y3p:FnG K "_law_step" qF
 y3q:MtG K C_Paper "strokes" "Paper.strokes" jJ
 y3r:FnG K "_law_states" l5
 y3s:FnG K "picked" xX
 y3t:FnDn K "let_stand_all" jF
 y3u:FnDn K "wipe_all" sv
 y3v:FnG K "_law_told" qE
 y3w:FnG K "_law_decided" s__law_decided
 y3x:Q8 K "_law_decided"=some (tc,Pt)
 y3y:MtG K C_Paper "__init__" "Paper.__init__" iT
 y3z:FnG K "law" vK
section
variable{P:Mw}{w:MG}{base:MD}{K:Ow}{h:MD}{mg:Str->Option Mf}{Z1 Z2 Z3 Z4 Z5 C_Paper ka1 tc Pt:Mg}{ks1:Array (Option Mf)}{kt0:Tok}{Rx:Tok}{Rv:Tok}{Ru:Tok}{kt2:Tok}{kt3:Tok}{kz1:Nat}(E:Ev K h mg Z1 Z2 Z3 Z4 Z5 C_Paper ka1 tc Pt ks1 kt0 Rx Rv Ru kt2 kt3 kz1)
def Ev.z(_:Ev K h mg Z1 Z2 Z3 Z4 Z5 C_Paper ka1 tc Pt ks1 kt0 Rx Rv Ru kt2 kt3 kz1):Zz:=⟨Z1,Z2,Z3,Z4,Z5,C_Paper⟩
include E
theorem L1:Tx K mg E.z:=⟨(all_cons ⟨E.y02,E.y05⟩ (all_cons ⟨E.y0b,E.y0e⟩ (all_cons ⟨E.y0k,E.y0n⟩ (all_cons ⟨E.y0t,E.y0w⟩ (all_cons ⟨E.y12,E.y15⟩ (fun _ h=>nomatch h)))))),(all_cons ⟨E.y02,E.y06⟩ (all_cons ⟨E.y0b,E.y0f⟩ (all_cons ⟨E.y0k,E.y0o⟩ (all_cons ⟨E.y0t,E.y0x⟩ (all_cons ⟨E.y12,E.y16⟩ (fun _ h=>nomatch h)))))),(all_cons ⟨E.y02,E.y07⟩ (all_cons ⟨E.y0b,E.y0g⟩ (all_cons ⟨E.y0k,E.y0p⟩ (all_cons ⟨E.y0t,E.y0y⟩ (all_cons ⟨E.y12,E.y17⟩ (fun _ h=>nomatch h)))))),(all_cons ⟨E.y02,E.y08⟩ (all_cons ⟨E.y0b,E.y0h⟩ (all_cons ⟨E.y0k,E.y0q⟩ (all_cons ⟨E.y0t,E.y0z⟩ (all_cons ⟨E.y12,E.y18⟩ (fun _ h=>nomatch h)))))),(all_cons ⟨E.y02,E.y09⟩ (all_cons ⟨E.y0b,E.y0i⟩ (all_cons ⟨E.y0k,E.y0r⟩ (all_cons ⟨E.y0t,E.y10⟩ (all_cons ⟨E.y12,E.y19⟩ (fun _ h=>nomatch h)))))),(all_cons ⟨E.y02,E.y0a⟩ (all_cons ⟨E.y0b,E.y0j⟩ (all_cons ⟨E.y0k,E.y0s⟩ (all_cons ⟨E.y0t,E.y11⟩ (all_cons ⟨E.y12,E.y1a⟩ (fun _ h=>nomatch h)))))),E.y02,E.y0b,E.y0k,E.y0t,E.y12,E.y1b,E.y1e,E.y1f,E.y1g,E.y1h,E.y1i,NL E.X E.G E.y1j,NL E.X E.G E.y1k,NL E.X E.G E.y1l,NL E.X E.G E.y1m,NL E.X E.G E.y1n,NL E.X E.G E.y1o,NL E.X E.G E.y1p,NL E.X E.G E.y1q,NL E.X E.G E.y1r,NL E.X E.G E.y1s,qo (QJ E.X E.G E.y1t),CI (vs:=[.str "",.int 0,.int 0]) (QJ E.X E.G E.y1u) E.y1v (by show 3<=Mq;decide) (.cons ⟨_,rfl⟩ (.cons ⟨_,rfl⟩ (.cons ⟨_,rfl⟩ .nil))) fun _=>(RDs.cons jm (RDs.cons eh (RDs.cons eh RDs.nil))),qo (QJ E.X E.G E.y1w),qo (QJ E.X E.G E.y1x),QJ E.X E.G E.y3,(all_cons ⟨⟨E.y02,E.y8,E.y6,E.y7,E.y9⟩,E.ya⟩ (all_cons ⟨⟨E.y0b,E.ye,E.y6,E.y7,E.yf⟩,E.yg⟩ (all_cons ⟨⟨E.y0k,E.yk,E.y6,E.y7,E.yl⟩,E.ym⟩ (all_cons ⟨⟨E.y0t,E.yq,E.y6,E.y7,E.yr⟩,E.ys⟩ (all_cons ⟨⟨E.y12,E.yw,E.y6,E.y7,E.yx⟩,E.yy⟩ (fun _ h=>nomatch h)))))),QJ E.X E.G E.y4,(all_cons ⟨⟨E.y02,E.y8,E.y6,E.y7,E.y9⟩,E.yb⟩ (all_cons ⟨⟨E.y0b,E.ye,E.y6,E.y7,E.yf⟩,E.yh⟩ (all_cons ⟨⟨E.y0k,E.yk,E.y6,E.y7,E.yl⟩,E.yn⟩ (all_cons ⟨⟨E.y0t,E.yq,E.y6,E.y7,E.yr⟩,E.yt⟩ (all_cons ⟨⟨E.y12,E.yw,E.y6,E.y7,E.yx⟩,E.yz⟩ (fun _ h=>nomatch h)))))),QJ E.X E.G E.y1,(all_cons ⟨⟨E.y02,E.y8,E.y6,E.y7,E.y9⟩,E.yc⟩ (all_cons ⟨⟨E.y0b,E.ye,E.y6,E.y7,E.yf⟩,E.yi⟩ (all_cons ⟨⟨E.y0k,E.yk,E.y6,E.y7,E.yl⟩,E.yo⟩ (all_cons ⟨⟨E.y0t,E.yq,E.y6,E.y7,E.yr⟩,E.yu⟩ (all_cons ⟨⟨E.y12,E.yw,E.y6,E.y7,E.yx⟩,E.y00⟩ (fun _ h=>nomatch h)))))),QJ E.X E.G E.y2,(all_cons ⟨⟨E.y02,E.y8,E.y6,E.y7,E.y9⟩,E.yd⟩ (all_cons ⟨⟨E.y0b,E.ye,E.y6,E.y7,E.yf⟩,E.yj⟩ (all_cons ⟨⟨E.y0k,E.yk,E.y6,E.y7,E.yl⟩,E.yp⟩ (all_cons ⟨⟨E.y0t,E.yq,E.y6,E.y7,E.yr⟩,E.yv⟩ (all_cons ⟨⟨E.y12,E.yw,E.y6,E.y7,E.yx⟩,E.y01⟩ (fun _ h=>nomatch h))))))⟩
variable(T:Tx K mg E.z)
include T
def lh:=oZ P w base E.X E.G E.y1y 0 rB p7 (pO E.z (aD P w)) fun hr u v=>(al (fq (pU E8 (ak 1) (b7 b_len (by rfl) T.b_len PySem.boot_len (aa (ak 0) aj)) (bc _)) (av (aL (cV (ak 0) (ak 1)))) dM)
   (av (aL aw)))
def zU:=oZ P w base E.X E.G E.y1z 0 d5 u_ (uQ E.z (aD P w)) fun hr u v=>(al (aU (i:=1) d5.nd rfl (by walk_at "i") (aX d_ aw (aX dq (ak 0) aw)))
   (al (aU (i:=2) d5.nd rfl (by walk_at "i") (aX dq (aX fV (ak 0) aw) (ak 1)))
   (al (sU (i:=3) d5.nd rfl (by walk_at "i") (oA aj))
   (al (i9 MI rfl (zj (by rfl) T.b_range (aa (aX d_ aw (aX dq (aX fV (ak 0) aw) aw)) aj)) (aM (i:=4) d5.nd rfl (by walk_at "i")) (al (aU (i:=5) d5.nd rfl (by walk_at "i") (cV dP (aX dq (aX d_ (aX fV (ak 0) aw) (aX vB (ak 4) (aX d_ aw (aX dq (aX fV (ak 0) aw) aw)))) aw)))
   (av (bj (oB (ak 3) (aa (aX d_ (aX d_ (aX vB dP (ak 2)) (ak 5)) (aX vB dP (aX Bd (aX Bd (ak 1) aw) (ak 2)))) aj))))))
   (av (i8 (i:=3) rfl (by first|exact Or.inl rfl|exact Or.inr (Or.inl rfl))))))))
def pi:=oZ P w base E.X E.G E.y20 0 lY tK (sG E.z (aD P w)) fun hr u v=>(al (aU (i:=2) lY.nd rfl (by walk_at "i") (aX dq (aX vB (aX d_ (aX d_ (ak 0) (aX vB aw (ak 1))) aw) aw) aw))
   (av (aL (aX dq (aX vB (ak 2) (aX d_ (aX fV (ak 2) aw) aw)) aw))))
def ph:=oZ P w base E.X E.G E.y21 0 fO tI (sE E.z (aD P w)) fun hr u v=>(al (aU (i:=3) fO.nd rfl (by walk_at "i") (ak 1))
   (av (i9 MI rfl (dD (ak 2)) (aM (i:=4) fO.nd rfl (by walk_at "i")) (al (gv u (ak 0) (ak 4) (qO u (ak 0) (ak 3)))
   (al (gv u (ak 0) (ak 3) (ak 4))
   (av (aU (i:=3) fO.nd rfl (by walk_at "i") (ak 4))))))))
def jA:=oZ P w base E.X E.G E.y22 0 uz tH (sD E.z (aD P w)) fun hr u v=>(av (aL (fI (T:=["k"]) (M:=Ay0) (bg rfl (by kernel_rfl)) (fun cl C s₀ H₀ fp=>⟨(aM (i:=0) rL rfl (by walk_at "i")),iH,(aX d_ (ak 1) (fb (aa (ak 0) aj)))⟩) (Eg (by rfl) T.b_range (aa aw (aa (aX d_ (ak 1) aw) aj))))))
def rp:=oZ P w base E.X E.G E.y23 1 wA u0 (uI E.z (aD P w)) fun hr u v=>(av (aL (aF (jA E T) hr.m (by rfl) (aa (lA BQ (cZ (by rfl) T.k_START) AA (jr aw)) (aa (b7 b_len (by rfl) T.b_len PySem.boot_len (aa (ak 0) aj)) aj)))))
def qx:=oZ P w base E.X E.G E.y24 0 nA m3 (mP E.z (aD P w)) fun hr u v=>(av (aL (fb (aa (cV (ak 0) aw) (aa (cV (ak 0) aw) aj)))))
def ut:=oZ P w base E.X E.G E.y25 3 kj xg (wI E.z (aD P w)) fun hr u v=>(al (aU (i:=1) kj.nd rfl (by walk_at "i") pV)
   (al (sV MI rfl (ak 0) (aM (i:=2) kj.nd rfl (by walk_at "i")) (av (gv u (ak 1) (cV (ak 2) aw) (ak 2))))
   (av (aL (FO (qx E) hr.m rfl (by rfl) (by rfl) T.b_sorted (ak 1))))))
def dm:=L7 P w base E.X E.G E.y0 E.y27 fun F=>zV 0 F mJ lS (lM E.z (aD P w)) fun hr u v=>(al (hV T.fa_name (ak 0) (ak 1))
   (al (hV T.fa_time (ak 0) (ak 2))
   (al (hV T.fa_anchor (ak 0) (cZ (by rfl) T.k_START))
   (av (hV T.fa_names (ak 0) (fb aj))))))
def Hc:=JV P w base E.X E.G E.y1 E.y0c E.y0d E.y28 fun F=>zV 1 F rD p9 (pQ E.z (aD P w)) fun hr u v=>(al (bj (lB (dm E T) hr.m (by rfl) (aa (ak 0) (aa (ak 1) (aa (ak 2) aj)))))
   (al (hV T.fa_anchor (ak 0) (ak 3))
   (av (hV T.fa_signs (ak 0) (ak 4)))))
def zN:=JV P w base E.X E.G E.y2 E.y0l E.y0m E.y29 fun F=>zV 1 F mK lT (lN E.z (aD P w)) fun hr u v=>(al (bj (lB (dm E T) hr.m (by rfl) (aa (ak 0) (aa (ak 1) (aa (ak 2) aj)))))
   (av (hV T.fa_names (ak 0) (ak 3))))
def BP:=JV P w base E.X E.G E.y3 E.y0u E.y0v E.y2a fun F=>zV 1 F nF m6 (mS E.z (aD P w)) fun hr u v=>(al (bj (lB (dm E T) hr.m (by rfl) (aa (ak 0) (aa (ak 1) (aa (ak 2) aj)))))
   (al (hV T.fa_names (ak 0) (ak 3))
   (av (hV T.fa_word (ak 0) (ak 4)))))
def EU:=JV P w base E.X E.G E.y4 E.y13 E.y14 E.y2b fun F=>zV 1 F pJ oP (n8 E.z (aD P w)) fun hr u v=>(al (bj (lB (dm E T) hr.m (by rfl) (aa (ak 0) (aa (ak 1) (aa (ak 2) aj)))))
   (al (hV T.fa_names (ak 0) (ak 3))
   (av (hV T.fa_anchor (ak 0) (ak 4)))))
def rm:=oZ P w base E.X E.G E.y2c 3 gM uZ (uH E.z (aD P w)) fun hr u v=>(al (aU (i:=1) gM.nd rfl (by walk_at "i") (cV (ak 0) aw))
   (al (aU (i:=2) gM.nd rfl (by walk_at "i") (cV (ak 0) aw))
   (al (aU (i:=3) gM.nd rfl (by walk_at "i") (cV (ak 0) aw))
   (al (fq (bZ (iG u) (cV (ak 3) aw) dP (bc _)) (av (aL (jq (Hc E T) hr.m (by rfl) (aa (ak 1) (aa (ak 2) (aa (cV (ak 3) aw) (aa (cV (ak 3) aw) aj))))))) dM)
   (al (fq (bZ (iG u) (cV (ak 3) aw) dP (bc _)) (av (aL (jq (zN E T) hr.m (by rfl) (aa (ak 1) (aa (ak 2) (aa (cV (ak 3) aw) aj)))))) dM)
   (al (fq (bZ (iG u) (cV (ak 3) aw) dP (bc _)) (av (aL (jq (BP E T) hr.m (by rfl) (aa (ak 1) (aa (ak 2) (aa (cV (ak 3) aw) (aa (cV (ak 3) aw) aj))))))) dM)
   (av (aL (jq (EU E T) hr.m (by rfl) (aa (ak 1) (aa (ak 2) (aa (cV (ak 3) aw) (aa (cV (ak 3) aw) aj)))))))))))))
def CQ:=oZ P w base E.X E.G E.y2d 0 jk yZ (x_ E.z (aD P w)) fun hr u v=>(al (sU (i:=1) jk.nd rfl (by walk_at "i") (oA aj))
   (al (aU (i:=2) jk.nd rfl (by walk_at "i") (qO u (ak 0) (cZ (by rfl) T.k_START)))
   (al (Fs MI (pU Hh (ak 2) vT (bc _)) (al (bj (oB (ak 1) (aa (ak 2) aj)))
   (av (aU (i:=2) jk.nd rfl (by walk_at "i") (qO u (ak 0) (ak 2))))))
   (av (i8 (i:=1) rfl (by first|exact Or.inl rfl|exact Or.inr (Or.inl rfl)))))))
theorem gy:∀ {f:Mg} {fd:NB},Fun3 K "slots" "Stroke.slots" dJ f fd->FnOk P w K mg base pj 1 f fd Ad0 (bN K (ax E.z (aD P w))):=fun F=>zV 0 F rC p8 (pP E.z (aD P w)) fun hr u v=>(av (aL (oA aj)))
def fm:=F0 P w base T.cl_Dress E.y2e fun F=>(gy E T) F
def eJ:=F0 P w base T.cl_Strike E.y2f fun F=>(gy E T) F
def eG:=F0 P w base T.cl_Stroke E.y2g fun F=>(gy E T) F
def gX:=rZ P w base mg T.cl_Put E.y2h 1 wF va (uR E.z (aD P w)) fun hr u v=>(av (aL (aF (jA E T) hr.m (by rfl) (aa (bM T.fa_name (ak 0)) (aa (b7 b_len (by rfl) T.b_len PySem.boot_len (aa (bM T.fa_signs (ak 0)) aj)) aj)))))
def fU:=rZ P w base mg T.cl_Move E.y2i 1 uG tR (sN E.z (aD P w)) fun hr u v=>(av (aL (aF (jA E T) hr.m (by rfl) (aa (bM T.fa_name (ak 0)) (aa (b7 b_len (by rfl) T.b_len PySem.boot_len (aa (bM T.fa_names (ak 0)) aj)) aj)))))
def Ba:=oZ P w base E.X E.G E.y2j 4 kh xf (wH E.z (aD P w)) fun hr u v=>(al (aU (i:=2) kh.nd rfl (by walk_at "i") (FR u (cZ (by rfl) T.k_START) vT))
   (al (bj (aF (ph E) hr.m (by rfl) (aa (ak 2) (aa (cZ (by rfl) T.k_START) (aa (aF (rp E T) hr.m (by rfl) (aa (ak 0) aj)) aj)))))
   (al (i9 MI rfl (dD (fI (T:=Au0) (M:=An0) (bg rfl (by kernel_rfl)) (fun cl C s₀ H₀ fp=>⟨(aM (i:=0) uY rfl (by walk_at "i")),iH,(aF (rm E T) hr.m (by rfl) (aa (ak 0) aj))⟩) (dD (aF (ut E T) hr.m (by rfl) (aa (ak 1) aj))))) (aM (i:=3) kh.nd rfl (by walk_at "i")) (av (fq (Ax u (bM T.fa_anchor (ak 3)) (ak 2)) (av (bj (aF (ph E) hr.m (by rfl) (aa (ak 2) (aa (bM T.fa_anchor (ak 3)) (aa (f7 (k:=2) (all_cons ⟨_,(by decide),(eG E T)⟩ (all_cons ⟨_,(by decide),(gX E T)⟩ (all_cons ⟨_,(by decide),(eJ E T)⟩ (all_cons ⟨_,(by decide),(fm E T)⟩ (all_cons ⟨_,(by decide),(fU E T)⟩ (fun _ h=>nomatch h)))))) hr.m (ak 3)) aj)))))) dM)))
   (av (aL (aF (CQ E T) hr.m (by rfl) (aa (ak 2) aj)))))))
def zP:=oZ P w base E.X E.G E.y2k 0 B2 AK (An E.z (aD P w)) fun hr u v=>(av (aL (FQ u rfl (by rfl) T.b_dict (fI (T:=["key"]) (M:=["keys"]) (bg rfl (by kernel_rfl)) (fun cl C s₀ H₀ fp=>⟨(aM (i:=0) yQ rfl (by walk_at "i")),iH,(fb (aa (ak 0) (aa FU aj)))⟩) (dD (ak 0))))))
def zQ:=oZ P w base E.X E.G E.y2l 2 wB u4 (uJ E.z (aD P w)) fun hr u v=>(av (aL (b7 (IW rfl) (by rfl) T.b_all PyProof.Rows.boot_all (aa (fI (T:=["slot"]) (M:=Az0) (bg rfl (by kernel_rfl)) (fun cl C s₀ H₀ fp=>⟨(aM (i:=0) tu rfl (by walk_at "i")),iH,(JN u (ak 0) (ak 2))⟩) (dD (f7 (k:=2) (all_cons ⟨_,(by decide),(eG E T)⟩ (all_cons ⟨_,(by decide),(gX E T)⟩ (all_cons ⟨_,(by decide),(eJ E T)⟩ (all_cons ⟨_,(by decide),(fm E T)⟩ (all_cons ⟨_,(by decide),(fU E T)⟩ (fun _ h=>nomatch h)))))) hr.m (ak 0)))) aj))))
def zR:=oZ P w base E.X E.G E.y2m 4 jj u5 (uK E.z (aD P w)) fun hr u v=>(al (aU (i:=3) jj.nd rfl (by walk_at "i") (aF (zP E T) hr.m (by rfl) (aa (ak 1) aj)))
   (al (Ar (T:=Au0) (M:=Ae0) (i:=4) (bg rfl (by kernel_rfl)) jj.nd rfl rfl (fun cl C s₀ H₀ fp=>⟨(aM (i:=0) tx rfl (by walk_at "i")),(kg (Ax u (cV (ak 0) aw) (ak 4))),(aF (rm E T) hr.m (by rfl) (aa (ak 0) aj))⟩) (dD (aF (ut E T) hr.m (by rfl) (aa (ak 0) aj))))
   (av (aL (fI (T:=["stroke"]) (M:=Ae0) (bg rfl (by kernel_rfl)) (fun cl C s₀ H₀ fp=>⟨(aM (i:=0) tw rfl (by walk_at "i")),(kg (dO (aF (zQ E T) hr.m (by rfl) (aa (ak 0) (aa (ak 3) aj))))),(ak 0)⟩) (dD (ak 4)))))))
def rV:=oZ P w base E.X E.G E.y2n 2 cY oH (nV E.z (aD P w)) fun hr u v=>(al (aU (i:=2) cY.nd rfl (by walk_at "i") (FP u rfl (by rfl) T.b_dict (by rfl) T.b_zip (aa (aF (rp E T) hr.m (by rfl) (aa (ak 0) aj)) (aa (ak 0) aj))))
   (al (i9 MI rfl (dD (ak 1)) (aM (i:=3) cY.nd rfl (by walk_at "i")) (av (fq (dO (b7 (BH T.ik_Put) (by rfl) T.b_isinstance Oy (aa (ak 3) (aa (wV (by rfl) T.xm_Put) aj)))) (av (i9 MI rfl (GU (by rfl) T.b_zip (aa (f7 (k:=2) (all_cons ⟨_,(by decide),(eG E T)⟩ (all_cons ⟨_,(by decide),(gX E T)⟩ (all_cons ⟨_,(by decide),(eJ E T)⟩ (all_cons ⟨_,(by decide),(fm E T)⟩ (all_cons ⟨_,(by decide),(fU E T)⟩ (fun _ h=>nomatch h)))))) hr.m (ak 3)) (aa (bM T.fa_signs (ak 3)) aj))) (zm (n:=2) rfl (iO (aM (i:=4) cY.nd rfl (by walk_at "i")) (iO (aM (i:=5) cY.nd rfl (by walk_at "i")) zn))) (av (gv u (ak 2) (ak 4) (ak 5))))) dM)))
   (av (aL (ak 2)))))
theorem cN:∀ {f:Mg} {fd:NB},Fun3 K "touched" "Stroke.touched" bV f fd->FnOk P w K mg base pj 1 f fd Ad0 (bN K (ao E.z (aD P w))):=fun F=>zV 0 F nB m4 (mQ E.z (aD P w)) fun hr u v=>(av (aL (kO b_list (by rfl) T.b_list PyProof.Rows.boot_list (aa (bM T.fa_names (ak 0)) aj))))
def fM:=F0 P w base T.cl_Dress E.y2o fun F=>(cN E T) F
def gA:=F0 P w base T.cl_Move E.y2p fun F=>(cN E T) F
def ib:=F0 P w base T.cl_Put E.y2q fun F=>(cN E T) F
def fj:=F0 P w base T.cl_Strike E.y2r fun F=>(cN E T) F
def fi:=F0 P w base T.cl_Stroke E.y2s fun F=>(cN E T) F
def ur:=oZ P w base E.X E.G E.y2t 1 eE p5 (pM E.z (aD P w)) fun hr u v=>(al (aU (i:=1) eE.nd rfl (by walk_at "i") pV)
   (al (i9 MI rfl (dD (ak 0)) (aM (i:=2) eE.nd rfl (by walk_at "i")) (av (fq (dO (b7 (BH T.ik_Strike) (by rfl) T.b_isinstance Oy (aa (ak 2) (aa (wV (by rfl) T.xm_Strike) aj)))) (av (i9 MI rfl (dD (f7 (k:=1) (all_cons ⟨_,(by decide),(fi E T)⟩ (all_cons ⟨_,(by decide),(ib E T)⟩ (all_cons ⟨_,(by decide),(fj E T)⟩ (all_cons ⟨_,(by decide),(fM E T)⟩ (all_cons ⟨_,(by decide),(gA E T)⟩ (fun _ h=>nomatch h)))))) hr.m (ak 2))) (aM (i:=3) eE.nd rfl (by walk_at "i")) (av (gv u (ak 1) (ak 3) FU)))) dM)))
   (av (aL (ak 1)))))
def vA:=oZ P w base E.X E.G E.y2u 2 dI rM (rE E.z (aD P w)) fun hr u v=>(al (aU (i:=1) dI.nd rfl (by walk_at "i") pV)
   (al (i9 MI rfl (dD (ak 0)) (aM (i:=2) dI.nd rfl (by walk_at "i")) (av (fq (dO (b7 (BH T.ik_Move) (by rfl) T.b_isinstance Oy (aa (ak 2) (aa (wV (by rfl) T.xm_Move) aj)))) (av (i9 MI rfl (GU (by rfl) T.b_zip (aa (f7 (k:=1) (all_cons ⟨_,(by decide),(fi E T)⟩ (all_cons ⟨_,(by decide),(ib E T)⟩ (all_cons ⟨_,(by decide),(fj E T)⟩ (all_cons ⟨_,(by decide),(fM E T)⟩ (all_cons ⟨_,(by decide),(gA E T)⟩ (fun _ h=>nomatch h)))))) hr.m (ak 2)) (aa (f7 (k:=2) (all_cons ⟨_,(by decide),(eG E T)⟩ (all_cons ⟨_,(by decide),(gX E T)⟩ (all_cons ⟨_,(by decide),(eJ E T)⟩ (all_cons ⟨_,(by decide),(fm E T)⟩ (all_cons ⟨_,(by decide),(fU E T)⟩ (fun _ h=>nomatch h)))))) hr.m (ak 2)) aj))) (zm (n:=2) rfl (iO (aM (i:=3) dI.nd rfl (by walk_at "i")) (iO (aM (i:=4) dI.nd rfl (by walk_at "i")) zn))) (av (gv u (ak 1) (ak 3) (ak 4))))) dM)))
   (av (aL (ak 1)))))
def xI:=oZ P w base E.X E.G E.y2v 1 fN tG (sC E.z (aD P w)) fun hr u v=>(al (aU (i:=1) fN.nd rfl (by walk_at "i") pV)
   (al (i9 MI rfl (dD (ak 0)) (aM (i:=2) fN.nd rfl (by walk_at "i")) (av (fq (dO (b7 (BH T.ik_Dress) (by rfl) T.b_isinstance Oy (aa (ak 2) (aa (wV (by rfl) T.xm_Dress) aj)))) (av (i9 MI rfl (dD (f7 (k:=1) (all_cons ⟨_,(by decide),(fi E T)⟩ (all_cons ⟨_,(by decide),(ib E T)⟩ (all_cons ⟨_,(by decide),(fj E T)⟩ (all_cons ⟨_,(by decide),(fM E T)⟩ (all_cons ⟨_,(by decide),(gA E T)⟩ (fun _ h=>nomatch h)))))) hr.m (ak 2))) (aM (i:=3) fN.nd rfl (by walk_at "i")) (av (gv u (ak 1) (ak 3) (bM T.fa_word (ak 2)))))) dM)))
   (av (aL (ak 1)))))
def zO:=oZ P w base E.X E.G E.y2w 5 dA AI (Al E.z (aD P w)) fun hr u v=>(al (aU (i:=3) dA.nd rfl (by walk_at "i") (aF (Ba E T) hr.m (by rfl) (aa (ak 0) (aa (ak 1) aj))))
   (al (aU (i:=4) dA.nd rfl (by walk_at "i") (aF (zR E T) hr.m (by rfl) (aa (ak 1) (aa (ak 2) (aa (aF (zP E T) hr.m (by rfl) (aa (ak 3) aj)) aj)))))
   (al (aU (i:=5) dA.nd rfl (by walk_at "i") (aF (rV E T) hr.m (by rfl) (aa (ak 0) (aa (ak 4) aj))))
   (al (aU (i:=6) dA.nd rfl (by walk_at "i") (aF (ur E T) hr.m (by rfl) (aa (ak 4) aj)))
   (al (aU (i:=7) dA.nd rfl (by walk_at "i") (aF (vA E T) hr.m (by rfl) (aa (ak 4) aj)))
   (al (aU (i:=8) dA.nd rfl (by walk_at "i") (aF (xI E T) hr.m (by rfl) (aa (ak 4) aj)))
   (al (aU (i:=9) dA.nd rfl (by walk_at "i") pV)
   (al (HC MI rfl (ak 5) (aM (i:=10) dA.nd rfl (by walk_at "i")) (av (fq (vS u (ak 10) (ak 6)) (av (gv u (ak 9) (wU u (ak 7) (ak 10) (ak 10)) (ak 10))) dM)))
   (al (Ar (T:=["slot"]) (M:=Ac0) (i:=11) (bg rfl (by kernel_rfl)) dA.nd rfl rfl (fun cl C s₀ H₀ fp=>⟨(aM (i:=0) yO rfl (by walk_at "i")),(kg (Ax u (ak 0) (ak 10))),(fb (aa (ak 0) (aa (qO u (ak 10) (ak 0)) aj)))⟩) (dD (ak 3)))
   (av (aL (fI (T:=["slot","name"]) (M:=Ai0) (bg rfl (by kernel_rfl)) (fun cl C s₀ H₀ fp=>⟨(zm (n:=2) rfl (iO (aM (i:=0) qQ rfl (by walk_at "i")) (iO (aM (i:=1) qQ rfl (by walk_at "i")) zn))),iH,(fb (aa (ak 0) (aa (ak 1) (aa (qO u (ak 7) (ak 1)) (aa (wU u (ak 10) (ak 1) dP) aj)))))⟩) (dD (ak 11))))))))))))))
def CP:=oZ P w base E.X E.G E.y2x 6 Af yY (x9 E.z (aD P w)) fun hr u v=>(av (aL (fI (T:=["seat"]) (M:=Ak0) (bg rfl (by kernel_rfl)) (fun cl C s₀ H₀ fp=>⟨(aM (i:=0) w6 rfl (by walk_at "i")),iH,(lA BQ (ak 0) (jr aw) AA)⟩) (dD (aF (zO E T) hr.m (by rfl) (aa (ak 0) (aa (ak 1) (aa (ak 2) aj))))))))
def jg:=rZ P w base mg T.cl_Paper E.y2y 0 pH oN (nZ E.z (aD P w)) fun hr u v=>(av (aL (Bq (T:=Au0) (M:=Ad0) (bg rfl (by kernel_rfl)) (fun cl C s₀ H₀ fp=>⟨(aM (i:=0) mZ rfl (by walk_at "i")),(kg (bZ (BR u) (qO u (fu T.cl_Paper T.na_Paper_states cm (ak 1)) (cV (ak 0) aw)) (cZ (by rfl) T.k_WIPED) (bc _))),(cV (ak 0) aw)⟩) (fu T.cl_Paper T.na_Paper_drawn c7 (ak 0)))))
def vq:=rZ P w base mg T.cl_Paper E.y2z 7 uD tN (sJ E.z (aD P w)) fun hr u v=>(av (aL (aF (CP E T) hr.m (by rfl) (aa (fu T.cl_Paper T.na_Paper_old o7 (ak 0)) (aa (fu T.cl_Paper T.na_Paper_drawn c7 (ak 0)) (aa (b_ (jg E T) jc hr.m (ak 0)) aj))))))
def rq:=oZ P w base E.X E.G E.y30 0 wC u6 (uL E.z (aD P w)) fun hr u v=>(av (fq (td (tj E9 E9 aw (ak 0) (ak 1))) (av oz) dM))
def rA:=oZ P w base E.X E.G E.y31 0 wD u7 (uM E.z (aD P w)) fun hr u v=>(al (fq (bZ (iG u) (ak 1) aw (bc _)) (av (aL (cZ (by rfl) T.k_START))) dM)
   (av (aL (cV (cV (ak 0) (aX Bd (ak 1) aw)) aw))))
def fk:=rZ P w base mg T.cl_Paper E.y32 6 su rP (rH E.z (aD P w)) fun hr u v=>(av (aL (aF (zO E T) hr.m (by rfl) (aa (fu T.cl_Paper T.na_Paper_old o7 (ak 0)) (aa (fu T.cl_Paper T.na_Paper_drawn c7 (ak 0)) (aa (b_ (jg E T) jc hr.m (ak 0)) aj))))))
def A7:=rZ P w base mg T.cl_Put E.y33 0 Ag za (yB E.z (aD P w)) fun hr u v=>(av (aL (fb (aa (bM T.fa_name (ak 0)) (aa (bM T.fa_time (ak 0)) (aa (fb (aa dP (aa (bM T.fa_anchor (ak 0)) (aa (bM T.fa_signs (ak 0)) aj)))) aj))))))
def vp:=rZ P w base mg T.cl_Strike E.y34 0 uB tL (sH E.z (aD P w)) fun hr u v=>(av (aL (fb (aa (bM T.fa_name (ak 0)) (aa (bM T.fa_time (ak 0)) (aa (fb (aa dP (aa (bM T.fa_names (ak 0)) aj))) aj))))))
def xG:=rZ P w base mg T.cl_Dress E.y35 0 wG vd (uT E.z (aD P w)) fun hr u v=>(av (aL (fb (aa (bM T.fa_name (ak 0)) (aa (bM T.fa_time (ak 0)) (aa (fb (aa dP (aa (bM T.fa_names (ak 0)) (aa (bM T.fa_word (ak 0)) aj)))) aj))))))
def zM:=rZ P w base mg T.cl_Move E.y36 0 xV xh (wJ E.z (aD P w)) fun hr u v=>(av (aL (fb (aa (bM T.fa_name (ak 0)) (aa (bM T.fa_time (ak 0)) (aa (fb (aa dP (aa (bM T.fa_names (ak 0)) (aa (bM T.fa_anchor (ak 0)) aj)))) aj))))))
def fT:=rZ P w base mg T.cl_Paper E.y37 1 uF tQ (sM E.z (aD P w)) fun hr u v=>(al (bj (oB (fu T.cl_Paper T.na_Paper_drawn c7 (ak 0)) (aa (f7 (k:=1) (all_cons ⟨_,(by decide),(A7 E T)⟩ (all_cons ⟨_,(by decide),(vp E T)⟩ (all_cons ⟨_,(by decide),(xG E T)⟩ (all_cons ⟨_,(by decide),(zM E T)⟩ (fun _ h=>nomatch h))))) hr.m (ak 1)) aj)))
   (al (gv u (fu T.cl_Paper T.na_Paper_states cm (ak 0)) (bM T.fa_name (ak 1)) (cZ (by rfl) T.k_WAITS))
   (al (gv u (fu T.cl_Paper T.na_Paper_greatest iE (ak 0)) (cV (bM T.fa_name (ak 1)) aw) (cV (bM T.fa_name (ak 1)) aw))
   (al (JA T.cl_Paper T.na_Paper_time mz (by decide) (ak 0) (bM T.fa_time (ak 1)))
   (av (aL (bM T.fa_name (ak 1))))))))
def cQ:=rZ P w base mg T.cl_Paper E.y38 0 kq j0 (jV E.z (aD P w)) fun hr u v=>(av (aL (fb (aa (ak 1) (aa (aX d_ (wU u (fu T.cl_Paper T.na_Paper_greatest iE (ak 0)) (ak 1) aw) aw) aj)))))
def cO:=rZ P w base mg T.cl_Paper E.y39 0 ko jZ (jU E.z (aD P w)) fun hr u v=>(av (aL (aX d_ (fu T.cl_Paper T.na_Paper_time mz (ak 0)) aw)))
def pd:=rZ P w base mg T.cl_Paper E.y3a 7 nC vc (uS E.z (aD P w)) fun hr u v=>(al (aU (i:=4) nC.nd rfl (by walk_at "i") (b_ (fk E T) fg hr.m (ak 0)))
   (al (bj (aF (rq E) hr.m (by rfl) (aa (ak 2) (aa (b7 b_len (by rfl) T.b_len PySem.boot_len (aa (ak 4) aj)) aj))))
   (av (aL (bQ (fT E T) fR hr.m (ak 0) (aa (jq (Hc E T) hr.m (by rfl) (aa (bQ (cQ E T) cK hr.m (ak 0) (aa (ak 1) aj)) (aa (b_ (cO E T) cJ hr.m (ak 0)) (aa (aF (rA E T) hr.m (by rfl) (aa (ak 4) (aa (ak 2) aj))) (aa (ak 3) aj))))) aj))))))
def gC:=oZ P w base E.X E.G E.y3b 0 pF oK (nX E.z (aD P w)) fun hr u v=>(al (fq (td (tj E9 E8 aw (ak 0) (ak 2))) (av oz) dM)
   (av (fq (td (tj E8 E9 (ak 0) (ak 1) (ak 2))) (av oz) dM)))
def gB:=oZ P w base E.X E.G E.y3c 0 pE oJ (nW E.z (aD P w)) fun hr u v=>(av (aL (kO b_tuple (by rfl) T.b_tuple PyProof.Rows.boot_tuple (aa (fI (T:=["seat"]) (M:=AA0) (bg rfl (by kernel_rfl)) (fun cl C s₀ H₀ fp=>⟨(aM (i:=0) mX rfl (by walk_at "i")),iH,(cV (ak 0) aw)⟩) (dD (lA BQ (ak 0) (jr (ak 1)) (jr (ak 2))))) aj))))
def rU:=rZ P w base mg T.cl_Paper E.y3d 7 jC p_ (pR E.z (aD P w)) fun hr u v=>(al (aU (i:=4) jC.nd rfl (by walk_at "i") (b_ (fk E T) fg hr.m (ak 0)))
   (al (bj (aF (gC E) hr.m (by rfl) (aa (ak 2) (aa (ak 3) (aa (b7 b_len (by rfl) T.b_len PySem.boot_len (aa (ak 4) aj)) aj)))))
   (av (aL (bQ (fT E T) fR hr.m (ak 0) (aa (jq (zN E T) hr.m (by rfl) (aa (bQ (cQ E T) cK hr.m (ak 0) (aa (ak 1) aj)) (aa (b_ (cO E T) cJ hr.m (ak 0)) (aa (aF (gB E T) hr.m (by rfl) (aa (ak 4) (aa (ak 2) (aa (ak 3) aj)))) aj)))) aj))))))
def um:=Ll P w base T.cl_Paper E.y3e (fun d s us X hl=>(fun (hl':us.length=5)=>match us,hl' with|[_,_,_,_,_],_=>P3 X rfl d rfl rfl rfl) (by simpa using hl)) fun F=>zV 7 F km rQ (rJ E.z (aD P w)) fun hr u v=>(al (aU (i:=5) km.nd rfl (by walk_at "i") (b_ (fk E T) fg hr.m (ak 0)))
   (al (bj (aF (gC E) hr.m (by rfl) (aa (ak 2) (aa (ak 3) (aa (b7 b_len (by rfl) T.b_len PySem.boot_len (aa (ak 5) aj)) aj)))))
   (av (aL (bQ (fT E T) fR hr.m (ak 0) (aa (jq (BP E T) hr.m (by rfl) (aa (bQ (cQ E T) cK hr.m (ak 0) (aa (ak 1) aj)) (aa (b_ (cO E T) cJ hr.m (ak 0)) (aa (aF (gB E T) hr.m (by rfl) (aa (ak 5) (aa (ak 2) (aa (ak 3) aj)))) (aa (ak 4) aj))))) aj))))))
def vt:=rZ P w base mg T.cl_Paper E.y3f 8 uE tO (sK E.z (aD P w)) fun hr u v=>(av (aL (bQ (pd E T) oC hr.m (ak 0) (aa (ak 1) (aa (ak 2) (aa dP aj))))))
def vy:=rZ P w base mg T.cl_Paper E.y3g 7 iJ tP (sL E.z (aD P w)) fun hr u v=>(al (aU (i:=5) iJ.nd rfl (by walk_at "i") (b_ (fk E T) fg hr.m (ak 0)))
   (al (bj (aF (gC E) hr.m (by rfl) (aa (ak 2) (aa (ak 3) (aa (b7 b_len (by rfl) T.b_len PySem.boot_len (aa (ak 5) aj)) aj)))))
   (al (bj (aF (rq E) hr.m (by rfl) (aa (ak 4) (aa (b7 b_len (by rfl) T.b_len PySem.boot_len (aa (ak 5) aj)) aj))))
   (al (aU (i:=6) iJ.nd rfl (by walk_at "i") (aF (gB E T) hr.m (by rfl) (aa (ak 5) (aa (ak 2) (aa (ak 3) aj)))))
   (av (aL (bQ (fT E T) fR hr.m (ak 0) (aa (jq (EU E T) hr.m (by rfl) (aa (bQ (cQ E T) cK hr.m (ak 0) (aa (ak 1) aj)) (aa (b_ (cO E T) cJ hr.m (ak 0)) (aa (ak 6) (aa (aF (rA E T) hr.m (by rfl) (aa (ak 5) (aa (ak 4) aj))) aj))))) aj))))))))
def CS:=oZ P w base E.X E.G E.y3h 9 gY y_ (yA E.z (aD P w)) fun hr u v=>(al (aU (i:=3) gY.nd rfl (by walk_at "i") (b7 b_len (by rfl) T.b_len PySem.boot_len (aa (b_ (vq E T) uV hr.m (ak 0)) aj)))
   (al (aU (i:=4) gY.nd rfl (by walk_at "i") (aX dq (ak 2) aw))
   (al (aU (i:=5) gY.nd rfl (by walk_at "i") (aX dq (aX fV (ak 2) aw) (aX d_ (ak 3) aw)))
   (al (fq (PW.pt (E_ (pU E8 (ak 4) aw (bc _)) (C1 (bZ (iG u) (ak 5) (ak 3) (bc _))))) (al (bj (bQ (pd E T) oC hr.m (ak 0) (aa (ak 1) (aa (ak 5) (aa (lA BQ dP (jr (aX dq (aX fV (ak 2) aw) aw)) (jr (aX d_ (aX d_ (aX dq (aX fV (ak 2) aw) aw) aw) (aX dq (aX fV (ak 2) aw) aw)))) aj)))))
   (av HB)) dM)
   (al (aU (i:=6) gY.nd rfl (by walk_at "i") (aX d_ (aX d_ (ak 5) aw) (aX dq (aX fV (ak 2) aw) (b7 (b_min rfl) (by rfl) T.b_min boot_min (aa aw (aa (aX Bd (ak 3) (ak 5)) aj))))))
   (av (fq (bZ (iG u) (ak 4) aw (bc _)) (av (bj (bQ (rU E T) rK hr.m (ak 0) (aa (ak 1) (aa (ak 5) (aa (ak 6) aj)))))) (av (fq (bZ (iG u) (ak 4) aw (bc _)) (av (bj (bQ (um E T) tq hr.m (ak 0) (aa (ak 1) (aa (ak 5) (aa (ak 6) (aa (cV (oA (aa dP (aa dP (aa dP (aa dP aj))))) (aX dq (aX fV (ak 2) aw) aw)) aj))))))) (av (fq (bZ (iG u) (ak 4) aw (bc _)) (av (bj (bQ (vt E T) uW hr.m (ak 0) (aa (ak 1) (aa (ak 5) aj))))) (av (bj (bQ (vy E T) uX hr.m (ak 0) (aa (ak 1) (aa (ak 5) (aa (ak 6) (aa (aX dq (aX fV (ak 2) aw) (aX d_ (ak 3) aw)) aj))))))))))))))))))
def gL:=rZ P w base mg T.cl_Paper E.y3i 0 lL kT (kF E.z (aD P w)) fun hr u v=>(av (aL (Bq (T:=Au0) (M:=AF0) (bg rfl (by kernel_rfl)) (fun cl C s₀ H₀ fp=>⟨(aM (i:=0) jY rfl (by walk_at "i")),(kg (bZ (iG u) (qO u (fu T.cl_Paper T.na_Paper_states cm (ak 1)) (cV (ak 0) aw)) (ak 2) (bc _))),(ak 0)⟩) (fu T.cl_Paper T.na_Paper_drawn c7 (ak 0)))))
def cx:=rZ P w base mg T.cl_Paper E.y3j 1 pG oM (nY E.z (aD P w)) fun hr u v=>(av (aL (fI (T:=Au0) (M:=Ad0) (bg rfl (by kernel_rfl)) (fun cl C s₀ H₀ fp=>⟨(aM (i:=0) mY rfl (by walk_at "i")),iH,(cV (ak 0) aw)⟩) (dD (bQ (gL E T) gK hr.m (ak 0) (aa (cZ (by rfl) T.k_WAITS) aj))))))
def lf:=rZ P w base mg T.cl_Paper E.y3k 0 kz j6 (jX E.z (aD P w)) fun hr u v=>(av (fq (vS u (ak 1) (fu T.cl_Paper T.na_Paper_states cm (ak 0))) (av oz) dM))
def ic:=rZ P w base mg T.cl_Paper E.y3l 1 sr rO (rG E.z (aD P w)) fun hr u v=>(al (bj (bQ (lf E T) kR hr.m (ak 0) (aa (ak 1) aj)))
   (av (aL (qO u (fu T.cl_Paper T.na_Paper_states cm (ak 0)) (ak 1)))))
def gg:=rZ P w base mg T.cl_Paper E.y3m 2 kt j5 (jW E.z (aD P w)) fun hr u v=>(av (fq (bZ (BR u) (bQ (ic E T) h8 hr.m (ak 0) (aa (ak 1) aj)) (cZ (by rfl) T.k_WAITS) (bc _)) (av oz) dM))
def eP:=rZ P w base mg T.cl_Paper E.y3n 3 mL lU (lO E.z (aD P w)) fun hr u v=>(al (bj (bQ (gg E T) f_ hr.m (ak 0) (aa (ak 1) aj)))
   (av (gv u (fu T.cl_Paper T.na_Paper_states cm (ak 0)) (ak 1) (cZ (by rfl) T.k_STANDS))))
def iQ:=rZ P w base mg T.cl_Paper E.y3o 3 uC tM (sI E.z (aD P w)) fun hr u v=>(al (bj (bQ (gg E T) f_ hr.m (ak 0) (aa (ak 1) aj)))
   (av (gv u (fu T.cl_Paper T.na_Paper_states cm (ak 0)) (ak 1) (cZ (by rfl) T.k_WIPED))))
def zT:=oZ P w base E.X E.G E.y3p 10 gO u9 (uO E.z (aD P w)) fun hr u v=>(al (aU (i:=3) gO.nd rfl (by walk_at "i") (aF (pi E) hr.m (by rfl) (aa (ak 2) (aa aw aj))))
   (al (aU (i:=4) gO.nd rfl (by walk_at "i") (b_ (cx E T) cw hr.m (ak 0)))
   (av (fq (PW.pt (C3 (bZ (iG u) (aX dq (ak 2) aw) aw (bc _)) (zY (bZ (BR u) (ak 4) (oA aj) (bc _))))) (al (aU (i:=5) gO.nd rfl (by walk_at "i") (cV (ak 4) (aX dq (aX fV (ak 3) aw) (b7 b_len (by rfl) T.b_len PySem.boot_len (aa (ak 4) aj)))))
   (av (fq (bZ (iG u) (aX dq (ak 3) aw) aw (bc _)) (av (bj (bQ (eP E T) eL hr.m (ak 0) (aa (ak 5) aj)))) (av (bj (bQ (iQ E T) iM hr.m (ak 0) (aa (ak 5) aj))))))) (av (bj (aF (CS E T) hr.m (by rfl) (aa (ak 0) (aa (cV (ak 1) (aX dq (aX fV (ak 2) aw) (b7 b_len (by rfl) T.b_len PySem.boot_len (aa (ak 1) aj)))) (aa (ak 3) aj))))))))))
def fL:=rZ P w base mg T.cl_Paper E.y3q 0 pI oO (n6 E.z (aD P w)) fun hr u v=>(av (aL (kO b_list (by rfl) T.b_list PyProof.Rows.boot_list (aa (fu T.cl_Paper T.na_Paper_drawn c7 (ak 0)) aj))))
def mC:=oZ P w base E.X E.G E.y3r 2 sn rN (rF E.z (aD P w)) fun hr u v=>(av (aL (fI (T:=["_law_row"]) (M:=AM0) (bg rfl (by kernel_rfl)) (fun cl C s₀ H₀ fp=>⟨(aM (i:=0) pY rfl (by walk_at "i")),iH,(fb (aa (cV (ak 0) aw) (aa (bQ (ic E T) h8 hr.m (ak 1) (aa (cV (ak 0) aw) aj)) aj)))⟩) (dD (b_ (fL E T) fK hr.m (ak 0))))))
def pf{cf:Mg}{spc:br}(V:Fv3 P w K mg base 3 cf spc):=oZ P w base E.X E.G E.y3s 3 B1 (AJ E.z (aD P w) cf spc) (Am E.z (aD P w) cf spc) fun hr u v=>(av (aL (fI (T:=Au0) (M:=Ar0) (bg rfl (by kernel_rfl)) (fun cl C s₀ H₀ fp=>⟨(aM (i:=0) yP rfl (by walk_at "i")),(kg (PW.pt (E_ (pU CW (ak 2) vT (bc _)) (C1 (dO (FS V hr.m (ak 2) (aa (ak 0) aj))))))),(cV (ak 0) aw)⟩) (dD (bQ (gL E T) gK hr.m (ak 0) (aa (cZ (by rfl) T.k_WAITS) aj))))))
def rW{cf:Mg}{spc:br}(V:Fv3 P w K mg base 3 cf spc):=J3 P w base E.X E.G E.y3t (fun d s us X hl=>(fun (hl':us.length=2)=>match us,hl' with|[_,_],_=>P3 X rfl d rfl rfl rfl) (by simpa using hl)) fun F=>zV 4 F cv (iB E.z (aD P w) cf spc) (iq E.z (aD P w) cf spc) fun hr u v=>(al (sU (i:=2) cv.nd rfl (by walk_at "i") (aF (pf E T V) hr.m (by rfl) (aa (ak 0) (aa (ak 1) aj))))
   (al (sV MI rfl (ak 2) (aM (i:=3) cv.nd rfl (by walk_at "i")) (av (bj (bQ (eP E T) eL hr.m (ak 0) (aa (ak 3) aj)))))
   (av (i8 (i:=2) rfl (by first|exact Or.inl rfl|exact Or.inr (Or.inl rfl))))))
def eQ{cf:Mg}{spc:br}(V:Fv3 P w K mg base 3 cf spc):=J2 P w base E.X E.G E.y3t (fun d s us X hl=>(fun (hl':us.length=1)=>match us,hl' with|[_],_=>P3 X rfl d rfl rfl rfl) (by simpa using hl)) fun F=>zV 4 F cv (iB E.z (aD P w) cf spc) (iq E.z (aD P w) cf spc) fun hr u v=>(al (sU (i:=2) cv.nd rfl (by walk_at "i") (aF (pf E T V) hr.m (by rfl) (aa (ak 0) (aa (ak 1) aj))))
   (al (sV MI rfl (ak 2) (aM (i:=3) cv.nd rfl (by walk_at "i")) (av (bj (bQ (eP E T) eL hr.m (ak 0) (aa (ak 3) aj)))))
   (av (i8 (i:=2) rfl (by first|exact Or.inl rfl|exact Or.inr (Or.inl rfl))))))
def A_{cf:Mg}{spc:br}(V:Fv3 P w K mg base 3 cf spc):=J3 P w base E.X E.G E.y3u (fun d s us X hl=>(fun (hl':us.length=2)=>match us,hl' with|[_,_],_=>P3 X rfl d rfl rfl rfl) (by simpa using hl)) fun F=>zV 4 F eT (oG E.z (aD P w) cf spc) (nU E.z (aD P w) cf spc) fun hr u v=>(al (sU (i:=2) eT.nd rfl (by walk_at "i") (aF (pf E T V) hr.m (by rfl) (aa (ak 0) (aa (ak 1) aj))))
   (al (sV MI rfl (ak 2) (aM (i:=3) eT.nd rfl (by walk_at "i")) (av (bj (bQ (iQ E T) iM hr.m (ak 0) (aa (ak 3) aj)))))
   (av (i8 (i:=2) rfl (by first|exact Or.inl rfl|exact Or.inr (Or.inl rfl))))))
def mB{cf:Mg}{spc:br}(V:Fv3 P w K mg base 3 cf spc):=J2 P w base E.X E.G E.y3u (fun d s us X hl=>(fun (hl':us.length=1)=>match us,hl' with|[_],_=>P3 X rfl d rfl rfl rfl) (by simpa using hl)) fun F=>zV 4 F eT (oG E.z (aD P w) cf spc) (nU E.z (aD P w) cf spc) fun hr u v=>(al (sU (i:=2) eT.nd rfl (by walk_at "i") (aF (pf E T V) hr.m (by rfl) (aa (ak 0) (aa (ak 1) aj))))
   (al (sV MI rfl (ak 2) (aM (i:=3) eT.nd rfl (by walk_at "i")) (av (bj (bQ (iQ E T) iM hr.m (ak 0) (aa (ak 3) aj)))))
   (av (i8 (i:=2) rfl (by first|exact Or.inl rfl|exact Or.inr (Or.inl rfl))))))
def zS{cf:Mg}{spc:br}(V:Fv3 P w K mg base 3 cf spc):=oZ P w base E.X E.G E.y3v 5 wE (u8 E.z (aD P w) cf spc) (uN E.z (aD P w) cf spc) fun hr u v=>(al (fq (PW.pt (C3 (dO (ak 1)) (zY (pU CW (ak 2) vT (bc _))))) (av (aL (aF (eQ E T V) hr.m (by rfl) (aa (ak 0) aj)))) dM)
   (al (fq (dO (ak 1)) (av (aL (aF (rW E T V) hr.m (by rfl) (aa (ak 0) (aa (ak 2) aj))))) dM)
   (al (fq (pU CW (ak 2) vT (bc _)) (av (aL (aF (mB E T V) hr.m (by rfl) (aa (ak 0) aj)))) dM)
   (av (aL (aF (A_ E T V) hr.m (by rfl) (aa (ak 0) (aa (ak 2) aj))))))))
def uu(hB:KH base mg)(hC:PySem.W.CodeHd base tc Pt):=Lu (sp:=ce E.z (aD P w) Pt) P w base E.X E.G E.y3w E.y3x 6 aH (p6 E.z (aD P w) Pt) fun {f A outer s H E'} hr u v=>⟨gu E.z (aD P w) Pt (ze s.heap.objs.size),(al (aU (i:=2) aH.nd rfl (by walk_at "i") (b7 b_len (by rfl) T.b_len PySem.boot_len (aa (b_ (cx E T) cw hr.m (ak 0)) aj)))
   (al (aU (i:=3) aH.nd rfl (by walk_at "i") (aX dq (aX fV (ak 1) aw) aw))
   (al (JB (i:=4) (clos:=uh s.heap.objs.size) (qn:=q_picks) (by kernel_rfl) aH.nd rfl (Or.inl rfl) (by kernel_rfl) rfl hC hB)
   (al (aU (i:=5) aH.nd rfl (by walk_at "i") (aF (mC E T) hr.m (by rfl) (aa (ak 0) aj)))
   (al (aU (i:=6) aH.nd rfl (by walk_at "i") (kN (iG u) (aX dq (ak 1) aw) aw (bc _)))
   (al (aU (i:=7) aH.nd rfl (by walk_at "i") (kO b_list (by rfl) T.b_list PyProof.Rows.boot_list (aa (b_ (fL E T) fK hr.m (ak 0)) aj)))
   (al (aU (i:=8) aH.nd rfl (by walk_at "i") (fI (T:=["_law_row"]) (M:=Aa0) (bg rfl (by kernel_rfl)) (fun cl C s₀ H₀ fp=>⟨(aM (i:=0) oE rfl (by walk_at "i")),(kg (PW.pt (C3 (bZ (iG u) (bQ (ic E T) h8 hr.m (ak 1) (aa (cV (ak 0) aw) aj)) dP (bc _)) (zY (bZ (BR u) (aX dq (aX d_ (cV (cV (ak 0) aw) aw) (cV (ak 0) aw)) aw) (ak 4) (bc _)))))),(cV (ak 0) aw)⟩) (dD (ak 7))))
   (al (aU (i:=9) aH.nd rfl (by walk_at "i") (ak 4))
   (al (fq (bZ (iG u) (aX dq (aX fV (ak 1) aw) aw) aw (bc _)) (al (aU (i:=9) aH.nd rfl (by walk_at "i") vT)
   (av (aU (i:=8) aH.nd rfl (by walk_at "i") (kO b_list (by rfl) T.b_list PyProof.Rows.boot_list (aa (b_ (cx E T) cw hr.m (ak 0)) aj))))) dM)
   (al (sU (i:=10) aH.nd rfl (by walk_at "i") (FT (js:=[3,0,2]) (fr:=zq) (cl:=uh s.heap.objs.size) rfl (all_cons rfl (all_cons rfl (all_cons rfl (fun _ h=>nomatch h)))) (fun _=>rfl) (all_cons rfl (all_cons rfl (all_cons rfl (fun _ h=>nomatch h)))) rfl (let ⟨f,a,_,k⟩:=E.y3v.ex;⟨f,QJ E.X E.G a,k⟩) (fun {b f fo c cds cvs} hk hc hR=>have V:=J0 (sp:=bX E.z (aD P w) f fo c cds) (rd:=iK E.z (aD P w)) 2 hk uA hc hR (fun _ _ _ _=>rfl) (tJ E.z (aD P w) f fo c cds) (tW E.z (aD P w) f fo c cds) (sF E.z (aD P w) f fo c cds) (fun hr u v=>(av (aL (Br (kN (iG u) (b7 b_len (by rfl) T.b_len PySem.boot_len (aa (b_ (cx E T) cw hr.m (ak 2)) aj)) (ak 3) (bc _)) (DV (kN (BR u) (aX dq (aX d_ (cV (cV (ak 0) aw) aw) (cV (ak 0) aw)) aw) (ak 1) (bc _)))))));(zS E T V)) hr.m (by rfl) (aa (ak 0) (aa (ak 6) (aa (ak 9) aj)))))
   (al (fq (PW.pt (E_ (td (dO (b7 Ke (by rfl) T.b_isinstance Oy (aa (ak 10) (aa (Lf (by rfl) T.b_list PyProof.Rows.boot_list) aj))))) (E_ (bZ (Ji u) (ak 10) (ak 8) (bc _)) (C1 (bZ (BR u) (b_ (fL E T) fK hr.m (ak 0)) (ak 7) (bc _)))))) (av (aL FU)) dM)
   (al (aU (i:=11) aH.nd rfl (by walk_at "i") (JM (dO (ak 6)) dP dP))
   (al (Ar (T:=Aw0) (M:=Aa0) (i:=12) (bg rfl (by kernel_rfl)) aH.nd rfl rfl (fun cl C s₀ H₀ fp=>⟨(zm (n:=2) rfl (iO (aM (i:=0) iA rfl (by walk_at "i")) (iO (aM (i:=1) iA rfl (by walk_at "i")) zn))),iH,(JM (bZ (KQ u) (ak 0) (ak 10) rfl) (fb (aa (ak 0) (aa (ak 13) aj))) (fb (aa (ak 0) (aa (ak 1) aj))))⟩) (dD (ak 5)))
   (al (bj (oB (ak 10) (aa (fb (aa dP (aa aw aj))) aj)))
   (av (aL (Br (kN (iG u) (aF (mC E T) hr.m (by rfl) (aa (ak 0) aj)) (ak 12) (bc _)) (DV (kN (iG u) (b_ (cx E T) cw hr.m (ak 0)) (fI (T:=Aw0) (M:=Aa0) (bg rfl (by kernel_rfl)) (fun cl C s₀ H₀ fp=>⟨(zm (n:=2) rfl (iO (aM (i:=0) iz rfl (by walk_at "i")) (iO (aM (i:=1) iz rfl (by walk_at "i")) zn))),(kg (bZ (iG u) (ak 1) dP (bc _))),(ak 0)⟩) (dD (ak 12))) (bc _)))))))))))))))))))),pN E.z (aD P w) Pt _⟩
def GE:=JV P w base E.X E.G E.y5 E.y1c E.y1d E.y3y fun F=>zV 0 F nE m5 (mR E.z (aD P w)) fun hr u v=>(al (sW (L:=[]) T.cl_Paper T.na_Paper_old (by decide +kernel) (by decide) (ak 0) (ak 1))
   (al (sW (L:=["old"]) T.cl_Paper T.na_Paper_drawn (by decide +kernel) (by decide) (ak 0) (HX (oA aj)))
   (al (sW (L:=["old","drawn"]) T.cl_Paper T.na_Paper_states (by decide +kernel) (by decide) (ak 0) pV)
   (al (sW (L:=AL0) T.cl_Paper T.na_Paper_greatest (by decide +kernel) (by decide) (ak 0) HY)
   (av (sW (L:=["old","drawn","states","greatest"]) T.cl_Paper T.na_Paper_time (by decide +kernel) (by decide) (ak 0) aw))))))
omit T
theorem all_mk{fa:Mg}(hfa:mg "law"=some (.ref fa)):
  ∃ fd:NB,(∀ (s:Mi) (v:Mf),Ri s fd ⟨[v],[]⟩ [("_law_script",v)])/\∀ base:MD,K.In base->base.Ns Mx mg->KH base mg->PySem.W.CodeHd base tc Pt->FnOk P w K mg base pj 12 fa fd ["_law_script"] (bN K (pB pos_picks q_picks Pt)):=by
 have T:=L1 E;obtain⟨f,a,⟨⟨_,_,an,_,kV,dc,pm,cd,ct,l,c⟩⟩,_⟩:=E.y3z.ex;have e:=hfa.symm.trans (QJ E.X E.G a);cases e;have F:=iC (st:=vK) l c;refine⟨Qh "law" "law" (cM vK) (b8 vK) (ag vK) .none kV dc pm an cd ct,fun s v=>.of_eq rfl,fun base _ _ hB hC=>?_⟩;exact zV 11 F mI (F6 E.z (aD P w) Pt) (Fn E.z (aD P w) Pt) fun hr u v=>(al (aU (i:=1) mI.nd rfl (by walk_at "i") (aF (lh E T) hr.m (by rfl) (aa (ak 0) (aa aw aj))))
   (al (aU (i:=2) mI.nd rfl (by walk_at "i") (lA BQ dP AA (jr (aX dq (aX fV (ak 1) aw) aw))))
   (al (aU (i:=3) mI.nd rfl (by walk_at "i") (aF (zU E T) hr.m (by rfl) (aa (ak 1) aj)))
   (al (aU (i:=4) mI.nd rfl (by walk_at "i") (jq (GE E T) hr.m (by rfl) (aa (ak 2) aj)))
   (al (i9 MI rfl (dD (lA BQ (ak 0) (jr aw) (jr aw))) (aM (i:=5) mI.nd rfl (by walk_at "i")) (av (bj (aF (zT E T) hr.m (by rfl) (aa (ak 4) (aa (ak 3) (aa (ak 5) aj)))))))
   (al (i9 MI rfl (zj (by rfl) T.b_range (aa aw aj)) (aM (i:=6) mI.nd rfl (by walk_at "i")) (av (fq (td (dO (aF (uu E T hB hC) hr.m (by rfl) (aa (ak 4) (aa (aF (pi E) hr.m (by rfl) (aa (aF (lh E T) hr.m (by rfl) (aa (ak 0) (aa aw aj))) (aa (aX d_ aw (ak 6)) aj))) aj))))) (av (aL FU)) dM)))
   (al (bj (aF (eQ E T El) hr.m (by rfl) (aa (ak 4) aj)))
   (av (aL (Br (kN (iG u) (aF (eQ E T El) hr.m (by rfl) (aa (ak 4) aj)) (oA aj) (bc _)) (Br (kN (iG u) (aF (mB E T El) hr.m (by rfl) (aa (ak 4) aj)) (oA aj) (bc _)) (DV (kN (iG u) (b_ (cx E T) cw hr.m (ak 4)) (oA aj) (bc _))))))))))))))
end
end RQ
open PySem PySem.W PyProof.Rows
local macro_rules | `(tactic| walk_at "gq") => `(tactic| first | k_is | kernel_rfl | (refine' L3.fnG_mk ?a ?l ?c ?k; (case a => k_is); (case l => k_is); (case c => k_is); (case k => k_is)) | (refine' L3.mtG_mk ?a ?i ?l ?c ?k; (case a => k_is); (case i => k_is); (case l => k_is); (case c => k_is); (case k => k_is)) | (refine' L2.Cls.mk ?a ?b ?c ?d; (case a => k_is); (case b => k_is); (case c => k_is); (case d => k_is)) | (refine' L3.mtD_mk ?a ?i ?l ?c ?k ?d; (case a => k_is); (case i => k_is); (case l => k_is); (case c => k_is); (case k => k_is); (case d => k_is)) | (refine' L3.cfG_mk ?g ?r ?a ?l ?c ?k; (case g => k_is); (case r => k_is); (case a => k_is); (case l => k_is); (case c => k_is); (case k => k_is)) | (refine' L3.fnDn_mk ?a ?l ?c ?k ?d; (case a => k_is); (case l => k_is); (case c => k_is); (case k => k_is); (case d => k_is)) | (refine' L3.tabIn_mk (st := RQ.s__law_decided) ?a ?l ?d ?e; (case a => k_is); (case l => k_is); (case d => k_is); (case e => rfl)) | skip)
namespace PySem.W.Fast
def tw12951849550806012423:=0
def tw819015892877154290:=0
def tw15618824761017284788:=0
def tw4996511657729937469:=0
def tw368580294574331252:=0
def tw7410929805633713601:=0
def tw7532211312551130423:=0
def tw5544567913856422778:=0
def tw4923163730654735452:=0
def tw1870165558698930106:=0
def tw9625562849436029124:=0
def tw6237718145706976188:=0
def tw12620861007904766617:=0
def tw11042309816128070357:=0
def tw8861739824116965305:=0
def tw1346039382465067194:=0
def tw2053987420458994884:=0
def tw5935442302683176427:=0
def tw12950761593523157232:=0
def tw11738300120223501295:=0
def tw16903835553559153015:=0
def tw8270169127109153537:=0
def tw16999090225977057643:=0
def tw12574258306529994009:=0
def tw6121258587403063595:=0
def tw8205533593510543140:=0
def tw4786607188939766009:=0
def tw5881400759924036965:=0
def tw1535950525115526660:=0
def tw5348695581082470908:=0
def tw4958541333302251175:=0
def tw10436852736168123477:=0
def tw14992491739159849246:=0
def tw18087654455045379227:=0
def tw5910133832277478338:=0
def tw2246804238546830545:=0
def tw8346233402355152091:=0
def tw7088105706479478931:=0
def tw4111270281893897611:=0
def tw3068301942421186624:=0
def tw16366420739274092167:=0
def tw3850194973968350407:=0
def tw11407724123383909875:=0
def tw8095172298813540324:=0
def tw6813182408976696650:=0
def tw17859260583049440824:=0
def tw5422524778526881303:=0
def tw11314729024910792936:=0
def tw5547286756494199418:=0
def tw15185751004164385473:=0
def tw4329653883130634219:=0
def tw6415619797616302362:=0
def tw10784201964677665822:=0
def tw17780157188910649711:=0
def tw8485101109737995224:=0
def tw15933556233462277490:=0
def tw5583614194070282702:=0
def tw16310030101839723094:=0
def tw5675137106373606905:=0
def tw6549048122091016374:=0
def tw2329062756907508439:=0
def tw3010055559233152646:=0
def tw11353275873812140301:=0
def tw10978595102061114737:=0
def tw10744707977700988425:=0
def tw8846399398378107177:=0
def tw14556897743851189883:=0
def tw3777917932740191168:=0
def tw14937434378405534912:=0
def tw11708238188236910131:=0
def tw9207241628893207187:=0
def tw4606591039222074145:=0
def tw18345960984477233097:=0
def tw14781911958822451042:=0
def tw14855133174671327266:=0
def tw9316083322844681461:=0
def tw15157025671700297393:=0
def tw8298862578055814624:=0
def tw1749099594815667256:=0
def tw14385536191765051207:=0
def tw4387728360188443946:=0
def tw12104117103756325969:=0
def tw16739731170365082743:=0
def tw3404216929568982956:=0
def tw11298053414746735495:=0
def tw3668626382340152928:=0
def tw13046867915138587695:=0
def tw3877962553869590246:=0
def tw12565116660140523529:=0
def tw9482780072529816702:=0
def tw1226026036181257360:=0
def tw5077773352773791251:=0
def tw8782683269630266054:=0
def tw11375201794563600810:=0
def tw12723429579609478717:=0
def tw11979457023056602214:=0
def tw15031413327146275680:=0
def tw525172031584683456:=0
def tw11661988391477321609:=0
def tw15144652837950304057:=0
def tw11191699142791060375:=0
def tw6913701618481453191:=0
def tw14394168621736803429:=0
def tw15946878264131197962:=0
def tw4428745063678284152:=0
def tw15293868194861278974:=0
def tw13808399559123731055:=0
def tw10618848234141684396:=0
def tw15028500582343070607:=0
def tw8384757514556688107:=0
def tw3981298690160594688:=0
def tw3500600858149895503:=0
def tw15069400279128201117:=0
def tw4446180103093057687:=0
def tw9346034537383375894:=0
def tw4101018141122391412:=0
def tw11797388499808544689:=0
def tw669582744514606518:=0
def tw3301606253500132369:=0
def tw12779414342245653853:=0
def tw11602192545494440883:=0
def tw190654261870943743:=0
def tw5536840767134515839:=0
def tw2507374081323534966:=0
def tw11407676496826501959:=0
def tw17506168865034151463:=0
def tw6851181085000655485:=0
def tw14254471477619232137:=0
def tw8801943757236620839:=0
def tw1445103736204070116:=0
def tw15798325550113197477:=0
def tw4538345080811353904:=0
def tw5348660390207902093:=0
def tw2766272211914584721:=0
def tw17463667623327826427:=0
def tw12815536371828431150:=0
def tw9536755409331272050:=0
def tw15735052998555644182:=0
def tw6675520761490189595:=0
def tw7252487160905079341:=0
def tw9397790641191159490:=0
def tw6655206056624126560:=0
def tw12708631560304853481:=0
def tw13189637903017564368:=0
def tw9310704939118673209:=0
def tw2361217255424172031:=0
def tw9226554507057784139:=0
def tw6571857293055951470:=0
def tw6881924685332628023:=0
def tw5688900764995105792:=0
def tw17327538111439350173:=0
def tw13808661920171899187:=0
def tw1445689438832168746:=0
def tw14055697072860149050:=0
def tw3658668476149067052:=0
def tw16346594170284667883:=0
def tw1388906292972737049:=0
def tw7818881535678273672:=0
def tw5605483961807704408:=0
def tw9758090557085506398:=0
def tw2026513033123849267:=0
def tw15781947481370032061:=0
def tw10887772130850122924:=0
def tw16188023056623487654:=0
def tw5627643394384290997:=0
def tw3866312495351310524:=0
def tw9825655457021463237:=0
def tw8826244835335553262:=0
def tw5374128006762053383:=0
def tw4529286471711589181:=0
def tw11142050089088601176:=0
def tw9319169184719356812:=0
def tw12363691948412234037:=0
def tw698538032003110122:=0
def tw12403442954077646546:=0
def tw18095219945900238282:=0
def tw7366644766561027576:=0
def tw3418823866979408342:=0
def tw9089949198586011056:=0
def tw7237517146370933359:=0
def tw5168157286510469685:=0
def tw1500647742176001251:=0
def tw3538600925253262925:=0
def tw14548830443999173168:=0
def tw2481275530591832091:=0
def tw1775569400625680326:=0
def tw11749462233497977877:=0
def tw515556534689207701:=0
def tw15748863760392829869:=0
def tw1793997959877373721:=0
def tw9584750291399673626:=0
def tw17652167791804750499:=0
def tw9663687354853102704:=0
def tw9325891241966125519:=0
def tw11751986741243881421:=0
def tw13404222464539426628:=0
def tw274887641292848105:=0
def tw1928715632632078736:=0
def tw9466192731772871131:=0
def tw6193678087238340738:=0
def tw16569726128041404508:=0
def tw3844753124666629384:=0
def tw3112938995363406210:=0
def tw8198512151154674311:=0
def tw8146375951473961923:=0
def tw12365106087973144166:=0
def tw10586579093132010167:=0
def tw17621677151233991564:=0
def tw11867124550194324469:=0
def tw16657504441970975271:=0
def tw8327367084879937329:=0
def tw17239700441649605642:=0
def tw9291618234512312401:=0
def tw16214647470344408369:=0
def tw780064715372627278:=0
def tw4845403252125310712:=0
def tw6929245945648147080:=0
def tw8588999602176680654:=0
def tw14979134038702567457:=0
def tw5240156411831109271:=0
def tw14821761464893812533:=0
def tw17067042390463989409:=0
def tw5237648044550515205:=0
def tw2779179347961169069:=0
def tw8202127677187246607:=0
def tw6231299796712081413:=0
def tw775972236237675861:=0
def tw9634194971327570476:=0
def tw16689793625286536021:=0
def tw7352312532738580011:=0
def tw3526607587176869350:=0
def tw11652725530198103771:=0
def tw8317399067145210393:=0
def tw1061900569531388947:=0
def tw12408244304655308894:=0
def tw6428126653654110025:=0
def tw13276068504154516231:=0
def tw13700552800404596977:=0
def tw11754003435296357538:=0
def tw4604348573739842302:=0
def tw16200058465967418444:=0
def tw8606113850457044099:=0
def tw9246046175318852347:=0
def tw10693072241254774876:=0
def tw10620311851046985438:=0
def tw9148463046506229712:=0
def tw13185790439303655015:=0
def tw5639813720309504859:=0
def tw9156775360213182054:=0
def tw614565093905918679:=0
def tw6477858055774317282:=0
def tw4981171893747492782:=0
def tw10108578608614549233:=0
def tw8051975384121909121:=0
def tw7808549677795216380:=0
def tw17211362282834981748:=0
def tw7639612699769655839:=0
def tw2816321562492815521:=0
def tw5176792577702062060:=0
def tw13165637530613262561:=0
def tw1510868120186385358:=0
def tw10781874256387796444:=0
def tw251455266860735275:=0
def tw11206638094233179195:=0
def tw6746649551091298140:=0
def tw3860349362404161820:=0
def tw6577498889710256875:=0
def tw15897026991285200361:=0
def tw16826590051276581478:=0
def tw11943408195089823923:=0
def tw10527573810660401982:=0
def tw9518011712269980752:=0
def tw6861428098473878160:=0
def tw2660560644817229145:=0
def tw2609521325120190211:=0
def tw16712866403558558100:=0
def tw8991452451633617376:=0
def tw18432061205871790280:=0
def tw5443788384906332446:=0
def tw8814452664138071553:=0
def tw6284526961969686327:=0
def tw3097857704267808864:=0
def tw8874906826174286852:=0
def tw5803495910232120265:=0
def tw18275435716727616286:=0
def tw16957520128690835695:=0
def tw677175817745029278:=0
def tw14335776806728579687:=0
def tw12981379113972407741:=0
def tw8688204513487340700:=0
def tw9052524663481922909:=0
def tw377973146249944526:=0
def tw2094621033038791014:=0
def tw16251325210529499551:=0
def tw13665673076493187950:=0
def tw5202562016537408262:=0
def tw207679803870809874:=0
def tw1394434297402320223:=0
def tw1048766196406185948:=0
def tw4778381973677442786:=0
def tw15917124951741030673:=0
def tw4262778251631552078:=0
def tw3173706308222321688:=0
def tw188184421035490211:=0
def tw16852420150364391092:=0
def tw9752994866125655463:=0
def tw7924113465095529194:=0
def tw16709863390561031901:=0
def tw8634844311549099223:=0
def tw7618183347490091615:=0
def tw753342082065586561:=0
def tw3244109269497223972:=0
def tw1840041529104773931:=0
def tw17716926079210828995:=0
def tw16969344211702838175:=0
def tw12932859683233304829:=0
def tw7499908398155087182:=0
def tw4700373199919697324:=0
def tw15995087217826557103:=0
def tw15540435303713365561:=0
def tw11606442675262578088:=0
def tw12455788316268187185:=0
def tw12829296201531177409:=0
def tw5742600733725280469:=0
def tw2394262686243142078:=0
def tw1973751270780357966:=0
def tw5203341412235126816:=0
def tw5110114077455597666:=0
def tw13313981187411443738:=0
def tw9728855889722992972:=0
def tw9626744731917419684:=0
def tw8412737077174834180:=0
def tw839729780927233822:=0
def tw7929219627939092018:=0
def tw39662737094863905:=0
def tw12431042477545637301:=0
def tw12107057702088059142:=0
def tw11609695266761689627:=0
def tw10788683847542701273:=0
def tw9354227654099028504:=0
def tw7146030645100989188:=0
def tw4148886545104665723:=0
def tw1048822906342311206:=0
def tw777569201807757336:=0
def tw7071039328877215261:=0
def tw505745311697790985:=0
def tw17693112159180585999:=0
def tw6562983829323108309:=0
def tw5757590312166307619:=0
def tw5336472591982126459:=0
def tw18286261675992469445:=0
def tw8608022772458601506:=0
def tw4409827598217722150:=0
def tw17740989399658331813:=0
def tw14805789915385442469:=0
def tw9314246985979123744:=0
def tw813944164114901807:=0
def tw2224934688830440146:=0
def tw11369296040260285918:=0
def tw2402888808683811673:=0
def tw17774362072556687283:=0
def tw8159976013662467335:=0
def tw11268974253111032321:=0
def tw6746274216054321962:=0
def tw10432879985705530179:=0
def tw5360356190737366806:=0
def tw2816307342573106725:=0
def tw15076831439457530395:=0
def tw7120527767764816049:=0
def tw9090509890279602778:=0
def tw16698694528789888828:=0
def tw15490948329149392333:=0
def tw179097701189389386:=0
def tw6486423227820809895:=0
def tw8224818251022128767:=0
def tw6959255672072807011:=0
def tw9906103908534003811:=0
def tw11203736165754229808:=0
def tw9203229019011499043:=0
def tw299727116942829632:=0
def tw12278713094490153655:=0
def tw11284248630990463998:=0
def tw14133762749388409333:=0
def tw6890985002132258179:=0
def tw17307280442171164328:=0
def tw3720015144491766684:=0
def tw11571706188187063156:=0
def tw16199308017502514432:=0
def tw17794078600824480290:=0
def tw4903026560205387589:=0
def tw9851295408494860307:=0
def tw2881220050773433286:=0
def tw17134308146571541761:=0
def tw1261024961307434489:=0
def tw8366458587713061712:=0
def tw7155991426956510937:=0
def tw1690966194597182949:=0
def tw10801141904927884694:=0
def tw2479784751088960935:=0
def tw5589286539548657298:=0
def tw10051801653482704146:=0
def tw2343534160554682804:=0
def tw8094935400816612484:=0
def tw10395606795096977774:=0
def tw1849721565134045505:=0
def tw13441544407731487205:=0
def tw11392336305837247192:=0
def tw18317874668737064947:=0
def tw1956487262671227655:=0
def tw12670386870544241064:=0
def tw7698547696272467776:=0
def tw996397312638590033:=0
def tw2884896731657665094:=0
def tw11605184994961437362:=0
def tw16807193857346217757:=0
def tw14381084004147387053:=0
def tw10120264032829522413:=0
def tw14379193567985269128:=0
def tw5439597770258584458:=0
def tw10689275925007648667:=0
def tw7981297772449800850:=0
def tw7916002418964823483:=0
def tw12410331308225073650:=0
def tw1664769220294502375:=0
def tw9565637952979884864:=0
def tw13999208916292810716:=0
def tw7247623983926780463:=0
def tw11882331992096553351:=0
def tw1461594368590236186:=0
def tw10345167458244545407:=0
def tw10659680568626559525:=0
def tw14282294466738555560:=0
def tw15072175349204431771:=0
def tw5698263478774849671:=0
def tw10794106622196899837:=0
def tw15979126931728305959:=0
def tw12077796240417688457:=0
def tw7306108346766987622:=0
def tw12806377913755667258:=0
def tw9693253388538930138:=0
def tw17070323656283957379:=0
def tw2491735551313651239:=0
def tw5018262870232317098:=0
def tw15068762925393216995:=0
def tw13662992198637510892:=0
def tw9946034200358409234:=0
def tw2863357141490247177:=0
def tw11735834140665702780:=0
def tw11665292745061307996:=0
def tw4453829118603817173:=0
def tw10567440717162747256:=0
def tw7620945270898013310:=0
def tw17747311288281816001:=0
def tw12410857366692061999:=0
def tw11931899528231914846:=0
def tw8100137670128774191:=0
def tw5339989033020498370:=0
def tw6645206905938405813:=0
def tw5138726150903720738:=0
def tw5051074712161654974:=0
def tw12752977256894666711:=0
def tw16443102600513094996:=0
def tw81036232669472369:=0
def tw18256310470640892191:=0
def tw14343693599092308097:=0
def tw1269656331805041603:=0
def tw6664994892742633460:=0
def tw17691353780458976290:=0
def tw11922270229823224508:=0
def tw6099292018306330764:=0
def tw4399585703499725169:=0
def tw4292958917291606244:=0
def tw2875726088495018927:=0
def tw2817973379930365456:=0
def tw2666052838761415859:=0
def tw15192175674032962662:=0
def tw14246571582202144408:=0
def tw1392493444731799814:=0
def tw128468289493107116:=0
def tw11621883439852006080:=0
def tw10188153436923121701:=0
def tw2955975241248353626:=0
def tw17468182326015038397:=0
def tw16261279612958719046:=0
def tw1090512972521658948:=0
def tw1530973845796371852:=0
def tw10155789407759066087:=0
def tw14891606711127080640:=0
def tw8327067129834148338:=0
def tw14951370129374087400:=0
def tw9465807038805871918:=0
def tw10329326594212108866:=0
def tw13160927400620845950:=0
def tw10779821089678793015:=0
def tw9516756993951594788:=0
def tw7891931231283091054:=0
def tw714798844178871247:=0
def tw6531577769624186255:=0
def tw6174099325446868114:=0
def tw5718639308651736081:=0
def tw441394398020961742:=0
def tw3006203360552162431:=0
def tw2724310686229388820:=0
def tw2544124298136987903:=0
def tw18099080523538708656:=0
def tw17552862094314032689:=0
def tw17529252570359090764:=0
def tw17294750466991893357:=0
def tw17187468099919790633:=0
def tw16340912467432850309:=0
def tw16238300358986600566:=0
def tw15489225887058135953:=0
def tw14024698760162947877:=0
def tw1369083621170227227:=0
def tw12302719593851916070:=0
def tw11745765924023176699:=0
def tw11378620720740716321:=0
def tw10535425027295840634:=0
def tw10054290380915031164:=0
def tw2079797537843884213:=0
def tw18308828558174113849:=0
def tw5027748790969841607:=0
def tw2039719329912056006:=0
def tw14790290270260268244:=0
def tw14046315474509083953:=0
def tw10001242780287945477:=0
def tw9997626996759342708:=0
def tw7723400429932457475:=0
def tw5908851315961345183:=0
def tw440621255533138239:=0
def tw3988681692946742230:=0
def tw3930660795833042151:=0
def tw3152322185733323119:=0
def tw14441580719833309226:=0
def tw13855873899406030652:=0
def tw12986974010463205953:=0
def tw12649548795507107033:=0
def tw7156892258961361774:=0
def tw59939587498514684:=0
def tw4643210190427973668:=0
def tw4165564814504092447:=0
def tw2096915443824096316:=0
def tw18357864156883033383:=0
def tw18330737171546607350:=0
def tw16906525752044199928:=0
def tw12221864473791426817:=0
def tw10616342606783800737:=0
def tw5785443973924000882:=0
def tw969786932583771289:=0
def tw5420538085116255914:=0
def tw52724721146258383:=0
def tw2885561889489543562:=0
def tw17928928899038142209:=0
def tw12421809323197559987:=0
def tw11411178717831569746:=0
def tw8862278862369492139:=0
def tw7848415429564165117:=0
def tw514690274818415010:=0
def tw4255157040350902878:=0
def tw4175835448703899192:=0
def tw321385149583476276:=0
def tw15291066604564021932:=0
def tw14359832364257253446:=0
def tw13405436298459292676:=0
def tw10494147551093894094:=0
def tw7859841905581468244:=0
def tw7570572271837391081:=0
def tw9976480250109101794:=0
def tw9752440324616269495:=0
def tw9689218210345161349:=0
def tw9628791374788918866:=0
def tw9483605968798202359:=0
def tw9338365141244440235:=0
def tw9303507849336533559:=0
def tw9292108247129317415:=0
def tw9215252557738663224:=0
def tw9145207811746910276:=0
def tw900722939591484955:=0
def tw8760638945434031950:=0
def tw8703585010736881462:=0
def tw8689439081318832465:=0
def tw8575159604211466452:=0
def tw8553497096629495500:=0
def tw8490519048892122941:=0
def tw8454885291450963031:=0
def tw8419308019829471739:=0
def tw841583394517413445:=0
def tw8096990280325527819:=0
def tw8025185552729096288:=0
def tw8018316882595770205:=0
def tw789948881944652109:=0
def tw7344172881555067602:=0
def tw7342495531427029540:=0
def tw7279075605851867024:=0
def tw7220307284627452244:=0
def tw7216166935363423180:=0
def tw7076925418862070696:=0
def tw685845074168304975:=0
def tw6770720332737013521:=0
def tw6680242851176419014:=0
def tw6553386272823960391:=0
def tw6518518459040755901:=0
def tw6513213261965788168:=0
def tw6491691354015093302:=0
def tw6487826395049898840:=0
def tw6458125085082442075:=0
def tw6431911813596191031:=0
def tw6080444984312042342:=0
def tw6075031185861872483:=0
def tw5922938416635983106:=0
def tw5917632017273489176:=0
def tw5901828856592839309:=0
def tw5827358104966612024:=0
def tw546981859709221666:=0
def tw5443435498484688853:=0
def tw5290108540316374591:=0
def tw5010665184827615352:=0
def tw4852443492980808787:=0
def tw4801976186748892765:=0
def tw4798045457604369861:=0
def tw4730195992564678314:=0
def tw4681234067700502233:=0
def tw4589231355735292967:=0
def tw4538354135636107090:=0
def tw4466324587327285061:=0
def tw4455392838422533947:=0
def tw4445146493420444069:=0
def tw4313656369188557356:=0
def tw4293035640220234509:=0
def tw4178305885399230365:=0
def tw3981715442019265438:=0
def tw3977463934908984698:=0
def tw3750186695469441431:=0
def tw3737617143382135104:=0
def tw3713510064495377511:=0
def tw363845002691007858:=0
def tw3637222232882558524:=0
def tw3573353450802822997:=0
def tw3543697376893589945:=0
def tw3487435958008047962:=0
def tw3442413709092437892:=0
def tw3439759979927372732:=0
def tw3353300875658649479:=0
def tw3288369544966137063:=0
def tw3251458263318805600:=0
def tw3105383021387611542:=0
def tw3086784028963075901:=0
def tw2660186920396919237:=0
def tw252575024002754906:=0
def tw2410713492877373340:=0
def tw2323477927351141910:=0
def tw2296368895304824090:=0
def tw2295797396406193309:=0
def tw2243286145554038965:=0
def tw2216018357355639506:=0
def tw2175997067485065612:=0
def tw2054892257850230436:=0
def tw2047081447259924070:=0
def tw1943796323735638686:=0
def tw1925664398741526962:=0
def tw1880168007232677897:=0
def tw18408529898817843207:=0
def tw18194663385504664319:=0
def tw17928135862286657602:=0
def tw17873521032648509648:=0
def tw1781387513467831392:=0
def tw17807326459291498258:=0
def tw17778427722001786427:=0
def tw17709487854646993737:=0
def tw17674687668044190417:=0
def tw1764905712470937688:=0
def tw17603177212152459800:=0
def tw1758644832269654147:=0
def tw17575931476815920903:=0
def tw17505147557094255000:=0
def tw17503563481806759256:=0
def tw1742613005929777685:=0
def tw1733863299632920731:=0
def tw17170034259651316925:=0
def tw17148503858980874233:=0
def tw1708451255384495987:=0
def tw16903797288116051408:=0
def tw16517598265763471357:=0
def tw16488874386744350514:=0
def tw16470846526908573017:=0
def tw16334051650564776439:=0
def tw16283418956431707105:=0
def tw16276148835001278767:=0
def tw16207295740883643482:=0
def tw1596715968205004651:=0
def tw15951835769575029729:=0
def tw15894047884323613122:=0
def tw1588462631188696548:=0
def tw1576054300574567928:=0
def tw1570167746502438629:=0
def tw1562627319871857552:=0
def tw15559319922662463303:=0
def tw1553378758603936192:=0
def tw15527343225051871601:=0
def tw15386963237356763810:=0
def tw15381664677338954672:=0
def tw15366302917316149517:=0
def tw15199069110689960876:=0
def tw15087280473109909754:=0
def tw15076042647695476889:=0
def tw15027049140932666233:=0
def tw1495922640169286215:=0
def tw14954907889690542500:=0
def tw14915737664491869964:=0
def tw14525456802283825986:=0
def tw14478913109602133654:=0
def tw14420798493351725815:=0
def tw14339912413479678617:=0
def tw1414324247918698945:=0
def tw14140647509885391146:=0
def tw1403845253732933058:=0
def tw13943839563956846194:=0
def tw13875475969104467114:=0
def tw13834964037451740889:=0
def tw13747134654242164940:=0
def tw13677263299526993832:=0
def tw13625384819656375310:=0
def tw13580254680782152936:=0
def tw13528238341036874898:=0
def tw13395431775603021791:=0
def tw13301546556218321579:=0
def tw13218683274793748746:=0
def tw1321552286994836389:=0
def tw13041088710363118087:=0
def tw130340558067217978:=0
def tw13032389461526359116:=0
def tw12987152625834307273:=0
def tw12963035850746365020:=0
def tw12951904532577895939:=0
def tw12917944524985583755:=0
def tw12863128573019745718:=0
def tw12833037591605916356:=0
def tw12690007920361432004:=0
def tw12474407536063417805:=0
def tw12427058216413916610:=0
def tw12305584597468244936:=0
def tw1230521411919763377:=0
def tw12286138522244119298:=0
def tw12185665628407356798:=0
def tw1216553477841007750:=0
def tw12133791287867637240:=0
def tw12099143070443778898:=0
def tw12012416580036232468:=0
def tw11994025957679409764:=0
def tw11880886954557246860:=0
def tw11777418984086278796:=0
def tw11765778111258496342:=0
def tw11747484441320027055:=0
def tw11731319401083294330:=0
def tw11644691207500948070:=0
def tw11418488931559887053:=0
def tw11380457095094021060:=0
def tw11283468947597661610:=0
def tw1108780596962661586:=0
def tw1101448719271827135:=0
def tw10991633881210324825:=0
def tw10952910845654096579:=0
def tw10836880285583538616:=0
def tw10805532273678221940:=0
def tw10784365597108663745:=0
def tw10629102179919509098:=0
def tw10315074470524682658:=0
def tw10295288411065262528:=0
def tw10291333886822179651:=0
def tw10144145287399493152:=0
def tw10030352648702849345:=0
def tw10028866794048507395:=0
end PySem.W.Fast
set_option maxRecDepth 100000 in
set_option maxHeartbeats 0 in
theorem PySem.Challenge.cw_redquill_k62_many_decided_holds : PySem.Challenge.rw_redquill_k62_many_decided.Holds := by
 w_on;o_law;k_head;(case hw=>w_witness2)
 k_fill
 refine' L3.walkT (l:=PySem.Challenge.rw_redquill_k62_many_decided) (k:=12) (x:="_law_script") (y:="_law_decided") (qn:=RQ.q_picks) (pos:=RQ.pos_picks) rfl rfl ⟨rfl,by decide,by decide⟩ (fun w h Y=>PySem.W.km_in_of Y) ?ta ?tb ?tc ?F
 (case ta=>kernel_rfl)
 (case tb=>intro w;refine' L3.tabIn_mk (st:=RQ.s__law_decided) ?a ?l ?d ?e;(case a=>k_is);(case l=>k_is);(case d=>k_is);(case e=>rfl))
 (case tc=>intro w;kernel_rfl)
 case F=>
  intro w mg fa h KX G hmg;refine' RQ.all_mk (.mk KX G ..) hmg
  all_goals walk_at "gq"
