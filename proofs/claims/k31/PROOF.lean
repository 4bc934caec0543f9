import PyProof.Rows.All
import Wide.All
import OpenK.AllK
import Wide.FinOn
import Lean
import PyProof.EqAt
import PyProof.EqKinds
import PyProof.TupleCall
import PySem.Challenge.RW_redquill_k31_signs_that_are_there
set_option Elab.async false
set_option linter.all false
set_option maxRecDepth 100000
set_option maxHeartbeats 4000000
open PySem renaming wpAny_bind->IU,Value->IV,Addr->IW,Shared->IX,wpAny_pure->IY,wpAny->Jc,model->Jf,sizeLine->Jg,mainGlobals->Jr,Program->Jw,starEach->Jx,Around->Jy,FuncData->JE,World->JG,Heap->JI,Expr->JJ,wpAny_newObj_type->JS,sizeLine_eq->JW,cLine->JY,wpAny_holding->JZ,tupleKind_room_in1->J7,sysModules->J8,wpAny_call_entry->J9,compareOp->J_,wpAny_mono->Ka,wpAny_passesOwn->Kd,wpAny_callSpecial?_slot->Km,behindInMarks->Kn,wpAny_dictEntries->Ko,tupleKind->Ks,Stmt->Kt,wpAny_setField_rec->Ku,wpAny_field->Ky,bootBuiltins->KN,wpAny_Call_Name_kw->KU,binaryOp->K0,backTo->K3,sliceBounds->K4,foldedSetIterable->K7,attributeBase->K9,wpAny_typeNameOfWhole_valiter->Lc,wpAny_typeNameOfWhole_keyiter->Ld,pyNext->Lf,assignEach->Lh,wpAny_dictEpoch->Lk,wpAny_attempt->Lq,wpAny_notOrdered_dict->Ls,wpAny_seqItems->Lu,rawInt->LB,wpAny_typeNameOf_valiter->LF,wpAny_typeNameOf_keyiter->LG,letOwnedTupleGo->LL,wpAny_rule->LP,IsPair->LR,swapsWith->LY,atKey->L8,Scope->L9,wpAny_execs_nil->L_,codeAny->Mb,call_meetsIn->Mc,pyIter->Mf,getattributeRaised->Ml,NameKind->Mn,wpAny_truthy_bool->Mq,wpAny_pyIter_slot->Mr,wpAny_pyIter_list->Ms,strIterType->Mt,keywordEach->Mv,Paired->Mw,getItem->ME,codeAny_mono->MF,wpAny_isOneOf_valiter->MI,builtinLookup_eq_fast->MJ,wpAny_updateSeq_pair->MK,wpAny_setField->ML,wpAny_newTuple->MM,wpAny_letGo->MN,wpAny_fieldsOf->MO,firstArgMember->MQ,IsPart->MS,storedH->MV,slicePick->MX,callerA->M0,Keyword->M4,wpAny_standAt->M6,wpAny_onRaise->M7,wpAny_newList->M8,CmpOp->M_,typeLookup->Na,valueAt->Ng,standAt->Ni,getAttr?->Nk,backToKw->Nl,wpAny_isInstance->Nq,PassesOwn->Nt,subscripted->Nw,typeLookup_type->ND,relabel->NE,BindsTo->NF,sliceRange->NG,isSubtype_stop->NI,wpAny_missedRemoval_other->NO,wpAny_getItem_list_slice->NQ,wpAny_comprehension_free->NR,wpAny_Call_method0_late->NS,meetsH_dict_get_default->NV,getMethod->NZ,bindL->N0,bindC->N3,wpAny_typeOf->N7,wpAny_pyNext_list_item->N8,isTrue->Oa,concat_meets->Ob,wpAny_pyNext_list_end->Og,wpAny_isTrue_Compare1->Oh,wpAny_isOneOf_keyiter->Oi,unsupported->Ol,setField->Om,seqIndex_of->On,loadIfAlive->Oo,codeAny_forLoop_any->Ou,wpAny_setItem_heap->Ow,wpAny_getItem_heap->Ox,wpAny_dictSet_heap->Oy,wpAny_call->Oz,wpAny_Name->OA,typeIs_str->OB,sub_AttributeError->OC,entryOfKey->OG,closureFor->OH,call_meets->OI,builtinsNs->OJ,Result->OK,wpAny_assign_Name->OM,wpAny_Call_method->ON,slicePick_size_le->OQ,setItem->OR,Model->OT,Draws->OW
open List renaming length_map->IZ,getElem?_eq_getElem->Jb,length_append->Jh,size_toArray->Jj,mem_cons_self->Jk,mem_cons_of_mem->Jl,getD_eq_getElem?_getD->Jn,mem_of_getElem?->Js,length_cons->Jv,map_cons->Jz,set_cons_zero->JA,getElem?_map->JB,map_map->JK,set_cons_succ->JL,append_assoc->JM,length_take->JN,mem_append_right->JO,take_length->JR,find?_cons->JT,length_nil->JU,map_append->J0,getElem?_cons_zero->J2,getElem?_cons_succ->J3,getElem?_eq_none->J5,take_add_one->Ke,mem_cons->Kg,filter_cons_of_pos->Kk,append_nil->Kl,map_congr_left->Kq,filter_cons_of_neg->Kw,not_mem_nil->Kz,drop_eq_getElem_cons->KB,nodup_cons->KF,mem_of_mem_take->KG,filterMap_cons_some->KH,filterMap_cons_none->KI,flatten_cons->KM,nil_append->KY,length_drop->K5,getElem_mem->K6,length_filter_le->La,lookup_cons->Le,pairwise_map->Lg,getElem?_set_ne->Lm,take_append_drop->Lw,getElem_take->Lz,zip_cons_cons->LC,pairwise_append->LJ,mem_append_left->LK,forIn_cons->LQ,cons_append->LV,foldl_cons->L0,getElem_drop->Ma,mem_append->Mi,length_zip->Mj,forIn_nil->Mz,any_cons->MA,of_mem_zip->MC,countP_cons->MR,take_zero->MU,drop_zero->MZ,map_nil->Nj,nodup_nil->Nr,mem_flatMap->Nz,any_eq_true->NA,all_eq_true->Op,mem_filter->OD
open PySem.Str renaming ofString->I_,empty->M3,length->Nc
open PySem.Heap renaming get?_push_of_some->Ja,get?_push_size->Je,lt_size->Ju,SameBut->KO,size_push->K1,get?_update_other->Li,get?_update_self->LX,get?_push_ne->Nn
open PyProof.Rows renaming Keyed->Jd,wpS_bind->Ji,arrOf->Jm,SortSt->Jp,wpS_pure->Jq,pendingOf->JV,seqObj->Kh,elem'->Kx,SortKind->KC,failedOf->KJ,wpS_modify->K8,get?_update_seq->LN,boot_isinstance->LO,reverseSlice'->L1,listUpdate_at->L4,wpS_get->Mp,tuples'->MB,AllBare->MG,subscriptTail->M9,envOfC->Nb,wpS_mono->Nf,seqEpoch_at->Nx,setPending->NH,Subscript_->NL,ltAt'->NW,subscriptTail_builtinR->N9,listItems_at->N_,IntsAre->Oc,Call_->OX
open Nat renaming lt_of_lt_of_le->Jt,add_le_add_left->JC,ne_of_lt->JP,zero_le->JQ,le_add_right->JX,add_lt_add_left->J4,le_of_not_lt->Kf,le_of_eq->Ki,lt_of_le_of_ne->KA,succ_le_succ->KL,lt_of_succ_lt->KQ,le_pred_of_lt->KR,pos_of_ne_zero->KW,lt_or_ge->KZ,le_of_lt_succ->Lr,lt_of_not_ge->Lx,le_max_right->Ly,zero_add->LD,le_succ_of_le->LH,lt_succ_self->LW,min_eq_left->L7,sub_le->Me,one_pos->Mu,ne_of_gt->My,sub_lt->MP,add_assoc->M1,sub_zero->Nh
open PySem.W renaming Frag->JD,findIn->JF,keepIn->J1,codeIn->Kb,kitOne->Kv,mg_of->KD,nsIn->Ll,fnOf->Ln,mg_none_of->Lv,kia_one->LM,emptyDict->LU,hasDictIn->LZ,plainGet->L6,plainOver->Md,instObj->MD,specialIn->MW,makesIn->MY,plainGet_of->Ny,isFn->NJ,callWith_K->NK,mroIn->NT,methodObj->NU,kitx_list->NY,lookIn->OE,kdl_slot_keys_iter->OF,takesIn->OO,takerIn->OP
open PySem.PassesOwn renaming never->JH
open PySem.Builtin.SmallTypes renaming nextOf->J6,ownedTupleIsFree->KS,ownedTupleHandOut->M5
open PySem.Calls renaming spliced_cons->Kc,spliced_nil->KE,callWith_builtin->Lj,evalArgs_plain->MT,Name_function_global->NM
open PySem.Builtin.Dict_items renaming ownsTuple->Kj,newIterator->Nv,dictOf->NP
open PySem.Obj renaming mapSeq->Kr,data_mapFields->Mm,mapFields->Mx,isFreed_of_fields->Oj,data_mapDictKeys->Oq,cls_mapFields->OS
open PySem.Builtin.Str renaming strSliceIndices->KP
open PySem.Builtin.Dict renaming showsAll->K2,updateFrom->N6,pairItems->Oe,takeOut->Os,noArgs->Ov
open PySem.Heap.SameBut renaming update->K_,refl->OU
open PySem.F renaming slot_dict_valueiterator_next->Lb,slot_dict_keyiterator_next->Lp,slot_zip_next->MH,args_dict_valueiterator_next_1->No,entry_dict_valueiterator_next->Np,args_dict_keyiterator_next_1->Nu,entry_dict_keyiterator_next->NC,slot_dict_values_iter->N4,args_zip_next_1->OV
open PySem.Builtin.Slice renaming slicePlaces->LA,sliceAdjust->Mo,sliceApplied->NN
open PySem.Builtin.Tuple renaming tupleExact->LI
open PySem.Paired renaming length->L5,snoc->NB
open PyProof.Rows.SortSt renaming mk'->Nd
open PySem.Builtin.List renaming listUpdate->N5
open PySem.Code renaming isFrame->Od
open PySem.Around renaming under->Of,under_plainId->Ot
open PySem.Heap.IsSliceOf renaming new->OL
noncomputable section
open PySem.W (readsIn findCls)
open List (mem_range mem_filterMap length_eq_zero_iff mem_iff_getElem mem_map mem_singleton pairwise_iff_getElem map_id)
open Nat (le_trans le_of_lt lt_of_le_of_lt le_refl not_lt le_antisymm le_zero)
local macro_rules | `(tactic| walk_at "j") => `(tactic| exact ⟨rfl, rfl, rfl, by decide +kernel, rfl, by decide +kernel, by decide +kernel⟩)
local macro_rules | `(tactic| walk_at "o") => `(tactic| first | assumption | exact le_trans (by decide) $(Lean.mkIdent `hs) | exact le_of_lt (by assumption) | exact le_trans (by assumption) (by assumption) | exact Jt (by assumption) (by assumption) | exact lt_of_le_of_lt (by assumption) (by assumption) | exact le_trans (by assumption) (le_trans (by decide) $(Lean.mkIdent `hs)) | omega)
namespace L2
open PySem PySem.Spec PyProof.Rows
abbrev aQ:=Sum Int Str
def qB:aQ->IV->Bool
 | .inl k,v=>Value.isInt k v
 | .inr x,v=>Value.isStrOf x v
def HK(w:JG):aQ->Int
 | .inl k=>hashInt k
 | .inr x=>hashStr w x
theorem cS:∀ {k:aQ} {v:IV},qB k v=true->(∃ i t,k=Sum.inl i/\v=Value.int i t)\/(∃ x t,k=Sum.inr x/\v=Value.str x t)
 | .inl i,v,h=>by
  obtain⟨t,e⟩:=Value.isInt_shape (k:=i) (v:=v) h;exact .inl ⟨i,t,rfl,e⟩
 | .inr x,v,h=>by
  obtain⟨t,e⟩:=Value.isStrOf_shape (x:=x) (v:=v) h;exact .inr ⟨x,t,rfl,e⟩
theorem xZ(i:Int)(t:Tok):qB (.inl i) (.int i t)=true:=by simp[qB,Value.isInt]
theorem xY(x:Str)(t:Tok):qB (.inr x) (.str x t)=true:=by simp[qB,Value.isStrOf]
theorem EH(a b:Int):decide ((Sum.inl a:aQ)=Sum.inl b)=(a == b):=by
 by_cases e:a=b
 ·subst e;simp
 ·have h:¬ (Sum.inl a:aQ)=Sum.inl b:=fun q=>e (Sum.inl.inj q);rw[decide_eq_false h];exact (beq_eq_false_iff_ne.mpr e).symm
theorem ED(a b:Str):decide ((Sum.inr a:aQ)=Sum.inr b)=decide (a=b):=by
 by_cases e:a=b
 ·subst e;simp
 ·have h:¬ (Sum.inr a:aQ)=Sum.inr b:=fun q=>e (Sum.inr.inj q);rw[decide_eq_false h,decide_eq_false e]
theorem EG(a:Int)(b:Str):decide ((Sum.inl a:aQ)=Sum.inr b)=false:=decide_eq_false (fun q=>nomatch q)
theorem EE(a:Str)(b:Int):decide ((Sum.inr a:aQ)=Sum.inl b)=false:=decide_eq_false (fun q=>nomatch q)
def bn(prog:Jw)(w:JG):PySem.KeyKind prog w aQ where
 is:=qB
 hash:=HK w
 inj:=fun v a b ha hb=>by
  rcases cS ha with ⟨i,t,rfl,rfl⟩|⟨x,t,rfl,rfl⟩
  ·rcases cS hb with ⟨j,u,rfl,e⟩|⟨y,u,rfl,e⟩
   ·injection e with e1 _;rw[e1]
   ·exact nomatch e
  ·rcases cS hb with ⟨j,u,rfl,e⟩|⟨y,u,rfl,e⟩
   ·exact nomatch e
   ·injection e with e1 _;rw[e1]
 byValue:=fun k v h=>by
  rcases cS h with ⟨i,t,rfl,rfl⟩|⟨x,t,rfl,rfl⟩<;>rfl
 pyHash:=fun hv h=>by
  rcases cS hv with ⟨i,t,rfl,rfl⟩|⟨x,t,rfl,rfl⟩
  ·exact wpAny_pyHash_int h
  ·exact wpAny_pyHash_str h
 eqBool:=fun hu hv h=>by
  rcases cS hu with ⟨i,t,rfl,rfl⟩|⟨x,t,rfl,rfl⟩
  ·rcases cS hv with ⟨j,u,rfl,rfl⟩|⟨y,u,rfl,rfl⟩
   ·rw[EH]at h;exact wpAny_eqBool_int h
   ·rw[EG]at h;exact SeqAt.EqAt.int_str i t y u _ _ _ _ h
  ·rcases cS hv with ⟨j,u,rfl,rfl⟩|⟨y,u,rfl,rfl⟩
   ·rw[EE]at h;exact SeqAt.EqAt.str_int x t j u _ _ _ _ h
   ·rw[ED]at h;exact wpAny_eqBool_str h
 «strs»:=fun k x t v h=>by
  rcases cS h with ⟨i,u,rfl,e⟩|⟨y,u,rfl,e⟩
  ·exact nomatch e
  ·injection e with e1 _
   subst e1;cases v<;>rfl
theorem um(prog:Jw)(w:JG)(i:Int)(t:Tok):(bn prog w).is (.inl i) (.int i t)=true:=xZ i t
theorem ul(prog:Jw)(w:JG)(x:Str)(t:Tok):(bn prog w).is (.inr x) (.str x t)=true:=xY x t
set_option genInjectivity false in
inductive V where
 | non|bl (b:Bool)|int (i:Int)|str (x:Str)|byt (b:Array UInt8)|flt (b:UInt64)|ref (a:IW)|ty (n:String)
 deriving DecidableEq
def aF:V->IV->Prop
 | .non,u=>u=Value.none
 | .bl b,u=>u=Value.bool b
 | .int i,u=>∃ t,u=Value.int i t
 | .str x,u=>∃ t,u=Value.str x t
 | .byt b,u=>∃ t,u=Value.bytes b t
 | .flt b,u=>∃ t,u=Value.float b t
 | .ref a,u=>u=Value.ref a
 | .ty n,u=>u=Value.type n
abbrev Vals:List V->List IV->Prop:=Mw aF
theorem Vals.length{xs:List V}{us:List IV}(r:Vals xs us):xs.length=us.length:=L5 r
theorem Vals.get:∀ {xs:List V} {us:List IV} {i:Nat} {x:V},Vals xs us->xs[i]?=some x->∃ u,us[i]?=some u/\aF x u
 | _,_,_,_,.nil,e=>by simp at e
 | _,_,0,_,.cons r _,e=>by simp at e;subst e;exact⟨_,rfl,r⟩
 | _,_,i+1,x,.cons _ t,e=>by
  obtain⟨u,h1,h2⟩:=Vals.get (i:=i) (x:=x) t (by simpa using e)
  exact⟨u,by simpa using h1,h2⟩
theorem Vals.set{x:V}{u:IV}(r:aF x u):∀ {xs:List V} {us:List IV} (i:Nat),Vals xs us->Vals (xs.set i x) (us.set i u)
 | _,_,_,.nil=>.nil
 | _,_,0,.cons _ t=>.cons r t
 | _,_,i+1,.cons q t=>.cons q (Vals.set r i t)
theorem Vals.append:∀ {xs ys:List V} {us ws:List IV},Vals xs us->Vals ys ws->Vals (xs ++ ys) (us ++ ws)
 | _,_,_,_,.nil,s=>s
 | _,_,_,_,.cons r t,s=>.cons r (Vals.append t s)
theorem Vals.take:∀ {xs:List V} {us:List IV} (n:Nat),Vals xs us->Vals (xs.take n) (us.take n)
 | _,_,0,_=>.nil
 | _,_,_+1,.nil=>.nil
 | _,_,n+1,.cons r t=>.cons r (Vals.take n t)
theorem Vals.drop:∀ {xs:List V} {us:List IV} (n:Nat),Vals xs us->Vals (xs.drop n) (us.drop n)
 | _,_,0,r=>r
 | _,_,_+1,.nil=>.nil
 | _,_,n+1,.cons _ t=>Vals.drop n t
def je:Option V->Option IV->Prop
 | some v,some u=>aF v u
 | none,none=>True
 | _,_=>False
def KV{κ:Type}:List (κ×V)->List (κ×IV)->Prop:=Mw fun (p:κ×V) (q:κ×IV)=>p.1=q.1/\aF p.2 q.2
def kV:aQ->V
 | .inl i=>.int i
 | .inr x=>.str x
set_option genInjectivity false in
inductive HO where
 | lst (xs:List V)
 | tup (xs:List V)
 | dK (kvs:List (aQ×V))|dT (kvs:List (List aQ×V))
 | set (S:Int->Bool) (n:Nat)
 | ins (C dx:IW) (fs:List (Str×V))
 | own (x:IW)
 | xd (fs:List (Str×V))
 | met (f x:IW)
 | rng (lo hi:Int)
 | frz (o:Obj) (u:HO)
 | tbl (ps:Array IV)
 | ext (φ:JI->Prop)
abbrev Hp:=IW->Option HO
def bG(H:Hp)(a:IW)(o:HO):Hp:=fun b=>if b=a then some o else H b
theorem aU{H:Hp}{a:IW}{o:HO}:bG H a o a=some o:=by unfold bG;rw[if_pos rfl]
theorem ax{H:Hp}{a b:IW}{o:HO}(h:b≠a):bG H a o b=H b:=by unfold bG;rw[if_neg h]
theorem Gf{H:Hp}{a b:IW}{o u:HO}(h:H a=some o)(h':H b=some u)(d:o≠u):a≠b:=by
 intro e;subst e;rw[h]at h';exact d (Option.some.inj h')
theorem b6{H:Hp}{a b:IW}{o:HO}(h:H a=some o)(h':H b=none):a≠b:=by
 intro e;subst e;rw[h]at h';cases h'
section
variable(P:Jw)(w:JG)
def qc(h:JI)(a:IW)(items:Array IV):Prop:=∃ o,h.get? a=some o/\(o.cls=.type "tuple"/\o.dict=none)/\∃ n,o.data=.seq items n
def bZ(H:Hp)(h:JI)(a:IW):HO->Prop
 | .lst xs=>xs.length<=Jg/\∃ (its:List IV) (n:Nat),Vals xs its/\h.get? a=some { cls:=.type "list",data:=.seq its.toArray n }
 | .tup xs=>xs.length<=Jg/\∃ its:List IV,Vals xs its/\qc h a its.toArray
 | .dK kvs=>kvs.length<=Jg/\(a == J8)=false/\∃ vs,KV kvs vs/\h.DictOf (bn P w) a vs
 | .dT kvs=>kvs.length<=Jg/\(a == J8)=false/\∃ xs:List (List aQ×IW×IV),
   Mw (fun (p:List aQ×V) (q:List aQ×IW×IV)=>p.1=q.1/\H q.2.1=some (.tup (p.1.map kV))/\aF p.2 q.2.2) kvs xs/\
   ∃ o es ep,h.get? a=some o/\o.ExactDict/\o.data=.dict es ep/\es.toList=xs.map (OG (Ks (bn P w)))/\(xs.map (·.1)).Nodup
 | .set S n=>h.SetOf (intKind P w) a S n
 | .ins C dx fs=>H dx=some (.own a)/\fs.length<=1000/\dx≠a/\h.get? a=some (MD C dx)/\
   ∃ mA,h.Ns1 dx mA/\(∀ f,je (fs.lookup f) (mA f))/\PySem.Within mA (fs.map (·.1))
 | .own _=>∃ o,h.get? a=some o
 | .xd fs=>∃ mA,h.Ns1 a mA/\∀ f,je (fs.lookup f) (mA f)
 | .rng lo hi=>∃ t u v,h.get? a=some { cls:=.type "range",data:=.fields #[.int lo t,.int hi u,.int 1 v] }
 | .frz o u=>h.get? a=some o/\bZ H h a u
 | .tbl ps=>h.get? a=some { cls:=.none,data:=.fields ps }
 | .met f x=>h.get? a=some (NU (.ref f) (.ref x))
 | .ext φ=>φ h/\(∃ o,h.get? a=some o)/\∀ h1 h2:JI,φ h1->(∀ o,h1.get? a=some o->h2.get? a=some o)->φ h2
theorem qc.new(h:JI)(items:Array IV):qc (h.push { cls:=.type "tuple",data:=.seq items }) h.objs.size items:=⟨_,Je _ rfl,⟨rfl,rfl⟩,_,rfl⟩
theorem qc.tup{h:JI}{a:IW}{items:Array IV}(x:qc h a items):IsTup h a items:=let ⟨o,e,c,d⟩:=x;⟨o,e,c.1,d⟩
def kA(H:Hp)(h:JI):Prop:=∀ a o,H a=some o->bZ P w H h a o
end
section
variable{P:Jw}{w:JG}{H H':Hp}{h h':JI}{a:IW}{o:HO}
theorem bZ.lt(x:bZ P w H h a o):a < h.objs.size:=by
 cases o with
 | lst xs=>obtain⟨_,_,_,_,e⟩:=x;exact Ju e
 | tup xs=>obtain⟨_,_,_,p⟩:=x;exact p.tup.lt
 | dK kvs=>obtain⟨_,_,_,_,o,_,_,e,_⟩:=x;exact Ju e
 | dT kvs=>obtain⟨_,_,_,_,o,_,_,e,_⟩:=x;exact Ju e
 | set S n=>obtain⟨o,_,_,_,e,_⟩:=x;exact Ju e
 | ins C dx fs=>obtain⟨_,_,_,e,_⟩:=x;exact Ju e
 | own y=>obtain⟨_,e⟩:=x;exact Ju e
 | xd fs=>obtain⟨_,⟨_,_,_,e,_⟩,_⟩:=x;exact Ju e
 | rng lo hi=>obtain⟨_,_,_,e⟩:=x;exact Ju e
 | frz ob u=>obtain⟨e,_⟩:=x;exact Ju e
 | tbl ps=>exact Ju (show h.get? a=some _ from x)
 | met f y=>exact Ju (show h.get? a=some _ from x)
 | ext φ=>obtain⟨_,⟨_,e⟩,_⟩:=x;exact Ju e
theorem Paired.mapP{α β:Type}{F G:α->β->Prop}:∀ {l₁:List α} {l₂:List β},Mw F l₁ l₂->(∀ a b,F a b->G a b)->Mw G l₁ l₂
 | _,_,.nil,_=>.nil
 | _,_,.cons r t,f=>.cons (f _ _ r) (Paired.mapP t f)
theorem bZ.stay(x:bZ P w H h a o)(k:∀ b u,(b=a\/H b=some (.own a))->h.get? b=some u->h'.get? b=some u)
  (ho:∀ b,H b=some (.own a)->H' b=some (.own a)) (ht:∀ b xs,H b=some (.tup xs)->H' b=some (.tup xs)):bZ P w H' h' a o:=by
 induction o with
 | lst xs=>obtain⟨z,its,n,r,e⟩:=x;exact⟨z,its,n,r,k _ _ (.inl rfl) e⟩
 | tup xs=>obtain⟨z,its,r,ob,e,c⟩:=x;exact⟨z,its,r,ob,k _ _ (.inl rfl) e,c⟩
 | dK kvs=>obtain⟨z,y,vs,r,ob,es,ep,e,c⟩:=x;exact⟨z,y,vs,r,ob,es,ep,k _ _ (.inl rfl) e,c⟩
 | dT kvs=>
  obtain⟨z,y,xs,r,ob,es,ep,e,c⟩:=x;exact⟨z,y,xs,Paired.mapP r fun p q z=>⟨z.1,ht _ _ z.2.1,z.2.2⟩,ob,es,ep,k _ _ (.inl rfl) e,c⟩
 | set S n=>obtain⟨ob,es,ep,t,e,c⟩:=x;exact⟨ob,es,ep,t,k _ _ (.inl rfl) e,c⟩
 | ins C dx fs=>
  obtain⟨d,z,ne,e,mA,⟨od,es,ep,e2,c⟩,r⟩:=x;exact⟨ho _ d,z,ne,k _ _ (.inl rfl) e,mA,⟨od,es,ep,k _ _ (.inr d) e2,c⟩,r⟩
 | own y=>obtain⟨ob,e⟩:=x;exact⟨ob,k _ _ (.inl rfl) e⟩
 | xd fs=>obtain⟨mA,⟨od,es,ep,e,c⟩,r⟩:=x;exact⟨mA,⟨od,es,ep,k _ _ (.inl rfl) e,c⟩,r⟩
 | rng lo hi=>obtain⟨t,u,v,e⟩:=x;exact⟨t,u,v,k _ _ (.inl rfl) e⟩
 | frz ob u ih=>obtain⟨e,q⟩:=x;exact⟨k _ _ (.inl rfl) e,ih q⟩
 | tbl ps=>
  have e:h.get? a=some { cls:=.none,data:=.fields ps }:=x;show h'.get? a=some { cls:=.none,data:=.fields ps }
  exact k a _ (.inl rfl) e
 | met f y=>
  have e:h.get? a=some (NU (.ref f) (.ref y)):=x;show h'.get? a=some (NU (.ref f) (.ref y))
  exact k a _ (.inl rfl) e
 | ext φ=>obtain⟨p,⟨o,e⟩,st⟩:=x;exact⟨st _ _ p fun o q=>k _ _ (.inl rfl) q,⟨o,k _ _ (.inl rfl) e⟩,st⟩
theorem kA.lt(x:kA P w H h)(e:H a=some o):a < h.objs.size:=(x a o e).lt
theorem kA.fresh(x:kA P w H h)(e:h.objs.size<=a):H a=none:=by
 cases q:H a with
 | none=>rfl
 | some u=>exact absurd (Jt (x.lt q) e) (Nat.lt_irrefl _)
theorem kA.kept(x:kA P w H h)(k:∀ b u,h.get? b=some u->h'.get? b=some u):kA P w H h':=fun a o e=>
 (x a o e).stay (fun b u _ q=>k b u q) (fun _ q=>q) fun _ _ q=>q
theorem kA.laid(x:kA P w H h)(k:∀ b u,h.get? b=some u->h'.get? b=some u)(hp:h.objs.size<=a)(new:bZ P w (bG H a o) h' a o):kA P w (bG H a o) h':=fun b u e=>by
 have hn:=x.fresh hp
 by_cases hb:b=a
 ·subst hb;rw[aU]at e;cases e;exact new
 ·rw[ax hb]at e;exact (x b u e).stay (fun c v _ q=>k c v q) (fun c q=>by rw[ax (b6 q hn)];exact q) fun c xs q=>by rw[ax (b6 q hn)];exact q
end
def Rd(H:Hp)(a:IW)(u:HO):Prop:=H a=some u\/∃ o,H a=some (.frz o u)
theorem Rd.ok{P:Jw}{w:JG}{H:Hp}{h:JI}{a:IW}{u:HO}(r:Rd H a u)(x:kA P w H h):bZ P w H h a u:=by
 rcases r with r|⟨o,r⟩
 ·exact x a u r
 ·obtain⟨_,q⟩:=x a _ r;exact q
def yA:Option HO->Prop
 | some (.lst _)=>True
 | some (.dK _)=>True
 | some (.dT _)=>True
 | some (.set _ _)=>True
 | some (.ins _ _ _)=>True
 | some (.ext _)=>True
 | _=>False
section
variable{P:Jw}{w:JG}{H:Hp}{h h':JI}{x e:IW}{o':HO}
theorem kA.write(ok:kA P w H h)(mu:yA (H x))(he:e=x\/H e=some (.own x))(k:∀ b u,b≠e->h.get? b=some u->h'.get? b=some u)(heo:∃ u,h'.get? e=some u)
  (new:bZ P w (bG H x o') h' x o'):kA P w (bG H x o') h':=fun b u q=>by
 have SV:∀ c y,H c=some (.own y)->c≠x:=fun c y r z=>by subst z;rw[r]at mu;exact mu
 have Vm:∀ c xs,H c=some (.tup xs)->c≠x:=fun c xs r z=>by subst z;rw[r]at mu;exact mu
 by_cases hb:b=x
 ·subst hb;rw[aU]at q;cases q;exact new
 ·rw[ax hb]at q
  by_cases hbe:b=e
  ·have q':H b=some (.own x):=by
    rcases he with z|z
    ·exact absurd (hbe.trans z) hb
    ·rw[hbe];exact z
   rw[q]at q';cases q';obtain⟨v,hv⟩:=heo;exact⟨v,by rw[hbe];exact hv⟩
  ·refine (ok b u q).stay (fun c v hc r=>k c v ?_ r) (fun c r=>by rw[ax (SV c b r)];exact r) fun c xs r=>by rw[ax (Vm c xs r)];exact r
   rcases hc with rfl|hc
   ·exact hbe
   ·rintro rfl
    rcases he with z|z
    ·exact SV c b hc z
    ·rw[hc]at z;cases z;exact hb rfl
end
structure Un(fs ex:List IW)(H H':Hp)(h h':JI):Prop where
 keep:∀ b o,h.get? b=some o->H b=none->b∉fs->b∉ex->h'.get? b=some o
 slot:∀ b o,h.get? b=some o->H b=none->b∈fs->b∉ex->∃ sl,h'.get? b=some { o with slots:=sl }
 free:∀ b o,h.get? b=some o->H b=none->b∉ex->H' b=none
 there:∀ b o,h.get? b=some o->b∉ex->∃ o',h'.get? b=some o'
 tups:∀ b xs,H b=some (.tup xs)->H' b=some (.tup xs)
 frzs:∀ b o u,H b=some (.frz o u)->H' b=some (.frz o u)
 tbls:∀ b ps,H b=some (.tbl ps)->∃ more,H' b=some (.tbl (ps ++ more))
section
variable{fs fs' ex ex':List IW}{H H1 H2:Hp}{h h1 h2 h':JI}{a x e:IW}{o:HO}
theorem Un.any(u:Un fs ex H H1 h h1){b:IW}{ob:Obj}(q:h.get? b=some ob)(n:H b=none)(hx:b∉ex):∃ sl,h1.get? b=some { ob with slots:=sl }:=by
 by_cases hb:b∈fs
 ·exact u.slot b ob q n hb hx
 ·exact⟨ob.slots,u.keep b ob q n hb hx⟩
theorem Un.kept(k:∀ b u,h.get? b=some u->h'.get? b=some u):Un fs ex H H h h':=
 ⟨fun b ob q _ _ _=>k b ob q,fun b ob q _ _ _=>⟨ob.slots,k b ob q⟩,fun _ _ _ n _=>n,fun b ob q _=>⟨ob,k b ob q⟩,fun _ _ q=>q,fun _ _ _ q=>q,fun _ ps q=>⟨#[],by rw[q];simp⟩⟩
theorem Un.refl:Un fs ex H H h h:=Un.kept fun _ _ q=>q
theorem Un.laid(k:∀ b u,h.get? b=some u->h'.get? b=some u)(hp:h.objs.size<=a)(hn:H a=none):Un fs ex H (bG H a o) h h' where
 keep:=fun b u q _ _ _=>k b u q
 slot:=fun b u q _ _ _=>⟨u.slots,k b u q⟩
 free:=fun b u q n _=>by rw[ax (JP (Jt (Ju q) hp))];exact n
 there:=fun b u q _=>⟨u,k b u q⟩
 tups:=fun b xs q=>by rw[ax (b6 q hn)];exact q
 frzs:=fun b u xs q=>by rw[ax (b6 q hn)];exact q
 tbls:=fun b ps q=>⟨#[],by rw[ax (b6 q hn),q];simp⟩
theorem Un.write(mu:yA (H x))(he:e=x\/H e=some (.own x))(k:∀ b u,b≠e->h.get? b=some u->h'.get? b=some u)(heo:∃ u,h'.get? e=some u):Un fs ex H (bG H x o) h h':=by
 have hx:∀ b,H b=none->b≠x:=fun b n z=>by subst z;rw[n]at mu;exact mu
 have hb:∀ b,H b=none->b≠e:=fun b n z=>by
  subst z;rcases he with r|r
  ·exact hx b n r
  ·rw[n]at r;cases r
 have hm:∀ b u,H b=some u->¬ yA (some u)->b≠x:=fun b u q nm z=>by subst z;rw[q]at mu;exact nm mu
 refine⟨fun b u q n _ _=>k b u (hb b n) q,fun b u q n _ _=>⟨u.slots,k b u (hb b n) q⟩,fun b u q n _=>by rw[ax (hx b n)];exact n,fun b u q _=>?_,
  fun b xs q=>by rw[ax (hm b _ q fun z=>z)];exact q,fun b u xs q=>by rw[ax (hm b _ q fun z=>z)];exact q,fun b ps q=>⟨#[],by rw[ax (hm b _ q fun z=>z),q];simp⟩⟩
 by_cases hbe:b=e
 ·subst hbe;exact heo
 ·exact⟨u,k b u hbe q⟩
end
def Hc(h:JI)(H:Hp):List IW:=(List.range h.objs.size).filter fun a=>(H a).isSome
def sD(h:JI)(H:Hp):JI:=PySem.W.hideAll h (Hc h H)
theorem yd(h:JI)(H:Hp):(sD h H).objs.size=h.objs.size:=PySem.W.hideAll_size _ _
theorem AA{h:JI}{H:Hp}{b:IW}{o:Obj}(e:h.get? b=some o)(n:H b=none):(sD h H).get? b=some o:=
 PySem.W.hideAll_get _ e fun hm=>by
  have q:(H b).isSome=true:=(OD.mp hm).2;rw[n]at q;simp at q
theorem B5{h:JI}{H:Hp}{b:IW}{o:Obj}(e:(sD h H).get? b=some o):h.get? b=some o/\H b=none:=by
 have e':h.get? b=some o:=PySem.W.of_hideAll (Hc h H) e;refine⟨e',?_⟩;cases q:H b with
 | none=>rfl
 | some x=>
  have hm:b∈Hc h H:=OD.mpr ⟨mem_range.mpr (Ju e'),by simp[q]⟩
  have z:(sD h H).get? b=none:=PySem.W.hideAll_none (Hc h H) hm;rw[z]at e;cases e
def CJ(g h:JI)(L:IW):List (IW×Obj):=(List.range h.objs.size).filterMap fun a=>if a=L\/(g.get? a).isSome=true then none else (h.get? a).map fun o=>(a,o)
def bU(g h:JI)(L d:IW):List (IW×Obj):=(CJ g h L).filter fun p=>decide (p.1≠d)
structure Mod(K:JD)(mg:Str->Option IV)(base:JI):Prop where
 kin:K.In base
 glob:base.Ns Jr mg
 blt:∃ mb,base.Ns OJ mb/\∀ x:Str,x≠"__name__"->mb x=KN x
 nolimit:base.NoLimit
set_option genInjectivity false in
structure Cx where
 prog:Jw
 w:JG
 K:JD
 mg:Str->Option IV
 base:JI
 A:Jy
 N:List Str
 s₀:IX
 H₀:Hp
 env:Env
 outer:List Env
 stack:List Env
 ex:List IW
 fn:Str->Bool
 calm:Bool
 pn:List (IW×Obj)
 xe:IV->IX->Prop
def AJ(l:List Env):List IW:=l.filterMap (·.frame)
abbrev Cx.fs(X:Cx):List IW:=AJ X.outer
def GW(sc:L9)(x:Str):Prop:=sc.names.lookup x=some .local\/sc.names.lookup x=some .cell\/sc.names.lookup x=some .free
def Fl(sc:L9)(x:Str):Prop:=sc.names.lookup x=some .local\/sc.names.lookup x=some .cell
def Ig(env:Env)(h:JI)(m:Str->Option IV)(x:Str)(u:IV):Prop:=
 (env.kindOf x=some .local/\m x=some u)\/((env.kindOf x=some .cell\/env.kindOf x=some .free)/\∃ c,env.cells.lookup x=some c/\h.IsCell c (some u))
structure Cx.Ok(X:Cx):Prop where
 mod:Mod X.K X.mg X.base
 kind:X.env.scope.kind=.function
 glob:X.env.globals=Jr
 blt:X.env.builtins=OJ
 above:X.s₀.heap.objs.size<=X.env.locals
 inj:∀ x y c,X.env.cells.lookup x=some c->X.env.cells.lookup y=some c->x=y
 has:∀ x,(X.env.kindOf x=some .cell\/X.env.kindOf x=some .free)->∃ c,X.env.cells.lookup x=some c
 cab:∀ x c,X.fn x=true->X.env.cells.lookup x=some c->X.s₀.heap.objs.size<=c
 hd:X.calm=true->X.A.handled=none
 frames:X.A.frames=some X.stack
 stk:X.stack=X.outer\/(X.stack=X.env::X.outer/\X.env.frame=some X.env.locals)
 exf:∀ b∈X.ex,b≠X.env.locals/\∀ x c,X.env.cells.lookup x=some c->c≠b
 bs:∀ b o,X.base.get? b=some o->X.s₀.heap.get? b=some o/\X.H₀ b=none
 bsz:X.base.objs.size<=X.s₀.heap.objs.size
 noex:∀ b o,X.base.get? b=some o->b∉X.ex
 exfs:∀ b∈X.ex,b∉X.fs
 funs:X.s₀.heap.FunFrames X.base X.outer
 frf:∀ b∈X.fs,X.H₀ b=none
structure Inv(X:Cx)(pins:List (IW×Obj))(σ:List (Option V))(H:Hp)(s:IX):Prop where
 ok:X.Ok
 os:s.os=X.s₀.os
 bare:MG s.gens
 base:Un X.fs X.ex X.H₀ H X.s₀.heap s.heap
 loc:∃ m,s.heap.Ns X.env.locals m/\∀ (i:Nat) (x:Str) (v:V),X.N[i]?=some x->σ[i]?=some (some v)->GW X.env.scope x->∃ u,aF v u/\Ig X.env s.heap m x u
 cell:∀ x c,X.env.cells.lookup x=some c->∃ v,s.heap.IsCell c v
 free:H X.env.locals=none
 freeC:∀ x c,X.env.cells.lookup x=some c->H c=none
 pin:∀ p∈X.pn ++ pins,s.heap.get? p.1=some p.2/\H p.1=none/\p.1≠X.env.locals/\p.1∉X.fs/\∀ v,p.2.data≠.cell v
 hok:kA X.prog X.w H s.heap
 len:σ.length=X.N.length
section
variable{X:Cx}{pins:List (IW×Obj)}{σ:List (Option V)}{H H':Hp}{s:IX}{h':JI}
theorem Cx.Ok.nofr(ok:X.Ok){b:IW}{o:Obj}(e:X.base.get? b=some o):b∉X.fs:=fun hb=>by
 have:=(ok.funs.mem hb).1;rw[e]at this;cases this
theorem Inv.bs(I:Inv X pins σ H s):∀ b o,X.base.get? b=some o->s.heap.get? b=some o/\H b=none:=fun b o e=>
 ⟨I.base.keep b o (I.ok.bs b o e).1 (I.ok.bs b o e).2 (I.ok.nofr e) (I.ok.noex b o e),I.base.free b o (I.ok.bs b o e).1 (I.ok.bs b o e).2 (I.ok.noex b o e)⟩
theorem Inv.bk(I:Inv X pins σ H s):∀ b o,X.base.get? b=some o->s.heap.get? b=some o:=fun b o e=>(I.bs b o e).1
theorem Inv.mod(I:Inv X pins σ H s):Mod X.K X.mg X.base:=I.ok.mod
theorem Inv.kIn(I:Inv X pins σ H s):X.K.In s.heap:=I.ok.mod.kin.keeps I.bk
theorem Inv.lt(I:Inv X pins σ H s):X.env.locals < s.heap.objs.size:=let ⟨_,hn,_⟩:=I.loc;hn.lt
theorem Inv.sz(I:Inv X pins σ H s):X.s₀.heap.objs.size<=s.heap.objs.size:=le_trans I.ok.above (le_of_lt I.lt)
theorem Inv.nofs(I:Inv X pins σ H s){a:IW}(h:s.heap.objs.size<=a):a∉X.fs:=fun hb=>by
 obtain⟨_,o,ho,_⟩:=I.ok.funs.mem hb;exact absurd (Jt (Ju ho) (le_trans I.sz h)) (Nat.lt_irrefl _)
theorem Inv.cne(I:Inv X pins σ H s):∀ x c,X.env.cells.lookup x=some c->c≠X.env.locals:=fun x c e z=>by
 obtain⟨v,o,ho,hd⟩:=I.cell x c e;obtain⟨m,⟨o',es,ep,ho',hd',_⟩,_⟩:=I.loc;rw[z,ho']at ho;cases ho;rw[hd']at hd;cases hd
theorem Inv.funs(I:Inv X pins σ H s):s.heap.FunFrames X.base X.outer:=by
 have all:∀ (l:List Env),(∀ b∈AJ l,b∈X.fs)->X.s₀.heap.FunFrames X.base l->s.heap.FunFrames X.base l:=by
  intro l
  induction l with
  | nil=>intro _ _;trivial
  | cons env r ih=>
   intro hs hl;obtain⟨hk,⟨L,o,hf,hn,ho,hd⟩,hr⟩:=hl;have hL:L∈X.fs:=hs L (by unfold AJ;rw[List.filterMap_cons,hf];exact Jk)
   obtain⟨sl,e⟩:=I.base.slot L o ho (I.ok.frf L hL) hL fun z=>I.ok.exfs L z hL;exact⟨hk,⟨L,_,hf,hn,e,hd⟩,ih (fun b hb=>hs b (by unfold AJ;rw[List.filterMap_cons,hf];exact Jl _ hb)) hr⟩
 exact all X.outer (fun _ hb=>hb) I.ok.funs
theorem Inv.stack(I:Inv X pins σ H s):s.heap.FunFrames X.base X.stack:=by
 rcases I.ok.stk with e|⟨e,hf⟩
 ·rw[e];exact I.funs
 ·rw[e];obtain⟨m,hn,_⟩:=I.loc;refine .cons (by rw[I.ok.kind];decide) hf hn ?_ I.funs
  exact Heap.get?_none_of_le (le_trans I.ok.bsz I.ok.above)
theorem Inv.stkSub(I:Inv X pins σ H s):∀ b∈AJ X.stack,b∈X.env.locals::X.fs:=fun b hb=>by
 rcases I.ok.stk with e|⟨e,hf⟩
 ·rw[e]at hb;exact Jl _ hb
 ·rw[e]at hb;unfold AJ at hb;rw[List.filterMap_cons,hf]at hb;exact hb
theorem Inv.stkFree(I:Inv X pins σ H s):∀ b∈AJ X.stack,H b=none:=fun b hb=>by
 rcases Kg.mp (I.stkSub b hb)with e|hb
 ·rw[e];exact I.free
 ·obtain⟨_,o,ho,_⟩:=I.ok.funs.mem hb;exact I.base.free b o ho (I.ok.frf b hb) fun z=>I.ok.exfs b z hb
theorem Inv.step{g':Array GenState}{t':Nat}{d':Drawn}{ch:List IW}(I:Inv X pins σ H s)
  (hch:∀ b∈ch,(b∈X.ex\/X.s₀.heap.objs.size<=b)/\b≠X.env.locals/\(∀ x c,X.env.cells.lookup x=some c->c≠b)/\∀ p∈X.pn ++ pins,p.1≠b)
  (keep:∀ b o,b≠X.env.locals->b∉X.fs->b∉ch->s.heap.get? b=some o->H b=none->h'.get? b=some o)
  (slot:∀ b o,b≠X.env.locals->b∈X.fs->b∉ch->s.heap.get? b=some o->H b=none->∃ sl,h'.get? b=some { o with slots:=sl }) (free:∀ b o,b∉ch->s.heap.get? b=some o->H b=none->H' b=none)
  (there:∀ b o,b∉ch->s.heap.get? b=some o->∃ o',h'.get? b=some o')
  (tups:∀ b xs,H b=some (.tup xs)->H' b=some (.tup xs)) (frzs:∀ b o u,H b=some (.frz o u)->H' b=some (.frz o u)) (tbls:∀ b ps,H b=some (.tbl ps)->∃ more,H' b=some (.tbl (ps ++ more)))
  (ns:∀ m,s.heap.Ns X.env.locals m->h'.Ns X.env.locals m) (hok:kA X.prog X.w H' h') (hg:MG g'):
  Inv X pins σ H' { s with heap:=h',gens:=g',drawn:=d',toks:=t' }:=by
 have neL:∀ b o,X.s₀.heap.get? b=some o->b≠X.env.locals:=fun b o e=>JP (Jt (Ju e) I.ok.above);have neC:∀ b o,X.s₀.heap.get? b=some o->b∉X.ex->b∉ch:=fun b o e hx hb=>by
  rcases (hch b hb).1 with z|z
  ·exact hx z
  ·exact absurd (Jt (Ju e) z) (Nat.lt_irrefl _)
 have cellK:∀ x c,X.env.cells.lookup x=some c->∀ v,s.heap.IsCell c v->h'.IsCell c v:=fun x c e v zz=>by
  obtain⟨o,ho,hd⟩:=zz;have nch:c∉ch:=fun z=>(hch c z).2.2.1 x c e rfl
  by_cases hc:c∈X.fs
  ·obtain⟨sl,q⟩:=slot c o (I.cne x c e) hc nch ho (I.freeC x c e);exact⟨_,q,hd⟩
  ·exact⟨o,keep c o (I.cne x c e) hc nch ho (I.freeC x c e),hd⟩
 refine⟨I.ok,I.os,hg,⟨fun b o e n hb hx=>?_,fun b o e n hb hx=>?_,fun b o e n hx=>?_,fun b o e hx=>?_,fun b xs e=>tups b xs (I.base.tups b xs e),fun b o xs e=>frzs b o xs (I.base.frzs b o xs e),fun b ps e=>?_⟩,?_,fun x c e=>?_,?_,fun x c e=>?_,fun p hp=>?_,hok,I.len⟩
 ·exact keep b o (neL b o e) hb (neC b o e hx) (I.base.keep b o e n hb hx) (I.base.free b o e n hx)
 ·obtain⟨sl,e1⟩:=I.base.slot b o e n hb hx;obtain⟨sl',e2⟩:=slot b _ (neL b o e) hb (neC b o e hx) e1 (I.base.free b o e n hx);exact⟨sl',e2⟩
 ·obtain⟨o',e1⟩:=I.base.there b o e hx;exact free b o' (neC b o e hx) e1 (I.base.free b o e n hx)
 ·obtain⟨o',e1⟩:=I.base.there b o e hx;exact there b o' (neC b o e hx) e1
 ·obtain⟨m1,e1⟩:=I.base.tbls b ps e;obtain⟨m2,e2⟩:=tbls b _ e1;exact⟨m1 ++ m2,by rw[e2,Array.append_assoc]⟩
 ·obtain⟨m,hn,hl⟩:=I.loc;refine⟨m,ns m hn,fun i x v e1 e2 e3=>?_⟩;obtain⟨u,r,l⟩:=hl i x v e1 e2 e3;refine⟨u,r,?_⟩;rcases l with l|⟨k,c,e,z⟩
  ·exact .inl l
  ·exact .inr ⟨k,c,e,cellK x c e _ z⟩
 ·obtain⟨v,z⟩:=I.cell x c e;exact⟨v,cellK x c e v z⟩
 ·obtain⟨m,⟨o,_,_,ho,_⟩,_⟩:=I.loc;exact free _ o (fun z=>(hch _ z).2.1 rfl) ho I.free
 ·obtain⟨v,o,ho,hd⟩:=I.cell x c e;exact free c o (fun z=>(hch c z).2.2.1 x c e rfl) ho (I.freeC x c e)
 ·obtain⟨e,n,ne,nf,d⟩:=I.pin p hp;have nch:p.1∉ch:=fun z=>(hch p.1 z).2.2.2 p hp rfl;exact⟨keep p.1 p.2 ne nf nch e n,free p.1 p.2 nch e n,ne,nf,d⟩
theorem Inv.un{t':Nat}(I:Inv X pins σ H s)(u:Un X.fs [] H H' s.heap h')(hok:kA X.prog X.w H' h'):Inv X pins σ H' { s with heap:=h',toks:=t' }:=by
 obtain⟨m,⟨o,es,ep,ho,r⟩,_⟩:=id I.loc;obtain⟨sl,hL⟩:=u.any ho I.free (by simp)
 exact I.step (g':=s.gens) (d':=s.drawn) (ch:=[]) (fun _ z=>nomatch z) (fun b o _ hb _ e n=>u.keep b o e n hb (by simp)) (fun b o _ hb _ e n=>u.slot b o e n hb (by simp)) (fun b o _ e n=>u.free b o e n (by simp)) (fun b o _ e=>u.there b o e (by simp)) u.tups u.frzs u.tbls (fun m' hm=>by
  obtain⟨o',es',ep',ho',r'⟩:=hm;rw[ho]at ho';cases ho';exact⟨_,es',ep',hL,r'⟩) hok I.bare
theorem Inv.call{g':Array GenState}{t':Nat}{d':Drawn}{ch:List IW}(I:Inv X pins σ H s)(u:Un (AJ X.stack) ch H H' s.heap h')(hok:kA X.prog X.w H' h')(hg:MG g')
  (hch:∀ b∈ch,(b∈X.ex\/X.s₀.heap.objs.size<=b)/\b≠X.env.locals/\(∀ x c,X.env.cells.lookup x=some c->c≠b)/\∀ p∈X.pn ++ pins,p.1≠b):
  Inv X pins σ H' { s with heap:=h',gens:=g',drawn:=d',toks:=t' }:=by
 obtain⟨m,⟨o,es,ep,ho,r⟩,_⟩:=id I.loc;obtain⟨sl,hL⟩:=u.any ho I.free fun z=>(hch _ z).2.1 rfl;exact I.step (ch:=ch) hch (fun b o hL hb hc e n=>u.keep b o e n (fun z=>(Kg.mp (I.stkSub b z)).elim hL hb) hc) (fun b o _ _ hc e n=>u.any e n hc) (fun b o hc e n=>u.free b o e n hc) (fun b o hc e=>u.there b o e hc) u.tups u.frzs u.tbls (fun m' hm=>by
  obtain⟨o',es',ep',ho',r'⟩:=hm;rw[ho]at ho';cases ho';exact⟨_,es',ep',hL,r'⟩) hok hg
theorem Inv.turned{t':Nat}{it:IW}(I:Inv X pins σ H s)(k:∀ b o,b≠it->s.heap.get? b=some o->h'.get? b=some o)(hn:H it=none)(hL:it≠X.env.locals)
  (h1:it∈X.ex\/X.s₀.heap.objs.size<=it) (h2:∀ x c,X.env.cells.lookup x=some c->c≠it) (h3:∀ p∈X.pn ++ pins,p.1≠it):Inv X pins σ H { s with heap:=h',toks:=t' }:=by
 have nit:∀ b u,H b=some u->b≠it:=fun b u e z=>by rw[z,hn]at e;cases e
 refine I.step (g':=s.gens) (d':=s.drawn) (ch:=[it]) (fun b hb=>?_) (fun b o _ _ hc e _=>k b o (fun z=>hc (by simp[z])) e) (fun b o _ _ hc e _=>⟨o.slots,k b o (fun z=>hc (by simp[z])) e⟩) (fun _ _ _ _ n=>n)
  (fun b o hc e=>⟨o,k b o (fun z=>hc (by simp[z])) e⟩) (fun _ _ e=>e) (fun _ _ _ e=>e) (fun b ps e=>⟨#[],by rw[e];simp⟩) (fun m hm=>?_) (fun b u e=>?_) I.bare
 ·have e:b=it:=by simpa using hb
  subst e;exact⟨h1,hL,h2,h3⟩
 ·obtain⟨o,es,ep,ho,r⟩:=hm;exact⟨o,es,ep,k _ o (Ne.symm hL) ho,r⟩
 ·refine (I.hok b u e).stay (fun c v hc q=>k c v ?_ q) (fun _ q=>q) fun _ _ q=>q;rcases hc with z|z
  ·rw[z];exact nit b u e
  ·exact nit c _ z
theorem Inv.tok(I:Inv X pins σ H s)(t:Nat):Inv X pins σ H { s with toks:=t }:=I.un (h':=s.heap) (t':=t) Un.refl I.hok
theorem Inv.kept{t':Nat}(I:Inv X pins σ H s)(k:∀ b u,s.heap.get? b=some u->h'.get? b=some u):Inv X pins σ H { s with heap:=h',toks:=t' }:=I.un (Un.kept k) (I.hok.kept k)
theorem Inv.laid{a:IW}{o:HO}{t':Nat}(I:Inv X pins σ H s)(k:∀ b u,s.heap.get? b=some u->h'.get? b=some u)(hp:s.heap.objs.size<=a)(new:bZ X.prog X.w (bG H a o) h' a o):
  Inv X pins σ (bG H a o) { s with heap:=h',toks:=t' }:=I.un (Un.laid k hp (I.hok.fresh hp)) (I.hok.laid k hp new)
theorem Inv.write{x e:IW}{o:HO}{t':Nat}(I:Inv X pins σ H s)(mu:yA (H x))(he:e=x\/H e=some (.own x))(k:∀ b u,b≠e->s.heap.get? b=some u->h'.get? b=some u)(heo:∃ u,h'.get? e=some u)
  (new:bZ X.prog X.w (bG H x o) h' x o):Inv X pins σ (bG H x o) { s with heap:=h',toks:=t' }:=I.un (Un.write mu he k heo) (I.hok.write mu he k heo new)
theorem Inv.pins_of{QG:List (IW×Obj)}(I:Inv X pins σ H s)(h:∀ p∈QG,s.heap.get? p.1=some p.2/\H p.1=none/\p.1≠X.env.locals/\p.1∉X.fs/\∀ v,p.2.data≠.cell v):Inv X QG σ H s:=
 ⟨I.ok,I.os,I.bare,I.base,I.loc,I.cell,I.free,I.freeC,fun p hp=>(Mi.mp hp).elim (fun z=>I.pin p (LK _ z)) (h p),I.hok,I.len⟩
theorem uf{N:List Str}(hN:N.Nodup){i j:Nat}{x:Str}(a:N[i]?=some x)(b:N[j]?=some x):i=j:=by
 obtain⟨h1,e1⟩:=List.getElem?_eq_some_iff.mp a;obtain⟨h2,e2⟩:=List.getElem?_eq_some_iff.mp b;exact (List.getElem_inj hN).mp (e1.trans e2.symm)
theorem ql{M:OT}{A:Jy}{E:IV->IX->Prop}{i:Nat}{x:Str}{v:V}{u:IV}{Q:Unit->IX->Prop}(I:Inv X pins σ H s)(hN:X.N.Nodup)(hi:X.N[i]?=some x)(hx:Fl X.env.scope x)(r:aF v u)
  (h:∀ s',Inv X pins (σ.set i (some v)) H s'->(∃ a,KO a s.heap s'.heap/\(a=X.env.locals\/X.env.cells.lookup x=some a))->Q () s') (hf:X.fn x=true\/X.env.scope.names.lookup x=some .local:=by first|exact .inl rfl|exact .inr rfl|assumption):Jc M A (storeName X.env x u) Q E s:=by
 obtain⟨m,hn,hl⟩:=id I.loc;have VQ:(X.env.scope.kind == .class || (X.env.scope.kind == .module && X.env.locals != X.env.globals))=false:=by rw[I.ok.kind];rfl
 have hiσ:i < σ.length:=by rw[I.len];exact (List.getElem?_eq_some_iff.mp hi).1
 have cne:=I.cne;have tracked:∀ {a:IW} {h':JI},(∃ o,s.heap.get? a=some o/\H a=none)->KO a s.heap h'->kA X.prog X.w H h':=fun {a h'} ha hs b ob e=>by
  obtain⟨_,_,Rb⟩:=ha;refine (I.hok b ob e).stay (fun c w' hc q=>(hs.2 c ?_).trans q) (fun _ q=>q) fun _ _ q=>q
  rintro rfl
  rcases hc with rfl|hc
  ·rw[Rb]at e;cases e
  ·rw[Rb]at hc;cases hc
 rcases hx with hk|hk
 ·refine wpAny_storeName_local hk hn (fun h' hn' hs=>?_) VQ;obtain⟨oL,_,_,hoL,_⟩:=id hn;refine h _ ⟨I.ok,I.os,I.bare,⟨fun b o e n hb hx=>?_,fun b o e n hb hx=>?_,I.base.free,fun b o e hx=>?_,I.base.tups,I.base.frzs,I.base.tbls⟩,⟨_,hn',fun j y v' e1 e2 e3=>?_⟩,fun y c e=>?_,I.free,I.freeC,fun p hp=>?_,tracked ⟨oL,hoL,I.free⟩ hs,by simpa using I.len⟩ ⟨_,hs,.inl rfl⟩
  ·exact (hs.2 b (JP (Jt (Ju e) I.ok.above))).trans (I.base.keep b o e n hb hx)
  ·obtain⟨sl,e1⟩:=I.base.slot b o e n hb hx;exact⟨sl,(hs.2 b (JP (Jt (Ju e) I.ok.above))).trans e1⟩
  ·obtain⟨o',e1⟩:=I.base.there b o e hx;exact⟨o',(hs.2 b (JP (Jt (Ju e) I.ok.above))).trans e1⟩
  ·by_cases hj:j=i
   ·subst hj;rw[hi]at e1;cases e1;rw[List.getElem?_set_self hiσ]at e2;cases e2;exact⟨u,r,.inl ⟨hk,by simp⟩⟩
   ·rw[Lm (Ne.symm hj)]at e2;obtain⟨u',r',q⟩:=hl j y v' e1 e2 e3;refine⟨u',r',?_⟩;rcases q with ⟨k,e⟩|⟨k,c,e,z⟩
    ·refine .inl ⟨k,?_⟩;have:y≠x:=fun e=>hj (uf hN e1 (e ▸ hi));simp[this,e]
    ·exact .inr ⟨k,c,e,z.sameBut hs (cne y c e)⟩
  ·obtain⟨w',z⟩:=I.cell y c e;exact⟨w',z.sameBut hs (cne y c e)⟩
  ·obtain⟨e,n,ne,nf,d⟩:=I.pin p hp;exact⟨(hs.2 p.1 ne).trans e,n,ne,nf,d⟩
 ·have hfn:X.fn x=true:=by
   rcases hf with z|z
   ·exact z
   ·rw[z]at hk;cases hk
  obtain⟨c,hc⟩:=I.ok.has x (.inl hk);obtain⟨w',z⟩:=I.cell x c hc;refine wpAny_storeName_cell I.ok.kind hk hc z (fun h' hc' hs=>?_);obtain⟨oc,hoc,hocd⟩:=id z;refine h { s with heap:=h' } ⟨I.ok,I.os,I.bare,⟨fun b o e n hb hx=>?_,fun b o e n hb hx=>?_,I.base.free,fun b o e hx=>?_,I.base.tups,I.base.frzs,I.base.tbls⟩,⟨m,hn.sameBut hs (Ne.symm (cne x c hc)),fun j y v' e1 e2 e3=>?_⟩,fun y c' e=>?_,I.free,I.freeC,fun p hp=>?_,tracked ⟨oc,hoc,I.freeC x c hc⟩ hs,by simpa using I.len⟩ ⟨c,hs,.inr hc⟩
  ·exact (hs.2 b (JP (Jt (Ju e) (I.ok.cab x c hfn hc)))).trans (I.base.keep b o e n hb hx)
  ·obtain⟨sl,e1⟩:=I.base.slot b o e n hb hx;exact⟨sl,(hs.2 b (JP (Jt (Ju e) (I.ok.cab x c hfn hc)))).trans e1⟩
  ·obtain⟨o',e1⟩:=I.base.there b o e hx;exact⟨o',(hs.2 b (JP (Jt (Ju e) (I.ok.cab x c hfn hc)))).trans e1⟩
  ·by_cases hj:j=i
   ·subst hj;rw[hi]at e1;cases e1;rw[List.getElem?_set_self hiσ]at e2;cases e2;exact⟨u,r,.inr ⟨.inl hk,c,hc,hc'⟩⟩
   ·rw[Lm (Ne.symm hj)]at e2;obtain⟨u',r',q⟩:=hl j y v' e1 e2 e3;refine⟨u',r',?_⟩;rcases q with q|⟨k,c',e,z'⟩
    ·exact .inl q
    ·refine .inr ⟨k,c',e,z'.sameBut hs ?_⟩
     rintro rfl
     exact hj (uf hN e1 (I.ok.inj _ _ _ e hc ▸ hi))
  ·by_cases hcc:c'=c
   ·subst hcc;exact⟨_,hc'⟩
   ·obtain⟨w2,z2⟩:=I.cell y c' e;exact⟨w2,z2.sameBut hs hcc⟩
  ·obtain⟨e,n,ne,nf,d⟩:=I.pin p hp;refine⟨(hs.2 p.1 ?_).trans e,n,ne,nf,d⟩;intro q;rw[q,hoc]at e;have q':oc=p.2:=Option.some.inj e;exact d w' (by rw[<- q'];exact hocd)
theorem tJ{M:OT}{A:Jy}{E:IV->IX->Prop}{i:Nat}{x:Str}{v:V}{u:IV}{Q:Unit->IX->Prop}(I:Inv X pins σ H s)(hN:X.N.Nodup)(hi:X.N[i]?=some x)(hx:Fl X.env.scope x)(r:aF v u)
  (h:∀ s',Inv X pins (σ.set i (some v)) H s'->Q () s') (hf:X.fn x=true\/X.env.scope.names.lookup x=some .local:=by first|exact .inl rfl|exact .inr rfl|assumption):Jc M A (storeName X.env x u) Q E s:=
 ql I hN hi hx r (fun s' I' _=>h s' I') hf
theorem Inv.call'{s':IX}{ch:List IW}(I:Inv X pins σ H s)(ho:s'.os=s.os)(u:Un (AJ X.stack) ch H H' s.heap s'.heap)(hok:kA X.prog X.w H' s'.heap)(hg:MG s'.gens)
  (hch:∀ b∈ch,(b∈X.ex\/X.s₀.heap.objs.size<=b)/\b≠X.env.locals/\(∀ x c,X.env.cells.lookup x=some c->c≠b)/\∀ p∈X.pn ++ pins,p.1≠b):Inv X pins σ H' s':=by
 obtain⟨h',g',d',t',o'⟩:=s';have e:o'=s.os:=ho;subst e;exact I.call (g':=g') (t':=t') (d':=d') u hok hg hch
end
abbrev XK:=IV->Option IW->Hp->Prop
abbrev St:=List (Option V)
abbrev VK:=V->Hp->Prop
abbrev TE:=St->Hp->VK->Prop
abbrev TT:=St->Hp->(Bool->Hp->Prop)->Prop
abbrev TA:=St->Hp->(List V->Hp->Prop)->Prop
set_option genInjectivity false in
structure Ends where
 nx:St->Hp->Prop
 rt:VK
 bk:St->Hp->Prop:=fun _ _=>False
 ct:St->Hp->Prop:=fun _ _=>False
abbrev TS:=Ends->St->Hp->Prop
def EP(X:Cx)(pins:List (IW×Obj))(σ:St)(Q:VK)(u:IV)(s':IX):Prop:=∃ v H',Inv X pins σ H' s'/\aF v u/\Q v H'
def TP(X:Cx)(pins:List (IW×Obj))(σ:St)(Q:Bool->Hp->Prop)(b:Bool)(s':IX):Prop:=∃ H',Inv X pins σ H' s'/\Q b H'
def AP(X:Cx)(pins:List (IW×Obj))(σ:St)(Q:List V->Hp->Prop)(us:List IV)(s':IX):Prop:=∃ vs H',Inv X pins σ H' s'/\Vals vs us/\Q vs H'
def SP(X:Cx)(pins:List (IW×Obj))(D:Ends)(f:Flow)(s':IX):Prop:=
 match f with
 | .next=>∃ σ' H',Inv X pins σ' H' s'/\D.nx σ' H'
 | .brk=>∃ σ' H',Inv X pins σ' H' s'/\D.bk σ' H'
 | .cont=>∃ σ' H',Inv X pins σ' H' s'/\D.ct σ' H'
 | .ret u=>∃ v σ' H',Inv X pins σ' H' s'/\aF v u/\D.rt v H'
def PE(X:Cx)(e:JJ)(t:TE):Prop:=
 ∀ (pins:List (IW×Obj)) (s:IX) (σ:St) (H:Hp) (Q:VK),Inv X pins σ H s->t σ H Q->Jc (Jf X.prog X.w) X.A (eval e X.env) (EP X pins σ Q) X.xe s
def PT(X:Cx)(e:JJ)(t:TT):Prop:=
 ∀ (pins:List (IW×Obj)) (s:IX) (σ:St) (H:Hp) (Q:Bool->Hp->Prop),Inv X pins σ H s->t σ H Q->Jc (Jf X.prog X.w) X.A (Oa e X.env (eval e X.env)) (TP X pins σ Q) X.xe s
def PW(X:Cx)(e:JJ)(t:TT):Prop:=
 ∀ (whole:Sem IV) (pins:List (IW×Obj)) (s:IX) (σ:St) (H:Hp) (Q:Bool->Hp->Prop),Inv X pins σ H s->t σ H Q->Jc (Jf X.prog X.w) X.A (Oa e X.env whole) (TP X pins σ Q) X.xe s
theorem PW.pt{X:Cx}{e:JJ}{t:TT}(h:PW X e t):PT X e t:=h _
def PA(X:Cx)(es:List JJ)(t:TA):Prop:=
 ∀ (pos:Pos) (pins:List (IW×Obj)) (s:IX) (σ:St) (H:Hp) (Q:List V->Hp->Prop),Inv X pins σ H s->t σ H Q->Jc (Jf X.prog X.w) X.A (spliced (K3 pos (Jx es X.env))) (AP X pins σ Q) X.xe s
def PS(X:Cx)(st:Kt)(t:TS):Prop:=
 ∀ (pins:List (IW×Obj)) (s:IX) (σ:St) (H:Hp) (D:Ends),Inv X pins σ H s->t D σ H->Jc (Jf X.prog X.w) X.A (exec st X.env) (SP X pins D) X.xe s
def nz(X:Cx)(st:List Kt)(t:TS):Prop:=
 ∀ (pins:List (IW×Obj)) (s:IX) (σ:St) (H:Hp) (D:Ends),Inv X pins σ H s->t D σ H->Jc (Jf X.prog X.w) X.A (execs st X.env) (SP X pins D) X.xe s
theorem cm{α:Type}{t:Sem α}{Q Q':α->IX->Prop}{M:OT}{A:Jy}{E:IV->IX->Prop}{s:IX}(h:Jc M A t Q E s)(hQ:∀ a s,Q a s->Q' a s):Jc M A t Q' E s:=Ka h hQ fun _ _ x=>x
section
variable{X:Cx}
def Hk(i:Nat):TE:=fun σ H Q=>∃ v,σ[i]?=some (some v)/\Q v H
def tC(v:V):TE:=fun _ H Q=>Q v H
theorem zP{i:Nat}{x:Str}{pos:Pos}(hN:X.N[i]?=some x)(hv:GW X.env.scope x)(hd:(x == ("__debug__":Str))=false:=by decide)(hcd:(x == ("__classdict__":Str))=false:=by decide):PE X (.Name x pos) (Hk i):=by
 intro pins s σ H Q I h;obtain⟨v,e,h⟩:=h;obtain⟨m,hn,hl⟩:=I.loc;obtain⟨u,r,l⟩:=hl i x v hN e hv;have fin:EP X pins σ Q u s:=⟨v,H,I,r,h⟩;rcases l with ⟨hk,hm⟩|⟨hk,c,hc,Rc⟩
 ·exact OA (wpAny_loadName_local I.ok.kind hk hn hm fin) hd
 ·rcases hk with hk|hk
  ·exact OA (wpAny_loadName_cell I.ok.kind hk hc Rc fin) hd
  ·exact OA (wpAny_loadName_free I.ok.kind hk hc Rc fin hcd) hd
theorem Ee{i j pos}:PE X (.Constant (.int i) j pos) (tC (.int i)):=fun _ _ _ H _ I h=>wpAny_Constant_int ⟨.int i,H,I.tok _,⟨_,rfl⟩,h⟩
theorem FV{b j pos}:PE X (.Constant (.bool b) j pos) (tC (.bl b)):=fun _ _ _ H _ I h=>Constant_bool ⟨.bl b,H,I,rfl,h⟩
theorem Ec{j pos}:PE X (.Constant .none j pos) (tC .non):=fun _ _ _ H _ I h=>Constant_none ⟨.non,H,I,rfl,h⟩
theorem Eb{x j pos}:PE X (.Constant (.str x) j pos) (tC (.str x)):=fun _ _ _ H _ I h=>Calls.Constant_str ⟨.str x,H,I.tok _,⟨_,rfl⟩,h⟩
def Gl(X:Cx)(x:Str):Prop:=X.env.kindOf x=some .globalImplicit
theorem nC{E:IV->IX->Prop}{pins:List (IW×Obj)}{s:IX}{σ:St}{H:Hp}{x:Str}{u:IV}{pos:Pos}{Q:IV->IX->Prop}(I:Inv X pins σ H s)(hg:Gl X x)(hm:X.mg x=some u)(h:Q u s)
  (hd:(x == ("__debug__":Str))=false:=by decide):Jc (Jf X.prog X.w) X.A (eval (.Name x pos) X.env) Q E s:=
 NM I.ok.kind hg (Calls.loadGlobal_global (by rw[I.ok.glob];exact I.mod.glob.keeps I.bk) hm h) hd
theorem gx{E:IV->IX->Prop}{pins:List (IW×Obj)}{s:IX}{σ:St}{H:Hp}{x:Str}{u:IV}{pos:Pos}{Q:IV->IX->Prop}(I:Inv X pins σ H s)(hg:Gl X x)(hm:X.mg x=none)(hv:KN x=some u)(h:Q u s)
  (hn:x≠"__name__":=by decide) (hd:(x == ("__debug__":Str))=false:=by decide):Jc (Jf X.prog X.w) X.A (eval (.Name x pos) X.env) Q E s:=by
 obtain⟨mb,h1,h2⟩:=I.mod.blt;exact NM I.ok.kind hg (Calls.loadGlobal_builtin (by rw[I.ok.glob];exact I.mod.glob.keeps I.bk) hm (by rw[I.ok.blt];exact h1.keeps I.bk) ((h2 x hn).trans hv) h) hd
theorem wL{x:Str}{v:V}{u:IV}{pos:Pos}(hg:Gl X x)(hm:X.mg x=some u)(r:aF v u)(hd:(x == ("__debug__":Str))=false:=by decide):PE X (.Name x pos) (tC v):=
 fun _ _ _ H _ I h=>nC I hg hm ⟨v,H,I,r,h⟩ hd
theorem BR{x:Str}{v:V}{u:IV}{pos:Pos}(hg:Gl X x)(hm:X.mg x=none)(hv:KN x=some u)(r:aF v u)(hn:x≠"__name__":=by decide)(hd:(x == ("__debug__":Str))=false:=by decide):PE X (.Name x pos) (tC v):=
 fun _ _ _ H _ I h=>gx I hg hm hv ⟨v,H,I,r,h⟩ hn hd
variable{a b:JJ}{ta tb:TE}{pos:Pos}
def PC(X:Cx)(op:M_)(a b:JJ)(t:TE):Prop:=
 ∀ (pins:List (IW×Obj)) (s:IX) (σ:St) (H:Hp) (Q:VK),Inv X pins σ H s->t σ H Q->
  Jc (Jf X.prog X.w) X.A (eval a X.env) (fun v s₁=>Jc (Jf X.prog X.w) X.A (eval b X.env) (fun u s₂=>Jc (Jf X.prog X.w) X.A (J_ op v u) (EP X pins σ Q) X.xe s₂) X.xe s₁) X.xe s
def tB(t:TE):TT:=fun σ H Q=>t σ H fun x H1=>∃ c,x=.bl c/\Q c H1
theorem Eg{op:M_}{t:TE}(h:PC X op a b t)(h1:Kn op b=false:=by first|exact nobehind _ (by decide) (by decide)|rfl):PE X (.Compare a [op] [b] pos) t:=fun pins s σ H Q I hw=>wpAny_Compare1 (h pins s σ H Q I hw) h1
theorem zH{op:M_}{t:TE}(h:PC X op a b t)(h1:Kn op b=false:=by first|exact nobehind _ (by decide) (by decide)|rfl):PT X (.Compare a [op] [b] pos) (tB t):=by
 intro pins s σ H Q I hw;refine Oh (cm (h pins s σ H _ I hw) fun v s1 h1=>cm h1 fun u s2 h2=>cm h2 fun c s3 zz=>?_) h1;obtain⟨x,H1,I1,r1,q1⟩:=zz;obtain⟨d,rfl,q⟩:=q1;cases r1;exact Mq ⟨H1,I1,q⟩
variable{tA tB':TT}{bU:List JJ}
def Hx(t u:TT):TT:=fun σ H Q=>t σ H fun c H1=>if c=true then u σ H1 Q else Q false H1
def IB(t u:TT):TT:=fun σ H Q=>t σ H fun c H1=>if c=true then Q true H1 else u σ H1 Q
def Hq(t:TT):TT:=fun σ H Q=>t σ H fun c H1=>Q (!c) H1
theorem BB(ha:PT X a tA):PW X (.BoolOp .And [a] pos) tA:=by
 intro wh pins s σ H Q I h;refine isTrue_and (cm (ha pins s σ H Q I h) fun c s1 e=>?_);cases c with
 | true=>exact isTrue_and_nil e
 | false=>exact e
theorem DW(ha:PT X a tA):PW X (.BoolOp .Or [a] pos) tA:=by
 intro wh pins s σ H Q I h;refine isTrue_or (cm (ha pins s σ H Q I h) fun c s1 e=>?_);cases c with
 | false=>exact isTrue_or_nil e
 | true=>exact e
theorem DX(ha:PT X a tA)(hb:PW X (.BoolOp .And (b::bU) pos) tB'):PW X (.BoolOp .And (a::b::bU) pos) (Hx tA tB'):=by
 intro wh pins s σ H Q I h;refine isTrue_and (cm (ha pins s σ H _ I h) fun c s1 zz=>?_);obtain⟨H1,I1,q1⟩:=zz;cases c with
 | true=>exact hb wh pins s1 σ H1 Q I1 q1
 | false=>exact⟨H1,I1,q1⟩
theorem FP(ha:PT X a tA)(hb:PW X (.BoolOp .Or (b::bU) pos) tB'):PW X (.BoolOp .Or (a::b::bU) pos) (IB tA tB'):=by
 intro wh pins s σ H Q I h;refine isTrue_or (cm (ha pins s σ H _ I h) fun c s1 zz=>?_);obtain⟨H1,I1,q1⟩:=zz;cases c with
 | true=>exact⟨H1,I1,q1⟩
 | false=>exact hb wh pins s1 σ H1 Q I1 q1
theorem D5(ha:PT X a tA):PT X (.UnaryOp .Not a pos) (Hq tA):=by
 intro pins s σ H Q I h;exact isTrue_not (ha pins s σ H (fun c H1=>Q (!c) H1) I h)
end
def jW(K:JD)(H:Hp)(a:IW)(xs:List V):Prop:=
 Rd H a (.lst xs)\/
  ∃ (o:Obj) (its:Array IV) (n:Nat),K.lookup a=some o/\o.cls=.type "list"/\o.dict=none/\o.data=.seq its n/\its.size<=Jg/\Vals xs its.toList
def ja(K:JD)(H:Hp)(a:IW)(xs:List V):Prop:=
 Rd H a (.tup xs)\/
  ∃ (o:Obj) (its:Array IV) (n:Nat),K.lookup a=some o/\(o.cls=.type "tuple"/\o.dict=none)/\o.data=.seq its n/\its.size<=Jg/\Vals xs its.toList
def Ib:IV->Option V
 | .none=>some .non
 | .bool b=>some (.bl b)
 | .int i _=>some (.int i)
 | .str x _=>some (.str x)
 | .bytes b _=>some (.byt b)
 | .float b _=>some (.flt b)
 | .ref a=>some (.ref a)
 | .type n=>some (.ty n)
 | _=>none
theorem aF.abs{x:V}{u:IV}(r:aF x u):Ib u=some x:=by
 cases x with
 | non=>cases r;rfl
 | bl _=>cases r;rfl
 | int _=>obtain⟨t,rfl⟩:=r;rfl
 | str _=>obtain⟨t,rfl⟩:=r;rfl
 | byt _=>obtain⟨t,rfl⟩:=r;rfl
 | flt _=>obtain⟨t,rfl⟩:=r;rfl
 | ref _=>cases r;rfl
 | ty _=>cases r;rfl
theorem aF.inj{x y:V}{u:IV}(r:aF x u)(q:aF y u):x=y:=Option.some.inj (r.abs.symm.trans q.abs)
theorem Vals.inj:∀ {xs ys:List V} {us:List IV},Vals xs us->Vals ys us->xs=ys
 | _,_,_,.nil,.nil=>rfl
 | _,_,_,.cons r t,.cons r' t'=>by rw[r.inj r',Vals.inj t t']
section
variable{X:Cx}{pins:List (IW×Obj)}{σ:St}{H:Hp}{s:IX}{a:IW}{xs ys:List V}
theorem jW.of{K:JD}(h:H a=some (.lst xs)):jW K H a xs:=.inl (.inl h)
theorem ja.of{K:JD}(h:H a=some (.tup xs)):ja K H a xs:=.inl (.inl h)
theorem Inv.list(I:Inv X pins σ H s)(h:jW X.K H a xs):∃ its:List IV,Vals xs its/\PlainL s.heap a its.toArray/\xs.length<=Jg:=by
 rcases h with h|⟨o,its,n,hk,hc,hd,hs,hz,r⟩
 ·obtain⟨z,its,n,r,e⟩:=h.ok I.hok;exact⟨its,r,⟨_,n,e,rfl,rfl,rfl⟩,z⟩
 ·refine⟨its.toList,r,⟨o,n,I.kIn a o hk,hc,hd,by simpa using hs⟩,?_⟩
  have e:=r.length;simp only[Array.length_toList]at e;omega
theorem Inv.tuple(I:Inv X pins σ H s)(h:ja X.K H a xs):∃ its:List IV,Vals xs its/\IsTup s.heap a its.toArray/\xs.length<=Jg:=by
 rcases h with h|⟨o,its,n,hk,hc,hs,hz,r⟩
 ·obtain⟨z,its,r,p⟩:=h.ok I.hok;exact⟨its,r,p.tup,z⟩
 ·refine⟨its.toList,r,⟨o,I.kIn a o hk,hc.1,n,by simpa using hs⟩,?_⟩
  have e:=r.length;simp only[Array.length_toList]at e;omega
theorem Inv.list_inj(I:Inv X pins σ H s)(h:jW X.K H a xs)(h':jW X.K H a ys):xs=ys:=by
 obtain⟨its,r,⟨o,n,e,_,_,d⟩,_⟩:=I.list h;obtain⟨its',r',⟨o',n',e',_,_,d'⟩,_⟩:=I.list h';rw[e]at e';cases e';rw[d]at d';injection d' with d1 _
 have:its=its':=by simpa using congrArg Array.toList d1
 subst this;exact r.inj r'
theorem Inv.tuple_inj(I:Inv X pins σ H s)(h:ja X.K H a xs)(h':ja X.K H a ys):xs=ys:=by
 obtain⟨its,r,⟨o,e,_,n,d⟩,_⟩:=I.tuple h;obtain⟨its',r',⟨o',e',_,n',d'⟩,_⟩:=I.tuple h';rw[e]at e';cases e';rw[d]at d';injection d' with d1 _
 have:its=its':=by simpa using congrArg Array.toList d1
 subst this;exact r.inj r'
end
abbrev Cx.wish(X:Cx)(E:IV->IX->Prop):Cx:={ X with xe:=E }
abbrev Cx.nox(X:Cx):Cx:=X.wish fun _ _=>False
theorem Cx.Ok.wish{X:Cx}(ok:X.Ok)(E:IV->IX->Prop):(X.wish E).Ok:=
 ⟨ok.mod,ok.kind,ok.glob,ok.blt,ok.above,ok.inj,ok.has,ok.cab,ok.hd,ok.frames,ok.stk,ok.exf,ok.bs,ok.bsz,ok.noex,ok.exfs,ok.funs,ok.frf⟩
theorem Cx.Ok.unwish{X:Cx}{E:IV->IX->Prop}(ok:(X.wish E).Ok):X.Ok:=
 ⟨ok.mod,ok.kind,ok.glob,ok.blt,ok.above,ok.inj,ok.has,ok.cab,ok.hd,ok.frames,ok.stk,ok.exf,ok.bs,ok.bsz,ok.noex,ok.exfs,ok.funs,ok.frf⟩
section
variable{X:Cx}{pins:List (IW×Obj)}{σ:St}{H:Hp}{s:IX}{E:IV->IX->Prop}
theorem Inv.wish(I:Inv X pins σ H s)(E:IV->IX->Prop):Inv (X.wish E) pins σ H s:=⟨I.ok.wish E,I.os,I.bare,I.base,I.loc,I.cell,I.free,I.freeC,I.pin,I.hok,I.len⟩
theorem Inv.unwish(I:Inv (X.wish E) pins σ H s):Inv X pins σ H s:=⟨I.ok.unwish,I.os,I.bare,I.base,I.loc,I.cell,I.free,I.freeC,I.pin,I.hok,I.len⟩
theorem SP.unwish{D:Ends}{f:Flow}{s':IX}(h:SP (X.wish E) pins D f s'):SP X pins D f s':=by
 cases f with
 | next=>obtain⟨σ',H',I,q⟩:=h;exact⟨σ',H',I.unwish,q⟩
 | brk=>obtain⟨σ',H',I,q⟩:=h;exact⟨σ',H',I.unwish,q⟩
 | cont=>obtain⟨σ',H',I,q⟩:=h;exact⟨σ',H',I.unwish,q⟩
 | ret u=>obtain⟨v,σ',H',I,r,q⟩:=h;exact⟨v,σ',H',I.unwish,r,q⟩
theorem nz.nox{st:List Kt}{t:TS}(h:nz X.nox st t):nz X st t:=fun pins s σ H D I hw=>
 Ka (h pins s σ H D (I.wish _) hw) (fun _ _ q=>q.unwish) fun _ _ z=>False.elim z
end
section
variable{X:Cx}{st:Kt}{bU:List Kt}{t u:TS}{e:JJ}{te:TE}{pos:Pos}
def Fz:TS:=fun D σ H=>D.nx σ H
def Hm(t u:TS):TS:=fun D σ H=>t { D with nx:=u D } σ H
theorem BG:nz X [] Fz:=fun _ _ σ H _ I h=>L_ ⟨σ,H,I,h⟩
theorem zI(h1:PS X st t)(h2:nz X bU u):nz X (st::bU) (Hm t u):=by
 intro pins s σ H D I h;refine wpAny_execs_cons (cm (h1 pins s σ H { D with nx:=u D } I h) fun f s1 q=>?_)
 cases f with
 | next=>
  obtain⟨σ',H',I',q⟩:=q;exact h2 pins s1 σ' H' D I' q
 | ret v=>exact q
 | brk=>exact q
 | cont=>exact q
theorem BF(h1:PS X st t):nz X [st] t:=by
 intro pins s σ H D I h;refine wpAny_execs_cons (cm (h1 pins s σ H D I h) fun f s1 q=>?_);cases f with
 | next=>exact L_ q
 | ret v=>exact q
 | brk=>exact q
 | cont=>exact q
theorem Inv.quiet{pins:List (IW×Obj)}{σ:St}{H:Hp}{s:IX}(I:Inv X pins σ H s):interactive X.env=false:=by simp[interactive,I.ok.kind]
def FA(te:TE):TS:=fun D σ H=>te σ H fun _ H1=>D.nx σ H1
theorem BH(he:PE X e te)(hs:LY e none pos.line X.env=pure false:=by rfl):PS X (.Expr e pos) (FA te):=by
 intro pins s σ H D I h;exact wpAny_Expr_any (cm (he pins s σ H _ I h) fun v s1 ⟨x,H1,I1,r1,q1⟩=>⟨σ,H1,I1,q1⟩) I.quiet hs
def Hn(te:TE):TS:=fun D σ H=>te σ H D.rt
theorem zL(he:PE X e te):PS X (.Return (some e) pos) (Hn te):=by
 intro pins s σ H D I h;exact wpAny_Return_some (cm (he pins s σ H _ I h) fun v s1 ⟨x,H1,I1,r1,q1⟩=>⟨x,σ,H1,I1,r1,q1⟩)
def Ht(c:TT)(t u:TS):TS:=fun D σ H=>c σ H fun b H1=>if b=true then t D σ H1 else u D σ H1
theorem FQ{c:JJ}{a b:List Kt}{tc:TT}(hc:PT X c tc)(ha:nz X a t)(hb:nz X b u):PS X (.If c a b pos) (Ht tc t u):=by
 intro pins s σ H D I h;refine wpAny_If (cm (hc pins s σ H _ I h) fun d s1 zz=>?_);obtain⟨H1,I1,q1⟩:=zz;cases d with
 | true=>exact ha pins s1 σ H1 D I1 q1
 | false=>exact hb pins s1 σ H1 D I1 q1
end
abbrev TG:=V->St->Hp->(St->Hp->Prop)->Prop
abbrev CM:=List V->St->Hp->(St->Hp->Prop)->Prop
def PG(X:Cx)(target:JJ)(t:TG):Prop:=
 ∀ (pins:List (IW×Obj)) (s:IX) (σ:St) (H:Hp) (v:V) (u:IV) (Q:St->Hp->Prop),Inv X pins σ H s->aF v u->t v σ H Q->
  Jc (Jf X.prog X.w) X.A (assign target X.env u) (fun _ s'=>∃ σ' H',Inv X pins σ' H' s'/\Q σ' H') X.xe s
def A3(X:Cx)(ts:List JJ)(t:CM):Prop:=
 ∀ (pins:List (IW×Obj)) (s:IX) (σ:St) (H:Hp) (vs:List V) (us:List IV) (Q:St->Hp->Prop),Inv X pins σ H s->Vals vs us->t vs σ H Q->
  Jc (Jf X.prog X.w) X.A (assignInOrder ((Lh ts X.env).map (·.2)) us) (fun _ s'=>∃ σ' H',Inv X pins σ' H' s'/\Q σ' H') X.xe s
abbrev CK:=V->V->V->Hp->(Hp->Prop)->Prop
def Fj(X:Cx)(t:CK):Prop:=
 ∀ (pins:List (IW×Obj)) (s:IX) (σ:St) (H:Hp) (o i v:V) (ov iv u:IV) (Q:Hp->Prop),Inv X pins σ H s->aF o ov->aF i iv->aF v u->t o i v H Q->
  Jc (Jf X.prog X.w) X.A (OR ov iv u) (fun _ s'=>∃ H',Inv X pins σ H' s'/\Q H') X.xe s
section
variable{X:Cx}{pos:Pos}
def uI(i:Nat):TG:=fun v σ H Q=>Q (σ.set i (some v)) H
theorem BM{i:Nat}{x:Str}(hN:X.N.Nodup)(hi:X.N[i]?=some x)(hx:Fl X.env.scope x)(hf:X.fn x=true\/X.env.scope.names.lookup x=some .local:=by first|exact .inl rfl|exact .inr rfl|assumption):PG X (.Name x pos) (uI i):=by
 intro pins s σ H v u Q I r h;exact OM (tJ I hN hi hx r (fun s' I'=>⟨_,H,I',h⟩) hf)
def HQ:CM:=fun vs σ H Q=>vs=[]/\Q σ H
def Gm(t:TG)(u:CM):CM:=fun vs σ H Q=>∃ v r,vs=v::r/\t v σ H fun σ' H'=>u r σ' H' Q
theorem BL:A3 X [] HQ:=by
 intro pins s σ H vs us Q I r h;obtain⟨e,h⟩:=h;subst e;cases r;exact assignInOrder_nil ⟨σ,H,I,h⟩
theorem zO{e:JJ}{es:List JJ}{t:TG}{u:CM}(h1:PG X e t)(h2:A3 X es u)
  (hs:(Lh (e::es) X.env).map (·.2)=assign e X.env::(Lh es X.env).map (·.2):=by rfl):A3 X (e::es) (Gm t u):=by
 intro pins s σ H vs us Q I r h;obtain⟨v,vr,e1,h⟩:=h;subst e1;cases r with
 | cons r rr=>
  rw[hs];refine assignInOrder_cons (cm (h1 pins s σ H _ _ _ I r h) fun _ s1 zz=>?_);obtain⟨σ1,H1,I1,q1⟩:=zz;exact h2 pins s1 σ1 H1 _ _ Q I1 rr q1
def HN(K:JD)(n:Nat)(t:CM):TG:=fun v σ H Q=>∃ a xs,v=.ref a/\ja K H a xs/\xs.length=n/\t xs σ H Q
theorem D9{es:List JJ}{k:Nat}{t:CM}{n:Nat}(hc:X.calm=true)(h:A3 X es t)
  (hn:(Lh es X.env).length=n:=by rfl) (hst:(Lh es X.env).findIdx? (·.1)=none:=by rfl):PG X (.Tuple es k pos) (HN X.K n t):=by
 intro pins s σ H v u Q I r hw;obtain⟨a,xs,e1,hq,hl,hw⟩:=hw;subst e1;cases r;obtain⟨its,rv,ht,hz⟩:=I.tuple hq;refine assign_Tuple_tuple (I.ok.hd hc) ht (by simp[hn,<- hl,rv.length]) hst fun h' hx=>?_
 have I1:Inv X pins σ H { s with heap:=h' }:=I.kept (t':=s.toks) fun b o e=>hx b o (JP (Ju e)) e
 exact h pins _ σ H xs _ Q I1 (by simpa using rv) hw
def HP(to ti:TE)(t:CK):TG:=fun v σ H Q=>to σ H fun o H1=>ti σ H1 fun i H2=>t o i v H2 fun H3=>Q σ H3
theorem D_{o i:JJ}{to ti:TE}{t:CK}(ho:PE X o to)(hi:PE X i ti)(hs:Fj X t)
  (ha:∀ v,assign (.Subscript o i pos) X.env v=(do
   let ov <- holding [v] (eval o X.env)
   let iv <- holding [v,ov] (eval i X.env)
   Ni pos
   holding [v,ov,iv] (OR ov iv v)
   release [v,ov,iv] []):=by intro _;rfl):PG X (.Subscript o i pos) (HP to ti t):=by
 intro pins s σ H v u Q I r h;rw[ha];refine IU (JZ (cm (ho pins s σ H _ I h) fun ov s1 zz=>?_));obtain⟨x,H1,I1,r1,q1⟩:=zz;refine IU (JZ (cm (hi pins s1 σ H1 _ I1 q1) fun iv s2 zz=>?_));obtain⟨y,H2,I2,r2,q2⟩:=zz;refine IU (M6 (IU (JZ (cm (hs pins s2 σ H2 x y v ov iv u _ I2 r1 r2 r q2) fun _ s3 zz=>?_))));obtain⟨H3,I3,q3⟩:=zz;exact wpAny_release ⟨σ,H3,I3,q3⟩
def DK(te:TE)(g:TG):TS:=fun D σ H=>te σ H fun x H1=>g x σ H1 D.nx
theorem D8{tg e:JJ}{te:TE}{g:TG}(he:PE X e te)(hg:PG X tg g)(hs:swapsWithSole [tg] e pos.line X.env=pure false:=by rfl)(hw:swappedStores [tg] e X.env=pure none:=by rfl)
  (h1:(Lh [tg] X.env).map (·.2)=[assign tg X.env]:=by rfl):PS X (.Assign [tg] e pos) (DK te g):=by
 intro pins s σ H D I h;refine wpAny_Assign_stores (cm (he pins s σ H _ I h) fun v s1 zz=>?_) hs hw;obtain⟨x,H1,I1,r1,q1⟩:=zz;rw[h1];exact cm (hg pins s1 σ H1 x v _ I1 r1 q1) fun _ s2 q=>q
theorem zK{i:Nat}{x:Str}{e:JJ}{te:TE}{pos':Pos}(hN:X.N.Nodup)(hi:X.N[i]?=some x)(hx:Fl X.env.scope x)(he:PE X e te)(hs:LY e (some (.Name x pos')) pos.line X.env=pure false:=by rfl)(hf:X.fn x=true\/X.env.scope.names.lookup x=some .local:=by first|exact .inl rfl|exact .inr rfl|assumption):
  PS X (.Assign [.Name x pos'] e pos) (DK te (uI i)):=by
 intro pins s σ H D I h;refine wpAny_Assign_Name (cm (he pins s σ H _ I h) fun v s1 zz=>?_) hs;obtain⟨y,H1,I1,r1,q1⟩:=zz;exact tJ I1 hN hi hx r1 (fun s2 I2=>⟨_,H1,I2,q1⟩) hf
def DI(c:TT)(tb:TS):TS:=fun D σ H=>∃ W:Nat->St->Hp->Prop,(∃ m,W m σ H)/\∀ m σ H,W m σ H->
 c σ H fun b H1=>if b=true then ∃ N:St->Hp->Prop,(∀ σ' H',N σ' H'->∃ m',m' < m/\W m' σ' H')/\tb { D with nx:=N,ct:=N,bk:=D.nx } σ H1 else D.nx σ H1
theorem zJ{c:JJ}{body:List Kt}{tc:TT}{tb:TS}(hp:Nt (Jf X.prog X.w) X.A X.env X.xe)(hc:PT X c tc)(hb:nz X body tb):PS X (.While c body [] pos) (DI tc tb):=by
 intro pins s σ H D I h;obtain⟨W,⟨m0,w0⟩,turn⟩:=h;refine wpAny_While (codeAny_whileLoop (fun n s'=>∃ σ' H',Inv X pins σ' H' s'/\W n σ' H') ?_ m0 ⟨σ,H,I,w0⟩)
 rintro n s1 ⟨σ1,H1,I1,w1⟩
 refine Kd hp (cm (hc pins s1 σ1 H1 _ I1 (turn n σ1 H1 w1)) fun b s2 zz=>?_);obtain⟨H2,I2,q2⟩:=zz;cases b with
 | true=>
  obtain⟨N,hN,q2⟩:=q2;rw[if_pos rfl];refine Kd hp (cm (hb pins s2 σ1 H2 _ I2 q2) fun f s3 q3=>?_);cases f with
  | next=>
   obtain⟨σ3,H3,I3,n3⟩:=q3;obtain⟨m',hm,w3⟩:=hN σ3 H3 n3;exact⟨m',hm,σ3,H3,I3,w3⟩
  | cont=>
   obtain⟨σ3,H3,I3,n3⟩:=q3;obtain⟨m',hm,w3⟩:=hN σ3 H3 n3;exact⟨m',hm,σ3,H3,I3,w3⟩
  | brk=>exact q3
  | ret v=>exact q3
 | false=>
  rw[if_neg Bool.false_ne_true];exact L_ ⟨σ1,H2,I2,q2⟩
end
set_option genInjectivity false in
structure It where
 go:Nat->Hp->Prop
 yld:Nat->Hp->V->Hp->Prop
 stop:Nat->Hp->Prop
def mK(X:Cx)(pins:List (IW×Obj))(H:Hp)(b:IW):Prop:=
 H b=none/\b≠X.env.locals/\b∉X.fs/\(b∈X.ex\/X.s₀.heap.objs.size<=b)/\(∀ x c,X.env.cells.lookup x=some c->c≠b)/\∀ p∈X.pn ++ pins,p.1≠b
theorem Inv.fpOk{X:Cx}{pins:List (IW×Obj)}{σ:St}{H H':Hp}{s:IX}{b:IW}(I:Inv X pins σ H s)(hb:s.heap.objs.size<=b)(hn:H' b=none):mK X pins H' b:=by
 refine⟨hn,My (Jt I.lt hb),I.nofs hb,.inr (le_trans I.sz hb),fun x c e z=>?_,fun p hp z=>?_⟩
 ·obtain⟨v,q⟩:=I.cell x c e;exact absurd (Jt q.lt (by rw[z];exact hb)) (Nat.lt_irrefl _)
 ·exact absurd (Jt (Ju (I.pin p hp).1) (by rw[z];exact hb)) (Nat.lt_irrefl _)
structure Turn(P:Jw)(w:JG)(K:JD)(tg:JJ)(J:It)(fp:List IW)(it:IW)(tn:Nat->JI->Prop):Prop where
 mem:it∈fp
 obj:∀ i h,tn i h->∀ b∈fp,∃ o,h.get? b=some o/\∀ v,o.data≠.cell v
 keep:∀ i h h',tn i h->(∀ b∈fp,∀ o,h.get? b=some o->h'.get? b=some o)->tn i h'
 item:∀ (X:Cx),X.prog=P->X.w=w->X.K=K->X.calm=true->∀ (i:Nat) (pins:List (IW×Obj)) (s:IX) (σ:St) (H:Hp) (E:IV->IX->Prop),Inv X pins σ H s->(∀ b∈fp,mK X pins H b)->tn i s.heap->J.go i H->
  Jc (Jf P w) X.A (Lf (.ref it)) (fun r s1=>∃ u,r=some u/\
   Jc (Jf P w) X.A (LL tg (.ref it) u) (fun _ s2=>∃ x H',Inv X pins σ H' s2/\aF x u/\J.yld i H x H'/\tn (i+1) s2.heap/\∀ b∈fp,H' b=none) E s1) E s
 done:∀ (X:Cx),X.prog=P->X.w=w->X.K=K->X.calm=true->∀ (i:Nat) (pins:List (IW×Obj)) (s:IX) (σ:St) (H:Hp) (E:IV->IX->Prop),Inv X pins σ H s->(∀ b∈fp,mK X pins H b)->tn i s.heap->J.stop i H->
  Jc (Jf P w) X.A (Lf (.ref it)) (fun r s1=>r=none/\Inv X pins σ H s1) E s
 self:∀ (A:Jy) (i:Nat) (s:IX) (Q:IV->IX->Prop) (E:IV->IX->Prop),tn i s.heap->Q (.ref it) s->Jc (Jf P w) A (Mf (.ref it)) Q E s
abbrev TI:=St->Hp->(It->Hp->Prop)->Prop
def Fk(X:Cx)(pins:List (IW×Obj))(σ:St)(tg:JJ)(R:It->Hp->Prop)(itv:IV)(s2:IX):Prop:=
 ∃ (it:IW) (fp:List IW) (tn:Nat->JI->Prop) (J:It) (H':Hp),itv=.ref it/\Inv X pins σ H' s2/\Turn X.prog X.w X.K tg J fp it tn/\tn 0 s2.heap/\(∀ b∈fp,mK X pins H' b)/\R J H'
def PI(X:Cx)(tg iter:JJ)(wi:TI):Prop:=
 ∀ (pins:List (IW×Obj)) (s:IX) (σ:St) (H:Hp) (R:It->Hp->Prop),Inv X pins σ H s->wi σ H R->
  Jc (Jf X.prog X.w) X.A (eval iter X.env) (fun v s1=>Jc (Jf X.prog X.w) X.A (Mf v) (Fk X pins σ tg R) X.xe s1) X.xe s
theorem uH{M:OT}{A:Jy}{E:IV->IX->Prop}{s:IX}{tg:JJ}{it:IW}{u:IV}{o:Obj}{n:String}{vs:Array IV}{Q:Unit->IX->Prop}(ho:s.heap.get? it=some o)(hc:o.cls=.type n)(hd:o.data=.fields vs)
  (hn:["enumerate","zip","dict_itemiterator","dict_reverseitemiterator","odict_iterator","itertools.zip_longest","itertools.pairwise"].contains n=false) (hQ:Q () s):Jc M A (LL tg (.ref it) u) Q E s:=by
 unfold LL;cases tg<;>first
  | exact IY hQ
  | (cases u<;>first
    | exact IY hQ
    | (refine IU (wpAny_load ho ?_)
       rw[hc,hd];show Jc M A (if (["enumerate","zip","dict_itemiterator","dict_reverseitemiterator","odict_iterator","itertools.zip_longest","itertools.pairwise"].contains n && vs[0]? == some (LB _))=true then _ else _) Q E s
       rw[if_neg (by intro h;rw[hn,Bool.false_and]at h;cases h)]
       exact IY hQ))
def Ij(K:JD)(a:IW):It:=
 ⟨fun i H=>∃ xs x,jW K H a xs/\xs[i]?=some x,fun i H x H'=>H'=H/\∀ xs,jW K H a xs->xs[i]?=some x,fun i H=>∃ xs,jW K H a xs/\xs.length<=i⟩
def Ih(K:JD)(a:IW):It:=
 ⟨fun i H=>∃ xs x,ja K H a xs/\xs[i]?=some x,fun i H x H'=>H'=H/\∀ xs,ja K H a xs->xs[i]?=some x,fun i H=>∃ xs,ja K H a xs/\xs.length<=i⟩
def G_(lo:Int)(n:Nat):It:=⟨fun i _=>i < n,fun i H x H'=>H'=H/\x=.int (lo+i),fun i _=>n<=i⟩
theorem xp{P:Jw}{w:JG}{K:JD}{tg:JJ}(a it:IW):Turn P w K tg (Ij K a) [it] it (fun i h=>h.IsListIter it a i) where
 mem:=by simp
 obj:=fun i h st b hb=>by
  have e:b=it:=by simpa using hb
  subst e;obtain⟨o,e,c,d⟩:=st;exact⟨o,e,fun v z=>by rw[d]at z;cases z⟩
 keep:=fun i h h' st k=>st.at fun o e=>k it (by simp) o e
 item:=by
  intro X hP hw hK hc i pins s σ H E I hf st hg;subst hP hw hK;obtain⟨xs,x,hq,hx⟩:=hg;obtain⟨its,rv,p,hz⟩:=I.list hq;obtain⟨u,hu,ru⟩:=rv.get hx;obtain⟨f0,f1,f2,f3,f4,f5⟩:=hf it (by simp)
  refine N8 st p.isList (x:=u) (by simpa using hu) fun h' st' sb=>?_
  have I1:Inv X pins σ H { s with heap:=h' }:=I.turned (t':=s.toks) (fun b o hb e=>(sb.2 b hb).trans e) f0 f1 f3 f4 f5
  obtain⟨o,e,c,d⟩:=id st';exact⟨u,rfl,uH (s:={ s with heap:=h' }) e c d (by decide) ⟨x,H,I1,ru,⟨rfl,fun ys hy=>by rw[I.list_inj hy hq];exact hx⟩,st',fun b hb=>(hf b hb).1⟩⟩
 done:=by
  intro X hP hw hK hc i pins s σ H E I hf st hg;subst hP hw hK;obtain⟨xs,hq,hx⟩:=hg;obtain⟨its,rv,p,hz⟩:=I.list hq;obtain⟨f0,f1,f2,f3,f4,f5⟩:=hf it (by simp)
  have hl:=rv.length;exact Og (I.ok.hd hc) st p.isList (by simp;omega) fun h' eb=>⟨rfl,I.turned (t':=s.toks) (fun b o hb e=>eb b o hb e) f0 f1 f3 f4 f5⟩
 self:=fun _ _ _ _ _ st h=>wpAny_pyIter_listiter st h
theorem va{P:Jw}{w:JG}{K:JD}{tg:JJ}(a it:IW):Turn P w K tg (Ih K a) [it] it (fun i h=>h.IsTupleIter it a i) where
 mem:=by simp
 obj:=fun i h st b hb=>by
  have e:b=it:=by simpa using hb
  subst e;obtain⟨o,e,c,d⟩:=st;exact⟨o,e,fun v z=>by rw[d]at z;cases z⟩
 keep:=fun i h h' st k=>st.at fun o e=>k it (by simp) o e
 item:=by
  intro X hP hw hK hc i pins s σ H E I hf st hg;subst hP hw hK;obtain⟨xs,x,hq,hx⟩:=hg;obtain⟨its,rv,p,hz⟩:=I.tuple hq;obtain⟨u,hu,ru⟩:=rv.get hx;obtain⟨f0,f1,f2,f3,f4,f5⟩:=hf it (by simp)
  refine wpAny_pyNext_tuple_item st (show s.heap.IsTuple a its.toArray from p) (x:=u) (by simpa using hu) fun h' st' sb=>?_
  have I1:Inv X pins σ H { s with heap:=h' }:=I.turned (t':=s.toks) (fun b o hb e=>(sb.2 b hb).trans e) f0 f1 f3 f4 f5
  obtain⟨o,e,c,d⟩:=id st';exact⟨u,rfl,uH (s:={ s with heap:=h' }) e c d (by decide) ⟨x,H,I1,ru,⟨rfl,fun ys hy=>by rw[I.tuple_inj hy hq];exact hx⟩,st',fun b hb=>(hf b hb).1⟩⟩
 done:=by
  intro X hP hw hK hc i pins s σ H E I hf st hg;subst hP hw hK;obtain⟨xs,hq,hx⟩:=hg;obtain⟨its,rv,p,hz⟩:=I.tuple hq;obtain⟨f0,f1,f2,f3,f4,f5⟩:=hf it (by simp)
  have hl:=rv.length;exact wpAny_pyNext_tuple_end (I.ok.hd hc) st (show s.heap.IsTuple a its.toArray from p) (by simp;omega) fun h' eb=>⟨rfl,I.turned (t':=s.toks) (fun b o hb e=>eb b o hb e) f0 f1 f3 f4 f5⟩
 self:=fun _ _ _ _ _ st h=>wpAny_pyIter_tupleiter st h
theorem vc{P:Jw}{w:JG}{K:JD}{tg:JJ}(it:IW)(lo:Int)(n:Nat):Turn P w K tg (G_ lo n) [it] it (fun i h=>IsRangeIter h it (lo+(i:Nat)*1) ((n:Int) - (i:Nat)) 1) where
 mem:=by simp
 obj:=fun i h st b hb=>by
  have e:b=it:=by simpa using hb
  subst e;exact⟨_,st,fun v z=>by
   have z':Data.fields _=Data.cell v:=z;cases z'⟩
 keep:=fun i h h' st k=>k it (by simp) _ st
 item:=by
  intro X hP hw hK hc i pins s σ H E I hf st hg;subst hP hw hK;obtain⟨f0,f1,f2,f3,f4,f5⟩:=hf it (by simp)
  have W:=Walks.range (prog:=X.prog) (w:=X.w) (I.ok.hd hc) it lo 1 n;refine W.item i s _ _ hg st fun v h' tk hv st' kk=>?_;obtain⟨t,rfl⟩:=hv;have I1:Inv X pins σ H { s with heap:=h',toks:=tk }:=I.turned (fun b o hb e=>kk b o (by simpa using hb) e) f0 f1 f3 f4 f5
  refine⟨_,rfl,uH (s:={ s with heap:=h',toks:=tk }) (n:="range_iterator") st' rfl rfl (by decide) ⟨.int (lo+i),H,I1,⟨t,?_⟩,⟨rfl,rfl⟩,st',fun b hb=>(hf b hb).1⟩⟩
  rw[Int.mul_one]
 done:=by
  intro X hP hw hK hc i pins s σ H E I hf st hg;subst hP hw hK;obtain⟨f0,f1,f2,f3,f4,f5⟩:=hf it (by simp)
  exact wpAny_pyNext_range_end (I.ok.hd hc) st (by have:n<=i:=hg;omega) fun h' eb=>⟨rfl,I.turned (t':=s.toks) (fun b o hb e=>eb b o hb e) f0 f1 f3 f4 f5⟩
 self:=fun _ _ _ _ _ st h=>wpAny_pyIter_rangeiter st h
section
variable{X:Cx}{tg:JJ}
theorem tU{pins:List (IW×Obj)}{σ:St}{H:Hp}{s:IX}{R:It->Hp->Prop}{E:IV->IX->Prop}{lo hi:Int}{t u v:Tok}{tk:Nat}(I:Inv X pins σ H s)(h1:-(2 ^ 62)<=lo)(h2:lo < 2 ^ 62)(h3:-(2 ^ 62)<=hi)(h4:hi < 2 ^ 62)
  (q:R (G_ lo (hi - lo).toNat) H):Jc (Jf X.prog X.w) X.A (Mf (.ref s.heap.objs.size)) (Fk X pins σ tg R) E { s with heap:=s.heap.push { cls:=.type "range",data:=.fields #[.int lo t,.int hi u,.int 1 v] },toks:=tk }:=by
 refine wpAny_pyIter_range (IsRange.new ..) (small_one h1 h2 h3 h4) ?_;have I1:Inv X pins σ H { s with heap:=s.heap.push { cls:=.type "range",data:=.fields #[.int lo t,.int hi u,.int 1 v] },toks:=tk }:=I.kept fun b o e=>Ja _ e
 refine⟨(s.heap.push { cls:=.type "range",data:=.fields #[.int lo t,.int hi u,.int 1 v] }).objs.size,[(s.heap.push { cls:=.type "range",data:=.fields #[.int lo t,.int hi u,.int 1 v] }).objs.size],_,_,H,rfl,
  I1.kept (t':=tk) fun b o e=>Ja _ e,vc _ lo (hi - lo).toNat,?_,fun b hb=>?_,q⟩
 ·have e1:lo+((0:Nat):Int)*1=lo:=by simp
  have e2:(((hi - lo).toNat:Nat):Int) - ((0:Nat):Int)=Builtin.Range.rangeSize lo hi 1:=by rw[rangeSize_one];split<;>omega
  show IsRangeIter _ _ (lo+((0:Nat):Int)*1) ((((hi - lo).toNat:Nat):Int) - ((0:Nat):Int)) 1
  rw[e1,e2];exact Je _ rfl
 ·have e:b=(s.heap.push { cls:=.type "range",data:=.fields #[.int lo t,.int hi u,.int 1 v] }).objs.size:=by simpa using hb
  subst e;exact I1.fpOk (le_refl _) (I1.hok.fresh (le_refl _))
def Gh(ta:TA):TI:=fun σ H R=>ta σ H fun vs H1=>∃ j:Int,vs=[.int j]/\-(2 ^ 62)<=j/\j < 2 ^ 62/\R (G_ 0 j.toNat) H1
def Gg(ta:TA):TI:=fun σ H R=>ta σ H fun vs H1=>∃ i j:Int,vs=[.int i,.int j]/\(-(2 ^ 62)<=i/\i < 2 ^ 62/\-(2 ^ 62)<=j/\j < 2 ^ 62)/\R (G_ i (j - i).toNat) H1
theorem xE{a:JJ}{ta:TA}{p pos:Pos}(hg:Gl X "range")(hm:X.mg "range"=none)(ha:PA X [a] ta)(hs:Jx [a] X.env=[(false,eval a X.env)]:=by rfl):PI X tg (.Call (.Name "range" p) [a] [] pos) (Gh ta):=by
 intro pins s σ H R I h;refine OX (gx I hg hm boot_range (PyProof.Rows.callWith_type1 (cm (ha pos pins s σ H _ I h) fun us s1 ⟨vs,H1,I1,r1,q1⟩=>?_) hs rfl));obtain⟨j,e,q1,q2,q⟩:=q1;subst e;cases r1 with
 | cons r rr=>
  cases rr;obtain⟨t,rfl⟩:=r;exact call_range_1 (tU I1 (by walk_at "o") (by walk_at "o") q1 q2 (by simpa using q))
theorem xD{a b:JJ}{ta:TA}{p pos:Pos}(hg:Gl X "range")(hm:X.mg "range"=none)(ha:PA X [a,b] ta)(hs:Jx [a,b] X.env=[(false,eval a X.env),(false,eval b X.env)]:=by rfl)(hs2:Jx [b] X.env=[(false,eval b X.env)]:=by rfl):
  PI X tg (.Call (.Name "range" p) [a,b] [] pos) (Gg ta):=by
 intro pins s σ H R I h;refine OX (gx I hg hm boot_range (PyProof.Rows.callWith_type1 (cm (ha pos pins s σ H _ I h) fun us s1 ⟨vs,H1,I1,r1,q1⟩=>?_) (by rw[hs,hs2]) (by rw[hs2];rfl)))
 obtain⟨i,j,e,⟨q1,q2,q3,q4⟩,q⟩:=q1;subst e;cases r1 with
 | cons r rr=>
  cases rr with
  | cons r' rr=>
   cases rr;obtain⟨t,rfl⟩:=r;obtain⟨t',rfl⟩:=r';exact call_range_2 (tU I1 q1 q2 q3 q4 q)
def Hu(wi:TI)(g:TG)(tb:TS):TS:=fun D σ H=>wi σ H fun J H1=>∃ W:Nat->Nat->St->Hp->Prop,(∃ m,W 0 m σ H1)/\∀ i m σ H,W i m σ H->
 (J.stop i H/\D.nx σ H)\/(J.go i H/\∃ N:St->Hp->Prop,(∀ σ' H',N σ' H'->∃ m',m' < m/\W (i+1) m' σ' H')/\∀ x H',J.yld i H x H'->g x σ H' fun σ2 H2=>tb { D with nx:=N,ct:=N,bk:=D.nx } σ2 H2)
def mi(fp:List IW)(h:JI):List (IW×Obj):=fp.filterMap fun b=>(h.get? b).map fun o=>(b,o)
theorem h_{fp:List IW}{h:JI}{b:IW}{o:Obj}(hb:b∈fp)(e:h.get? b=some o):(b,o)∈mi fp h:=mem_filterMap.mpr ⟨b,hb,by rw[e];rfl⟩
theorem xP{fp:List IW}{h:JI}{p:IW×Obj}(hp:p∈mi fp h):p.1∈fp/\h.get? p.1=some p.2:=by
 obtain⟨b,hb,e⟩:=mem_filterMap.mp hp;cases q:h.get? b with
 | none=>rw[q]at e;cases e
 | some o=>
  rw[q]at e;have e':(b,o)=p:=Option.some.inj e;subst e';exact⟨hb,q⟩
theorem Inv.pinned{pins:List (IW×Obj)}{σ:St}{H:Hp}{s:IX}{fp:List IW}(I:Inv X pins σ H s)(hf:∀ b∈fp,mK X pins H b)(ho:∀ b∈fp,∃ o,s.heap.get? b=some o/\∀ v,o.data≠.cell v):Inv X (pins ++ mi fp s.heap) σ H s:=
 I.pins_of fun p hp=>(Mi.mp hp).elim (fun z=>I.pin p (JO _ z)) fun z=>by
  obtain⟨hb,e⟩:=xP z;obtain⟨f0,f1,f2,_⟩:=hf p.1 hb;obtain⟨o,e',d⟩:=ho p.1 hb;rw[e]at e';cases e';exact⟨e,f0,f1,f2,d⟩
theorem Inv.unpinned{pins pl:List (IW×Obj)}{σ:St}{H:Hp}{s:IX}(I:Inv X (pins ++ pl) σ H s):Inv X pins σ H s:=I.pins_of fun p hp=>I.pin p (JO _ (LK _ hp))
theorem D6{iter:JJ}{body:List Kt}{wi:TI}{g:TG}{tb:TS}{pos:Pos}(hp:Nt (Jf X.prog X.w) X.A X.env X.xe)(hc:X.calm=true)(hi:PI X tg iter wi)(hg:PG X tg g)(hb:nz X body tb)
  (hs:∀ x,K7 iter X.env x=pure x:=by intro _;rfl):PS X (.For tg iter body [] pos) (Hu wi g tb):=by
 intro pins s σ H D I h;refine wpAny_For (cm (hi pins s σ H _ I h) fun v s1 h1=>cm h1 fun itv s2 h2=>?_) hs;obtain⟨it,fp,tn,J,H2,e,I2,T,st2,f2,W,⟨m0,w0⟩,turn⟩:=h2;subst e;have Rt:∀ {H':Hp},(∀ b∈fp,H' b=none)->∀ b∈fp,mK X pins H' b:=fun hn b hb=>⟨hn b hb,(f2 b hb).2⟩;refine Ou (fun n s'=>∃ i σ' H',Inv X pins σ' H' s'/\tn i s'.heap/\(∀ b∈fp,H' b=none)/\W i n σ' H') ?_ m0 ⟨0,σ,H2,I2,st2,fun b hb=>(f2 b hb).1,w0⟩
 rintro n s3 ⟨i,σ3,H3,I3,st3,fr3,w3⟩
 rcases turn i n σ3 H3 w3 with ⟨stop,qn⟩|⟨go,N,hN,step⟩
 ·refine Kd hp (cm (T.done X rfl rfl rfl hc i pins s3 σ3 H3 X.xe I3 (Rt fr3) st3 stop) fun r s4 zz=>?_);obtain⟨hr,I4⟩:=zz;subst hr;exact L_ ⟨σ3,H3,I4,qn⟩
 ·refine Kd hp (cm (T.item X rfl rfl rfl hc i pins s3 σ3 H3 X.xe I3 (Rt fr3) st3 go) fun r s4 zz=>?_);obtain⟨u,hr,h4⟩:=zz;subst hr;refine Kd hp (cm h4 fun _ s5 zz=>?_);obtain⟨x,H5,I5,r5,y5,st5,fr5⟩:=zz;have I5':=I5.pinned (Rt fr5) (T.obj _ _ st5);refine Kd hp (cm (hg _ s5 σ3 H5 x u _ I5' r5 (step x H5 y5)) fun _ s6 zz=>?_);obtain⟨σ6,H6,I6,q6⟩:=zz;refine Kd hp (cm (hb _ s6 σ6 H6 _ I6 q6) fun f s7 q7=>?_);have again:∀ {σ7:St} {H7:Hp},Inv X (pins ++ mi fp s5.heap) σ7 H7 s7->N σ7 H7->∃ m,m < n/\∃ i σ' H',Inv X pins σ' H' s7/\tn i s7.heap/\(∀ b∈fp,H' b=none)/\W i m σ' H':=fun {σ7 H7} I7 n7=>by
   obtain⟨m',hm,w7⟩:=hN σ7 H7 n7;refine⟨m',hm,i+1,σ7,H7,I7.unpinned,T.keep _ _ _ st5 fun b hb o e=>(I7.pin (b,o) (JO _ (JO _ (h_ hb e)))).1,fun b hb=>?_,w7⟩;obtain⟨o,e,d⟩:=T.obj _ _ st5 b hb;exact (I7.pin (b,o) (JO _ (JO _ (h_ hb e)))).2.1
  cases f with
  | next=>obtain⟨σ7,H7,I7,n7⟩:=q7;exact again I7 n7
  | cont=>obtain⟨σ7,H7,I7,n7⟩:=q7;exact again I7 n7
  | brk=>obtain⟨σ7,H7,I7,q7⟩:=q7;exact⟨σ7,H7,I7.unpinned,q7⟩
  | ret v=>obtain⟨x7,σ7,H7,I7,r7,q7⟩:=q7;exact⟨x7,σ7,H7,I7.unpinned,r7,q7⟩
end
abbrev R2:=V->V->Hp->VK->Prop
def iD(X:Cx)(f:IV->IV->Sem IV)(r:R2):Prop:=
 ∀ (pins:List (IW×Obj)) (s:IX) (σ:St) (H:Hp) (x y:V) (v u:IV) (Q:VK),Inv X pins σ H s->aF x v->aF y u->r x y H Q->
  Jc (Jf X.prog X.w) X.A (f v u) (EP X pins σ Q) X.xe s
def Ic(X:Cx)(f:IV->Sem IV)(r:V->Hp->VK->Prop):Prop:=
 ∀ (pins:List (IW×Obj)) (s:IX) (σ:St) (H:Hp) (x:V) (v:IV) (Q:VK),Inv X pins σ H s->aF x v->r x H Q->
  Jc (Jf X.prog X.w) X.A (f v) (EP X pins σ Q) X.xe s
def eV(X:Cx)(f:IV)(r:List V->Hp->VK->Prop):Prop:=
 ∀ (pins:List (IW×Obj)) (s:IX) (σ:St) (H:Hp) (xs:List V) (us:List IV) (Q:VK),Inv X pins σ H s->Vals xs us->r xs H Q->
  Jc (Jf X.prog X.w) X.A (call f us) (EP X pins σ Q) X.xe s
def Ie(X:Cx)(r:V->Hp->(Bool->Hp->Prop)->Prop):Prop:=
 ∀ (pins:List (IW×Obj)) (s:IX) (σ:St) (H:Hp) (x:V) (v:IV) (Q:Bool->Hp->Prop),Inv X pins σ H s->aF x v->r x H Q->
  Jc (Jf X.prog X.w) X.A (truthy v) (TP X pins σ Q) X.xe s
def Fo(r:R2)(ta tb:TE):TE:=fun σ H Q=>ta σ H fun x H1=>tb σ H1 fun y H2=>r x y H2 Q
def Iz(r:V->Hp->VK->Prop)(ta:TE):TE:=fun σ H Q=>ta σ H fun x H1=>r x H1 Q
def rI(C:Int->Int->Prop)(g:Int->Int->V):R2:=fun x y H Q=>∃ i j,x=.int i/\y=.int j/\C i j/\Q (g i j) H
def DU(g:Int->Int->V):R2:=fun x y H Q=>∃ i j,x=.int i/\y=.int j/\Q (g i j) H
def rU(g:Int->V):V->Hp->VK->Prop:=fun x H Q=>∃ i,x=.int i/\Q (g i) H
section
variable{X:Cx}{a b c:JJ}{ta tb tc:TE}{pos:Pos}
theorem Ff(ha:PE X a ta)(hb:PE X b tb){pins:List (IW×Obj)}{s:IX}{σ:St}{H:Hp}{R:V->V->Hp->Prop}(I:Inv X pins σ H s)
  (h:ta σ H fun x H1=>tb σ H1 fun y H2=>R x y H2) {Q:IV->IX->Prop} {f:IV->IV->Sem IV}
  (hf:∀ v u s2 x y H2,Inv X pins σ H2 s2->aF x v->aF y u->R x y H2->Jc (Jf X.prog X.w) X.A (f v u) Q X.xe s2):
  Jc (Jf X.prog X.w) X.A (eval a X.env) (fun v s₁=>Jc (Jf X.prog X.w) X.A (eval b X.env) (fun u s₂=>Jc (Jf X.prog X.w) X.A (f v u) Q X.xe s₂) X.xe s₁) X.xe s:=by
 refine cm (ha pins s σ H _ I h) fun v s1 zz=>?_;obtain⟨x,H1,I1,r1,q1⟩:=zz;refine cm (hb pins s1 σ H1 _ I1 q1) fun u s2 zz=>?_;obtain⟨y,H2,I2,r2,q2⟩:=zz;exact hf v u s2 x y H2 I2 r1 r2 q2
theorem FS{op:Operator}{r:R2}(ho:iD X (K0 op) r)(ha:PE X a ta)(hb:PE X b tb):PE X (.BinOp a op b pos) (Fo r ta tb):=by
 intro pins s σ H Q I h;exact wpAny_BinOp (Ff ha hb I h fun v u s2 x y H2 I2 rx ry q=>ho pins s2 σ H2 x y v u Q I2 rx ry q)
theorem FR{op:UnaryOp}{r:V->Hp->VK->Prop}(ho:Ic X (unaryOp op) r)(ha:PE X a ta):PE X (.UnaryOp op a pos) (Iz r ta):=by
 intro pins s σ H Q I h;exact UnaryOp_ (cm (ha pins s σ H _ I h) fun v s1 ⟨x,H1,I1,r1,q1⟩=>ho pins s1 σ H1 x v Q I1 r1 q1)
theorem HE{f:IV->IV->Sem IV}{C:Int->Int->Prop}{g:Int->Int->Int}
  (rule:∀ (i j:Int) (t u:Tok) (s:IX) (Q:IV->IX->Prop) (E:IV->IX->Prop),C i j->Q (.int (g i j) s.toks) { s with toks:=s.toks+1 }->Jc (Jf X.prog X.w) X.A (f (.int i t) (.int j u)) Q E s):
  iD X f (rI C fun i j=>.int (g i j)):=by
 intro pins s σ H x y v u Q I rx ry h;obtain⟨i,j,rfl,rfl,hc,q⟩:=h;obtain⟨t,rfl⟩:=rx;obtain⟨t',rfl⟩:=ry;exact rule i j t t' s _ _ hc ⟨.int (g i j),H,I.tok _,⟨_,rfl⟩,q⟩
theorem Ga{f:IV->IV->Sem IV}{g:Int->Int->Int}
  (rule:∀ (i j:Int) (t u:Tok) (s:IX) (Q:IV->IX->Prop) (E:IV->IX->Prop),Q (.int (g i j) s.toks) { s with toks:=s.toks+1 }->Jc (Jf X.prog X.w) X.A (f (.int i t) (.int j u)) Q E s):
  iD X f (DU fun i j=>.int (g i j)):=by
 intro pins s σ H x y v u Q I rx ry h;obtain⟨i,j,rfl,rfl,q⟩:=h;obtain⟨t,rfl⟩:=rx;obtain⟨t',rfl⟩:=ry;exact rule i j t t' s _ _ ⟨.int (g i j),H,I.tok _,⟨_,rfl⟩,q⟩
theorem Gb{f:IV->IV->Sem IV}{g:Int->Int->Bool}
  (rule:∀ (i j:Int) (t u:Tok) (s:IX) (Q:IV->IX->Prop) (E:IV->IX->Prop),Q (.bool (g i j)) s->Jc (Jf X.prog X.w) X.A (f (.int i t) (.int j u)) Q E s):
  iD X f (DU fun i j=>.bl (g i j)):=by
 intro pins s σ H x y v u Q I rx ry h;obtain⟨i,j,rfl,rfl,q⟩:=h;obtain⟨t,rfl⟩:=rx;obtain⟨t',rfl⟩:=ry;exact rule i j t t' s _ _ ⟨.bl (g i j),H,I,rfl,q⟩
def Hb(i j:Int):Prop:=0 < j/\j < 1073741824
def Ik(i j:Int):Prop:=0<=j/\j<=1000000/\i.natAbs < 2 ^ 64
def A6(i j:Int):Prop:=(-(2 ^ 64) < i/\i < 2 ^ 64)\/(-(2 ^ 64) < j/\j < 2 ^ 64)
theorem A6.ok{i j:Int}(h:A6 i j):IntMulOk i j:=by
 rcases h with ⟨h1,h2⟩|⟨h1,h2⟩
 ·exact .of_left (intBits_le_64 h1 h2)
 ·exact .of_right (intBits_le_64 h1 h2)
theorem Es:iD X (K0 .Add) (DU fun i j=>.int (i+j)):=Ga fun _ _ _ _ _ _ _ q=>add_int q
theorem Eo:iD X (K0 .Sub) (DU fun i j=>.int (i - j)):=Ga fun _ _ _ _ _ _ _ q=>sub_int q
theorem Ep:iD X (K0 .Mult) (rI A6 fun i j=>.int (i*j)):=HE fun _ _ _ _ _ _ _ hc q=>mul_int q hc.ok
theorem B2:iD X (K0 .FloorDiv) (rI Hb fun i j=>.int (i / j)):=HE fun i j _ _ _ _ _ hc q=>by
 have h1:(0:Int) < j:=hc.1;have h2:j < 1073741824:=hc.2;exact floordiv_int (by walk_at "o") (by rw[Int.fdiv_eq_ediv_of_nonneg i (by walk_at "o")];exact q) (.inl (PyProof.noPylong_small (by walk_at "o")))
theorem Er:iD X (K0 .Mod) (rI (fun _ j=>0 < j) fun i j=>.int (i % j)):=HE fun i j _ _ _ _ _ hc q=>by
 have h1:(0:Int) < j:=hc;exact mod_int' (by walk_at "o") (by rw[Int.fmod_eq_emod_of_nonneg i (by walk_at "o")];exact q)
theorem Iy{f:IV->Sem IV}{g:Int->Int}
  (rule:∀ (i:Int) (t:Tok) (s:IX) (Q:IV->IX->Prop) (E:IV->IX->Prop),Q (.int (g i) s.toks) { s with toks:=s.toks+1 }->Jc (Jf X.prog X.w) X.A (f (.int i t)) Q E s):
  Ic X f (rU fun i=>.int (g i)):=by
 intro pins s σ H x v Q I rx h;obtain⟨i,rfl,q⟩:=h;obtain⟨t,rfl⟩:=rx;exact rule i t s _ _ ⟨.int (g i),H,I.tok _,⟨_,rfl⟩,q⟩
theorem DC:Ic X (unaryOp .USub) (rU fun i=>.int (-i)):=Iy fun _ _ _ _ _ q=>neg_int q
theorem FZ:iD X (J_ .Lt) (DU fun i j=>.bl (decide (i < j))):=Gb fun _ _ _ _ _ _ _ q=>lt_int q
theorem F_:iD X (J_ .Gt) (DU fun i j=>.bl (decide (j < i))):=Gb fun _ _ _ _ _ _ _ q=>gt_int q
theorem iD.or{f:IV->IV->Sem IV}{r r':R2}(h:iD X f r)(h':iD X f r'):iD X f (fun x y H Q=>r x y H Q\/r' x y H Q):=by
 intro pins s σ H x y v u Q I rx ry q;rcases q with q|q
 ·exact h pins s σ H x y v u Q I rx ry q
 ·exact h' pins s σ H x y v u Q I rx ry q
theorem dk(b:JJ){op:M_}(h:op≠.In:=by decide)(h2:op≠.NotIn:=by decide):Kn op b=false:=by
 have e1:(op == CmpOp.In)=false:=by cases op<;>first|rfl|exact absurd rfl h
 have e2:(op == CmpOp.NotIn)=false:=by cases op<;>first|rfl|exact absurd rfl h2
 cases b<;>simp[Kn,e1,e2]
theorem BP{op:M_}{r:R2}(ho:iD X (J_ op) r)(ha:PE X a ta)(hb:PE X b tb)(hm:Kn op b=false):PE X (.Compare a [op] [b] pos) (Fo r ta tb):=by
 intro pins s σ H Q I h;exact wpAny_Compare1 (Ff ha hb I h fun v u s2 x y H2 I2 rx ry q=>ho pins s2 σ H2 x y v u Q I2 rx ry q) hm
def C3(t:TE):TT:=fun σ H Q=>t σ H fun x H'=>∃ k,x=.bl k/\Q k H'
theorem wJ{op:M_}{r:R2}(ho:iD X (J_ op) r)(ha:PE X a ta)(hb:PE X b tb)(hm:Kn op b=false):PT X (.Compare a [op] [b] pos) (C3 (Fo r ta tb)):=by
 intro pins s σ H Q I h;refine Oh (cm (ha pins s σ H _ I h) fun v s1 zz=>?_) hm;obtain⟨x,H1,I1,r1,q1⟩:=zz;refine cm (hb pins s1 σ H1 _ I1 q1) fun u s2 zz=>?_;obtain⟨y,H2,I2,r2,q2⟩:=zz;refine cm (ho pins s2 σ H2 x y v u _ I2 r1 r2 q2) fun c s3 zz=>?_;obtain⟨z,H3,I3,r3,k,e,q3⟩:=zz;subst e;cases r3;exact Mq ⟨H3,I3,q3⟩
def GX(K:JD)(x:V)(H:Hp)(k:Bool):Prop:=
 match x with
 | .non=>k=false
 | .bl b=>k=b
 | .int i=>k=(i != 0)
 | .str y=>y.length<=Jg/\k=((y.length:Int) != 0)
 | .byt y=>y.size<=Jg/\k=((y.size:Int) != 0)
 | .ref p=>(∃ xs,jW K H p xs/\k=!xs.isEmpty)\/(∃ xs,ja K H p xs/\k=!xs.isEmpty)\/∃ kvs,H p=some (.dK kvs)/\k=!kvs.isEmpty
 | _=>False
theorem v6{κ:Type}{kvs:List (κ×V)}{vs:List (κ×IV)}(r:KV kvs vs):(!vs.isEmpty)=!kvs.isEmpty:=by
 cases r<;>rfl
theorem oT{xs:List V}{its:List IV}(r:Vals xs its):(!its.toArray.isEmpty)=!xs.isEmpty:=by
 cases r<;>simp
theorem jm:(Jg:Nat) < 2 ^ 63:=by rw[JW];decide
theorem DF:Ie X (fun x H Q=>∃ k,GX X.K x H k/\Q k H):=by
 intro pins s σ H x v Q I rx h;obtain⟨k,e,q⟩:=h;have hl:=jm;have hs:Jg=16777216:=JW;cases x with
 | non=>
  cases rx;have e':k=false:=e;subst e';exact truthy_none ⟨H,I,q⟩
 | bl b=>
  cases rx;have e':k=b:=e;subst e';exact Mq ⟨H,I,q⟩
 | int i=>
  obtain⟨t,rfl⟩:=rx;have e':k=(i != 0):=e;subst e';exact PySem.P.truthy_int ⟨H,I,q⟩
 | str y=>
  obtain⟨t,rfl⟩:=rx;obtain⟨hy,e'⟩:y.length<=Jg/\k=((y.length:Int) != 0):=e;subst e';exact PySem.P.truthy_str (by walk_at "o") ⟨H,I.tok _,q⟩
 | byt y=>
  obtain⟨t,rfl⟩:=rx;obtain⟨hy,e'⟩:y.size<=Jg/\k=((y.size:Int) != 0):=e;subst e';exact PySem.W.truthy_bytes (by walk_at "o") ⟨H,I.tok _,q⟩
 | ref p=>
  cases rx;have e':(∃ xs,jW X.K H p xs/\k=!xs.isEmpty)\/(∃ xs,ja X.K H p xs/\k=!xs.isEmpty)\/∃ kvs,H p=some (.dK kvs)/\k=!kvs.isEmpty:=e;rcases e' with ⟨xs,hx,e'⟩|⟨xs,hx,e'⟩|⟨kvs,hx,e'⟩
  ·subst e';obtain⟨its,r,pl,hz⟩:=I.list hx;have hlen:=r.length;exact wpAny_truthy_list pl.isList (by simp only[Jj];omega) ⟨H,I.tok _,by rw[oT r];exact q⟩
  ·subst e';obtain⟨its,r,pl,hz⟩:=I.tuple hx;have hlen:=r.length;exact truthy_tuple pl (by simp only[Jj];omega) ⟨H,I.tok _,by rw[oT r];exact q⟩
  ·subst e';obtain⟨hz,hS,vs,r,m⟩:kvs.length<=Jg/\(p == J8)=false/\∃ vs,KV kvs vs/\s.heap.DictOf (bn X.prog X.w) p vs:=I.hok p _ hx;have hlen:kvs.length=vs.length:=L5 r;exact wpAny_truthy_dict hS m (by walk_at "o") ⟨H,I.tok _,by rw[v6 r];exact q⟩
 | _=>exact (show False from e).elim
theorem zG(ha:PE X a ta)(he:∀ whole,Oa a X.env whole=(do let v <- whole;Ni a.pos;holding [v] (truthy v))):
  PT X a (fun σ H Q=>ta σ H fun x H'=>∃ k,GX X.K x H' k/\Q k H'):=by
 intro pins s σ H Q I h;exact isTrue_plain (cm (ha pins s σ H _ I h) fun v s1 ⟨x,H1,I1,r1,q1⟩=>DF pins s1 σ H1 x v Q I1 r1 q1) (he _)
theorem vN:iD X (K0 .Add) (fun x y H Q=>∃ i j,x=.str i/\y=.str j/\i.length+j.length<=Jg/\Q (.str (i ++ j)) H):=by
 intro pins s σ H x y v u Q I rx ry h;obtain⟨i,j,rfl,rfl,hz,q⟩:=h;obtain⟨t,rfl⟩:=rx;obtain⟨t',rfl⟩:=ry;exact add_str (fun t' tk=>⟨.str (i ++ j),H,I.tok _,⟨_,rfl⟩,q⟩) hz
theorem qh{x:V}{us:List IV}(r:Vals [x] us):∃ u,us=[u]/\aF x u:=by
 cases r with
 | cons r1 r2=>cases r2;exact⟨_,rfl,r1⟩
theorem CV{x y:V}{us:List IV}(r:Vals [x,y] us):∃ u w',us=[u,w']/\aF x u/\aF y w':=by
 cases r with
 | cons r1 r2=>
  cases r2 with
  | cons r3 r4=>cases r4;exact⟨_,_,rfl,r1,r3⟩
end
structure ObjM(h:JI)(x dx C:IW)(mA:Str->Option IV):Prop where
 obj:h.get? x=some (MD C dx)
 ns:h.Ns1 dx mA
 ne:dx≠x
theorem xV{h:JI}{dx:IW}{mA:Str->Option IV}(n:h.Ns1 dx mA):∃ od,h.get? dx=some od/\∀ name,OE name od=some (mA name):=by
 obtain⟨o,es,ep,ho,hd,hk,_,hm⟩:=n;refine⟨o,ho,fun name=>?_⟩;have e:=hm name;unfold nsFind findBy at e;rw[<- Array.find?_toList]at e;unfold OE;rw[hd];dsimp only;split
 ·rename_i y q;rw[q]at e;exact congrArg some e
 ·rename_i q;rw[q]at e;have a:es.toList.any (·.refKey)=false:=by
   rw[List.any_eq_false];intro y hy;obtain⟨z,t,hkey⟩:=hk y (Array.mem_toList_iff.mp hy);simp[DictEntry.refKey,hkey]
  have a':¬ es.toList.any (·.refKey)=true:=by rw[a];exact Bool.false_ne_true
  rw[if_neg a'];exact congrArg some e
theorem ObjM.look{h:JI}{x dx C:IW}{mA:Str->Option IV}(I:ObjM h x dx C mA):∃ od,PySem.W.InstAt h x (MD C dx) C (some od)/\∀ name,OE name od=some (mA name):=
 let ⟨od,ho,hl⟩:=xV I.ns
 ⟨od,⟨I.obj,rfl,rfl,ho⟩,hl⟩
section
variable{prog:Jw}{w:JG}{A:Jy}{E:IV->IX->Prop}{s:IX}{K:JD}{x dx C f:IW}{mA:Str->Option IV}{name:Str}{v:IV}
theorem Cs{expr:Bool}{Q:IV->IX->Prop}(X:K.In s.heap)(I:ObjM s.heap x dx C mA)(hg:L6 K C name=true)(hh:LZ K C=true)
  (ha:JF K (.ref C) name=some none) (hv:mA name=some v) (hv':PySem.W.handedIn v=true) (h:Q v { s with toks:=s.toks+1 }):
  Jc (Jf prog w) A (getAttr (.ref x) name expr) Q E s:=by
 obtain⟨od,J,hl⟩:=I.look;exact PySem.W.get_value X J (Ny hg).1 (PySem.W.findObj_own hh ha rfl (by rw[hl,hv])) hv' h
theorem AE{pl:Sem Bool}{Q:IV×List IV->IX->Prop}(X:K.In s.heap)(I:ObjM s.heap x dx C mA)(hg:L6 K C name=true)
  (hf:JF K (.ref C) name=some (some (.ref f))) (ht:NJ K (.ref f)=true) (hv:mA name=none) (h:Q (.ref f,[.ref x]) s):
  Jc (Jf prog w) A (NZ (.ref x) name pl) Q E s:=by
 obtain⟨od,J,hl⟩:=I.look;exact PySem.W.method_fn X J (Ny hg).1 (Ny hg).2 hf (beq_iff_eq.mp ht) (by show (OE name od).map (·.isSome)=some false;rw[hl,hv];rfl) h
theorem Br{ns:List Str}{Q:Unit->IX->Prop}(X:K.In s.heap)(I:ObjM s.heap x dx C mA)
  (hs:JF K (.ref C) "__setattr__"=some (some (.builtin "object.__setattr__"))) (hp:Md K C=true) (ht:OP K C name=some none) (hh:LZ K C=true)
  (hw:PySem.Within mA ns) (hsz:ns.length<=Jg)
  (h:∀ h',ObjM h' x dx C (fun y=>if y=name then some v else mA y)->KO dx s.heap h'->Q () { s with heap:=h',toks:=s.toks+2 }):
  Jc (Jf prog w) A (setAttr (.ref x) name v) Q E s:=by
 obtain⟨od,J,hl⟩:=I.look;refine PySem.W.set_plain X J hs (PySem.W.osa_open (s:={ s with toks:=s.toks+1 }) (r:=none) X J hp ht fun b=>?_)
 obtain⟨cd,hc,hd'⟩:=PySem.W.any_some hh;have hx:s.heap.get? x=some ⟨.ref C,some dx,.plain,#[]⟩:=I.obj;refine IU (IY (IU (IU (wpAny_loadPart hx (IU (PySem.W.Looks.here (s:={ s with toks:=s.toks+1 }) (PySem.W.looks_clsIn X hc) ?_))))))
 rw[hd'];refine IY (a:=some dx) (IU (IY (IU ?_)));refine wpAny_nsSet1 (s:={ s with toks:=s.toks+1 }) I.ns fun h' hn2 hs2=>?_
 obtain⟨oD,esD,epD,hoD,hdD,hcD⟩:=hn2.count (PySem.Within.cons name v hw);refine IU (wpAny_lookBehind hoD (by rw[hdD];exact pastItsLine_dict (le_trans hcD (by rw[Jv];omega))) ?_)
 exact IY (h _ ⟨(hs2.2 _ (Ne.symm I.ne)).trans I.obj,hn2,I.ne⟩ hs2)
theorem Ae{R:OK->IX->Prop}{vs:List IV}{kw:List (Str×IV)}(X:K.In s.heap)(hm:MY K C=true)
  (hi:JF K (.ref C) "__init__"=some (some (.ref f))) (hf:PySem.W.typeIn K (.ref f)=some (.type "function"))
  (h:Mb (Jf prog w) (A.under (.builtin "type.__call__" ⟨.ref C::vs,kw⟩)) (.call (.ref f) ⟨.ref (s.heap.objs.size+1)::vs,kw⟩) (PySem.W.InitBack (s.heap.objs.size+1) R)
   { s with heap:=(s.heap.push LU).push (MD C s.heap.objs.size) }):
  Mb (Jf prog w) A (.call (.ref C) ⟨vs,kw⟩) R s:=by
 obtain⟨hh,g,d,t,os⟩:=s;exact PySem.W.make_core (PySem.W.makes_of X hm) (PySem.W.looks_findIn X hi) (fun self=>PySem.W.bind_fn X self hf) (.inl rfl) h
end
def g_(f:Str)(v:V):List (Str×V)->List (Str×V)
 | []=>[(f,v)]
 | (g,x)::r=>if g=f then (g,v)::r else (g,x)::g_ f v r
theorem mQ(f g:Str)(v:V):∀ fs:List (Str×V),(g_ f v fs).lookup g=if g=f then some v else fs.lookup g
 | []=>by
  show List.lookup g [(f,v)]=_
  by_cases h:g=f
  ·have hb:(g == f)=true:=beq_iff_eq.mpr h;simp only[List.lookup,hb,if_pos h]
  ·have hb:(g == f)=false:=beq_eq_false_iff_ne.mpr h;simp only[List.lookup,hb,if_neg h]
 | (k,x)::r=>by
  have ih:=mQ f g v r;rw[show g_ f v ((k,x)::r)=(if k=f then (k,v)::r else (k,x)::g_ f v r)from rfl]
  by_cases hk:k=f
  ·rw[if_pos hk]
   by_cases h:g=k
   ·have hb:(g == k)=true:=beq_iff_eq.mpr h;simp only[List.lookup,hb,if_pos (h.trans hk)]
   ·have hb:(g == k)=false:=beq_eq_false_iff_ne.mpr h;simp only[List.lookup,hb,if_neg (fun e:g=f=>h (e.trans hk.symm))]
  ·rw[if_neg hk]
   by_cases h:g=k
   ·have hb:(g == k)=true:=beq_iff_eq.mpr h;simp only[List.lookup,hb,if_neg (fun e:g=f=>hk (h.symm.trans e))]
   ·have hb:(g == k)=false:=beq_eq_false_iff_ne.mpr h;simp only[List.lookup,hb];exact ih
theorem mB(f:Str)(v:V):∀ fs:List (Str×V),f∈(g_ f v fs).map (·.1)/\∀ g,g∈fs.map (·.1)->g∈(g_ f v fs).map (·.1)
 | []=>⟨by simp[g_],fun g h=>by simp at h⟩
 | (k,x)::r=>by
  obtain⟨i1,i2⟩:=mB f v r;rw[show g_ f v ((k,x)::r)=(if k=f then (k,v)::r else (k,x)::g_ f v r)from rfl]
  by_cases hk:k=f
  ·rw[if_pos hk];subst hk;exact⟨by simp,fun g h=>by simpa using h⟩
  ·rw[if_neg hk];refine⟨?_,fun g h=>?_⟩
   ·rw[Jz];exact Jl _ i1
   ·rw[Jz]at h ⊢;rcases Kg.mp h with e|e
    ·exact Kg.mpr (.inl e)
    ·exact Jl _ (i2 g e)
theorem mV(f:Str)(v:V):∀ fs:List (Str×V),(g_ f v fs).length<=fs.length+1
 | []=>by simp[g_]
 | (k,x)::r=>by
  have ih:=mV f v r;rw[show g_ f v ((k,x)::r)=(if k=f then (k,v)::r else (k,x)::g_ f v r)from rfl]
  by_cases hk:k=f
  ·rw[if_pos hk,Jv,Jv];omega
  ·rw[if_neg hk,Jv,Jv];omega
theorem je.some_of{v:V}{o:Option IV}(r:je (some v) o):∃ u,o=some u/\aF v u:=by
 cases o with
 | none=>exact (show False from r).elim
 | some u=>exact⟨u,rfl,r⟩
theorem je.none_of{o:Option IV}(r:je none o):o=none:=by
 cases o with
 | none=>rfl
 | some u=>exact (show False from r).elim
theorem ye{v:V}{u:IV}(r:aF v u):PySem.W.handedIn u=true:=by
 cases v with
 | non=>cases (show u=Value.none from r);rfl
 | bl b=>cases (show u=Value.bool b from r);rfl
 | int i=>obtain⟨t,e⟩:=(show ∃ t,u=Value.int i t from r);cases e;rfl
 | str x=>obtain⟨t,e⟩:=(show ∃ t,u=Value.str x t from r);cases e;rfl
 | byt b=>obtain⟨t,e⟩:=(show ∃ t,u=Value.bytes b t from r);cases e;rfl
 | flt b=>obtain⟨t,e⟩:=(show ∃ t,u=Value.float b t from r);cases e;rfl
 | ref a=>cases (show u=Value.ref a from r);rfl
 | ty n=>cases (show u=Value.type n from r);rfl
section
variable{P:Jw}{w:JG}{H H':Hp}{h h':JI}{a C dx:IW}{fs fs':List (Str×V)}
theorem nE(hok:kA P w H h)(e:H a=some (.ins C dx fs)):∃ mA,ObjM h a dx C mA/\(∀ f,je (fs.lookup f) (mA f))/\PySem.Within mA (fs.map (·.1))/\fs.length<=1000/\H dx=some (.own a):=by
 obtain⟨d,z,ne,ob,mA,n,r,q⟩:=(show bZ P w H h a (.ins C dx fs)from hok a _ e)
 exact⟨mA,⟨ob,n,ne⟩,r,q,z,d⟩
end
structure Cls(K:JD)(C:IW):Prop where
 pg:L6 K C M3=true
 hd:LZ K C=true
 po:Md K C=true
 sa:JF K (.ref C) "__setattr__"=some (some (.builtin "object.__setattr__"))
theorem Cls.get{K:JD}{C:IW}(c:Cls K C)(f:Str):L6 K C f=true:=c.pg
def fC(K:JD)(C:IW)(f:Str):Prop:=JF K (.ref C) f=some none
theorem fC.taker{K:JD}{C:IW}{f:Str}(n:fC K C f):OP K C f=some none:=by
 unfold OP;rw[show JF K (.ref C) f=some none from n]
 rfl
structure Meth(K:JD)(C:IW)(m:Str)(f:IW):Prop where
 at_:JF K (.ref C) m=some (some (.ref f))
 fn:NJ K (.ref f)=true
 kp:J1 K (.ref f)=true
section
variable{X:Cx}{pins:List (IW×Obj)}{σ:St}{H:Hp}{s:IX}{a C dx:IW}{fs:List (Str×V)}{f:Str}{v:V}{A:Jy}{E:IV->IX->Prop}
theorem v9{b:Bool}{Q:IV->IX->Prop}(I:Inv X pins σ H s)(e:H a=some (.ins C dx fs))(c:Cls X.K C)(n:fC X.K C f)(l:fs.lookup f=some v)
  (h:∀ u s',Inv X pins σ H s'->aF v u->Q u s'):Jc (Jf X.prog X.w) A (getAttr (.ref a) f b) Q E s:=by
 obtain⟨mA,O,r,_,_,_⟩:=nE I.hok e;obtain⟨u,hu,ru⟩:=je.some_of (v:=v) (o:=mA f) (by rw[<- l];exact r f)
 exact Cs I.kIn O (c.get f) c.hd n hu (ye ru) (h u _ (I.tok _) ru)
theorem v8{m:Str}{g:IW}{pl:Sem Bool}{Q:IV×List IV->IX->Prop}(I:Inv X pins σ H s)(e:H a=some (.ins C dx fs))(c:Cls X.K C)(k:Meth X.K C m g)(l:fs.lookup m=none)
  (h:Q (.ref g,[.ref a]) s):Jc (Jf X.prog X.w) A (NZ (.ref a) m pl) Q E s:=by
 obtain⟨mA,O,r,_,_,_⟩:=nE I.hok e;have hn:mA m=none:=je.none_of (by rw[<- l];exact r m)
 exact AE I.kIn O (c.get m) k.at_ k.fn hn h
theorem vp{y:V}{u:IV}{Q:Unit->IX->Prop}(I:Inv X pins σ H s)(e:H a=some (.ins C dx fs))(c:Cls X.K C)(n:fC X.K C f)(hl:fs.length < 1000)(ry:aF y u)
  (h:∀ s',Inv X pins σ (bG H a (.ins C dx (g_ f y fs))) s'->Q () s'):Jc (Jf X.prog X.w) A (setAttr (.ref a) f u) Q E s:=by
 obtain⟨mA,O,r,wi,_,ho⟩:=nE I.hok e;have hz:(fs.map (·.1)).length<=Jg:=by rw[IZ,JW];omega
 refine Br I.kIn O c.sa c.po n.taker c.hd wi hz fun h' O' sb=>h _ ?_;have hd:∃ o,h'.get? dx=some o:=let ⟨o,_,_,e',_⟩:=O'.ns;⟨o,e'⟩;refine I.write (x:=a) (e:=dx) (by rw[e];exact True.intro) (.inr ho) (fun b q hb z=>(sb.2 b hb).trans z) hd ?_
 refine⟨by rw[ax O.ne];exact ho,?_,O.ne,O'.obj,_,O'.ns,fun g=>?_,fun g hg=>?_⟩
 ·have:=mV f y fs;omega
 ·show je ((g_ f y fs).lookup g) (if g=f then some u else mA g)
  rw[mQ]
  by_cases q:g=f
  ·rw[if_pos q,if_pos q];exact ry
  ·rw[if_neg q,if_neg q];exact r g
 ·by_cases q:g=f
  ·rw[q];exact (mB f y fs).1
  ·refine (mB f y fs).2 g (wi g fun z=>hg ?_);show (if g=f then some u else mA g)=none
   rw[if_neg q];exact z
theorem Inv.made(I:Inv X pins σ H s):Inv X pins σ (bG (bG H s.heap.objs.size (.own (s.heap.objs.size+1))) (s.heap.objs.size+1) (.ins C s.heap.objs.size []))
  { s with heap:=(s.heap.push LU).push (MD C s.heap.objs.size) }:=by
 have e1:(s.heap.push LU).get? s.heap.objs.size=some LU:=Je s.heap rfl;have e2:((s.heap.push LU).push (MD C s.heap.objs.size)).get? (s.heap.objs.size+1)=some (MD C s.heap.objs.size):=by
  have:=Je (s.heap.push LU) (o:=MD C s.heap.objs.size) rfl;rwa[K1]at this
 have e3:(s.heap.push LU).Ns s.heap.objs.size (fun _=>none):=⟨LU,#[],_,e1,rfl,(fun e he=>absurd he (by simp)),fun _=>rfl⟩
 have I1:=I.laid (a:=s.heap.objs.size) (o:=.own (s.heap.objs.size+1)) (h':=s.heap.push LU) (t':=s.toks) (fun b u q=>Ja _ q) (le_refl _) ⟨_,e1⟩;refine I1.laid (a:=s.heap.objs.size+1) (o:=.ins C s.heap.objs.size []) (t':=s.toks) (fun b u q=>Ja _ q) (Ki (K1 _ _)) ?_;have ne:s.heap.objs.size≠s.heap.objs.size+1:=JP (LW _);refine⟨by rw[ax ne,aU],JQ _,ne,e2,fun _=>none,(Heap.Ns1.of_empty e3).at fun o q=>Ja _ q,fun _=>True.intro,fun y hy=>absurd rfl hy⟩
theorem CH{prog:Jw}{w:JG}{env:Env}{e:JJ}{f:Str}{pos:Pos}{s:IX}{Q:IV->IX->Prop}(hb:K9 e f env (eval e env)=eval e env)
  (h:Jc (Jf prog w) A (eval e env) (fun o s₁=>Jc (Jf prog w) A (getAttr o f true) Q E s₁) E s):Jc (Jf prog w) A (eval (.Attribute e f pos) env) Q E s:=
 Attribute_any_ h (by rw[arm_eval_Attribute,hb])
end
def Hv(K:JD)(ta:TE)(f:Str):TE:=fun σ H Q=>ta σ H fun x H1=>∃ a C dx fs v,x=.ref a/\H1 a=some (.ins C dx fs)/\Cls K C/\fC K C f/\fs.lookup f=some v/\Q v H1
def HA(K:JD)(ta tv:TE)(f:Str):TS:=fun D σ H=>tv σ H fun y H1=>ta σ H1 fun x H2=>∃ a C dx fs,x=.ref a/\H2 a=some (.ins C dx fs)/\Cls K C/\fC K C f/\fs.length < 1000/\
 D.nx σ (bG H2 a (.ins C dx (g_ f y fs)))
section
variable{X:Cx}{o e value:JJ}{f:Str}{pos pos' tpos:Pos}{ta tv:TE}
theorem Ef(he:PE X e ta)(hb:K9 e f X.env (eval e X.env)=eval e X.env):PE X (.Attribute e f pos) (Hv X.K ta f):=by
 intro pins s σ H Q I h;refine CH hb (cm (he pins s σ H _ I h) fun u s1 zz=>?_);obtain⟨x,H1,I1,rx,a,C,dx,fs,v,ex,ea,c,n,l,q⟩:=zz;subst ex;obtain rfl:u=Value.ref a:=rx;exact v9 I1 ea c n l fun u' s2 I2 ru=>⟨v,H1,I2,ru,q⟩
theorem D7(ha:PE X o ta)(hv:PE X value tv)(hs:LY value (some (.Attribute o f pos')) pos.line X.env=pure false):PS X (.Assign [.Attribute o f pos'] value pos) (HA X.K ta tv f):=by
 intro pins s σ H D I h;refine plainObj_wpAny_Assign_Attribute (cm (hv pins s σ H _ I h) fun u s1 zz=>?_) hs;obtain⟨y,H1,I1,ry,q⟩:=zz;refine cm (ha pins s1 σ H1 _ I1 q) fun ov s2 zz=>?_;obtain⟨x,H2,I2,rx,a,C,dx,fs,ex,ea,c,n,l,q2⟩:=zz;subst ex;obtain rfl:ov=Value.ref a:=rx;exact vp I2 ea c n l ry fun s3 I3=>⟨σ,_,I3,q2⟩
end
section
variable{X:Cx}{pins:List (IW×Obj)}{σ:St}{H:Hp}{s:IX}{A:Jy}{E:IV->IX->Prop}{Q:IV->IX->Prop}{c:IV}{b:Bool}
inductive TyOf(K:JD)(H:Hp):V->IV->Prop where
 | non:TyOf K H .non (.type "NoneType")
 | bl (x:Bool):TyOf K H (.bl x) (.type "bool")
 | int (i:Int):TyOf K H (.int i) (.type "int")
 | str (x:Str):TyOf K H (.str x) (.type "str")
 | flt (x:UInt64):TyOf K H (.flt x) (.type "float")
 | lst {a:IW} {xs:List V} (e:H a=some (.lst xs)):TyOf K H (.ref a) (.type "list")
 | frz {a:IW} {o:Obj} {xs:List V} (e:H a=some (.frz o (.lst xs))):TyOf K H (.ref a) (.type "list")
 | tup {a:IW} {xs:List V} (e:H a=some (.tup xs)):TyOf K H (.ref a) (.type "tuple")
 | dK {a:IW} {kvs:List (aQ×V)} (e:H a=some (.dK kvs)):TyOf K H (.ref a) (.type "dict")
 | dT {a:IW} {kvs:List (List aQ×V)} (e:H a=some (.dT kvs)):TyOf K H (.ref a) (.type "dict")
 | ins {a C dx:IW} {fs:List (Str×V)} (e:H a=some (.ins C dx fs)) (cl:Cls K C) (ha:JF K (.ref C) "__class__"=some (some (.builtin "object.__class__")))
   (hn:MW K (.builtin "object.__class__") "__get__"=some (some (.builtin "getset_descriptor.__get__"))) (htk:OO K (.builtin "object.__class__")=some true)
   (hm:NT K C (.type "object")=some true):TyOf K H (.ref a) (.ref C)
theorem jC{x:V}{u t:IV}(I:Inv X pins σ H s)(rx:aF x u)(ty:TyOf X.K H x t)(e:Kv X.K t c=some b)(h:∀ tk,Q (.bool b) { s with toks:=tk }):
  Jc (Jf X.prog X.w) A (call (.builtin "isinstance") [u,c]) Q E s:=by
 cases ty with
 | non=>cases (show u=Value.none from rx);exact LM PySem.W.kitx_none I.kIn True.intro e (fun z=>nomatch z) h
 | bl y=>cases (show u=Value.bool y from rx);exact LM PySem.W.kitx_bool I.kIn True.intro e (fun z=>nomatch z) h
 | int i=>obtain⟨t,q⟩:=(show ∃ t,u=Value.int i t from rx);cases q;exact LM PySem.W.kitx_int I.kIn True.intro e (fun z=>nomatch z) h
 | str y=>obtain⟨t,q⟩:=(show ∃ t,u=Value.str y t from rx);cases q;exact LM PySem.W.kitx_str I.kIn True.intro e (fun z=>nomatch z) h
 | flt y=>obtain⟨t,q⟩:=(show ∃ t,u=Value.float y t from rx);cases q;exact LM PySem.W.kitx_float I.kIn True.intro e (fun z=>nomatch z) h
 | @lst a xs ea=>
  cases (show u=Value.ref a from rx)
  obtain⟨_,_,n,_,h1⟩:=(show bZ X.prog X.w H s.heap a (.lst xs)from I.hok a _ ea)
  exact LM NY I.kIn ⟨_,h1,rfl⟩ e (fun z=>nomatch z) h
 | @frz a ob xs ea=>
  cases (show u=Value.ref a from rx)
  obtain⟨_,_,_,n,_,h1⟩:=(show bZ X.prog X.w H s.heap a (.frz ob (.lst xs))from I.hok a _ ea)
  exact LM NY I.kIn ⟨_,h1,rfl⟩ e (fun z=>nomatch z) h
 | @tup a xs ea=>
  cases (show u=Value.ref a from rx)
  obtain⟨_,_,_,p⟩:=(show bZ X.prog X.w H s.heap a (.tup xs)from I.hok a _ ea)
  obtain⟨o,h1,h2,_⟩:=p;exact LM PySem.W.kitx_tuple I.kIn ⟨o,h1,h2.1⟩ e (fun z=>nomatch z) h
 | @dK a kvs ea=>
  cases (show u=Value.ref a from rx)
  obtain⟨_,_,vs,_,p⟩:=(show bZ X.prog X.w H s.heap a (.dK kvs)from I.hok a _ ea)
  obtain⟨o,es,ep,h1,h2,_⟩:=p;exact LM PySem.W.kitx_dict I.kIn ⟨o,h1,h2.1⟩ e (fun z=>nomatch z) h
 | @dT a kvs ea=>
  cases (show u=Value.ref a from rx)
  obtain⟨_,_,xs,_,o,es,ep,h1,h2,_⟩:=(show bZ X.prog X.w H s.heap a (.dT kvs)from I.hok a _ ea)
  exact LM PySem.W.kitx_dict I.kIn ⟨o,h1,h2.1⟩ e (fun z=>nomatch z) h
 | @ins a C dx fs ea cl ha hn htk hm=>
  cases (show u=Value.ref a from rx)
  obtain⟨mA,O,_⟩:=nE I.hok ea;obtain⟨od,J,_⟩:=O.look;exact LM (PySem.W.kitx_own (cl.get _) cl.hd ha hn htk hm) I.kIn J e (fun z=>nomatch z) h
end
structure Room(k:Nat)(A:Jy):Prop where
 hd:A.handled=none
 dp:A.depth+3*k+5 < recursionLimit
 un:A.units+16*k+200 < JY
theorem Room.mono{j k:Nat}{A:Jy}(r:Room k A)(h:j<=k):Room j A:=⟨r.hd,by have:=r.dp;omega,by have:=r.un;omega⟩
theorem Room.deeper{k:Nat}{A:Jy}(r:Room (k+1) A)(env:Env):Room k (A.deeper env):=
 ⟨r.hd,by have:=r.dp;show A.depth+1+3*k+5 < _;omega,by have:=r.un;show A.units+3+16*k+200 < _;omega⟩
theorem Room.in1{k:Nat}{A:Jy}(r:Room (k+1) A):Room k A.in1:=
 ⟨r.hd,by have:=r.dp;show A.depth+3*k+5 < _;omega,by have:=r.un;show A.units+1+16*k+200 < _;omega⟩
theorem vZ{A:Jy}{C:IW}{us:List IV}{kw:List (Str×IV)}:(A.under (.builtin "type.__call__" ⟨.ref C::us,kw⟩)).depth=A.depth+1:=by
 first|rfl|simp[Of,Code.weight,Code.isCreation,Code.isGuard,Code.isCaller,Code.frames,Od,guardIds]
theorem vY{A:Jy}{C:IW}{us:List IV}{kw:List (Str×IV)}:(A.under (.builtin "type.__call__" ⟨.ref C::us,kw⟩)).units=A.units+1:=by
 first|rfl|simp[Of,Code.cUnits,Code.frames,Od]
theorem Room.make{k:Nat}{A:Jy}(r:Room (k+1) A)(C:IW)(us:List IV)(kw:List (Str×IV)):Room k (A.under (.builtin "type.__call__" ⟨.ref C::us,kw⟩)):=
 ⟨r.hd,by have:=r.dp;rw[vZ];omega,by have:=r.un;rw[vY];omega⟩
theorem Room.depth{k:Nat}{A:Jy}(r:Room k A):A.depth < recursionLimit:=by have:=r.dp;omega
theorem Room.units{k:Nat}{A:Jy}(r:Room k A):A.units+64 < JY:=by have:=r.un;omega
def Hr:TA:=fun _ H Q=>Q [] H
def FB(ta:TE)(tr:TA):TA:=fun σ H Q=>ta σ H fun x H1=>tr σ H1 fun xs H2=>Q (x::xs) H2
section
variable{X:Cx}{e:JJ}{es:List JJ}{te:TE}{t:TA}{pos:Pos}
theorem Eh:PA X [] Hr:=fun _ _ _ _ H Q I h=>KE ⟨[],H,I,.nil,h⟩
theorem BU(ha:PE X e te)(hr:PA X es t)(hs:Jx (e::es) X.env=(false,eval e X.env)::Jx es X.env:=by rfl):PA X (e::es) (FB te t):=by
 intro pos pins s σ H Q I h;rw[hs];show Jc _ _ (spliced ((false,eval e X.env)::K3 pos (Jx es X.env))) _ _ s
 refine Kc (cm (ha pins s σ H _ I h) fun u s1 zz=>?_);obtain⟨x,H1,I1,r1,q1⟩:=zz;exact cm (hr pos pins s1 σ H1 _ I1 q1) fun us s2 ⟨xs,H2,I2,r2,q2⟩=>⟨x::xs,H2,I2,.cons r1 r2,q2⟩
def Hl(t:TA):TE:=fun σ H Q=>t σ H fun xs H1=>xs.length<=Jg/\∀ p,H1 p=none->Q (.ref p) (bG H1 p (.tup xs))
def Hs(t:TA):TE:=fun σ H Q=>t σ H fun xs H1=>xs.length<=Jg/\∀ p,H1 p=none->Q (.ref p) (bG H1 p (.lst xs))
theorem Ea{x1}(h:PA X es t):PE X (.Tuple es x1 pos) (Hl t):=by
 intro pins s σ H Q I hq;refine wpAny_Tuple_spliced (cm (h pos pins s σ H _ I hq) fun us s1 ⟨xs,H1,I1,r,z,q⟩=>⟨by rw[<- r.length];exact z,?_⟩)
 have hf:H1 s1.heap.objs.size=none:=I1.hok.fresh (le_refl _);refine⟨.ref s1.heap.objs.size,bG H1 s1.heap.objs.size (.tup xs),I1.laid (t':=s1.toks) (fun b u e=>Ja _ e) (le_refl _) ?_,rfl,q _ hf⟩;exact⟨z,us,r,qc.new _ _⟩
theorem Ed(h:PA X es t):PE X (.List es pos) (Hs t):=by
 intro pins s σ H Q I hq;refine wpAny_List_spliced (cm (h pos pins s σ H _ I hq) fun us s1 ⟨xs,H1,I1,r,z,q⟩=>⟨by rw[<- r.length];exact z,?_⟩)
 have hf:H1 s1.heap.objs.size=none:=I1.hok.fresh (le_refl _);refine⟨.ref s1.heap.objs.size,bG H1 s1.heap.objs.size (.lst xs),I1.laid (t':=s1.toks) (fun b u e=>Ja _ e) (le_refl _) ?_,rfl,q _ hf⟩;exact⟨z,us,0,r,Je _ rfl⟩
end
abbrev Sp:=List V->Hp->VK->XK->Prop
abbrev Ba:=List Env->Hp->IX->XK->IV->IX->Prop
structure Env0(P:Jw)(w:JG)(K:JD)(mg:Str->Option IV)(base:JI)(A:Jy)(outer:List Env)(s:IX)(H:Hp):Prop where
 frames:A.frames=some outer
 mod:Mod K mg base
 bs:∀ b o,base.get? b=some o->s.heap.get? b=some o/\H b=none
 bsz:base.objs.size<=s.heap.objs.size
 funs:s.heap.FunFrames base outer
 frf:∀ b∈AJ outer,H b=none
 hok:kA P w H s.heap
 bare:MG s.gens
def CE(outer:List Env)(P:Jw)(w:JG)(H:Hp)(s:IX)(Q:VK)(u:IV)(s':IX):Prop:=
 ∃ v H',s'.os=s.os/\MG s'.gens/\Un (AJ outer) [] H H' s.heap s'.heap/\kA P w H' s'.heap/\aF v u/\Q v H'
def CR(CX:Ba)(outer:List Env)(P:Jw)(w:JG)(H:Hp)(s:IX)(Q:VK)(E:XK)(r:OK)(s':IX):Prop:=
 match r with
 | .ok (.ret u)=>CE outer P w H s Q u s'
 | .ok _=>False
 | .error e=>CX outer H s E e s'
structure FnOk(P:Jw)(w:JG)(K:JD)(mg:Str->Option IV)(base:JI)(CX:Ba)(k:Nat)(f:IW)(fd:JE)(ps:List Str)(sp:Sp):Prop where
 len:∀ vs H Q E,sp vs H Q E->vs.length=ps.length
 run:∀ (A:Jy) (outer:List Env) (s:IX) (H:Hp) (args:Args) (us:List IV) (vs:List V) (Q:VK) (E:XK),Room k A->Env0 P w K mg base A outer s H->NF s fd args (ps.zip us)->Vals vs us->sp vs H Q E->
  Mb (Jf P w) A (.call (.ref f) args) (CR CX outer P w H s Q E) s
theorem Env0.make{P:Jw}{w:JG}{K:JD}{mg:Str->Option IV}{base:JI}{A:Jy}{outer:List Env}{s:IX}{H:Hp}(e:Env0 P w K mg base A outer s H)(C:IW)(us:List IV)(kw:List (Str×IV)):
  Env0 P w K mg base (A.under (.builtin "type.__call__" ⟨.ref C::us,kw⟩)) outer s H:=⟨by first|exact e.frames|(simpa[Of,Code.envs,Od,pushEnvs]using e.frames),e.mod,e.bs,e.bsz,e.funs,e.frf,e.hok,e.bare⟩
theorem Env0.in1{P:Jw}{w:JG}{K:JD}{mg:Str->Option IV}{base:JI}{A:Jy}{outer:List Env}{s:IX}{H:Hp}(e:Env0 P w K mg base A outer s H):
  Env0 P w K mg base A.in1 outer s H:=⟨e.frames,e.mod,e.bs,e.bsz,e.funs,e.frf,e.hok,e.bare⟩
section
variable{X:Cx}{pins:List (IW×Obj)}{σ:St}{H:Hp}{s s':IX}
theorem Inv.env0(I:Inv X pins σ H s):Env0 X.prog X.w X.K X.mg X.base X.A X.stack s H:=
 ⟨I.ok.frames,I.ok.mod,I.bs,le_trans I.ok.bsz I.sz,I.stack,I.stkFree,I.hok,I.bare⟩
theorem Inv.after{Q:VK}{u:IV}(I:Inv X pins σ H s)(h:CE X.stack X.prog X.w H s Q u s'):EP X pins σ Q u s':=by
 obtain⟨v,H',os,bare,un,hok,r,q⟩:=h;obtain⟨hh,g,d,t,os'⟩:=s';obtain rfl:os'=s.os:=os;exact⟨v,H',I.call (h':=hh) (g':=g) (d':=d) (t':=t) (ch:=[]) un hok bare (fun b z=>absurd z (by simp)),r,q⟩
end
def C5(sp:Sp)(dvs:List V)(E:XK)(t:TA):TE:=fun σ H Q=>t σ H fun vs H1=>sp (vs ++ dvs) H1 Q E
def C4(C:IW)(sp:Sp)(dvs:List V)(E:XK)(t:TA):TE:=fun σ H Q=>t σ H fun vs H1=>∀ x dx,H1 x=none->H1 dx=none->dx≠x->
 sp (.ref x::(vs ++ dvs)) (bG (bG H1 dx (.own x)) x (.ins C dx [])) (fun v H2=>v=.non/\Q (.ref x) H2) E
def gr(K:JD)(fd:JE)(ps:List Str)(ds:List IV):Prop:=
 ∀ (s:IX) (us:List IV),K.In s.heap->(us ++ ds).length=ps.length->NF s fd ⟨us,[]⟩ (ps.zip (us ++ ds))
theorem gr.all{K:JD}{fd:JE}{ps:List Str}(h:∀ us:List IV,us.length=ps.length->bindArgs fd ⟨us,[]⟩=pure (ps.zip us)):gr K fd ps []:=fun s us _ hl=>by
 rw[Kl]at hl ⊢;exact .of_eq (h us hl)
def pB(CX:Ba)(X:Cx)(E:XK):Prop:=∀ (pins:List (IW×Obj)) (σ:St) (H:Hp) (s:IX) (e:IV) (s':IX),Inv X pins σ H s->CX X.stack H s E e s'->X.xe e s'
section
variable{X:Cx}{CX:Ba}{k:Nat}{f C:IW}{fd:JE}{ps:List Str}{sp:Sp}{dvs:List V}{ds:List IV}{E:XK}{x m:Str}{p pos apos:Pos}{e o:JJ}{es:List JJ}{ta:TE}{t:TA}
theorem vA{pins:List (IW×Obj)}{σ:St}{H:Hp}{s:IX}{Q:VK}{us:List IV}{vs:List V}(F:FnOk X.prog X.w X.K X.mg X.base CX k f fd ps sp)(hr:Room k X.A)(hb:gr X.K fd ps ds)(hd:Vals dvs ds)(hx:pB CX X E)
  (I:Inv X pins σ H s) (r:Vals vs us) (h:sp (vs ++ dvs) H Q E):Jc (Jf X.prog X.w) X.A (call (.ref f) us) (EP X pins σ Q) X.xe s:=by
 have r2:Vals (vs ++ dvs) (us ++ ds):=r.append hd;have hl:(us ++ ds).length=ps.length:=by rw[<- r2.length];exact F.len _ _ _ _ h
 refine Oz (MF (F.run X.A X.stack s H ⟨us,[]⟩ (us ++ ds) (vs ++ dvs) Q E hr I.env0 (hb s us I.kIn hl) r2 h) fun r s' hq=>?_);cases r with
 | error e=>exact hx pins σ H s e s' I hq
 | ok fl=>
  cases fl with
  | ret u=>exact I.after hq
  | next=>exact False.elim hq
  | brk=>exact False.elim hq
  | cont=>exact False.elim hq
theorem BQ(F:FnOk X.prog X.w X.K X.mg X.base CX k f fd ps sp)(hr:Room k X.A)(hg:Gl X x)(hm:X.mg x=some (.ref f))(hk:J1 X.K (.ref f)=true)(hb:gr X.K fd ps ds)(hd:Vals dvs ds)(hx:pB CX X E)
  (ha:PA X (e::es) t) (hdb:(x == ("__debug__":Str))=false:=by decide) (he:Jx (e::es) X.env=(false,eval e X.env)::Jx es X.env:=by rfl) (hpl:(K3 pos (Jx es X.env)).any (·.1)=false:=by rfl):
  PE X (.Call (.Name x p) (e::es) [] pos) (C5 sp dvs E t):=by
 intro pins s σ H Q I h;refine KU (nC I hg hm ?_ hdb);refine NK (h₀:=X.base) I.ok.mod.kin hk (cm (ha pos pins s σ H _ I h) fun us s1 ⟨vs,H1,I1,r,q⟩=>⟨I1.kIn,?_⟩) he hpl;exact vA F hr hb hd hx I1 r q
structure Mk(K:JD)(C f:IW):Prop where
 makes:MY K C=true
 init:JF K (.ref C) "__init__"=some (some (.ref f))
 fn:NJ K (.ref f)=true
 kp:J1 K (.ref C)=true
theorem zj{pins:List (IW×Obj)}{σ:St}{H:Hp}{s:IX}{Q:VK}{us:List IV}{vs:List V}(M:Mk X.K C f)(F:FnOk X.prog X.w X.K X.mg X.base CX k f fd ps sp)(hr:Room (k+1) X.A)(hb:gr X.K fd ps ds)(hd:Vals dvs ds)
  (hx:pB CX X E) (I:Inv X pins σ H s) (r:Vals vs us)
  (h:∀ x dx,H x=none->H dx=none->dx≠x->sp (.ref x::(vs ++ dvs)) (bG (bG H dx (.own x)) x (.ins C dx [])) (fun v H2=>v=.non/\Q (.ref x) H2) E):
  Jc (Jf X.prog X.w) X.A (call (.ref C) us) (EP X pins σ Q) X.xe s:=by
 have hq:=h (s.heap.objs.size+1) s.heap.objs.size (I.hok.fresh (Nat.le_succ _)) (I.hok.fresh (le_refl _)) (JP (LW _));have I2:=Inv.made (C:=C) I;have r2:Vals (V.ref (s.heap.objs.size+1)::(vs ++ dvs)) (Value.ref (s.heap.objs.size+1)::(us ++ ds)):=.cons rfl (r.append hd);have hl:(Value.ref (s.heap.objs.size+1)::us ++ ds).length=ps.length:=by
  have e:=r2.length;rw[F.len _ _ _ _ hq]at e;exact e.symm
 refine Oz (Ae (f:=f) I.kIn M.makes M.init (beq_iff_eq.mp M.fn) (MF (F.run _ X.stack _ _ ⟨Value.ref (s.heap.objs.size+1)::us,[]⟩ (Value.ref (s.heap.objs.size+1)::(us ++ ds)) _ _ E (hr.make C us [])
  (I2.env0.make C us []) (hb _ (Value.ref (s.heap.objs.size+1)::us) I2.kIn hl) r2 hq) fun r s' hq'=>?_))
 cases r with
 | error e=>exact hx pins σ _ _ e s' I2 hq'
 | ok fl=>
  cases fl with
  | ret u=>
   obtain⟨v,H',I3,rv,ev,q3⟩:=I2.after hq';subst ev;exact⟨rv,⟨V.ref (s.heap.objs.size+1),H',I3,rfl,q3⟩⟩
  | next=>exact False.elim hq'
  | brk=>exact False.elim hq'
  | cont=>exact False.elim hq'
theorem BN(M:Mk X.K C f)(F:FnOk X.prog X.w X.K X.mg X.base CX k f fd ps sp)(hr:Room (k+1) X.A)(hg:Gl X x)(hm:X.mg x=some (.ref C))(hb:gr X.K fd ps ds)(hd:Vals dvs ds)(hx:pB CX X E)
  (ha:PA X (e::es) t) (hdb:(x == ("__debug__":Str))=false:=by decide) (he:Jx (e::es) X.env=(false,eval e X.env)::Jx es X.env:=by rfl) (hpl:(K3 pos (Jx es X.env)).any (·.1)=false:=by rfl):
  PE X (.Call (.Name x p) (e::es) [] pos) (C4 C sp dvs E t):=by
 intro pins s σ H Q I h;refine KU (nC I hg hm ?_ hdb);refine NK (h₀:=X.base) I.ok.mod.kin M.kp (cm (ha pos pins s σ H _ I h) fun us s1 ⟨vs,H1,I1,r,q⟩=>⟨I1.kIn,?_⟩) he hpl;exact zj M F hr hb hd hx I1 r q
end
structure FnScope(N P:List Str)(sc:L9):Prop where
 kind:sc.kind=.function
 co:sc.isCoroutine=false
 gen:sc.isGenerator=false
 nd:N.Nodup
 pre:N.take P.length=P
 par:∀ x∈P,sc.names.lookup x=some .local\/sc.names.lookup x=some .cell
 nofree:∀ y∈sc.names,y.2≠.free
theorem qN{kindOf:Str->Option Mn}{x:Str}:∀ {binds:List (Str×IV)} {m:Str->Option IV},(∀ v,(x,v)∉binds)->N0 kindOf binds m x=m x
 | [],_,_=>rfl
 | (n,v)::r,m,h=>by
  unfold N0;rw[qN fun w hw=>h w (Jl _ hw)];split
  ·have:x≠n:=by rintro rfl;exact h v Jk
   simp[this]
  ·rfl
theorem qP{kindOf:Str->Option Mn}{x:Str}:∀ {binds:List (Str×IV)} {m:Str->Option IV},(∀ v,(x,v)∉binds)->N3 kindOf binds m x=m x
 | [],_,_=>rfl
 | (n,v)::r,m,h=>by
  unfold N3;rw[qP fun w hw=>h w (Jl _ hw)];split
  ·rfl
  ·have:x≠n:=by rintro rfl;exact h v Jk
   simp[this]
theorem qO{kindOf:Str->Option Mn}{x:Str}{v:IV}:∀ {P:List Str} {vs:List IV} {i:Nat} {m:Str->Option IV},P.Nodup->P[i]?=some x->vs[i]?=some v->kindOf x=some .local->
  N0 kindOf (P.zip vs) m x=some v
 | [],_,_,_,_,h,_,_=>by simp at h
 | _::_,[],_,_,_,_,h,_=>by simp at h
 | p::P,w::vs,0,m,nd,h1,h2,hk=>by
  simp at h1 h2;subst h1;subst h2;show N0 kindOf ((p,w)::P.zip vs) m p=_
  unfold N0;rw[qN fun v hv=>(KF.mp nd).1 (MC hv).1,if_pos hk];simp
 | p::P,w::vs,i+1,m,nd,h1,h2,hk=>by
  show N0 kindOf ((p,w)::P.zip vs) m x=_
  unfold N0;exact qO (i:=i) (KF.mp nd).2 (by simpa using h1) (by simpa using h2) hk
theorem qQ{kindOf:Str->Option Mn}{x:Str}{v:IV}:∀ {P:List Str} {vs:List IV} {i:Nat} {m:Str->Option IV},P.Nodup->P[i]?=some x->vs[i]?=some v->kindOf x≠some .local->
  N3 kindOf (P.zip vs) m x=some v
 | [],_,_,_,_,h,_,_=>by simp at h
 | _::_,[],_,_,_,_,h,_=>by simp at h
 | p::P,w::vs,0,m,nd,h1,h2,hk=>by
  simp at h1 h2;subst h1;subst h2;show N3 kindOf ((p,w)::P.zip vs) m p=_
  unfold N3;rw[qP fun v hv=>(KF.mp nd).1 (MC hv).1,if_neg hk];simp
 | p::P,w::vs,i+1,m,nd,h1,h2,hk=>by
  show N3 kindOf ((p,w)::P.zip vs) m x=_
  unfold N3;exact qQ (i:=i) (KF.mp nd).2 (by simpa using h1) (by simpa using h2) hk
def start(N:List Str)(vs:List V):St:=vs.map some ++ List.replicate (N.length - vs.length) none
def yp(CX:Ba)(P:Jw)(w:JG)(K:JD)(mg:Str->Option IV)(base:JI)(N:List Str)(qual:Str)(scope:L9)(f:IW)(cd:IV)(A:Jy)(outer:List Env)(s:IX)(H:Hp)(E:XK):Cx where
 prog:=P
 w:=w
 K:=K
 mg:=mg
 base:=base
 A:=A.deeper (Nb qual scope s.heap.objs.size f cd)
 N:=N
 s₀:=s
 H₀:=H
 env:=Nb qual scope s.heap.objs.size f cd
 outer:=outer
 stack:=Nb qual scope s.heap.objs.size f cd::outer
 ex:=[]
 calm:=true
 fn:=fun _=>true
 pn:=[]
 xe:=fun e s'=>Jc (Jf P w) (A.deeper (Nb qual scope s.heap.objs.size f cd)) (leaving (Nb qual scope s.heap.objs.size f cd) e) (fun _ s''=>CX outer H s E e s'') (fun e' s''=>CX outer H s E e' s'') s'
theorem uU{sc:L9}{n:Nat}{x:Str}(h:sc.names.lookup x=some .cell):∃ c,(cellsFrom n sc.names []).lookup x=some c:=by
 have q:=PySem.W.cellsFrom_some sc.names n [] (.inl h);exact Option.isSome_iff_exists.mp q
theorem yb{CX:Ba}{P:Jw}{w:JG}{K:JD}{mg:Str->Option IV}{base:JI}{N ps:List Str}{qual:Str}{scope:L9}{f:IW}{cd:IV}{A:Jy}{outer:List Env}{s s1:IX}{H:Hp}{E:XK}{us:List IV}{vs:List V}
  (S:FnScope N ps scope) (hd:A.handled=none) (e0:Env0 P w K mg base A outer s H) (hl:vs.length=ps.length) (r:Vals vs us)
  (x:InCallC s s.heap.objs.size (N0 (Nb qual scope s.heap.objs.size f cd).kindOf (ps.zip us) fun _=>none) (cellsFrom (s.heap.objs.size+1) scope.names []) (N3 (Nb qual scope s.heap.objs.size f cd).kindOf (ps.zip us) fun _=>none) s1):
  Inv (yp CX P w K mg base N qual scope f cd A outer s H E) [] (start N vs) H s1:=by
 have hpl:ps.length<=N.length:=by have:=congrArg List.length S.pre;rw[JN]at this;omega
 obtain⟨h1,tk,rfl,hk⟩:=x.done;have noA:∀ b:IW,b∉(yp CX P w K mg base N qual scope f cd A outer s H E).ex:=fun b z=>absurd (show b∈([]:List IW)from z) (by simp)
 refine⟨⟨e0.mod,S.kind,rfl,rfl,le_refl _,fun y z c h1 h2=>?_,fun y hy=>?_,fun y c _ h=>?_,fun _=>hd,Around.frames_deeper e0.frames,.inr ⟨rfl,rfl⟩,fun b z=>absurd z (noA b),e0.bs,e0.bsz,fun b _ _=>noA b,fun b z=>absurd z (noA b),e0.funs,e0.frf⟩,
  rfl,e0.bare,Un.kept hk,⟨_,x.toInCall.ns,fun i y v h1 h2 h3=>?_⟩,fun y c h=>⟨_,x.cell y c h⟩,e0.hok.fresh (le_refl _),fun y c h=>?_,fun p hp=>absurd (show p∈([]:List (IW×Obj))from hp) (by simp),e0.hok.kept hk,?_⟩
 ·exact name_of_addr x.apart (PySem.mem_of_lookup h1) (PySem.mem_of_lookup h2)
 ·have hy:scope.names.lookup y=some .cell\/scope.names.lookup y=some .free:=hy;rcases hy with hy|hy
  ·exact uU hy
  ·exact absurd rfl (S.nofree _ (PySem.mem_of_lookup hy))
 ·exact le_of_lt (x.above y c (PySem.mem_of_lookup h))
 ·have hi:i < vs.length:=by
   unfold start at h2
   by_cases hi:i < vs.length
   ·exact hi
   ·rw[List.getElem?_append_right (by simpa using hi)]at h2
    rw[List.getElem?_replicate]at h2;split at h2<;>cases h2
  have ha:vs[i]?=some v:=by
   unfold start at h2;rw[List.getElem?_append_left (by simpa using hi),JB]at h2
   cases e:vs[i]? with
   | none=>rw[e]at h2;cases h2
   | some a=>rw[e]at h2;cases h2;rfl
  obtain⟨u,hu,rv⟩:=r.get ha;have hp:ps[i]?=some y:=by
   rw[<- S.pre,List.getElem?_take_of_lt (by walk_at "o")];exact h1
  have ndP:ps.Nodup:=by rw[<- S.pre];exact S.nd.sublist (List.take_sublist _ _)
  refine⟨u,rv,?_⟩;rcases S.par y (Js hp)with k|k
  ·exact .inl ⟨k,qO ndP hp hu k⟩
  ·obtain⟨c,e⟩:=uU (n:=s.heap.objs.size+1) k;refine .inr ⟨.inl k,c,e,?_⟩;have q:=x.cell y c e;rw[qQ ndP hp hu (by show scope.names.lookup y≠_;rw[k];decide)]at q
   exact q
 ·exact e0.hok.fresh (le_of_lt (x.above y c (PySem.mem_of_lookup h)))
 ·unfold start;show _=N.length
  rw[Jh,IZ,List.length_replicate];omega
theorem Gn{CX:Ba}{P:Jw}{w:JG}{K:JD}{mg:Str->Option IV}{base:JI}{k:Nat}{f:IW}{name qual:Str}{params:Arguments}{body:List Kt}{scope:L9}{dV kV doc pm cdv ct oc:IV}{an od:Option IW}
  {osl:Array (Option IV)} {N ps:List Str} {sp:Sp} (lk:K.lookup f=some ⟨oc,od,.func (Ln name qual params body scope dV kV doc pm an cdv ct),osl⟩) (hcd:Kb K cdv qual=true) (S:FnScope N ps scope)
  (len:∀ vs H Q E,sp vs H Q E->vs.length=ps.length)
  (Rp:∀ (A:Jy) (outer:List Env) (s:IX) (H:Hp) (vs:List V) (Q:VK) (E:XK),Room k (A.deeper (Nb qual scope s.heap.objs.size f cdv))->sp vs H Q E->
   ∃ t,nz (yp CX P w K mg base N qual scope f cdv A outer s H E) body t/\t { nx:=fun _ H'=>Q .non H',rt:=Q } (start N vs) H):
  FnOk P w K mg base CX (k+1) f (Ln name qual params body scope dV kV doc pm an cdv ct) ps sp:=by
 refine⟨len,fun A outer s H args us vs Q E hr e0 hb r hsp=>?_⟩;have hl:=len _ _ _ _ hsp;have KX:K.In s.heap:=e0.mod.kin.keeps fun b o e=>(e0.bs b o e).1;have lim:s.heap.NoLimit:=e0.mod.nolimit.keeps fun b o e=>(e0.bs b o e).1;have S7:∀ y∈ps.zip us,scope.names.lookup y.1=some .local\/(scope.names.lookup y.1=some .cell/\((cellsFrom (s.heap.objs.size+1) scope.names []).lookup y.1).isSome=true):=fun⟨n,v⟩ hy=>by
  rcases S.par n (MC hy).1 with q|q
  ·exact .inl q
  ·exact .inr ⟨q,PySem.W.cellsFrom_some _ _ _ (.inl q)⟩
 refine codeAny_call_function hr.depth (KX _ _ lk) rfl S.co S.gen rfl (PySem.W.codeRec_of KX hcd) (hb _ _ _ _ ?_);refine wpAny_newFunctionEnv_cells S.kind S7 fun env he s1 x=>?_;subst he;refine⟨lim.keeps x.toInCall.keep,codeAny_func ?_⟩;obtain⟨t,ht,hq⟩:=Rp A outer s H vs Q E (hr.deeper _) hsp;have I:Inv (yp CX P w K mg base N qual scope f cdv A outer s H E) [] (start N vs) H s1:=yb S hr.hd e0 hl r x;refine Ka (ht [] s1 (start N vs) H _ I hq) (fun fl s' hs=>?_) fun e s' hs=>hs;have fin:∀ {σ':St} {H':Hp} {v:V} {u:IV},Inv (yp CX P w K mg base N qual scope f cdv A outer s H E) [] σ' H' s'->aF v u->Q v H'->CE outer P w H s Q u s':=
  fun {σ' H' v u} J rv q=>⟨v,H',J.os,J.bare,J.base,J.hok,rv,q⟩
 cases fl with
 | ret u=>
  obtain⟨v,σ',H',J,rv,q⟩:=hs;exact fin J rv q
 | next=>
  obtain⟨σ',H',J,q⟩:=hs;exact fin (v:=V.non) (u:=Value.none) J rfl q
 | brk=>
  obtain⟨_,_,_,q⟩:=hs;exact False.elim q
 | cont=>
  obtain⟨_,_,_,q⟩:=hs;exact False.elim q
section
variable{X:Cx}{x:Str}{p pos:Pos}{e:JJ}{es:List JJ}{t:TA}{id T:String}{r:List V->Hp->VK->Prop}
def Hw(r:List V->Hp->VK->Prop)(t:TA):TE:=fun σ H Q=>t σ H fun vs H1=>r vs H1 Q
theorem zS(hc:eV X (.builtin id) r)(hg:Gl X x)(hm:X.mg x=none)(hv:KN x=some (.builtin id))(ha:PA X (e::es) t)(hn:x≠"__name__":=by decide)(hdb:(x == ("__debug__":Str))=false:=by decide)
  (he:Jx (e::es) X.env=(false,eval e X.env)::Jx es X.env:=by rfl) (hpl:(K3 pos (Jx es X.env)).any (·.1)=false:=by rfl):PE X (.Call (.Name x p) (e::es) [] pos) (Hw r t):=by
 intro pins s σ H Q I h;refine KU (gx I hg hm hv ?_ hn hdb);exact PyProof.Rows.callWith_builtin1 (cm (ha pos pins s σ H _ I h) fun us s1 ⟨vs,H1,I1,r1,q1⟩=>hc pins s1 σ H1 vs us Q I1 r1 q1) he hpl
theorem xJ(hc:eV X (.type T) r)(hg:Gl X x)(hm:X.mg x=none)(hv:KN x=some (.type T))(ha:PA X (e::es) t)(hn:x≠"__name__":=by decide)(hdb:(x == ("__debug__":Str))=false:=by decide)
  (he:Jx (e::es) X.env=(false,eval e X.env)::Jx es X.env:=by rfl) (hpl:(K3 pos (Jx es X.env)).any (·.1)=false:=by rfl):PE X (.Call (.Name x p) (e::es) [] pos) (Hw r t):=by
 intro pins s σ H Q I h;refine KU (gx I hg hm hv ?_ hn hdb);exact PyProof.Rows.callWith_type1 (cm (ha pos pins s σ H _ I h) fun us s1 ⟨vs,H1,I1,r1,q1⟩=>hc pins s1 σ H1 vs us Q I1 r1 q1) he hpl
end
end L2
namespace HT
open PySem PyProof.Rows
section
open PySem.SeqAt
open PySem.AutoSeq1 (wpAny_loadPart')
open PySem.MeetsSeq PySem.MeetsSeq2 PySem.MeetsSeq3
end
section
variable{prog:Jw}{w:JG}{A:Jy}{E:IV->IX->Prop}{s:IX}
theorem cat_tup{t b:IW}{vs ws:List IV}{Q:IV->IX->Prop}(ht:IsTup s.heap t vs.toArray)(hb:IsTup s.heap b ws.toArray)(hv:vs≠[])
  (h1:ws=[]->Q (.ref t) s) (h2:ws≠[]->Q (.ref s.heap.objs.size) { s with heap:=s.heap.push { cls:=.type "tuple",data:=.seq (vs ++ ws).toArray } })
  (hsz:vs.length+ws.length<=Jg):Jc (Jf prog w) A (K0 .Add (.ref t) (.ref b)) Q E s:=by
 obtain⟨⟨cls,dd,data,sl⟩,ho,hc,n,hd⟩:=id ht;obtain⟨⟨cls2,dd2,data2,sl2⟩,ho2,hc2,n2,hd2⟩:=id hb;simp only at hc hd hc2 hd2;subst hc hd hc2 hd2;have e:vs.toArray ++ ws.toArray=(vs ++ ws).toArray:=by simp
 by_cases hw:ws=[]
 ·exact Ob ⟨_,ho,rfl⟩ ⟨_,ho2,rfl⟩ noFill_tuple_add seq_tuple_add PySem.F.slot_tuple_add PySem.F.entry_tuple_add (PySem.F.args_tuple_add_2 _ _)
   (tuple_addW1 t b vs.toArray ws.toArray n n2 dd dd2 sl sl2 (by simpa using hv) (by simp[hw])) ⟨ho,ho2,h1 hw⟩
 ·refine Ob ⟨_,ho,rfl⟩ ⟨_,ho2,rfl⟩ noFill_tuple_add seq_tuple_add PySem.F.slot_tuple_add PySem.F.entry_tuple_add (PySem.F.args_tuple_add_2 _ _)
   (tuple_addW2 t b vs.toArray ws.toArray n n2 dd dd2 sl sl2 (by simpa using hv) (by simpa using hw) (by rw[Jj,Jj];exact hsz)) ⟨ho,ho2,?_⟩
  rw[e];exact h2 hw
def sIx(n d:Nat):Option Int->Nat
 | none=>d
 | some v=>if v < 0 then (v+(n:Int)).toNat else min v.toNat n
theorem sIx_le(n d:Nat)(hd:d<=n)(o:Option Int):sIx n d o<=n:=by
 cases o with
 | none=>exact hd
 | some v=>
  show (if v < 0 then (v+(n:Int)).toNat else min v.toNat n)<=n
  by_cases hv:v < 0
  ·rw[if_pos hv];omega
  ·rw[if_neg hv];exact Nat.min_le_right _ _
theorem xb(v:Int)(n d:Nat):(if v < 0 then max (v+(n:Int)) 0 else min v (n:Int))=((sIx n d (some v):Nat):Int):=by
 show (if v < 0 then max (v+(n:Int)) 0 else min v (n:Int))=(((if v < 0 then (v+(n:Int)).toNat else min v.toNat n):Nat):Int)
 by_cases hv:v < 0
 ·simp only[if_pos hv];omega
 ·simp only[if_neg hv];omega
theorem wu(lo hi:Option Int)(n:Nat):Mo lo hi 1 (n:Int)=(((sIx n 0 lo:Nat):Int),((sIx n n hi:Nat):Int)):=by
 have h1:¬ ((1:Int) < 0):=by walk_at "o"
 unfold Mo;simp only[h1,if_false];refine Prod.ext ?_ ?_
 ·cases lo with
  | none=>rfl
  | some v=>exact xb v n 0
 ·cases hi with
  | none=>rfl
  | some v=>exact xb v n n
theorem vJ(i j:Nat):LA (i:Int) (j:Int) 1=j - i:=by
 unfold LA;have h1:(1:Int) > 0:=by walk_at "o"
 simp only[h1,if_true,Int.ediv_one];split<;>omega
theorem nQ{v:IV}{o:Option Int}{Q:Option Int->IX->Prop}(p:MS v o)(h:Q o s):Jc (Jf prog w) A (Builtin.Slice.slicePartIndex v) Q E s:=by
 cases p with
 | none=>exact slicePart_none h
 | int i t=>exact slicePart_int h
theorem lU{sl:IW}{vl vu:IV}{lo hi:Option Int}{n:Nat}{Q:Int×Int×Nat->IX->Prop}(hs:s.heap.IsSliceOf sl vl vu .none)(pl:MS vl lo)(pu:MS vu hi)
  (h:Q (((sIx n 0 lo:Nat):Int),1,sIx n n hi - sIx n 0 lo) s):Jc (Jf prog w) A (NN (.ref sl) (pure (n:Int))) Q E s:=by
 obtain⟨os,hos,hcs,hds⟩:=id hs;unfold NN Builtin.Slice.sliceFields;refine IU (IU (Ky hos hds (x:=vl) rfl (IU (Ky hos hds (x:=vu) rfl (IU (Ky hos hds (x:=.none) rfl (IY ?_)))))));refine IU (slicePart_none ?_);show Jc _ _ (if ((1:Int) == 0)=true then _ else _) _ _ s
 rw[if_neg (by decide)]
 refine IU (nQ pl (IU (nQ pu (IU (IY ?_)))));show Jc _ _ (match Mo lo hi 1 (n:Int) with|(lo,hi)=>pure (lo,(1:Int),LA lo hi 1)) _ _ s
 rw[wu lo hi n];show Jc _ _ (pure (((sIx n 0 lo:Nat):Int),(1:Int),LA ((sIx n 0 lo:Nat):Int) ((sIx n n hi:Nat):Int) 1)) _ _ s
 rw[vJ];exact IY h
theorem zM(xs:Array IV)(i k:Nat):((List.range k).filterMap fun (m:Nat)=>xs[((i:Int)+(m:Int)*1).toNat]?).toArray=((xs.toList.drop i).take k).toArray:=by
 have e:(fun (m:Nat)=>xs[((i:Int)+(m:Int)*1).toNat]?)=fun m=>xs[i+m]?:=by
  funext m;have:((i:Int)+(m:Int)*1).toNat=i+m:=by walk_at "o"
  rw[this]
 rw[e];have:=pick_run xs i k;rw[List.filterMap_map]at this;have e2:((fun x=>xs[x]?) ∘ fun x=>i+x)=fun m=>xs[i+m]?:=rfl;rw[e2]at this;rw[this]
theorem getItem_tuple_cut{t sl:IW}{items:Array IV}{vl vu:IV}{lo hi:Option Int}{Q:IV->IX->Prop}(ht:IsTup s.heap t items)(hs:s.heap.IsSliceOf sl vl vu .none)(pl:MS vl lo)(pu:MS vu hi)
  (hw:¬ (sIx items.size 0 lo=0/\sIx items.size items.size hi=items.size))
  (h:Q (.ref s.heap.objs.size) { s with heap:=s.heap.push { cls:=.type "tuple",data:=.seq ((items.toList.drop (sIx items.size 0 lo)).take (sIx items.size items.size hi - sIx items.size 0 lo)).toArray } })
  (hsz:items.size<=Jg):Jc (Jf prog w) A (ME (.ref t) (.ref sl)) Q E s:=by
 have Rh:sizeOk (.seq ((items.toList.drop (sIx items.size 0 lo)).take (sIx items.size items.size hi - sIx items.size 0 lo)).toArray):=by
  show ((items.toList.drop (sIx items.size 0 lo)).take (sIx items.size items.size hi - sIx items.size 0 lo)).toArray.size<=Jg
  rw[Jj,JN,K5,Array.length_toList];omega
 have hj:sIx items.size items.size hi<=items.size:=sIx_le _ _ (le_refl _) hi;obtain⟨os,hos,hcs,hds⟩:=id hs;have hTs:s.TypeIs (.ref sl) "slice":=⟨os,hos,hcs⟩;unfold ME
 try with_reducible refine JZ ?_
 first|refine IU (IY ?_)|skip
 refine IU (wpAny_sequenceKey ht.typeIs (by decide) ?_)
 refine IU (Km (name:=I_ "__getitem__") ht.typeIs PyProof.Rows.slot_tuple_getitem
  (J9 PyProof.Rows.slot_tuple_getitem ht.typeIs entry_tuple_getitem ?_ (args_tuple_getitem _ _)))
 show Jc _ _ (Builtin.Tuple.tupleItemsOf (.ref t) >>= _) _ _ s
 refine IU (tupleItemsOf_ ht ?_);refine IU (N7 hTs ?_);rw[if_pos (by decide)]
 refine IU (lU hs pl pu ?_);have hno:¬ ((((sIx items.size 0 lo:Nat):Int) == 0 && (1:Int) == 1 && (sIx items.size items.size hi - sIx items.size 0 lo) == items.size)=true):=by
  intro q;rw[Bool.and_eq_true,Bool.and_eq_true]at q;have q1:((sIx items.size 0 lo:Nat):Int)=0:=eq_of_beq q.1.1;have q2:sIx items.size items.size hi - sIx items.size 0 lo=items.size:=eq_of_beq q.2;exact hw ⟨by walk_at "o",by walk_at "o"⟩
 show Jc _ _ (if (((sIx items.size 0 lo:Nat):Int) == 0 && (1:Int) == 1 && (sIx items.size items.size hi - sIx items.size 0 lo) == items.size)=true then _ else _) _ _ s
 rw[if_neg hno,zM]
 first
  | exact IU (m:=LI _) (JS (IY ⟨_,rfl,IY h⟩) Rh)
  | exact IU (m:=LI _) (JS (IU (IY (IY ⟨_,rfl,IY h⟩))) Rh)
  | exact IU (IU (m:=LI _) (JS (IY (IY ⟨_,rfl,IY h⟩)) Rh))
  | exact IU (IU (m:=LI _) (JS (IY ⟨_,rfl,IY h⟩) Rh))
end
end HT
namespace L2
open PySem PySem.Spec PyProof.Rows
abbrev TO:=St->Hp->(Option Int->Hp->Prop)->Prop
def PO(X:Cx)(e:Option JJ)(t:TO):Prop:=
 ∀ (pins:List (IW×Obj)) (s:IX) (σ:St) (H:Hp) (Q:Option Int->Hp->Prop),Inv X pins σ H s->t σ H Q->
  Jc (Jf X.prog X.w) X.A (evalPart e X.env) (fun u s'=>∃ o H',Inv X pins σ H' s'/\MS u o/\Q o H') X.xe s
def Bj:TO:=fun _ H Q=>Q none H
def Fy(t:TE):TO:=fun σ H Q=>t σ H fun x H1=>∃ i,x=.int i/\Q (some i) H1
section
variable{X:Cx}{e:JJ}{te:TE}{lo hi:Option JJ}{tl th:TO}{pos p2:Pos}
theorem BK:PO X none Bj:=by
 intro pins s σ H Q I h;rw[evalPart_none];exact IY ⟨none,H,I,.none,h⟩
theorem BJ(h:PE X e te):PO X (some e) (Fy te):=by
 intro pins s σ H Q I hw;rw[evalPart_some];refine cm (h pins s σ H _ I hw) fun u s1 zz=>?_;obtain⟨x,H1,I1,r1,q1⟩:=zz;obtain⟨i,rfl,q⟩:=q1;obtain⟨t,rfl⟩:=r1;exact⟨some i,H1,I1,.int i t,q⟩
def yz(X:Cx)(r:V->Option Int->Option Int->Hp->VK->Prop):Prop:=
 ∀ (pins:List (IW×Obj)) (s:IX) (σ:St) (H:Hp) (x:V) (v vl vu:IV) (lo hi:Option Int) (sl:IW) (Q:VK),Inv X pins σ H s->aF x v->s.heap.IsSliceOf sl vl vu .none->MS vl lo->MS vu hi->r x lo hi H Q->
  ∃ T id,Na (.type T) "__getitem__"=pure (some (.builtin id))/\s.TypeIs v T/\Jc (Jf X.prog X.w) X.A (ME v (.ref sl)) (EP X pins σ Q) X.xe s
theorem yz.or{r r':V->Option Int->Option Int->Hp->VK->Prop}(h:yz X r)(h':yz X r'):yz X (fun x lo hi H Q=>r x lo hi H Q\/r' x lo hi H Q):=by
 intro pins s σ H x v vl vu lo hi sl Q I rx hs pl pu q;rcases q with q|q
 ·exact h pins s σ H x v vl vu lo hi sl Q I rx hs pl pu q
 ·exact h' pins s σ H x v vl vu lo hi sl Q I rx hs pl pu q
def IA(r:V->Option Int->Option Int->Hp->VK->Prop)(te:TE)(tl th:TO):TE:=fun σ H Q=>te σ H fun x H1=>tl σ H1 fun l H2=>th σ H2 fun u H3=>r x l u H3 Q
theorem zQ{r:V->Option Int->Option Int->Hp->VK->Prop}(hr:yz X r)(he:PE X e te)(hl:PO X lo tl)(hu:PO X hi th):PE X (.Subscript e (.Slice lo hi none p2) pos) (IA r te tl th):=by
 intro pins s σ H Q I h;refine NL (cm (he pins s σ H _ I h) fun v s1 zz=>?_);obtain⟨x,H1,I1,r1,q1⟩:=zz;refine wpAny_Slice (cm (hl pins s1 σ H1 _ I1 q1) fun vl s2 zz=>?_);obtain⟨l,H2,I2,pl,q2⟩:=zz;refine cm (hu pins s2 σ H2 _ I2 q2) fun vu s3 zz=>?_;obtain⟨u,H3,I3,pu,q3⟩:=zz;rw[evalPart_none];refine IY ?_;have I4:Inv X pins σ H3 { s3 with heap:=s3.heap.push { cls:=.type "slice",data:=.fields #[vl,vu,.none] } }:=I3.kept (t':=s3.toks) fun b ob q=>Ja _ q
 obtain⟨T,id,hT,ht,hg⟩:=hr pins { s3 with heap:=s3.heap.push { cls:=.type "slice",data:=.fields #[vl,vu,.none] } } σ H3 x v vl vu l u s3.heap.objs.size Q I4 r1 (OL ..) pl pu q3
 show Jc (Jf X.prog X.w) X.A (M9 e (.Slice lo hi none p2) v (.ref s3.heap.objs.size)) (EP X pins σ Q) X.xe { s3 with heap:=s3.heap.push { cls:=.type "slice",data:=.fields #[vl,vu,.none] } }
 exact tail_any (ops:=[.ref s3.heap.objs.size,v]) ht hT hg (by with_unfolding_all rfl)
def uR(xs:List V)(lo hi:Option Int):List V:=(xs.drop (HT.sIx xs.length 0 lo)).take (HT.sIx xs.length xs.length hi - HT.sIx xs.length 0 lo)
theorem mX(xs:List V)(lo hi:Option Int):(uR xs lo hi).length<=xs.length:=by
 unfold uR;rw[JN,K5];omega
def HC(K:JD):V->Option Int->Option Int->Hp->VK->Prop:=fun x lo hi H Q=>∃ a xs,x=.ref a/\ja K H a xs/\
 ¬ (HT.sIx xs.length 0 lo=0/\HT.sIx xs.length xs.length hi=xs.length)/\∀ p,H p=none->Q (.ref p) (bG H p (.tup (uR xs lo hi)))
theorem DN:yz X (HC X.K):=by
 intro pins s σ H x v vl vu lo hi sl Q I rx hs pl pu h;obtain⟨a,xs,rfl,hx,hw,q⟩:=h;cases rx;obtain⟨its,r,ht,hz⟩:=I.tuple hx;have hlen:its.toArray.size=xs.length:=by rw[Jj];exact r.length.symm
 refine⟨"tuple",_,PyProof.Rows.slot_tuple_getitem.lookup,ht.typeIs,?_⟩;refine HT.getItem_tuple_cut ht hs pl pu (by rw[hlen];exact hw) ?_ (by rw[hlen];exact hz)
 rw[hlen];refine⟨.ref s.heap.objs.size,_,I.laid (t':=s.toks) (o:=.tup (uR xs lo hi)) (fun b ob q=>Ja _ q) (le_refl _) ?_,rfl,q _ (I.hok.fresh (le_refl _))⟩;exact⟨le_trans (mX xs lo hi) hz,_,(r.drop (HT.sIx xs.length 0 lo)).take (HT.sIx xs.length xs.length hi - HT.sIx xs.length 0 lo),qc.new _ _⟩
def FN(K:JD):R2:=fun x y H Q=>∃ a b xs ys,x=.ref a/\y=.ref b/\ja K H a xs/\ja K H b ys/\xs≠[]/\xs.length+ys.length<=Jg/\
 (ys=[]->Q (.ref a) H)/\(ys≠[]->∀ p,H p=none->Q (.ref p) (bG H p (.tup (xs ++ ys))))
theorem Vals.nil_iff{xs:List V}{us:List IV}(r:Vals xs us):us=[]↔xs=[]:=by
 cases r with
 | nil=>simp
 | cons _ _=>simp
theorem B3:iD X (K0 .Add) (FN X.K):=by
 intro pins s σ H x y v u Q I rx ry h;obtain⟨a,b,xs,ys,rfl,rfl,ha,hb,hx,hz,q1,q2⟩:=h;cases rx;cases ry;obtain⟨its,r1,p1,_⟩:=I.tuple ha;obtain⟨its2,r2,p2,_⟩:=I.tuple hb;refine HT.cat_tup p1 p2 (fun z=>hx (r1.nil_iff.mp z)) (fun z=>⟨.ref a,H,I,rfl,q1 (r2.nil_iff.mp z)⟩) (fun z=>?_) (by rw[<- r1.length,<- r2.length];exact hz)
 refine⟨.ref s.heap.objs.size,_,I.laid (t':=s.toks) (o:=.tup (xs ++ ys)) (fun b ob q=>Ja _ q) (le_refl _) ?_,rfl,q2 (fun w=>z (r2.nil_iff.mpr w)) _ (I.hok.fresh (le_refl _))⟩;exact⟨by rw[Jh];exact hz,_,r1.append r2,qc.new _ _⟩
end
def Ck(n:Nat)(i:Int):Option Nat:=if 0<=i then (if i < n then some i.toNat else none)else if -(n:Int)<=i then some (i+n).toNat else none
def iF{α:Type}(xs:List α)(i:Int):Option α:=(Ck xs.length i).bind fun j=>xs[j]?
theorem wX{n:Nat}{i:Int}{j:Nat}(h:Ck n i=some j):seqIndex? i n=some j/\j < n/\-(n:Int)<=i/\i < n:=by
 unfold Ck at h
 by_cases h0:0<=i
 ·rw[if_pos h0]at h
  by_cases h1:i < n
  ·rw[if_pos h1]at h;have e:i.toNat=j:=Option.some.inj h;exact⟨by rw[On h0 h1,e],by walk_at "o",by walk_at "o",h1⟩
  ·rw[if_neg h1]at h;cases h
 ·rw[if_neg h0]at h
  by_cases h1:-(n:Int)<=i
  ·rw[if_pos h1]at h;have e:(i+n).toNat=j:=Option.some.inj h;exact⟨by rw[seqIndex_neg (by walk_at "o") h1,e],by walk_at "o",h1,by walk_at "o"⟩
  ·rw[if_neg h1]at h;cases h
theorem sX{α:Type}{xs:List α}{i:Int}{v:α}(h:iF xs i=some v):∃ j,seqIndex? i xs.length=some j/\xs[j]?=some v/\j < xs.length/\-(xs.length:Int)<=i/\i < xs.length:=by
 unfold iF at h;cases e:Ck xs.length i with
 | none=>rw[e]at h;cases h
 | some j=>
  rw[e]at h;obtain⟨h1,h2,h3,h4⟩:=wX e;exact⟨j,h1,h,h2,h3,h4⟩
def xm(b:JJ):Prop:=∀ o i,Nw b false o i=operate [o,i] (ME o i)
def yB(X:Cx)(r:R2):Prop:=
 ∀ (value slice:JJ) (pins:List (IW×Obj)) (s:IX) (σ:St) (H:Hp) (x y:V) (v u:IV) (Q:VK),Inv X pins σ H s->aF x v->aF y u->r x y H Q->
  Nw slice false v u=operate [v,u] (ME v u)->Jc (Jf X.prog X.w) X.A (M9 value slice v u) (EP X pins σ Q) X.xe s
def Iv(X:Cx)(id:String)(r:V->List V->Hp->VK->Prop):Prop:=
 ∀ (pins:List (IW×Obj)) (s:IX) (σ:St) (H:Hp) (x:V) (xs:List V) (v:IV) (us:List IV) (Q:VK),Inv X pins σ H s->aF x v->Vals xs us->r x xs H Q->
  Jc (Jf X.prog X.w) X.A (call (.builtin id) (v::us)) (EP X pins σ Q) X.xe s
section
variable{X:Cx}{a b:JJ}{ta tb:TE}{pos:Pos}
theorem yB.or{r r':R2}(h:yB X r)(h':yB X r'):yB X (fun x y H Q=>r x y H Q\/r' x y H Q):=by
 intro value slice pins s σ H x y v u Q I rx ry q hs;rcases q with q|q
 ·exact h value slice pins s σ H x y v u Q I rx ry q hs
 ·exact h' value slice pins s σ H x y v u Q I rx ry q hs
theorem FT{r:R2}(hr:yB X r)(ha:PE X a ta)(hb:PE X b tb)(hs:xm b):PE X (.Subscript a b pos) (Fo r ta tb):=by
 intro pins s σ H Q I h;exact NL (Ff ha hb I h fun v u s2 x y H2 I2 rx ry q=>hr a b pins s2 σ H2 x y v u Q I2 rx ry q (hs _ _))
def FM(K:JD):R2:=fun x y H Q=>∃ p xs i v,x=.ref p/\y=.int i/\jW K H p xs/\iF xs i=some v/\Q v H
def FK(K:JD):R2:=fun x y H Q=>∃ p xs i v,x=.ref p/\y=.int i/\ja K H p xs/\iF xs i=some v/\Q v H
def FL:R2:=fun x y H Q=>∃ z i c,x=.str z/\y=.int i/\z.length<=Jg/\iF z.cps.toList i=some c/\Q (.str ⟨#[c]⟩) H
theorem Cj:yB X (FM X.K):=by
 intro value slice pins s σ H x y v u Q I rx ry h hs;obtain⟨p,xs,i,z,rfl,rfl,hq,he,q⟩:=h;cases rx;obtain⟨t,rfl⟩:=ry;obtain⟨its,r,pl,hz⟩:=I.list hq;obtain⟨j,h1,h2,h3,h4,h5⟩:=sX he;obtain⟨w,ew,rw'⟩:=r.get h2;have hl:=r.length;have hn:=jm;have fin:EP X pins σ Q w s:=⟨z,H,I,rw',q⟩
 by_cases h0:0<=i
 ·have hj:i.toNat=j:=by
   rw[On h0 h5]at h1;exact Option.some.inj h1
  exact item_listR pl.isList h0 (by walk_at "o") (by rw[hj];simpa using ew) fin hs
 ·have hj:(i+(its.toArray.size:Int)).toNat=j:=by
   rw[seqIndex_neg (by walk_at "o") h4]at h1
   rw[Jj,<- hl];exact Option.some.inj h1
  exact N9 (x:=w) pl.isList.typeIs slot_list_getitem.lookup
   (wpAny_getItem_list_neg (Q:=fun r s'=>r=w/\EP X pins σ Q r s') pl.isList (by walk_at "o") (by rw[Jj]<;>omega) (by walk_at "o") (by rw[hj];simpa using ew) ⟨rfl,fin⟩) hs
theorem EM:yB X (FK X.K):=by
 intro value slice pins s σ H x y v u Q I rx ry h hs;obtain⟨p,xs,i,z,rfl,rfl,hq,he,q⟩:=h;cases rx;obtain⟨t,rfl⟩:=ry;obtain⟨its,r,pl,hz⟩:=I.tuple hq;obtain⟨j,h1,h2,h3,h4,h5⟩:=sX he;obtain⟨w,ew,rw'⟩:=r.get h2;have hl:=r.length;have hn:=jm;have fin:EP X pins σ Q w s:=⟨z,H,I,rw',q⟩;exact N9 (x:=w) pl.typeIs slot_tuple_getitem.lookup
  (getItem_tuple (j:=j) (Q:=fun r s'=>r=w/\EP X pins σ Q r s') pl (by walk_at "o") (by walk_at "o") (by rw[Jj,<- hl];exact h1) (by simpa using ew) ⟨rfl,fin⟩) hs
theorem EN:yB X FL:=by
 intro value slice pins s σ H x y v u Q I rx ry h hs;obtain⟨z,i,c,rfl,rfl,hz,he,q⟩:=h;obtain⟨t,rfl⟩:=rx;obtain⟨t',rfl⟩:=ry;obtain⟨j,h1,h2,h3,h4,h5⟩:=sX he;have hl:z.cps.toList.length=z.length:=by simp[Nc]
 rw[hl]at h1 h4 h5;have hn:=jm;exact tail_any (OB s z t) slot_str_getitem.lookup (getItem_str (c:=c) (by
  have e1:decide (i < -(2 ^ 63:Int))=false:=decide_eq_false (by walk_at "o")
  have e2:decide (i>=2 ^ 63)=false:=decide_eq_false (by walk_at "o")
  rw[e1,e2,Bool.or_false]) (by rw[h1];simpa using h2) ⟨.str ⟨#[c]⟩,H,I.tok _,⟨_,rfl⟩,q⟩) hs
def IF(K:JD):R2:=fun x y H Q=>FM K x y H Q\/FK K x y H Q\/FL x y H Q
theorem EO:yB X (IF X.K):=Cj.or (EM.or EN)
theorem vX(its:List IV)(n j:Nat)(u:IV):Kr (·.setIfInBounds j u) { cls:=.type "list",data:=.seq its.toArray n }={ cls:=.type "list",data:=.seq (its.set j u).toArray n }:=by
 simp[Kr]
theorem Inv.lst{pins:List (IW×Obj)}{σ:St}{H:Hp}{s:IX}{p:IW}{xs:List V}(I:Inv X pins σ H s)(h:H p=some (.lst xs)):
  ∃ (its:List IV) (n:Nat),Vals xs its/\s.heap.get? p=some { cls:=.type "list",data:=.seq its.toArray n }/\xs.length<=Jg:=by
 obtain⟨z,its,n,r,e⟩:=I.hok p _ h;exact⟨its,n,r,e,z⟩
theorem Inv.lstUpd{pins:List (IW×Obj)}{σ:St}{H:Hp}{s:IX}{p:IW}{xs ys:List V}{its its':List IV}{n n':Nat}{f:Obj->Obj}(I:Inv X pins σ H s)(h:H p=some (.lst xs))
  (ho:s.heap.get? p=some { cls:=.type "list",data:=.seq its.toArray n }) (hf:f { cls:=.type "list",data:=.seq its.toArray n }={ cls:=.type "list",data:=.seq its'.toArray n' }) (r:Vals ys its') (hz:ys.length<=Jg) (t:Nat):
  Inv X pins σ (bG H p (.lst ys)) { s with heap:=s.heap.update p f,toks:=t }:=by
 have e:(s.heap.update p f).get? p=some { cls:=.type "list",data:=.seq its'.toArray n' }:=by
  rw[LX f ho (by rw[hf]<;>rfl),hf]
 refine I.write (x:=p) (e:=p) (by rw[h];trivial) (.inl rfl) (fun b u hb q=>(Li _ _ (Ne.symm hb)).trans q) ⟨_,e⟩ ?_
 exact⟨hz,its',n',r,e⟩
def FJ:V->V->V->Hp->(Hp->Prop)->Prop:=fun o i v H Q=>∃ p xs k j,o=.ref p/\i=.int k/\H p=some (.lst xs)/\Ck xs.length k=some j/\Q (bG H p (.lst (xs.set j v)))
theorem zf:Fj X FJ:=by
 intro pins s σ H o i v ov iv u Q I ro ri rv h;obtain⟨p,xs,k,j,rfl,rfl,hp,hj,q⟩:=h;cases ro;obtain⟨t,rfl⟩:=ri;obtain⟨its,n,r,ho,hz⟩:=I.lst hp;obtain⟨h1,h2,h3,h4⟩:=wX hj;have hl:=r.length;have hn:=jm;have I':Inv X pins σ (bG H p (.lst (xs.set j v))) { s with heap:=s.heap.update p (Kr (·.setIfInBounds j u)) }:=
  I.lstUpd hp ho (vX its n j u) (r.set rv j) (by rw[List.length_set];exact hz) s.toks
 by_cases h0:0<=k
 ·have hk:k.toNat=j:=by
   rw[On h0 h4]at h1;exact Option.some.inj h1
  exact PySem.W.ki_setAt ho h0 (by walk_at "o") (by rw[Jj,<- hl];exact h4) (by rw[hk];exact⟨_,I',q⟩)
 ·have hk:(k+(its.toArray.size:Int)).toNat=j:=by
   rw[seqIndex_neg (by walk_at "o") h3]at h1
   rw[Jj,<- hl];exact Option.some.inj h1
  exact PySem.W.ki_setBack ho (by walk_at "o") (by rw[Jj,<- hl];exact h3) (by walk_at "o") (by rw[hk];exact⟨_,I',q⟩)
theorem rf(lo hi:Option Int)(n:Nat):(K4 lo hi none n).1=((HT.sIx n 0 lo:Nat):Int)/\(K4 lo hi none n).2.1=((HT.sIx n n hi:Nat):Int)/\(K4 lo hi none n).2.2=1:=by
 refine⟨?_,?_,rfl⟩
 ·cases lo with
  | none=>simp[K4,HT.sIx]
  | some i=>
   simp only[K4,HT.sIx,Option.getD_none,show (1:Int) > 0 by decide,if_true]
   by_cases h:i < 0
   ·simp only[h,if_true]<;>omega
   ·simp only[h,if_false]<;>omega
 ·cases hi with
  | none=>simp[K4,HT.sIx]
  | some i=>
   simp only[K4,HT.sIx,Option.getD_none,show (1:Int) > 0 by decide,if_true]
   by_cases h:i < 0
   ·simp only[h,if_true]<;>omega
   ·simp only[h,if_false]<;>omega
theorem pD(its:List IV)(lo hi:Option Int):MX its.toArray lo hi none=((its.drop (HT.sIx its.length 0 lo)).take (HT.sIx its.length its.length hi - HT.sIx its.length 0 lo)).toArray:=by
 obtain⟨h1,h2,h3⟩:=rf lo hi its.toArray.size;unfold MX;rw[h1,h2,h3];simp only[sliceRange_one,pick_run,Jj]<;>rfl
def HD(K:JD):V->Option Int->Option Int->Hp->VK->Prop:=fun x lo hi H Q=>∃ a xs,x=.ref a/\jW K H a xs/\∀ p,H p=none->Q (.ref p) (bG H p (.lst (uR xs lo hi)))
theorem Bp:yz X (HD X.K):=by
 intro pins s σ H x v vl vu lo hi sl Q I rx hs pl pu h;obtain⟨a,xs,rfl,hx,q⟩:=h;cases rx;obtain⟨its,r,ht,hz⟩:=I.list hx;have hlen:=r.length;refine⟨"list",_,slot_list_getitem.lookup,ht.isList.typeIs,?_⟩;refine NQ ht.isList hs pl pu .none (by simp) ?_ (by rw[Jj]<;>omega)
 rw[pD,<- hlen];refine⟨.ref s.heap.objs.size,_,I.laid (t':=s.toks) (o:=.lst (uR xs lo hi)) (fun b ob q=>Ja _ q) (le_refl _) ?_,rfl,q _ (I.hok.fresh (le_refl _))⟩;exact⟨le_trans (mX xs lo hi) hz,_,0,(r.drop (HT.sIx xs.length 0 lo)).take (HT.sIx xs.length xs.length hi - HT.sIx xs.length 0 lo),Je _ rfl⟩
theorem sQ:eV X (.builtin "len") (fun xs H Q=>∃ p ys,xs=[.ref p]/\(jW X.K H p ys\/ja X.K H p ys)/\Q (.int ys.length) H):=by
 intro pins s σ H xs us Q I r h;obtain⟨p,ys,rfl,hq,q⟩:=h;obtain⟨u,rfl,rx⟩:=qh r;cases rx;have hn:=jm;rcases hq with hq|hq
 ·obtain⟨its,r',pl,hz⟩:=I.list hq;have hlen:=r'.length;exact Calls.call_len_list pl.isList (by simp only[Jj]<;>omega) ⟨.int ys.length,H,I.tok _,⟨s.toks+1,by rw[Jj,hlen]⟩,q⟩
 ·obtain⟨its,r',pl,hz⟩:=I.tuple hq;have hlen:=r'.length;exact len_tuple pl (by simp only[Jj]<;>omega) ⟨.int ys.length,H,I.tok _,⟨s.toks+1,by rw[Jj,hlen]⟩,q⟩
theorem sP:eV X (.builtin "len") (fun xs H Q=>∃ z,xs=[.str z]/\z.length<=Jg/\Q (.int z.length) H):=by
 intro pins s σ H xs us Q I r h;obtain⟨z,rfl,hz,q⟩:=h;obtain⟨u,rfl,t,rfl⟩:=qh r;have hn:=jm;exact len_str (by walk_at "o") ⟨.int z.length,H,I.tok _,⟨_,rfl⟩,q⟩
theorem eV.or{f:IV}{r r':List V->Hp->VK->Prop}(h:eV X f r)(h':eV X f r'):eV X f (fun xs H Q=>r xs H Q\/r' xs H Q):=by
 intro pins s σ H xs us Q I rs q;rcases q with q|q
 ·exact h pins s σ H xs us Q I rs q
 ·exact h' pins s σ H xs us Q I rs q
theorem sO:eV X (.type "list") (fun xs H Q=>∃ p ys,xs=[.ref p]/\(jW X.K H p ys\/ja X.K H p ys)/\∀ l,H l=none->Q (.ref l) (bG H l (.lst ys))):=by
 intro pins s σ H xs us Q I r h;obtain⟨p,ys,rfl,hq,q⟩:=h;obtain⟨u,rfl,rx⟩:=qh r;cases rx;have fin:∀ (its:List IV),Vals ys its->ys.length<=Jg->∀ (h':JI) (c':Nat),(∀ b o',s.heap.get? b=some o'->h'.get? b=some o')->
   h'.get? s.heap.objs.size=some { cls:=.type "list",dict:=none,data:=.seq its.toArray c',slots:=#[] }->EP X pins σ Q (.ref s.heap.objs.size) { s with heap:=h' }:=fun its r' hz h' c' kp e=>
  ⟨.ref s.heap.objs.size,_,I.laid (t':=s.toks) kp (le_refl _) (show bZ X.prog X.w _ h' _ (.lst ys)from ⟨hz,its,c',r',e⟩),rfl,q _ (I.hok.fresh (le_refl _))⟩
 rcases hq with hq|hq
 ·obtain⟨its,r',pl,hz⟩:=I.list hq;have hlen:=r'.length;obtain⟨o,ho,hc,n,hd⟩:=pl.isList;exact call_list_seq p (.inl rfl) ho hc hd (fun h' c' kp e=>fin its r' hz h' c' kp e) (by simp only[Jj]<;>omega)
 ·obtain⟨its,r',pl,hz⟩:=I.tuple hq;have hlen:=r'.length;obtain⟨o,ho,hc,n,hd⟩:=pl;exact call_list_seq p (.inr rfl) ho hc hd (fun h' c' kp e=>fin its r' hz h' c' kp e) (by simp only[Jj]<;>omega)
theorem p_:eV X (.type "tuple") (fun xs H Q=>∃ p ys,xs=[.ref p]/\((jW X.K H p ys/\∀ l,H l=none->Q (.ref l) (bG H l (.tup ys)))\/(ja X.K H p ys/\Q (.ref p) H))):=by
 intro pins s σ H xs us Q I r h;obtain⟨p,ys,rfl,h⟩:=h;obtain⟨u,rfl,rx⟩:=qh r;cases rx;rcases h with ⟨hq,q⟩|⟨hq,q⟩
 ·obtain⟨its,r',pl,hz⟩:=I.list hq;have hlen:=r'.length;refine call_tuple_list pl.isList (fun h' kp=>?_) (by simp only[Jj]<;>omega)
  have I1:Inv X pins σ H { s with heap:=h' }:=I.kept (t':=s.toks) kp
  have I2:Inv X pins σ (bG H h'.objs.size (.tup ys)) { s with heap:=h'.push { cls:=.type "tuple",data:=.seq its.toArray } }:=
   I1.laid (t':=s.toks) (fun b o e=>Ja _ e) (le_refl _) (show bZ X.prog X.w _ _ _ (.tup ys)from ⟨hz,its,r',qc.new _ _⟩)
  exact⟨.ref h'.objs.size,_,I2,rfl,q _ (I1.hok.fresh (le_refl _))⟩
 ·obtain⟨its,r',pl,hz⟩:=I.tuple hq;exact call_tuple_same pl ⟨.ref p,H,I,rfl,q⟩
def Io(K:JD)(T:String)(x:V)(H:Hp):Prop:=match x with
 | .str _=>T="str"
 | .int _=>T="int"
 | .ref p=>(T="list"/\∃ xs,jW K H p xs)\/(T="tuple"/\∃ o,K.lookup p=some o/\o.cls=.type "tuple"/\o.dict=none)\/
   (T="dict"/\((∃ kvs,H p=some (.dK kvs))\/∃ kvs,H p=some (.dT kvs)))\/(T="set"/\∃ S n,H p=some (.set S n))
 | _=>False
theorem DD{pins:List (IW×Obj)}{σ:St}{H:Hp}{s:IX}{T:String}{x:V}{v:IV}(I:Inv X pins σ H s)(r:aF x v)(ty:Io X.K T x H):
  s.TypeIs v T/\∀ a,v=.ref a->∃ ob,s.heap.get? a=some ob/\ob.dict=none:=by
 cases x with
 | str z=>
  obtain⟨t,rfl⟩:=r;cases (show T="str" from ty)
  exact⟨OB s z t,fun _ e=>nomatch e⟩
 | int i=>
  obtain⟨t,rfl⟩:=r;cases (show T="int" from ty)
  exact⟨typeIs_int s i t,fun _ e=>nomatch e⟩
 | ref p=>
  cases r;rcases ty with ⟨rfl,xs,hq⟩|⟨rfl,o,hk,hc,hd⟩|⟨rfl,hk⟩|⟨rfl,S,n,hk⟩
  ·obtain⟨its,_,pl,_⟩:=I.list hq;refine⟨pl.isList.typeIs,fun a e=>?_⟩;cases e;obtain⟨o,n,e,c,hd,_⟩:=pl;exact⟨o,e,hd⟩
  ·refine⟨⟨o,I.kIn p o hk,hc⟩,fun a e=>?_⟩;cases e;exact⟨o,I.kIn _ o hk,hd⟩
  ·have z:∃ o,s.heap.get? p=some o/\o.ExactDict:=by
    rcases hk with ⟨kvs,hk⟩|⟨kvs,hk⟩
    ·obtain⟨_,_,_,_,o,_,_,e,ex,_⟩:=I.hok p _ hk;exact⟨o,e,ex⟩
    ·obtain⟨_,_,_,_,o,_,_,e,ex,_⟩:=I.hok p _ hk;exact⟨o,e,ex⟩
   obtain⟨o,e,ex⟩:=z;refine⟨⟨o,e,ex.1⟩,fun a e2=>?_⟩;cases e2;exact⟨o,e,ex.2.1⟩
  ·obtain⟨o,_,_,_,e,ex,_⟩:=I.hok p _ hk;refine⟨⟨o,e,ex.1⟩,fun a e2=>?_⟩;cases e2;exact⟨o,e,ex.2.1⟩
 | _=>exact False.elim ty
def IC(K:JD)(T:String)(r:V->List V->Hp->VK->Prop)(to:TE)(t:TA):TE:=fun σ H Q=>to σ H fun x H1=>Io K T x H1/\t σ H1 fun xs H2=>r x xs H2 Q
variable{o e:JJ}{es:List JJ}{to:TE}{t:TA}{name:Str}{apos cpos:Pos}{T id:String}{r:V->List V->Hp->VK->Prop}
theorem Db(pa:PlainAttrs T)(slot:Slot T name id)(hty:typeOf (.builtin id)=pure (.type "method_descriptor"))(hm:Iv X id r)(ho:PE X o to)(ha:PA X (e::es) t)
  (QI:K9 o name X.env (eval o X.env)=eval o X.env:=by rfl)
  (Ro:((K3 cpos (Jx (e::es) X.env)).all (fun x=>!x.1) && (Nl cpos (Mv [] X.env)).all (fun x=>x.1.isSome)
   && decide ((e::es).length+([]:List M4).length+(if ([]:List M4).isEmpty then 0 else 1) < 30))=true:=by rfl)
  (QH:(apos.endLine == cpos.line)=true:=by rfl) (hs:Jx (e::es) X.env=(false,eval e X.env)::Jx es X.env:=by rfl) (Q7:(K3 cpos (Jx es X.env)).any (·.1)=false:=by rfl):
  PE X (.Call (.Attribute o name apos) (e::es) [] cpos) (IC X.K T r to t):=by
 intro pins s σ H Q I h;refine wpAny_Call_method_late QI Ro QH rfl (cm (ho pins s σ H _ I h) fun v s1 zz=>?_);obtain⟨x,H1,I1,r1,ty,q1⟩:=zz;obtain⟨h1,h2⟩:=DD I1 r1 ty;refine⟨T,id,pa,slot,hty,h1,h2,?_⟩;have hA:=ha cpos pins s1 σ H1 _ I1 q1;rw[hs]at hA ⊢;refine Lj (by show (false || (K3 cpos (Jx es X.env)).any (·.1))=false;rw[Q7]<;>rfl) (MT ?_)
 exact cm hA fun us s2 ⟨vs,H2,I2,r2,q2⟩=>hm pins s2 σ H2 x vs v us Q I2 r1 r2 q2
end
def IQ(X:Cx)(id:String)(r:V->List V->Hp->VK->Prop):Prop:=
 ∀ (pins:List (IW×Obj)) (s:IX) (σ:St) (H:Hp) (x:V) (xs:List V) (v:IV) (us:List IV) (Q:VK),Inv X pins σ H s->aF x v->Vals xs us->r x xs H Q->
  Jc (Jf X.prog X.w) X.A (call (.builtin id) (v::us)) (EP X pins σ Q) X.xe s
theorem Vals.one:∀ {x:V} {us:List IV},Vals [x] us->∃ u,us=[u]/\aF x u
 | _,_,.cons r .nil=>⟨_,rfl,r⟩
theorem Vals.two:∀ {x y:V} {us:List IV},Vals [x,y] us->∃ u v,us=[u,v]/\aF x u/\aF y v
 | _,_,_,.cons r (.cons q .nil)=>⟨_,_,rfl,r,q⟩
section
variable{X:Cx}{pins:List (IW×Obj)}{σ:St}{H:Hp}{s:IX}{l b:IW}{xs ys zs:List V}
theorem Inv.lset{its its':List IV}{n:Nat}{f:Array IV->Array IV}{t':Nat}(I:Inv X pins σ H s)(hH:H l=some (.lst xs))
  (e:s.heap.get? l=some { cls:=.type "list",data:=.seq its.toArray n }) (hf:f its.toArray=its'.toArray) (hv:Vals ys its') (hz:ys.length<=Jg):
  Inv X pins σ (bG H l (.lst ys)) { s with heap:=s.heap.update l (Kr f),toks:=t' }:=by
 have q:=PySem.IsL.update e f;rw[hf]at q;refine I.write (x:=l) (e:=l) (by rw[hH];exact trivial) (.inl rfl) (fun b' u hb hu=>(Li s.heap (Kr f) (Ne.symm hb)).trans hu) ⟨_,q⟩ ?_
 exact⟨hz,its',_,hv,q⟩
theorem Inv.lnew{its:List IV}{t':Nat}(I:Inv X pins σ H s)(hv:Vals ys its)(hz:ys.length<=Jg):
  Inv X pins σ (bG H s.heap.objs.size (.lst ys)) { s with heap:=s.heap.push { cls:=.type "list",data:=.seq its.toArray },toks:=t' }:=
 I.laid (fun _ _ q=>Ja _ q) (le_refl _) ⟨hz,its,0,hv,Je _ rfl⟩
theorem Inv.fresh(I:Inv X pins σ H s):H s.heap.objs.size=none:=I.hok.fresh (le_refl _)
theorem Inv.lstM(I:Inv X pins σ H s)(hH:H l=some (.lst xs)):xs.length<=Jg/\∃ (its:List IV) (n:Nat),Vals xs its/\xs.length=its.length/\s.heap.get? l=some { cls:=.type "list",data:=.seq its.toArray n }:=by
 obtain⟨z,its,n,r,e⟩:=I.hok l _ hH;exact⟨z,its,n,r,r.length,e⟩
end
section
variable{X:Cx}
def rAppend:V->List V->Hp->VK->Prop:=fun x vs H Q=>∃ l xs y,x=.ref l/\vs=[y]/\H l=some (.lst xs)/\xs.length < Jg/\Q .non (bG H l (.lst (xs ++ [y])))
theorem qA:IQ X "list.append" rAppend:=by
 intro pins s σ H x vs v us Q I rx rv h;obtain⟨l,xs,y,rfl,rfl,hH,hz,q⟩:=h;cases rx;obtain⟨u,rfl,ru⟩:=rv.one;obtain⟨z,its,n,r,hl,e⟩:=I.lstM hH;refine OI F.slot_list_append ⟨_,e,rfl⟩ F.entry_list_append (F.args_list_append_2 _ _) (PySem.list_append l its.toArray n u (by rw[Jj];omega)) ⟨e,?_⟩
 refine⟨.non,_,I.lset (its':=its ++ [u]) hH e (by simp) (r.append (.cons ru .nil)) ?_,rfl,q⟩
 rw[Jh,List.length_singleton];omega
end
end L2
namespace Att
open PySem PySem.W PySem.Calls PyProof.Rows
theorem nu{P:Params}{h:JI}:∀ (ns:List Int) (vs:List IV),WellAll P h vs (ns.map WData.int)->Oc vs ns:=by
 intro ns
 induction ns with
 | nil=>
  intro vs w;rw[Nj]at w;cases w;exact .nil
 | cons n ns ih=>
  intro vs w;rw[Jz]at w;cases w with
  | cons a b=>
   cases a;exact .cons _ _ (ih _ b)
theorem xx{l:OpenLaw}{n:Nat}(hn:l.most=some n){P:Params}{h:JI}{args:List WData}{vals:List IV}
  (Rr:l.row.toRowW.claim.pre args=true) (hwl:WellAll P h vals args):
  ∃ a vs ns,vals=[Value.ref a]/\args=[WData.list (ns.map WData.int)]/\h.get? a=some { cls:=.type "list",data:=.seq vs.toArray }/\Oc vs ns/\ns.length<=n:=by
 have hsh:WShape.hasAll [] args [.list .int]=true:=(pre_splitW Rr).1;have hc:l.pre.holds [] { args:=args }=true:=(pre_splitW Rr).2;obtain⟨d,r,rfl,h1,h2⟩:=hasAllW_cons hsh;obtain rfl:=hasAllW_nil h2;obtain⟨xs,rfl,h3⟩:=hasW_list h1;obtain⟨ns,rfl⟩:=items_int h3;have hlen:ns.length<=n:=by
  unfold OpenLaw.pre at hc;have h4:(WTm.not (.lt (.lit (.int (n:Int))) (.len (.arg 0)))).holds [] { args:=[.list (ns.map .int)] }=true:=by
   have h4:=(holds_andW hc).1;rw[hn]at h4;exact h4
  have h5:=condW_of h4 (w_not (w_lt w_lit (w_len_list (w_arg rfl))));rw[IZ]at h5;refine Kf fun q=>?_;have q':(n:Int) < ((ns.length:Nat):Int):=by walk_at "o"
  first
   | (rw[decide_eq_true q']at h5;exact absurd h5 (by decide))
   | (simp at h5;omega)
 cases hwl with
 | cons w1 w2=>
  cases w2;cases w1 with
  | list ho hall=>exact⟨_,_,ns,rfl,rfl,ho,nu ns _ hall,hlen⟩
theorem xC(l:OpenLaw)(args:List WData):l.row.toRowW.claim.post args (.bool true) args=true:=
 postW_of (r:=l.row.toRowW) (X:=(true == true))
  (show WShape.has [] (.bool true) .bool=true by first|rfl|decide|simp[WShape.has,WShape.arms,WShape.armsAll])
  (show (WTm.eq .res (.lit (.bool true))).value [] { args:=args,res:=some (.bool true),after:=args }=some (.bool (true == true))from w_eq_bool (w_res rfl) w_lit) rfl
theorem attach_call{l:OpenLaw}{n:Nat}{q:Jw}{loose:List Str}{XP:(Str->Option IV)->JI->Prop}{YP:JG->JI->Prop}{d:DefRec}
  (hn:l.most=some n) (hdf:d.params.defaults=[])
  (call:∀ (w:JG) (s₀ s₁:IX) (mg mb:Str->Option IV) (fa:IW) (o:Obj) (pm cd doc:IV) (a:IW) (vs:List IV) (ns:List Int),
   Ground q loose [] XP w s₀ mg mb s₁.heap->YP w s₁.heap->
   s₁.heap.get? fa=some o->o.data=.func (docDef d.name d.params d.body d.scope pm cd doc)->s₁.heap.CodeRec cd d.name->mg d.name=some (.ref fa)->
   s₁.heap.get? a=some { cls:=.type "list",data:=.seq vs.toArray }->Oc vs ns->ns.length<=n->s₁.gens=#[]->
   Mb (Jf l.prog w) M0 (.call (.ref fa) ⟨[.ref a],[]⟩) (fun r s'=>r=.ok (.ret (.bool true))/\OldK s₁.heap s'.heap/\s'.os=s₁.os/\MG s'.gens) s₁):
  WalkO q loose XP YP l.row.toRowW d [] (fun f vs=>PySem.call f vs):=by
 intro w s₀ s₁ mg mb G Y fa o pm cd doc dV kV ho hd hcd hD hmg hg args vals as Rr hlay hrd hwl hlo;obtain rfl:dV=.none:=Dflts.none hD hdf;obtain rfl:kV=.none:=Dflts.noKw hD;obtain⟨a,vs,ns,rfl,rfl,Q9,hints,hlen⟩:=xx hn Rr hwl;refine enter_call (MF (call w s₀ s₁ mg mb fa o pm cd doc a vs ns G Y ho (fd_plain hd) hcd hmg Q9 hints hlen hg) fun r s' hq=>?_);obtain⟨rfl,h2,h3,h4⟩:=hq;exact⟨.inl ⟨.bool true,.bool true,[],rfl,fun _=>rfl,.bool true,xC l _,fun _=>⟨List.Pairwise.nil,fun _ hm=>(nomatch hm)⟩⟩,h2,h3,h4⟩
end Att
namespace L2
open PySem PySem.Spec PyProof.Rows
theorem qg:∀ {vs:List IV} {ns:List Int},Oc vs ns->Vals (ns.map V.int) vs
 | _,_,.nil=>.nil
 | _,_,.cons n t h=>.cons ⟨t,rfl⟩ (qg h)
def CP(H:Hp):Prop:=∀ b,H b=none\/∃ o xs,H b=some (.frz o (.lst xs))
theorem Ap{P:Jw}{w:JG}{K:JD}{mg mb:Str->Option IV}{CX:Ba}{k:Nat}{fa a:IW}{fd:JE}{x:Str}{sp:Sp}{s₁:IX}{vs:List IV}{ns:List Int}
  (KX:K.In s₁.heap) (hns:s₁.heap.Ns Jr mg) (hb:s₁.heap.Ns OJ mb) (hbb:∀ x:Str,x≠"__name__"->mb x=KN x) (VP:s₁.heap.NoLimit) (hg:s₁.gens=#[])
  (ha:s₁.heap.get? a=some { cls:=.type "list",data:=.seq vs.toArray }) (hi:Oc vs ns) (hl:ns.length<=Jg) (hr:Room k M0)
  (F:∀ base:JI,K.In base->base.Ns Jr mg->FnOk P w K mg base CX k fa fd [x] sp) (Ta:∀ (s:IX) (u:IV),NF s fd ⟨[u],[]⟩ [(x,u)])
  (hsp:∀ H:Hp,CP H->jW K H a (ns.map V.int)->sp [.ref a] H (fun v _=>v=.bl true) fun _ _ _=>False)
  (hCX:∀ H e s',CX [] H s₁ (fun _ _ _=>False) e s'->False):
  Mb (Jf P w) M0 (.call (.ref fa) ⟨[.ref a],[]⟩) (fun r s'=>r=.ok (.ret (.bool true))/\OldK s₁.heap s'.heap/\s'.os=s₁.os/\MG s'.gens) s₁:=by
 have rv:=qg hi;have Vn:=hi.length;have core:∀ H:Hp,CP H->jW K H a (ns.map V.int)->kA P w H s₁.heap->(∀ b,H b≠none->b=a)->(H a≠none->K.lookup a=none)->
   Mb (Jf P w) M0 (.call (.ref fa) ⟨[.ref a],[]⟩) (fun r s'=>r=.ok (.ret (.bool true))/\OldK s₁.heap s'.heap/\s'.os=s₁.os/\MG s'.gens) s₁:=by
  intro H hO hS hok hA hK;have Ri:∀ {b:IW} {o:Obj},s₁.heap.get? b=some o->H b=none->(sD s₁.heap H).get? b=some o:=fun e n=>AA e n;have noA:∀ {b:IW} {o:Obj} {es:Array DictEntry} {ep:Nat},s₁.heap.get? b=some o->o.data=.dict es ep->H b=none:=fun {b o es ep} e d=>by
   cases q:H b with
   | none=>rfl
   | some u=>
    have e':b=a:=hA b (by rw[q];simp)
    subst e';rw[ha]at e;cases e;have d':Data.seq vs.toArray _=Data.dict es ep:=d;cases d'
  have nsK:∀ {b:IW} {m:Str->Option IV},s₁.heap.Ns b m->(sD s₁.heap H).Ns b m:=fun {b m} ⟨o,es,ep,e,d,r⟩=>⟨o,es,ep,Ri e (noA e d),d,r⟩;have hKb:K.In (sD s₁.heap H):=fun b o e=>Ri (KX b o e) (by
   cases q:H b with
   | none=>rfl
   | some u=>
    have e':b=a:=hA b (by rw[q];simp)
    subst e';rw[hK (by rw[q];simp)]at e;cases e)
  have hM:Mod K mg (sD s₁.heap H):=⟨hKb,nsK hns,⟨mb,nsK hb,hbb⟩,let ⟨mc,h1,h2⟩:=VP;⟨mc,nsK h1,h2⟩⟩;have e0:Env0 P w K mg (sD s₁.heap H) M0 [] s₁ H:=⟨rfl,hM,fun b o e=>B5 e,Ki (yd _ _),trivial,fun b hb=>absurd (show b∈([]:List IW)from hb) (by simp),hok,.of_eq hg⟩
  refine MF ((F _ hKb (nsK hns)).run M0 [] s₁ H ⟨[.ref a],[]⟩ [.ref a] [.ref a] _ _ hr e0 (Ta s₁ (.ref a)) (.cons rfl .nil) (hsp H hO hS)) fun r s' h=>?_;cases r with
  | error e=>exact (hCX H e s' h).elim
  | ok fl=>
   cases fl with
   | next=>exact False.elim h
   | brk=>exact False.elim h
   | cont=>exact False.elim h
   | ret u=>
    obtain⟨v,H',os,bare,un,hok',r',q⟩:=h;have q':v=.bl true:=q;subst q';obtain rfl:u=Value.bool true:=r';refine⟨rfl,OldK.of_keep fun b o e=>?_,os,bare⟩;cases q:H b with
    | none=>exact un.keep b o e q (by intro z;exact absurd (show b∈([]:List IW)from z) (by simp)) (by simp)
    | some u=>
     rcases hO b with z|⟨ob,xs,z⟩
     ·rw[q]at z;cases z
     ·have z2:=un.frzs b ob _ z;obtain⟨e1,_⟩:=hok b _ z;obtain⟨e2,_⟩:=hok' b _ z2;rw[e]at e1;cases e1;exact e2
 cases hk:K.lookup a with
 | some o=>
  have e:=KX a o hk;rw[ha]at e;cases e;refine core (fun _=>none) (fun _=>.inl rfl) (.inr ⟨_,vs.toArray,_,hk,rfl,rfl,rfl,by rw[Jj,Vn];exact hl,by simpa using rv⟩) (fun b u z=>by have z':(none:Option HO)=some u:=z;cases z') (fun b z=>absurd rfl z) fun z=>absurd rfl z
 | none=>
  refine core (fun b=>if b=a then some (.frz { cls:=.type "list",data:=.seq vs.toArray } (.lst (ns.map V.int)))else none) (fun b=>?_) (.inl (.inr ⟨{ cls:=.type "list",data:=.seq vs.toArray },if_pos rfl⟩)) (fun b u z=>?_) (fun b z=>?_) fun _=>hk
  ·by_cases hb:b=a
   ·exact .inr ⟨_,_,if_pos hb⟩
   ·exact .inl (if_neg hb)
  ·by_cases hb:b=a
   ·have z':=(if_pos hb).symm.trans z;cases z';subst hb;exact⟨ha,by rw[IZ];exact hl,vs,_,rv,ha⟩
   ·have z':=(if_neg hb).symm.trans z;cases z'
  ·by_cases hb:b=a
   ·exact hb
   ·exact absurd (if_neg hb) z
abbrev IT{K:JD}{h:JI}(_:K.In h):JD:=K
theorem walk_of{l:PySem.W.OpenLaw}{n k:Nat}{q:Jw}{loose:List Str}{XP:(Str->Option IV)->JI->Prop}{YP:JG->JI->Prop}{d:DefRec}{K:Params->JD}{CX:JG->Ba}{sp:JG->Sp}{x:Str}
  (hn:l.most=some n) (hn2:n<=Jg) (hdf:d.params.defaults=[]) (hr:Room k M0)
  (hY:∀ (w:JG) (h:JI),YP w h->(K w.params).In h)
  (F:∀ (w:JG) (mg:Str->Option IV) (fa:IW) (h:JI),(K w.params).In h->h.Ns Jr mg->mg d.name=some (.ref fa)->
   ∃ fd:JE,(∀ (s:IX) (u:IV),NF s fd ⟨[u],[]⟩ [(x,u)])/\
    ∀ base:JI,(K w.params).In base->base.Ns Jr mg->FnOk l.prog w (K w.params) mg base (CX w) k fa fd [x] (sp w))
  (hsp:∀ (w:JG) (H:Hp) (a:IW) (ns:List Int),ns.length<=n->CP H->jW (K w.params) H a (ns.map V.int)->sp w [.ref a] H (fun v _=>v=.bl true) fun _ _ _=>False)
  (hCX:∀ (w:JG) (H:Hp) (s:IX) (e:IV) (s':IX),CX w [] H s (fun _ _ _=>False) e s'->False):
  PySem.W.WalkO q loose XP YP l.row.toRowW d [] (fun f vs=>PySem.call f vs):=by
 refine Att.attach_call hn hdf fun w s₀ s₁ mg mb fa o pm cd doc a vs ns G Y ho hd hcd hmg Q9 hints hlen hg=>?_;have KX:=hY w _ Y;obtain⟨fd,hb,hF⟩:=F w mg fa _ KX G.T.g hmg;exact Ap KX G.T.g G.T.b G.T.builtins G.T.nolimit hg Q9 hints (le_trans hlen hn2) hr hF hb (fun H hO hS=>hsp w H a ns hlen hO hS) fun H e s'=>hCX w H s₁ e s'
def gK(s:Kt)(j:Nat):Kt:=match s with
 | .ClassDef _ _ _ body _ _ _ _ _ _ _=>body.getD j (.Pass ⟨0,0,0,0⟩)
 | _=>.Pass ⟨0,0,0,0⟩
def aT(s:Kt):Arguments:=match s with
 | .FunctionDef _ a _ _ _ _ _ _ _ _=>a
 | _=>{ posonlyargs:=[],args:=[],vararg:=none,kwonlyargs:=[],kw_defaults:=[],kwarg:=none,defaults:=[] }
def aP(s:Kt):List Kt:=match s with
 | .FunctionDef _ _ b _ _ _ _ _ _ _=>b
 | _=>[]
def aj(s:Kt):L9:=match s with
 | .FunctionDef _ _ _ _ _ _ sc _ _ _=>sc
 | _=>{ kind:=.function,names:=[],isGenerator:=false,isCoroutine:=false }
abbrev gF:Ba:=fun _ _ _ _ _ _=>False
abbrev E0:XK:=fun _ _ _=>False
theorem wM{X:Cx}:pB gF X E0:=fun _ _ _ _ _ _ _ h=>h.elim
theorem iteF{A B:Prop}(h:B):if false=true then A else B:=by
 rw[if_neg Bool.false_ne_true];exact h
theorem iteT{A B:Prop}(h:A):if true=true then A else B:=by
 rw[if_pos rfl];exact h
section
variable{κ:Type}[DecidableEq κ]
def jX(kvs:List (κ×V))(k:κ):Option V:=(kvs.find? fun kv=>decide (kv.1=k)).map (·.2)
def kS(kvs:List (κ×V))(k:κ)(v:V):List (κ×V):=
 if (kvs.any fun kv=>decide (kv.1=k))=true then kvs.map (fun kv=>if kv.1=k then (kv.1,v)else kv)else kvs ++ [(k,v)]
def dropK(kvs:List (κ×V))(k:κ):List (κ×V):=kvs.filter fun kv=>decide (kv.1≠k)
theorem kE{p:κ×V}{r:List (κ×V)}{k:κ}(e:p.1=k):jX (p::r) k=some p.2:=by simp[jX,JT,e]
theorem kF{p:κ×V}{r:List (κ×V)}{k:κ}(e:¬ p.1=k):jX (p::r) k=jX r k:=by simp[jX,JT,e]
theorem nJ(k:κ):∀ kvs:List (κ×V),(kvs.any fun kv=>decide (kv.1=k))=(jX kvs k).isSome
 | []=>rfl
 | p::r=>by
  rw[MA]
  by_cases e:p.1=k
  ·simp only[kE e,decide_eq_true e,Bool.true_or,Option.isSome_some]
  ·rw[kF e,decide_eq_false e,Bool.false_or];exact nJ k r
theorem mU(kvs:List (κ×V))(k:κ)(v:V):(kS kvs k v).length<=kvs.length+1:=by
 unfold kS;split
 ·rw[IZ];omega
 ·rw[Jh,Jv,JU];omega
theorem je.isSome_eq{o:Option V}{u:Option IV}(r:je o u):o.isSome=u.isSome:=by
 cases o with
 | none=>cases u with
  | none=>rfl
  | some _=>exact (show False from r).elim
 | some _=>cases u with
  | none=>exact (show False from r).elim
  | some _=>rfl
theorem je.getD{o:Option V}{u:Option IV}{d:V}{d':IV}(r:je o u)(rd:aF d d'):aF (o.getD d) (u.getD d'):=by
 cases o with
 | none=>cases u with
  | none=>exact rd
  | some _=>exact (show False from r).elim
 | some _=>cases u with
  | none=>exact (show False from r).elim
  | some _=>exact r
theorem KV.val{kvs:List (κ×V)}{vs:List (κ×IV)}(r:KV kvs vs)(k:κ):je (jX kvs k) (Ng vs k):=by
 unfold KV at r
 induction r with
 | nil=>exact True.intro
 | @cons p q ps qs h t ih=>
  obtain⟨h1,h2⟩:=h
  by_cases e:p.1=k
  ·have e':q.1=k:=h1.symm.trans e;have b:Ng (q::qs) k=some q.2:=by simp[Ng,JT,e']
   rw[kE e,b];exact h2
  ·have e':¬ q.1=k:=fun z=>e (h1.trans z);have b:Ng (q::qs) k=Ng qs k:=by simp[Ng,JT,e']
   rw[kF e,b];exact ih
theorem KV.any{kvs:List (κ×V)}{vs:List (κ×IV)}(r:KV kvs vs)(k:κ):(kvs.any fun kv=>decide (kv.1=k))=vs.any fun kv=>decide (kv.1=k):=by
 unfold KV at r
 induction r with
 | nil=>rfl
 | cons h t ih=>rw[MA,MA,ih,h.1]
theorem KV.repl{kvs:List (κ×V)}{vs:List (κ×IV)}(r:KV kvs vs)(k:κ){y:V}{u:IV}(ry:aF y u):
  KV (kvs.map fun kv=>if kv.1=k then (kv.1,y)else kv) (vs.map fun kv=>if kv.1=k then (kv.1,u)else kv):=by
 unfold KV at r ⊢
 induction r with
 | nil=>exact .nil
 | @cons p q ps qs h t ih=>
  rw[Jz,Jz];refine .cons ?_ ih;obtain⟨h1,h2⟩:=h
  by_cases e:p.1=k
  ·rw[if_pos e,if_pos (h1.symm.trans e)];exact⟨h1,ry⟩
  ·rw[if_neg e,if_neg (fun z=>e (h1.trans z))];exact⟨h1,h2⟩
theorem KV.put{kvs:List (κ×V)}{vs:List (κ×IV)}(r:KV kvs vs)(k:κ){y:V}{u:IV}(ry:aF y u):KV (kS kvs k y) (stored vs k u):=by
 unfold kS stored;rw[r.any k]
 by_cases e:(vs.any fun kv=>decide (kv.1=k))=true
 ·rw[if_pos e,if_pos e];exact r.repl k ry
 ·rw[if_neg e,if_neg e];exact NB r ⟨rfl,ry⟩
theorem KV.length{kvs:List (κ×V)}{vs:List (κ×IV)}(r:KV kvs vs):kvs.length=vs.length:=L5 r
end
theorem qC{P:Jw}{w:JG}{k:aQ}{u:IV}(r:aF (kV k) u):(bn P w).is k u=true:=by
 cases k with
 | inl i=>obtain⟨t,e⟩:=(show ∃ t,u=Value.int i t from r);subst e;exact um P w i t
 | inr x=>obtain⟨t,e⟩:=(show ∃ t,u=Value.str x t from r);subst e;exact ul P w x t
theorem mD{P:Jw}{w:JG}:∀ {ks:List aQ} {us:List IV},Vals (ks.map kV) us->ItemsAre (bn P w) ks us
 | [],_,r=>by rw[Nj]at r;cases r;exact .nil
 | k::ks,_,r=>by
  rw[Jz]at r;cases r with
  | cons h t=>exact .cons (qC h) (mD t)
abbrev KT(H:Hp):List (List aQ×V)->List (List aQ×IW×IV)->Prop:=Mw fun p q=>p.1=q.1/\H q.2.1=some (.tup (p.1.map kV))/\aF p.2 q.2.2
theorem KT.val{H:Hp}{kvs:List (List aQ×V)}{xs:List (List aQ×IW×IV)}(r:KT H kvs xs)(k:List aQ):je (jX kvs k) ((L8 xs k).map (·.2)):=by
 induction r with
 | nil=>exact True.intro
 | @cons p q ps qs h t ih=>
  obtain⟨h1,_,h2⟩:=h
  by_cases e:p.1=k
  ·have e':q.1=k:=h1.symm.trans e;have b:L8 (q::qs) k=some q.2:=by simp[L8,JT,e']
   rw[kE e,b];exact h2
  ·have e':¬ q.1=k:=fun z=>e (h1.trans z);have b:L8 (q::qs) k=L8 qs k:=by simp[L8,JT,e']
   rw[kF e,b];exact ih
theorem KT.repl{H:Hp}{kvs:List (List aQ×V)}{xs:List (List aQ×IW×IV)}(r:KT H kvs xs)(k:List aQ){y:V}{u:IV}(ry:aF y u):
  KT H (kvs.map fun kv=>if kv.1=k then (kv.1,y)else kv) (xs.map (putAt k u)):=by
 induction r with
 | nil=>exact .nil
 | @cons p q ps qs h t ih=>
  rw[Jz,Jz];refine .cons ?_ ih;obtain⟨h1,h2,h3⟩:=h;unfold putAt
  by_cases e:p.1=k
  ·rw[if_pos e,if_pos (h1.symm.trans e)];exact⟨h1,h2,ry⟩
  ·rw[if_neg e,if_neg (fun z=>e (h1.trans z))];exact⟨h1,h2,h3⟩
theorem KT.put{H:Hp}{kvs:List (List aQ×V)}{xs:List (List aQ×IW×IV)}(r:KT H kvs xs)(k:List aQ){b:IW}{y:V}{u:IV}(hb:H b=some (.tup (k.map kV)))(ry:aF y u):
  KT H (kS kvs k y) (MV xs k b u):=by
 have e:(kvs.any fun kv=>decide (kv.1=k))=(L8 xs k).isSome:=by
  rw[nJ,(r.val k).isSome_eq,Option.isSome_map]
 unfold kS MV;rw[e]
 by_cases q:(L8 xs k).isSome=true
 ·rw[if_pos q,if_pos q];exact r.repl k ry
 ·rw[if_neg q,if_neg q];exact NB r ⟨rfl,hb,ry⟩
theorem KT.keeps{H H':Hp}{kvs:List (List aQ×V)}{xs:List (List aQ×IW×IV)}(r:KT H kvs xs)(ht:∀ b ys,H b=some (.tup ys)->H' b=some (.tup ys)):KT H' kvs xs:=
 Paired.mapP r fun _ _ z=>⟨z.1,ht _ _ z.2.1,z.2.2⟩
section
variable{P:Jw}{w:JG}{H:Hp}{h:JI}{a:IW}
theorem C9{u:HO}(ok:kA P w H h)(e:Rd H a u):bZ P w H h a u:=e.ok ok
theorem qI{kvs:List (aQ×V)}(ok:kA P w H h)(e:Rd H a (.dK kvs)):kvs.length<=Jg/\(a == J8)=false/\∃ vs,KV kvs vs/\h.DictOf (bn P w) a vs:=
 show bZ P w H h a (.dK kvs)from C9 ok e
theorem Gx{kvs:List (aQ×V)}(ok:kA P w H h)(e:H a=some (.dK kvs)):kvs.length<=Jg/\(a == J8)=false/\∃ vs,KV kvs vs/\h.DictOf (bn P w) a vs:=qI ok (.inl e)
theorem mC{ks:List aQ}(ok:kA P w H h)(e:H a=some (.tup (ks.map kV))):(Ks (bn P w)).is h ks a:=by
 obtain⟨_,its,r,o,h1,h2,n,h3⟩:=(show bZ P w H h a (.tup (ks.map kV))from ok a _ e)
 exact⟨o,its.toArray,n,h1,h2.1,h3,by simpa using mD r⟩
theorem qH{kvs:List (List aQ×V)}(ok:kA P w H h)(e:Rd H a (.dT kvs)):kvs.length<=Jg/\(a == J8)=false/\
  ∃ xs,KT H kvs xs/\h.DictOfH (Ks (bn P w)) a xs:=by
 obtain⟨z,y,xs,r,o,es,ep,h1,h2,h3,h4,h5⟩:=(show bZ P w H h a (.dT kvs)from C9 ok e)
 refine⟨z,y,xs,r,o,es,ep,h1,h2,h3,h4,fun x hx=>?_,h5⟩;have all:∀ {l:List (List aQ×V)} {m:List (List aQ×IW×IV)},KT H l m->∀ x∈m,(Ks (bn P w)).is h x.1 x.2.1:=by
  intro l m q
  induction q with
  | nil=>intro x hx;exact nomatch hx
  | @cons p q ps qs hq t ih=>
   intro x hx;rcases Kg.mp hx with e|hx
   ·subst e;exact mC ok (by rw[<- hq.1];exact hq.2.1)
   ·exact ih x hx
 exact all r x hx
theorem Gw{kvs:List (List aQ×V)}(ok:kA P w H h)(e:H a=some (.dT kvs)):kvs.length<=Jg/\(a == J8)=false/\
  ∃ xs,KT H kvs xs/\h.DictOfH (Ks (bn P w)) a xs:=qH ok (.inl e)
end
def tf(H:Hp)(a:IW)(y:V)(r:Option V):Prop:=
 (∃ kvs k,Rd H a (.dK kvs)/\y=kV k/\r=jX kvs k)\/∃ kvs k b,Rd H a (.dT kvs)/\y=.ref b/\H b=some (.tup (k.map kV))/\r=jX kvs k
def CT(H:Hp)(a:IW)(y v:V)(H':Hp):Prop:=
 (∃ kvs k,H a=some (.dK kvs)/\y=kV k/\kvs.length < Jg/\H'=bG H a (.dK (kS kvs k v)))\/
 ∃ kvs k b,H a=some (.dT kvs)/\y=.ref b/\H b=some (.tup (k.map kV))/\kvs.length < Jg/\H'=bG H a (.dT (kS kvs k v))
theorem tf.k{H:Hp}{a:IW}{kvs:List (aQ×V)}{k:aQ}(e:H a=some (.dK kvs)):tf H a (kV k) (jX kvs k):=.inl ⟨kvs,k,.inl e,rfl,rfl⟩
theorem CT.k{H:Hp}{a:IW}{kvs:List (aQ×V)}{k:aQ}{v:V}(e:H a=some (.dK kvs))(hl:kvs.length < Jg):CT H a (kV k) v (bG H a (.dK (kS kvs k v))):=.inl ⟨kvs,k,e,rfl,hl,rfl⟩
section
variable{X:Cx}{pins:List (IW×Obj)}{σ:St}{H:Hp}{s:IX}{a:IW}{y v:V}{u r:IV}{o:Option V}{A:Jy}{E:IV->IX->Prop}
theorem Inv.big(I:Inv X pins σ H s):J8 < s.heap.objs.size:=by
 have h:Jr < s.heap.objs.size:=(I.mod.glob.keeps I.bk).lt;exact Nat.lt_trans (by decide) h
theorem yo{Q:IV->IX->Prop}(hu:A.units+1 < JY)(I:Inv X pins σ H s)(g:tf H a y (some v))(ry:aF y u)(h:∀ w' s',Inv X pins σ H s'->aF v w'->Q w' s'):
  Jc (Jf X.prog X.w) A (ME (.ref a) u) Q E s:=by
 rcases g with ⟨kvs,k,e,ey,l⟩|⟨kvs,k,b,e,ey,eb,l⟩
 ·subst ey;obtain⟨z,hd,vs,rel,dd⟩:=qI I.hok e;obtain⟨w',hw,rw'⟩:=je.some_of (v:=v) (o:=Ng vs k) (by rw[l];exact rel.val k)
  exact wpAny_getItem_of (qC ry) dd.mapOf hw (h w' _ (I.tok _) rw')
 ·subst ey;cases (show u=Value.ref b from ry)
  obtain⟨z,hd,xs,rel,dd⟩:=qH I.hok e;obtain⟨w',hw,rw'⟩:=je.some_of (v:=v) (o:=(L8 xs k).map (·.2)) (by rw[l];exact rel.val k)
  obtain⟨p,hp,hp2⟩:=Option.map_eq_some_iff.mp hw;refine Ox (J7 hu) (mC I.hok eb) dd hp ?_;rw[hp2];exact h w' _ (I.tok _) rw'
theorem HX{Q:IV->IX->Prop}(hu:A.units+1 < JY)(I:Inv X pins σ H s)(g:tf H a y o)(ry:aF y u)(h:∀ s',Inv X pins σ H s'->Q (.bool o.isSome) s'):
  Jc (Jf X.prog X.w) A (J_ .In u (.ref a)) Q E s:=by
 rcases g with ⟨kvs,k,e,ey,l⟩|⟨kvs,k,b,e,ey,eb,l⟩
 ·subst ey;obtain⟨z,hd,vs,rel,dd⟩:=qI I.hok e;refine wpAny_in_of (qC ry) hd dd.mapOf ?_;rw[<- (rel.val k).isSome_eq,<- l];exact h _ (I.tok _)
 ·subst ey;cases (show u=Value.ref b from ry)
  obtain⟨z,hd,xs,rel,dd⟩:=qH I.hok e;refine wpAny_in_heap (J7 hu) (mC I.hok eb) hd dd ?_;have q:=(rel.val k).isSome_eq;rw[Option.isSome_map]at q;rw[<- q,<- l];exact h _ (I.tok _)
theorem CC{Q:IV->IX->Prop}(hu:A.units+1 < JY)(I:Inv X pins σ H s)(g:tf H a y o)(ry:aF y u)(h:∀ s',Inv X pins σ H s'->Q (.bool (!o.isSome)) s'):
  Jc (Jf X.prog X.w) A (J_ .NotIn u (.ref a)) Q E s:=by
 rcases g with ⟨kvs,k,e,ey,l⟩|⟨kvs,k,b,e,ey,eb,l⟩
 ·subst ey;obtain⟨z,hd,vs,rel,dd⟩:=qI I.hok e;refine wpAny_notIn_of (qC ry) hd dd.mapOf ?_;rw[<- (rel.val k).isSome_eq,<- l];exact h _ (I.tok _)
 ·subst ey;cases (show u=Value.ref b from ry)
  obtain⟨z,hd,xs,rel,dd⟩:=qH I.hok e;refine wpAny_notIn_heap (J7 hu) (mC I.hok eb) hd dd ?_;have q:=(rel.val k).isSome_eq;rw[Option.isSome_map]at q;rw[<- q,<- l];exact h _ (I.tok _)
theorem lN{h':JI}{t':Nat}{ob:HO}(I:Inv X pins σ H s)(mu:yA (H a))(hs:KO a s.heap h')(he:∃ q,h'.get? a=some q)(new:bZ X.prog X.w (bG H a ob) h' a ob):
  Inv X pins σ (bG H a ob) { s with heap:=h',toks:=t' }:=
 I.write (x:=a) (e:=a) mu (.inl rfl) (fun b q hb z=>(hs.2 b hb).trans z) he new
theorem E2{P:Jw}{w:JG}{H':Hp}{h':JI}{kvs:List (aQ×V)}{vs:List (aQ×IV)}(z:kvs.length<=Jg)(hd:(a == J8)=false)(rel:KV kvs vs)(dd:h'.DictOf (bn P w) a vs):
  bZ P w H' h' a (.dK kvs):=⟨z,hd,vs,rel,dd⟩
theorem yn{H':Hp}{Q:Unit->IX->Prop}(hu:A.units+1 < JY)(I:Inv X pins σ H s)(g:CT H a y v H')(ry:aF y u)(rv:aF v r)(h:∀ s',Inv X pins σ H' s'->Q () s'):
  Jc (Jf X.prog X.w) A (OR (.ref a) u r) Q E s:=by
 rcases g with ⟨kvs,k,e,ey,l,eH⟩|⟨kvs,k,b,e,ey,eb,l,eH⟩
 ·subst ey eH;obtain⟨z,hd,vs,rel,dd⟩:=Gx I.hok e;have hz:vs.length<=Jg:=by rw[<- rel.length];exact z
  have hl:(kS kvs k v).length<=Jg:=by have:=mU kvs k v;omega
  refine wpAny_setItem_pairs (hsz:=hz) (qC ry) dd fun h' dd' hs=>h _ ?_;have he:∃ q,h'.get? a=some q:=let ⟨q,_,_,hq,_⟩:=dd';⟨q,hq⟩;exact lN I (by rw[e];exact True.intro) hs he (E2 hl hd (rel.put k rv) dd')
 ·subst ey eH;cases (show u=Value.ref b from ry)
  obtain⟨z,hd,xs,rel,dd⟩:=Gw I.hok e;have hz:xs.length<=Jg:=by rw[<- L5 rel];exact z
  have hl:(kS kvs k v).length<=Jg:=by have:=mU kvs k v;omega
  refine Ow (hsz:=hz) (J7 hu) (mC I.hok eb) dd fun h' dd' hs=>h _ ?_;obtain⟨q,es,ep,hq,h2,h3,h4,_,h5⟩:=dd';refine lN I (by rw[e];exact True.intro) hs ⟨q,hq⟩ ⟨hl,hd,_,(rel.put k eb rv).keeps fun c ys ec=>?_,q,es,ep,hq,h2,h3,h4,h5⟩
  rw[ax (Gf ec e (fun z=>nomatch z))];exact ec
end
def GZ(i:JJ):Prop:=∀ ov iv,Nw i false ov iv=operate [ov,iv] (ME ov iv)
theorem Bk{prog:Jw}{w:JG}{A:Jy}{E:IV->IX->Prop}{s:IX}{env:Env}{value slice:JJ}{pos:Pos}{T id:String}{Q:IV->IX->Prop}
  (hl:Na (.type T) "__getitem__"=pure (some (.builtin id))) (hs:GZ slice)
  (h:Jc (Jf prog w) A (eval value env) (fun o s₁=>Jc (Jf prog w) A (eval slice env) (fun i s₂=>s₂.TypeIs o T/\Jc (Jf prog w) A (ME o i) Q E s₂) E s₁) E s):
  Jc (Jf prog w) A (eval (.Subscript value slice pos) env) Q E s:=by
 refine NL (Ka h (fun o s₁ h₁=>Ka h₁ (fun i s₂ h₂=>?_) fun _ _ x=>x) fun _ _ x=>x);obtain⟨hT,h₂⟩:=h₂;unfold M9;refine IU ?_;rw[getitemInPython_of_ne hT.not_modules];refine IU (wpAny_specialOf hT hl ?_);have fin:Jc (Jf prog w) A (Nw slice false o i) (fun r s₃=>Jc (Jf prog w) A (letTemporaryGo value o r >>= fun _=>pure r) Q E s₃) E s₂:=by
  rw[hs o i];exact wpAny_operating (Ka h₂ (fun r s₃ h₃=>IU (wpAny_letTemporaryGo (IY h₃))) fun _ _ x=>x)
 first
  | exact IY (IU fin)
  | exact IU (IY (IU fin))
  | exact IU fin
theorem AQ{P:Jw}{w:JG}{H:Hp}(h:JI)(hb:J8 < h.objs.size):bZ P w H (h.push { cls:=.type "dict",data:=.dict #[] }) h.objs.size (.dK []):=
 ⟨JQ _,beq_eq_false_iff_ne.mpr (Ne.symm (JP hb)),[],.nil,Heap.DictOf.new h⟩
def DJ:TE:=fun _ H Q=>∀ p,H p=none->Q (.ref p) (bG H p (.dK []))
section
variable{X:Cx}{pos:Pos}
theorem zR:PE X (.Dict [] [] pos) DJ:=fun pins s σ H Q I h=>
 wpAny_Dict_empty ⟨.ref s.heap.objs.size,_,I.laid (a:=s.heap.objs.size) (o:=.dK []) (t':=s.toks) (fun _ _ q=>Ja _ q) (le_refl _) (AQ s.heap I.big),rfl,h _ (I.hok.fresh (le_refl _))⟩
end
structure M2(X:Cx)(o:JJ)(m:Str)(apos:Pos)(e f:JJ)(cpos:Pos):Prop where
 base:K9 o m X.env (eval o X.env)=eval o X.env
 few:((K3 cpos (Jx [e,f] X.env)).all (fun x=>!x.1) && (Nl cpos (Mv [] X.env)).all (fun x=>x.1.isSome)
  && decide (([e,f]:List JJ).length+([]:List M4).length+(if ([]:List M4).isEmpty then 0 else 1) < 30))=true
 line:(apos.endLine == cpos.line)=true
 trees:K3 cpos (Jx [e,f] X.env)=[(false,eval e X.env),(false,eval f X.env)]
def IR(H:Hp)(a:IW):Prop:=(∃ kvs,Rd H a (.dK kvs))\/∃ kvs,Rd H a (.dT kvs)
theorem ES{X:Cx}{pins:List (IW×Obj)}{σ:St}{H:Hp}{s:IX}{a:IW}(I:Inv X pins σ H s)(d:IR H a):
  s.TypeIs (.ref a) "dict"/\(∀ b,Value.ref a=.ref b->∃ ob,s.heap.get? b=some ob/\ob.dict=none)/\(a == J8)=false:=by
 rcases d with ⟨kvs,e⟩|⟨kvs,e⟩
 ·obtain⟨_,hd,vs,_,dd⟩:=qI I.hok e;refine⟨dd.typeIs,fun b q=>?_,hd⟩;cases q;obtain⟨ob,_,_,h1,h2,_⟩:=dd;exact⟨ob,h1,h2.2.1⟩
 ·obtain⟨_,hd,xs,_,dd⟩:=qH I.hok e;refine⟨dd.typeIs,fun b q=>?_,hd⟩;cases q;obtain⟨ob,_,_,h1,h2,_⟩:=dd;exact⟨ob,h1,h2.2.1⟩
section
variable{X:Cx}{pins:List (IW×Obj)}{σ:St}{H:Hp}{s:IX}{a:IW}{y d:V}{u r:IV}{o:Option V}{A:Jy}{E:IV->IX->Prop}
theorem E4{Q:IV->IX->Prop}(hu:A.units+1 < JY)(I:Inv X pins σ H s)(g:tf H a y o)(ry:aF y u)(rd:aF d r)(h:∀ w' s',Inv X pins σ H s'->aF (o.getD d) w'->Q w' s'):
  Jc (Jf X.prog X.w) A (call (.builtin "dict.get") [.ref a,u,r]) Q E s:=by
 rcases g with ⟨kvs,k,e,ey,l⟩|⟨kvs,k,b,e,ey,eb,l⟩
 ·subst ey;obtain⟨z,hd,vs,rel,dd⟩:=qI I.hok e;refine Mc PySem.F.slot_dict_get dd.typeIs PySem.F.entry_dict_get (PySem.F.args_dict_get_3 _ _ _) (meets_dict_get_default (bn X.prog X.w) a (qC ry) hd r) ⟨_,dd.mapOf,h _ _ (I.tok _) ?_⟩;rw[l];exact (rel.val k).getD rd
 ·subst ey;cases (show u=Value.ref b from ry)
  obtain⟨z,hd,xs,rel,dd⟩:=qH I.hok e;refine Mc PySem.F.slot_dict_get dd.typeIs PySem.F.entry_dict_get (PySem.F.args_dict_get_3 _ _ _) (NV (Ks (bn X.prog X.w)) a b hd r) ⟨J7 hu,k,xs,mC I.hok eb,dd,h _ _ (I.tok _) ?_⟩;rw[l];exact (rel.val k).getD rd
end
end L2
namespace L3
open PySem PySem.Spec PyProof.Rows L2
abbrev St:=L2.St
inductive D where
 | non|bl (b:Bool)|int (i:Int)|str (x:Str)|tup (ds:List D)|lst (ds:List D)|fl (ds:List D)|ref (a:IW)|ty (n:String)
inductive GO where
 | lst (ds:List D)
 | ins (C:IW) (L:List Str) (ds:List D)
 | dK (kvs:List (aQ×D))
 | dT (hw:List aQ->Int) (kvs:List (List aQ×D))
abbrev Gp:=IW->Option GO
def gset(G:Gp)(a:IW)(o:GO):Gp:=fun b=>if b=a then some o else G b
def fP(G:Gp)(a:IW):Gp:=fun b=>if b=a then none else G b
theorem az{G:Gp}{a:IW}{o:GO}:gset G a o a=some o:=by unfold gset;rw[if_pos rfl]
theorem aK{G:Gp}{a b:IW}{o:GO}(h:b≠a):gset G a o b=G b:=by unfold gset;rw[if_neg h]
theorem eE{G:Gp}{a:IW}{o u:GO}:gset (gset G a o) a u=gset G a u:=by
 funext b;unfold gset;split<;>rfl
theorem eF{G:Gp}{a:IW}:fP G a a=none:=by unfold fP;rw[if_pos rfl]
theorem eG{G:Gp}{a b:IW}(h:b≠a):fP G a b=G b:=by unfold fP;rw[if_neg h]
def A_(K:JD)(H:Hp)(a:IW)(xs:List V):Prop:=
 (∃ o,H a=some (.frz o (.lst xs)))\/
  ∃ (o:Obj) (its:Array IV) (n:Nat),K.lookup a=some o/\o.cls=.type "list"/\o.dict=none/\o.data=.seq its n/\its.size<=Jg/\Vals xs its.toList
theorem A_.sq{K:JD}{H:Hp}{a:IW}{xs:List V}(h:A_ K H a xs):jW K H a xs:=by
 rcases h with ⟨o,e⟩|h
 ·exact .inl (.inr ⟨o,e⟩)
 ·exact .inr h
mutual
def RD(K:JD)(H:Hp):D->V->Prop
 | .non,v=>v=.non
 | .bl b,v=>v=.bl b
 | .int i,v=>v=.int i
 | .str x,v=>v=.str x
 | .ref a,v=>v=.ref a
 | .ty n,v=>v=.ty n
 | .fl _,_=>False
 | .tup ds,v=>∃ a xs,v=.ref a/\ja K H a xs/\RDs K H ds xs
 | .lst ds,v=>∃ a xs,v=.ref a/\A_ K H a xs/\RDs K H ds xs
def RDs(K:JD)(H:Hp):List D->List V->Prop
 | [],xs=>xs=[]
 | d::ds,xs=>∃ x r,xs=x::r/\RD K H d x/\RDs K H ds r
end
structure Stb(K:JD)(H H':Hp):Prop where
 t:∀ a xs,ja K H a xs->ja K H' a xs
 l:∀ a xs,A_ K H a xs->A_ K H' a xs
mutual
theorem RD.mono{K:JD}{H H':Hp}(s:Stb K H H'):∀ (d:D) (v:V),RD K H d v->RD K H' d v
 | .non,v,h=>by simp only[RD]at h ⊢;exact h
 | .bl b,v,h=>by simp only[RD]at h ⊢;exact h
 | .int i,v,h=>by simp only[RD]at h ⊢;exact h
 | .str x,v,h=>by simp only[RD]at h ⊢;exact h
 | .ref a,v,h=>by simp only[RD]at h ⊢;exact h
 | .ty n,v,h=>by simp only[RD]at h ⊢;exact h
 | .fl _,v,h=>by simp only[RD]at h
 | .tup ds,v,h=>by
  simp only[RD]at h ⊢;obtain⟨a,xs,e,q,r⟩:=h;exact⟨a,xs,e,s.t _ _ q,RDs.mono s ds xs r⟩
 | .lst ds,v,h=>by
  simp only[RD]at h ⊢;obtain⟨a,xs,e,q,r⟩:=h;exact⟨a,xs,e,s.l _ _ q,RDs.mono s ds xs r⟩
theorem RDs.mono{K:JD}{H H':Hp}(s:Stb K H H'):∀ (ds:List D) (xs:List V),RDs K H ds xs->RDs K H' ds xs
 | [],xs,h=>by simp only[RDs]at h ⊢;exact h
 | d::ds,xs,h=>by
  simp only[RDs]at h ⊢;obtain⟨x,r,e,h1,h2⟩:=h;exact⟨x,r,e,RD.mono s d x h1,RDs.mono s ds r h2⟩
end
section
variable{K:JD}{H:Hp}
theorem RDs.nil:RDs K H [] []:=by simp only[RDs]
theorem RDs.cons{d:D}{x:V}{ds:List D}{xs:List V}(h:RD K H d x)(t:RDs K H ds xs):RDs K H (d::ds) (x::xs):=by
 simp only[RDs];exact⟨x,xs,rfl,h,t⟩
theorem RDs.inv_nil{xs:List V}(h:RDs K H [] xs):xs=[]:=by simpa only[RDs]using h
theorem RDs.inv_cons{d:D}{ds:List D}{xs:List V}(h:RDs K H (d::ds) xs):∃ x r,xs=x::r/\RD K H d x/\RDs K H ds r:=by simpa only[RDs]using h
theorem RDs.length:∀ {ds:List D} {xs:List V},RDs K H ds xs->ds.length=xs.length
 | [],xs,h=>by rw[h.inv_nil];rfl
 | d::ds,xs,h=>by
  obtain⟨x,r,e,_,h2⟩:=h.inv_cons;subst e;simp[RDs.length h2]
theorem RDs.get:∀ {ds:List D} {xs:List V} {i:Nat} {d:D},RDs K H ds xs->ds[i]?=some d->∃ x,xs[i]?=some x/\RD K H d x
 | [],xs,i,d,h,e=>by simp at e
 | c::ds,xs,0,d,h,e=>by
  obtain⟨x,r,e1,h1,h2⟩:=h.inv_cons;subst e1;simp at e;subst e;exact⟨x,rfl,h1⟩
 | c::ds,xs,i+1,d,h,e=>by
  obtain⟨x,r,e1,h1,h2⟩:=h.inv_cons;subst e1;obtain⟨y,q1,q2⟩:=RDs.get (i:=i) (d:=d) h2 (by simpa using e)
  exact⟨y,by simpa using q1,q2⟩
theorem RDs.append:∀ {ds es:List D} {xs ys:List V},RDs K H ds xs->RDs K H es ys->RDs K H (ds ++ es) (xs ++ ys)
 | [],es,xs,ys,h,h'=>by rw[h.inv_nil];exact h'
 | d::ds,es,xs,ys,h,h'=>by
  obtain⟨x,r,e,h1,h2⟩:=h.inv_cons;subst e;exact RDs.cons h1 (RDs.append h2 h')
theorem RDs.take:∀ {ds:List D} {xs:List V} (n:Nat),RDs K H ds xs->RDs K H (ds.take n) (xs.take n)
 | _,_,0,_=>by simp only[MU];exact RDs.nil
 | [],xs,n+1,h=>by rw[h.inv_nil];simp only[List.take_nil];exact RDs.nil
 | d::ds,xs,n+1,h=>by
  obtain⟨x,r,e,h1,h2⟩:=h.inv_cons;subst e;exact RDs.cons h1 (RDs.take n h2)
theorem RDs.drop:∀ {ds:List D} {xs:List V} (n:Nat),RDs K H ds xs->RDs K H (ds.drop n) (xs.drop n)
 | _,_,0,h=>by simpa only[MZ]using h
 | [],xs,n+1,h=>by rw[h.inv_nil];simp only[List.drop_nil];exact RDs.nil
 | d::ds,xs,n+1,h=>by
  obtain⟨x,r,e,h1,h2⟩:=h.inv_cons;subst e;exact RDs.drop n h2
theorem RDs.set:∀ {ds:List D} {xs:List V} {d:D} {x:V} (n:Nat),RDs K H ds xs->RD K H d x->RDs K H (ds.set n d) (xs.set n x)
 | [],xs,d,x,n,h,_=>by rw[h.inv_nil];simp only[List.set_nil];exact RDs.nil
 | c::ds,xs,d,x,0,h,h'=>by
  obtain⟨y,r,e,h1,h2⟩:=h.inv_cons;subst e;exact RDs.cons h' h2
 | c::ds,xs,d,x,n+1,h,h'=>by
  obtain⟨y,r,e,h1,h2⟩:=h.inv_cons;subst e;exact RDs.cons h1 (RDs.set n h2 h')
theorem RDs.ints:∀ ns:List Int,RDs K H (ns.map D.int) (ns.map V.int)
 | []=>RDs.nil
 | n::r=>RDs.cons (by simp only[RD]) (RDs.ints r)
theorem RDs.strs:∀ ns:List Str,RDs K H (ns.map D.str) (ns.map V.str)
 | []=>RDs.nil
 | n::r=>RDs.cons (by simp only[RD]) (RDs.strs r)
theorem RDs.strs_inv:∀ (ns:List Str) {xs:List V},RDs K H (ns.map D.str) xs->xs=ns.map V.str
 | [],xs,h=>h.inv_nil
 | n::r,xs,h=>by
  obtain⟨x,t,e,h1,h2⟩:=RDs.inv_cons (d:=.str n) (ds:=r.map D.str) h;simp only[RD]at h1;subst e h1;rw[RDs.strs_inv r h2];rfl
end
def qV(hw:List aQ->Int)(a:IW)(xs:List (List aQ×IW×IV)):JI->Prop:=fun h=>(a == J8)=false/\∃ o es ep,h.get? a=some o/\o.ExactDict/\o.data=.dict es ep/\es.toList=xs.map fun x=>(⟨hw x.1,.ref x.2.1,x.2.2⟩:DictEntry)
def jK(K:JD)(H:Hp):List (List aQ×D)->List (List aQ×IW×IV)->Prop:=Mw fun p q=>p.1=q.1/\ja K H q.2.1 (p.1.map kV)/\∃ v,RD K H p.2 v/\aF v q.2.2
def uZ(K:JD)(H:Hp):List (aQ×D)->List (aQ×V)->Prop:=Mw fun p q=>p.1=q.1/\RD K H p.2 q.2
def RO(K:JD)(H:Hp)(a:IW):GO->HO->Prop
 | .lst ds,.lst xs=>RDs K H ds xs
 | .ins C L ds,.ins C' _ gs=>C'=C/\gs.map (·.1)=L/\RDs K H ds (gs.map (·.2))
 | .dK kvs,.dK hs=>uZ K H kvs hs
 | .dT hw kvs,.ext φ=>∃ xs,φ=qV hw a xs/\jK K H kvs xs/\(kvs.map (·.1)).Nodup/\kvs.length<=Jg
 | _,_=>False
def RG(K:JD)(H:Hp)(G:Gp):Prop:=∀ a o,G a=some o->∃ h,H a=some h/\RO K H a o h
def Kp(G:Gp)(H:Hp)(G':Gp)(H':Hp):Prop:=∀ a h,H a=some h->G a=none->H' a=some h/\G' a=none
def Fn(G:Gp)(H:Hp)(p:IW):Prop:=∀ h,H p=some h->G p≠none
section
variable{K:JD}{H H' H1 H2:Hp}{G G' G1 G2:Gp}{p:IW}
theorem jK.mono(s:Stb K H H'){kvs:List (List aQ×D)}{xs:List (List aQ×IW×IV)}(r:jK K H kvs xs):jK K H' kvs xs:=Paired.mapP r fun _ _ zz=>by
 obtain⟨a,b,v,c,d⟩:=zz;exact (
  ⟨a,s.t _ _ b,v,RD.mono s _ _ c,d⟩)
theorem uZ.mono(s:Stb K H H'){kvs:List (aQ×D)}{xs:List (aQ×V)}(r:uZ K H kvs xs):uZ K H' kvs xs:=Paired.mapP r fun _ _ zz=>by
 obtain⟨a,b⟩:=zz;exact (
  ⟨a,RD.mono s _ _ b⟩)
theorem RO.mono(s:Stb K H H'){a:IW}{o:GO}{h:HO}(r:RO K H a o h):RO K H' a o h:=by
 cases o<;>cases h<;>first
  | exact r.elim
  | exact RDs.mono s _ _ r
  | exact⟨r.1,r.2.1,RDs.mono s _ _ r.2.2⟩
  | exact uZ.mono s r
  | (obtain⟨xs,e,q,n⟩:=r;exact⟨xs,e,q.mono s,n⟩)
theorem RG.none_of(rg:RG K H G){a:IW}{h:HO}(e:H a=some h)(n:∀ o,¬ RO K H a o h):G a=none:=by
 cases q:G a with
 | none=>rfl
 | some o=>
  obtain⟨h',e',r⟩:=rg a o q;rw[e]at e';cases e';exact absurd r (n o)
theorem RG.free(rg:RG K H G)(e:H p=none):G p=none:=by
 cases q:G p with
 | none=>rfl
 | some o=>
  obtain⟨h',e',r⟩:=rg p o q;rw[e]at e';cases e'
theorem Ex{a:IW}(o:GO)(xs:List V):¬ RO K H a o (.tup xs):=by cases o<;>exact id
theorem zY{a:IW}(o:GO)(ob:Obj)(u:HO):¬ RO K H a o (.frz ob u):=by cases o<;>exact id
theorem Kp.refl:Kp G H G H:=fun _ _ e n=>⟨e,n⟩
theorem Kp.trans(a:Kp G H G1 H1)(b:Kp G1 H1 G2 H2):Kp G H G2 H2:=fun x h e n=>b x h (a x h e n).1 (a x h e n).2
theorem Kp.stb(k:Kp G H G' H')(rg:RG K H G):Stb K H H' where
 t:=fun a xs q=>by
  rcases q with (q|⟨o,q⟩)|q
  ·exact .inl (.inl (k a _ q (rg.none_of q fun o=>Ex o xs)).1)
  ·exact .inl (.inr ⟨o,(k a _ q (rg.none_of q fun o'=>zY o' o _)).1⟩)
  ·exact .inr q
 l:=fun a xs q=>by
  rcases q with ⟨o,q⟩|q
  ·exact .inl ⟨o,(k a _ q (rg.none_of q fun o'=>zY o' o _)).1⟩
  ·exact .inr q
theorem Kp.fr(k:Kp G H G1 H1)(f:Fn G1 H1 p):Fn G H p:=fun h e n=>f h (k p h e n).1 (k p h e n).2
theorem jE(e:H p=none):Fn G H p:=fun h q=>by rw[e]at q;cases q
theorem Kp.laid{o:HO}(e:H p=none):Kp G H G (bG H p o):=fun a h q n=>⟨by rw[ax (b6 q e)];exact q,n⟩
theorem RG.laid{o:HO}(rg:RG K H G)(e:H p=none):RG K (bG H p o) G:=fun a o' q=>by
 obtain⟨h,e1,r⟩:=rg a o' q;exact⟨h,by rw[ax (b6 e1 e)];exact e1,r.mono ((Kp.laid (G:=G) e).stb rg)⟩
end
abbrev gy:=List (Option D)
def yI(K:JD)(H:Hp):Option D->Option V->Prop
 | some d,some v=>RD K H d v
 | none,_=>True
 | some _,none=>False
def RS(K:JD)(H:Hp)(σ:gy)(τ:St):Prop:=Mw (yI K H) σ τ
section
variable{K:JD}{H H':Hp}
theorem yI.mono(s:Stb K H H'):∀ {a:Option D} {b:Option V},yI K H a b->yI K H' a b
 | some d,some v,r=>RD.mono s d v r
 | none,_,_=>trivial
 | some _,none,r=>r.elim
theorem RS.mono(s:Stb K H H'){σ:gy}{τ:St}(r:RS K H σ τ):RS K H' σ τ:=Paired.mapP r fun _ _ q=>q.mono s
theorem RS.get:∀ {σ:gy} {τ:St} {i:Nat} {d:D},RS K H σ τ->σ[i]?=some (some d)->∃ v,τ[i]?=some (some v)/\RD K H d v
 | _,_,_,_,.nil,e=>by simp at e
 | _,_,0,d,.cons (b:=b) r _,e=>by
  simp at e;subst e;cases b with
  | none=>exact r.elim
  | some v=>exact⟨v,rfl,r⟩
 | _,_,i+1,d,.cons _ t,e=>by
  obtain⟨v,h1,h2⟩:=RS.get (i:=i) (d:=d) t (by simpa using e)
  exact⟨v,by simpa using h1,h2⟩
theorem RS.set{d:D}{v:V}(r:RD K H d v):∀ {σ:gy} {τ:St} (i:Nat),RS K H σ τ->RS K H (σ.set i (some d)) (τ.set i (some v))
 | _,_,_,.nil=>.nil
 | _,_,0,.cons _ t=>.cons (show yI K H (some d) (some v)from r) t
 | _,_,i+1,.cons q t=>.cons q (RS.set r i t)
end
def RE(K:JD)(G:Gp)(H:Hp)(G':Gp)(H':Hp)(d:D)(v:V):Prop:=
 (∃ ds p xs,d=.fl ds/\v=.ref p/\H' p=some (.lst xs)/\G' p=none/\RDs K H' ds xs/\Fn G H p)\/RD K H' d v
section
variable{K:JD}{H H' H1 H2:Hp}{G G' G1 G2:Gp}{d:D}{v:V}
theorem RE.of(r:RD K H' d v):RE K G H G' H' d v:=.inr r
theorem RE.wait(r:RE K G H G1 H1 d v)(k:Kp G1 H1 G2 H2)(rg:RG K H1 G1):RE K G H G2 H2 d v:=by
 rcases r with ⟨ds,p,xs,e1,e2,e3,e4,e5,e6⟩|r
 ·exact .inl ⟨ds,p,xs,e1,e2,(k p _ e3 e4).1,(k p _ e3 e4).2,RDs.mono (k.stb rg) _ _ e5,e6⟩
 ·exact .inr (RD.mono (k.stb rg) _ _ r)
theorem RE.base(r:RE K G1 H1 G2 H2 d v)(k:Kp G H G1 H1):RE K G H G2 H2 d v:=by
 rcases r with ⟨ds,p,xs,e1,e2,e3,e4,e5,e6⟩|r
 ·exact .inl ⟨ds,p,xs,e1,e2,e3,e4,e5,k.fr e6⟩
 ·exact .inr r
theorem RE.rd(r:RE K G H G' H' d v)(h:∀ ds,d≠.fl ds):RD K H' d v:=by
 rcases r with ⟨ds,p,xs,e1,_⟩|r
 ·exact absurd e1 (h ds)
 ·exact r
theorem RE.int{i:Int}(r:RE K G H G' H' (.int i) v):v=.int i:=by
 have:=r.rd (by intro ds h;cases h);simpa only[RD]using this
theorem RE.str{i:Str}(r:RE K G H G' H' (.str i) v):v=.str i:=by
 have:=r.rd (by intro ds h;cases h);simpa only[RD]using this
theorem RE.bl{i:Bool}(r:RE K G H G' H' (.bl i) v):v=.bl i:=by
 have:=r.rd (by intro ds h;cases h);simpa only[RD]using this
theorem RE.non(r:RE K G H G' H' .non v):v=.non:=by
 have:=r.rd (by intro ds h;cases h);simpa only[RD]using this
theorem RE.ref{a:IW}(r:RE K G H G' H' (.ref a) v):v=.ref a:=by
 have:=r.rd (by intro ds h;cases h);simpa only[RD]using this
theorem RE.tup{ds:List D}(r:RE K G H G' H' (.tup ds) v):∃ a xs,v=.ref a/\ja K H' a xs/\RDs K H' ds xs:=by
 have:=r.rd (by intro ds h;cases h);simpa only[RD]using this
theorem RE.lst{ds:List D}(r:RE K G H G' H' (.lst ds) v):∃ a xs,v=.ref a/\A_ K H' a xs/\RDs K H' ds xs:=by
 have:=r.rd (by intro ds h;cases h);simpa only[RD]using this
theorem RE.fl{ds:List D}(r:RE K G H G' H' (.fl ds) v):∃ p xs,v=.ref p/\H' p=some (.lst xs)/\G' p=none/\RDs K H' ds xs/\Fn G H p:=by
 rcases r with ⟨ds',p,xs,e1,e2,e3,e4,e5,e6⟩|r
 ·cases e1;exact⟨p,xs,e2,e3,e4,e5,e6⟩
 ·simp only[RD]at r
theorem eY{i:Int}:RD K H (.int i) (.int i):=by simp only[RD]
theorem ir{i:Str}:RD K H (.str i) (.str i):=by simp only[RD]
theorem gC{i:Bool}:RD K H (.bl i) (.bl i):=by simp only[RD]
theorem vE:RD K H .non .non:=by simp only[RD]
theorem iX{a:IW}:RD K H (.ref a) (.ref a):=by simp only[RD]
theorem md{ds:List D}{xs:List V}{a:IW}(h:ja K H a xs)(r:RDs K H ds xs):RD K H (.tup ds) (.ref a):=by
 simp only[RD];exact⟨a,xs,rfl,h,r⟩
theorem nZ{ds:List D}{xs:List V}{a:IW}(h:A_ K H a xs)(r:RDs K H ds xs):RD K H (.lst ds) (.ref a):=by
 simp only[RD];exact⟨a,xs,rfl,h,r⟩
end
def qR(G:Gp):D->Option (List D)
 | .lst ds=>some ds
 | .fl ds=>some ds
 | .ref a=>match G a with
  | some (.lst ds)=>some ds
  | _=>none
 | _=>none
def yH(G:Gp):D->Option (List D)
 | .tup ds=>some ds
 | d=>qR G d
section
variable{K:JD}{H H':Hp}{G G':Gp}{d:D}{v:V}{ds:List D}
theorem iC(h:qR G' d=some ds)(r:RE K G H G' H' d v)(rg:RG K H' G'):∃ a xs,v=.ref a/\jW K H' a xs/\RDs K H' ds xs:=by
 cases d with
 | lst es=>
  obtain⟨a,xs,e,f,q⟩:=r.lst;simp only[qR,Option.some.injEq]at h;subst h;exact⟨a,xs,e,f.sq,q⟩
 | fl es=>
  obtain⟨a,xs,e,f,_,q,_⟩:=r.fl;simp only[qR,Option.some.injEq]at h;subst h;exact⟨a,xs,e,jW.of f,q⟩
 | ref a=>
  have e:=r.ref;simp only[qR]at h;cases q:G' a with
  | none=>rw[q]at h;cases h
  | some o=>
   rw[q]at h;cases o with
   | ins _ _ _=>cases h
   | dK _=>cases h
   | dT _ _=>cases h
   | lst es=>
    simp only[Option.some.injEq]at h;subst h;obtain⟨ho,e1,e2⟩:=rg a _ q;cases ho with
    | lst xs=>exact⟨a,xs,e,jW.of e1,e2⟩
    | _=>exact e2.elim
 | _=>simp[qR]at h
theorem mJ(h:yH G' d=some ds)(r:RE K G H G' H' d v)(rg:RG K H' G'):∃ a xs,v=.ref a/\(jW K H' a xs\/ja K H' a xs)/\RDs K H' ds xs:=by
 cases d with
 | tup es=>
  obtain⟨a,xs,e,f,q⟩:=r.tup;simp only[yH,Option.some.injEq]at h;subst h;exact⟨a,xs,e,.inr f,q⟩
 | _=>
  obtain⟨a,xs,e,f,q⟩:=iC (by simpa only[yH]using h) r rg
  exact⟨a,xs,e,.inl f,q⟩
theorem sF{xs:List V}{p:IW}(rg:RG K H G)(e:H p=none)(r:RDs K H ds xs):RE K G H G (bG H p (.lst xs)) (.fl ds) (.ref p):=
 .inl ⟨ds,p,xs,rfl,rfl,aU,rg.free e,RDs.mono ((Kp.laid (G:=G) e).stb rg) _ _ r,jE e⟩
theorem kH{xs:List V}{p:IW}(rg:RG K H G)(e:H p=none)(r:RDs K H ds xs):RD K (bG H p (.tup xs)) (.tup ds) (.ref p):=
 md (ja.of aU) (RDs.mono ((Kp.laid (G:=G) e).stb rg) _ _ r)
end
end L3
namespace L2
open PySem PySem.Spec PyProof.Rows
section
variable{X:Cx}
theorem PE.imp{e:JJ}{t t':TE}(h:PE X e t)(i:∀ σ H Q,t' σ H Q->t σ H Q):PE X e t':=fun pins s σ H Q I q=>h pins s σ H Q I (i σ H Q q)
theorem PT.imp{e:JJ}{t t':TT}(h:PT X e t)(i:∀ σ H Q,t' σ H Q->t σ H Q):PT X e t':=fun pins s σ H Q I q=>h pins s σ H Q I (i σ H Q q)
theorem PW.imp{e:JJ}{t t':TT}(h:PW X e t)(i:∀ σ H Q,t' σ H Q->t σ H Q):PW X e t':=fun wh pins s σ H Q I q=>h wh pins s σ H Q I (i σ H Q q)
theorem PA.imp{es:List JJ}{t t':TA}(h:PA X es t)(i:∀ σ H Q,t' σ H Q->t σ H Q):PA X es t':=fun pos pins s σ H Q I q=>h pos pins s σ H Q I (i σ H Q q)
theorem PS.imp{e:Kt}{t t':TS}(h:PS X e t)(i:∀ D σ H,t' D σ H->t D σ H):PS X e t':=fun pins s σ H D I q=>h pins s σ H D I (i D σ H q)
theorem nz.imp{e:List Kt}{t t':TS}(h:nz X e t)(i:∀ D σ H,t' D σ H->t D σ H):nz X e t':=fun pins s σ H D I q=>h pins s σ H D I (i D σ H q)
theorem iD.imp{f:IV->IV->Sem IV}{r r':R2}(h:iD X f r)(i:∀ x y H Q,r' x y H Q->r x y H Q):iD X f r':=fun pins s σ H x y v u Q I rx ry q=>h pins s σ H x y v u Q I rx ry (i x y H Q q)
theorem eV.imp{f:IV}{r r':List V->Hp->VK->Prop}(h:eV X f r)(i:∀ xs H Q,r' xs H Q->r xs H Q):eV X f r':=fun pins s σ H xs us Q I r q=>h pins s σ H xs us Q I r (i xs H Q q)
theorem yz.imp{r r':V->Option Int->Option Int->Hp->VK->Prop}(h:yz X r)(i:∀ x lo hi H Q,r' x lo hi H Q->r x lo hi H Q):yz X r':=fun pins s σ H x v vl vu lo hi sl Q I rx hs pl pu q=>h pins s σ H x v vl vu lo hi sl Q I rx hs pl pu (i x lo hi H Q q)
theorem yB.imp{r r':R2}(h:yB X r)(i:∀ x y H Q,r' x y H Q->r x y H Q):yB X r':=fun value slice pins s σ H x y v u Q I rx ry q hs=>h value slice pins s σ H x y v u Q I rx ry (i x y H Q q) hs
theorem Inv.freeze{pins:List (IW×Obj)}{σ:St}{H:Hp}{s:IX}{p:IW}{xs:List V}(I:Inv X pins σ H s)(e:H p=some (.lst xs)):∃ o,Inv X pins σ (bG H p (.frz o (.lst xs))) s:=by
 obtain⟨its,n,rv,ho,hz⟩:=I.lst e;have stay:∀ b,H b=none->(bG H p (.frz { cls:=.type "list",data:=.seq its.toArray n } (.lst xs))) b=none:=fun b hb=>by
  rw[ax (fun z=>by subst z;rw[hb]at e;cases e)];exact hb
 refine⟨{ cls:=.type "list",data:=.seq its.toArray n },⟨I.ok,I.os,I.bare,⟨I.base.keep,I.base.slot,fun b o h1 h2 h3=>stay b (I.base.free b o h1 h2 h3),I.base.there,fun b ys q=>?_,fun b o u q=>?_,fun b ps q=>?_⟩,I.loc,I.cell,stay _ I.free,fun x c hc=>stay c (I.freeC x c hc),fun q hq=>?_,fun b u q=>?_,I.len⟩⟩
 ·have q':=I.base.tups b ys q;rw[ax (fun z=>by subst z;rw[e]at q';cases q')];exact q'
 ·have q':=I.base.frzs b o u q;rw[ax (fun z=>by subst z;rw[e]at q';cases q')];exact q'
 ·obtain⟨more,q'⟩:=I.base.tbls b ps q;exact⟨more,by rw[ax (fun z=>by subst z;rw[e]at q';cases q')];exact q'⟩
 ·obtain⟨h1,h2,h3⟩:=I.pin q hq;exact⟨h1,stay _ h2,h3⟩
 ·by_cases hb:b=p
  ·subst hb;rw[aU]at q;cases q;exact⟨ho,hz,its,n,rv,ho⟩
  ·rw[ax hb]at q;refine (I.hok b u q).stay (fun _ _ _ z=>z) (fun c z=>?_) fun c ys z=>?_
   ·rw[ax (fun y=>by subst y;rw[e]at z;cases z)];exact z
   ·rw[ax (fun y=>by subst y;rw[e]at z;cases z)];exact z
def gh(t:TE):TE:=fun σ H Q=>t σ H fun v H1=>Q v H1\/∃ p xs,v=.ref p/\H1 p=some (.lst xs)/\∀ o,Q v (bG H1 p (.frz o (.lst xs)))
theorem FU{e:JJ}{t:TE}(h:PE X e t):PE X e (gh t):=fun pins s σ H Q I q=>
 cm (h pins s σ H _ I q) fun u s' zz=>by
  obtain⟨v,H',I',r,q'⟩:=zz;rcases q' with q'|⟨p,xs,rfl,e,q'⟩
  ·exact⟨v,H',I',r,q'⟩
  ·obtain⟨o,I2⟩:=I'.freeze e;exact⟨.ref p,_,I2,r,q' o⟩
end
end L2
namespace L3
open PySem PySem.Spec PyProof.Rows L2
abbrev pC:=D->Gp->Prop
abbrev bP:=gy->Gp->pC->Prop
abbrev nH:=gy->Gp->(Bool->Gp->Prop)->Prop
abbrev lP:=gy->Gp->(List D->Gp->Prop)->Prop
set_option genInjectivity false in
structure Ends3 where
 nx:gy->Gp->Prop
 rt:pC
 bk:gy->Gp->Prop:=fun _ _=>False
 ct:gy->Gp->Prop:=fun _ _=>False
abbrev d9:=Ends3->gy->Gp->Prop
def qd(K:JD)(G:Gp)(H:Hp)(Q3:pC)(Q:VK):Prop:=∀ d G' v H',Q3 d G'->Kp G H G' H'->RG K H' G'->RE K G H G' H' d v->Q v H'
def aI(K:JD)(t:bP):TE:=fun τ H Q=>∃ σ G Q3,RS K H σ τ/\RG K H G/\t σ G Q3/\qd K G H Q3 Q
def du(K:JD)(t:nH):TT:=fun τ H Q=>∃ σ G Q3,RS K H σ τ/\RG K H G/\t σ G Q3/\∀ b G' H',Q3 b G'->Kp G H G' H'->RG K H' G'->Q b H'
def fA(K:JD)(t:lP):TA:=fun τ H Q=>∃ σ G Q3,RS K H σ τ/\RG K H G/\t σ G Q3/\∀ ds G' vs H',Q3 ds G'->Kp G H G' H'->RG K H' G'->RDs K H' ds vs->Q vs H'
structure EndsOk(K:JD)(G:Gp)(H:Hp)(D3:Ends3)(D:Ends):Prop where
 nx:∀ σ G' τ H',D3.nx σ G'->Kp G H G' H'->RG K H' G'->RS K H' σ τ->D.nx τ H'
 rt:qd K G H D3.rt D.rt
 bk:∀ σ G' τ H',D3.bk σ G'->Kp G H G' H'->RG K H' G'->RS K H' σ τ->D.bk τ H'
 ct:∀ σ G' τ H',D3.ct σ G'->Kp G H G' H'->RG K H' G'->RS K H' σ τ->D.ct τ H'
def dw(K:JD)(t:d9):TS:=fun D τ H=>∃ σ G D3,RS K H σ τ/\RG K H G/\t D3 σ G/\EndsOk K G H D3 D
theorem qd.base{K:JD}{G G1:Gp}{H H1:Hp}{Q3:pC}{Q:VK}(f:qd K G H Q3 Q)(k:Kp G H G1 H1):qd K G1 H1 Q3 Q:=
 fun d G' v H' q k' rg re=>f d G' v H' q (k.trans k') rg (re.base k)
theorem EndsOk.base{K:JD}{G G1:Gp}{H H1:Hp}{D3:Ends3}{D:Ends}(f:EndsOk K G H D3 D)(k:Kp G H G1 H1):EndsOk K G1 H1 D3 D:=
 ⟨fun σ G' τ H' q k'=>f.nx σ G' τ H' q (k.trans k'),f.rt.base k,fun σ G' τ H' q k'=>f.bk σ G' τ H' q (k.trans k'),fun σ G' τ H' q k'=>f.ct σ G' τ H' q (k.trans k')⟩
def val:D->D
 | .fl ds=>.lst ds
 | d=>d
def wT(K:JD)(t:bP):TE:=fun τ H Q=>∃ σ G Q3,RS K H σ τ/\RG K H G/\t σ G Q3/\∀ d G' v H',Q3 d G'->Kp G H G' H'->RG K H' G'->RD K H' (val d) v->Q v H'
section
variable{X:Cx}{e:JJ}{t:bP}
theorem AI{K:JD}{G G':Gp}{H H':Hp}{p:IW}{o:HO}(k:Kp G H G' H')(f:Fn G H p):Kp G H G' (bG H' p o):=fun a h e n=>by
 have:a≠p:=fun z=>by subst z;exact f h e n
 exact⟨by rw[ax this];exact (k a h e n).1,(k a h e n).2⟩
theorem AH{K:JD}{G':Gp}{H':Hp}{p:IW}{xs:List V}{o:Obj}(rg:RG K H' G')(e:H' p=some (.lst xs))(n:G' p=none):RG K (bG H' p (.frz o (.lst xs))) G'/\Stb K H' (bG H' p (.frz o (.lst xs))):=by
 have st:Stb K H' (bG H' p (.frz o (.lst xs))):=by
  constructor
  ·intro a ys q;rcases q with (q|⟨ob,q⟩)|q
   ·exact .inl (.inl (by rw[ax (fun z=>by subst z;rw[e]at q;cases q)];exact q))
   ·exact .inl (.inr ⟨ob,by rw[ax (fun z=>by subst z;rw[e]at q;cases q)];exact q⟩)
   ·exact .inr q
  ·intro a ys q;rcases q with ⟨ob,q⟩|q
   ·exact .inl ⟨ob,by rw[ax (fun z=>by subst z;rw[e]at q;cases q)];exact q⟩
   ·exact .inr q
 refine⟨fun a o' q=>?_,st⟩;obtain⟨h,e1,r⟩:=rg a o' q;exact⟨h,by rw[ax (fun z=>by subst z;rw[n]at q;cases q)];exact e1,r.mono st⟩
theorem fx(h:PE X e (aI X.K t)):PE X e (wT X.K t):=(FU h).imp fun τ H Q zz=>by
 obtain⟨σ,G,Q3,rs,rg,ht,hk⟩:=zz;refine⟨σ,G,Q3,rs,rg,ht,fun d G' v H' q k rg' re=>?_⟩;cases d with
 | fl ds=>
  obtain⟨p,xs,rfl,e1,e2,e3,e4⟩:=re.fl;refine .inr ⟨p,xs,rfl,e1,fun o=>?_⟩;obtain⟨rg2,st⟩:=AH (o:=o) rg' e1 e2;exact hk _ G' _ _ q (AI (K:=X.K) k e4) rg2 (nZ (.inl ⟨o,aU⟩) (RDs.mono st _ _ e3))
 | _=>exact .inl (hk _ G' v H' q k rg' (re.rd (by intro ds z;cases z)))
end
def dA:d9:=fun D σ G=>D.nx σ G
def sSeq(t u:d9):d9:=fun D σ G=>t { D with nx:=u D } σ G
section
variable{X:Cx}{st:Kt}{bU:List Kt}{t u:d9}{e:JJ}{te:bP}{pos:Pos}
theorem eR:nz X [] (dw X.K dA):=BG.imp fun D τ H zz=>by
 obtain⟨σ,G,D3,rs,rg,h,k⟩:=zz;exact (
  k.nx σ G τ H h Kp.refl rg rs)
theorem al(h1:PS X st (dw X.K t))(h2:nz X bU (dw X.K u)):nz X (st::bU) (dw X.K (sSeq t u)):=(zI h1 h2).imp fun D τ H zz=>by
 obtain⟨σ,G,D3,rs,rg,h,k⟩:=zz;exact (
   ⟨σ,G,{ D3 with nx:=u D3 },rs,rg,h,⟨fun σ' G' τ' H' q k' rg' rs'=>⟨σ',G',D3,rs',rg',q,k.base k'⟩,k.rt,k.bk,k.ct⟩⟩)
theorem aG(h1:PS X st (dw X.K t)):nz X [st] (dw X.K t):=BF h1
def gT(te:bP):d9:=fun D σ G=>te σ G fun _ G'=>D.nx σ G'
theorem gZ(he:PE X e (aI X.K te))(hs:LY e none pos.line X.env=pure false:=by rfl):PS X (.Expr e pos) (dw X.K (gT te)):=(BH he hs).imp fun D τ H zz=>by
 obtain⟨σ,G,D3,rs,rg,h,k⟩:=zz;exact (
   ⟨σ,G,fun _ G'=>D3.nx σ G',rs,rg,h,fun d G' v H' q k' rg' _=>k.nx σ G' τ H' q k' rg' (rs.mono (k'.stb rg))⟩)
def dS(te:bP):d9:=fun D σ G=>te σ G D.rt
theorem cC(he:PE X e (aI X.K te)):PS X (.Return (some e) pos) (dw X.K (dS te)):=(zL he).imp fun D τ H zz=>by
 obtain⟨σ,G,D3,rs,rg,h,k⟩:=zz;exact (
  ⟨σ,G,D3.rt,rs,rg,h,k.rt⟩)
def FF:d9:=fun D _ G=>D.rt .non G
def DS:d9:=fun D σ G=>D.bk σ G
def FI:d9:=fun D σ G=>D.ct σ G
def nA(c:nH)(t u:d9):d9:=fun D σ G=>c σ G fun b G'=>if b=true then t D σ G' else u D σ G'
theorem iu{c:JJ}{a b:List Kt}{tc:nH}(hc:PT X c (du X.K tc))(ha:nz X a (dw X.K t))(hb:nz X b (dw X.K u)):PS X (.If c a b pos) (dw X.K (nA tc t u)):=
 (FQ hc ha hb).imp fun D τ H zz=>by
 obtain⟨σ,G,D3,rs,rg,h,k⟩:=zz;exact (
  ⟨σ,G,_,rs,rg,h,fun b G' H' q k' rg'=>by
    cases b with
    | true=>exact⟨σ,G',D3,rs.mono (k'.stb rg),rg',q,k.base k'⟩
    | false=>exact⟨σ,G',D3,rs.mono (k'.stb rg),rg',q,k.base k'⟩⟩)
def DR:d9:=fun _ _ _=>False
def bT(i:Nat)(te:bP):d9:=fun D σ G=>te σ G fun d G'=>D.nx (σ.set i (some (val d))) G'
theorem bg{i:Nat}{x:Str}{pos':Pos}(hN:X.N.Nodup)(hi:X.N[i]?=some x)(hx:Fl X.env.scope x)(he:PE X e (aI X.K te))(hs:LY e (some (.Name x pos')) pos.line X.env=pure false:=by rfl)
  (hf:X.fn x=true\/X.env.scope.names.lookup x=some .local:=by first|exact .inl rfl|exact .inr rfl|assumption):PS X (.Assign [.Name x pos'] e pos) (dw X.K (bT i te)):=
 (zK hN hi hx (fx he) hs hf).imp fun D τ H zz=>by
 obtain⟨σ,G,D3,rs,rg,h,k⟩:=zz;exact (
  ⟨σ,G,_,rs,rg,h,fun d G' v H' q k' rg' rd=>k.nx _ G' _ H' q k' rg' ((rs.mono (k'.stb rg)).set rd i)⟩)
def xz(i:Nat)(te:bP):d9:=fun D σ G=>te σ G fun d G'=>∃ ds,d=.fl ds/\∀ p,G' p=none->D.nx (σ.set i (some (.ref p))) (gset G' p (.lst ds))
theorem El{K:JD}{G:Gp}{H:Hp}{p:IW}{xs:List V}{ds:List D}(rg:RG K H G)(e:H p=some (.lst xs))(r:RDs K H ds xs):RG K H (gset G p (.lst ds)):=fun a o q=>by
 by_cases ha:a=p
 ·subst ha;rw[az]at q;cases q;exact⟨_,e,r⟩
 ·rw[aK ha]at q;exact rg a o q
theorem Em{G G':Gp}{H H':Hp}{p:IW}{o:GO}(k:Kp G H G' H')(f:Fn G H p):Kp G H (gset G' p o) H':=fun a h e n=>by
 have:a≠p:=fun z=>by subst z;exact f h e n
 exact⟨(k a h e n).1,by rw[aK this];exact (k a h e n).2⟩
theorem wI{i:Nat}{x:Str}{pos':Pos}(hN:X.N.Nodup)(hi:X.N[i]?=some x)(hx:Fl X.env.scope x)(he:PE X e (aI X.K te))(hs:LY e (some (.Name x pos')) pos.line X.env=pure false:=by rfl)
  (hf:X.fn x=true\/X.env.scope.names.lookup x=some .local:=by first|exact .inl rfl|exact .inr rfl|assumption):PS X (.Assign [.Name x pos'] e pos) (dw X.K (xz i te)):=
 (zK hN hi hx he hs hf).imp fun D τ H zz=>by
 obtain⟨σ,G,D3,rs,rg,h,k⟩:=zz;exact (
  ⟨σ,G,_,rs,rg,h,fun d G' v H' q k' rg' re=>by
    obtain⟨ds,rfl,q⟩:=q;obtain⟨p,xs,rfl,e1,e2,e3,e4⟩:=re.fl;exact k.nx _ _ _ H' (q p e2) (Em k' e4) (El rg' e1 e3) ((rs.mono (k'.stb rg)).set iX i)⟩)
def fW(i:Nat):d9:=fun D σ G=>match σ[i]? with
 | some (some (.ref p))=>match G p with
  | some (.lst ds)=>D.rt (.fl ds) (fP G p)
  | _=>False
 | _=>False
theorem kR{i:Nat}{x:Str}{pos':Pos}(hN:X.N[i]?=some x)(hv:GW X.env.scope x)(hd:(x == ("__debug__":Str))=false:=by decide)(hcd:(x == ("__classdict__":Str))=false:=by decide):
  PS X (.Return (some (.Name x pos')) pos) (dw X.K (fW i)):=(zL (zP hN hv hd hcd)).imp fun D τ H zz=>by
 obtain⟨σ,G,D3,rs,rg,h,k⟩:=zz;unfold fW at h;split at h
 ·rename_i p hp;split at h
  ·rename_i ds hg;obtain⟨v,e1,r⟩:=rs.get hp;simp only[RD]at r;subst r;obtain⟨ho,e2,ro⟩:=rg p _ hg;refine⟨_,e1,?_⟩;cases ho with
   | lst xs=>
    have rg2:RG X.K H (fP G p):=fun a o q=>by
     by_cases ha:a=p
     ·subst ha;rw[eF]at q;cases q
     ·rw[eG ha]at q;exact rg a o q
    refine k.rt _ _ _ H h (fun a ha e n=>⟨e,?_⟩) rg2 (.inl ⟨ds,p,xs,rfl,rfl,e2,eF,ro,fun h' _=>by rw[hg];exact fun z=>nomatch z⟩)
    by_cases hap:a=p
    ·subst hap;exact eF
    ·rw[eG hap];exact n
   | _=>exact ro.elim
  ·exact h.elim
 ·exact h.elim
end
def ab(i:Nat):bP:=fun σ G Q=>match σ[i]? with
 | some (some d)=>Q d G
 | _=>False
def eC(d:D):bP:=fun _ G Q=>Q d G
section
variable{X:Cx}{pos:Pos}{j:Nat}
theorem FW{i:Nat}{x:Str}(hN:X.N[i]?=some x)(hv:GW X.env.scope x)(hd:(x == ("__debug__":Str))=false:=by decide)(hcd:(x == ("__classdict__":Str))=false:=by decide):PE X (.Name x pos) (aI X.K (ab i)):=
 (zP hN hv hd hcd).imp fun τ H Q zz=>by
  obtain⟨σ,G,Q3,rs,rg,h,k⟩:=zz;unfold ab at h;split at h
  ·rename_i d hp;obtain⟨v,e1,r⟩:=rs.get hp;exact⟨v,e1,k d G v H h Kp.refl rg (.of r)⟩
  ·exact h.elim
theorem aq(i:Nat){x:Str}(hN:X.N[i]?=some x:=by rfl)(hv:GW X.env.scope x:=by first|exact Or.inl rfl|exact Or.inr (Or.inl rfl)|exact Or.inr (Or.inr rfl))(hd:(x == ("__debug__":Str))=false:=by decide)
  (hcd:(x == ("__classdict__":Str))=false:=by decide):PE X (.Name x pos) (aI X.K (ab i)):=FW hN hv hd hcd
theorem Fp{e:JJ}{d:D}{v:V}(h:PE X e (tC v))(r:∀ H,RD X.K H d v):PE X e (aI X.K (eC d)):=h.imp fun τ H Q zz=>by
 obtain⟨σ,G,Q3,rs,rg,hq,k⟩:=zz;exact (
  k d G v H hq Kp.refl rg (.of (r H)))
theorem ao{i:Int}:PE X (.Constant (.int i) j pos) (aI X.K (eC (.int i))):=Fp Ee fun _=>eY
theorem xL{b:Bool}:PE X (.Constant (.bool b) j pos) (aI X.K (eC (.bl b))):=Fp FV fun _=>gC
theorem Dc:PE X (.Constant .none j pos) (aI X.K (eC .non)):=Fp Ec fun _=>vE
theorem ck{x:Str}:PE X (.Constant (.str x) j pos) (aI X.K (eC (.str x))):=Fp Eb fun _=>ir
end
abbrev R3:=D->D->Gp->pC->Prop
def fy(K:JD)(r3:R3):R2:=fun v u H Q=>∃ x y G0 H0 G Q3,RE K G0 H0 G H x v/\RE K G0 H0 G H y u/\RG K H G/\r3 x y G Q3/\qd K G H Q3 Q
def bS(r:R3)(ta tb:bP):bP:=fun σ G Q=>ta σ G fun x G1=>tb σ G1 fun y G2=>r x y G2 Q
section
variable{X:Cx}{a b c:JJ}{ta tb tc:bP}{pos:Pos}{r r':R3}
theorem two{K:JD}{r2:R2}{Q:VK}{τ:St}{H:Hp}(hr:r2=fy K r)(h:aI K (bS r ta tb) τ H Q):Fo r2 (aI K ta) (aI K tb) τ H Q:=by
 subst hr;obtain⟨σ,G,Q3,rs,rg,h,k⟩:=h;refine⟨σ,G,fun x G1=>tb σ G1 fun y G2=>r x y G2 Q3,rs,rg,h,fun x G1 v H1 h1 k1 rg1 re1=>⟨σ,G1,fun y G2=>r x y G2 Q3,rs.mono (k1.stb rg),rg1,h1,fun y G2 u H2 h2 k2 rg2 re2=>?_⟩⟩;exact⟨x,y,G,H,G2,Q3,re1.wait k2 rg1,re2.base k1,rg2,h2,k.base (k1.trans k2)⟩
theorem cu{op:Operator}(ho:iD X (K0 op) (fy X.K r))(ha:PE X a (aI X.K ta))(hb:PE X b (aI X.K tb)):PE X (.BinOp a op b pos) (aI X.K (bS r ta tb)):=
 (FS ho ha hb).imp fun _ _ _ h=>two rfl h
def dW(t:bP):nH:=fun σ G Q=>t σ G fun d G'=>match d with
 | .bl b=>Q b G'
 | _=>False
theorem qY{K:JD}{t:bP}{τ:St}{H:Hp}{Q:Bool->Hp->Prop}(h:du K (dW t) τ H Q):C3 (aI K t) τ H Q:=by
 obtain⟨σ,G,Q3,rs,rg,h,k⟩:=h;refine⟨σ,G,_,rs,rg,h,fun d G' v H' q k' rg' re=>?_⟩;cases d with
 | bl b=>exact⟨b,re.bl,k b G' H' q k' rg'⟩
 | _=>exact q.elim
theorem rO{op:M_}(ho:iD X (J_ op) (fy X.K r))(ha:PE X a (aI X.K ta))(hb:PE X b (aI X.K tb))(hm:Kn op b=false):PT X (.Compare a [op] [b] pos) (du X.K (dW (bS r ta tb))):=
 (wJ ho ha hb hm).imp fun _ _ _ h=>two rfl (qY h)
def E1(r r':R3)(ta tb tc:bP):bP:=fun σ G Q=>ta σ G fun x G1=>tb σ G1 fun y G2=>r x y G2 fun z G3=>match z with
 | .bl k=>if k=true then tc σ G3 fun w G4=>r' y w G4 Q else Q (.bl false) G3
 | _=>False
def nO(t u:nH):nH:=fun σ G Q=>t σ G fun c G1=>if c=true then u σ G1 Q else Q false G1
def vg(t u:nH):nH:=fun σ G Q=>t σ G fun c G1=>if c=true then Q true G1 else u σ G1 Q
def wD(t:nH):nH:=fun σ G Q=>t σ G fun c G1=>Q (!c) G1
variable{tA tB:nH}{es:List JJ}
theorem yO(ha:PT X a (du X.K tA)):PW X (.BoolOp .And [a] pos) (du X.K tA):=BB ha
theorem yN(ha:PT X a (du X.K tA)):PW X (.BoolOp .Or [a] pos) (du X.K tA):=DW ha
theorem yP(ha:PT X a (du X.K tA))(hb:PW X (.BoolOp .And (b::es) pos) (du X.K tB)):PW X (.BoolOp .And (a::b::es) pos) (du X.K (nO tA tB)):=(DX ha hb).imp fun τ H Q zz=>by
 obtain⟨σ,G,Q3,rs,rg,h,k⟩:=zz;exact (
   ⟨σ,G,_,rs,rg,h,fun c G1 H1 q k1 rg1=>by
    cases c with
    | true=>exact iteT ⟨σ,G1,Q3,rs.mono (k1.stb rg),rg1,q,fun b' G' H' q' k' rg'=>k b' G' H' q' (k1.trans k') rg'⟩
    | false=>exact iteF (k false G1 H1 q k1 rg1)⟩)
theorem DA(ha:PT X a (du X.K tA))(hb:PW X (.BoolOp .Or (b::es) pos) (du X.K tB)):PW X (.BoolOp .Or (a::b::es) pos) (du X.K (vg tA tB)):=(FP ha hb).imp fun τ H Q zz=>by
 obtain⟨σ,G,Q3,rs,rg,h,k⟩:=zz;exact (
   ⟨σ,G,_,rs,rg,h,fun c G1 H1 q k1 rg1=>by
    cases c with
    | false=>exact iteF ⟨σ,G1,Q3,rs.mono (k1.stb rg),rg1,q,fun b' G' H' q' k' rg'=>k b' G' H' q' (k1.trans k') rg'⟩
    | true=>exact iteT (k true G1 H1 q k1 rg1)⟩)
theorem zT(ha:PT X a (du X.K tA)):PT X (.UnaryOp .Not a pos) (du X.K (wD tA)):=(D5 ha).imp fun τ H Q zz=>by
 obtain⟨σ,G,Q3,rs,rg,h,k⟩:=zz;exact (
  ⟨σ,G,_,rs,rg,h,fun c G1 H1 q k1 rg1=>k (!c) G1 H1 q k1 rg1⟩)
def HU(ta tb:bP):bP:=fun σ G Q=>ta σ G fun x G1=>match x with
 | .bl c=>if c=true then tb σ G1 Q else Q (.bl false) G1
 | _=>False
def IL(ta tb:bP):bP:=fun σ G Q=>ta σ G fun x G1=>match x with
 | .bl c=>if c=true then Q (.bl true) G1 else tb σ G1 Q
 | _=>False
def Gs(ta:bP):bP:=fun σ G Q=>ta σ G fun x G1=>match x with
 | .bl c=>Q (.bl (!c)) G1
 | _=>False
def IM(c:nH)(ta tb:bP):bP:=fun σ G Q=>c σ G fun b G1=>if b=true then ta σ G1 Q else tb σ G1 Q
def DG(G:Gp):D->Option Bool
 | .non=>some false
 | .bl b=>some b
 | .int i=>some (i != 0)
 | .str y=>some ((y.length:Int) != 0)
 | d=>(yH G d).map fun ds=>!ds.isEmpty
def nN(t:bP):nH:=fun σ G Q=>t σ G fun d G'=>match DG G' d with
 | some b=>(match d with|.str y=>y.length<=Jg|_=>True)/\Q b G'
 | none=>False
theorem hV(ha:PE X a (aI X.K ta))(he:∀ whole,Oa a X.env whole=(do let v <- whole;Ni a.pos;holding [v] (truthy v)):=by intro _;rfl):PT X a (du X.K (nN ta)):=
 (zG ha he).imp fun τ H Q zz=>by
 obtain⟨σ,G,Q3,rs,rg,h,k⟩:=zz;exact (
  ⟨σ,G,_,rs,rg,h,fun d G' v H' q k' rg' re=>by
    cases d with
    | non=>rw[re.non];exact⟨false,rfl,k _ G' H' q.2 k' rg'⟩
    | bl b=>rw[re.bl];exact⟨b,rfl,k _ G' H' q.2 k' rg'⟩
    | int i=>rw[re.int];exact⟨_,rfl,k _ G' H' q.2 k' rg'⟩
    | str y=>rw[re.str];exact⟨_,⟨q.1,rfl⟩,k _ G' H' q.2 k' rg'⟩
    | ty n=>exact q.elim
    | _=>
     split at q
     ·rename_i b hb;simp only[DG,Option.map_eq_some_iff]at hb;obtain⟨ds,hq,rfl⟩:=hb;obtain⟨a,xs,rfl,s,r⟩:=mJ hq re rg';have el:(!ds.isEmpty)=!xs.isEmpty:=by
       have:=r.length;cases ds<;>cases xs<;>simp_all
      refine⟨!xs.isEmpty,?_,k _ G' H' (by rw[<- el];exact q.2) k' rg'⟩
      rcases s with s|s
      ·exact .inl ⟨xs,s,rfl⟩
      ·exact .inr (.inl ⟨xs,s,rfl⟩)
     ·exact q.elim⟩)
end
end L3
namespace L2
open PySem PySem.Spec PyProof.Rows
section
variable{X:Cx}
def FO(K:JD):R2:=fun x y H Q=>∃ l b xs zs,x=.ref l/\y=.ref b/\jW K H l xs/\jW K H b zs/\xs.length+zs.length<=Jg/\∀ p,H p=none->Q (.ref p) (bG H p (.lst (xs ++ zs)))
theorem B4:iD X (K0 .Add) (FO X.K):=by
 intro pins s σ H x y v u Q I rx ry h;obtain⟨l,b,xs,zs,rfl,rfl,hH,hB,hz,q⟩:=h;cases rx;cases ry;obtain⟨its,r,pl,z⟩:=I.list hH;obtain⟨its2,r2,pl2,z2⟩:=I.list hB;obtain⟨⟨cls,dd,data,sl⟩,ho,hc,n,hd⟩:=pl.isList;obtain⟨⟨cls2,dd2,data2,sl2⟩,ho2,hc2,n2,hd2⟩:=pl2.isList;simp only at hc hd hc2 hd2;subst hc hd hc2 hd2;have hl:=r.length;have hl2:=r2.length;have e:its.toArray ++ its2.toArray=(its ++ its2).toArray:=by simp
 refine Ob ⟨_,ho,rfl⟩ ⟨_,ho2,rfl⟩ noFill_list_add seq_list_add PySem.F.slot_list_add PySem.F.entry_list_add (PySem.F.args_list_add_2 _ _) (list_addW l b its.toArray its2.toArray n n2 dd dd2 sl sl2 (by simp only[Jj];omega)) ⟨ho,ho2,?_⟩
 rw[e];exact⟨.ref _,_,I.lnew (t':=s.toks) (r.append r2) (by rw[Jh];omega),rfl,q _ I.fresh⟩
end
end L2
namespace L3
open PySem PySem.Spec PyProof.Rows L2
section
variable{X:Cx}
def fN:R3:=fun x y G Q=>match x,y with
 | .int i,.int j=>Q (.int (i+j)) G
 | .str i,.str j=>i.length+j.length<=Jg/\Q (.str (i ++ j)) G
 | .tup xs,.tup ys=>xs≠[]/\xs.length+ys.length<=Jg/\Q (.tup (xs ++ ys)) G
 | x,y=>match qR G x,qR G y with
  | some xs,some ys=>xs.length+ys.length<=Jg/\Q (.fl (xs ++ ys)) G
  | _,_=>False
theorem dQ:iD X (K0 .Add) (fy X.K fN):=by
 refine ((Es (X:=X)).or ((vN (X:=X)).or ((B3 (X:=X)).or (B4 (X:=X))))).imp fun v u H Q zz=>?_;obtain⟨x,y,G0,H0,G,Q3,rx,ry,rg,h,k⟩:=zz;unfold fN at h;split at h
 ·rename_i i j;exact .inl ⟨i,j,rx.int,ry.int,k _ G _ H h Kp.refl rg (.of eY)⟩
 ·rename_i i j;exact .inr (.inl ⟨i,j,rx.str,ry.str,h.1,k _ G _ H h.2 Kp.refl rg (.of ir)⟩)
 ·rename_i ds es;obtain⟨a,xs,rfl,s1,r1⟩:=rx.tup;obtain⟨b,ys,rfl,s2,r2⟩:=ry.tup;have l1:=r1.length;have l2:=r2.length;refine .inr (.inr (.inl ⟨a,b,xs,ys,rfl,rfl,s1,s2,fun z=>h.1 ?_,by have:=h.2.1;omega,fun z=>?_,fun _ p hp=>?_⟩))
  ·subst z;exact length_eq_zero_iff.mp l1
  ·subst z;have:es=[]:=length_eq_zero_iff.mp l2;subst this;have hh:=h.2.2;rw[Kl]at hh;exact k _ G _ H hh Kp.refl rg (.of (md s1 r1))
  ·exact k _ G _ _ h.2.2 (Kp.laid hp) (rg.laid hp) (.of (kH rg hp (r1.append r2)))
 ·split at h
  ·rename_i ds es hx hy;obtain⟨a,xs,rfl,s1,r1⟩:=iC hx rx rg;obtain⟨b,ys,rfl,s2,r2⟩:=iC hy ry rg;have l1:=r1.length;have l2:=r2.length;exact .inr (.inr (.inr ⟨a,b,xs,ys,rfl,rfl,s1,s2,by have:=h.1;omega,fun p hp=>k _ G _ _ h.2 (Kp.laid hp) (rg.laid hp) (sF rg hp (r1.append r2))⟩))
  ·exact h.elim
def oI(C:Int->Int->Prop)(g:Int->Int->D):R3:=fun x y G Q=>match x,y with
 | .int i,.int j=>C i j/\Q (g i j) G
 | _,_=>False
def Df(g:Int->Int->D):R3:=fun x y G Q=>match x,y with
 | .int i,.int j=>Q (g i j) G
 | _,_=>False
theorem Il{f:IV->IV->Sem IV}{C:Int->Int->Prop}{g:Int->Int->V}{g3:Int->Int->D}(h:iD X f (rI C g))(r:∀ i j H,RD X.K H (g3 i j) (g i j)):iD X f (fy X.K (oI C g3)):=
 h.imp fun v u H Q zz=>by
  obtain⟨x,y,G0,H0,G,Q3,rx,ry,rg,h,k⟩:=zz;unfold oI at h;split at h
  ·rename_i i j;exact⟨i,j,rx.int,ry.int,h.1,k _ G _ H h.2 Kp.refl rg (.of (r i j H))⟩
  ·exact h.elim
theorem Dz{f:IV->IV->Sem IV}{g:Int->Int->V}{g3:Int->Int->D}(h:iD X f (DU g))(r:∀ i j H,RD X.K H (g3 i j) (g i j)):iD X f (fy X.K (Df g3)):=
 h.imp fun v u H Q zz=>by
  obtain⟨x,y,G0,H0,G,Q3,rx,ry,rg,h,k⟩:=zz;unfold Df at h;split at h
  ·rename_i i j;exact⟨i,j,rx.int,ry.int,k _ G _ H h Kp.refl rg (.of (r i j H))⟩
  ·exact h.elim
def Eu:R3:=Df fun i j=>.int (i - j)
theorem Fq:iD X (K0 .Sub) (fy X.K Eu):=Dz Eo fun _ _ _=>eY
def jc:R3:=oI (fun _ j=>0 < j) fun i j=>.int (i % j)
theorem gA:iD X (K0 .Mod) (fy X.K jc):=Il Er fun _ _ _=>eY
def xQ:R3:=oI Hb fun i j=>.int (i / j)
theorem wB:iD X (K0 .FloorDiv) (fy X.K xQ):=Il B2 fun _ _ _=>eY
def HG:R3:=oI Ik fun i j=>.int (i ^ j.toNat)
def HH:R3:=Df fun i j=>.bl (decide (i < j))
theorem Hi:iD X (J_ .Lt) (fy X.K HH):=Dz FZ fun _ _ _=>gC
def II:R3:=Df fun i j=>.bl (decide (i<=j))
def Gd:R3:=Df fun i j=>.bl (decide (j < i))
theorem Fs:iD X (J_ .Gt) (fy X.K Gd):=Dz F_ fun _ _ _=>gC
def IJ:R3:=Df fun i j=>.bl (decide (j<=i))
def aB:lP:=fun _ G Q=>Q [] G
def af(ta:bP)(tr:lP):lP:=fun σ G Q=>ta σ G fun x G1=>tr σ G1 fun xs G2=>Q (val x::xs) G2
variable{e:JJ}{es:List JJ}{te:bP}{t:lP}{pos:Pos}
theorem am:PA X [] (fA X.K aB):=Eh.imp fun τ H Q zz=>by
 obtain⟨σ,G,Q3,rs,rg,h,k⟩:=zz;exact (
  k [] G [] H h Kp.refl rg RDs.nil)
theorem aa(ha:PE X e (aI X.K te))(hr:PA X es (fA X.K t))(hs:Jx (e::es) X.env=(false,eval e X.env)::Jx es X.env:=by rfl):PA X (e::es) (fA X.K (af te t)):=
 (BU (fx ha) hr hs).imp fun τ H Q zz=>by
 obtain⟨σ,G,Q3,rs,rg,h,k⟩:=zz;exact (
  ⟨σ,G,_,rs,rg,h,fun x G1 v H1 q k1 rg1 rd=>⟨σ,G1,_,rs.mono (k1.stb rg),rg1,q,fun ds G2 vs H2 q2 k2 rg2 rds=>
    k _ G2 _ H2 q2 (k1.trans k2) rg2 (RDs.cons (RD.mono (k2.stb rg1) _ _ rd) rds)⟩⟩)
def gL(t:lP):bP:=fun σ G Q=>t σ G fun ds G1=>ds.length<=Jg/\Q (.tup ds) G1
def js(t:lP):bP:=fun σ G Q=>t σ G fun ds G1=>ds.length<=Jg/\Q (.fl ds) G1
theorem eJ{x1}(h:PA X es (fA X.K t)):PE X (.Tuple es x1 pos) (aI X.K (gL t)):=(Ea h).imp fun τ H Q zz=>by
 obtain⟨σ,G,Q3,rs,rg,h,k⟩:=zz;exact (
  ⟨σ,G,_,rs,rg,h,fun ds G1 vs H1 q k1 rg1 rds=>
   ⟨by rw[<- rds.length];exact q.1,fun p hp=>k _ G1 _ _ q.2 (k1.trans (Kp.laid hp)) (rg1.laid hp) (.of (kH rg1 hp rds))⟩⟩)
theorem hZ(h:PA X es (fA X.K t)):PE X (.List es pos) (aI X.K (js t)):=(Ed h).imp fun τ H Q zz=>by
 obtain⟨σ,G,Q3,rs,rg,h,k⟩:=zz;exact (
  ⟨σ,G,_,rs,rg,h,fun ds G1 vs H1 q k1 rg1 rds=>
   ⟨by rw[<- rds.length];exact q.1,fun p hp=>k _ G1 _ _ q.2 (k1.trans (Kp.laid hp)) (rg1.laid hp) ((sF rg1 hp rds).base k1)⟩⟩)
def strAt(x:Str)(i:Int):Option D:=(iF x.cps.toList i).map fun c=>.str ⟨#[c]⟩
def eT:R3:=fun x y G Q=>match x,y with
 | .str z,.int i=>z.length<=Jg/\match strAt z i with
  | some d=>Q d G
  | none=>False
 | x,.int i=>match yH G x with
  | some ds=>match iF ds i with
   | some d=>Q d G
   | none=>False
  | none=>False
 | _,_=>False
theorem CI{K:JD}{H:Hp}{ds:List D}{xs:List V}{i:Int}{d:D}(r:RDs K H ds xs)(h:iF ds i=some d):∃ v,iF xs i=some v/\RD K H d v:=by
 unfold iF at h ⊢;rw[<- r.length];cases e:Ck ds.length i with
 | none=>rw[e]at h;cases h
 | some j=>
  rw[e]at h;exact r.get h
theorem Hj:yB X (fy X.K eT):=(EO (X:=X)).imp fun v u H Q zz=>by
 obtain⟨x,y,G0,H0,G,Q3,rx,ry,rg,h,k⟩:=zz;unfold eT at h;split at h
 ·rename_i z i;obtain⟨h1,h2⟩:=h;split at h2
  ·rename_i d hd;unfold strAt at hd;rw[Option.map_eq_some_iff]at hd;obtain⟨c,hc,rfl⟩:=hd;exact .inr (.inr ⟨z,i,c,rx.str,ry.int,h1,hc,k _ G _ H h2 Kp.refl rg (.of ir)⟩)
  ·exact h2.elim
 ·rename_i i _;split at h
  ·rename_i ds hds;split at h
   ·rename_i d hd;obtain⟨a,xs,rfl,s,r⟩:=mJ hds rx rg;obtain⟨w,hw,rd⟩:=CI r hd;have fin:=k _ G _ H h Kp.refl rg (.of rd);rcases s with s|s
    ·exact .inl ⟨a,xs,i,w,rfl,ry.int,s,hw,fin⟩
    ·exact .inr (.inl ⟨a,xs,i,w,rfl,ry.int,s,hw,fin⟩)
   ·exact h.elim
  ·exact h.elim
 ·exact h.elim
variable{a b:JJ}{ta tb:bP}
theorem bO(ha:PE X a (aI X.K ta))(hb:PE X b (aI X.K tb))(hs:xm b:=by exact fun _ _=>rfl):PE X (.Subscript a b pos) (aI X.K (bS eT ta tb)):=(FT Hj ha hb hs).imp fun _ _ _ h=>two rfl h
abbrev CL:=gy->Gp->(Option Int->Gp->Prop)->Prop
def mR(K:JD)(t:CL):TO:=fun τ H Q=>∃ σ G Q3,RS K H σ τ/\RG K H G/\t σ G Q3/\∀ o G' H',Q3 o G'->Kp G H G' H'->RG K H' G'->Q o H'
theorem PO.imp{e:Option JJ}{t t':TO}(h:PO X e t)(i:∀ σ H Q,t' σ H Q->t σ H Q):PO X e t':=fun pins s σ H Q I q=>h pins s σ H Q I (i σ H Q q)
def wP:CL:=fun _ G Q=>Q none G
def h8(t:bP):CL:=fun σ G Q=>t σ G fun x G1=>match x with
 | .int i=>Q (some i) G1
 | _=>False
theorem gw:PO X none (mR X.K wP):=PO.imp BK fun τ H Q zz=>by
 obtain⟨σ,G,Q3,rs,rg,h,k⟩:=zz;exact (
  k none G H h Kp.refl rg)
theorem fM(h:PE X e (aI X.K te)):PO X (some e) (mR X.K (h8 te)):=PO.imp (BJ h) fun τ H Q ⟨σ,G,Q3,rs,rg,h,k⟩=>⟨σ,G,_,rs,rg,h,fun d G1 v H1 q k1 rg1 re=>by
 cases d with
 | int i=>exact⟨i,re.int,k _ G1 H1 q k1 rg1⟩
 | _=>exact q.elim⟩
abbrev GY:=D->Option Int->Option Int->Gp->pC->Prop
def An(K:JD)(r:GY):V->Option Int->Option Int->Hp->VK->Prop:=fun v lo hi H Q=>∃ x G0 H0 G Q3,RE K G0 H0 G H x v/\RG K H G/\r x lo hi G Q3/\qd K G H Q3 Q
def A8(r:GY)(te:bP)(tl th:CL):bP:=fun σ G Q=>te σ G fun x G1=>tl σ G1 fun l G2=>th σ G2 fun u G3=>r x l u G3 Q
theorem ik{r:GY}{lo hi:Option JJ}{tl th:CL}{p2:Pos}(hr:yz X (An X.K r))(he:PE X e (aI X.K te))(hl:PO X lo (mR X.K tl))(hu:PO X hi (mR X.K th)):PE X (.Subscript e (.Slice lo hi none p2) pos) (aI X.K (A8 r te tl th)):=
 (zQ hr he hl hu).imp fun τ H Q zz=>by
 obtain⟨σ,G,Q3,rs,rg,h,k⟩:=zz;exact (
  ⟨σ,G,_,rs,rg,h,fun x G1 v H1 q1 k1 rg1 re=>⟨σ,G1,_,rs.mono (k1.stb rg),rg1,q1,fun l G2 H2 q2 k2 rg2=>
    ⟨σ,G2,_,rs.mono ((k1.trans k2).stb rg),rg2,q2,fun u G3 H3 q3 k3 rg3=>⟨x,G,H,G3,Q3,re.wait (k2.trans k3) rg1,rg3,q3,k.base (k1.trans (k2.trans k3))⟩⟩⟩⟩)
def cutD(ds:List D)(lo hi:Option Int):List D:=(ds.drop (HT.sIx ds.length 0 lo)).take (HT.sIx ds.length ds.length hi - HT.sIx ds.length 0 lo)
theorem w4{K:JD}{H:Hp}{ds:List D}{xs:List V}(r:RDs K H ds xs)(lo hi:Option Int):RDs K H (cutD ds lo hi) (uR xs lo hi):=by
 unfold cutD uR;rw[r.length];exact (r.drop _).take _
end
end L3
namespace L2
open PySem PySem.Spec PyProof.Rows
def Ii(xs:List V):It:=⟨fun i _=>i < xs.length,fun i H x H'=>H'=H/\xs[i]?=some x,fun i _=>i=xs.length⟩
def dX(x:Str):List V:=x.cps.toList.map fun c=>V.str ⟨#[c]⟩
theorem jR(x:Str):(dX x).length=x.cps.size:=by simp[dX]
theorem yR{P:Jw}{w:JG}{K:JD}{tg:JJ}(it:IW)(x:Str)(t:Tok)(ty:String)(hty:ty="str_ascii_iterator"\/ty="str_iterator"):
  Turn P w K tg (Ii (dX x)) [it] it (fun i h=>h.IsStrIter it ty x t i) where
 mem:=by simp
 obj:=fun i h st b hb=>by
  have e:b=it:=by simpa using hb
  subst e;obtain⟨o,e,c,d⟩:=st;exact⟨o,e,fun v z=>by rw[d]at z;cases z⟩
 keep:=fun i h h' st k=>let ⟨o,ho,r⟩:=st;⟨o,k it (by simp) o ho,r⟩
 item:=by
  intro X hP hw hK hc i pins s σ H E I hf st hg;subst hP hw hK;obtain⟨f0,f1,f2,f3,f4,f5⟩:=hf it (by simp)
  have W:Walks X.prog X.w X.A it [it] [it] x.cps.size (SignAt x) (fun i h=>h.IsStrIter it ty x t i):=by
   rcases hty with rfl|rfl
   ·exact Walks.strAscii (I.ok.hd hc) it x t
   ·exact Walks.strWide (I.ok.hd hc) it x t
  refine W.item i s _ _ (by have:i < (dX x).length:=hg;rw[jR]at this;exact this) st fun v h' tk hv st' kk=>?_
  obtain⟨c,u,hc',rfl⟩:=hv;have I1:Inv X pins σ H { s with heap:=h',toks:=tk }:=I.turned (fun b o hb e=>kk b o (by simpa using hb) e) f0 f1 f3 f4 f5
  obtain⟨o,e,c1,d⟩:=id st';refine⟨_,rfl,uH (s:={ s with heap:=h',toks:=tk }) e c1 d (by rcases hty with rfl|rfl<;>decide) ⟨.str ⟨#[c]⟩,H,I1,⟨u,rfl⟩,⟨rfl,?_⟩,st',fun b hb=>(hf b hb).1⟩⟩
  simp only[dX,JB,Array.getElem?_toList,hc',Option.map_some]
 done:=by
  intro X hP hw hK hc i pins s σ H E I hf st hg;subst hP hw hK;obtain⟨f0,f1,f2,f3,f4,f5⟩:=hf it (by simp)
  have W:Walks X.prog X.w X.A it [it] [it] x.cps.size (SignAt x) (fun i h=>h.IsStrIter it ty x t i):=by
   rcases hty with rfl|rfl
   ·exact Walks.strAscii (I.ok.hd hc) it x t
   ·exact Walks.strWide (I.ok.hd hc) it x t
  have e:i=x.cps.size:=by have:i=(dX x).length:=hg;rw[jR]at this;exact this
  subst e;exact W.done s _ _ st fun h' tk kk=>⟨rfl,I.turned (fun b o hb e=>kk b o (by simpa using hb) e) f0 f1 f3 f4 f5⟩
 self:=fun A i s Q E st h=>by
  rcases hty with rfl|rfl
  ·exact wpAny_pyIter_striter_ascii st h
  ·exact wpAny_pyIter_striter_wide st h
section
variable{X:Cx}{tg:JJ}
theorem wo{env:Env}:∀ (names:List (Str×Mn)) (sc:L9),sc.names=names->(∀ x∈names,x.2=.free->∃ c,env.cells.lookup x.1=some c)->
  ∃ cl,OH sc env=pure cl/\(∀ x c,cl.lookup x=some c->env.cells.lookup x=some c)/\(∀ x∈names,x.2=.free->∃ c,cl.lookup x.1=some c):=by
 have loop:∀ (names:List (Str×Mn)) (cs:List (Str×IW)),(∀ x∈names,x.2=.free->∃ c,env.cells.lookup x.1=some c)->(∀ x c,cs.lookup x=some c->env.cells.lookup x=some c)->
   ∃ cl,(forIn names cs fun (x:Str×Mn) (r:List (Str×IW))=>(match x with
    | (name,kind)=>if (kind == NameKind.free)=true then (do let a <- cellOf env name;pure (ForInStep.yield ((name,a)::r)))else pure (ForInStep.yield r):Sem (ForInStep (List (Str×IW)))))=(pure cl:Sem (List (Str×IW)))/\
    (∀ x c,cl.lookup x=some c->env.cells.lookup x=some c)/\(∀ x,(∃ c,cs.lookup x=some c)->∃ c,cl.lookup x=some c)/\(∀ x∈names,x.2=.free->∃ c,cl.lookup x.1=some c):=by
  intro names
  induction names with
  | nil=>intro cs _ h2;exact⟨cs,rfl,h2,fun _ z=>z,fun _ z=>nomatch z⟩
  | cons y r ih=>
   obtain⟨name,kind⟩:=y;intro cs h1 h2;cases hk:(kind == NameKind.free) with
   | false=>
    obtain⟨cl,e,a,b,c⟩:=ih cs (fun x hx=>h1 x (Jl _ hx)) h2;refine⟨cl,?_,a,b,fun x hx hf=>?_⟩
    ·rw[LQ];simp only[hk,Bool.false_eq_true,if_false];exact e
    ·rcases Kg.mp hx with rfl|hx
     ·rw[show kind=NameKind.free from hf]at hk;cases hk
     ·exact c x hx hf
   | true=>
    have hkf:kind=NameKind.free:=by simpa using hk
    obtain⟨ca,hca⟩:=h1 (name,kind) Jk hkf;have S_:env.cells.lookup name=some ca:=hca;have nx:∀ x c,((name,ca)::cs).lookup x=some c->env.cells.lookup x=some c:=fun x c hx=>by
     rw[Le]at hx;split at hx
     ·rename_i hb;have:x=name:=by simpa using hb
      cases hx;rw[this];exact S_
     ·exact h2 x c hx
    obtain⟨cl,e,a,b,c⟩:=ih ((name,ca)::cs) (fun x hx=>h1 x (Jl _ hx)) nx;refine⟨cl,?_,a,fun x ⟨c',hx⟩=>?_,fun x hx hf=>?_⟩
    ·rw[LQ];simp only[hk,if_true];unfold cellOf;rw[S_];exact e
    ·by_cases hxn:x=name
     ·exact b x ⟨ca,by rw[Le,hxn,beq_self_eq_true]⟩
     ·exact b x ⟨c',by rw[Le,show (x == name)=false by simpa using hxn];exact hx⟩
    ·rcases Kg.mp hx with rfl|hx
     ·exact b name ⟨ca,by rw[Le,beq_self_eq_true]⟩
     ·exact c x hx hf
 intro names sc hsc h;subst hsc;obtain⟨cl,e,a,_,c⟩:=loop sc.names [] h (fun x c z=>by simp at z)
 refine⟨cl,?_,a,c⟩;unfold OH;show (forIn sc.names [] _ >>= fun r=>pure r)=_
 refine Eq.trans ?_ (congrArg (fun m=>m >>= fun r=>(pure r:Sem (List (Str×IW)))) e);rfl
def b7(X:Cx)(N':List Str)(scope:L9)(cl:List (Str×IW))(C:IW)(s₀:IX)(H₀:Hp)(fp:List IW):Cx:=
 { X with N:=N',s₀:=s₀,H₀:=H₀,env:=compEnvC scope cl C X.env,outer:=X.stack,ex:=fp,fn:=fun _=>false,pn:=[],xe:=fun _ _=>False }
end
section
variable{prog:Jw}{w:JG}{A:Jy}{R:OK->IX->Prop}{s:IX}
theorem ju{elt target iter:JJ}{ifs:List JJ}{scope:L9}{pos:Pos}{it acc:IV}{env:Env}(J:Nat->IX->Prop)
  (turn:∀ n s,J n s->Jc (Jf prog w) A (Lf it) (fun r s₁=>match r with
   | none=>R (.ok .next) s₁
   | some v=>Jc (Jf prog w) A (LL target it v) (fun _ s₁'=>Jc (Jf prog w) A (assign target env v) (fun _ s₂=>
     Jc (Jf prog w) A (forIn ifs true fun c r=>if r=true then do let ok <- Oa c env (eval c env);pure (ForInStep.yield ok)else pure (ForInStep.yield r)) (fun ok s₃=>
      if ok=true then Jc (Jf prog w) A (eval elt env) (fun x s₄=>
       Jc (Jf prog w) A (call (.builtin "list.append") [acc,x]) (fun _ s₅=>∃ m,m < n/\J m s₅) (fun _ _=>False) s₄) (fun _ _=>False) s₃
      else ∃ m,m < n/\J m s₃) (fun _ _=>False) s₂) (fun _ _=>False) s₁') (fun _ _=>False) s₁) (fun _ _=>False) s)
  (n:Nat) (h:J n s):Mb (Jf prog w) A (.compLoop (.ListComp elt [⟨target,iter,ifs,0⟩] scope pos) 0 it acc env) R s:=by
 refine codeAny_loop rfl J (fun n s hI=>?_) n h;show Jc _ A ((compTurn (.ListComp elt [⟨target,iter,ifs,0⟩] scope pos) 0 it acc env).onRaise (fun x=>do noteFrame x env;theTreesLotGoes x)) _ _ s
 refine wpAny_noted ?_;rw[compTurn_list];refine IU (M6 (IU (Ka (turn n s hI) (fun r s₁ h₁=>?_) fun _ _ h'=>h'.elim)));cases r with
 | none=>exact IY h₁
 | some v=>
  refine IU (Ka h₁ (fun _ s₁' h₁'=>?_) fun _ _ h'=>h'.elim);refine IU (Ka h₁' (fun _ s₂ h₂=>IU (Ka h₂ (fun ok s₃ h₃=>?_) fun _ _ h'=>h'.elim)) fun _ _ h'=>h'.elim);cases ok with
  | false=>exact IY ⟨rfl,h₃⟩
  | true=>exact IU (IU (Ka h₃ (fun x s₄ h₄=>IU (Ka h₄ (fun _ s₅ h₅=>IY (IY ⟨rfl,h₅⟩)) fun _ _ h'=>h'.elim)) fun _ _ h'=>h'.elim))
end
def CO(X:Cx)(ifs:List JJ)(tt:TT):Prop:=
 ∀ (pins:List (IW×Obj)) (s:IX) (σ:St) (H:Hp) (Q:Bool->Hp->Prop),Inv X pins σ H s->tt σ H Q->
  Jc (Jf X.prog X.w) X.A (forIn ifs true fun c r=>if r=true then do let ok <- Oa c X.env (eval c X.env);pure (ForInStep.yield ok)else pure (ForInStep.yield r)) (TP X pins σ Q) X.xe s
theorem BE{X:Cx}:CO X [] (fun _ H Q=>Q true H):=fun pins s σ H Q I h=>wpAny_tests_nil ⟨H,I,h⟩
theorem BD{X:Cx}{c:JJ}{tt:TT}(h:PT X c tt):CO X [c] tt:=fun pins s σ H Q I q=>wpAny_tests_one (h pins s σ H Q I q)
def y0(ent:St->St)(wi:TI)(g:TG)(tt:TT)(te:TE):TE:=fun σ H Q=>wi σ H fun J H1=>∀ D,H1 D=none->∃ W:Nat->Nat->List V->St->Hp->Prop,(∃ m,W 0 m [] (ent σ) (bG H1 D (.lst [])))/\
 ∀ i m ys σ1 H2,W i m ys σ1 H2->H2 D=some (.lst ys)/\((J.stop i H2/\Q (.ref D) H2)\/(J.go i H2/\∃ N:List V->St->Hp->Prop,(∀ ys' σ' H',N ys' σ' H'->∃ m',m' < m/\W (i+1) m' ys' σ' H')/\
  ∀ x H',J.yld i H2 x H'->g x σ1 H' fun σ2 H3=>tt σ2 H3 fun b H4=>if b=true then te σ2 H4 fun y H5=>H5 D=some (.lst ys)/\ys.length < Jg/\N (ys ++ [y]) σ2 (bG H5 D (.lst (ys ++ [y])))else N ys σ2 H4))
theorem gI{scope:L9}{env:Env}(Rc:∀ y∈scope.names,y.2≠.cell){x:Str}(h:(NE scope env).names.lookup x=some .cell\/(NE scope env).names.lookup x=some .free):∃ y∈scope.names,y.1=x/\y.2=.free:=by
 have go:∀ (names:List (Str×Mn)),(∀ y∈names,y.2≠.cell)->∀ k,(names.map fun (n,k)=>if (k == .free && env.scope.kind == .function && env.kindOf n == some .cell)then (n,NameKind.cell)else (n,k)).lookup x=some k->(k=.cell\/k=.free)->∃ y∈names,y.1=x/\y.2=.free:=by
  intro names
  induction names with
  | nil=>intro _ k e _;simp at e
  | cons y r ih=>
   obtain⟨n,kd⟩:=y;intro hc k e hk;rw[Jz,Le]at e;split at e
   ·rename_i hb;cases e;have nc:kd≠.cell:=hc (n,kd) Jk;refine⟨(n,kd),Jk,?_,?_⟩
    ·split at hb
     ·simpa using (eq_of_beq hb).symm
     ·simpa using (eq_of_beq hb).symm
    ·split at hk
     ·rename_i hq;simp only[Bool.and_eq_true]at hq
      simpa using hq.1.1
     ·rcases hk with hk|hk
      ·exact absurd hk nc
      ·exact hk
   ·obtain⟨y,hy,q⟩:=ih (fun y hy=>hc y (Jl _ hy)) k e hk;exact⟨y,Jl _ hy,q⟩
 rcases h with h|h
 ·exact go scope.names Rc _ h (.inl rfl)
 ·exact go scope.names Rc _ h (.inr rfl)
theorem jS{scope:L9}{env:Env}{x:Str}(h:(NE scope env).names.lookup x=some .local):∃ y∈scope.names,y.1=x/\y.2=.local:=by
 have go:∀ (names:List (Str×Mn)),(names.map fun (n,k)=>if (k == .free && env.scope.kind == .function && env.kindOf n == some .cell)then (n,NameKind.cell)else (n,k)).lookup x=some .local->∃ y∈names,y.1=x/\y.2=.local:=by
  intro names
  induction names with
  | nil=>intro e;simp at e
  | cons y r ih=>
   obtain⟨n,kd⟩:=y;intro e;rw[Jz,Le]at e;split at e
   ·rename_i hb;refine⟨(n,kd),Jk,?_,?_⟩
    ·split at hb
     ·simpa using (eq_of_beq hb).symm
     ·simpa using (eq_of_beq hb).symm
    ·split at e
     ·cases e
     ·simpa using e
   ·obtain⟨y,hy,q⟩:=ih e;exact⟨y,Jl _ hy,q⟩
 exact go scope.names h
structure CompOk(X:Cx)(scope:L9)(T M:List Str):Prop where
 calm:X.calm=true
 kind:scope.kind=.function
 cell:∀ y∈scope.names,y.2≠.cell
 names:∀ y∈scope.names,y.2=.local->scope.names.lookup y.1=some .local
 loc:∀ y∈scope.names,y.2=.local->y.1∈((".0":Str)::T)
 len:M.length=X.N.length
 sub:∀ (i:Nat) x,M[i]?=some x->X.N[i]?=some x\/∀ y∈scope.names,y.1≠x
 off:∀ x∈M,x∉((".0":Str)::T)
 free:∀ y∈scope.names,y.2=.free->X.env.kindOf y.1=some .cell\/X.env.kindOf y.1=some .free
def ent(T:List Str)(σ:St):St:=T.map (fun _=>none) ++ σ
section
variable{X:Cx}{pins:List (IW×Obj)}{σ:St}{H:Hp}{s:IX}
theorem Inv.block{scope:L9}{T M:List Str}{fp:List IW}{h₁:JI}{tk:Nat}{cl:List (Str×IW)}(I:Inv X pins σ H s)(ok:CompOk X scope T M)(hf:∀ b∈fp,mK X pins H b)(ho:∀ b∈fp,∃ o,s.heap.get? b=some o)
  (hc1:∀ x c,cl.lookup x=some c->X.env.cells.lookup x=some c) (hc2:∀ x∈scope.names,x.2=.free->∃ c,cl.lookup x.1=some c)
  (hns:h₁.Ns s.heap.objs.size fun _=>none) (kp:∀ b o,s.heap.get? b=some o->h₁.get? b=some o):
  Inv (b7 X (T ++ M) scope cl s.heap.objs.size s H fp) [] (ent T σ) H { s with heap:=h₁,toks:=tk }:=by
 have fpC:∀ b∈fp,b≠s.heap.objs.size:=fun b hb z=>by
  obtain⟨o,e⟩:=ho b hb;exact absurd (Ju e) (by rw[z];exact Nat.lt_irrefl _)
 have cellsOk:∀ x c,(b7 X (T ++ M) scope cl s.heap.objs.size s H fp).env.cells.lookup x=some c->X.env.cells.lookup x=some c:=hc1;refine⟨⟨I.ok.mod,ok.kind,I.ok.glob,I.ok.blt,le_refl _,fun x y c h1 h2=>I.ok.inj x y c (hc1 x c h1) (hc1 y c h2),fun x hx=>?_,(fun x c h=>absurd h (by show ¬ (false=true);decide)),I.ok.hd,I.ok.frames,.inl rfl,fun b hb=>⟨fpC b hb,fun x c e=>(hf b hb).2.2.2.2.1 x c (hc1 x c e)⟩,I.bs,le_trans I.ok.bsz I.sz,fun b o e hb=>?_,fun b hb hs=>?_,I.stack,I.stkFree⟩,
  rfl,I.bare,Un.kept kp,⟨_,hns,fun i x v e1 e2 e3=>?_⟩,fun x c e=>?_,I.hok.fresh (le_refl _),fun x c e=>I.freeC x c (hc1 x c e),fun p hp=>absurd (show p∈([]:List (IW×Obj))from hp) (by simp),I.hok.kept kp,?_⟩
 ·obtain⟨y,hy,e,hfr⟩:=gI ok.cell hx;rw[<- e];exact hc2 y hy hfr
 ·rcases (hf b hb).2.2.2.1 with z|z
  ·exact I.ok.noex b o e z
  ·exact absurd (Jt (Ju e) (le_trans I.ok.bsz z)) (Nat.lt_irrefl _)
 ·rcases Kg.mp (I.stkSub b hs)with z|z
  ·exact (hf b hb).2.1 z
  ·exact (hf b hb).2.2.1 z
 ·-- a name that is known: it is drawn from around
  have hi:T.length<=i:=by
   refine Kf fun hlt=>?_;unfold ent at e2;rw[List.getElem?_append_left (by simpa using hlt),JB]at e2
   cases q:T[i]? with
   | none=>rw[q]at e2;cases e2
   | some z=>rw[q]at e2;cases e2
  have e0':M[i - T.length]?=some x:=by
   have:=e1;show M[i - T.length]?=some x
   rw[<- List.getElem?_append_right hi];exact this
  have e1':X.N[i - T.length]?=some x:=by
   rcases ok.sub _ x e0' with z|z
   ·exact z
   ·exfalso;rcases e3 with e3|e3|e3
    ·obtain⟨y,hy,e,hl⟩:=jS e3;exact z y hy e
    ·obtain⟨y,hy,e,_⟩:=gI ok.cell (.inl e3);exact z y hy e
    ·obtain⟨y,hy,e,_⟩:=gI ok.cell (.inr e3);exact z y hy e
  have e2':σ[i - T.length]?=some (some v):=by
   unfold ent at e2;rw[List.getElem?_append_right (by simpa using hi),IZ]at e2
   exact e2
  have Rb:(NE scope X.env).names.lookup x=some .cell\/(NE scope X.env).names.lookup x=some .free:=by
   rcases e3 with e3|e3|e3
   ·obtain⟨y,hy,e,hl⟩:=jS e3;exact absurd (by rw[<- e];exact ok.loc y hy hl) (ok.off x (Js e0'))
   ·exact .inl e3
   ·exact .inr e3
  obtain⟨y,hy,e,hfr⟩:=gI ok.cell Rb;subst e;have hk:=ok.free y hy hfr;obtain⟨m,hn,hl⟩:=I.loc;obtain⟨u,r,l⟩:=hl _ _ v e1' e2' (by rcases hk with hk|hk;exact .inr (.inl hk);exact .inr (.inr hk))
  refine⟨u,r,.inr ⟨Rb,?_⟩⟩;rcases l with ⟨l1,_⟩|⟨_,c,ec,z⟩
  ·rcases hk with hk|hk
   ·rw[hk]at l1;cases l1
   ·rw[hk]at l1;cases l1
  ·obtain⟨c',ec'⟩:=hc2 y hy hfr;have:=hc1 _ _ ec';rw[ec]at this;cases this;obtain⟨o,ho',hd⟩:=z;exact⟨c,ec',o,kp _ _ ho',hd⟩
 ·obtain⟨v,o,ho',hd⟩:=I.cell x c (hc1 x c e);exact⟨v,o,kp _ _ ho',hd⟩
 ·show (ent T σ).length=(T ++ M).length;unfold ent;rw[Jh,Jh,IZ,I.len,ok.len]
end
section
variable{X:Cx}{elt tg iter:JJ}{ifs:List JJ}{scope:L9}{T M:List Str}{pos:Pos}{wi:TI}{g:TG}{tt:TT}{te:TE}
theorem uS{pins:List (IW×Obj)}{s2:IX}{σ:St}{H1:Hp}{Q:VK}{J:It}{it:IW}{fp:List IW}{tn:Nat->JI->Prop}{cl:List (Str×IW)}{RR:IV->IW->OK->IX->Prop}{E:IV->IX->Prop}(ok:CompOk X scope T M)
  (hin:∀ cl C s₀ H₀ fp,PG (b7 X (T ++ M) scope cl C s₀ H₀ fp) tg g/\CO (b7 X (T ++ M) scope cl C s₀ H₀ fp) ifs tt/\PE (b7 X (T ++ M) scope cl C s₀ H₀ fp) elt te)
  (hc1:∀ x c,cl.lookup x=some c->X.env.cells.lookup x=some c) (hc2:∀ x∈scope.names,x.2=.free->∃ c,cl.lookup x.1=some c)
  (I2:Inv X pins σ H1 s2) (Tn:Turn X.prog X.w X.K tg J fp it tn) (st2:tn 0 s2.heap) (f2:∀ b∈fp,mK X pins H1 b)
  (h:∀ D,H1 D=none->∃ W:Nat->Nat->List V->St->Hp->Prop,(∃ m,W 0 m [] (ent T σ) (bG H1 D (.lst [])))/\
   ∀ i m ys σ1 H2,W i m ys σ1 H2->H2 D=some (.lst ys)/\((J.stop i H2/\Q (.ref D) H2)\/(J.go i H2/\∃ N:List V->St->Hp->Prop,(∀ ys' σ' H',N ys' σ' H'->∃ m',m' < m/\W (i+1) m' ys' σ' H')/\
    ∀ x H',J.yld i H2 x H'->g x σ1 H' fun σ2 H3=>tt σ2 H3 fun b H4=>if b=true then te σ2 H4 fun y H5=>H5 D=some (.lst ys)/\ys.length < Jg/\N (ys ++ [y]) σ2 (bG H5 D (.lst (ys ++ [y])))else N ys σ2 H4)))
  (hRR:∀ D C H' s',Inv X pins σ H' s'->(∃ m,s'.heap.Ns C m)->H' C=none->C≠X.env.locals->X.s₀.heap.objs.size<=C->(∀ x c,X.env.cells.lookup x=some c->c≠C)->(∀ p∈X.pn ++ pins,p.1≠C)->Q (.ref D) H'->RR (.ref D) C (.ok .next) s'):
  Jc (Jf X.prog X.w) X.A (newList []) (fun acc s₃=>Jc (Jf X.prog X.w) X.A (newFunctionEnv scope X.env.globals cl [] X.env.qual none .none (some X.env)) (fun cenv s₄=>
   Mb (Jf X.prog X.w) X.A (.compStart (.ListComp elt [⟨tg,iter,ifs,0⟩] scope pos) 0 (.ref it) acc { cenv with scope:=NE scope X.env }) (RR acc cenv.locals) s₄) E s₃) E s2:=by
 refine JS ?_;have hD:H1 s2.heap.objs.size=none:=I2.hok.fresh (le_refl _);obtain⟨W,⟨m0,w0⟩,turn⟩:=h _ hD;have I3:Inv X pins σ (bG H1 s2.heap.objs.size (.lst [])) { s2 with heap:=s2.heap.push { cls:=.type "list",data:=.seq ([]:List IV).toArray } }:=I2.lnew (t':=s2.toks) .nil (JQ _)
 have f3:∀ b∈fp,mK X pins (bG H1 s2.heap.objs.size (.lst [])) b:=fun b hb=>by
  have q:=f2 b hb;obtain⟨o,e,_⟩:=Tn.obj 0 _ st2 b hb;exact⟨by rw[ax (JP (Ju e))];exact q.1,q.2⟩
 have st3:tn 0 (s2.heap.push { cls:=.type "list",data:=.seq ([]:List IV).toArray }):=Tn.keep _ _ _ st2 fun b _ o e=>Ja _ e;generalize hs3:({ s2 with heap:=s2.heap.push { cls:=.type "list",data:=.seq ([]:List IV).toArray } }:IX)=s3 at I3 ⊢
 have SQ:tn 0 s3.heap:=by rw[<- hs3];exact st3
 generalize hH3:bG H1 s2.heap.objs.size (.lst [])=H3 at I3 f3 w0;generalize hDD:s2.heap.objs.size=D at *
 refine wpAny_newFunctionEnv ok.cell (by intro y hy;simp at hy) (fun h₁ VO hsb₁=>?_) ok.kind
 have kp:∀ b o,s3.heap.get? b=some o->h₁.get? b=some o:=fun b o e=>hsb₁.extBut b o (JP (Ju e)) (Ja _ e);have hns:h₁.Ns s3.heap.objs.size fun _=>none:=by simpa using VO
 have I4:Inv (b7 X (T ++ M) scope cl s3.heap.objs.size s3 H3 fp) [] (ent T σ) H3 { s3 with heap:=h₁,toks:=s3.toks+([]:List (Str×IV)).length }:=
  I3.block ok f3 (fun b hb=>let ⟨o,e,_⟩:=Tn.obj 0 _ SQ b hb;⟨o,e⟩) hc1 hc2 hns kp
 have st4:tn 0 h₁:=Tn.keep _ _ _ SQ fun b _ o e=>kp b o e;obtain⟨hG,hT,hE⟩:=hin cl s3.heap.objs.size s3 H3 fp;have back:∀ {QG:List (IW×Obj)} {σ':St} {H':Hp} {s':IX},Inv (b7 X (T ++ M) scope cl s3.heap.objs.size s3 H3 fp) QG σ' H' s'->Inv X pins σ H' s':=fun {QG σ' H' s'} I'=>
  I3.call' (ch:=fp) I'.os I'.base I'.hok I'.bare fun b hb=>let q:=f3 b hb;⟨q.2.2.2.1,q.2.1,q.2.2.2.2.1,q.2.2.2.2.2⟩
 have loop:∀ s4:IX,Inv (b7 X (T ++ M) scope cl s3.heap.objs.size s3 H3 fp) [] (ent T σ) H3 s4->tn 0 s4.heap->
   Mb (Jf X.prog X.w) X.A (.compLoop (.ListComp elt [⟨tg,iter,ifs,0⟩] scope pos) 0 (.ref it) (.ref D) (compEnvC scope cl s3.heap.objs.size X.env)) (RR (.ref D) s3.heap.objs.size) s4:=by
  intro s4 I4 st4;have fpX:∀ {QG:List (IW×Obj)} {H':Hp},QG=[]->(∀ b∈fp,H' b=none)->∀ b∈fp,mK (b7 X (T ++ M) scope cl s3.heap.objs.size s3 H3 fp) QG H' b:=fun {QG H'} ep hn b hb=>by
   subst ep;refine⟨hn b hb,(I4.ok.exf b hb).1,I4.ok.exfs b hb,.inl hb,(I4.ok.exf b hb).2,fun p hp=>absurd (show p∈([]:List (IW×Obj))from hp) (by simp)⟩
  refine ju (fun n s'=>∃ i ys σ' H',Inv (b7 X (T ++ M) scope cl s3.heap.objs.size s3 H3 fp) [] σ' H' s'/\tn i s'.heap/\(∀ b∈fp,H' b=none)/\W i n ys σ' H') ?_ m0 ⟨0,[],ent T σ,H3,I4,st4,fun b hb=>(f3 b hb).1,w0⟩
  rintro n s5 ⟨i,ys,σ5,H5,I5,st5,fr5,w5⟩
  obtain⟨hDl,hstep⟩:=turn i n ys σ5 H5 w5;rcases hstep with ⟨stop,qn⟩|⟨go,N,hN,step⟩
  ·refine cm (Tn.done (b7 X (T ++ M) scope cl s3.heap.objs.size s3 H3 fp) rfl rfl rfl ok.calm i [] s5 _ H5 _ I5 (fpX rfl fr5) st5 stop) fun r s6 zz=>?_;obtain⟨hr,I6⟩:=zz;subst hr;have I7:=back I6;obtain⟨m,hm,_⟩:=I6.loc;refine hRR D s3.heap.objs.size H5 s6 I7 ⟨m,hm⟩ I6.free ?_ ?_ ?_ ?_ qn
   ·exact My I3.lt
   ·exact I3.sz
   ·intro x c e z;obtain⟨v,q⟩:=I3.cell x c e;exact absurd q.lt (by rw[z];exact Nat.lt_irrefl _)
   ·intro p hp z;exact absurd (Ju (I3.pin p hp).1) (by rw[z];exact Nat.lt_irrefl _)
  ·refine cm (Tn.item (b7 X (T ++ M) scope cl s3.heap.objs.size s3 H3 fp) rfl rfl rfl ok.calm i [] s5 _ H5 _ I5 (fpX rfl fr5) st5 go) fun r s6 zz=>?_;obtain⟨u,hr,h6⟩:=zz;subst hr;refine cm h6 fun _ s7 zz=>?_;obtain⟨x,H7,I7,r7,y7,st7,fr7⟩:=zz;have I7':=I7.pinned (fpX rfl fr7) (Tn.obj _ _ st7);refine cm (hG _ s7 _ H7 x u _ I7' r7 (step x H7 y7)) fun _ s8 zz=>?_;obtain⟨σ8,H8,I8,q8⟩:=zz;have again:∀ {s9:IX} {H9:Hp} {ys':List V},Inv (b7 X (T ++ M) scope cl s3.heap.objs.size s3 H3 fp) ([] ++ mi fp s7.heap) σ8 H9 s9->N ys' σ8 H9->
     ∃ m,m < n/\∃ i ys σ' H',Inv (b7 X (T ++ M) scope cl s3.heap.objs.size s3 H3 fp) [] σ' H' s9/\tn i s9.heap/\(∀ b∈fp,H' b=none)/\W i m ys σ' H':=fun {s9 H9 ys'} I9 n9=>by
    obtain⟨m',hm,w9⟩:=hN ys' σ8 H9 n9;refine⟨m',hm,i+1,ys',σ8,H9,I9.unpinned,Tn.keep _ _ _ st7 fun b hb o e=>(I9.pin (b,o) (JO _ (JO _ (h_ hb e)))).1,fun b hb=>?_,w9⟩;obtain⟨o,e,d⟩:=Tn.obj _ _ st7 b hb;exact (I9.pin (b,o) (JO _ (JO _ (h_ hb e)))).2.1
   refine cm (hT _ s8 σ8 H8 _ I8 q8) fun b s9 zz=>?_;obtain⟨H9,I9,q9⟩:=zz;cases b with
   | false=>exact again I9 q9
   | true=>
    refine cm (hE _ s9 σ8 H9 _ I9 q9) fun u10 s10 zz=>?_;obtain⟨y,H10,I10,r10,e10,l10,n10⟩:=zz;refine cm (qA (X:=b7 X (T ++ M) scope cl s3.heap.objs.size s3 H3 fp) _ s10 σ8 H10 (.ref D) [y] (.ref D) [u10] (fun v H'=>v=.non/\H'=bG H10 D (.lst (ys ++ [y]))) I10 rfl (.cons r10 .nil) ⟨D,ys,y,rfl,rfl,e10,l10,rfl,rfl⟩) fun u11 s11 zz=>?_;obtain⟨z,H11,I11,r11,_,e11⟩:=zz;subst e11;exact again I11 n10
 exact codeAny_compStart_list (loop _ I4 st4) (Tn.self _ 0 _ _ _ st4 (loop _ I4 st4))
theorem xa(ok:CompOk X scope T M){pins:List (IW×Obj)}{σ:St}{H:Hp}{s:IX}(I:Inv X pins σ H s):∃ cl,OH scope X.env=pure cl/\(∀ x c,cl.lookup x=some c->X.env.cells.lookup x=some c)/\(∀ x∈scope.names,x.2=.free->∃ c,cl.lookup x.1=some c):=
 wo scope.names scope rfl fun x hx hf=>I.ok.has x.1 (ok.free x hx hf)
theorem BO(ok:CompOk X scope T M)
  (hin:∀ cl C s₀ H₀ fp,PG (b7 X (T ++ M) scope cl C s₀ H₀ fp) tg g/\CO (b7 X (T ++ M) scope cl C s₀ H₀ fp) ifs tt/\PE (b7 X (T ++ M) scope cl C s₀ H₀ fp) elt te)
  (hi:PI X tg iter wi) (hs:∀ x,K7 iter X.env x=pure x:=by intro _;rfl):PE X (.ListComp elt [⟨tg,iter,ifs,0⟩] scope pos) (y0 (ent T) wi g tt te):=by
 intro pins s σ H Q I h;obtain⟨cl,hcl,hc1,hc2⟩:=xa ok I;rw[eval_ListComp];refine NR (use:=none) rfl hs hcl ok.kind ok.names (cm (hi pins s σ H _ I h) fun v s1 h1=>cm h1 fun itv s2 h2=>?_);obtain⟨it,fp,tn,J,H2,e,I2,Tn,st2,f2,hh⟩:=h2;subst e;refine uS (Q:=Q) (RR:=fun acc C=>compPost (Jf X.prog X.w) X.A X.xe none (EP X pins σ Q) acc C) ok hin hc1 hc2 I2 Tn st2 f2 hh ?_;intro D C H' s' I' hm hn n1 n2 n3 n4 q;obtain⟨m,hm⟩:=hm;exact⟨m,hm,fun h' sb=>⟨.ref D,H',I'.turned (t':=s'.toks) (fun b o hb e=>(sb.2 b hb).trans e) hn (Ne.symm (Ne.symm n1)) (.inr n2) n3 n4,rfl,q⟩⟩
theorem BI{i:Nat}{x:Str}{px spos:Pos}(ok:CompOk X scope T M)(hN:X.N.Nodup)(hix:X.N[i]?=some x)(hx:X.env.scope.names.lookup x=some .local)
  (hin:∀ cl C s₀ H₀ fp,PG (b7 X (T ++ M) scope cl C s₀ H₀ fp) tg g/\CO (b7 X (T ++ M) scope cl C s₀ H₀ fp) ifs tt/\PE (b7 X (T ++ M) scope cl C s₀ H₀ fp) elt te)
  (hi:PI X tg iter wi) (hsw:LY (.ListComp elt [⟨tg,iter,ifs,0⟩] scope pos) (some (.Name x px)) spos.line X.env=pure true:=by rfl) (hs:∀ x,K7 iter X.env x=pure x:=by intro _;rfl):
  PS X (.Assign [.Name x px] (.ListComp elt [⟨tg,iter,ifs,0⟩] scope pos) spos) (DK (gh (y0 (ent T) wi g tt te)) (uI i)):=by
 intro pins s σ H D3 I h;obtain⟨cl,hcl,hc1,hc2⟩:=xa ok I;rw[exec_Assign_Name_used _ _ _ _ hsw];refine IU (M6 (IU ?_));show Jc _ X.A (do let _ <- comprehension (.ListComp elt [⟨tg,iter,ifs,0⟩] scope pos) scope X.env _ (newList []) false (eval iter X.env) (some (assign (.Name x px) X.env))) _ _ s
 refine IU (Ka (NR (use:=some (assign (.Name x px) X.env)) (Q:=fun _ s'=>SP X pins D3 .next s') rfl hs hcl ok.kind ok.names
  (cm (hi pins s σ H _ I h) fun v s1 h1=>cm h1 fun itv s2 h2=>?_)) (fun _ s' hq=>IY (IY hq)) fun _ _ e=>e)
 obtain⟨it,fp,tn,J,H2,e,I2,Tn,st2,f2,hh⟩:=h2;subst e;refine uS (Q:=fun v H1=>uI i v σ H1 D3.nx\/∃ p xs,v=.ref p/\H1 p=some (.lst xs)/\∀ o,uI i v σ (bG H1 p (.frz o (.lst xs))) D3.nx) (RR:=fun acc C=>compPost (Jf X.prog X.w) X.A X.xe (some (assign (.Name x px) X.env)) (fun _ s'=>SP X pins D3 .next s') acc C) ok hin hc1 hc2 I2 Tn st2 f2 hh ?_;intro D C H' s' I' hm hn n1 n2 n3 n4 q;obtain⟨m,hm⟩:=hm;have fin:∀ {H'':Hp},Inv X pins σ H'' s'->H'' C=none->D3.nx (σ.set i (some (.ref D))) H''->
   Jc (Jf X.prog X.w) X.A (assign (.Name x px) X.env (.ref D)) (fun _ s''=>∃ m,s''.heap.Ns C m/\∀ h',KO C s''.heap h'->SP X pins D3 .next { s'' with heap:=h' }) X.xe s':=fun {H''} J' hn' q'=>by
  refine OM (ql (v:=V.ref D) J' hN hix (.inl hx) rfl (fun s'' I'' ⟨a,sb,ha⟩=>?_) (.inr hx));have aC:C≠a:=by
   rcases ha with z|z
   ·rw[z];exact n1
   ·exact fun y=>n3 _ _ z y.symm
  refine⟨m,hm.sameBut sb aC,fun h' sb'=>⟨_,H'',I''.turned (t':=s''.toks) (fun b o hb e=>(sb'.2 b hb).trans e) hn' n1 (.inr n2) n3 n4,q'⟩⟩
 rcases q with q|⟨p,xs,ep,e1,q⟩
 ·exact fin I' hn q
 ·obtain⟨o,I''⟩:=I'.freeze e1;refine fin I'' ?_ (q o);rw[ax (fun z=>by subst z;rw[hn]at e1;cases e1)];exact hn
end
section
variable{X:Cx}{tg:JJ}
theorem PG.imp{e:JJ}{t t':TG}(h:PG X e t)(i:∀ v σ H Q,t' v σ H Q->t v σ H Q):PG X e t':=fun pins s σ H v u Q I r q=>h pins s σ H v u Q I r (i v σ H Q q)
theorem A3.imp{es:List JJ}{t t':CM}(h:A3 X es t)(i:∀ vs σ H Q,t' vs σ H Q->t vs σ H Q):A3 X es t':=fun pins s σ H v u Q I r q=>h pins s σ H v u Q I r (i v σ H Q q)
theorem PI.imp{e:JJ}{t t':TI}(h:PI X tg e t)(i:∀ σ H R,t' σ H R->t σ H R):PI X tg e t':=fun pins s σ H R I q=>h pins s σ H R I (i σ H R q)
variable{pins:List (IW×Obj)}{σ:St}{H:Hp}{s:IX}{R:It->Hp->Prop}{E:IV->IX->Prop}{a:IW}{xs:List V}
theorem x_(I:Inv X pins σ H s)(hq:jW X.K H a xs)(q:R (Ij X.K a) H):Jc (Jf X.prog X.w) X.A (Mf (.ref a)) (Fk X pins σ tg R) E s:=by
 obtain⟨its,rv,p,hz⟩:=I.list hq;refine Ms p.isList ?_;refine⟨s.heap.objs.size,[s.heap.objs.size],_,_,H,rfl,I.kept (t':=s.toks) fun b o e=>Ja _ e,xp a _,⟨_,Je _ rfl,rfl,rfl⟩,fun b hb=>?_,q⟩;have e:b=s.heap.objs.size:=by simpa using hb
 subst e;exact I.fpOk (le_refl _) (I.hok.fresh (le_refl _))
theorem Au(I:Inv X pins σ H s)(hq:ja X.K H a xs)(q:R (Ih X.K a) H):Jc (Jf X.prog X.w) X.A (Mf (.ref a)) (Fk X pins σ tg R) E s:=by
 obtain⟨its,rv,p,hz⟩:=I.tuple hq;refine wpAny_pyIter_tuple (show s.heap.IsTuple a its.toArray from p) ?_
 refine⟨s.heap.objs.size,[s.heap.objs.size],_,_,H,rfl,I.kept (t':=s.toks) fun b o e=>Ja _ e,va a _,⟨_,Je _ rfl,rfl,rfl⟩,fun b hb=>?_,q⟩;have e:b=s.heap.objs.size:=by simpa using hb
 subst e;exact I.fpOk (le_refl _) (I.hok.fresh (le_refl _))
theorem Av{z:Str}{t:Tok}(I:Inv X pins σ H s)(q:R (Ii (dX z)) H):Jc (Jf X.prog X.w) X.A (Mf (.str z t)) (Fk X pins σ tg R) E s:=by
 have fin:∀ (ty:String),(ty="str_ascii_iterator"\/ty="str_iterator")->Fk X pins σ tg R (.ref s.heap.objs.size) { s with heap:=s.heap.push { cls:=.type ty,data:=.fields #[.str z t,.int 0 0] } }:=fun ty hty=>by
  refine⟨s.heap.objs.size,[s.heap.objs.size],_,_,H,rfl,I.kept (t':=s.toks) fun b o e=>Ja _ e,yR _ z t ty hty,⟨_,Je _ rfl,rfl,rfl⟩,fun b hb=>?_,q⟩;have e:b=s.heap.objs.size:=by simpa using hb
  subst e;exact I.fpOk (le_refl _) (I.hok.fresh (le_refl _))
 cases ha:z.cps.all (· < 128)
 ·exact wpAny_pyIter_wide ha (fin _ (.inr rfl))
 ·exact wpAny_pyIter_ascii ha (fin _ (.inl rfl))
end
end L2
namespace L3
open PySem PySem.Spec PyProof.Rows L2
abbrev u0:=D->gy->Gp->(gy->Gp->Prop)->Prop
abbrev yy:=List D->gy->Gp->(gy->Gp->Prop)->Prop
def mT(K:JD)(g:u0):TG:=fun v τ H Q=>∃ d σ G Q3,RD K H d v/\RS K H σ τ/\RG K H G/\g d σ G Q3/\∀ σ' G' τ' H',Q3 σ' G'->Kp G H G' H'->RG K H' G'->RS K H' σ' τ'->Q τ' H'
def sd(K:JD)(g:yy):CM:=fun vs τ H Q=>∃ ds σ G Q3,RDs K H ds vs/\RS K H σ τ/\RG K H G/\g ds σ G Q3/\∀ σ' G' τ' H',Q3 σ' G'->Kp G H G' H'->RG K H' G'->RS K H' σ' τ'->Q τ' H'
def gN(i:Nat):u0:=fun d σ G Q=>Q (σ.set i (some d)) G
def jb:yy:=fun ds σ G Q=>match ds with
 | []=>Q σ G
 | _=>False
def cI(t:u0)(u:yy):yy:=fun ds σ G Q=>match ds with
 | d::r=>t d σ G fun σ' G'=>u r σ' G' Q
 | []=>False
def jU(n:Nat)(t:yy):u0:=fun d σ G Q=>match d with
 | .tup ds=>ds.length=n/\t ds σ G Q
 | _=>False
section
variable{X:Cx}{pos:Pos}{e:JJ}{es:List JJ}{t:u0}{u:yy}
theorem aN{i:Nat}{x:Str}(hN:X.N.Nodup)(hi:X.N[i]?=some x)(hx:Fl X.env.scope x)(hf:X.fn x=true\/X.env.scope.names.lookup x=some .local:=by first|exact .inl rfl|exact .inr rfl|assumption):PG X (.Name x pos) (mT X.K (gN i)):=
 (BM hN hi hx hf).imp fun v τ H Q zz=>by
 obtain⟨d,σ,G,Q3,rd,rs,rg,h,k⟩:=zz;exact (
  k _ G _ H h Kp.refl rg (rs.set rd i))
theorem qF:A3 X [] (sd X.K jb):=BL.imp fun vs τ H Q zz=>by
 obtain⟨ds,σ,G,Q3,rd,rs,rg,h,k⟩:=zz;cases ds with
 | nil=>exact⟨rd.inv_nil,k _ G _ H h Kp.refl rg rs⟩
 | cons _ _=>exact h.elim
theorem e8(h1:PG X e (mT X.K t))(h2:A3 X es (sd X.K u))(hs:(Lh (e::es) X.env).map (·.2)=assign e X.env::(Lh es X.env).map (·.2):=by rfl):A3 X (e::es) (sd X.K (cI t u)):=
 (zO h1 h2 hs).imp fun vs τ H Q zz=>by
  obtain⟨ds,σ,G,Q3,rd,rs,rg,h,k⟩:=zz;cases ds with
  | nil=>exact h.elim
  | cons d r=>
   obtain⟨x,xs,e1,r1,r2⟩:=rd.inv_cons;refine⟨x,xs,e1,d,σ,G,_,r1,rs,rg,h,fun σ' G' τ' H' q k' rg' rs'=>⟨r,σ',G',Q3,RDs.mono (k'.stb rg) _ _ r2,rs',rg',q,fun σ2 G2 τ2 H2 q2 k2=>k σ2 G2 τ2 H2 q2 (k'.trans k2)⟩⟩
theorem qE{k:Nat}{n:Nat}(hc:X.calm=true)(h:A3 X es (sd X.K u))(hn:(Lh es X.env).length=n:=by rfl)(hst:(Lh es X.env).findIdx? (·.1)=none:=by rfl):PG X (.Tuple es k pos) (mT X.K (jU n u)):=
 (D9 hc h hn hst).imp fun v τ H Q zz=>by
  obtain⟨d,σ,G,Q3,rd,rs,rg,h,k⟩:=zz;cases d with
  | tup ds=>
   simp only[RD]at rd;obtain⟨a,xs,e1,q,r⟩:=rd;exact⟨a,xs,e1,q,by rw[<- r.length];exact h.1,ds,σ,G,Q3,r,rs,rg,h.2,k⟩
  | _=>exact h.elim
end
abbrev A9:=gy->Gp->(List D->Gp->Prop)->Prop
def yC(K:JD)(G0:Gp)(H0:Hp)(ds:List D)(J:It):Prop:=∀ i G H,Kp G0 H0 G H->RG K H G->
 (i < ds.length->J.go i H/\∀ x H',J.yld i H x H'->Kp G H G H'/\RG K H' G/\∃ d,ds[i]?=some d/\RD K H' d x)/\(i=ds.length->J.stop i H)
def mS(K:JD)(ti:A9):TI:=fun τ H R=>∃ σ G Q3,RS K H σ τ/\RG K H G/\ti σ G Q3/\∀ ds G' J H',Q3 ds G'->Kp G H G' H'->RG K H' G'->yC K G' H' ds J->R J H'
def signs(x:Str):List D:=x.cps.toList.map fun c=>D.str ⟨#[c]⟩
theorem Cm{K:JD}{G0:Gp}{H0:Hp}{ds:List D}{xs:List V}(r:∀ H,RDs K H ds xs):yC K G0 H0 ds (Ii xs):=fun i G H _ rg=>by
 have hl:=(r H).length;refine⟨fun hi=>⟨(show i < xs.length by walk_at "o"),fun x H' y=>?_⟩,fun e=>(show i=xs.length by walk_at "o")⟩
 obtain⟨rfl,hx⟩:=y;refine⟨Kp.refl,rg,ds[i],by simp[hi],?_⟩
 obtain⟨y,e,q⟩:=(r H').get (i:=i) (d:=ds[i]) (by simp[hi])
 rw[hx]at e;cases e;exact q
theorem Cn{K:JD}{G0:Gp}{H0:Hp}{ds:List D}{xs:List V}{a:IW}(rg0:RG K H0 G0)(f:A_ K H0 a xs)(r:RDs K H0 ds xs):yC K G0 H0 ds (Ij K a):=fun i G H k rg=>by
 have hl:=r.length;have f':=(k.stb rg0).l _ _ f;have r':=RDs.mono (k.stb rg0) _ _ r;refine⟨fun hi=>⟨⟨xs,xs[i]'(by walk_at "o"),f'.sq,by simp[show i < xs.length by walk_at "o"]⟩,fun x H' y=>?_⟩,fun e=>⟨xs,f'.sq,by walk_at "o"⟩⟩
 obtain⟨rfl,hx⟩:=y;refine⟨Kp.refl,rg,ds[i],by simp[hi],?_⟩
 obtain⟨y,e,q⟩:=r'.get (i:=i) (d:=ds[i]) (by simp[hi])
 rw[hx xs f'.sq]at e;cases e;exact q
theorem ER{K:JD}{G0:Gp}{H0:Hp}{ds:List D}{xs:List V}{a:IW}(rg0:RG K H0 G0)(f:ja K H0 a xs)(r:RDs K H0 ds xs):yC K G0 H0 ds (Ih K a):=fun i G H k rg=>by
 have hl:=r.length;have f':=(k.stb rg0).t _ _ f;have r':=RDs.mono (k.stb rg0) _ _ r;refine⟨fun hi=>⟨⟨xs,xs[i]'(by walk_at "o"),f',by simp[show i < xs.length by walk_at "o"]⟩,fun x H' y=>?_⟩,fun e=>⟨xs,f',by walk_at "o"⟩⟩
 obtain⟨rfl,hx⟩:=y;refine⟨Kp.refl,rg,ds[i],by simp[hi],?_⟩
 obtain⟨y,e,q⟩:=r'.get (i:=i) (d:=ds[i]) (by simp[hi])
 rw[hx xs f']at e;cases e;exact q
def il:D->Option (List D)
 | .lst ds=>some ds
 | .fl ds=>some ds
 | .tup ds=>some ds
 | .str x=>some (signs x)
 | _=>none
def dU(te:bP):A9:=fun σ G Q=>te σ G fun d G'=>match il d with
 | some ds=>Q ds G'
 | none=>False
def eZ(lo:Int)(n:Nat):List D:=(List.range n).map fun k=>D.int (lo+(k:Nat))
theorem uC{K:JD}{G0:Gp}{H0:Hp}{lo:Int}{n:Nat}:yC K G0 H0 (eZ lo n) (G_ lo n):=fun i G H _ rg=>by
 have hl:(eZ lo n).length=n:=by simp[eZ]
 rw[hl];refine⟨fun hi=>⟨hi,fun x H' y=>?_⟩,fun e=>(show n<=i by walk_at "o")⟩
 obtain⟨rfl,rfl⟩:=y;exact⟨Kp.refl,rg,.int (lo+(i:Nat)),by simp[eZ,hi],eY⟩
def Cq(ta:lP):A9:=fun σ G Q=>ta σ G fun ds G'=>match ds with
 | [.int j]=>(-(2 ^ 62)<=j/\j < 2 ^ 62)/\Q (eZ 0 j.toNat) G'
 | _=>False
def HM(ta:lP):A9:=fun σ G Q=>ta σ G fun ds G'=>match ds with
 | [.int i,.int j]=>(-(2 ^ 62)<=i/\i < 2 ^ 62/\-(2 ^ 62)<=j/\j < 2 ^ 62)/\Q (eZ i (j - i).toNat) G'
 | _=>False
section
variable{X:Cx}{tg e:JJ}{te:bP}
theorem cT(h:PE X e (aI X.K te)):PI X tg e (mS X.K (dU te)):=by
 intro pins s τ H R I hq;obtain⟨σ,G,Q3,rs,rg,hq,k⟩:=hq;refine cm (fx h pins s τ H (fun v H1=>∃ d G1,Kp G H G1 H1/\RG X.K H1 G1/\RD X.K H1 (val d) v/\(match il d with|some ds=>Q3 ds G1|none=>False)) I ⟨σ,G,_,rs,rg,hq,fun d G' v H' q k' rg' rd=>⟨d,G',k',rg',rd,q⟩⟩) fun u s1 zz=>?_
 obtain⟨v,H1,I1,r1,d,G1,k1,rg1,rd,q⟩:=zz;have seq:∀ {a:IW} {xs:List V} {ds:List D},A_ X.K H1 a xs->RDs X.K H1 ds xs->Q3 ds G1->Jc (Jf X.prog X.w) X.A (Mf (.ref a)) (Fk X pins τ tg R) X.xe s1:=fun f r q=>x_ I1 f.sq (k _ G1 _ H1 q k1 rg1 (Cn rg1 f r));cases d with
 | lst ds=>
  simp only[val,RD]at rd;obtain⟨a,xs,rfl,f,r⟩:=rd;cases r1;exact seq f r q
 | fl ds=>
  simp only[val,RD]at rd;obtain⟨a,xs,rfl,f,r⟩:=rd;cases r1;exact seq f r q
 | tup ds=>
  simp only[val,RD]at rd;obtain⟨a,xs,rfl,f,r⟩:=rd;cases r1;exact Au I1 f (k _ G1 _ H1 q k1 rg1 (ER rg1 f r))
 | str z=>
  simp only[val,RD]at rd;subst rd;obtain⟨t,rfl⟩:=r1;refine Av I1 (k _ G1 _ H1 q k1 rg1 (Cm fun H'=>?_));have:signs z=(z.cps.toList.map fun c=>(⟨#[c]⟩:Str)).map D.str:=by simp[signs]
  rw[this];have e2:dX z=(z.cps.toList.map fun c=>(⟨#[c]⟩:Str)).map V.str:=by simp[dX]
  rw[e2];exact RDs.strs _
 | _=>exact q.elim
theorem ie{a:JJ}{ta:lP}{p pos:Pos}(hg:Gl X "range")(hm:X.mg "range"=none)(ha:PA X [a] (fA X.K ta))(hs:Jx [a] X.env=[(false,eval a X.env)]:=by rfl):PI X tg (.Call (.Name "range" p) [a] [] pos) (mS X.K (Cq ta)):=
 (xE hg hm ha hs).imp fun τ H R zz=>by
 obtain⟨σ,G,Q3,rs,rg,h,k⟩:=zz;exact (
  ⟨σ,G,_,rs,rg,h,fun ds G1 vs H1 q k1 rg1 rds=>by
    split at q
    ·rename_i j;obtain⟨x,r,e1,r1,r2⟩:=rds.inv_cons;have:=r2.inv_nil;simp only[RD]at r1;subst e1 this r1;exact⟨j,rfl,q.1.1,q.1.2,k _ G1 _ H1 q.2 k1 rg1 uC⟩
    ·exact q.elim⟩)
theorem Az{a b:JJ}{ta:lP}{p pos:Pos}(hg:Gl X "range")(hm:X.mg "range"=none)(ha:PA X [a,b] (fA X.K ta))(hs:Jx [a,b] X.env=[(false,eval a X.env),(false,eval b X.env)]:=by rfl)(hs2:Jx [b] X.env=[(false,eval b X.env)]:=by rfl):
  PI X tg (.Call (.Name "range" p) [a,b] [] pos) (mS X.K (HM ta)):=
 (xD hg hm ha hs hs2).imp fun τ H R zz=>by
 obtain⟨σ,G,Q3,rs,rg,h,k⟩:=zz;exact (
  ⟨σ,G,_,rs,rg,h,fun ds G1 vs H1 q k1 rg1 rds=>by
    split at q
    ·rename_i i j;obtain⟨x,r,e1,r1,r2⟩:=rds.inv_cons;obtain⟨x',r',e1',r1',r2'⟩:=r2.inv_cons;have:=r2'.inv_nil;simp only[RD]at r1 r1';subst e1 e1' this r1 r1';exact⟨i,j,rfl,q.1,k _ G1 _ H1 q.2 k1 rg1 uC⟩
    ·exact q.elim⟩)
end
def ForIn(g:u0)(tb:d9)(E:Ends3)(σ:gy)(ds:List D)(G1:Gp):Prop:=∃ Pv:Nat->gy->Gp->Prop,Pv 0 σ G1/\
 (∀ (i:Nat) d σ' G',ds[i]?=some d->Pv i σ' G'->g d σ' G' fun σ2 G2=>tb { E with nx:=Pv (i+1),ct:=Pv (i+1),bk:=E.nx } σ2 G2)/\∀ σ' G',Pv ds.length σ' G'->E.nx σ' G'
def gu(ti:A9)(g:u0)(tb:d9):d9:=fun D σ G=>ti σ G fun ds G1=>ForIn g tb D σ ds G1
theorem fu{X:Cx}{tg iter:JJ}{body:List Kt}{ti:A9}{g:u0}{tb:d9}{pos:Pos}(hp:Nt (Jf X.prog X.w) X.A X.env X.xe)(hc:X.calm=true)(hi:PI X tg iter (mS X.K ti))(hg:PG X tg (mT X.K g))(hb:nz X body (dw X.K tb))
  (hs:∀ x,K7 iter X.env x=pure x:=by intro _;rfl):PS X (.For tg iter body [] pos) (dw X.K (gu ti g tb)):=
 (D6 hp hc hi hg hb hs).imp fun D τ H zz=>by
 obtain⟨σ,G,D3,rs,rg,h,k⟩:=zz;exact (
  ⟨σ,G,_,rs,rg,h,fun ds G1 J H1 q k1 rg1 it=>by
    obtain⟨Pv,p0,step,fin⟩:=q;refine⟨fun i m τ' H'=>m=ds.length - i/\i<=ds.length/\∃ σ' G',RS X.K H' σ' τ'/\RG X.K H' G'/\Pv i σ' G'/\Kp G1 H1 G' H',⟨ds.length,rfl,JQ _,σ,G1,rs.mono (k1.stb rg),rg1,p0,Kp.refl⟩,?_⟩
    rintro i m τ' H' ⟨rfl,hi',σ',G',rs',rg',pv,k'⟩
    obtain⟨hgo,hstop⟩:=it i G' H' k' rg'
    by_cases hlt:i < ds.length
    ·obtain⟨go,yld⟩:=hgo hlt;refine .inr ⟨go,fun τ2 H2=>∃ σ2 G2,RS X.K H2 σ2 τ2/\RG X.K H2 G2/\Pv (i+1) σ2 G2/\Kp G1 H1 G2 H2,fun τ2 H2 ⟨σ2,G2,a,b,c,d⟩=>⟨ds.length - (i+1),by walk_at "o",rfl,hlt,σ2,G2,a,b,c,d⟩,fun x H2 y=>?_⟩
     obtain⟨ky,rgy,d,hd,rd⟩:=yld x H2 y;refine⟨d,σ',G',_,rd,rs'.mono (ky.stb rg'),rgy,step i d σ' G' hd pv,fun σ3 G3 τ3 H3 q3 k3 rg3 rs3=>?_⟩;have kk:Kp G1 H1 G3 H3:=k'.trans (ky.trans k3);have kG:Kp G H G3 H3:=k1.trans kk;refine⟨σ3,G3,_,rs3,rg3,q3,⟨fun σ4 G4 τ4 H4 q4 k4 rg4 rs4=>⟨σ4,G4,rs4,rg4,q4,kk.trans k4⟩,k.rt.base kG,fun σ4 G4 τ4 H4 q4 k4=>k.nx σ4 G4 τ4 H4 q4 (kG.trans k4),fun σ4 G4 τ4 H4 q4 k4 rg4 rs4=>⟨σ4,G4,rs4,rg4,q4,kk.trans k4⟩⟩⟩
    ·have e:i=ds.length:=by walk_at "o"
     refine .inl ⟨hstop e,k.nx σ' G' τ' H' (fin σ' G' (by rw[<- e];exact pv)) (k1.trans k') rg' rs'⟩⟩)
def f_:nH:=fun _ G Q=>Q true G
def wx(k:Nat)(g:u0)(tt:nH)(te:bP)(σ:gy)(ds:List D)(G1:Gp)(Q:pC):Prop:=ds.length<=Jg/\∃ Pv:Nat->List D->Gp->Prop,Pv 0 [] G1/\
 (∀ (i:Nat) d acc G',ds[i]?=some d->Pv i acc G'->g d (List.replicate k none ++ σ) G' fun σ2 G2=>(k<=σ2.length/\σ2.drop k=σ)/\tt σ2 G2 fun b G3=>if b=true then te σ2 G3 fun y G4=>Pv (i+1) (acc ++ [val y]) G4 else Pv (i+1) acc G3)/\
 ∀ acc G',Pv ds.length acc G'->Q (.fl acc) G'
def dm(k:Nat)(ti:A9)(g:u0)(tt:nH)(te:bP):bP:=fun σ G Q=>ti σ G fun ds G1=>wx k g tt te σ ds G1 Q
theorem cU{k:Nat}{g:u0}{te:bP}{σ:gy}{ds:List D}{G1:Gp}{Q:pC}(f:D->D)(hl:ds.length<=Jg)
  (he:∀ d∈ds,∀ P:pC,(∀ y,val y=f d->P y G1)->g d (List.replicate k none ++ σ) G1 fun σ2 G2=>(k<=σ2.length/\σ2.drop k=σ)/\te σ2 G2 P) (hq:Q (.fl (ds.map f)) G1):wx k g f_ te σ ds G1 Q:=by
 refine⟨hl,fun i acc G'=>acc=(ds.take i).map f/\G'=G1,⟨by simp,rfl⟩,fun i d acc G' hd ⟨ha,hG⟩=>?_,fun acc G' ⟨ha,hG⟩=>?_⟩
 ·subst hG;exact he d (Js hd) (fun y G4=>acc ++ [val y]=(ds.take (i+1)).map f/\G4=G') fun y hy=>⟨by rw[ha,hy,Ke,hd];simp,rfl⟩
 ·subst hG;rw[ha,JR];exact hq
theorem im{k:Nat}{g:u0}{tt:nH}{te:bP}{σ:gy}{ds:List D}{G1:Gp}{Q:pC}(p:D->Bool)(f:D->D)(hl:ds.length<=Jg)
  (he:∀ d∈ds,∀ (P:pC) (R:Gp->Prop),(p d=true->∀ y,val y=f d->P y G1)->(p d=false->R G1)->g d (List.replicate k none ++ σ) G1 fun σ2 G2=>(k<=σ2.length/\σ2.drop k=σ)/\tt σ2 G2 fun b G3=>if b=true then te σ2 G3 P else R G3)
  (hq:Q (.fl ((ds.filter p).map f)) G1):wx k g tt te σ ds G1 Q:=by
 refine⟨hl,fun i acc G'=>acc=((ds.take i).filter p).map f/\G'=G1,⟨by simp,rfl⟩,fun i d acc G' hd ⟨ha,hG⟩=>?_,fun acc G' ⟨ha,hG⟩=>?_⟩
 ·subst hG;have e:(ds.take (i+1)).filter p=(ds.take i).filter p ++ (if p d=true then [d]else []):=by
   rw[Ke,hd,List.filter_append];cases hp:p d<;>simp[hp]
  refine he d (Js hd) (fun y G4=>acc ++ [val y]=((ds.take (i+1)).filter p).map f/\G4=G') (fun G4=>acc=((ds.take (i+1)).filter p).map f/\G4=G') (fun hp y hy=>⟨?_,rfl⟩) fun hp=>⟨?_,rfl⟩
  ·rw[e,hp,ha,hy];simp
  ·rw[e,hp,ha];simp
 ·subst hG;rw[ha,JR];exact hq
section
variable{X:Cx}{elt tg iter:JJ}{ifs:List JJ}{scope:L9}{T M:List Str}{pos:Pos}{ti:A9}{g:u0}{tt:nH}{te:bP}
theorem DT{K:JD}{H:Hp}{σ:gy}{τ:St}(T:List Str)(r:RS K H σ τ):RS K H (List.replicate T.length none ++ σ) (ent T τ):=by
 unfold ent
 induction T with
 | nil=>exact r
 | cons a t ih=>exact .cons (show yI K H none none from trivial) ih
theorem qt{K:JD}{H:Hp}:∀ (k:Nat) {σ:gy} {τ:St},k<=σ.length->RS K H σ τ->RS K H (List.replicate k none ++ σ.drop k) τ
 | 0,_,_,_,r=>r
 | k+1,[],_,h,_=>absurd h (by simp)
 | k+1,a::t,_,h,.cons _ r=>.cons (show yI K H none _ from trivial) (qt k (by simpa using h) r)
theorem qK{K:JD}{τ:St}{H:Hp}{Q:VK}(h:aI K (dm T.length ti g tt te) τ H Q):
  y0 (ent T) (mS K ti) (mT K g) (du K tt) (wT K te) τ H Q:=by
 obtain⟨σ,G,Q3,rs,rg,h,k⟩:=h;refine⟨σ,G,_,rs,rg,h,fun ds G1 J H1 q k1 rg1 it Da hD=>?_⟩;obtain⟨hsz,Pv,p0,step,fin⟩:=q;have kD:Kp G1 H1 G1 (bG H1 Da (.lst [])):=Kp.laid hD;have rgD:RG K (bG H1 Da (.lst [])) G1:=rg1.laid hD;have gD:G1 Da=none:=rg1.free hD;refine⟨fun i m ys τ2 H2=>m=ds.length - i/\i<=ds.length/\∃ acc G2,H2 Da=some (.lst ys)/\G2 Da=none/\RG K H2 G2/\RS K H2 (List.replicate T.length none ++ σ) τ2/\RDs K H2 acc ys/\acc.length<=i/\Pv i acc G2/\(∀ a h,a≠Da->H1 a=some h->G1 a=none->H2 a=some h/\G2 a=none),
  ⟨ds.length,rfl,JQ _,[],G1,aU,gD,rgD,DT T (rs.mono ((k1.trans kD).stb rg)),RDs.nil,le_refl _,p0,fun a h ha e n=>⟨by rw[ax ha];exact e,n⟩⟩,?_⟩
 rintro i m ys τ2 H2 ⟨rfl,hi',acc,G2,eD,nD,rg2,rs2,ra,la,pv,k2⟩
 have k2':Kp G1 H1 G2 H2:=fun a h e n=>k2 a h (b6 e hD) e n;refine⟨eD,?_⟩;obtain⟨hgo,hstop⟩:=it i G2 H2 k2' rg2
 by_cases hlt:i < ds.length
 ·obtain⟨go,yld⟩:=hgo hlt;refine .inr ⟨go,fun ys' τ' H'=>∃ acc G',H' Da=some (.lst ys')/\G' Da=none/\RG K H' G'/\RS K H' (List.replicate T.length none ++ σ) τ'/\RDs K H' acc ys'/\acc.length<=i+1/\Pv (i+1) acc G'/\(∀ a h,a≠Da->H1 a=some h->G1 a=none->H' a=some h/\G' a=none),
   fun ys' τ' H' q'=>⟨ds.length - (i+1),by walk_at "o",rfl,hlt,q'⟩,fun x H3 y=>?_⟩
  obtain⟨ky,rgy,d,hd,rd⟩:=yld x H3 y;refine⟨d,List.replicate T.length none ++ σ,G2,_,rd,rs2.mono (ky.stb rg2),rgy,step i d acc G2 hd pv,fun σ4 G4 τ4 H4 q4 k4 rg4 rs4=>?_⟩;obtain⟨⟨hlen,hdrop⟩,q4⟩:=q4;have rs4':RS K H4 (List.replicate T.length none ++ σ) τ4:=by
   have:=qt T.length hlen rs4;rw[hdrop]at this;exact this
  refine⟨σ4,G4,_,rs4,rg4,q4,fun b G5 H5 q5 k5 rg5=>?_⟩;have e3:H3 Da=some (.lst ys):=(ky Da _ eD nD).1;have e4:=k4 Da _ e3 nD;have e5:=k5 Da _ e4.1 e4.2;have kk:∀ {G6:Gp} {H6:Hp},Kp G5 H5 G6 H6->∀ a h,a≠Da->H1 a=some h->G1 a=none->H6 a=some h/\G6 a=none:=fun k6 a h ha e n=>((((Kp.trans k2' ky).trans k4).trans k5).trans k6) a h e n;cases b with
  | false=>
   refine iteF ⟨acc,G5,e5.1,e5.2,rg5,rs4'.mono (k5.stb rg4),RDs.mono (((ky.trans k4).trans k5).stb rg2) _ _ ra,by walk_at "o",q5,kk Kp.refl⟩
  | true=>
   refine iteT ⟨σ4,G5,_,rs4.mono (k5.stb rg4),rg5,q5,fun yv G6 v H6 q6 k6 rg6 rd6=>?_⟩;have e6:=k6 Da _ e5.1 e5.2;have la':=ra.length;have st:Stb K H6 (bG H6 Da (.lst (ys ++ [v]))):=by
    constructor
    ·intro a zs q;rcases q with (q|⟨o,q⟩)|q
     ·exact .inl (.inl (by rw[ax (fun z=>by subst z;rw[e6.1]at q;cases q)];exact q))
     ·exact .inl (.inr ⟨o,by rw[ax (fun z=>by subst z;rw[e6.1]at q;cases q)];exact q⟩)
     ·exact .inr q
    ·intro a zs q;rcases q with ⟨o,q⟩|q
     ·exact .inl ⟨o,by rw[ax (fun z=>by subst z;rw[e6.1]at q;cases q)];exact q⟩
     ·exact .inr q
   refine⟨e6.1,by walk_at "o",acc ++ [val yv],G6,aU,e6.2,fun a o q=>?_,(rs4'.mono ((k5.trans k6).stb rg4)).mono st,?_,by simp;omega,q6,fun a h ha e n=>?_⟩
   ·obtain⟨h',q1,q2⟩:=rg6 a o q;exact⟨h',by rw[ax (fun z=>by subst z;rw[e6.2]at q;cases q)];exact q1,q2.mono st⟩
   ·exact RDs.append (RDs.mono st _ _ (RDs.mono ((((ky.trans k4).trans k5).trans k6).stb rg2) _ _ ra)) (RDs.cons (RD.mono st _ _ rd6) RDs.nil)
   ·rw[ax ha];exact kk k6 a h ha e n
 ·have e:i=ds.length:=by walk_at "o"
  refine .inl ⟨hstop e,k _ G2 _ H2 (fin acc G2 (by rw[<- e];exact pv)) (k1.trans k2') rg2 (.inl ⟨acc,Da,ys,rfl,rfl,eD,nD,ra,?_⟩)⟩
  exact k1.fr (jE hD)
theorem fi:CO X [] (du X.K f_):=fun pins s τ H Q I h=>by
 obtain⟨σ,G,Q3,rs,rg,h,k⟩:=h;exact BE pins s τ H Q I (k true G H h Kp.refl rg)
theorem lS{c:JJ}{tc:nH}(h:PT X c (du X.K tc)):CO X [c] (du X.K tc):=BD h
theorem dP(ok:CompOk X scope T M)
  (hin:∀ cl C s₀ H₀ fp,PG (b7 X (T ++ M) scope cl C s₀ H₀ fp) tg (mT X.K g)/\CO (b7 X (T ++ M) scope cl C s₀ H₀ fp) ifs (du X.K tt)/\PE (b7 X (T ++ M) scope cl C s₀ H₀ fp) elt (aI X.K te))
  (hi:PI X tg iter (mS X.K ti)) (hs:∀ x,K7 iter X.env x=pure x:=by intro _;rfl):PE X (.ListComp elt [⟨tg,iter,ifs,0⟩] scope pos) (aI X.K (dm T.length ti g tt te)):=
 (BO ok (fun cl C s₀ H₀ fp=>let ⟨a,b,c⟩:=hin cl C s₀ H₀ fp;⟨a,b,fx c⟩) hi hs).imp fun _ _ _ h=>qK h
theorem zD{i:Nat}{x:Str}{px spos:Pos}(ok:CompOk X scope T M)(hN:X.N.Nodup)(hix:X.N[i]?=some x)(hx:X.env.scope.names.lookup x=some .local)
  (hin:∀ cl C s₀ H₀ fp,PG (b7 X (T ++ M) scope cl C s₀ H₀ fp) tg (mT X.K g)/\CO (b7 X (T ++ M) scope cl C s₀ H₀ fp) ifs (du X.K tt)/\PE (b7 X (T ++ M) scope cl C s₀ H₀ fp) elt (aI X.K te))
  (hi:PI X tg iter (mS X.K ti)) (hsw:LY (.ListComp elt [⟨tg,iter,ifs,0⟩] scope pos) (some (.Name x px)) spos.line X.env=pure true:=by rfl) (hs:∀ x,K7 iter X.env x=pure x:=by intro _;rfl):
  PS X (.Assign [.Name x px] (.ListComp elt [⟨tg,iter,ifs,0⟩] scope pos) spos) (dw X.K (bT i (dm T.length ti g tt te))):=
 (BI ok hN hix hx (fun cl C s₀ H₀ fp=>let ⟨a,b,c⟩:=hin cl C s₀ H₀ fp;⟨a,b,fx c⟩) hi hsw hs).imp fun D τ H zz=>by
  obtain⟨σ,G,D3,rs,rg,h,k⟩:=zz;refine qK (Q:=fun v H1=>D.nx (τ.set i (some v)) H1\/∃ p xs,v=.ref p/\H1 p=some (.lst xs)/\∀ o,D.nx (τ.set i (some v)) (bG H1 p (.frz o (.lst xs)))) ⟨σ,G,_,rs,rg,h,fun d G' v H' q k' rg' re=>?_⟩;cases d with
  | fl ds=>
   obtain⟨p,xs,rfl,e1,e2,e3,e4⟩:=re.fl;refine .inr ⟨p,xs,rfl,e1,fun o=>?_⟩;obtain⟨rg2,st⟩:=AH (o:=o) rg' e1 e2;exact k.nx _ G' _ _ q (AI (K:=X.K) k' e4) rg2 (((rs.mono (k'.stb rg)).mono st).set (nZ (.inl ⟨o,aU⟩) (RDs.mono st _ _ e3)) i)
  | _=>exact .inl (k.nx _ G' _ H' q k' rg' ((rs.mono (k'.stb rg)).set (re.rd (by intro ds z;cases z)) i))
end
open PySem.SeqAt
def fh(x y:D):Bool:=@decide (x=y) (Classical.propDecidable _)
theorem jG{x y:D}:fh x y=true↔x=y:=by unfold fh;exact @decide_eq_true_iff _ (Classical.propDecidable _)
theorem bo(x:D):fh x x=true:=jG.mpr rfl
theorem o8{x y:D}(h:x=y):fh x y=true:=jG.mpr h
theorem bM{x y:D}(h:x≠y):fh x y=false:=by
 cases e:fh x y with
 | false=>rfl
 | true=>exact absurd (jG.mp e) h
theorem jq{x y:D}{b:Bool}(h:(b=true)↔x=y):fh x y=b:=by
 cases b with
 | true=>exact o8 (h.mp rfl)
 | false=>exact bM fun e=>nomatch h.mpr e
def pl:Nat->D->Prop
 | _,.non=>True
 | _,.int _=>True
 | _,.str _=>True
 | n+1,.tup ds=>∀ d∈ds,pl n d
 | n+1,.lst ds=>∀ d∈ds,pl n d
 | _,_=>False
section
variable{X:Cx}{pins:List (IW×Obj)}{σ:St}{H:Hp}{s:IX}
theorem wQ(I:Inv X pins σ H s){a:IW}{xs ys:List V}(h1:ja X.K H a xs)(h2:jW X.K H a ys):False:=by
 obtain⟨_,_,⟨o,e,c,_⟩,_⟩:=I.tuple h1;obtain⟨_,_,p,_⟩:=I.list h2;obtain⟨o',e',c',_⟩:=p.isList;rw[e]at e';cases e';rw[c]at c';injection c' with z
 exact absurd z (by decide)
theorem n8(I:Inv X pins σ H s):∀ (n:Nat) {x y:D} {v:V},pl n x->pl n y->RD X.K H x v->RD X.K H y v->x=y:=by
 intro n
 induction n with
 | zero=>
  intro x y v px py rx ry;cases x<;>first|exact px.elim|(cases y<;>first|exact py.elim|(simp only[RD]at rx ry;subst rx;first|rfl|(cases ry;rfl)|cases ry))
 | succ n ih=>
  have seq:∀ {ds es:List D} {xs:List V},(∀ d∈ds,pl n d)->(∀ d∈es,pl n d)->RDs X.K H ds xs->RDs X.K H es xs->ds=es:=by
   intro ds
   induction ds with
   | nil=>
    intro es xs _ _ r1 r2;have:=r1.inv_nil;subst this;cases es with
    | nil=>rfl
    | cons e t=>have:=r2.length;simp at this
   | cons d t ihd=>
    intro es xs p1 p2 r1 r2;obtain⟨v,vs,e1,a1,b1⟩:=r1.inv_cons;subst e1;cases es with
    | nil=>have:=r2.length;simp at this
    | cons e u=>
     obtain⟨v',vs',e2,a2,b2⟩:=r2.inv_cons;cases e2;rw[ih (p1 d Jk) (p2 e Jk) a1 a2,ihd (fun z hz=>p1 z (Jl _ hz)) (fun z hz=>p2 z (Jl _ hz)) b1 b2]
  intro x y v px py rx ry;cases x with
  | tup ds=>
   simp only[RD]at rx;obtain⟨a,xs,rfl,s1,r1⟩:=rx;cases y with
   | tup es=>
    simp only[RD]at ry;obtain⟨b,ys,e,s2,r2⟩:=ry;cases e;have:=I.tuple_inj s1 s2;subst this;rw[seq px py r1 r2]
   | lst es=>
    simp only[RD]at ry;obtain⟨b,ys,e,s2,r2⟩:=ry;cases e;exact (wQ I s1 s2.sq).elim
   | _=>first|exact py.elim|(simp only[RD]at ry;cases ry)
  | lst ds=>
   simp only[RD]at rx;obtain⟨a,xs,rfl,s1,r1⟩:=rx;cases y with
   | lst es=>
    simp only[RD]at ry;obtain⟨b,ys,e,s2,r2⟩:=ry;cases e;have:=I.list_inj s1.sq s2.sq;subst this;rw[seq px py r1 r2]
   | tup es=>
    simp only[RD]at ry;obtain⟨b,ys,e,s2,r2⟩:=ry;cases e;exact (wQ I s2 s1.sq).elim
   | _=>first|exact py.elim|(simp only[RD]at ry;cases ry)
  | _=>first|exact px.elim|(cases y with
   | tup es=>simp only[RD]at rx ry;obtain⟨b,ys,e,_⟩:=ry;rw[rx]at e;cases e
   | lst es=>simp only[RD]at rx ry;obtain⟨b,ys,e,_⟩:=ry;rw[rx]at e;cases e
   | _=>first|exact py.elim|(simp only[RD]at rx ry;subst rx;first|rfl|(cases ry;rfl)|cases ry))
structure Cmp3(A:Jy)(s:IX)(v u:IV)(b:Bool):Prop where
 eq:EqAt A s v u b
 rc:RcAt A s v u b
 ne:RcNeAt A s v u (!b)
theorem s_{ds es:List D}(n:Nat)(hn:n=min ds.length es.length):((List.range n).all (fun j=>fh (ds.getD j .non) (es.getD j .non)) && ds.length == es.length)=fh (.tup ds) (.tup es):=by
 symm;refine jq ?_;rw[Bool.and_eq_true,Op,beq_iff_eq];constructor
 ·rintro⟨h1,h2⟩
  congr 1;refine List.ext_getElem h2 fun i hi hj=>?_;have:=jG.mp (h1 i (mem_range.mpr (by walk_at "o")))
  rw[Jn,Jn,Jb hi,Jb hj]at this
  simpa using this
 ·intro h;cases h;exact⟨fun i _=>bo _,rfl⟩
theorem Cw{ds es:List D}:fh (.lst ds) (.lst es)=fh (.tup ds) (.tup es):=jq (by rw[jG];constructor<;>(intro h;cases h;rfl))
theorem Vals.getV:∀ {xs:List V} {us:List IV} {i:Nat} {u:IV},Vals xs us->us[i]?=some u->∃ x,xs[i]?=some x/\aF x u
 | _,_,_,_,.nil,e=>by simp at e
 | _,_,0,_,.cons r _,e=>by simp at e;subst e;exact⟨_,rfl,r⟩
 | _,_,i+1,u,.cons _ t,e=>by
  obtain⟨x,h1,h2⟩:=Vals.getV (i:=i) (u:=u) t (by simpa using e)
  exact⟨x,by simpa using h1,h2⟩
theorem RDs.getV{K:JD}{H:Hp}:∀ {ds:List D} {xs:List V} {i:Nat} {x:V},RDs K H ds xs->xs[i]?=some x->∃ d,ds[i]?=some d/\RD K H d x
 | [],xs,i,x,h,e=>by rw[h.inv_nil]at e;simp at e
 | d::ds,xs,i,x,h,e=>by
  obtain⟨y,r,e1,h1,h2⟩:=h.inv_cons;subst e1;cases i with
  | zero=>simp at e;subst e;exact⟨d,rfl,h1⟩
  | succ i=>
   obtain⟨z,q1,q2⟩:=RDs.getV (i:=i) (x:=x) h2 (by simpa using e)
   exact⟨z,by simpa using q1,q2⟩
def sc:D->Prop
 | .non=>True
 | .int _=>True
 | .str _=>True
 | _=>False
theorem Fb{j:Int}{t:Tok}{A:Jy}:Cmp3 A s .none (.int j t) (fh .non (.int j)):=by rw[bM (by intro z;cases z)];exact⟨EqAt.none_int _ _,RcAt.none_int _ _,RcNeAt.none_int _ _⟩
theorem E_{j:Str}{t:Tok}{A:Jy}:Cmp3 A s .none (.str j t) (fh .non (.str j)):=by rw[bM (by intro z;cases z)];exact⟨EqAt.none_str _ _,RcAt.none_str _ _,RcNeAt.none_str _ _⟩
theorem Fd{j:Int}{t:Tok}{A:Jy}:Cmp3 A s (.int j t) .none (fh (.int j) .non):=by rw[bM (by intro z;cases z)];exact⟨EqAt.int_none _ _,RcAt.int_none _ _,RcNeAt.int_none _ _⟩
theorem E8{j:Str}{t:Tok}{A:Jy}:Cmp3 A s (.str j t) .none (fh (.str j) .non):=by rw[bM (by intro z;cases z)];exact⟨EqAt.str_none _ _,RcAt.str_none _ _,RcNeAt.str_none _ _⟩
theorem Fc{i:Int}{j:Str}{t u:Tok}{A:Jy}:Cmp3 A s (.int i t) (.str j u) (fh (.int i) (.str j)):=by rw[bM (by intro z;cases z)];exact⟨EqAt.int_str _ _ _ _,RcAt.int_str _ _ _ _,RcNeAt.int_str _ _ _ _⟩
theorem E9{i:Str}{j:Int}{t u:Tok}{A:Jy}:Cmp3 A s (.str i t) (.int j u) (fh (.str i) (.int j)):=by rw[bM (by intro z;cases z)];exact⟨EqAt.str_int _ _ _ _,RcAt.str_int _ _ _ _,RcNeAt.str_int _ _ _ _⟩
theorem Fe{i j:Int}{t u:Tok}{A:Jy}:Cmp3 A s (.int i t) (.int j u) (fh (.int i) (.int j)):=by
 have e:fh (.int i) (.int j)=(i == j):=jq (by rw[beq_iff_eq];exact⟨fun z=>by rw[z],fun z=>by cases z;rfl⟩)
 rw[e];exact⟨EqAt.int_int _ _ _ _,RcAt.int_int _ _ _ _,RcNeAt.int_int _ _ _ _⟩
theorem E7{i j:Str}{t u:Tok}{A:Jy}:Cmp3 A s (.str i t) (.str j u) (fh (.str i) (.str j)):=by
 have e:fh (.str i) (.str j)=(i == j):=jq (by rw[beq_iff_eq];exact⟨fun z=>by rw[z],fun z=>by cases z;rfl⟩)
 rw[e];exact⟨EqAt.str_str _ _ _ _,RcAt.str_str _ _ _ _,RcNeAt.str_str _ _ _ _⟩
theorem Fa{A:Jy}:Cmp3 A s .none .none (fh .non .non):=by rw[bo];exact⟨EqAt.same _,RcAt.none_none,RcNeAt.none_none⟩
theorem lV{K:JD}{x:D}{v:V}{v':IV}(h:sc x)(r:RD K H x v)(l:aF v v'):(x=.non/\v'=.none)\/(∃ i t,x=.int i/\v'=.int i t)\/(∃ i t,x=.str i/\v'=.str i t):=by
 cases x with
 | non=>simp only[RD]at r;subst r;exact .inl ⟨rfl,l⟩
 | int i=>simp only[RD]at r;subst r;obtain⟨t,e⟩:=l;exact .inr (.inl ⟨i,t,rfl,e⟩)
 | str i=>simp only[RD]at r;subst r;obtain⟨t,e⟩:=l;exact .inr (.inr ⟨i,t,rfl,e⟩)
 | _=>exact h.elim
theorem AY{K:JD}{A:Jy}{x y:D}{v u:V}{v' u':IV}(h1:sc x)(h2:sc y)(rx:RD K H x v)(ry:RD K H y u)(lx:aF v v')(ly:aF u u'):Cmp3 A s v' u' (fh x y):=by
 rcases lV h1 rx lx with ⟨rfl,rfl⟩|⟨i,t,rfl,rfl⟩|⟨i,t,rfl,rfl⟩
 ·rcases lV h2 ry ly with ⟨rfl,rfl⟩|⟨j,u,rfl,rfl⟩|⟨j,u,rfl,rfl⟩
  ·exact Fa
  ·exact Fb
  ·exact E_
 ·rcases lV h2 ry ly with ⟨rfl,rfl⟩|⟨j,u,rfl,rfl⟩|⟨j,u,rfl,rfl⟩
  ·exact Fd
  ·exact Fe
  ·exact Fc
 ·rcases lV h2 ry ly with ⟨rfl,rfl⟩|⟨j,u,rfl,rfl⟩|⟨j,u,rfl,rfl⟩
  ·exact E8
  ·exact E9
  ·exact E7
theorem qr{n:Nat}{x:D}(p:pl n x):sc x\/(∃ m ds,n=m+1/\x=.tup ds/\∀ d∈ds,pl m d)\/(∃ m ds,n=m+1/\x=.lst ds/\∀ d∈ds,pl m d):=by
 cases x with
 | non=>exact .inl trivial
 | int _=>exact .inl trivial
 | str _=>exact .inl trivial
 | tup ds=>cases n with
  | zero=>exact p.elim
  | succ m=>exact .inr (.inl ⟨m,ds,rfl,rfl,p⟩)
 | lst ds=>cases n with
  | zero=>exact p.elim
  | succ m=>exact .inr (.inr ⟨m,ds,rfl,rfl,p⟩)
 | bl _=>cases n<;>exact p.elim
 | fl _=>cases n<;>exact p.elim
 | ref _=>cases n<;>exact p.elim
 | ty _=>cases n<;>exact p.elim
theorem AW{K:JD}{A:Jy}{b:IW}{its:Array IV}{es:List D}(hu0:A.units < JY)(t2:s.heap.IsTuple b its){x:D}{v:V}{v':IV}(h:sc x)(rx:RD K H x v)(lx:aF v v'):Cmp3 A s v' (.ref b) (fh x (.tup es))/\Cmp3 A s (.ref b) v' (fh (.tup es) x):=by
 rcases lV h rx lx with ⟨rfl,rfl⟩|⟨i,t,rfl,rfl⟩|⟨i,t,rfl,rfl⟩
 ·rw[bM (by intro z;cases z),bM (by intro z;cases z)]
  exact⟨⟨EqAt.none_tuple t2 hu0,RcAt.none_tuple t2 hu0,RcNeAt.none_tuple t2 hu0⟩,⟨EqAt.tuple_none t2 hu0,RcAt.tuple_none t2 hu0,RcNeAt.tuple_none t2 hu0⟩⟩
 ·rw[bM (by intro z;cases z),bM (by intro z;cases z)]
  exact⟨⟨EqAt.int_tuple _ _ t2 hu0,RcAt.int_tuple _ _ t2 hu0,RcNeAt.int_tuple _ _ t2 hu0⟩,⟨EqAt.tuple_int _ _ t2 hu0,RcAt.tuple_int _ _ t2 hu0,RcNeAt.tuple_int _ _ t2 hu0⟩⟩
 ·rw[bM (by intro z;cases z),bM (by intro z;cases z)]
  exact⟨⟨EqAt.str_tuple _ _ t2 hu0,RcAt.str_tuple _ _ t2 hu0,RcNeAt.str_tuple _ _ t2 hu0⟩,⟨EqAt.tuple_str _ _ t2 hu0,RcAt.tuple_str _ _ t2 hu0,RcNeAt.tuple_str _ _ t2 hu0⟩⟩
theorem AX{K:JD}{A:Jy}{b:IW}{its:Array IV}{es:List D}(hu0:A.units < JY)(t2:s.heap.IsList b its){x:D}{v:V}{v':IV}(h:sc x)(rx:RD K H x v)(lx:aF v v'):Cmp3 A s v' (.ref b) (fh x (.lst es))/\Cmp3 A s (.ref b) v' (fh (.lst es) x):=by
 rcases lV h rx lx with ⟨rfl,rfl⟩|⟨i,t,rfl,rfl⟩|⟨i,t,rfl,rfl⟩
 ·rw[bM (by intro z;cases z),bM (by intro z;cases z)]
  exact⟨⟨EqAt.none_list t2 hu0,RcAt.none_list t2 hu0,RcNeAt.none_list t2 hu0⟩,⟨EqAt.list_none t2 hu0,RcAt.list_none t2 hu0,RcNeAt.list_none t2 hu0⟩⟩
 ·rw[bM (by intro z;cases z),bM (by intro z;cases z)]
  exact⟨⟨EqAt.int_list _ _ t2 hu0,RcAt.int_list _ _ t2 hu0,RcNeAt.int_list _ _ t2 hu0⟩,⟨EqAt.list_int _ _ t2 hu0,RcAt.list_int _ _ t2 hu0,RcNeAt.list_int _ _ t2 hu0⟩⟩
 ·rw[bM (by intro z;cases z),bM (by intro z;cases z)]
  exact⟨⟨EqAt.str_list _ _ t2 hu0,RcAt.str_list _ _ t2 hu0,RcNeAt.str_list _ _ t2 hu0⟩,⟨EqAt.list_str _ _ t2 hu0,RcAt.list_str _ _ t2 hu0,RcNeAt.list_str _ _ t2 hu0⟩⟩
theorem pi(I:Inv X pins σ H s):∀ (n:Nat) {x y:D} {v u:V} {v' u':IV} {A:Jy},pl n x->pl n y->RD X.K H x v->RD X.K H y u->aF v v'->aF u u'->A.units+n < JY->Cmp3 A s v' u' (fh x y):=by
 intro n
 induction n with
 | zero=>
  intro x y v u v' u' A px py rx ry lx ly hu;rcases qr px with h1|⟨m,_,e,_⟩|⟨m,_,e,_⟩
  ·rcases qr py with h2|⟨m,_,e,_⟩|⟨m,_,e,_⟩
   ·exact AY h1 h2 rx ry lx ly
   ·cases e
   ·cases e
  ·cases e
  ·cases e
 | succ n ih=>
  intro x y v u v' u' A px py rx ry lx ly hu;have hu0:A.units < JY:=by walk_at "o"
  have hu1:A.in1.units+n < JY:=by show A.units+1+n < JY;omega
  have items:∀ {ds es:List D} {xs ys:List V} {its its2:List IV},(∀ d∈ds,pl n d)->(∀ d∈es,pl n d)->RDs X.K H ds xs->RDs X.K H es ys->Vals xs its->Vals ys its2->
    ∀ j (h1:j < its.toArray.size) (h2:j < its2.toArray.size),EqAt A.in1 s its.toArray[j] its2.toArray[j] (fh (ds.getD j .non) (es.getD j .non)):=by
   intro ds es xs ys its its2 p1 p2 r1 r2 w1 w2 j h1 h2;obtain⟨x1,e1,q1⟩:=Vals.getV (i:=j) (u:=its.toArray[j]) w1 (by simp at h1;simp[h1])
   obtain⟨x2,e2,q2⟩:=Vals.getV (i:=j) (u:=its2.toArray[j]) w2 (by simp at h2;simp[h2])
   obtain⟨d1,f1,g1⟩:=RDs.getV r1 e1;obtain⟨d2,f2,g2⟩:=RDs.getV r2 e2;have:=(ih (A:=A.in1) (p1 d1 (Js f1)) (p2 d2 (Js f2)) g1 g2 q1 q2 hu1).eq;rw[Jn,Jn,f1,f2];exact this
  rcases qr px with h1|⟨m,ds,e1,rfl,p1⟩|⟨m,ds,e1,rfl,p1⟩
  ·rcases qr py with h2|⟨m,es,e2,rfl,p2⟩|⟨m,es,e2,rfl,p2⟩
   ·exact AY h1 h2 rx ry lx ly
   ·simp only[RD]at ry;obtain⟨b,ys,rfl,s2,r2⟩:=ry;cases ly;obtain⟨its2,w2,t2,z2⟩:=I.tuple s2;exact (AW hu0 t2 h1 rx lx).1
   ·simp only[RD]at ry;obtain⟨b,ys,rfl,s2,r2⟩:=ry;cases ly;obtain⟨its2,w2,t2,z2⟩:=I.list s2.sq;exact (AX hu0 t2.isList h1 rx lx).1
  ·cases e1;simp only[RD]at rx;obtain⟨a,xs,rfl,s1,r1⟩:=rx;cases lx;obtain⟨its,w1,t1,z1⟩:=I.tuple s1;have l1:=w1.length;have l1':=r1.length;rcases qr py with h2|⟨m,es,e2,rfl,p2⟩|⟨m,es,e2,rfl,p2⟩
   ·exact (AW hu0 t1 h2 ry ly).2
   ·cases e2;simp only[RD]at ry;obtain⟨b,ys,rfl,s2,r2⟩:=ry;cases ly;obtain⟨its2,w2,t2,z2⟩:=I.tuple s2;have l2:=w2.length;have l2':=r2.length;have he:=items p1 p2 r1 r2 w1 w2;have hsz:its.toArray.size=ds.length:=by simp only[Jj];omega
    have Rl:its2.toArray.size=es.length:=by simp only[Jj];omega
    have rc:=RcAt.tuples (A:=A) t1 t2 hu0 he;have rn:=RcNeAt.tuples (A:=A) t1 t2 hu0 he;rw[hsz,Rl,s_ _ rfl]at rc;rw[hsz,Rl,s_ _ rfl]at rn;refine⟨?_,rc,rn⟩
    by_cases hab:a=b
    ·subst hab;have:D.tup ds=D.tup es:=n8 I (n+1) (v:=.ref a) px py (md s1 r1) (md s2 r2);rw[this,bo];exact EqAt.same _
    ·exact EqAt.of_refs hab rc
   ·simp only[RD]at ry;obtain⟨b,ys,rfl,s2,r2⟩:=ry;cases ly;obtain⟨its2,w2,t2,z2⟩:=I.list s2.sq;rw[bM (by intro z;cases z)]
    exact⟨EqAt.tuple_list t1 t2.isList hu0,RcAt.tuple_list t1 t2.isList hu0,RcNeAt.tuple_list t1 t2.isList hu0⟩
  ·cases e1;simp only[RD]at rx;obtain⟨a,xs,rfl,s1,r1⟩:=rx;cases lx;obtain⟨its,w1,t1,z1⟩:=I.list s1.sq;have l1:=w1.length;have l1':=r1.length;rcases qr py with h2|⟨m,es,e2,rfl,p2⟩|⟨m,es,e2,rfl,p2⟩
   ·exact (AX hu0 t1.isList h2 ry ly).2
   ·simp only[RD]at ry;obtain⟨b,ys,rfl,s2,r2⟩:=ry;cases ly;obtain⟨its2,w2,t2,z2⟩:=I.tuple s2;rw[bM (by intro z;cases z)]
    exact⟨EqAt.list_tuple t1.isList t2 hu0,RcAt.list_tuple t1.isList t2 hu0,RcNeAt.list_tuple t1.isList t2 hu0⟩
   ·cases e2;simp only[RD]at ry;obtain⟨b,ys,rfl,s2,r2⟩:=ry;cases ly;obtain⟨its2,w2,t2,z2⟩:=I.list s2.sq;have l2:=w2.length;have l2':=r2.length;have he:=items p1 p2 r1 r2 w1 w2;have hsz:its.toArray.size=ds.length:=by simp only[Jj];omega
    have Rl:its2.toArray.size=es.length:=by simp only[Jj];omega
    have rc:RcAt A s (.ref a) (.ref b) (fh (.lst ds) (.lst es))/\RcNeAt A s (.ref a) (.ref b) (!fh (.lst ds) (.lst es)):=by
     rw[Cw]
     by_cases hl:ds.length=es.length
     ·have rc:=RcAt.lists (A:=A) t1.isList t2.isList (by walk_at "o") hu0 he
      have rn:=RcNeAt.lists (A:=A) t1.isList t2.isList (by walk_at "o") hu0 he
      have e:=s_ (ds:=ds) (es:=es) its.toArray.size (by walk_at "o")
      rw[hl,beq_self_eq_true,Bool.and_true]at e;rw[e]at rc rn;exact⟨rc,rn⟩
     ·rw[bM (by intro z;cases z;exact hl rfl)]
      exact⟨RcAt.lists_lengths t1.isList t2.isList (by rw[hsz,Rl];simpa using hl) hu0,RcNeAt.lists_lengths t1.isList t2.isList (by rw[hsz,Rl];simpa using hl) hu0⟩
    refine⟨?_,rc.1,rc.2⟩
    by_cases hab:a=b
    ·subst hab;have:D.lst ds=D.lst es:=n8 I (n+1) (v:=.ref a) px py (nZ s1 r1) (nZ s2 r2);rw[this,bo];exact EqAt.same _
    ·exact EqAt.of_refs hab rc.1
end
end L3
namespace L2
open PySem PySem.Spec PyProof.Rows
def kq(cs:List Nat)(lo hi:Option Int):List Nat:=(cs.drop (HT.sIx cs.length 0 lo)).take (HT.sIx cs.length cs.length hi - HT.sIx cs.length 0 lo)
theorem zN(cs:Array Nat)(i k:Nat):(List.range k).filterMap (fun m=>cs[i+m]?)=(cs.toList.drop i).take k:=by
 induction k generalizing i with
 | zero=>simp
 | succ k ih=>
  rw[List.range_succ_eq_map,List.filterMap_cons,List.filterMap_map];have e:(fun m=>cs[i+m]?) ∘ Nat.succ=fun m=>cs[(i+1)+m]?:=by funext m;simp[Nat.succ_eq_add_one];congr 1;omega
  rw[e,ih (i+1)];cases h:cs.toList.drop i with
  | nil=>
   have hl:cs.toList.length<=i:=List.drop_eq_nil_iff.mp h;have h1:cs[i+0]?=none:=by simp at hl;simp[hl]
   have h2:cs.toList.drop (i+1)=[]:=List.drop_eq_nil_iff.mpr (by walk_at "o")
   rw[h1,h2];simp
  | cons c r=>
   have hlt:i < cs.toList.length:=by
    refine Nat.lt_of_not_le fun hle=>?_;rw[List.drop_eq_nil_iff.mpr hle]at h;cases h
   have h0:=KB hlt;rw[h]at h0;cases h0;have h1:cs[i+0]?=some cs.toList[i]:=by simp at hlt;simp[hlt]
   rw[h1,List.take_succ_cons]
theorem uT(n:Nat)(o:Option Int)(d:Nat)(hd:d<=n):(match o with
  | none=>(d:Int)
  | some i=>max 0 (min (if i < 0 then i+(n:Int)else i) (n:Int)))=((HT.sIx n d o:Nat):Int):=by
 cases o with
 | none=>rfl
 | some i=>
  simp only[HT.sIx]
  by_cases h:i < 0
  ·simp only[h,if_true];omega
  ·simp only[h,if_false];omega
theorem oV(lo hi:Option Int)(n:Nat):KP lo hi 1 n=(List.range (HT.sIx n n hi - HT.sIx n 0 lo)).map fun m=>HT.sIx n 0 lo+m:=by
 have h1:=uT n lo 0 (JQ _);have h2:=uT n hi n (le_refl _);have e:KP lo hi 1 n=NG ((HT.sIx n 0 lo:Nat):Int) ((HT.sIx n n hi:Nat):Int) 1:=by
  rw[<- h1,<- h2];unfold KP;cases lo<;>cases hi<;>simp
 rw[e];unfold NG;simp only[show (1:Int) > 0 by decide,if_true]
 have c:(if ((HT.sIx n 0 lo:Nat):Int) < ((HT.sIx n n hi:Nat):Int)then (((HT.sIx n n hi:Nat):Int) - ((HT.sIx n 0 lo:Nat):Int)+1 - 1) / 1 else 0).toNat=HT.sIx n n hi - HT.sIx n 0 lo:=by
  rw[Int.ediv_one];split<;>omega
 rw[c];refine Kq fun k _=>?_;omega
theorem ph(cs:List Nat)(lo hi:Option Int):(kq cs lo hi).length<=cs.length:=by
 unfold kq;rw[JN,K5];omega
theorem xv(x:Str)(lo hi:Option Int):Txt.slice x lo hi=⟨(kq x.cps.toList lo hi).toArray⟩:=by
 have hn:x.length=x.cps.toList.length:=by simp[Nc]
 have key:(KP lo hi 1 x.length).filterMap (x.cps[·]?)=kq x.cps.toList lo hi:=by
  rw[oV,List.filterMap_map];unfold kq;rw[<- hn,<- zN];rfl
 unfold Txt.slice;split
 ·rename_i h;rw[Bool.and_eq_true]at h;have hl:(KP lo hi 1 x.length).length=x.length:=by simpa using h.2
  rw[oV,IZ,List.length_range]at hl;have b1:HT.sIx x.length x.length hi<=x.length:=HT.sIx_le _ _ (le_refl _) _;have h0:HT.sIx x.length 0 lo=0\/x.length=0:=by walk_at "o"
  have e:kq x.cps.toList lo hi=x.cps.toList:=by
   unfold kq;rw[<- hn];rcases h0 with h0|h0
   ·have h3:HT.sIx x.length x.length hi=x.length:=by walk_at "o"
    rw[h0,h3,MZ,Nh,hn,JR]
   ·have:x.cps.toList=[]:=length_eq_zero_iff.mp (by walk_at "o")
    rw[this];simp
  rw[e]
 ·rw[key]
section
variable{X:Cx}
theorem Bl{ns:List Str}:∀ {us:List IV},Vals (ns.map V.str) us->StrsAre us ns:=by
 induction ns with
 | nil=>intro us r;cases r;exact .nil
 | cons n t ih=>
  intro us r;cases r with
  | cons a b=>
   obtain⟨tk,rfl⟩:=a;exact .cons n tk (ih b)
theorem B8:Iv X "str.join" (fun x xs H Q=>∃ (z:Str) (a:IW) (ys:List Str),x=.str z/\xs=[.ref a]/\jW X.K H a (ys.map V.str)/\(ys.map (·.length)).sum+ys.length*z.length<=16777216/\Q (.str (Txt.join z ys)) H):=by
 intro pins s σ H x xs v us Q I rx rs h;obtain⟨z,a,ys,rfl,rfl,hq,hl,q⟩:=h;obtain⟨t,rfl⟩:=rx;obtain⟨u,rfl,ru⟩:=qh rs;cases ru;obtain⟨its,rv,p,hz⟩:=I.list hq;exact join_list p.isList (by simpa using Bl rv) hl fun t' k=>⟨.str _,H,I.tok k,⟨t',rfl⟩,q⟩
def tT(x:Str)(k:Nat):Str:=⟨(List.replicate k x.cps.toList).flatten.toArray⟩
theorem mG(x:Array Nat):∀ (k:Nat) (acc:List Nat),(List.replicate k x).foldl (· ++ ·) acc.toArray=(acc ++ (List.replicate k x.toList).flatten).toArray
 | 0,acc=>by simp
 | k+1,acc=>by
  rw[List.replicate_succ,L0,List.replicate_succ,KM];have:acc.toArray ++ x=(acc ++ x.toList).toArray:=by simp
  rw[this,mG x k];simp
theorem vM:iD X (K0 .Mult) (fun x y H Q=>∃ z n,x=.str z/\y=.int n/\-(2 ^ 63)<=n/\n < 2 ^ 63/\z.length*n.toNat<=Jg/\Q (.str (tT z n.toNat)) H):=by
 intro pins s σ H x y v u Q I rx ry h;obtain⟨z,n,rfl,rfl,h1,h2,hl,q⟩:=h;obtain⟨t,rfl⟩:=rx;obtain⟨t',rfl⟩:=ry;have hn:=jm;have len_rep:(tT z n.toNat).length=z.length*n.toNat:=by
  simp[tT,Nc,Nat.mul_comm]
 have bound:¬ n < 1->(z.length:Int)<=(2 ^ 63 - 1) / n:=fun h=>by
  rw[Int.le_ediv_iff_mul_le (by walk_at "o")]
  have e:(z.length:Int)*n=((z.length*n.toNat:Nat):Int):=by
   rw[Int.natCast_mul,Int.toNat_of_nonneg (by walk_at "o")]
  rw[e];omega
 refine PySem.P.mul_str (by rw[decide_eq_false (by walk_at "o"),decide_eq_false (by walk_at "o")];rfl) (fun h _=>by have:=bound h;omega) (fun h _=>?_) ?_
 ·unfold Builtin.Str.tooLong;exact decide_eq_false (by walk_at "o")
 ·have fin:∀ tk s',Inv X pins σ H s'->∀ w,w=tT z n.toNat->EP X pins σ Q (.str w tk) s':=fun tk s' I' w e=>⟨.str (tT z n.toNat),H,I',⟨tk,by rw[e]⟩,q⟩
  split
  ·rename_i hlt;have:n.toNat=0:=by walk_at "o"
   exact⟨by decide,fin _ _ (I.tok _) _ (by rw[this];rfl)⟩
  ·split
   ·rename_i hlt he;refine fin _ _ I _ ?_;rw[Bool.or_eq_true]at he;rcases he with he|he
    ·have:n=1:=by simpa using he
     subst this;simp[tT]
    ·have hz:z.length=0:=by simpa using he
     have hz':z.cps=#[]:=Array.eq_empty_of_size_eq_zero hz;cases z;simp only at hz';subst hz';simp[tT]
   ·refine⟨?_,fin _ _ (I.tok _) _ ?_⟩
    ·show (⟨_⟩:Str).length<=Jg;have e:=mG z.cps n.toNat [];simp only[KY]at e;rw[show (#[]:Array Nat)=[].toArray from rfl,e]
     exact le_trans (Ki len_rep) hl
    ·have e:=mG z.cps n.toNat [];simp only[KY]at e;rw[show (#[]:Array Nat)=[].toArray from rfl,e]
     rfl
theorem DO:yz X (fun x lo hi H Q=>∃ z,x=.str z/\z.length<=Jg/\Q (.str ⟨(kq z.cps.toList lo hi).toArray⟩) H):=by
 intro pins s σ H x v vl vu lo hi sl Q I rx hs pl pu h;obtain⟨z,rfl,hz,q⟩:=h;obtain⟨t,rfl⟩:=rx;refine⟨"str",_,PySem.F.slot_str_getitem.lookup,OB _ _ _,?_⟩;have part:∀ {v:IV} {o:Option Int},MS v o->∃ p:Option (Int×Tok),v=partValue p/\p.map (·.1)=o:=by
  intro v o h;cases h with
  | none=>exact⟨none,rfl,rfl⟩
  | int i t=>exact⟨some (i,t),rfl,rfl⟩
 obtain⟨pl',e1,f1⟩:=part pl;obtain⟨pu',e2,f2⟩:=part pu;subst e1 e2;refine wpAny_getItem_str_slice (l:=pl') (u:=pu') (st:=none) ?_ rfl ?_
 ·obtain⟨o,a,b,c⟩:=hs;exact⟨o,a,b,c⟩
 ·unfold sliceMade;subst f1 f2;have e:(if (((none:Option (Int×Tok)).map (·.1)).getD 1 == 1 && (slicePicked z pl' pu' none).length == z.length)=true then z else ⟨((slicePicked z pl' pu' none).filterMap (z.cps[·]?)).toArray⟩)=(⟨(kq z.cps.toList (pl'.map (·.1)) (pu'.map (·.1))).toArray⟩:Str):=by
   rw[<- xv];rfl
  refine post_val_or_str ⟨?_,fun t' k=>?_⟩
  ·rw[e];show (kq z.cps.toList (pl'.map (·.1)) (pu'.map (·.1))).toArray.size<=Jg
   rw[Jj];refine le_trans (ph _ _ _) ?_
   simpa[Nc]using hz
  ·rw[e];exact⟨.str _,H,I.tok k,⟨t',rfl⟩,q⟩
end
end L2
namespace L3
open PySem PySem.Spec PyProof.Rows L2
def jA(K:JD)(r3:R3):R2:=fun v u H Q=>∃ x y G Q3,RD K H x v/\RD K H y u/\RG K H G/\r3 x y G Q3/\qd K G H Q3 Q
def gM(r:R3)(ta tb:bP):bP:=fun σ G Q=>ta σ G fun x G1=>tb σ G1 fun y G2=>r (val x) (val y) G2 Q
section
variable{X:Cx}{a b c:JJ}{ta tb tc:bP}{pos:Pos}{r:R3}
theorem Fu{K:JD}{Q:VK}{τ:St}{H:Hp}(h:aI K (gM r ta tb) τ H Q):Fo (jA K r) (wT K ta) (wT K tb) τ H Q:=by
 obtain⟨σ,G,Q3,rs,rg,h,k⟩:=h;refine⟨σ,G,_,rs,rg,h,fun x G1 v H1 h1 k1 rg1 re1=>⟨σ,G1,_,rs.mono (k1.stb rg),rg1,h1,fun y G2 u H2 h2 k2 rg2 re2=>?_⟩⟩;exact⟨val x,val y,G2,Q3,RD.mono (k2.stb rg1) _ _ re1,re2,rg2,h2,k.base (k1.trans k2)⟩
theorem Ej{op:M_}(ho:iD X (J_ op) (jA X.K r))(ha:PE X a (aI X.K ta))(hb:PE X b (aI X.K tb))(hm:Kn op b=false):PE X (.Compare a [op] [b] pos) (aI X.K (gM r ta tb)):=
 (BP ho (fx ha) (fx hb) hm).imp fun _ _ _ h=>Fu h
theorem cq{op:M_}(ho:iD X (J_ op) (jA X.K r))(ha:PE X a (aI X.K ta))(hb:PE X b (aI X.K tb))(hm:Kn op b=false):PT X (.Compare a [op] [b] pos) (du X.K (dW (gM r ta tb))):=
 (wJ ho (fx ha) (fx hb) hm).imp fun _ _ _ h=>Fu (qY h)
def yF:R3:=fun x y G Q=>match x,y with
 | .bl a,.bl b=>Q (.bl (a == b)) G
 | x,y=>pl 8 x/\pl 8 y/\Q (.bl (fh x y)) G
def A7:R3:=fun x y G Q=>match x,y with
 | .bl a,.bl b=>Q (.bl (!(a == b))) G
 | x,y=>pl 8 x/\pl 8 y/\Q (.bl (!fh x y)) G
theorem qW(hu:X.A.units+8 < JY):iD X (J_ .Eq) (jA X.K yF):=by
 rintro pins s σ H v u v' u' Q I rv ru ⟨x,y,G,Q3,rx,ry,rg,h,k⟩
 unfold yF at h;split at h
 ·rename_i a b;simp only[RD]at rx ry;subst rx ry;cases rv;cases ru;exact SeqAt.RcAt.bool_bool a b X.prog X.w X.xe _ ⟨.bl (a == b),H,I,rfl,k _ G _ H h Kp.refl rg (.of gC)⟩
 ·obtain⟨p1,p2,q⟩:=h;exact (pi I 8 p1 p2 rx ry rv ru hu).rc X.prog X.w X.xe _ ⟨.bl _,H,I,rfl,k _ G _ H q Kp.refl rg (.of gC)⟩
theorem u7(hu:X.A.units+8 < JY):iD X (J_ .NotEq) (jA X.K A7):=by
 rintro pins s σ H v u v' u' Q I rv ru ⟨x,y,G,Q3,rx,ry,rg,h,k⟩
 unfold A7 at h;split at h
 ·rename_i a b;simp only[RD]at rx ry;subst rx ry;cases rv;cases ru;exact SeqAt.RcNeAt.bool_bool a b X.prog X.w X.xe _ ⟨.bl (!(a == b)),H,I,rfl,k _ G _ H h Kp.refl rg (.of gC)⟩
 ·obtain⟨p1,p2,q⟩:=h;exact (pi I 8 p1 p2 rx ry rv ru hu).ne X.prog X.w X.xe _ ⟨.bl _,H,I,rfl,k _ G _ H q Kp.refl rg (.of gC)⟩
abbrev fB:=List D->Gp->pC->Prop
def aJ(K:JD)(sp:fB):Sp:=fun vs H Q _=>∃ ds G Q3,RDs K H ds vs/\RG K H G/\sp ds G Q3/\qd K G H Q3 Q
def iq(N:List Str)(ds:List D):gy:=ds.map some ++ List.replicate (N.length - ds.length) none
theorem zm{K:JD}{H:Hp}{N:List Str}{ds:List D}{vs:List V}(r:RDs K H ds vs):RS K H (iq N ds) (L2.start N vs):=by
 unfold iq L2.start;have hl:=r.length;rw[hl];have rep:∀ n:Nat,Mw (yI K H) (List.replicate n none) (List.replicate n none):=fun n=>by
  induction n with
  | zero=>exact .nil
  | succ n ih=>exact .cons (show yI K H none none from trivial) ih
 have go:∀ {ds:List D} {vs:List V} {σ:gy} {τ:St},RDs K H ds vs->Mw (yI K H) σ τ->Mw (yI K H) (ds.map some ++ σ) (vs.map some ++ τ):=by
  intro ds
  induction ds with
  | nil=>intro vs σ τ r q;rw[r.inv_nil];exact q
  | cons d t ih=>
   intro vs σ τ r q;obtain⟨x,xs,e,h1,h2⟩:=r.inv_cons;subst e;exact .cons (show yI K H (some d) (some x)from h1) (ih h2 q)
 exact go r (rep _)
variable{P:Jw}{w:JG}{K:JD}{mg:Str->Option IV}{base:JI}
structure Fn3(P:Jw)(w:JG)(K:JD)(mg:Str->Option IV)(base:JI)(k:Nat)(x:Str)(dds:List D)(sp:fB):Prop where
 ex:∃ f fd ps ds dvs,FnOk P w K mg base gF k f fd ps (aJ K sp)/\mg x=some (.ref f)/\J1 K (.ref f)=true/\gr K fd ps ds/\Vals dvs ds/\∀ H,RDs K H dds dvs
structure Mt3(P:Jw)(w:JG)(K:JD)(mg:Str->Option IV)(base:JI)(k:Nat)(C:IW)(m:Str)(dds:List D)(sp:fB):Prop where
 cl:Cls K C
 ex:∃ f fd ps ds dvs,FnOk P w K mg base gF k f fd ps (aJ K sp)/\Meth K C m f/\gr K fd ps ds/\Vals dvs ds/\∀ H,RDs K H dds dvs
structure Mk3(P:Jw)(w:JG)(K:JD)(mg:Str->Option IV)(base:JI)(k:Nat)(x:Str)(C:IW)(dds:List D)(sp:fB):Prop where
 ex:∃ f fd ps ds dvs,Mk K C f/\mg x=some (.ref C)/\FnOk P w K mg base gF k f fd ps (aJ K sp)/\gr K fd ps ds/\Vals dvs ds/\∀ H,RDs K H dds dvs
def bB(sp:fB)(dds:List D)(ta:lP):bP:=fun σ G Q=>ta σ G fun ds G1=>sp (ds ++ dds) G1 Q
def Gu(C:IW)(L:List Str)(sp:fB)(dds:List D)(to:bP)(ta:lP):bP:=fun σ G Q=>to σ G fun x G1=>match x with
 | .ref a=>match G1 a with
  | some (.ins C' L' _)=>(C'=C/\L'=L)/\ta σ G1 fun ds G2=>sp (.ref a::(ds ++ dds)) G2 Q
  | _=>False
 | _=>False
def o9(C:IW)(sp:fB)(dds:List D)(ta:lP):bP:=fun σ G Q=>ta σ G fun ds G1=>∀ a,G1 a=none->sp (.ref a::(ds ++ dds)) (gset G1 a (.ins C [] [])) fun d G2=>d=.non/\Q (.ref a) G2
variable{e o:JJ}{es:List JJ}{t:lP}{te to:bP}{k:Nat}{x m:Str}{p apos:Pos}{dds:List D}{sp:fB}{C:IW}
theorem yt{Q:VK}{τ:St}{H:Hp}{dvs:List V}(hd:∀ H,RDs K H dds dvs)(h:aI K (bB sp dds t) τ H Q)(E:XK):C5 (aJ K sp) dvs E (fA K t) τ H Q:=by
 obtain⟨σ,G,Q3,rs,rg,h,kk⟩:=h;exact⟨σ,G,_,rs,rg,h,fun ds G1 vs H1 q k1 rg1 rds=>⟨ds ++ dds,G1,Q3,rds.append (hd H1),rg1,q,kk.base k1⟩⟩
theorem bA(F:Fn3 X.prog X.w X.K X.mg X.base k x dds sp)(hr:Room k X.A)(hg:Gl X x)(ha:PA X (e::es) (fA X.K t))(hdb:(x == ("__debug__":Str))=false:=by decide)(he:Jx (e::es) X.env=(false,eval e X.env)::Jx es X.env:=by rfl)
  (hpl:(K3 pos (Jx es X.env)).any (·.1)=false:=by rfl):PE X (.Call (.Name x p) (e::es) [] pos) (aI X.K (bB sp dds t)):=by
 obtain⟨f,fd,ps,ds,dvs,ok,hm,hk,hb,hv,hd⟩:=F.ex;exact (BQ ok hr hg hm hk hb hv wM ha hdb he hpl).imp fun _ _ _ h=>yt hd h E0
theorem xU{K:JD}{gs:List (Str×V)}{L:List Str}{m:Str}(h:gs.map (·.1)=L)(n:m∉L):gs.lookup m=none:=by
 subst h
 induction gs with
 | nil=>rfl
 | cons g r ih=>
  obtain⟨y,v⟩:=g;rw[Jz,Kg,not_or]at n;rw[Le,show (m == y)=false by simpa using n.1]
  exact ih n.2
theorem xT{Q:VK}{τ:St}{H:Hp}{dvs:List V}(hd:∀ H,RDs K H dds dvs)(h:aI K (o9 C sp dds t) τ H Q)(E:XK):C4 C (aJ K sp) dvs E (fA K t) τ H Q:=by
 obtain⟨σ,G,Q3,rs,rg,h,kk⟩:=h;refine⟨σ,G,_,rs,rg,h,fun ds G1 vs H1 q k1 rg1 rds a dx na nd ne=>?_⟩;have kd:Kp G1 H1 G1 (bG H1 dx (.own a)):=Kp.laid nd;have rgd:RG K (bG H1 dx (.own a)) G1:=rg1.laid nd;have na':bG H1 dx (.own a) a=none:=by rw[ax (Ne.symm ne)];exact na
 have ka:Kp G1 H1 (gset G1 a (.ins C [] [])) (bG (bG H1 dx (.own a)) a (.ins C dx [])):=fun b h' e n=>by
  have:b≠a:=b6 e na;exact⟨by rw[ax this,ax (b6 e nd)];exact e,by rw[aK this];exact n⟩
 have st:Stb K H1 (bG (bG H1 dx (.own a)) a (.ins C dx [])):=ka.stb rg1;have rga:RG K (bG (bG H1 dx (.own a)) a (.ins C dx [])) (gset G1 a (.ins C [] [])):=fun b o q=>by
  by_cases hb:b=a
  ·subst hb;rw[az]at q;cases q;exact⟨_,aU,rfl,rfl,RDs.nil⟩
  ·rw[aK hb]at q;obtain⟨h',e1,r⟩:=rg1 b o q;exact⟨h',by rw[ax hb,ax (b6 e1 nd)];exact e1,r.mono st⟩
 refine⟨.ref a::(ds ++ dds),_,_,RDs.cons iX (RDs.append (RDs.mono st _ _ rds) (hd _)),rga,q a (rg1.free na),fun d G2 v H2 q2 k2 rg2 re=>?_⟩;obtain⟨rfl,q2⟩:=q2;exact⟨re.non,kk _ G2 _ H2 q2 (k1.trans (ka.trans k2)) rg2 (.of iX)⟩
theorem rP(F:Mk3 X.prog X.w X.K X.mg X.base k x C dds sp)(hr:Room (k+1) X.A)(hg:Gl X x)(ha:PA X (e::es) (fA X.K t))(hdb:(x == ("__debug__":Str))=false:=by decide)(he:Jx (e::es) X.env=(false,eval e X.env)::Jx es X.env:=by rfl)
  (hpl:(K3 pos (Jx es X.env)).any (·.1)=false:=by rfl):PE X (.Call (.Name x p) (e::es) [] pos) (aI X.K (o9 C sp dds t)):=by
 obtain⟨f,fd,ps,ds,dvs,M,hm,ok,hb,hv,hd⟩:=F.ex;exact (BN M ok hr hg hm hb hv wM ha hdb he hpl).imp fun _ _ _ h=>xT hd h E0
def HR(C:IW)(L:List Str)(i:Nat)(to:bP):bP:=fun σ G Q=>to σ G fun x G1=>match x with
 | .ref a=>match G1 a with
  | some (.ins C' L' ds)=>(C'=C/\L'=L)/\match ds[i]? with
   | some d=>Q d G1
   | none=>False
  | _=>False
 | _=>False
theorem put_new:∀ {gs:List (Str×V)} {f:Str} (v:V),f∉gs.map (·.1)->g_ f v gs=gs ++ [(f,v)]
 | [],f,v,h=>rfl
 | (g,u)::r,f,v,h=>by
  rw[Jz,Kg,not_or]at h;simp only[g_,if_neg (Ne.symm h.1),put_new v h.2,LV]
def FH(C:IW)(L:List Str)(i:Nat)(to tv:bP):d9:=fun D σ G=>tv σ G fun d G1=>to σ G1 fun x G2=>match x with
 | .ref a=>match G2 a with
  | some (.ins C' L' ds)=>(C'=C/\L'=L)/\D.nx σ (gset G2 a (.ins C L (ds.set i (val d))))
  | _=>False
 | _=>False
def FG(C:IW)(L:List Str)(f:Str)(to tv:bP):d9:=fun D σ G=>tv σ G fun d G1=>to σ G1 fun x G2=>match x with
 | .ref a=>match G2 a with
  | some (.ins C' L' ds)=>(C'=C/\L'=L)/\D.nx σ (gset G2 a (.ins C (L ++ [f]) (ds ++ [val d])))
  | _=>False
 | _=>False
theorem DY{H:Hp}{G:Gp}{a:IW}{C2 dx:IW}{gs gs':List (Str×V)}{L':List Str}{ds':List D}(rg:RG K H G)(e1:H a=some (.ins C2 dx gs))(r1:gs'.map (·.1)=L')(r2:RDs K H ds' (gs'.map (·.2)))(hg:G a≠none):
  Kp G H (gset G a (.ins C2 L' ds')) (bG H a (.ins C2 dx gs'))/\RG K (bG H a (.ins C2 dx gs')) (gset G a (.ins C2 L' ds')):=by
 have kp:Kp G H (gset G a (.ins C2 L' ds')) (bG H a (.ins C2 dx gs')):=fun b h e n=>by
  have:b≠a:=fun z=>by subst z;exact hg n
  exact⟨by rw[ax this];exact e,by rw[aK this];exact n⟩
 have st:=kp.stb rg;refine⟨kp,fun b o q=>?_⟩
 by_cases hb:b=a
 ·subst hb;rw[az]at q;cases q;exact⟨_,aU,rfl,r1,RDs.mono st _ _ r2⟩
 ·rw[aK hb]at q;obtain⟨h',e2,r⟩:=rg b o q;exact⟨h',by rw[ax hb];exact e2,r.mono st⟩
def HB(te:bP)(g:u0):d9:=fun D σ G=>te σ G fun d G'=>g (val d) σ G' D.nx
abbrev xl:=List D->Gp->pC->Prop
def lA(K:JD)(r3:xl):List V->Hp->VK->Prop:=fun vs H Q=>∃ ds G Q3,RDs K H ds vs/\RG K H G/\r3 ds G Q3/\qd K G H Q3 Q
def eB(r:xl)(ta:lP):bP:=fun σ G Q=>ta σ G fun ds G1=>r ds G1 Q
variable{id T:String}{r3:xl}
theorem Dq{Q:VK}{τ:St}{H:Hp}(h:aI K (eB r3 t) τ H Q):Hw (lA K r3) (fA K t) τ H Q:=by
 obtain⟨σ,G,Q3,rs,rg,h,kk⟩:=h;exact⟨σ,G,_,rs,rg,h,fun ds G1 vs H1 q k1 rg1 rds=>⟨ds,G1,Q3,rds,rg1,q,kk.base k1⟩⟩
theorem bV(hc:eV X (.builtin id) (lA X.K r3))(hg:Gl X x)(hm:X.mg x=none)(hv:KN x=some (.builtin id))(ha:PA X (e::es) (fA X.K t))(hn:x≠"__name__":=by decide)(hdb:(x == ("__debug__":Str))=false:=by decide)
  (he:Jx (e::es) X.env=(false,eval e X.env)::Jx es X.env:=by rfl) (hpl:(K3 pos (Jx es X.env)).any (·.1)=false:=by rfl):PE X (.Call (.Name x p) (e::es) [] pos) (aI X.K (eB r3 t)):=
 (zS hc hg hm hv ha hn hdb he hpl).imp fun _ _ _ h=>Dq h
theorem t9(hc:eV X (.type T) (lA X.K r3))(hg:Gl X x)(hm:X.mg x=none)(hv:KN x=some (.type T))(ha:PA X (e::es) (fA X.K t))(hn:x≠"__name__":=by decide)(hdb:(x == ("__debug__":Str))=false:=by decide)
  (he:Jx (e::es) X.env=(false,eval e X.env)::Jx es X.env:=by rfl) (hpl:(K3 pos (Jx es X.env)).any (·.1)=false:=by rfl):PE X (.Call (.Name x p) (e::es) [] pos) (aI X.K (eB r3 t)):=
 (xJ hc hg hm hv ha hn hdb he hpl).imp fun _ _ _ h=>Dq h
def i7:xl:=fun ds G Q=>match ds with
 | [.str z]=>z.length<=Jg/\Q (.int z.length) G
 | [d]=>match yH G d with
  | some es=>Q (.int es.length) G
  | none=>False
 | _=>False
theorem fX{H:Hp}{d:D}{vs:List V}(r:RDs K H [d] vs):∃ v,vs=[v]/\RD K H d v:=by
 obtain⟨v,t,e,h1,h2⟩:=r.inv_cons;have:=h2.inv_nil;subst this;exact⟨v,e,h1⟩
theorem b_len:eV X (.builtin "len") (lA X.K i7):=((sP (X:=X)).or (sQ (X:=X))).imp fun vs H Q zz=>by
 obtain⟨ds,G,Q3,rds,rg,h,kk⟩:=zz;unfold i7 at h;split at h
 ·rename_i z;obtain⟨v,rfl,rd⟩:=fX rds;simp only[RD]at rd;subst rd;exact .inl ⟨z,rfl,h.1,kk _ G _ H h.2 Kp.refl rg (.of eY)⟩
 ·rename_i d _;obtain⟨v,rfl,rd⟩:=fX rds;split at h
  ·rename_i es he;obtain⟨a,xs,rfl,s,r⟩:=mJ (G:=G) (H:=H) he (.of rd) rg;exact .inr ⟨a,xs,rfl,s,by rw[<- r.length];exact kk _ G _ H h Kp.refl rg (.of eY)⟩
  ·exact h.elim
 ·exact h.elim
def xf:xl:=fun ds G Q=>match ds with
 | [d]=>match yH G d with
  | some es=>Q (.fl es) G
  | none=>False
 | _=>False
theorem b_list:eV X (.type "list") (lA X.K xf):=(sO (X:=X)).imp fun vs H Q zz=>by
 obtain⟨ds,G,Q3,rds,rg,h,kk⟩:=zz;unfold xf at h;split at h
 ·rename_i d;obtain⟨v,rfl,rd⟩:=fX rds;split at h
  ·rename_i es he;obtain⟨a,xs,rfl,s,r⟩:=mJ (G:=G) (H:=H) he (.of rd) rg;exact⟨a,xs,rfl,s,fun p hp=>kk _ G _ _ h (Kp.laid hp) (rg.laid hp) (sF rg hp r)⟩
  ·exact h.elim
 ·exact h.elim
def sS:xl:=fun ds G Q=>match ds with
 | [d]=>match yH G d with
  | some es=>Q (.tup es) G
  | none=>False
 | _=>False
theorem b_tuple:eV X (.type "tuple") (lA X.K sS):=(p_ (X:=X)).imp fun vs H Q zz=>by
 obtain⟨ds,G,Q3,rds,rg,h,kk⟩:=zz;unfold sS at h;split at h
 ·rename_i d;obtain⟨v,rfl,rd⟩:=fX rds;split at h
  ·rename_i es he;obtain⟨a,xs,rfl,s,r⟩:=mJ (G:=G) (H:=H) he (.of rd) rg;refine⟨a,xs,rfl,?_⟩;rcases s with s|s
   ·exact .inl ⟨s,fun p hp=>kk _ G _ _ h (Kp.laid hp) (rg.laid hp) (.of (kH rg hp r))⟩
   ·exact .inr ⟨s,kk _ G _ H h Kp.refl rg (.of (md s r))⟩
  ·exact h.elim
 ·exact h.elim
def HY:xl:=fun ds G Q=>match ds with
 | [d]=>∃ ns:List Int,qR G d=some (ns.map D.int)/\Q (.int ns.sum) G
 | _=>False
def HZ:xl:=fun ds G Q=>match ds with
 | [.int i,.int j]=>Q (.int (if j < i then j else i)) G
 | _=>False
def H_:xl:=fun ds G Q=>match ds with
 | [.int i,.int j]=>Q (.int (if j > i then j else i)) G
 | _=>False
end
section
variable{X:Cx}
def vT:R3:=fun x y G Q=>match x,y with
 | .int i,.int j=>A6 i j/\Q (.int (i*j)) G
 | .str z,.int n=>(-(2 ^ 63)<=n/\n < 2 ^ 63/\z.length*n.toNat<=Jg)/\Q (.str (tT z n.toNat)) G
 | _,_=>False
theorem wA:iD X (K0 .Mult) (fy X.K vT):=((Ep (X:=X)).or (vM (X:=X))).imp fun v u H Q zz=>by
 obtain⟨x,y,G0,H0,G,Q3,rx,ry,rg,h,k⟩:=zz;unfold vT at h;split at h
 ·rename_i i j;exact .inl ⟨i,j,rx.int,ry.int,h.1,k _ G _ H h.2 Kp.refl rg (.of eY)⟩
 ·rename_i z n;exact .inr ⟨z,n,rx.str,ry.int,h.1.1,h.1.2.1,h.1.2.2,k _ G _ H h.2 Kp.refl rg (.of ir)⟩
 ·exact h.elim
def y_:GY:=fun x lo hi G Q=>match x with
 | .str z=>z.length<=Jg/\Q (.str ⟨(kq z.cps.toList lo hi).toArray⟩) G
 | .tup ds=>¬ (HT.sIx ds.length 0 lo=0/\HT.sIx ds.length ds.length hi=ds.length)/\Q (.tup (cutD ds lo hi)) G
 | x=>match qR G x with
  | some ds=>Q (.fl (cutD ds lo hi)) G
  | none=>False
theorem tD:yz X (An X.K y_):=((DO (X:=X)).or ((DN (X:=X)).or (Bp (X:=X)))).imp fun v lo hi H Q zz=>by
 obtain⟨x,G0,H0,G,Q3,rx,rg,h,k⟩:=zz;unfold y_ at h;split at h
 ·rename_i z;exact .inl ⟨z,rx.str,h.1,k _ G _ H h.2 Kp.refl rg (.of ir)⟩
 ·rename_i ds;obtain⟨a,xs,rfl,s,r⟩:=rx.tup;refine .inr (.inl ⟨a,xs,rfl,s,by rw[<- r.length];exact h.1,fun p hp=>k _ G _ _ h.2 (Kp.laid hp) (rg.laid hp) (.of (kH rg hp (w4 r lo hi)))⟩)
 ·split at h
  ·rename_i ds hds;obtain⟨a,xs,rfl,s,r⟩:=iC hds rx rg;exact .inr (.inr ⟨a,xs,rfl,s,fun p hp=>k _ G _ _ h (Kp.laid hp) (rg.laid hp) (sF rg hp (w4 r lo hi))⟩)
  ·exact h.elim
def uN(to:bP)(ta:lP):bP:=fun σ G Q=>to σ G fun x G1=>match x with
 | .str z=>ta σ G1 fun ds G2=>match ds with
  | [d]=>∃ ys:List Str,qR G2 d=some (ys.map D.str)/\(ys.map (·.length)).sum+ys.length*z.length<=16777216/\Q (.str (Txt.join z ys)) G2
  | _=>False
 | _=>False
variable{o e:JJ}{es:List JJ}{to te:bP}{t:lP}{apos cpos pos p:Pos}
theorem zU(ho:PE X o (aI X.K to))(ha:PA X [e] (fA X.K t))(QI:K9 o "join" X.env (eval o X.env)=eval o X.env:=by rfl)
  (Ro:((K3 cpos (Jx [e] X.env)).all (fun x=>!x.1) && (Nl cpos (Mv [] X.env)).all (fun x=>x.1.isSome)
   && decide (([e]:List JJ).length+([]:List M4).length+(if ([]:List M4).isEmpty then 0 else 1) < 30))=true:=by rfl)
  (QH:(apos.endLine == cpos.line)=true:=by rfl) (hs:Jx [e] X.env=(false,eval e X.env)::Jx [] X.env:=by rfl) (Q7:(K3 cpos (Jx [] X.env)).any (·.1)=false:=by rfl):
  PE X (.Call (.Attribute o "join" apos) [e] [] cpos) (aI X.K (uN to t)):=
 (Db PySem.F.plainAttrs_str PySem.F.slot_str_join PySem.F.type_str_join B8 ho ha QI Ro QH hs Q7).imp fun τ H Q zz=>by
 obtain⟨σ,G,Q3,rs,rg,h,k⟩:=zz;exact (
  ⟨σ,G,_,rs,rg,h,fun d G1 v H1 q k1 rg1 re=>by
    cases d with
    | str z=>
     rw[re.str];refine⟨rfl,σ,G1,_,rs.mono (k1.stb rg),rg1,q,fun ds G2 vs H2 q2 k2 rg2 rds=>?_⟩;split at q2
     ·rename_i d;obtain⟨v2,rfl,rd⟩:=fX rds;obtain⟨ys,he,hl,q2⟩:=q2;obtain⟨a,xs,rfl,s,r⟩:=iC (G:=G2) (H:=H2) he (.of rd) rg2;rw[r.strs_inv ys]at s;exact⟨z,a,ys,rfl,rfl,s,hl,k _ G2 _ H2 q2 (k1.trans k2) rg2 (.of ir)⟩
     ·exact q2.elim
    | _=>exact q.elim⟩)
def i6(to:bP)(ta:lP):bP:=fun σ G Q=>to σ G fun x G1=>match x with
 | .ref a=>(∃ ds,G1 a=some (.lst ds))/\ta σ G1 fun es G2=>match es with
  | [d]=>match G2 a with
   | some (.lst ds)=>ds.length < Jg/\Q .non (gset G2 a (.lst (ds ++ [d])))
   | _=>False
  | _=>False
 | _=>False
theorem Ca{K:JD}{H:Hp}{G:Gp}{a:IW}{xs ys:List V}{ds':List D}(rg:RG K H G)(e1:H a=some (.lst xs))(r2:RDs K H ds' ys)(hg:G a≠none):
  Kp G H (gset G a (.lst ds')) (bG H a (.lst ys))/\RG K (bG H a (.lst ys)) (gset G a (.lst ds')):=by
 have kp:Kp G H (gset G a (.lst ds')) (bG H a (.lst ys)):=fun b h e n=>by
  have:b≠a:=fun z=>by subst z;exact hg n
  exact⟨by rw[ax this];exact e,by rw[aK this];exact n⟩
 have st:=kp.stb rg;refine⟨kp,fun b o q=>?_⟩
 by_cases hb:b=a
 ·subst hb;rw[az]at q;cases q;exact⟨_,aU,RDs.mono st _ _ r2⟩
 ·rw[aK hb]at q;obtain⟨h',e2,r⟩:=rg b o q;exact⟨h',by rw[ax hb];exact e2,r.mono st⟩
theorem Aj{K:JD}{H:Hp}{G:Gp}{a:IW}{ds:List D}(rg:RG K H G)(e:G a=some (.lst ds)):∃ xs,H a=some (.lst xs)/\RDs K H ds xs:=by
 obtain⟨ho,e1,ro⟩:=rg a _ e;cases ho with
 | lst xs=>exact⟨xs,e1,ro⟩
 | _=>exact ro.elim
theorem kW(ho:PE X o (aI X.K to))(ha:PA X [e] (fA X.K t))(QI:K9 o "append" X.env (eval o X.env)=eval o X.env:=by rfl)
  (Ro:((K3 cpos (Jx [e] X.env)).all (fun x=>!x.1) && (Nl cpos (Mv [] X.env)).all (fun x=>x.1.isSome)
   && decide (([e]:List JJ).length+([]:List M4).length+(if ([]:List M4).isEmpty then 0 else 1) < 30))=true:=by rfl)
  (QH:(apos.endLine == cpos.line)=true:=by rfl) (hs:Jx [e] X.env=(false,eval e X.env)::Jx [] X.env:=by rfl) (Q7:(K3 cpos (Jx [] X.env)).any (·.1)=false:=by rfl):
  PE X (.Call (.Attribute o "append" apos) [e] [] cpos) (aI X.K (i6 to t)):=
 (Db PySem.F.plainAttrs_list PySem.F.slot_list_append PySem.F.type_list_append qA ho ha QI Ro QH hs Q7).imp fun τ H Q zz=>by
 obtain⟨σ,G,Q3,rs,rg,h,k⟩:=zz;exact (
  ⟨σ,G,_,rs,rg,h,fun d G1 v H1 q k1 rg1 re=>by
    cases d with
    | ref a=>
     rw[re.ref];obtain⟨⟨ds,hg⟩,q⟩:=q;obtain⟨xs,e1,r1⟩:=Aj rg1 hg;refine⟨.inl ⟨rfl,xs,jW.of e1⟩,σ,G1,_,rs.mono (k1.stb rg),rg1,q,fun es G2 vs H2 q2 k2 rg2 rds=>?_⟩;split at q2
     ·rename_i d;obtain⟨v2,rfl,rd⟩:=fX rds;split at q2
      ·rename_i ds2 hg2;obtain⟨xs2,e2,r2⟩:=Aj rg2 hg2;have rr:RDs X.K H2 (ds2 ++ [d]) (xs2 ++ [v2]):=r2.append (RDs.cons rd RDs.nil);obtain⟨kp,rg3⟩:=Ca rg2 e2 rr (by rw[hg2];exact fun z=>nomatch z)
       exact⟨a,xs2,v2,rfl,rfl,e2,by rw[<- r2.length];exact q2.1,k _ _ _ _ q2.2 ((k1.trans k2).trans kp) rg3 (.of vE)⟩
      ·exact q2.elim
     ·exact q2.elim
    | _=>exact q.elim⟩)
def gJ(G:Gp):D->Option String
 | .int _=>some "int"
 | .str _=>some "str"
 | .bl _=>some "bool"
 | .tup _=>some "tuple"
 | d=>(qR G d).map fun _=>"list"
def yu:xl:=fun ds G Q=>match ds with
 | [d,.ty T]=>gJ G d=some T/\Q (.bl true) G
 | _=>False
theorem Dr:eV X (.builtin "isinstance") (lA X.K yu):=by
 rintro pins s σ H vs us Q I rv ⟨ds,G,Q3,rds,rg,h,kk⟩
 unfold yu at h;split at h
 ·rename_i d T;obtain⟨v,t,e,h1,h2⟩:=rds.inv_cons;obtain⟨u2,e2,h3⟩:=fX h2;simp only[RD]at h3;subst e e2 h3;obtain⟨u,w',rfl,ru,rw'⟩:=CV rv;cases rw';have fin:∀ tk,EP X pins σ Q (.bool true) { s with toks:=tk }:=fun tk=>⟨.bl true,H,I.tok tk,rfl,kk _ G _ H h.2 Kp.refl rg (.of gC)⟩
  have one:∀ T':String,Kv X.K (.type T') (.type T')=some true:=fun T'=>by
   unfold Kv;rw[if_pos (beq_self_eq_true _)]
  have hk:=h.1;cases d with
  | int i=>
   simp only[gJ,Option.some.injEq]at hk;subst hk;simp only[RD]at h1;subst h1;obtain⟨t,rfl⟩:=ru;exact jC (x:=V.int i) I ⟨t,rfl⟩ (TyOf.int i) (one _) fin
  | str i=>
   simp only[gJ,Option.some.injEq]at hk;subst hk;simp only[RD]at h1;subst h1;obtain⟨t,rfl⟩:=ru;exact jC (x:=V.str i) I ⟨t,rfl⟩ (TyOf.str i) (one _) fin
  | bl i=>
   simp only[gJ,Option.some.injEq]at hk;subst hk;simp only[RD]at h1;subst h1;cases ru;exact jC (x:=V.bl i) I rfl (TyOf.bl i) (one _) fin
  | tup es=>
   simp only[gJ,Option.some.injEq]at hk;subst hk;simp only[RD]at h1;obtain⟨a,xs,rfl,sq,r⟩:=h1;cases ru;obtain⟨_,_,⟨o,e1,c,_⟩,_⟩:=I.tuple sq;exact LM PySem.W.kitx_tuple I.kIn ⟨o,e1,c⟩ (one _) (fun z=>nomatch z) fin
  | _=>
   simp only[gJ,Option.map_eq_some_iff]at hk;obtain⟨es,he,rfl⟩:=hk;obtain⟨a,xs,rfl,sq,r⟩:=iC (G:=G) (H:=H) he (.of h1) rg;cases ru;obtain⟨_,_,p,_⟩:=I.list sq;obtain⟨o,e1,c,_⟩:=p.isList;exact LM NY I.kIn ⟨o,e1,c⟩ (one _) (fun z=>nomatch z) fin
 ·exact h.elim
theorem FX{x:Str}{T:String}(hg:Gl X x)(hm:X.mg x=none)(hv:KN x=some (.type T))(hn:x≠"__name__":=by decide)(hd:(x == ("__debug__":Str))=false:=by decide):PE X (.Name x pos) (aI X.K (eC (.ty T))):=
 Fp (BR (v:=.ty T) hg hm hv rfl hn hd) fun _=>by simp only[RD]
theorem wN{x:Str}{d:D}{v:V}{u:IV}(hg:Gl X x)(hm:X.mg x=some u)(r:aF v u)(rd:∀ H,RD X.K H d v)(hd:(x == ("__debug__":Str))=false:=by decide):PE X (.Name x pos) (aI X.K (eC d)):=Fp (wL hg hm r hd) rd
def Cz(te:bP):bP:=fun σ G Q=>te σ G fun x G1=>match x with
 | .int i=>Q (.int (-i)) G1
 | _=>False
theorem De(he:PE X e (aI X.K te)):PE X (.UnaryOp .USub e pos) (aI X.K (Cz te)):=(FR DC he).imp fun τ H Q ⟨σ,G,Q3,rs,rg,h,k⟩=>⟨σ,G,_,rs,rg,h,fun d G1 v H1 q k1 rg1 re=>by
 cases d with
 | int i=>exact⟨i,re.int,k _ G1 _ H1 q k1 rg1 (.of eY)⟩
 | _=>exact q.elim⟩
end
def w_(N:List Str)(osc scope:L9)(T M:List Str):Bool:=
 decide (scope.kind=.function) && scope.names.all (fun y=>decide (y.2≠.cell) && (decide (y.2≠.local) || (decide (scope.names.lookup y.1=some .local) && ((".0":Str)::T).contains y.1)) &&
  (decide (y.2≠.free) || (decide (osc.names.lookup y.1=some .cell) || decide (osc.names.lookup y.1=some .free)))) && (M.all fun x=>!((".0":Str)::T).contains x) && decide (M.length=N.length) &&
  ((M.zip N).all fun p=>decide (p.1=p.2) || scope.names.all fun y=>decide (y.1≠p.1))
theorem bq{X:Cx}{scope:L9}{T M:List Str}(hc:X.calm=true)(h:w_ X.N X.env.scope scope T M=true):CompOk X scope T M:=by
 unfold w_ at h;rw[Bool.and_eq_true,Bool.and_eq_true,Bool.and_eq_true]at h;obtain⟨⟨⟨h12,h3⟩,h4⟩,h5⟩:=h;have hlen:M.length=X.N.length:=of_decide_eq_true h4;simp only[Bool.and_eq_true,Op,Bool.or_eq_true,decide_eq_true_eq,Bool.not_eq_true',List.contains_eq_mem]at h12 h3 h5;obtain⟨h1,h2⟩:=h12;refine⟨hc,h1,fun y hy=>(h2 y hy).1.1,fun y hy hl=>?_,fun y hy hl=>?_,hlen,fun i x hx=>?_,fun x hx=>?_,fun y hy hf=>?_⟩
 ·rcases (h2 y hy).1.2 with z|z
  ·exact absurd hl z
  ·exact z.1
 ·rcases (h2 y hy).1.2 with z|z
  ·exact absurd hl z
  ·simpa using z.2
 ·have hi:i < M.length:=(List.getElem?_eq_some_iff.mp hx).1;have hi2:i < X.N.length:=by walk_at "o"
  have hm:(x,X.N[i])∈M.zip X.N:=by
   refine Js (i:=i) ?_;rw[List.getElem?_zip_eq_some];exact⟨hx,Jb hi2⟩
  rcases h5 _ hm with z|z
  ·left;rw[Jb hi2];exact congrArg some (show x=X.N[i]from z).symm
  ·exact .inr fun y hy=>z y hy
 ·simpa using h3 x hx
 ·rcases (h2 y hy).2 with z|z
  ·exact absurd hf z
  ·exact z
structure Fun3(K:JD)(x qual:Str)(st:Kt)(f:IW)(fd:JE):Prop where
 ex:∃ (oc:IV) (od:Option IW) (dV kV doc pm:IV) (an:Option IW) (cdv ct:IV) (osl:Array (Option IV)),
  fd=Ln x qual (aT st) (aP st) (aj st) dV kV doc pm an cdv ct/\K.lookup f=some ⟨oc,od,.func fd,osl⟩/\Kb K cdv qual=true
section
variable{P:Jw}{w:JG}{K:JD}{mg:Str->Option IV}{base:JI}
theorem Fun3.ok3{x qual:Str}{st:Kt}{f:IW}{fd:JE}{N ps:List Str}{k:Nat}{sp:fB}(F:Fun3 K x qual st f fd)(S:FnScope N ps (aj st))(len:∀ ds G Q,sp ds G Q->ds.length=ps.length)
  (Rp:∀ (cdv:IV) (A:Jy) (outer:List Env) (s:IX) (H:Hp) (E:XK),Room k (A.deeper (Nb qual (aj st) s.heap.objs.size f cdv))->
   ∃ t:d9,nz (yp gF P w K mg base N qual (aj st) f cdv A outer s H E).nox (aP st) (dw K t)/\∀ ds G Q,sp ds G Q->t { nx:=fun _ G'=>Q .non G',rt:=Q } (iq N ds) G):FnOk P w K mg base gF (k+1) f fd ps (aJ K sp):=by
 obtain⟨oc,od,dV,kV,doc,pm,an,cdv,ct,osl,rfl,lk,hcd⟩:=F.ex;refine Gn lk hcd S (fun vs H Q E ⟨ds,G,Q3,rds,rg,h,kk⟩=>by rw[<- rds.length];exact len ds G Q3 h) fun A outer s H vs Q E hr hsp=>?_
 obtain⟨ds,G,Q3,rds,rg,h,kk⟩:=hsp;obtain⟨t,ht,hq⟩:=Rp cdv A outer s H E hr;refine⟨dw K t,ht.nox,iq N ds,G,{ nx:=fun _ G'=>Q3 .non G',rt:=Q3 },zm rds,rg,hq ds G Q3 h,⟨fun σ' G' τ' H' q k' rg' rs'=>kk _ G' _ H' q k' rg' (.of vE),kk,fun _ _ _ _ q=>q.elim,fun _ _ _ _ q=>q.elim⟩⟩
theorem aX{x qual:Str}{st:Kt}{f:IW}{oc:IV}{od an:Option IW}{osl:Array (Option IV)}{dV kV doc pm cdv ct:IV}(l:K.lookup f=some ⟨oc,od,.func (Ln x qual (aT st) (aP st) (aj st) dV kV doc pm an cdv ct),osl⟩)
  (c:Kb K cdv qual=true):Fun3 K x qual st f (Ln x qual (aT st) (aP st) (aj st) dV kV doc pm an cdv ct):=⟨⟨oc,od,dV,kV,doc,pm,an,cdv,ct,osl,rfl,l,c⟩⟩
end
theorem ag{t u:d9}{D:Ends3}{σ:gy}{G:Gp}:sSeq t u D σ G=t { D with nx:=u D } σ G:=rfl
theorem w6{ds:List D}{i:Int}(h:0<=i):cutD ds none (some i)=ds.take i.toNat:=by
 have:HT.sIx ds.length ds.length (some i)=min i.toNat ds.length:=by simp only[HT.sIx];rw[if_neg (by walk_at "o")]
 unfold cutD;rw[this];simp only[HT.sIx,MZ,Nh];rw[List.take_eq_take_iff];omega
theorem AU{ds:List D}{i j:Int}(h:0<=i)(h2:0<=j):cutD ds (some i) (some j)=(ds.drop i.toNat).take (j.toNat - i.toNat):=by
 have e1:HT.sIx ds.length 0 (some i)=min i.toNat ds.length:=by simp only[HT.sIx];rw[if_neg (by walk_at "o")]
 have e2:HT.sIx ds.length ds.length (some j)=min j.toNat ds.length:=by simp only[HT.sIx];rw[if_neg (by walk_at "o")]
 unfold cutD;rw[e1,e2]
 by_cases hi:i.toNat<=ds.length
 ·rw[L7 hi,List.take_eq_take_iff,K5]
  by_cases hj:j.toNat<=ds.length
  ·rw[L7 hj]
  ·have hj':=Nat.le_of_not_le hj;rw[Nat.min_eq_right hj',Nat.min_self,Nat.min_eq_right (Nat.sub_le_sub_right hj' _)]
 ·rw[Nat.min_eq_right (Nat.le_of_not_le hi),List.drop_length,List.drop_eq_nil_of_le (le_of_lt (Nat.lt_of_not_le hi))];simp
theorem CG{cs:List Nat}{i:Int}(h:0<=i):kq cs none (some i)=cs.take i.toNat:=by
 have:HT.sIx cs.length cs.length (some i)=min i.toNat cs.length:=by simp only[HT.sIx];rw[if_neg (by walk_at "o")]
 unfold kq;rw[this];simp only[HT.sIx,MZ,Nh];rw[List.take_eq_take_iff];omega
def S(cs:List Nat):Str:=⟨cs.toArray⟩
theorem A0{ds:List D}{i:Int}(h0:0<=i)(h:i < ds.length):iF ds i=some (ds[i.toNat]'(by walk_at "o")):=by
 unfold iF Ck;rw[if_pos h0,if_pos h];simp[show i.toNat < ds.length by walk_at "o"]
theorem av:1000000<=Jg:=by decide
theorem bR(lo:Int)(n:Nat):(eZ lo n).length=n:=by simp[eZ]
theorem j8{lo:Int}{n i:Nat}{d:D}(h:(eZ lo n)[i]?=some d):i < n/\d=.int (lo+(i:Nat)):=by
 have hl:i < (eZ lo n).length:=(List.getElem?_eq_some_iff.mp h).1;rw[bR]at hl;refine⟨hl,?_⟩;rw[eZ,JB,List.getElem?_range hl]at h
 simpa using h.symm
def q_:fB:=fun vs _ Q=>match vs with
 | [.lst ds]=>∃ ns:List Int,ds=ns.map D.int/\ns.length<=63/\∀ G',Q (.bl true) G'
 | _=>False
theorem xX{K:JD}{H:Hp}{a:IW}{ns:List Int}(hl:ns.length<=63)(hO:CP H)(hS:jW K H a (ns.map V.int))(E:XK):aJ K q_ [.ref a] H (fun v _=>v=.bl true) E:=by
 have hF:A_ K H a (ns.map V.int):=by
  rcases hS with (h|⟨o,h⟩)|h
  ·rcases hO a with e|⟨o,xs,e⟩
   ·rw[h]at e;cases e
   ·rw[h]at e;cases e
  ·exact .inl ⟨o,h⟩
  ·exact .inr h
 refine⟨[.lst (ns.map D.int)],fun _=>none,fun d _=>d=.bl true,RDs.cons (nZ hF (RDs.ints ns)) RDs.nil,(fun b o q=>nomatch q),⟨ns,rfl,hl,fun _=>rfl⟩,fun d G' v H' q _ _ re=>?_⟩;subst q;exact re.bl
theorem walk3{l:PySem.W.OpenLaw}{q:Jw}{loose:List Str}{XP:(Str->Option IV)->JI->Prop}{YP:JG->JI->Prop}{d:DefRec}{K:Params->JD}{k:Nat}{x:Str}(hn:l.most=some 63)(hdf:d.params.defaults=[])(hr:Room k M0)
  (hY:∀ (w:JG) (h:JI),YP w h->(K w.params).In h)
  (F:∀ (w:JG) (mg:Str->Option IV) (fa:IW) (h:JI),(K w.params).In h->h.Ns Jr mg->mg d.name=some (.ref fa)->
   ∃ fd:JE,(∀ (s:IX) (u:IV),NF s fd ⟨[u],[]⟩ [(x,u)])/\∀ base:JI,(K w.params).In base->base.Ns Jr mg->FnOk l.prog w (K w.params) mg base gF k fa fd [x] (aJ (K w.params) q_)):
  PySem.W.WalkO q loose XP YP l.row.toRowW d [] (fun f vs=>PySem.call f vs):=
 L2.walk_of (n:=63) (k:=k) (x:=x) (CX:=fun _=>gF) (sp:=fun w=>aJ (K w.params) q_) hn (by decide) hdf hr hY F (fun _ _ _ _ hl hO hS=>xX hl hO hS _) fun _ _ _ _ _ z=>z
end L3
namespace L2
open PySem PySem.Spec PyProof.Rows
end L2
namespace L3
open PySem PySem.Spec PyProof.Rows L2
def Hz(i:Nat)(t:d9):d9:=fun D σ G=>match σ[i]? with
 | some (some (.ref p))=>match G p with
  | some (.lst ds)=>t D (σ.set i (some (.lst ds))) (fP G p)
  | _=>False
 | some (some (.lst _))=>t D σ G
 | _=>False
def HL(ta:lP):A9:=fun σ G Q=>ta σ G fun ds G'=>match ds with
 | [.lst es]=>Q es.reverse G'
 | _=>False
theorem GT{a:D}:iF [a] 0=some a:=rfl
theorem GS{a b:D}:iF [a,b] 0=some a:=rfl
theorem GR{a b:D}:iF [a,b] 1=some b:=rfl
theorem Dv{a b c:D}:iF [a,b,c] 0=some a:=rfl
theorem Du{a b c:D}:iF [a,b,c] 1=some b:=rfl
theorem Dt{a b c:D}:iF [a,b,c] 2=some c:=rfl
theorem GQ{a b c d:D}:iF [a,b,c,d] 0=some a:=rfl
theorem GP{a b c d:D}:iF [a,b,c,d] 1=some b:=rfl
theorem GN{a b c d:D}:iF [a,b,c,d] 2=some c:=rfl
theorem GM{a b c d:D}:iF [a,b,c,d] 3=some d:=rfl
theorem GL{a b c d e:D}:iF [a,b,c,d,e] 0=some a:=rfl
theorem GK{a b c d e:D}:iF [a,b,c,d,e] 1=some b:=rfl
theorem GJ{a b c d e:D}:iF [a,b,c,d,e] 2=some c:=rfl
theorem GI{a b c d e:D}:iF [a,b,c,d,e] 3=some d:=rfl
theorem GH{a b c d e:D}:iF [a,b,c,d,e] 4=some e:=rfl
theorem bf{c:nH}{t u:d9}{E:Ends3}{σ:gy}{G:Gp}(b:Bool)(hc:∀ K:Bool->Gp->Prop,K b G->c σ G K)(h:if b=true then t E σ G else u E σ G):nA c t u E σ G:=hc _ h
theorem zg{t u:d9}{E:Ends3}{σ:gy}{G:Gp}{NX:gy->Gp->Prop}(h2:∀ σ' G',NX σ' G'->u E σ' G')(h1:∀ NX':gy->Gp->Prop,(∀ σ' G',NX σ' G'->NX' σ' G')->t { E with nx:=NX' } σ G):sSeq t u E σ G:=h1 (u E) h2
open PySem.SeqAt
def pQ(x:D)(ds:List D):Bool:=ds.any fun d=>fh d x
theorem oA{x:D}{ds:List D}:pQ x ds=true↔x∈ds:=by
 unfold pQ;rw[NA];constructor
 ·rintro⟨d,hd,e⟩
  rw[<- jG.mp e];exact hd
 ·intro h;exact⟨x,h,bo x⟩
theorem oB{x:D}{ds:List D}:pQ x ds=false↔x∉ds:=by
 rw[<- oA];simp
def qa(K:JD)(H:Hp)(ds:List D)(x:D)(u:IV):Bool:=@decide (∃ d∈ds,d=x/\∃ v,RD K H d v/\aF v u) (Classical.propDecidable _)
section
variable{X:Cx}{pins:List (IW×Obj)}{σ:St}{H:Hp}{s:IX}
theorem xj(I:Inv X pins σ H s){n:Nat}{ds:List D}{x d:D}{v:V}{u:IV}(px:pl n x)(pds:∀ d∈ds,pl n d)(hd:d∈ds)(r:RD X.K H d v)(l:aF v u):qa X.K H ds x u=fh d x:=by
 symm;refine jq ?_;unfold qa;rw[@decide_eq_true_iff _ (Classical.propDecidable _)];constructor
 ·rintro⟨d',hd',rfl,v',r',l'⟩
  have:=aF.inj l l';subst this;exact n8 I n (pds d hd) (pds _ hd') r r'
 ·rintro rfl
  exact⟨d,hd,rfl,v,r,l⟩
theorem pA(I:Inv X pins σ H s){n:Nat}{x:D}(px:pl n x){ds0:List D}(pds:∀ d∈ds0,pl n d):∀ {ds:List D} {xs:List V} {its:List IV},(∀ d∈ds,d∈ds0)->RDs X.K H ds xs->Vals xs its->its.any (qa X.K H ds0 x)=pQ x ds
 | [],xs,its,_,r,w=>by
  rw[r.inv_nil]at w;cases w;rfl
 | d::ds,xs,its,hs,r,w=>by
  obtain⟨v,t,e,h1,h2⟩:=r.inv_cons;subst e;cases w with
  | cons l w=>
   rw[MA,xj I px pds (hs d Jk) h1 l,pA I px pds (fun e he=>hs e (Jl _ he)) h2 w];rfl
theorem ut(I:Inv X pins σ H s){n:Nat}{x:D}{v:V}{v':IV}{A:Jy}(px:pl n x){ds:List D}(pds:∀ d∈ds,pl n d){xs:List V}{its:List IV}(r:RDs X.K H ds xs)(w:Vals xs its)(rx:RD X.K H x v)(lx:aF v v')(hu:A.in1.units+n < JY):
  ∀ y,y∈its.toArray->EqAt A.in1 s y v' (qa X.K H ds x y):=fun y hy=>by
 have hy':y∈its:=by simpa using hy
 obtain⟨i,hi,e⟩:=mem_iff_getElem.mp hy';obtain⟨x1,e1,q1⟩:=Vals.getV (i:=i) (u:=y) w (by rw[Jb hi,e])
 obtain⟨d,e2,q2⟩:=RDs.getV r e1;have hd:=Js e2;rw[xj I px pds hd q2 q1];exact (pi I n (pds d hd) px q2 rx q1 lx hu).eq
end
def B6:R3:=fun x y G Q=>match yH G y with
 | some ds=>(pl 7 x/\∀ d∈ds,pl 7 d)/\Q (.bl (pQ x ds)) G
 | none=>False
def Ev:R3:=fun x y G Q=>match yH G y with
 | some ds=>(pl 7 x/\∀ d∈ds,pl 7 d)/\Q (.bl (!pQ x ds)) G
 | none=>False
section
variable{X:Cx}
theorem Bg(hu:X.A.units+8 < JY):iD X (J_ .In) (jA X.K B6):=by
 rintro pins s σ H v u v' u' Q I rv ru ⟨x,y,G,Q3,rx,ry,rg,h,k⟩
 unfold B6 at h;split at h
 ·rename_i ds hq;obtain⟨⟨px,pds⟩,q⟩:=h;obtain⟨a,xs,rfl,sq,r⟩:=mJ (G:=G) (H:=H) hq (.of ry) rg;cases ru;have hu1:X.A.in1.units+7 < JY:=by show X.A.units+1+7 < JY;omega
  rcases sq with sq|sq
  ·obtain⟨its,w,p,hz⟩:=I.list sq;refine in_listAt (qa X.K H ds x) p.isList (ut I px pds r w rx rv hu1) ⟨.bl _,H,I,rfl,?_⟩;rw[show its.toArray.any (qa X.K H ds x)=its.any (qa X.K H ds x)by simp,pA I px pds (fun _ h=>h) r w]
   exact k _ G _ H q Kp.refl rg (.of gC)
  ·obtain⟨its,w,p,hz⟩:=I.tuple sq;refine in_tupleAt (qa X.K H ds x) p (ut I px pds r w rx rv hu1) ⟨.bl _,H,I,rfl,?_⟩;rw[show its.toArray.any (qa X.K H ds x)=its.any (qa X.K H ds x)by simp,pA I px pds (fun _ h=>h) r w]
   exact k _ G _ H q Kp.refl rg (.of gC)
 ·exact h.elim
end
section
variable{κ:Type}[DecidableEq κ]
def eL(kvs:List (κ×D))(k:κ):Option D:=(kvs.find? fun kv=>decide (kv.1=k)).map (·.2)
def cH(kvs:List (κ×D))(k:κ)(v:D):List (κ×D):=
 if (kvs.any fun kv=>decide (kv.1=k))=true then kvs.map (fun kv=>if kv.1=k then (kv.1,v)else kv)else kvs ++ [(k,v)]
theorem jJ(k:κ):∀ kvs:List (κ×D),(kvs.any fun kv=>decide (kv.1=k))=(eL kvs k).isSome
 | []=>rfl
 | p::r=>by
  by_cases e:p.1=k
  ·simp[eL,JT,e]
  ·have ih:=jJ k r;simp only[MA,e,decide_false,Bool.false_or,ih];simp[eL,JT,e]
theorem gi(kvs:List (κ×D))(k:κ)(v:D):(cH kvs k v).length<=kvs.length+1:=by
 unfold cH;split<;>simp
theorem xB(kvs:List (κ×D))(k:κ)(v:D):(cH kvs k v).map (·.1)=if k∈kvs.map (·.1)then kvs.map (·.1)else kvs.map (·.1) ++ [k]:=by
 unfold cH;have e:((kvs.any fun kv=>decide (kv.1=k))=true)↔k∈kvs.map (·.1):=by
  rw[NA,mem_map];constructor
  ·rintro⟨p,hp,q⟩;exact⟨p,hp,of_decide_eq_true q⟩
  ·rintro⟨p,hp,rfl⟩;exact⟨p,hp,decide_eq_true rfl⟩
 by_cases h:k∈kvs.map (·.1)
 ·rw[if_pos (e.mpr h),if_pos h,JK];refine Kq fun p _=>?_;simp only[Function.comp_apply];split<;>rfl
 ·rw[if_neg (fun z=>h (e.mp z)),if_neg h];simp
theorem j9{kvs:List (κ×D)}(k:κ)(v:D)(h:(kvs.map (·.1)).Nodup):((cH kvs k v).map (·.1)).Nodup:=by
 rw[xB];split
 ·exact h
 ·rename_i hk;rw[List.nodup_append];refine⟨h,by simp,fun a ha b hb=>?_⟩
  have:b=k:=by simpa using hb
  subst this;exact fun z=>hk (z ▸ ha)
end
def Ci:D->Option aQ
 | .int i=>some (.inl i)
 | .str x=>some (.inr x)
 | _=>none
def kD:aQ->D
 | .inl i=>.int i
 | .inr x=>.str x
def uA:List D->Option (List aQ)
 | []=>some []
 | d::r=>match Ci d,uA r with
  | some k,some ks=>some (k::ks)
  | _,_=>none
def kj:D->Option (List aQ)
 | .tup ds=>uA ds
 | _=>none
theorem EL(k:aQ):Ci (kD k)=some k:=by cases k<;>rfl
theorem wV:∀ ks:List aQ,uA (ks.map kD)=some ks
 | []=>rfl
 | k::r=>by simp only[Jz,uA,EL,wV r]
section
variable{K:JD}{H:Hp}
theorem v5{d:D}{k:aQ}{v:V}(h:Ci d=some k)(r:RD K H d v):v=kV k:=by
 cases d with
 | int i=>simp only[Ci,Option.some.injEq]at h;subst h;simp only[RD]at r;exact r
 | str i=>simp only[Ci,Option.some.injEq]at h;subst h;simp only[RD]at r;exact r
 | _=>simp[Ci]at h
theorem uz:∀ {ds:List D} {ks:List aQ} {vs:List V},uA ds=some ks->RDs K H ds vs->vs=ks.map kV
 | [],ks,vs,h,r=>by
  simp only[uA,Option.some.injEq]at h;subst h;exact r.inv_nil
 | d::t,ks,vs,h,r=>by
  obtain⟨x,u,e,h1,h2⟩:=r.inv_cons;subst e;simp only[uA]at h;split at h
  ·rename_i k kr e1 e2;simp only[Option.some.injEq]at h;subst h;rw[v5 e1 h1,uz e2 h2];rfl
  ·cases h
theorem i4{d:D}{ks:List aQ}{v:V}(h:kj d=some ks)(r:RD K H d v):∃ b,v=.ref b/\ja K H b (ks.map kV):=by
 cases d with
 | tup ds=>
  simp only[RD]at r;obtain⟨a,xs,e,q,rr⟩:=r;exact⟨a,e,by rw[<- uz h rr];exact q⟩
 | _=>simp[kj]at h
theorem jK.keys{kvs:List (List aQ×D)}{xs:List (List aQ×IW×IV)}(r:jK K H kvs xs):kvs.map (·.1)=xs.map (·.1):=by
 unfold jK at r
 induction r with
 | nil=>rfl
 | cons h _ ih=>rw[Jz,Jz,h.1,ih]
theorem jK.val{kvs:List (List aQ×D)}{xs:List (List aQ×IW×IV)}(r:jK K H kvs xs)(k:List aQ):
  (eL kvs k=none/\L8 xs k=none)\/∃ d b u v,eL kvs k=some d/\L8 xs k=some (b,u)/\RD K H d v/\aF v u:=by
 unfold jK at r
 induction r with
 | nil=>exact .inl ⟨rfl,rfl⟩
 | @cons p q ps qs h t ih=>
  obtain⟨h1,_,v,h2,h3⟩:=h
  by_cases e:p.1=k
  ·have e':q.1=k:=h1.symm.trans e;exact .inr ⟨p.2,q.2.1,q.2.2,v,by simp[eL,JT,e],by simp[L8,JT,e'],h2,h3⟩
  ·have e':¬ q.1=k:=fun z=>e (h1.trans z);have a1:eL (p::ps) k=eL ps k:=by simp[eL,JT,e]
   have a2:L8 (q::qs) k=L8 qs k:=by simp[L8,JT,e']
   rw[a1,a2];exact ih
theorem jK.put{kvs:List (List aQ×D)}{xs:List (List aQ×IW×IV)}(r:jK K H kvs xs)(k:List aQ){b:IW}{d:D}{v:V}{u:IV}(hb:ja K H b (k.map kV))(hd:RD K H d v)(hu:aF v u):jK K H (cH kvs k d) (MV xs k b u):=by
 have e:(kvs.any fun kv=>decide (kv.1=k))=(L8 xs k).isSome:=by
  rw[jJ];rcases r.val k with ⟨a,b⟩|⟨_,_,_,_,a,b,_⟩<;>rw[a,b]<;>rfl
 unfold cH MV;rw[e]
 by_cases q:(L8 xs k).isSome=true
 ·rw[if_pos q,if_pos q];unfold jK at r ⊢;clear e q
  induction r with
  | nil=>exact .nil
  | @cons p q ps qs h t ih=>
   rw[Jz,Jz];refine .cons ?_ ih;obtain⟨h1,h2,v',h3,h4⟩:=h;unfold putAt
   by_cases e:p.1=k
   ·rw[if_pos e,if_pos (h1.symm.trans e)];exact⟨h1,h2,v,hd,hu⟩
   ·rw[if_neg e,if_neg (fun z=>e (h1.trans z))];exact⟨h1,h2,v',h3,h4⟩
 ·rw[if_neg q,if_neg q];exact NB r ⟨rfl,hb,v,hd,hu⟩
theorem uZ.val{kvs:List (aQ×D)}{xs:List (aQ×V)}(r:uZ K H kvs xs)(k:aQ):(eL kvs k=none/\jX xs k=none)\/∃ d v,eL kvs k=some d/\jX xs k=some v/\RD K H d v:=by
 unfold uZ at r
 induction r with
 | nil=>exact .inl ⟨rfl,rfl⟩
 | @cons p q ps qs h t ih=>
  obtain⟨h1,h2⟩:=h
  by_cases e:p.1=k
  ·have e':q.1=k:=h1.symm.trans e;exact .inr ⟨p.2,q.2,by simp[eL,JT,e],kE e',h2⟩
  ·have e':¬ q.1=k:=fun z=>e (h1.trans z);have a1:eL (p::ps) k=eL ps k:=by simp[eL,JT,e]
   rw[a1,kF e'];exact ih
theorem uZ.put{kvs:List (aQ×D)}{xs:List (aQ×V)}(r:uZ K H kvs xs)(k:aQ){d:D}{v:V}(hd:RD K H d v):uZ K H (cH kvs k d) (kS xs k v):=by
 have e:(kvs.any fun kv=>decide (kv.1=k))=(xs.any fun kv=>decide (kv.1=k)):=by
  rw[jJ,nJ];rcases r.val k with ⟨a,b⟩|⟨_,_,a,b,_⟩<;>rw[a,b]<;>rfl
 unfold cH kS;rw[e]
 by_cases q:(xs.any fun kv=>decide (kv.1=k))=true
 ·rw[if_pos q,if_pos q];unfold uZ at r ⊢;clear e q
  induction r with
  | nil=>exact .nil
  | @cons p q ps qs h t ih=>
   rw[Jz,Jz];refine .cons ?_ ih;obtain⟨h1,h2⟩:=h
   by_cases e:p.1=k
   ·rw[if_pos e,if_pos (h1.symm.trans e)];exact⟨h1,hd⟩
   ·rw[if_neg e,if_neg (fun z=>e (h1.trans z))];exact⟨h1,h2⟩
 ·rw[if_neg q,if_neg q];exact NB r ⟨rfl,hd⟩
theorem uZ.length{kvs:List (aQ×D)}{xs:List (aQ×V)}(r:uZ K H kvs xs):kvs.length=xs.length:=L5 r
theorem jK.length{kvs:List (List aQ×D)}{xs:List (List aQ×IW×IV)}(r:jK K H kvs xs):kvs.length=xs.length:=L5 r
end
def ah(P:Jw)(w:JG):List aQ->Int:=tupleKeyHash (bn P w)
section
variable{X:Cx}{pins:List (IW×Obj)}{σ:St}{H:Hp}{s:IX}{a:IW}
theorem key_at(I:Inv X pins σ H s){b:IW}{ks:List aQ}(h:ja X.K H b (ks.map kV)):(Ks (bn X.prog X.w)).is s.heap ks b:=by
 obtain⟨its,r,⟨o,h1,h2,n,h3⟩,_⟩:=I.tuple h;exact⟨o,its.toArray,n,h1,h2,h3,by simpa using mD r⟩
theorem nF(I:Inv X pins σ H s){kvs:List (List aQ×D)}{xs:List (List aQ×IW×IV)}(e:H a=some (.ext (qV (ah X.prog X.w) a xs)))(r:jK X.K H kvs xs)(nd:(kvs.map (·.1)).Nodup):
  (a == J8)=false/\s.heap.DictOfH (Ks (bn X.prog X.w)) a xs:=by
 obtain⟨hd,o,es,ep,h1,h2,h3,h4⟩:=(show bZ X.prog X.w H s.heap a (.ext (qV (ah X.prog X.w) a xs))from I.hok a _ e).1
 refine⟨hd,o,es,ep,h1,h2,h3,h4,?_,by rw[<- r.keys];exact nd⟩
 unfold jK at r;clear h4 e nd
 induction r with
 | nil=>intro x hx;exact nomatch hx
 | @cons p q ps qs hq t ih=>
  intro x hx;rcases Kg.mp hx with e|hx
  ·subst e;exact key_at I (by rw[<- hq.1];exact hq.2.1)
  ·exact ih x hx
theorem ko{P:Jw}{w:JG}{H':Hp}{h:JI}{hw:List aQ->Int}{xs:List (List aQ×IW×IV)}(h1:qV hw a xs h):bZ P w H' h a (.ext (qV hw a xs)):=by
 obtain⟨hd,o,es,ep,e,r⟩:=h1;exact⟨⟨hd,o,es,ep,e,r⟩,⟨o,e⟩,fun h1 h2 ⟨hd,o,es,ep,e,r⟩ k=>⟨hd,o,es,ep,k o e,r⟩⟩
end
section
variable{K:JD}{H:Hp}{G:Gp}
theorem Cr{p:IW}{o:GO}{ho:HO}(rg:RG K H G)(e:H p=none)(ro:∀ H':Hp,Stb K H H'->RO K H' p o ho):Kp G H (gset G p o) (bG H p ho)/\RG K (bG H p ho) (gset G p o):=by
 have kp:Kp G H (gset G p o) (bG H p ho):=fun b h q n=>by
  have:b≠p:=b6 q e;exact⟨by rw[ax this];exact q,by rw[aK this];exact n⟩
 refine⟨kp,fun b u q=>?_⟩
 by_cases hb:b=p
 ·subst hb;rw[az]at q;cases q;exact⟨_,aU,ro _ (kp.stb rg)⟩
 ·rw[aK hb]at q;obtain⟨h,q1,q2⟩:=rg b u q;exact⟨h,by rw[ax hb];exact q1,q2.mono (kp.stb rg)⟩
theorem oW{a:IW}{o:GO}{ho:HO}(rg:RG K H G)(hg:G a≠none)(ro:∀ H':Hp,Stb K H H'->RO K H' a o ho):Kp G H (gset G a o) (bG H a ho)/\RG K (bG H a ho) (gset G a o):=by
 have kp:Kp G H (gset G a o) (bG H a ho):=fun b h e n=>by
  have:b≠a:=fun z=>by subst z;exact hg n
  exact⟨by rw[ax this];exact e,by rw[aK this];exact n⟩
 refine⟨kp,fun b u q=>?_⟩
 by_cases hb:b=a
 ·subst hb;rw[az]at q;cases q;exact⟨_,aU,ro _ (kp.stb rg)⟩
 ·rw[aK hb]at q;obtain⟨h,q1,q2⟩:=rg b u q;exact⟨h,by rw[ax hb];exact q1,q2.mono (kp.stb rg)⟩
end
def mW(hw:List aQ->Int):bP:=fun _ G Q=>∀ p,G p=none->Q (.ref p) (gset G p (.dT hw []))
def AM:bP:=fun _ G Q=>∀ p,G p=none->Q (.ref p) (gset G p (.dK []))
section
variable{X:Cx}{pos:Pos}
theorem mj:PE X (.Dict [] [] pos) (aI X.K (mW (ah X.prog X.w))):=fun pins s τ H Q I zz=>by
 obtain⟨σ,G,Q3,rs,rg,h,k⟩:=zz;have hf:H s.heap.objs.size=none:=I.hok.fresh (le_refl _);obtain⟨kp,rg2⟩:=Cr (o:=.dT (ah X.prog X.w) []) (ho:=.ext (qV (ah X.prog X.w) s.heap.objs.size [])) rg hf fun H' _=>⟨[],rfl,.nil,Nr,JQ _⟩;have hd:(s.heap.objs.size == J8)=false:=beq_eq_false_iff_ne.mpr (Ne.symm (JP I.big));exact wpAny_Dict_empty ⟨.ref s.heap.objs.size,_,I.laid (a:=s.heap.objs.size) (t':=s.toks) (fun _ _ q=>Ja _ q) (le_refl _) (ko ⟨hd,_,#[],0,Je _ rfl,⟨rfl,rfl,rfl⟩,rfl,rfl⟩),rfl,
  k _ _ _ _ (h _ (rg.free hf)) kp rg2 (.of iX)⟩
theorem Ei:PE X (.Dict [] [] pos) (aI X.K AM):=zR.imp fun τ H Q ⟨σ,G,Q3,rs,rg,h,k⟩ p hp=>by
 obtain⟨kp,rg2⟩:=Cr (o:=.dK []) (ho:=.dK []) rg hp fun H' _=>(show uZ X.K H' [] []from .nil)
 exact k _ _ _ _ (h _ (rg.free hp)) kp rg2 (.of iX)
end
def mN(hw:List aQ->Int):D->D->D->Gp->(Gp->Prop)->Prop:=fun o i v G Q=>match o with
 | .ref a=>match G a with
  | some (.dT hw' kvs)=>hw'=hw/\∃ ks,kj i=some ks/\kvs.length < Jg/\Q (gset G a (.dT hw (cH kvs ks v)))
  | some (.dK kvs)=>∃ k,Ci i=some k/\kvs.length < Jg/\Q (gset G a (.dK (cH kvs k v)))
  | some (.lst ds)=>match i with
   | .int j=>∃ m,Ck ds.length j=some m/\Q (gset G a (.lst (ds.set m v)))
   | _=>False
  | _=>False
 | _=>False
def Cb(K:JD)(r:D->D->D->Gp->(Gp->Prop)->Prop):CK:=fun o i v H Q=>∃ x y z G Q3,RD K H x o/\RD K H y i/\RD K H z v/\RG K H G/\r x y z G Q3/\∀ G' H',Q3 G'->Kp G H G' H'->RG K H' G'->Q H'
def ff(hw:List aQ->Int)(to ti te:bP):d9:=fun E σ G=>te σ G fun v G1=>to σ G1 fun o G2=>ti σ G2 fun i G3=>mN hw (val o) (val i) (val v) G3 fun G4=>E.nx σ G4
section
variable{X:Cx}
theorem Dx(hu:X.A.units+8 < JY):Fj X (Cb X.K (mN (ah X.prog X.w))):=by
 rintro pins s σ H o i v ov iv u Q I ro ri rv ⟨x,y,z,G,Q3,rx,ry,rz,rg,h,k⟩
 unfold mN at h;split at h
 ·rename_i a;simp only[RD]at rx;subst rx;cases ro;split at h
  ·rename_i hw' kvs hg;obtain⟨rfl,ks,hk,hl,h⟩:=h;obtain⟨b,rfl,sq⟩:=i4 hk ry;cases ri;obtain⟨ho,e,r⟩:=rg a _ hg;cases ho with
   | ext φ=>
    obtain⟨xs,rfl,rt,nd,_⟩:=r;obtain⟨hd,dd⟩:=nF I e rt nd;have hz:xs.length<=Jg:=by rw[<- rt.length];omega
    refine Ow (hsz:=hz) (J7 (show X.A.units+1 < JY by walk_at "o")) (key_at I sq) dd fun h' dd' hs=>?_
    obtain⟨q,es,ep,hq,h2,h3,h4,_,h5⟩:=dd';obtain⟨kp,rg2⟩:=oW (a:=a) (o:=.dT (ah X.prog X.w) (cH kvs ks z)) (ho:=.ext (qV (ah X.prog X.w) a (MV xs ks b u))) rg (by rw[hg];exact fun z=>nomatch z)
     fun H' st=>⟨_,rfl,(rt.put ks sq rz rv).mono st,j9 ks z nd,by have:=gi kvs ks z;omega⟩
    exact⟨_,lN I (by rw[e];exact True.intro) hs ⟨q,hq⟩ (ko ⟨hd,q,es,ep,hq,h2,h3,h4⟩),k _ _ h kp rg2⟩
   | _=>exact r.elim
  ·rename_i kvs hg;obtain⟨kk,hk,hl,h⟩:=h;have ei:=v5 hk ry;subst ei;obtain⟨ho,e,r⟩:=rg a _ hg;cases ho with
   | dK xs=>
    have r':uZ X.K H kvs xs:=r;obtain⟨kp,rg2⟩:=oW (a:=a) (o:=.dK (cH kvs kk z)) (ho:=.dK (kS xs kk v)) rg (by rw[hg];exact fun z=>nomatch z) fun H' st=>(r'.put kk rz).mono st
    exact yn (by walk_at "o") I (CT.k e (by rw[<- r'.length];exact hl)) ri rv fun s' I'=>⟨_,I',k _ _ h kp rg2⟩
   | _=>exact r.elim
  ·rename_i ds hg;split at h
   ·rename_i j;obtain⟨m,hm,h⟩:=h;simp only[RD]at ry;subst ry;obtain⟨ho,e,r⟩:=rg a _ hg;cases ho with
    | lst xs=>
     have r':RDs X.K H ds xs:=r;obtain⟨kp,rg2⟩:=oW (a:=a) (o:=.lst (ds.set m z)) (ho:=.lst (xs.set m v)) rg (by rw[hg];exact fun z=>nomatch z) fun H' st=>RDs.mono st _ _ (r'.set m rz)
     exact zf pins s σ H (.ref a) _ _ _ _ _ _ I rfl ri rv ⟨a,xs,j,m,rfl,rfl,e,by rw[<- r'.length];exact hm,k _ _ h kp rg2⟩
    | _=>exact r.elim
   ·exact h.elim
  ·exact h.elim
 ·exact h.elim
theorem gX{o i e:JJ}{to ti te:bP}{pos pos':Pos}(hu:X.A.units+8 < JY)(ho:PE X o (aI X.K to))(hi:PE X i (aI X.K ti))(he:PE X e (aI X.K te))
  (hs:swapsWithSole [.Subscript o i pos'] e pos.line X.env=pure false:=by rfl) (hw:swappedStores [.Subscript o i pos'] e X.env=pure none:=by rfl) (h1:(Lh [.Subscript o i pos'] X.env).map (·.2)=[assign (.Subscript o i pos') X.env]:=by rfl)
  (ha:∀ v,assign (.Subscript o i pos') X.env v=(do
   let ov <- holding [v] (eval o X.env)
   let iv <- holding [v,ov] (eval i X.env)
   Ni pos'
   holding [v,ov,iv] (OR ov iv v)
   release [v,ov,iv] []):=by intro _;rfl):PS X (.Assign [.Subscript o i pos'] e pos) (dw X.K (ff (ah X.prog X.w) to ti te)):=
 (D8 (fx he) (D_ (fx ho) (fx hi) (Dx hu) ha) hs hw h1).imp fun E τ H zz=>by
 obtain⟨σ,G,E3,rs,rg,h,k⟩:=zz;exact (
  ⟨σ,G,_,rs,rg,h,fun v G1 u H1 q1 k1 rg1 rd1=>
    ⟨σ,G1,_,rs.mono (k1.stb rg),rg1,q1,fun o G2 u2 H2 q2 k2 rg2 rd2=>⟨σ,G2,_,rs.mono ((k1.trans k2).stb rg),rg2,q2,fun i G3 u3 H3 q3 k3 rg3 rd3=>
     ⟨val o,val i,val v,G3,_,RD.mono (k3.stb rg2) _ _ rd2,rd3,RD.mono ((k2.trans k3).stb rg1) _ _ rd1,rg3,q3,fun G4 H4 q4 k4 rg4=>k.nx σ G4 τ H4 q4 (k1.trans (k2.trans (k3.trans k4))) rg4 (rs.mono ((k1.trans (k2.trans (k3.trans k4))).stb rg))⟩⟩⟩⟩)
end
def cG(hw:List aQ->Int)(G:Gp)(o i:D)(r:Option D):Prop:=match o with
 | .ref a=>match G a with
  | some (.dT hw' kvs)=>hw'=hw/\∃ ks,kj i=some ks/\r=eL kvs ks
  | some (.dK kvs)=>∃ k,Ci i=some k/\r=eL kvs k
  | _=>False
 | _=>False
def iP(G:Gp)(o:D):Prop:=match o with
 | .ref a=>match G a with
  | some (.dT _ _)=>True
  | some (.dK _)=>True
  | _=>False
 | _=>False
section
variable{X:Cx}{pins:List (IW×Obj)}{σ:St}{H:Hp}{s:IX}{G:Gp}{A:Jy}{E:IV->IX->Prop}{x y d z:D}{o i zv:V}{ov iv zu:IV}{r:Option D}
theorem cG.split(h:cG (ah X.prog X.w) G x y r)(I:Inv X pins σ H s)(rg:RG X.K H G)(rx:RD X.K H x o)(ro:aF o ov)(ry:RD X.K H y i)(ri:aF i iv):
  ∃ a,ov=.ref a/\((∃ hs k,H a=some (.dK hs)/\i=kV k/\((r=none/\jX hs k=none)\/∃ d v,r=some d/\jX hs k=some v/\RD X.K H d v))\/
   ∃ xs ks b,(a == J8)=false/\s.heap.DictOfH (Ks (bn X.prog X.w)) a xs/\iv=.ref b/\(Ks (bn X.prog X.w)).is s.heap ks b/\
    ((r=none/\L8 xs ks=none)\/∃ d b' u v,r=some d/\L8 xs ks=some (b',u)/\RD X.K H d v/\aF v u)):=by
 unfold cG at h;split at h
 ·rename_i a;simp only[RD]at rx;subst rx;cases ro;refine⟨a,rfl,?_⟩;split at h
  ·rename_i hw' kvs hg;obtain⟨rfl,ks,hk,rfl⟩:=h;obtain⟨b,rfl,sq⟩:=i4 hk ry;cases ri;obtain⟨ho,e,q⟩:=rg a _ hg;cases ho with
   | ext φ=>
    obtain⟨xs,rfl,rt,nd,_⟩:=q;obtain⟨hd,dd⟩:=nF I e rt nd;exact .inr ⟨xs,ks,b,hd,dd,rfl,key_at I sq,rt.val ks⟩
   | _=>exact q.elim
  ·rename_i kvs hg;obtain⟨k,hk,rfl⟩:=h;obtain⟨ho,e,q⟩:=rg a _ hg;cases ho with
   | dK hs=>
    have q':uZ X.K H kvs hs:=q;exact .inl ⟨hs,k,e,v5 hk ry,q'.val k⟩
   | _=>exact q.elim
  ·exact h.elim
 ·exact h.elim
theorem iP.at(h:iP G x)(I:Inv X pins σ H s)(rg:RG X.K H G)(rx:RD X.K H x o)(ro:aF o ov):
  s.TypeIs ov "dict"/\(∀ b,ov=.ref b->∃ ob,s.heap.get? b=some ob/\ob.dict=none):=by
 unfold iP at h;split at h
 ·rename_i a;simp only[RD]at rx;subst rx;cases ro;split at h
  ·rename_i hw' kvs hg;obtain⟨ho,e,q⟩:=rg a _ hg;cases ho with
   | ext φ=>
    obtain⟨xs,rfl,rt,nd,_⟩:=q;obtain⟨hd,ob,es,ep,h1,h2,h3,h4⟩:=(show bZ X.prog X.w H s.heap a (.ext (qV hw' a xs))from I.hok a _ e).1
    refine⟨⟨ob,h1,h2.1⟩,fun b hb=>?_⟩;cases hb;exact⟨ob,h1,h2.2.1⟩
   | _=>exact q.elim
  ·rename_i kvs hg;obtain⟨ho,e,q⟩:=rg a _ hg;cases ho with
   | dK hs=>
    obtain⟨t1,t2,_⟩:=ES I (.inl ⟨hs,.inl e⟩);exact⟨t1,t2⟩
   | _=>exact q.elim
  ·exact h.elim
 ·exact h.elim
theorem cG.dct{hw:List aQ->Int}(h:cG hw G x y r):iP G x:=by
 unfold cG at h;unfold iP;split at h
 ·split at h
  ·rename_i e;simp only[e]
  ·rename_i e;simp only[e]
  ·exact h.elim
 ·exact h.elim
theorem CD{Q:IV->IX->Prop}(hu:A.units+1 < JY)(I:Inv X pins σ H s)(rg:RG X.K H G)(h:cG (ah X.prog X.w) G x y (some d))(rx:RD X.K H x o)(ro:aF o ov)(ry:RD X.K H y i)(ri:aF i iv)
  (q:∀ v u s',Inv X pins σ H s'->RD X.K H d v->aF v u->Q u s'):Jc (Jf X.prog X.w) A (ME ov iv) Q E s:=by
 obtain⟨a,rfl,⟨hs,k,e,rfl,r⟩|⟨xs,ks,b,hd,dd,rfl,hk,r⟩⟩:=h.split I rg rx ro ry ri
 ·rcases r with ⟨z,_⟩|⟨d',v,e1,e2,rd⟩
  ·cases z
  ·cases e1;exact yo hu I (.inl ⟨hs,k,.inl e,rfl,e2.symm⟩) ri fun u s' I' rv=>q v u s' I' rd rv
 ·rcases r with ⟨z,_⟩|⟨d',b',u,v,e1,e2,rd,rv⟩
  ·cases z
  ·cases e1;exact Ox (J7 hu) hk dd e2 (q v u _ (I.tok _) rd rv)
theorem Do{Q:IV->IX->Prop}(hu:A.units+1 < JY)(I:Inv X pins σ H s)(rg:RG X.K H G)(h:cG (ah X.prog X.w) G x y r)(rx:RD X.K H x o)(ro:aF o ov)(ry:RD X.K H y i)(ri:aF i iv)
  (q:∀ s',Inv X pins σ H s'->Q (.bool r.isSome) s'):Jc (Jf X.prog X.w) A (J_ .In iv ov) Q E s:=by
 obtain⟨a,rfl,⟨hs,k,e,rfl,l⟩|⟨xs,ks,b,hd,dd,rfl,hk,l⟩⟩:=h.split I rg rx ro ry ri
 ·refine HX hu I (tf.k e) ri fun s' I'=>?_;rcases l with ⟨rfl,e2⟩|⟨d,v,rfl,e2,_⟩<;>rw[e2]<;>exact q s' I'
 ·refine wpAny_in_heap (J7 hu) hk hd dd ?_;rcases l with ⟨rfl,e2⟩|⟨d,b',u,v,rfl,e2,_⟩<;>rw[e2]<;>exact q _ (I.tok _)
theorem AR{Q:IV->IX->Prop}(hu:A.units+1 < JY)(I:Inv X pins σ H s)(rg:RG X.K H G)(h:cG (ah X.prog X.w) G x y r)(rx:RD X.K H x o)(ro:aF o ov)(ry:RD X.K H y i)(ri:aF i iv)
  (q:∀ s',Inv X pins σ H s'->Q (.bool (!r.isSome)) s'):Jc (Jf X.prog X.w) A (J_ .NotIn iv ov) Q E s:=by
 obtain⟨a,rfl,⟨hs,k,e,rfl,l⟩|⟨xs,ks,b,hd,dd,rfl,hk,l⟩⟩:=h.split I rg rx ro ry ri
 ·refine CC hu I (tf.k e) ri fun s' I'=>?_;rcases l with ⟨rfl,e2⟩|⟨d,v,rfl,e2,_⟩<;>rw[e2]<;>exact q s' I'
 ·refine wpAny_notIn_heap (J7 hu) hk hd dd ?_;rcases l with ⟨rfl,e2⟩|⟨d,b',u,v,rfl,e2,_⟩<;>rw[e2]<;>exact q _ (I.tok _)
theorem CF{Q:IV->IX->Prop}(hu:A.units+1 < JY)(I:Inv X pins σ H s)(rg:RG X.K H G)(h:cG (ah X.prog X.w) G x y r)(rx:RD X.K H x o)(ro:aF o ov)(ry:RD X.K H y i)(ri:aF i iv)(rz:RD X.K H z zv)(rzu:aF zv zu)
  (q:∀ v u s',Inv X pins σ H s'->RD X.K H (r.getD z) v->aF v u->Q u s'):Jc (Jf X.prog X.w) A (call (.builtin "dict.get") [ov,iv,zu]) Q E s:=by
 obtain⟨a,rfl,⟨hs,k,e,rfl,l⟩|⟨xs,ks,b,hd,dd,rfl,hk,l⟩⟩:=h.split I rg rx ro ry ri
 ·refine E4 hu I (tf.k e) ri rzu fun u s' I' rv=>?_;rcases l with ⟨rfl,e2⟩|⟨d,v,rfl,e2,rd⟩<;>rw[e2]at rv
  ·exact q _ u s' I' rz rv
  ·exact q _ u s' I' rd rv
 ·refine Mc PySem.F.slot_dict_get dd.typeIs PySem.F.entry_dict_get (PySem.F.args_dict_get_3 _ _ _) (NV (Ks (bn X.prog X.w)) a b hd zu) ⟨J7 hu,ks,xs,hk,dd,?_⟩;rcases l with ⟨rfl,e2⟩|⟨d,b',u,v,rfl,e2,rd,rv⟩<;>rw[e2]
  ·exact q zv _ _ (I.tok _) rz rzu
  ·exact q v _ _ (I.tok _) rd rv
end
def sH(hw:List aQ->Int)(to ti:bP):bP:=fun σ G Q=>to σ G fun x G1=>ti σ G1 fun y G2=>∃ d,cG hw G2 (val x) (val y) (some d)/\Q d G2
def sI(hw:List aQ->Int)(ti to:bP):bP:=fun σ G Q=>ti σ G fun y G1=>to σ G1 fun x G2=>∃ r,cG hw G2 (val x) (val y) r/\Q (.bl r.isSome) G2
def lM(hw:List aQ->Int)(ti to:bP):bP:=fun σ G Q=>ti σ G fun y G1=>to σ G1 fun x G2=>∃ r,cG hw G2 (val x) (val y) r/\Q (.bl (!r.isSome)) G2
def mH(hw:List aQ->Int)(to ti tz:bP):bP:=fun σ G Q=>to σ G fun x G1=>iP G1 (val x)/\ti σ G1 fun y G2=>tz σ G2 fun z G3=>∃ r,cG hw G3 (val x) (val y) r/\Q (r.getD (val z)) G3
section
variable{X:Cx}{o i e f:JJ}{to ti tz:bP}{pos apos cpos:Pos}
theorem cD{t:bP}{e:JJ}(h:PE X e (aI X.K t)){pins:List (IW×Obj)}{s:IX}{τ:St}{H:Hp}{σ:gy}{G:Gp}{Q3:pC}(I:Inv X pins τ H s)(rs:RS X.K H σ τ)(rg:RG X.K H G)(ht:t σ G Q3):
  Jc (Jf X.prog X.w) X.A (eval e X.env) (EP X pins τ fun v H1=>∃ d G1,Q3 d G1/\Kp G H G1 H1/\RG X.K H1 G1/\RD X.K H1 (val d) v) X.xe s:=
 fx h pins s τ H _ I ⟨σ,G,Q3,rs,rg,ht,fun d G' v H' q k rg' rd=>⟨d,G',q,k,rg',rd⟩⟩
theorem og(hu:X.A.units+8 < JY)(ho:PE X o (aI X.K to))(hi:PE X i (aI X.K ti))(hs:GZ i:=by exact fun _ _=>rfl):PE X (.Subscript o i pos) (aI X.K (sH (ah X.prog X.w) to ti)):=by
 rintro pins s τ H Q I ⟨σ,G,Q3,rs,rg,h,k⟩
 refine Bk PySem.F.slot_dict_getitem.lookup hs (cm (cD ho I rs rg h) fun ov s1 zz=>?_);obtain⟨ox,H1,I1,rox,x,G1,q1,k1,rg1,rd1⟩:=zz;refine cm (cD hi I1 (rs.mono (k1.stb rg)) rg1 q1) fun iv s2 zz=>?_;obtain⟨iy,H2,I2,riy,y,G2,q2,k2,rg2,rd2⟩:=zz;obtain⟨d,l,q2⟩:=q2;have rx:=RD.mono (k2.stb rg1) _ _ rd1;exact⟨(l.dct.at I2 rg2 rx rox).1,CD (by walk_at "o") I2 rg2 l rx rox rd2 riy fun v u s3 I3 rd rv=>⟨v,H2,I3,rv,k _ G2 _ H2 q2 (k1.trans k2) rg2 (.of rd)⟩⟩
theorem FY(hu:X.A.units+8 < JY)(hi:PE X i (aI X.K ti))(ho:PE X o (aI X.K to))(hm:Kn .In o=false:=by rfl):PE X (.Compare i [.In] [o] pos) (aI X.K (sI (ah X.prog X.w) ti to)):=by
 refine Eg (op:=.In) (fun pins s τ H Q I zz=>?_) hm;obtain⟨σ,G,Q3,rs,rg,h,k⟩:=zz;refine cm (cD hi I rs rg h) fun iv s1 zz=>?_;obtain⟨iy,H1,I1,riy,y,G1,q1,k1,rg1,rd1⟩:=zz;refine cm (cD ho I1 (rs.mono (k1.stb rg)) rg1 q1) fun ov s2 zz=>?_;obtain⟨ox,H2,I2,rox,x,G2,q2,k2,rg2,rd2⟩:=zz;obtain⟨r,l,q2⟩:=q2;exact Do (by walk_at "o") I2 rg2 l rd2 rox (RD.mono (k2.stb rg1) _ _ rd1) riy fun s3 I3=>⟨.bl r.isSome,H2,I3,rfl,k _ G2 _ H2 q2 (k1.trans k2) rg2 (.of gC)⟩
theorem rQ(hu:X.A.units+8 < JY)(ho:PE X o (aI X.K to))(he:PE X e (aI X.K ti))(hf:PE X f (aI X.K tz))(m:M2 X o "get" apos e f cpos:=by exact⟨rfl,rfl,rfl,rfl⟩):PE X (.Call (.Attribute o "get" apos) [e,f] [] cpos) (aI X.K (mH (ah X.prog X.w) to ti tz)):=by
 rintro pins s τ H Q I ⟨σ,G,Q3,rs,rg,h,k⟩
 refine ON m.base m.few m.line PySem.F.plainAttrs_dict PySem.F.slot_dict_get PySem.F.type_dict_get (cm (cD ho I rs rg h) fun ov s1 zz=>?_);obtain⟨ox,H1,I1,rox,x,G1,q1,k1,rg1,rd1⟩:=zz;obtain⟨t1,t2⟩:=q1.1.at I1 rg1 rd1 rox;refine⟨t1,t2,?_⟩;rw[m.trees];refine Lj rfl (MT (Kc (cm (cD he I1 (rs.mono (k1.stb rg)) rg1 q1.2) fun iv s2 ⟨iy,H2,I2,riy,y,G2,q2,k2,rg2,rd2⟩=>Kc (cm (cD hf I2 (rs.mono ((k1.trans k2).stb rg)) rg2 q2) fun fv s3 zz=>?_))));obtain⟨fz,H3,I3,rfz,z,G3,q3,k3,rg3,rd3⟩:=zz;refine KE ?_;obtain⟨r,l,q3⟩:=q3;exact CF (by walk_at "o") I3 rg3 l (RD.mono ((k2.trans k3).stb rg1) _ _ rd1) rox (RD.mono (k3.stb rg2) _ _ rd2) riy rd3 rfz fun v u s4 I4 rd rv=>⟨v,H3,I4,rv,k _ G3 _ H3 q3 (k1.trans (k2.trans k3)) rg3 (.of rd)⟩
end
end L3
namespace PySem.W
open PySem PyProof.Rows
def KasT.run{α:Type}(lt:Nat->Nat->Bool):KasT α->α
 | .ret a=>a
 | .ask i j k=>(k (lt i j)).run lt
section
variable(r:Nat->Nat)
def RR(p:Array Nat)(i:Nat):Nat:=r (p.getD i 0)
def Ix(p:Array Nat)(n:Nat):Prop:=∀ i,i+1 < n->RR r p (i+1)<=RR r p i
end
section
variable{κ:Type}(blt:κ->κ->Bool)
structure SWO:Prop where
 irrefl:∀ a,blt a a=false
 trans:∀ a b c,blt a b=true->blt b c=true->blt a c=true
 neg:∀ a b c,blt a c=true->blt a b=true\/blt b c=true
def rankIn(ks:List κ)(a:κ):Nat:=ks.countP fun k=>blt k a
end
section
variable{κ:Type}{blt:κ->κ->Bool}
theorem qJ{p q:κ->Bool}(ks:List κ)(h:∀ x,p x=true->q x=true):ks.countP p<=ks.countP q:=by
 induction ks with
 | nil=>exact le_refl _
 | cons x r ih=>
  rw[MR,MR];cases hp:p x with
  | false=>simp;split<;>omega
  | true=>rw[h x hp];simp;omega
theorem yq{p q:κ->Bool}{ks:List κ}(h:∀ x,p x=true->q x=true){y:κ}(hy:y∈ks)(h1:p y=false)(h2:q y=true):ks.countP p < ks.countP q:=by
 induction ks with
 | nil=>simp at hy
 | cons x r ih=>
  rw[MR,MR];rcases Kg.mp hy with rfl|hy
  ·have:=qJ r h;rw[h1,h2];simp;omega
  ·have:=ih hy;cases hp:p x with
   | false=>simp;split<;>omega
   | true=>rw[h x hp];simp;omega
theorem rank_lt(o:SWO blt){ks:List κ}{a b:κ}(ha:a∈ks):blt a b=decide (rankIn blt ks a < rankIn blt ks b):=by
 cases e:blt a b with
 | true=>
  symm;rw[decide_eq_true_iff];exact yq (fun x hx=>o.trans _ _ _ hx e) ha (o.irrefl a) e
 | false=>
  symm;rw[decide_eq_false_iff_not,not_lt];refine qJ ks fun x hx=>?_;rcases o.neg x a b hx with h|h
  ·exact h
  ·rw[e]at h;cases h
end
section
variable{α:Type}(blt:α->α->Bool)
structure STO:Prop where
 irrefl:∀ a,blt a a=false
 trans:∀ a b c,blt a b=true->blt b c=true->blt a c=true
 tot:∀ a b,blt a b=false->blt b a=false->a=b
def pR[DecidableEq α]:List α->List α->Bool
 | [],[]=>false
 | [],_::_=>true
 | _::_,[]=>false
 | a::r,b::t=>if a=b then pR r t else blt a b
end
section
variable{α:Type}{blt:α->α->Bool}
theorem STO.neg(o:STO blt)(a b c:α)(h:blt a c=true):blt a b=true\/blt b c=true:=by
 cases e:blt a b with
 | true=>exact .inl rfl
 | false=>
  cases e2:blt b c with
  | true=>exact .inr rfl
  | false=>
   cases e3:blt b a with
   | true=>have:=o.trans _ _ _ e3 h;rw[e2]at this;cases this
   | false=>
    have:=o.tot _ _ e e3;subst this;rw[h]at e2;cases e2
theorem STO.swo(o:STO blt):SWO blt:=⟨o.irrefl,o.trans,o.neg⟩
variable[DecidableEq α]
theorem jB(a b:α)(r t:List α):pR blt (a::r) (b::t)=if a=b then pR blt r t else blt a b:=rfl
theorem wU(o:STO blt):STO (pR blt) where
 irrefl:=by
  intro a
  induction a with
  | nil=>rfl
  | cons x r ih=>rw[jB,if_pos rfl,ih]
 trans:=by
  intro a
  induction a with
  | nil=>
   intro b c h1 h2;cases c with
   | nil=>cases b<;>cases h2
   | cons _ _=>rfl
  | cons x r ih=>
   intro b c h1 h2;cases b with
   | nil=>cases h1
   | cons y t=>
    cases c with
    | nil=>cases h2
    | cons z u=>
     rw[jB]at h1 h2 ⊢
     by_cases e1:x=y
     ·subst e1;rw[if_pos rfl]at h1
      by_cases e2:x=z
      ·subst e2;rw[if_pos rfl]at h2 ⊢;exact ih t u h1 h2
      ·rw[if_neg e2]at h2 ⊢;exact h2
     ·rw[if_neg e1]at h1
      by_cases e2:y=z
      ·subst e2;rw[if_neg e1];exact h1
      ·rw[if_neg e2]at h2;have h3:=o.trans _ _ _ h1 h2;rw[if_neg (fun e=>by subst e;rw[o.irrefl]at h3;cases h3)]
       exact h3
 tot:=by
  intro a
  induction a with
  | nil=>
   intro b h1 h2;cases b with
   | nil=>rfl
   | cons _ _=>cases h1
  | cons x r ih=>
   intro b h1 h2;cases b with
   | nil=>cases h2
   | cons y t=>
    rw[jB]at h1 h2
    by_cases e1:x=y
    ·subst e1;rw[if_pos rfl]at h1 h2;rw[ih t h1 h2]
    ·rw[if_neg e1]at h1;rw[if_neg (Ne.symm e1)]at h2;exact absurd (o.tot _ _ h1 h2) e1
end
def uj(a b:Nat):Bool:=decide (a < b)
theorem wR:STO uj:=⟨fun a=>by simp[uj],fun a b c h1 h2=>by simp only[uj,decide_eq_true_eq]at *;omega,fun a b h1 h2=>by simp only[uj,decide_eq_false_iff_not]at *;omega⟩
def sC(a b:Int):Bool:=decide (a < b)
theorem jD:STO sC:=⟨fun a=>by simp[sC],fun a b c h1 h2=>by simp only[sC,decide_eq_true_eq]at *;omega,fun a b h1 h2=>by simp only[sC,decide_eq_false_iff_not]at *;omega⟩
theorem oF:∀ a b:List Nat,pR uj a b=decide (a < b)
 | [],[]=>by simp[pR]
 | [],b::t=>by simp[pR]
 | a::r,[]=>by simp[pR]
 | a::r,b::t=>by
  rw[jB]
  by_cases e:a=b
  ·subst e;rw[if_pos rfl,oF r t];simp
  ·rw[if_neg e];simp[uj,List.cons_lt_cons_iff,e]
end PySem.W
namespace L3
open PySem PySem.Spec PyProof.Rows L2 PySem.SeqAt
open PySem.AutoSeq1 (wpAny_loadPart')
open PySem.MeetsSeq PySem.MeetsSeq2 PySem.MeetsSeq3
def cE(blt:D->D->Bool):List D->List D->Bool
 | [],[]=>false
 | [],_::_=>true
 | _::_,[]=>false
 | a::r,b::t=>if fh a b=true then cE blt r t else blt a b
def ij:Nat->D->D->Bool
 | _,.int a,.int b=>decide (a < b)
 | _,.str x,.str y=>decide (x.cps.toList < y.cps.toList)
 | n+1,.tup xs,.tup ys=>cE (ij n) xs ys
 | _,_,_=>false
def Dp(n:Nat)(P:D->D->Prop):List D->List D->Prop
 | a::r,b::t=>(pl n a/\pl n b)/\(a≠b->P a b)/\Dp n P r t
 | _,_=>True
def tq:Nat->D->D->Prop
 | _,.int _,.int _=>True
 | _,.str _,.str _=>True
 | n+1,.tup xs,.tup ys=>Dp n (tq n) xs ys
 | _,_,_=>False
def CN(op:M_)(A:Jy)(s:IX)(v u:IV)(b:Bool):Prop:=
 ∀ (prog:Jw) (w:JG) (E:IV->IX->Prop) (Q:IV->IX->Prop),Q (.bool b) s->Jc (Jf prog w) A (richCompare op v u) Q E s
def qU(op:M_)(fin:Bool)(A:Jy)(s:IX):List IV->List IV->Bool->Prop
 | v::vs,u::us,out=>∃ e,EqAt A s v u e/\(e=true->qU op fin A s vs us out)/\(e=false->CN op A s v u out)
 | _,_,out=>out=fin
theorem xW{op:M_}{fin out:Bool}{A:Jy}{s:IX}:∀ {vs us:List IV},qU op fin A s vs us out->vs.zip us=[]->out=fin
 | [],_,h,_=>h
 | _::_,[],h,_=>h
 | _::_,_::_,_,e=>by rw[LC]at e;cases e
theorem vd(l b:IW)(items items2:Array IV)(n n2:Nat)(dd dd2:Option IW)(sl sl2:Array (Option IV))(out:Bool):
  Meets (Builtin.«tuple.__lt__» ⟨[.ref l,.ref b],[]⟩)
   (fun A R s=>s.heap.get? l=some { cls:=.type "tuple",dict:=dd,data:=.seq items n,slots:=sl }/\s.heap.get? b=some { cls:=.type "tuple",dict:=dd2,data:=.seq items2 n2,slots:=sl2 }/\
    qU .Lt (decide (items.size < items2.size)) A.in1 s items.toList items2.toList out/\R (.ok (.ret (.bool out))) s):=
 .of_wp fun prog w A R s h=>by
  obtain⟨hp,g,d,tk,os⟩:=s;obtain⟨hl,hb,hx,h⟩:=h;have f2:=AutoSeq1.sub_tuple_tuple
  wp_walk using wpAny_loadPart' hl,wpAny_loadPart' hb,wpAny_forIn_list _ (fun bU b s'=>b.1=none/\s'=⟨hp,g,d,tk,os⟩/\∃ vs ws,bU=vs.zip ws/\qU .Lt (decide (items.size < items2.size)) A.in1 ⟨hp,g,d,tk,os⟩ vs ws out) _
  case turn=>
   rintro⟨y,x⟩ bU b s' ⟨hb',rfl,vs,ws,hz,lx⟩
   cases vs with
   | nil=>rw[List.zip_nil_left]at hz;cases hz
   | cons v vs=>
    cases ws with
    | nil=>rw[List.zip_nil_right]at hz;cases hz
    | cons u ws=>
     rw[LC]at hz;injection hz with hyx hrest
     injection hyx with hy hx'
     subst hy hx';obtain⟨e,he,l1,l2⟩:=lx;refine IU (he prog w _ _ ?_);cases e with
     | true=>
      wp_walk
      exact⟨rfl,rfl,_,_,hrest,l1 rfl⟩
     | false=>
      have hri:=l2 rfl prog w
      wp_walk using hri
      exact⟨_,rfl,by simpa using h⟩
  case fin=>
   rintro⟨b1,b2⟩ s' ⟨hb',rfl,vs,ws,hz,lx⟩
   simp only at hb';subst hb';have hv:=xW lx hz.symm;rw[hv]at h
   wp_walk
   exact⟨_,rfl,by simpa[Builtin.Tuple.tupleCompareSizes]using h⟩
  case h=>
   exact⟨rfl,rfl,items.toList,items2.toList,rfl,hx⟩
theorem Ag{A:Jy}{s:IX}{l b:IW}{items items2:Array IV}{out:Bool}(hl:s.heap.IsTuple l items)(hb:s.heap.IsTuple b items2)(hu:A.units < JY)
  (hx:qU .Lt (decide (items.size < items2.size)) A.in1 s items.toList items2.toList out):CN .Lt A s (.ref l) (.ref b) out:=fun prog w E Q h=>by
 obtain⟨⟨cls,dd,data,sl⟩,ho,hc,n,hd⟩:=id hl;obtain⟨⟨cls2,dd2,data2,sl2⟩,ho2,hc2,n2,hd2⟩:=id hb;simp only at hc hd hc2 hd2;subst hc hd hc2 hd2;exact richCompare_meets_room (op:=.Lt) ⟨_,ho,rfl⟩ ⟨_,ho2,rfl⟩ PySem.F.slot_tuple_lt PySem.F.entry_tuple_lt (PySem.F.args_tuple_lt_2 _ _) (vd l b items items2 n n2 dd dd2 sl sl2 out)
  ⟨ho,ho2,hx,show Value.bool out≠Value.notImplemented/\Q (.bool out) s from ⟨(fun x=>nomatch x),h⟩⟩ hu
section
variable{X:Cx}{pins:List (IW×Obj)}{σ:St}{H:Hp}{s:IX}
theorem uv(I:Inv X pins σ H s){n:Nat}{A:Jy}(hu:A.units+n < JY){N1 N2:Nat}
  (ih:∀ {x y:D} {v u:V} {v' u':IV},tq n x y->RD X.K H x v->RD X.K H y u->aF v v'->aF u u'->CN .Lt A s v' u' ( ij n x y)):
  ∀ {ds es:List D} {xs ys:List V} {us ws:List IV},Dp n (tq n) ds es->RDs X.K H ds xs->RDs X.K H es ys->Vals xs us->Vals ys ws->ds.length+N2=es.length+N1->qU .Lt (decide (N1 < N2)) A s us ws ( cE (ij n) ds es)
 | [],es,xs,ys,us,ws,_,r1,r2,w1,w2,hl=>by
  rw[r1.inv_nil]at w1;cases w1;show ( cE (ij n) [] es)=decide (N1 < N2)
  cases es with
  | nil=>
   simp only[JU]at hl;have e1:N2=N1:=by walk_at "o"
   subst e1;simp[cE]
  | cons b t=>
   simp only[JU,Jv]at hl;have:N1 < N2:=by walk_at "o"
   simp[cE];omega
 | a::r,[],xs,ys,us,ws,_,r1,r2,w1,w2,hl=>by
  rw[r2.inv_nil]at w2;cases w2;obtain⟨x1,t1,e1,_,_⟩:=r1.inv_cons;subst e1;cases w1;show ( cE (ij n) (a::r) [])=decide (N1 < N2)
  simp only[JU,Jv]at hl;have:N2 < N1:=by walk_at "o"
  simp[cE];omega
 | a::r,b::t,xs,ys,us,ws,⟨p,c,q⟩,r1,r2,w1,w2,hl=>by
  obtain⟨x1,t1,e1,g1,g2⟩:=r1.inv_cons;subst e1;obtain⟨x2,t2,e2,f1,f2⟩:=r2.inv_cons;subst e2;cases w1 with
  | cons k1 w1=>
  cases w2 with
  | cons k2 w2=>
   refine⟨fh a b,(pi I n p.1 p.2 g1 f1 k1 k2 hu).eq,fun e=>?_,fun e=>?_⟩
   ·rw[show cE (ij n) (a::r) (b::t)=cE (ij n) r t by simp[cE,e]]
    simp only[Jv]at hl;exact uv I hu ih q g2 f2 w1 w2 (by walk_at "o")
   ·rw[show cE (ij n) (a::r) (b::t)=ij n a b by simp[cE,e]]
    exact ih (c fun z=>by rw[z,bo]at e;cases e) g1 f1 k1 k2
theorem En(I:Inv X pins σ H s):∀ (n:Nat) {x y:D} {v u:V} {v' u':IV} {A:Jy},tq n x y->RD X.K H x v->RD X.K H y u->aF v v'->aF u u'->A.units+n < JY->CN .Lt A s v' u' ( ij n x y):=by
 intro n
 induction n with
 | zero=>
  intro x y v u v' u' A c rx ry lx ly hu;cases x<;>cases y<;>first|exact c.elim|skip
  ·simp only[RD]at rx ry;subst rx ry;obtain⟨t,rfl⟩:=lx;obtain⟨t',rfl⟩:=ly;intro prog w E Q h;exact (PyProof.Rows.lt_int h:Jc (Jf prog w) A (J_ .Lt (.int _ t) (.int _ t')) Q E s)
  ·simp only[RD]at rx ry;subst rx ry;obtain⟨t,rfl⟩:=lx;obtain⟨t',rfl⟩:=ly;intro prog w E Q h;exact (PySem.P.lt_str h:Jc (Jf prog w) A (J_ .Lt (.str _ t) (.str _ t')) Q E s)
 | succ n ih=>
  intro x y v u v' u' A c rx ry lx ly hu;cases x<;>cases y<;>first|exact c.elim|skip
  ·simp only[RD]at rx ry;subst rx ry;obtain⟨t,rfl⟩:=lx;obtain⟨t',rfl⟩:=ly;intro prog w E Q h;exact (PyProof.Rows.lt_int h:Jc (Jf prog w) A (J_ .Lt (.int _ t) (.int _ t')) Q E s)
  ·simp only[RD]at rx ry;subst rx ry;obtain⟨t,rfl⟩:=lx;obtain⟨t',rfl⟩:=ly;intro prog w E Q h;exact (PySem.P.lt_str h:Jc (Jf prog w) A (J_ .Lt (.str _ t) (.str _ t')) Q E s)
  ·rename_i ds es;simp only[RD]at rx ry;obtain⟨a,xs,rfl,s1,r1⟩:=rx;obtain⟨b,ys,rfl,s2,r2⟩:=ry;cases lx;cases ly;obtain⟨its,w1,t1,z1⟩:=I.tuple s1;obtain⟨its2,w2,t2,z2⟩:=I.tuple s2;have l1:=w1.length;have l1':=r1.length;have l2:=w2.length;have l2':=r2.length;refine Ag t1 t2 (by walk_at "o") ?_
   exact uv I (A:=A.in1) (by show A.units+1+n < JY;omega) (fun c rx ry lx ly=>ih c rx ry lx ly (by show A.units+1+n < JY;omega)) c r1 r2 w1 w2 (by simp only[Jj];omega)
end
def HF:R3:=fun x y G Q=>tq 4 x y/\Q (.bl (! ij 4 x y)) G
open PySem.W
def kt(h:JI)(d:IW)(vs:List IV)(ep:Nat):Prop:=∃ o es,h.get? d=some o/\o.ExactDict/\o.data=.dict es ep/\es.toList.map (·.val)=vs
section
variable{prog:Jw}{w:JG}{A:Jy}{E:IV->IX->Prop}{s:IX}{d r it:IW}{vs:List IV}{ep i:Nat}
theorem kt.ty(x:kt s.heap d vs ep):s.TypeIs (.ref d) "dict":=let ⟨o,_,e,z,_⟩:=x;⟨o,e,z.1⟩
theorem kt.there{h:JI}(x:kt h d vs ep):d < h.objs.size:=let ⟨_,_,e,_⟩:=x;Ju e
theorem kt.stay{h h':JI}(x:kt h d vs ep)(k:∀ o,h.get? d=some o->h'.get? d=some o):kt h' d vs ep:=let ⟨o,es,e,z⟩:=x;⟨o,es,k o e,z⟩
theorem vF(hs:(d == J8)=false):MeetsIn prog w (Builtin.«dict.values» ⟨[.ref d],[]⟩) (fun _ R s=>(∃ vs ep,kt s.heap d vs ep)/\
  R (.ok (.ret (.ref s.heap.objs.size))) { s with heap:=s.heap.push { cls:=.type "dict_values",data:=.fields #[.ref d] } }):=
 .of_wp fun A R s zz=>by
  obtain⟨⟨vs,ep,x⟩,q⟩:=zz;refine IU ?_;unfold Ov;refine IU (Ls x.ty ?_);show Jc _ _ (pure d) _ _ s;refine IY ?_
  show Jc _ _ (K2 d >>= _) _ _ s;unfold K2
  rw[if_neg (fun z=>by rw[hs]at z;cases z)];refine IU (IY ?_)
  exact IU (JS (IY ⟨_,rfl,q⟩))
theorem zw{Q:IV->IX->Prop}(hr:s.heap.IsValuesView r d)(x:kt s.heap d vs ep)
  (q:Q (.ref s.heap.objs.size) { s with heap:=s.heap.push { cls:=.type "dict_valueiterator",data:=.fields #[.ref d,.int 0 0,.int vs.length 0,.int ep 0] } }):Jc (Jf prog w) A (Mf (.ref r)) Q E s:=by
 obtain⟨ov,e1,c1,d1⟩:=id hr;obtain⟨o,es,e2,c2,d2,rfl⟩:=x;refine Mr hr.typeIs N4 (J9 N4 hr.typeIs F.entry_dict_values_iter ?_ (F.args_dict_values_iter_1 _));unfold Builtin.«dict_values.__iter__»;refine IU (IY ?_);refine IU ?_;unfold NP;refine IU (Ky e1 d1 (x:=.ref d) rfl (IY ?_));refine IU ?_;unfold Nv;refine IU (Ko e2 d2 ?_);refine IU (Lk e2 d2 ?_);have own:Kj "dict_valueiterator"=false:=by decide
 simp only[own,Bool.false_eq_true,if_false];refine JS (IY ⟨_,rfl,"dict_valueiterator",_,⟨_,Je _ rfl,rfl⟩,Lb.lookup,?_⟩)
 simpa[LB]using q
theorem zA{v:IV}{Q:Option IV->IX->Prop}(hi:s.heap.IsValIter it d i vs.length ep)(x:kt s.heap d vs ep)(hv:vs[i]?=some v)
  (q:∀ h',h'.IsValIter it d (i+1) vs.length ep->KO it s.heap h'->Q (some v) { s with heap:=h' }):Jc (Jf prog w) A (Lf (.ref it)) Q E s:=by
 obtain⟨o,e1,c1,d1⟩:=id hi;obtain⟨od,es,e2,c2,d2,rfl⟩:=x;unfold Lf;refine IU (Lq (Km (name:=I_ "__next__") hi.typeIs Lb (J9 Lb hi.typeIs Np ?_ (No _))));refine IU (IY ?_);refine IU ?_;refine IU ?_
 first|refine IU (Lc hi.typeIs (IY ?_))|refine IU (LF hi.typeIs (IY ?_))
 refine IU (MO e1 d1 ?_);have own:Kj "dict_valueiterator"=false:=by decide
 simp only[own,Bool.false_eq_true,if_false];show Jc _ _ (if (Value.ref d == Value.none)=true then _ else _) _ _ s;rw[if_neg (show ¬ ((Value.ref d == Value.none)=true)from Bool.false_ne_true)]
 refine IU (IY ?_);refine IU (Ko e2 d2 ?_);have z:es.size=(es.toList.map (·.val)).length:=by simp
 rw[if_neg (by rw[z];simp)];refine IU (IY ?_);refine IU (Lk e2 d2 ?_)
 rw[if_neg (by simp)];refine IY ?_
 have lt:i < es.size:=by
  rw[z];rcases KZ i (es.toList.map (·.val)).length with h|h
  ·exact h
  ·rw[J5 h]at hv;cases hv
 have val:es[i].val=v:=by
  rw[JB]at hv
  simpa[lt]using hv
 simp only[show ¬ ((i:Int) < 0)from by walk_at "o",if_false,Int.toNat_natCast,Array.getElem?_eq_getElem lt];refine IU ?_
 first|refine IU (Lc hi.typeIs (IY ?_))|refine IU (LF hi.typeIs (IY ?_))
 refine IU (MI hi.typeIs ?_);show Jc _ _ (Om (.ref it) 1 (LB ((i:Int)+1)) >>= _) _ _ s;refine IU (ML e1 d1 (by simp) ?_)
 have hi':(s.heap.update it (Mx (·.setIfInBounds 1 (LB ((i:Int)+1))))).IsValIter it d (i+1) (es.toList.map (·.val)).length ep:=
  ⟨_,LX _ e1 (Oj (Mm d1 _)),(OS ..).trans c1,by rw[Mm d1];simp[LB]⟩
 refine IU (JZ ?_);refine IU (MI (s:={ s with heap:=s.heap.update it (Mx (·.setIfInBounds 1 (LB ((i:Int)+1)))) }) hi'.typeIs ?_)
 refine IU (MI (s:={ s with heap:=s.heap.update it (Mx (·.setIfInBounds 1 (LB ((i:Int)+1)))) }) hi'.typeIs ?_);show Jc _ _ (pure es[i].val) _ _ _
 exact IY (IY ⟨_,rfl,IY (val ▸ q _ hi' (K_ ..))⟩)
theorem By{Q:Option IV->IX->Prop}(hh:A.handled=none)(hi:s.heap.IsValIter it d i vs.length ep)(x:kt s.heap d vs ep)(hv:vs[i]?=none)
  (q:∀ h',Heap.ExtBut it s.heap h'->Q none { s with heap:=h' }):Jc (Jf prog w) A (Lf (.ref it)) Q E s:=by
 obtain⟨o,e1,c1,d1⟩:=id hi;obtain⟨od,es,e2,c2,d2,rfl⟩:=x;unfold Lf;refine IU (Lq (Km (name:=I_ "__next__") hi.typeIs Lb (J9 Lb hi.typeIs Np ?_ (No _))));refine IU (IY ?_);refine IU ?_;refine IU ?_
 first|refine IU (Lc hi.typeIs (IY ?_))|refine IU (LF hi.typeIs (IY ?_))
 refine IU (MO e1 d1 ?_);have own:Kj "dict_valueiterator"=false:=by decide
 simp only[own,Bool.false_eq_true,if_false];show Jc _ _ (if (Value.ref d == Value.none)=true then _ else _) _ _ s;rw[if_neg (show ¬ ((Value.ref d == Value.none)=true)from Bool.false_ne_true)]
 refine IU (IY ?_);refine IU (Ko e2 d2 ?_);have z:es.size=(es.toList.map (·.val)).length:=by simp
 rw[if_neg (by rw[z];simp)];refine IU (IY ?_);refine IU (Lk e2 d2 ?_)
 rw[if_neg (by simp)];refine IY ?_
 have ge:es.size<=i:=by rw[z];simpa using hv
 simp only[show ¬ ((i:Int) < 0)from by walk_at "o",if_false,Int.toNat_natCast,Array.getElem?_eq_none ge];refine IU ?_
 first|refine IU (Lc hi.typeIs (IY ?_))|refine IU (LF hi.typeIs (IY ?_))
 show Jc _ _ (Om (.ref it) 0 .none >>= _) _ _ s;refine IU (ML e1 d1 (by simp) ?_)
 show Jc _ _ (newExc (.type "StopIteration") [] >>= _) _ _ _;refine IU ?_
 simp only[newExc,newTuple];refine IU (JS ?_ (by size_fits))
 refine IU (m:=MQ _ _) (wpAny_of_eq (a:=Value.none) (by first|rfl|(simp only[MQ];rfl)) ?_);refine JS ?_ (by size_fits)
 simp only[raiseNew];refine IU (wpAny_handled ?_);rw[show A.in1.handled=none from hh]
 refine IU (IY (wpAny_throw ?_));refine IU (Nq (T:="StopIteration") (b:=true) ⟨_,Je _ rfl,rfl⟩ NI ?_);exact IY (q _ (((K_ ..).extBut.push _).push _))
theorem zt(hh:A.handled=none)(hne:d≠it):Walks prog w A it [it,d] [it] vs.length (fun i v=>vs[i]?=some v) (fun i h=>h.IsValIter it d i vs.length ep/\kt h d vs ep) where
 sub:=fun b hb=>by rw[mem_singleton.mp hb];exact Jk
 frame:=fun _ _ _ t k=>⟨t.1.at fun o e=>k it Jk o e,t.2.stay fun o e=>k d (Jl _ Jk) o e⟩
 item:=fun i s Q E hi t q=>by
  obtain⟨v,hv⟩:∃ v,vs[i]?=some v:=⟨vs[i],by simp[hi]⟩
  refine zA t.1 t.2 hv fun h' a b=>?_;exact q v h' s.toks hv ⟨a,t.2.stay fun o e=>b.extBut d o hne e⟩ fun c o hc e=>b.extBut c o (fun z=>hc (by rw[z];exact Jk)) e
 done:=fun s Q E t q=>By hh t.1 t.2 (by simp) fun h' b=>q h' s.toks fun c o hc e=>b c o (fun z=>hc (by rw[z];exact Jk)) e
 self:=fun _ _ _ _ t q=>wpAny_pyIter_valiter t.1 q
theorem Bx:KdlSrc prog w "dict_values" r d vs.length (fun i v=>vs[i]?=some v) (fun h=>h.IsValuesView r d/\kt h d vs ep) where
 type:=fun _ x=>x.1.typeIs
 there:=fun _ x=>⟨let ⟨_,e,_⟩:=x.1;Ju e,x.2.there⟩
 keep:=fun _ _ x k=>⟨let ⟨o,e,z⟩:=x.1;⟨o,k r (.inl rfl) o e,z⟩,x.2.stay fun o e=>k d (.inr rfl) o e⟩
 notList:=by decide
 notTuple:=by decide
 hint:=fun _ _ _ _ x q=>kdl_hint_values x.1.typeIs q
 iter:=fun _ _ hh x=>⟨_,_,(fun _ _ q=>zw x.1 x.2 q),zt hh (JP x.2.there),⟨⟨_,Je _ rfl,rfl,rfl⟩,x.2.stay fun o e=>Ja _ e⟩⟩
end
def XO(a:IW)(o:Obj):HO:=.ext fun h=>h.get? a=some o
theorem CU{P:Jw}{w:JG}{H:Hp}{h:JI}{a:IW}{o:Obj}(e:h.get? a=some o):bZ P w H h a (XO a o):=⟨e,⟨o,e⟩,fun _ _ p k=>k _ p⟩
section
variable{X:Cx}{pins:List (IW×Obj)}{τ:St}{H H0:Hp}{s:IX}{G:Gp}{a:IW}{o:Obj}{u:HO}
theorem i5(I:Inv X pins τ H s)(e:H a=some (XO a o)):s.heap.get? a=some o:=(show bZ X.prog X.w H s.heap a (XO a o)from I.hok a _ e).1
theorem mE{t':Nat}{h':JI}(I:Inv X pins τ H s)(ha:s.heap.objs.size=a)(hh:h'=s.heap.push o)(hf:o.isFreed=false:=by rfl):Inv X pins τ (bG H a (XO a o)) { s with heap:=h',toks:=t' }:=by
 subst ha hh;exact I.laid (fun _ _ e=>Ja _ e) (le_refl _) (CU (Je _ hf))
theorem lF{t':Nat}{o':Obj}{f:Obj->Obj}(I:Inv X pins τ H s)(e:H a=some (XO a o))(e':(s.heap.update a f).get? a=some o'):Inv X pins τ (bG H a (XO a o')) { s with heap:=s.heap.update a f,toks:=t' }:=
 I.write (x:=a) (e:=a) (by rw[e];exact trivial) (.inl rfl) (fun b u hb hu=>(Li s.heap f (Ne.symm hb)).trans hu) ⟨_,e'⟩ (CU e')
theorem ip{K:JD}(mu:yA (H a)):Stb K H (bG H a u) where
 t:=fun b xs q=>by
  rcases q with (q|⟨z,q⟩)|q
  ·exact .inl (.inl (by rw[ax (fun e=>by subst e;rw[q]at mu;exact mu)];exact q))
  ·exact .inl (.inr ⟨z,by rw[ax (fun e=>by subst e;rw[q]at mu;exact mu)];exact q⟩)
  ·exact .inr q
 l:=fun b xs q=>by
  rcases q with ⟨z,q⟩|q
  ·exact .inl ⟨z,by rw[ax (fun e=>by subst e;rw[q]at mu;exact mu)];exact q⟩
  ·exact .inr q
theorem qw{K:JD}(rg:RG K H G)(g:G a=none)(mu:yA (H a)):RG K (bG H a u) G:=fun b z q=>by
 obtain⟨h,e1,r⟩:=rg b z q;have hb:b≠a:=fun e=>by subst e;rw[q]at g;cases g
 exact⟨h,by rw[ax hb];exact e1,r.mono (ip mu)⟩
theorem oM(k:Kp G H0 G H)(n:H0 a=none):Kp G H0 G (bG H a u):=fun b h e g=>⟨by rw[ax (b6 e n)];exact (k b h e g).1,g⟩
theorem Ce{k:Nat}{f:IW}{fd:JE}{ps:List Str}{sp:fB}{d kd:D}{v:V}{x:IV}{A:Jy}{E:IV->IX->Prop}(F:FnOk X.prog X.w X.K X.mg X.base gF k f fd ps (aJ X.K sp))(hb:gr X.K fd ps [])(hr:Room k A)(hA:Env0 X.prog X.w X.K X.mg X.base A X.stack s H)
  (I:Inv X pins τ H s) (rg:RG X.K H G) (rd:RD X.K H d v) (rv:aF v x) (hs:sp [d] G fun z G'=>z=kd/\G'=G) (nf:∀ l,kd≠.fl l) {Q:IV->IX->Prop}
  (q:∀ u v' H' s',Inv X pins τ H' s'->Kp G H G H'->RG X.K H' G->RD X.K H' kd v'->aF v' u->Q u s'):Jc (Jf X.prog X.w) A (call (.ref f) [x]) Q E s:=by
 have sp1:aJ X.K sp [v] H (fun v' H'=>Kp G H G H'/\RG X.K H' G/\RD X.K H' kd v') (fun _ _ _=>False):=
  ⟨[d],G,_,RDs.cons rd RDs.nil,rg,hs,fun z G' v' H' e k1 rg1 re=>by obtain⟨rfl,rfl⟩:=e;exact⟨k1,rg1,re.rd nf⟩⟩
 have r2:Vals [v] [x]:=.cons rv .nil;have hl:([x] ++ ([]:List IV)).length=ps.length:=by
  have:=F.len _ _ _ _ sp1
  simpa using this
 refine Oz (MF (F.run A X.stack s H ⟨[x],[]⟩ ([x] ++ []) [v] _ _ hr hA (hb s [x] I.kIn hl) (by simpa using r2) sp1) fun r s' hq=>?_)
 cases r with
 | error e=>exact False.elim hq
 | ok fl=>
  cases fl with
  | ret u=>
   obtain⟨v',H',I',rv',k1,rg1,rd1⟩:=I.after hq;exact q u v' H' s' I' k1 rg1 rd1 rv'
  | next=>exact False.elim hq
  | brk=>exact False.elim hq
  | cont=>exact False.elim hq
end
theorem uB{X:Cx}{pins:List (IW×Obj)}{τ:St}{H0:Hp}{G:Gp}{k:Nat}{f:IW}{fd:JE}{ps:List Str}{sp:fB}{A:Jy}{E:IV->IX->Prop}(F:FnOk X.prog X.w X.K X.mg X.base gF k f fd ps (aJ X.K sp))(hb:gr X.K fd ps [])(hr:Room k A)
  (hA:∀ {s H},Inv X pins τ H s->Env0 X.prog X.w X.K X.mg X.base A X.stack s H) {S D0:IW} {oD:Obj} (nS:H0 S=none) (nD:H0 D0=none) (gS:G S=none) (gD:G D0=none) (hne:S≠D0)
  {body:IV->PUnit->Sem (ForInStep PUnit)}
  (hbd:∀ x s Q,Jc (Jf X.prog X.w) A (call (.ref f) [x]) (fun u s'=>Jc (Jf X.prog X.w) A (N5 (.ref S) (·.push u)) (fun _=>Q (.yield ⟨⟩)) E s') (fun _ _=>False) s->Jc (Jf X.prog X.w) A (body x ⟨⟩) Q E s):
  ∀ {ds ks:List D} {vs:List V} {us:List IV},ks.length=ds.length->(∀ (i:Nat) d kd,ds[i]?=some d->ks[i]?=some kd->(sp [d] G fun z G'=>z=kd/\G'=G)/\∀ l,kd≠.fl l)->
   ∀ {H:Hp} {s:IX} {done:List D} {kv:List V} {ku:List IV} {n:Nat},Inv X pins τ H s->Kp G H0 G H->RG X.K H G->RDs X.K H ds vs->Vals vs us->H D0=some (XO D0 oD)->H S=some (XO S (Kh "list" ku.toArray n))->RDs X.K H done kv->Vals kv ku->ku.length+us.length < 64->
   ∀ {Q:PUnit->IX->Prop},(∀ H' s' kv' ku' n',Inv X pins τ H' s'->Kp G H0 G H'->RG X.K H' G->H' D0=some (XO D0 oD)->H' S=some (XO S (Kh "list" ku'.toArray n'))->RDs X.K H' (done ++ ks) kv'->Vals kv' ku'->Stb X.K H H'->Q ⟨⟩ s')->
   Jc (Jf X.prog X.w) A (forIn us PUnit.unit body) Q E s
 | [],ks,vs,us,hl,hk,H,s,done,kv,ku,n,I,kp,rg,rds,rv,eD,eS,rdk,rvk,hz,Q,q=>by
  rw[rds.inv_nil]at rv;cases rv;rw[Mz];have:ks=[]:=length_eq_zero_iff.mp (by simpa using hl)
  subst this;exact IY (q H s kv ku n I kp rg eD eS (by rw[Kl];exact rdk) rvk ⟨fun _ _ z=>z,fun _ _ z=>z⟩)
 | d::ds,[],vs,us,hl,_,_,_,_,_,_,_,_,_,_,_,_,_,_,_,_,_,_,_=>by simp at hl
 | d::ds,kd::ks,vs,us,hl,hk,H,s,done,kv,ku,n,I,kp,rg,rds,rv,eD,eS,rdk,rvk,hz,Q,q=>by
  obtain⟨v,t,e,h1,h2⟩:=rds.inv_cons;subst e;cases rv with
  | @cons _ x _ us l rv=>
   rw[LQ];obtain⟨hs,nf⟩:=hk 0 d kd rfl rfl;refine IU (hbd x s _ (Ce F hb hr (hA I) I rg h1 l hs nf fun u v' H' s' I' k1 rg1 rd1 rv1=>?_));have eS':=(k1 S _ eS gS).1;have eD':=(k1 D0 _ eD gD).1;have st1:=k1.stb rg;have oS:=i5 I' eS';simp only[Jv]at hz;refine L4 oS rfl ?_ (by rw[Jj,JW];omega) (by rw[Array.size_push,Jj,JW];omega)
   have ea:ku.toArray.push u=(ku ++ [u]).toArray:=by simp
   have e2:=LN oS (·.push u);rw[ea]at e2;generalize (if ((ku ++ [u]).toArray.size == ku.toArray.size)=true then n else n+1)=n2 at e2
   have mu:yA (H' S):=by rw[eS'];exact trivial
   have I2:=lF (t':=s'.toks) I' eS' e2;have st2:Stb X.K H' (bG H' S (XO S (Kh "list" (ku ++ [u]).toArray n2))):=ip mu;refine uB F hb hr hA nS nD gS gD hne hbd (ds:=ds) (ks:=ks) (by simpa using hl) (fun i d' kd' a b=>hk (i+1) d' kd' (by simpa using a) (by simpa using b)) I2 (oM (kp.trans k1) nS) (qw rg1 gS mu)
    (RDs.mono st2 _ _ (RDs.mono st1 _ _ h2)) rv (by rw[ax hne.symm];exact eD') aU (done:=done ++ [kd]) (kv:=kv ++ [v']) (RDs.append (RDs.mono st2 _ _ (RDs.mono st1 _ _ rdk)) (RDs.cons (RD.mono st2 _ _ rd1) RDs.nil)) (rvk.append (.cons rv1 .nil)) (by simp;omega)
    fun H3 s3 kv3 ku3 n3 I3 kp3 rg3 eD3 eS3 rd3 rv3 st3=>q H3 s3 kv3 ku3 n3 I3 kp3 rg3 eD3 eS3 (by simpa using rd3) rv3 ⟨fun b xs z=>st3.t _ _ (st2.t _ _ (st1.t _ _ z)),fun b xs z=>st3.l _ _ (st2.l _ _ (st1.l _ _ z))⟩
section
variable{X:Cx}{pins:List (IW×Obj)}{τ:St}{H H0:Hp}{s:IX}{G:Gp}
theorem As(I:L2.Inv X pins τ H s){n:Nat}{A:Jy}(hu:A.units+n < JY){b:Bool}{N1 N2:Nat}{Q:Bool->IX->Prop}:
  ∀ {ds es:List D} {xs ys:List V} {us ws:List IV} {i:Nat},(b && i == 0)=false->Dp n (tq n) ds es->RDs X.K H ds xs->RDs X.K H es ys->Vals xs us->Vals ys ws->ds.length+N2=es.length+N1->Q (cE (ij n) ds es) s->
   KatLex X.prog X.w A b (decide (N1 < N2)) Q (us.zip ws) i s
 | [],es,xs,ys,us,ws,i,hb,c,r1,r2,w1,w2,hl,q=>by
  rw[r1.inv_nil]at w1;cases w1;rw[List.zip_nil_left];refine kat_nil ?_;cases es with
  | nil=>
   simp only[JU]at hl;rw[decide_eq_false (by walk_at "o")]
   exact q
  | cons b t=>
   simp only[JU,Jv]at hl;rw[decide_eq_true (by walk_at "o")]
   exact q
 | a::r,[],xs,ys,us,ws,i,hb,c,r1,r2,w1,w2,hl,q=>by
  rw[r2.inv_nil]at w2;cases w2;rw[List.zip_nil_right];refine kat_nil ?_;simp only[JU,Jv]at hl;rw[decide_eq_false (by walk_at "o")]
  exact q
 | a::r,b'::t,xs,ys,us,ws,i,hb,⟨p,c,z⟩,r1,r2,w1,w2,hl,q=>by
  obtain⟨x1,t1,e1,g1,g2⟩:=r1.inv_cons;subst e1;obtain⟨x2,t2,e2,f1,f2⟩:=r2.inv_cons;subst e2;cases w1 with
  | cons k1 w1=>
  cases w2 with
  | cons k2 w2=>
   rw[LC];refine kat_cons ((pi I n p.1 p.2 g1 f1 k1 k2 hu).eq X.prog X.w _ _ (kat_go (fun e=>kat_yes ?_) fun e=>kat_no ?_))
   ·rw[show cE (ij n) (a::r) (b'::t)=cE (ij n) r t by simp[cE,e]]at q
    simp only[Jv]at hl;exact As I hu (by simp) z g2 f2 w1 w2 (by walk_at "o") q
   ·rw[show cE (ij n) (a::r) (b'::t)=ij n a b' by simp[cE,e]]at q
    rw[hb];refine kat_one _ _ ?_;exact (En I n (c fun y=>by rw[y,bo]at e;cases e) g1 f1 k1 k2 hu) X.prog X.w _ _ q
def si(d:D):Prop:=∃ t r,d=.tup (.int t::r)
theorem GV(I:L2.Inv X pins τ H s){A:Jy}(hu:A.units+4 < JY){kx ky:D}{v u:V}{v' u':IV}(cp:tq 4 kx ky)(hx:si kx)(hy:si ky)(rx:RD X.K H kx v)(ry:RD X.K H ky u)(lx:aF v v')(ly:aF u u'){C:Bool->IX->Prop}{E:IV->IX->Prop}
  (q:C (ij 4 kx ky) s):Jc (Jf X.prog X.w) A (keyLt' (MB true) v' u') C E s:=by
 obtain⟨i,r,rfl⟩:=hx;obtain⟨j,t,rfl⟩:=hy;simp only[RD]at rx ry;obtain⟨a,xs,rfl,s1,r1⟩:=rx;obtain⟨b,ys,rfl,s2,r2⟩:=ry;cases lx;cases ly;obtain⟨its,w1,⟨o1,h1,c1,n1,d1⟩,z1⟩:=I.tuple s1;obtain⟨its2,w2,⟨o2,h2,c2,n2,d2⟩,z2⟩:=I.tuple s2;refine kat_lt h1 d1 h2 d2 ?_;have l1:=w1.length;have l1':=r1.length;have l2:=w2.length;have l2':=r2.length;obtain⟨x1,t1,e1,g1,g2⟩:=RDs.inv_cons (d:=.int i) (ds:=r) r1;subst e1;obtain⟨x2,t2,e2,f1,f2⟩:=RDs.inv_cons (d:=.int j) (ds:=t) r2;subst e2;simp only[RD]at g1 f1;subst g1 f1;cases w1 with
 | @cons _ u1 _ m1 k1 w1=>
 cases w2 with
 | @cons _ u2 _ m2 k2 w2=>
  obtain⟨tk,rfl⟩:=k1;obtain⟨tk',rfl⟩:=k2;obtain⟨p,c,z⟩:=(show Dp 3 (tq 3) (.int i::r) (.int j::t)from cp)
  have q':C (cE (ij 3) (.int i::r) (.int j::t)) s:=q;show KatLex _ _ _ _ _ _ ((_::m1).zip (_::m2)) 0 s
  rw[LC];refine kat_cons ((pi I 3 (x:=.int i) (y:=.int j) (v:=.int i) (u:=.int j) p.1 p.2 eY eY ⟨tk,rfl⟩ ⟨tk',rfl⟩ (by walk_at "o")).eq X.prog X.w _ _ (kat_go (fun e=>kat_yes ?_) fun e=>kat_no ?_))
  ·rw[show cE (ij 3) (.int i::r) (.int j::t)=cE (ij 3) r t by simp[cE,e]]at q'
   simp only[Jv]at l1 l1' l2 l2';exact As I (by walk_at "o") (by simp) z g2 f2 w1 w2 (by simp only[Jj,Jv];omega) q'
  ·rw[show cE (ij 3) (.int i::r) (.int j::t)=ij 3 (.int i) (.int j)by simp[cE,e]]at q'
   show Jc _ _ (oneLt' true _ _) _ _ _
   exact oneLt_int q'
theorem EC(I:L2.Inv X pins τ H s){A:Jy}{E:IV->IX->Prop}{Q:KC->IX->Prop}{ks:List D}{kv:List V}{ku:List IV}(hk:∀ d∈ks,si d)(r:RDs X.K H ks kv)(w:Vals kv ku)(hn:0 < ks.length)(q:Q (MB true) s):
  Jc (Jf X.prog X.w) A (keyKind' ku.toArray) Q E s:=by
 have go:∀ {ks:List D} {kv:List V} {ku:List IV},(∀ d∈ks,si d)->RDs X.K H ks kv->Vals kv ku->∃ fs,KatTups s.heap ku fs/\fs.length=ks.length/\∀ v∈fs,∃ i t,v=Value.int i t:=by
  intro ks
  induction ks with
  | nil=>
   intro kv ku _ r w;rw[r.inv_nil]at w;cases w;exact⟨[],KatTups.nil,rfl,fun v hv=>by simp at hv⟩
  | cons d t ih=>
   intro kv ku hk r w;obtain⟨x1,t1,e1,g1,g2⟩:=r.inv_cons;subst e1;cases w with
   | cons k1 w=>
    obtain⟨fs,h1,h2,h3⟩:=ih (fun d hd=>hk d (Jl _ hd)) g2 w;obtain⟨i,rr,rfl⟩:=hk d Jk;simp only[RD]at g1;obtain⟨a,xs,rfl,s1,r1⟩:=g1;cases k1;obtain⟨its,w1,⟨o1,e1,c1,n1,d1⟩,z1⟩:=I.tuple s1;obtain⟨y1,u1,e2,g3,_⟩:=RDs.inv_cons (d:=.int i) (ds:=rr) r1;subst e2;simp only[RD]at g3;subst g3;cases w1 with
    | cons k2 w1=>
     obtain⟨tk,rfl⟩:=k2;refine⟨.int i tk::fs,KatTups.cons e1 c1 d1 (by simp) h1,by simp[h2],fun v hv=>?_⟩
     rcases Kg.mp hv with rfl|hv
     ·exact⟨i,tk,rfl⟩
     ·exact h3 v hv
 obtain⟨fs,h1,h2,h3⟩:=go hk r w;refine kat_kind (T:=.type "int") h1 (by walk_at "o") (fun v hv=>?_) (by decide) ?_
 ·obtain⟨i,t,rfl⟩:=h3 v hv;exact Looks.of_pure rfl
 ·rw[show (Value.type "int" != Value.type "tuple")=true by decide]
  exact q
end
section
variable{prog:Jw}{w:JG}{A:Jy}{E:IV->IX->Prop}{s:IX}{κ:KC}{R:Jd->Nat}{S:Jd->Prop}
def xn(prog:Jw)(w:JG)(A:Jy)(s:IX)(κ:KC)(R:Jd->Nat)(S:Jd->Prop):Prop:=
 ∀ x y,S x->S y->Jc (Jf prog w) A (keyLt' κ x.1 y.1) (fun b s'=>s'=s/\b=decide (R x < R y)) (fun _ _=>False) s
theorem yX{x y:Jd}{st:Jp}{Q:Option Bool->Jp->Prop}(an:xn prog w A s κ R S)(hk:kindOf st=κ)(hx:S x)(hy:S y)
  (h:Q (some (decide (R x < R y))) st):wpS (Jf prog w) A E s (lt' x y) Q st:=by
 rw[lt'_eq];refine Ji (Mp ?_);rw[hk];refine Ji (wpS_lift (Lq (Ka (an x y hx hy) ?_ fun _ _ f=>f.elim)))
 rintro b s' ⟨rfl,rfl⟩
 exact⟨rfl,Jq h⟩
theorem lT{α:Type}{r:String}{m:Unit->StateT Jp Sem α}{st:Jp}{Q:α->Jp->Prop}(h:wpS (Jf prog w) A E s (m ()) Q st):wpS (Jf prog w) A E s (liftM (rule r) >>= m) Q st:=
 Ji (wpS_lift (LP ⟨rfl,h⟩))
theorem br{α:Type}{c:Prop}[Decidable c]{m m':StateT Jp Sem α}{st:Jp}{Q:α->Jp->Prop}(h1:c->wpS (Jf prog w) A E s m Q st)(h2:¬ c->wpS (Jf prog w) A E s m' Q st):wpS (Jf prog w) A E s (if c then m else m') Q st:=by
 split
 ·exact h1 ‹_›
 ·exact h2 ‹_›
def IN{β:Type}(Q J:β->Jp->Prop):ForInStep β->Jp->Prop
 | .done c,st=>Q c st
 | .yield c,st=>J c st
theorem gB{β τ:Type}{a b:Nat}{f:Nat->β->StateT Jp Sem (ForInStep β)}(g:τ->β)(I:Nat->τ->Jp->Prop)(Q:β->Jp->Prop){Q':β->Jp->Prop}{t:τ}{st:Jp}(h:I a t st)
  (hs:∀ i t st,i < b->I i t st->wpS (Jf prog w) A E s (f i (g t)) (IN Q fun c st'=>∃ t',c=g t'/\I (i+1) t' st') st)
  (he:∀ t st,I (max a b) t st->Q (g t) st) (hq:∀ c st',Q c st'->Q' c st'):wpS (Jf prog w) A E s (forIn [a:b] (g t) f) Q' st:=by
 refine Nf (wpS_forRange (I:=fun i c st=>∃ t,c=g t/\I i t st) (Q:=Q) ?_ ?_ ⟨t,rfl,h⟩) hq
 ·rintro i c st' _ hi ⟨t,rfl,z⟩
  refine Nf (hs i t st' hi z) fun r st'' p=>?_;cases r with
  | done c=>exact p
  | yield c=>exact p
 ·rintro c st' ⟨t,rfl,z⟩
  exact he t st' z
theorem cz{xs:Array Jd}{i:Nat}{x:Jd}{st:Jp}{Q:Jd->Jp->Prop}(hx:xs[i]?=some x)(h:Q x st):wpS (Jf prog w) A E s (Kx xs i) Q st:=by
 rw[elem'_eq,hx];exact Jq h
def dR:Bool->Jd->Array Jd->Nat->Nat->Nat->StateT Jp Sem (Option Nat):=sortPriv% PySem.Builtin.gallop
def uL(left:Bool)(key:Jd)(xs:Array Jd)(base i:Nat):StateT Jp Sem (Option Bool):=do
 let x <- Kx xs (base+i)
 if left then lt' x key else return (<- lt' key x).map (!·)
theorem v_(left:Bool)(key:Jd)(xs:Array Jd)(base n hint:Nat):dR left key xs base n hint=(do
 let mut last:=0
 let mut o:=1
 let mut l:=0
 let mut h:=0
 let some right <- uL left key xs base hint|return none
 if right then
  let m:=n - hint
  for _ in [0:n] do
   if o>=m then break
   let some more <- uL left key xs base (hint+o)|return none
   if !more then break
   last:=o
   o:=2*o+1
  l:=hint+last+1
  h:=hint+min o m
 else
  let m:=hint+1
  for _ in [0:n] do
   if o>=m then break
   let some found <- uL left key xs base (hint - o)|return none
   if found then break
   last:=o
   o:=2*o+1
  l:=hint+1 - min o m
  h:=hint - last
 for _ in [0:n] do
  if l>=h then break
  let m:=l+(h - l) / 2
  let some more <- uL left key xs base m|return none
  if more then l:=m+1 else h:=m
 return some h):=rfl
def yE(R:Jd->Nat)(left:Bool)(key x:Jd):Bool:=if left then decide (R x < R key)else !decide (R key < R x)
theorem Fw{left:Bool}{key x:Jd}{xs:Array Jd}{base i:Nat}{st:Jp}{Q:Option Bool->Jp->Prop}(an:xn prog w A s κ R S)(hk:kindOf st=κ)(hx:xs[base+i]?=some x)(sx:S x)(sk:S key)
  (h:Q (some (yE R left key x)) st):wpS (Jf prog w) A E s (uL left key xs base i) Q st:=by
 unfold uL;refine Ji (cz hx ?_);unfold yE at h;cases left with
 | true=>exact yX an hk sx sk h
 | false=>exact Ji (yX an hk sk sx (Jq h))
theorem Ey{l r:Nat}(h:l < r):l<=l+(r - l) / 2/\l+(r - l) / 2 < r:=by walk_at "o"
theorem C6{l r m x n:Nat}(h:r+x<=l+n)(h1:l<=m):r+(x+1)<=m+1+n:=by walk_at "o"
theorem C7{l r m x n:Nat}(h:r+x<=l+n)(h1:m < r):m+(x+1)<=l+n:=by walk_at "o"
theorem sN{x o:Nat}(h:x < o):o < 2*o+1/\x+1 < 2*o+1:=by walk_at "o"
theorem Dm{b o k n:Nat}(h:b < o)(h1:k+b < n):k+b+1<=k+min o (n - k)/\k+min o (n - k)<=n:=by walk_at "o"
theorem Gi{o k n i:Nat}(h1:k+min o (n - k)<=i)(h2:i < n):¬ n - k<=o/\k+o<=i:=by walk_at "o"
theorem Gj{b o k:Nat}(h:b < o)(h1:b<=k):k+1 - min o (k+1)<=k - b:=by walk_at "o"
theorem Gk{o k i:Nat}(h1:i < k+1 - min o (k+1)):¬ k+1<=o/\i<=k - o:=by walk_at "o"
theorem yY{left:Bool}{key:Jd}{xs:Array Jd}{base n hint:Nat}{st:Jp}{Q:Option Nat->Jp->Prop}{pr:Nat->Bool}
  (QD:hint < n) (mo:∀ i j,i<=j->j < n->pr j=true->pr i=true)
  (q:∀ (i:Nat) (Q':Option Bool->Jp->Prop),i < n->Q' (some (pr i)) st->wpS (Jf prog w) A E s (uL left key xs base i) Q' st)
  (h:∀ k,k<=n->(∀ i,i < k->pr i=true)->(∀ i,k<=i->i < n->pr i=false)->Q (some k) st):wpS (Jf prog w) A E s (dR left key xs base n hint) Q st:=by
 have no:∀ i j,i<=j->j < n->pr i=false->pr j=false:=fun i j hij hj e=>by
  cases hp:pr j with
  | false=>rfl
  | true=>rw[mo i j hij hj hp]at e;exact e
 have fin:∀ l h0,l<=h0->h0<=n->(∀ i,i < l->pr i=true)->(∀ i,h0<=i->i < n->pr i=false)->wpS (Jf prog w) A E s (do
   let mut l:=l
   let mut h:=h0
   for _ in [0:n] do
    if l>=h then break
    let m:=l+(h - l) / 2
    let some more <- uL left key xs base m|return none
    if more then l:=m+1 else h:=m
   return some h) Q st:=by
  intro l h0 hl hh hlo hhi;refine Ji (gB (fun p:Nat×Nat=>((none,p.1,p.2):Option (Option Nat)×Nat×Nat)) (fun x p st'=>st'=st/\p.1<=p.2/\p.2<=n/\p.2+x<=p.1+n/\(∀ i,i < p.1->pr i=true)/\∀ i,p.2<=i->i < n->pr i=false)
   (fun c st'=>st'=st/\∃ k,c=(none,k,k)/\k<=n/\(∀ i,i < k->pr i=true)/\∀ i,k<=i->i < n->pr i=false) (t:=(l,h0)) ⟨rfl,hl,hh,le_trans hh (Nat.le_add_left n l),hlo,hhi⟩ ?_ ?_ ?_)
  ·rintro x ⟨l,r⟩ st' _ ⟨rfl,a1,a2,a3,a4,a5⟩
   refine br (fun g=>?_) fun g=>?_
   ·have e:l=r:=le_antisymm a1 g;subst e;exact Jq ⟨rfl,l,rfl,a2,a4,a5⟩
   obtain⟨m1,m2⟩:=Ey (Lx g);have m3:=Jt m2 a2;refine Ji (q _ _ m3 ?_);cases hp:pr (l+(r - l) / 2) with
   | true=>exact Jq ⟨(_,_),rfl,rfl,m2,a2,C6 a3 m1,fun i hi=>mo _ _ (Lr hi) m3 hp,a5⟩
   | false=>exact Jq ⟨(_,_),rfl,rfl,m1,le_of_lt m3,C7 a3 m2,a4,fun i h1 h2=>no _ _ h1 h2 hp⟩
  ·rintro⟨l,r⟩ st' ⟨rfl,a1,a2,a3,a4,a5⟩
   rw[Nat.zero_max]at a3;have e:=le_antisymm a1 (Nat.le_of_add_le_add_right a3);dsimp only at e a2 a4 a5 ⊢;subst e;exact⟨rfl,l,rfl,a2,a4,a5⟩
  ·rintro c st' ⟨rfl,k,rfl,a2,a4,a5⟩
   exact Jq (h _ a2 a4 a5)
 rw[v_];refine Ji (q _ _ QD ?_);cases hp:pr hint with
 | true=>
  refine Ji (gB (fun p:Nat×Nat=>((none,p.1,p.2):Option (Option Nat)×Nat×Nat)) (fun x p st'=>st'=st/\p.1 < p.2/\x < p.2/\hint+p.1 < n/\pr (hint+p.1)=true)
   (fun c st'=>st'=st/\∃ b o,c=(none,b,o)/\b < o/\hint+b < n/\pr (hint+b)=true/\(n - hint<=o\/pr (hint+o)=false)) (t:=(0,1)) ⟨rfl,Nat.zero_lt_one,Nat.zero_lt_one,QD,hp⟩ ?_ ?_ ?_)
  ·rintro x ⟨b,o⟩ st' _ ⟨rfl,a1,a2,a3,a4⟩
   refine br (fun g=>Jq ⟨rfl,b,o,rfl,a1,a3,a4,.inl g⟩) fun g=>?_;have lt:=Nat.add_lt_of_lt_sub' (Lx g);refine Ji (q _ _ lt ?_);cases hq:pr (hint+o) with
   | true=>exact Jq ⟨(_,_),rfl,rfl,(sN a2).1,(sN a2).2,lt,hq⟩
   | false=>exact Jq ⟨rfl,b,o,rfl,a1,a3,a4,.inr hq⟩
  ·rintro⟨b,o⟩ st' ⟨rfl,a1,a2,a3,a4⟩
   rw[Nat.zero_max]at a2;exact⟨rfl,b,o,rfl,a1,a3,a4,.inl (le_trans (Me _ _) (le_of_lt a2))⟩
  ·rintro c st' ⟨rfl,b,o,rfl,a1,a3,a4,a5⟩
   refine fin (hint+b+1) (hint+min o (n - hint)) (Dm a1 a3).1 (Dm a1 a3).2 (fun i hi=>mo _ _ (Lr hi) a3 a4) fun i h1 h2=>?_;obtain⟨g1,g2⟩:=Gi h1 h2;exact no _ _ g2 h2 (a5.resolve_left g1)
 | false=>
  refine Ji (gB (fun p:Nat×Nat=>((none,p.1,p.2):Option (Option Nat)×Nat×Nat)) (fun x p st'=>st'=st/\p.1 < p.2/\x < p.2/\p.1<=hint/\pr (hint - p.1)=false)
   (fun c st'=>st'=st/\∃ b o,c=(none,b,o)/\b < o/\b<=hint/\pr (hint - b)=false/\(hint+1<=o\/pr (hint - o)=true)) (t:=(0,1)) ⟨rfl,Nat.zero_lt_one,Nat.zero_lt_one,JQ _,hp⟩ ?_ ?_ ?_)
  ·rintro x ⟨b,o⟩ st' _ ⟨rfl,a1,a2,a3,a4⟩
   refine br (fun g=>Jq ⟨rfl,b,o,rfl,a1,a3,a4,.inl g⟩) fun g=>?_;refine Ji (q _ _ (lt_of_le_of_lt (Me _ _) QD) ?_);cases hq:pr (hint - o) with
   | false=>exact Jq ⟨(_,_),rfl,rfl,(sN a2).1,(sN a2).2,Lr (Lx g),hq⟩
   | true=>exact Jq ⟨rfl,b,o,rfl,a1,a3,a4,.inr hq⟩
  ·rintro⟨b,o⟩ st' ⟨rfl,a1,a2,a3,a4⟩
   rw[Nat.zero_max]at a2;exact⟨rfl,b,o,rfl,a1,a3,a4,.inl (le_trans QD (le_of_lt a2))⟩
  ·rintro c st' ⟨rfl,b,o,rfl,a1,a3,a4,a5⟩
   refine fin (hint+1 - min o (hint+1)) (hint - b) (Gj a1 a3) (le_of_lt (lt_of_le_of_lt (Me _ _) QD)) (fun i hi=>?_) fun i h1 h2=>no _ _ h1 h2 a4;obtain⟨g1,g2⟩:=Gk hi;exact mo _ _ g2 (lt_of_le_of_lt (Me _ _) QD) (a5.resolve_left g1)
end
section
variable{R:Jd->Nat}{T o a b a1 a2 b1 b2:List Jd}
def Up(R:Jd->Nat)(l:List Jd):Prop:=l.Pairwise fun x y=>R x<=R y
structure Mg(R:Jd->Nat)(T o a b:List Jd):Prop where
 oa:Up R (o ++ a)
 ob:Up R (o ++ b)
 pm:(o ++ (a ++ b)).Perm T
theorem Mg.ta(h:Mg R T o (a1 ++ a2) b)(hx:∀ x∈a1,∀ y∈b,R x<=R y):Mg R T (o ++ a1) a2 b:=by
 obtain⟨h1,h2,h3⟩:=h;have e:=LJ.mp h2;have e1:Up R (o ++ a1 ++ a2):=by rw[JM];exact h1
 refine⟨e1,?_,?_⟩
 ·refine LJ.mpr ⟨(LJ.mp e1).1,e.2.1,fun x hx1 y hy=>?_⟩;rcases Mi.mp hx1 with g|g
  ·exact e.2.2 x g y hy
  ·exact hx x g y hy
 ·rw[JM,<- JM a1];exact h3
theorem Mg.tb(h:Mg R T o a (b1 ++ b2))(hx:∀ x∈b1,∀ y∈a,R x<=R y):Mg R T (o ++ b1) a b2:=by
 obtain⟨h1,h2,h3⟩:=h;have e:=LJ.mp h1;have e1:Up R (o ++ b1 ++ b2):=by rw[JM];exact h2
 refine⟨?_,e1,?_⟩
 ·refine LJ.mpr ⟨(LJ.mp e1).1,e.2.1,fun x hx1 y hy=>?_⟩;rcases Mi.mp hx1 with g|g
  ·exact e.2.2 x g y hy
  ·exact hx x g y hy
 ·refine List.Perm.trans ?_ h3;rw[JM];refine List.Perm.append_left o ?_;simp only[<- JM];exact List.Perm.append_right b2 List.perm_append_comm
theorem Mg.fin(h:Mg R T o a []):Up R (o ++ a)/\(o ++ a).Perm T:=⟨h.oa,by have:=h.pm;rwa[Kl]at this⟩
theorem Mg.last(h:Mg R T o a b)(hx:∀ x∈b,∀ y∈a,R x<=R y):Up R (o ++ b ++ a)/\(o ++ b ++ a).Perm T:=by
 have h':Mg R T o a (b ++ []):=by rw[Kl];exact h
 exact (h'.tb hx).fin
structure Mh(R:Jd->Nat)(T o a b:List Jd):Prop where
 oa:Up R (a ++ o)
 ob:Up R (b ++ o)
 pm:(a ++ b ++ o).Perm T
theorem Mh.ta(h:Mh R T o (a1 ++ a2) b)(hx:∀ x∈a2,∀ y∈b,R y<=R x):Mh R T (a2 ++ o) a1 b:=by
 obtain⟨h1,h2,h3⟩:=h;have e:=LJ.mp h2;have e1:Up R (a1 ++ (a2 ++ o)):=by rw[<- JM];exact h1
 refine⟨e1,?_,?_⟩
 ·refine LJ.mpr ⟨e.1,(LJ.mp e1).2.1,fun x hx1 y hy=>?_⟩;rcases Mi.mp hy with g|g
  ·exact hx y g x hx1
  ·exact e.2.2 x hx1 y g
 ·refine List.Perm.trans ?_ h3;rw[<- JM];refine List.Perm.append_right o ?_;rw[JM,JM];exact List.Perm.append_left a1 List.perm_append_comm
theorem Mh.tb(h:Mh R T o a (b1 ++ b2))(hx:∀ x∈b2,∀ y∈a,R y<=R x):Mh R T (b2 ++ o) a b1:=by
 obtain⟨h1,h2,h3⟩:=h;have e:=LJ.mp h1;have e1:Up R (b1 ++ (b2 ++ o)):=by rw[<- JM];exact h2
 refine⟨?_,e1,?_⟩
 ·refine LJ.mpr ⟨e.1,(LJ.mp e1).2.1,fun x hx1 y hy=>?_⟩;rcases Mi.mp hy with g|g
  ·exact hx y g x hx1
  ·exact e.2.2 x hx1 y g
 ·refine List.Perm.trans ?_ h3;simp only[JM];exact List.Perm.refl _
theorem Mh.fin(h:Mh R T o [] b):Up R (b ++ o)/\(b ++ o).Perm T:=⟨h.ob,by have:=h.pm;rwa[KY]at this⟩
theorem Mh.last(h:Mh R T o a b)(hx:∀ x∈a,∀ y∈b,R y<=R x):Up R (b ++ (a ++ o))/\(b ++ (a ++ o)).Perm T:=by
 have h':Mh R T o ([] ++ a) b:=by rw[KY];exact h
 exact (h'.ta hx).fin
end
section
variable{xs:Array Jd}{i j k n:Nat}{x:Jd}{R:Jd->Nat}
def bN(xs:Array Jd)(i:Nat):Jd:=xs.getD i (Value.none,Value.none)
theorem bK(h:i < xs.size):xs[i]?=some (bN xs i):=by simp[bN,Array.getD,h]
theorem dD(h:i < xs.size):bN xs i∈xs.toList:=by
 have:=bK h;exact Array.mem_toList_iff.mpr (Array.mem_of_getElem? this)
theorem eU(h:i < xs.size):xs.toList[i]'(by simpa using h)=bN xs i:=by simp[bN,Array.getD,h]
theorem dropK(h:i < xs.size):xs.toList.drop i=bN xs i::xs.toList.drop (i+1):=by
 rw[KB (by simpa using h),eU h]
theorem ib(h:x∈xs.toList.drop i):∃ j,i<=j/\j < xs.size/\x=bN xs j:=by
 obtain⟨n,hn,e⟩:=mem_iff_getElem.mp h;rw[Ma]at e;have hn':i+n < xs.size:=by rw[K5]at hn;simp at hn;omega
 exact⟨i+n,by walk_at "o",hn',by rw[<- e,<- eU hn']⟩
theorem nB(h:x∈(xs.toList.drop i).take k):∃ j,i<=j/\j < i+k/\j < xs.size/\x=bN xs j:=by
 obtain⟨n,hn,e⟩:=mem_iff_getElem.mp h;rw[Lz,Ma]at e;have hn':i+n < xs.size/\n < k:=by rw[JN,K5]at hn;simp at hn;omega
 exact⟨i+n,by walk_at "o",by walk_at "o",hn'.1,by rw[<- e,<- eU hn'.1]⟩
theorem E5:xs.toList.drop i=(xs.toList.drop i).take k ++ xs.toList.drop (i+k):=by
 rw[<- List.drop_drop,Lw]
theorem EV:(xs.extract i (i+k)).toList=(xs.toList.drop i).take k:=by
 rw[Array.toList_extract,List.extract_eq_take_drop,Nat.add_sub_cancel_left]
theorem Cv:(xs.extract i xs.size).toList=xs.toList.drop i:=by
 rw[Array.toList_extract,List.extract_eq_take_drop];exact List.take_of_length_le (by rw[K5];simp)
theorem Up.at(h:Up R xs.toList)(hij:i<=j)(hj:j < xs.size):R (bN xs i)<=R (bN xs j):=by
 rcases KZ i j with g|g
 ·have:=pairwise_iff_getElem.mp h i j (by simp;omega) (by simpa using hj) g
  rwa[eU (by walk_at "o"),eU hj]at this
 ·have:i=j:=by walk_at "o"
  subst this;exact le_refl _
end
section
variable{prog:Jw}{w:JG}{A:Jy}{E:IV->IX->Prop}{s:IX}{κ:KC}{R:Jd->Nat}{S:Jd->Prop}
def jh(st:Jp)(g:Nat):Jp:=Nd (kindOf st) (Jm st) (JV st) g (KJ st)
def ow:Array Jd->Array Jd->StateT Jp Sem (Array Jd):=sortPriv% PySem.Builtin.mergeLo
def fF(a b out:Array Jd)(i j:Nat):Array Jd:=out ++ a.extract i a.size ++ b.extract j b.size
def iB(a b out:Array Jd)(i j:Nat):Array Jd:=out ++ b.extract j b.size ++ a.extract i a.size
theorem uo(a b:Array Jd):ow a b=(do
 rule "list.sort.merge-lo"
 let all:=a.size+b.size
 let mut out:Array Jd:=#[<- Kx b 0]
 let mut i:=0
 let mut j:=1
 if j == b.size then return fF a b out i j
 if i+1 == a.size then return iB a b out i j
 let mut g:=gallopOf (<- get)
 for _ in [0:all] do
  let mut ca:=0
  let mut cb:=0
  for _ in [0:all] do
   let some wins <- lt' (<- Kx b j) (<- Kx a i)|return fF a b out i j
   if wins then
    out:=out.push (<- Kx b j);j:=j+1;cb:=cb+1;ca:=0
    if j == b.size then return fF a b out i j
    if cb>=g then break
   else
    out:=out.push (<- Kx a i);i:=i+1;ca:=ca+1;cb:=0
    if i+1 == a.size then return iB a b out i j
    if ca>=g then break
  rule "list.sort.gallop"
  g:=g+1
  for _ in [0:all] do
   if g > 1 then g:=g - 1
   modify (fun st=>jh st g)
   let some k <- dR false (<- Kx b j) a i (a.size - i) 0|return fF a b out i j
   ca:=k
   if k > 0 then
    out:=out ++ a.extract i (i+k);i:=i+k
    if i+1 == a.size then return iB a b out i j
    if i == a.size then return fF a b out i j
   out:=out.push (<- Kx b j);j:=j+1
   if j == b.size then return fF a b out i j
   let some k <- dR true (<- Kx a i) b j (b.size - j) 0|return fF a b out i j
   cb:=k
   if k > 0 then
    out:=out ++ b.extract j (j+k);j:=j+k
    if j == b.size then return fF a b out i j
   out:=out.push (<- Kx a i);i:=i+1
   if i+1 == a.size then return iB a b out i j
   if ca < 7 && cb < 7 then break
  g:=g+1
  modify (fun st=>jh st g)
 Ol "internal:list.sort.merge-bound"):=rfl
theorem lL{key x:Jd}:(yE R true key x=true↔R x < R key)/\(yE R true key x=false↔R key<=R x):=by simp[yE]
theorem jV{key x:Jd}:(yE R false key x=true↔R x<=R key)/\(yE R false key x=false↔R key < R x):=by simp[yE]
theorem tG{left:Bool}{key:Jd}{xs:Array Jd}{base n hint:Nat}{st:Jp}{Q:Option Nat->Jp->Prop}(an:xn prog w A s κ R S)(hk:kindOf st=κ)
  (sx:∀ i,base<=i->i < base+n->S (bN xs i)) (sk:S key) (hz:base+n<=xs.size) (hh:hint < n) (up:∀ i j,base<=i->i<=j->j < base+n->R (bN xs i)<=R (bN xs j))
  (h:∀ k,k<=n->(∀ i,base<=i->i < base+k->yE R left key (bN xs i)=true)->(∀ i,base+k<=i->i < base+n->yE R left key (bN xs i)=false)->Q (some k) st):
  wpS (Jf prog w) A E s (dR left key xs base n hint) Q st:=by
 have lt:∀ {i},i < n->base+i < base+n:=fun h=>J4 h base;refine yY (pr:=fun i=>yE R left key (bN xs (base+i))) hh (fun i j hij hj e=>?_) (fun i Q' hi c=>Fw an hk (bK (Jt (lt hi) hz)) (sx _ (JX _ _) (lt hi)) sk c) fun k hk1 c1 c2=>?_
 ·have u:=up (base+i) (base+j) (JX _ _) (JC hij base) (lt hj);cases left with
  | true=>exact lL.1.mpr (lt_of_le_of_lt u (lL.1.mp e))
  | false=>exact jV.1.mpr (le_trans u (jV.1.mp e))
 ·refine h k hk1 (fun i h1 h2=>?_) fun i h1 h2=>?_
  ·obtain⟨d,rfl⟩:=Nat.exists_eq_add_of_le h1;exact c1 d (Nat.lt_of_add_lt_add_left h2)
  ·obtain⟨d,rfl⟩:=Nat.exists_eq_add_of_le (le_trans (JX base k) h1);exact c2 d (Nat.le_of_add_le_add_left h1) (Nat.lt_of_add_lt_add_left h2)
structure Lo(prog:Jw)(w:JG)(A:Jy)(s:IX)(κ:KC)(R:Jd->Nat)(S:Jd->Prop)(a b:Array Jd):Prop where
 an:xn prog w A s κ R S
 sa:∀ x∈a.toList,S x
 sb:∀ x∈b.toList,S x
 ua:Up R a.toList
 ub:Up R b.toList
 hd:∀ x∈a.toList,R (bN b 0) < R x
 ls:∀ y∈b.toList,R y < R (bN a (a.size - 1))
def CS(κ:KC)(st st':Jp):Prop:=kindOf st'=κ/\Jm st'=Jm st/\JV st'=JV st/\KJ st'=KJ st
structure Jo(κ:KC)(R:Jd->Nat)(a b:Array Jd)(st:Jp)(out:Array Jd)(i j m:Nat)(st':Jp):Prop where
 g:CS κ st st'
 hi:i+1 < a.size
 hj:j < b.size
 hm:m<=i+j
 mg:Mg R (a.toList ++ b.toList) out.toList (a.toList.drop i) (b.toList.drop j)
def Dn(κ:KC)(R:Jd->Nat)(a b:Array Jd)(st:Jp)(out:Array Jd)(st':Jp):Prop:=CS κ st st'/\Up R out.toList/\out.toList.Perm (a.toList ++ b.toList)
theorem lu{a b out:Array Jd}{i j:Nat}{st st':Jp}(g:CS κ st st')(hj:j=b.size)(mg:Mg R (a.toList ++ b.toList) out.toList (a.toList.drop i) (b.toList.drop j)):Dn κ R a b st (fF a b out i j) st':=by
 subst hj;have dz:b.toList.drop b.size=[]:=List.drop_eq_nil_of_le (Ki (by simp))
 rw[dz]at mg;have e:(fF a b out i b.size).toList=out.toList ++ a.toList.drop i:=by
  unfold fF;rw[Array.toList_append,Array.toList_append,Cv,Cv,dz,Kl]
 unfold Dn;rw[e];exact⟨g,mg.fin⟩
theorem jy{a b out:Array Jd}{i j:Nat}{st st':Jp}(L:Lo prog w A s κ R S a b)(g:CS κ st st')(hi:i+1=a.size)(mg:Mg R (a.toList ++ b.toList) out.toList (a.toList.drop i) (b.toList.drop j)):Dn κ R a b st (iB a b out i j) st':=by
 have e:(iB a b out i j).toList=out.toList ++ b.toList.drop j ++ a.toList.drop i:=by
  unfold iB;rw[Array.toList_append,Array.toList_append,Cv,Cv]
 unfold Dn;rw[e];refine⟨g,mg.last fun x hx y hy=>?_⟩;obtain⟨k,h1,h2,rfl⟩:=ib hy;rw[show k=a.size - 1 by walk_at "o"]
 exact le_of_lt (L.ls x (List.mem_of_mem_drop hx))
abbrev LS:=Option (Array Jd)×Array Jd×Nat×Nat×Nat×Nat×Nat
def PX{τ:Type}(D:Array Jd->Jp->Prop)(J:τ->Jp->Prop):ForInStep (Option (Array Jd)×τ)->Jp->Prop
 | .done (some z,_),st=>D z st
 | .done (none,c),st=>J c st
 | .yield (none,c),st=>J c st
 | .yield (some _,_),_=>False
theorem PX.y{τ:Type}{D:Array Jd->Jp->Prop}{J:τ->Jp->Prop}{c:Option (Array Jd)×τ}{st:Jp}(p:PX D J (.yield c) st):∃ t,c=(none,t)/\J t st:=by
 obtain⟨z,t⟩:=c;cases z with
 | some z=>exact p.elim
 | none=>exact⟨t,rfl,p⟩
theorem PX.dn{τ:Type}{D:Array Jd->Jp->Prop}{J:τ->Jp->Prop}{c:Option (Array Jd)×τ}{st:Jp}(p:PX D J (.done c) st):(∃ z t,c=(some z,t)/\D z st)\/∃ t,c=(none,t)/\J t st:=by
 obtain⟨z,t⟩:=c;cases z with
 | some z=>exact .inl ⟨z,t,rfl,p⟩
 | none=>exact .inr ⟨t,rfl,p⟩
abbrev Po(κ:KC)(R:Jd->Nat)(a b:Array Jd)(st:Jp)(m:Nat):ForInStep LS->Jp->Prop:=PX (Dn κ R a b st) fun c=>Jo κ R a b st c.1 c.2.1 c.2.2.1 m
def Hd(a b out:Array Jd)(i j g ca cb:Nat):StateT Jp Sem (ForInStep LS):=do
 let x <- Kx a i
 if (i+1+1 == a.size)=true then pure (.done (some (iB a b (out.push x) (i+1) j),out.push x,i+1,j,g,ca,cb))
 else if (ca < 7 && cb < 7)=true then pure (.done (none,out.push x,i+1,j,g,ca,cb))else pure (.yield (none,out.push x,i+1,j,g,ca,cb))
theorem Ak{a b out:Array Jd}{i j g ca cb m:Nat}{st st':Jp}(L:Lo prog w A s κ R S a b)(J:Jo κ R a b st out i j m st')(hx:∀ y∈b.toList.drop j,R (bN a i)<=R y):
  wpS (Jf prog w) A E s (Hd a b out i j g ca cb) (Po κ R a b st m) st':=by
 obtain⟨h1,h2,h3,h4,mg⟩:=J;have hi:=KQ h2;rw[dropK hi]at mg;have mg':Mg R (a.toList ++ b.toList) (out.push (bN a i)).toList (a.toList.drop (i+1)) (b.toList.drop j):=by
  rw[Array.toList_push];exact Mg.ta (a1:=[bN a i]) mg fun x hx' y hy=>by rw[mem_singleton.mp hx'];exact hx y hy
 unfold Hd;refine Ji (cz (bK hi) (br (fun e=>Jq (jy L h1 (eq_of_beq e) mg')) fun e=>?_));have J':Jo κ R a b st (out.push (bN a i)) (i+1) j m st':=⟨h1,KA h2 fun z=>e (beq_iff_eq.mpr z),h3,le_trans h4 (Nat.add_le_add_right (Nat.le_succ i) j),mg'⟩;exact br (fun _=>Jq J') fun _=>Jq J'
def He(a b out:Array Jd)(i j g ca cb:Nat):StateT Jp Sem (ForInStep LS):=do
 let y <- Kx b j
 if (j+1 == b.size)=true then pure (.done (some (fF a b (out.push y) i (j+1)),out.push y,i,j+1,g,ca,cb))
 else
  let x <- Kx a i
  let r <- dR true x b (j+1) (b.size - (j+1)) 0
  match r with
  | some k=>if k > 0 then (if (j+1+k == b.size)=true then pure (.done (some (fF a b (out.push y ++ b.extract (j+1) (j+1+k)) i (j+1+k)),out.push y ++ b.extract (j+1) (j+1+k),i,j+1+k,g,ca,k))
    else Hd a b (out.push y ++ b.extract (j+1) (j+1+k)) i (j+1+k) g ca k)else Hd a b (out.push y) i (j+1) g ca k
  | _=>pure (.done (some (fF a b (out.push y) i (j+1)),out.push y,i,j+1,g,ca,cb))
theorem Al{a b out:Array Jd}{i j g ca cb m:Nat}{st st':Jp}(L:Lo prog w A s κ R S a b)(J:Jo κ R a b st out i j m st')(hx:∀ x∈a.toList.drop i,R (bN b j)<=R x):
  wpS (Jf prog w) A E s (He a b out i j g ca cb) (Po κ R a b st m) st':=by
 obtain⟨h1,h2,h3,h4,mg⟩:=J;have hi:=KQ h2;rw[dropK h3]at mg;have mg':Mg R (a.toList ++ b.toList) (out.push (bN b j)).toList (a.toList.drop i) (b.toList.drop (j+1)):=by
  rw[Array.toList_push];exact Mg.tb (b1:=[bN b j]) mg fun x hx' y hy=>by rw[mem_singleton.mp hx'];exact hx y hy
 have hz:j+1+(b.size - (j+1))=b.size:=Nat.add_sub_cancel' h3;unfold He;refine Ji (cz (bK h3) (br (fun e=>Jq (lu h1 (eq_of_beq e) mg')) fun e=>?_));have e':j+1 < b.size:=KA h3 fun z=>e (beq_iff_eq.mpr z);refine Ji (cz (bK hi) (Ji (tG L.an h1.1 (fun n z1 z2=>L.sb _ (dD (hz ▸ z2))) (L.sa _ (dD hi)) (Ki hz) (Nat.sub_pos_of_lt e') (fun n n' z1 z2 z3=>L.ub.at z2 (hz ▸ z3)) fun k hk c1 c2=>?_)));have bU:∀ y∈b.toList.drop (j+1+k),R (bN a i)<=R y:=fun y hy=>by
  obtain⟨n,z1,z2,rfl⟩:=ib hy;exact lL.2.mp (c2 n z1 (hz.symm ▸ z2))
 have m1:m<=i+(j+1):=LH h4;refine br (fun _=>?_) fun hk0=>?_
 ·have mg2:Mg R (a.toList ++ b.toList) (out.push (bN b j) ++ b.extract (j+1) (j+1+k)).toList (a.toList.drop i) (b.toList.drop (j+1+k)):=by
   rw[Array.toList_append,EV];rw[E5 (i:=j+1) (k:=k)]at mg';refine mg'.tb fun x hx' y hy=>?_;obtain⟨n,z1,z2,z3,rfl⟩:=nB hx';obtain⟨n',y1,y2,rfl⟩:=ib hy;exact le_trans (le_of_lt (lL.1.mp (c1 n z1 z2))) (L.ua.at y1 y2)
  exact br (fun e2=>Jq (lu h1 (eq_of_beq e2) mg2)) fun e2=>
   Ak L ⟨h1,h2,KA (le_trans (JC hk _) (Ki hz)) fun z=>e2 (beq_iff_eq.mpr z),le_trans m1 (JC (JX _ k) i),mg2⟩ bU
 ·have k0:k=0:=le_zero.mp (Kf hk0);subst k0;exact Ak L ⟨h1,h2,e',m1,mg'⟩ bU
def Hf(a b out:Array Jd)(i j g ca cb:Nat):StateT Jp Sem (ForInStep LS):=do
 let y <- Kx b j
 let r <- dR false y a i (a.size - i) 0
 match r with
 | some k=>if k > 0 then (if (i+k+1 == a.size)=true then pure (.done (some (iB a b (out ++ a.extract i (i+k)) (i+k) j),out ++ a.extract i (i+k),i+k,j,g,k,cb))
    else if (i+k == a.size)=true then pure (.done (some (fF a b (out ++ a.extract i (i+k)) (i+k) j),out ++ a.extract i (i+k),i+k,j,g,k,cb))
    else He a b (out ++ a.extract i (i+k)) (i+k) j g k cb)else He a b out i j g k cb
 | _=>pure (.done (some (fF a b out i j),out,i,j,g,ca,cb))
theorem Am{a b out:Array Jd}{i j g ca cb m:Nat}{st st':Jp}(L:Lo prog w A s κ R S a b)(J:Jo κ R a b st out i j m st'):
  wpS (Jf prog w) A E s (Hf a b out i j g ca cb) (Po κ R a b st m) st':=by
 obtain⟨h1,h2,h3,h4,mg⟩:=J;have hi:=KQ h2;have hz:i+(a.size - i)=a.size:=Nat.add_sub_cancel' (le_of_lt hi);unfold Hf;refine Ji (cz (bK h3) (Ji (tG L.an h1.1 (fun n z1 z2=>L.sa _ (dD (hz ▸ z2))) (L.sb _ (dD h3)) (Ki hz) (Nat.sub_pos_of_lt hi) (fun n n' z1 z2 z3=>L.ua.at z2 (hz ▸ z3)) fun k hk c1 c2=>?_)));have bU:∀ x∈a.toList.drop (i+k),R (bN b j)<=R x:=fun y hy=>by
  obtain⟨n,z1,z2,rfl⟩:=ib hy;exact le_of_lt (jV.2.mp (c2 n z1 (hz.symm ▸ z2)))
 have lt:i+k < a.size:=by
  rcases KZ (i+k) a.size with g|g
  ·exact g
  ·have z0:a.size - 1 < a.size:=MP (lt_of_le_of_lt (JQ i) hi) Mu;exact absurd (jV.1.mp (c1 _ (KR hi) (Jt z0 g))) (Nat.not_le_of_lt (L.ls _ (dD h3)))
 refine br (fun _=>?_) fun hk0=>?_
 ·have mg2:Mg R (a.toList ++ b.toList) (out ++ a.extract i (i+k)).toList (a.toList.drop (i+k)) (b.toList.drop j):=by
   rw[Array.toList_append,EV];rw[E5 (i:=i) (k:=k)]at mg;refine mg.ta fun x hx' y hy=>?_;obtain⟨n,z1,z2,z3,rfl⟩:=nB hx';obtain⟨n',y1,y2,rfl⟩:=ib hy;exact le_trans (jV.1.mp (c1 n z1 z2)) (L.ub.at y1 y2)
  exact br (fun e2=>Jq (jy L h1 (eq_of_beq e2) mg2)) fun e2=>br (fun e3=>absurd (eq_of_beq e3) (JP lt)) fun _=>
   Al L ⟨h1,KA lt fun z=>e2 (beq_iff_eq.mpr z),h3,le_trans h4 (Nat.add_le_add_right (JX i k) j),mg2⟩ bU
 ·have k0:k=0:=le_zero.mp (Kf hk0);subst k0;exact Al L ⟨h1,h2,h3,h4,mg⟩ bU
abbrev AS:=Option (Array Jd)×Array Jd×Nat×Nat×Nat×Nat
def Ir(a b:Array Jd)(g:Nat)(out:Array Jd)(i j ca cb:Nat):StateT Jp Sem (ForInStep AS):=do
 let y <- Kx b j
 let x <- Kx a i
 match <- lt' y x with
 | some wins=>
  if wins=true then do
   let y <- Kx b j
   if (j+1 == b.size)=true then pure (.done (some (fF a b (out.push y) i (j+1)),out.push y,i,j+1,0,cb+1))
   else if cb+1>=g then pure (.done (none,out.push y,i,j+1,0,cb+1))
   else pure (.yield (none,out.push y,i,j+1,0,cb+1))
  else do
   let x <- Kx a i
   if (i+1+1 == a.size)=true then pure (.done (some (iB a b (out.push x) (i+1) j),out.push x,i+1,j,ca+1,0))
   else if ca+1>=g then pure (.done (none,out.push x,i+1,j,ca+1,0))
   else pure (.yield (none,out.push x,i+1,j,ca+1,0))
 | _=>pure (.done (some (fF a b out i j),out,i,j,ca,cb))
abbrev IP(κ:KC)(R:Jd->Nat)(a b:Array Jd)(st:Jp)(m:Nat):ForInStep AS->Jp->Prop:=PX (Dn κ R a b st) fun c=>Jo κ R a b st c.1 c.2.1 c.2.2.1 (m+1)
theorem EA{a b out:Array Jd}{i j g ca cb m:Nat}{st st':Jp}(L:Lo prog w A s κ R S a b)(J:Jo κ R a b st out i j m st'):wpS (Jf prog w) A E s (Ir a b g out i j ca cb) (IP κ R a b st m) st':=by
 obtain⟨h1,h2,h3,h4,mg⟩:=J;have hi:i < a.size:=KQ h2;unfold Ir;refine Ji (cz (bK h3) (Ji (cz (bK hi) (Ji (yX L.an h1.1 (L.sb _ (dD h3)) (L.sa _ (dD hi)) ?_)))));dsimp only
 by_cases hl:R (bN b j) < R (bN a i)
 ·rw[if_pos (decide_eq_true hl)];refine Ji (cz (bK h3) ?_);have mg':Mg R (a.toList ++ b.toList) (out.push (bN b j)).toList (a.toList.drop i) (b.toList.drop (j+1)):=by
   rw[Array.toList_push];rw[dropK h3]at mg;refine Mg.tb (b1:=[bN b j]) mg fun x hx' y hy=>?_;rw[mem_singleton.mp hx'];obtain⟨n,z1,z2,rfl⟩:=ib hy;exact le_trans (le_of_lt hl) (L.ua.at z1 z2)
  by_cases e:(j+1 == b.size)=true
  ·rw[if_pos e];exact Jq (lu h1 (by simpa using e) mg')
  ·rw[if_neg e];have e':j+1≠b.size:=by simpa using e
   have J':Jo κ R a b st (out.push (bN b j)) i (j+1) (m+1) st':=⟨h1,h2,by walk_at "o",KL h4,mg'⟩
   split
   ·exact Jq J'
   ·exact Jq J'
 ·rw[if_neg (by simpa using hl)]
  refine Ji (cz (bK hi) ?_);have mg':Mg R (a.toList ++ b.toList) (out.push (bN a i)).toList (a.toList.drop (i+1)) (b.toList.drop j):=by
   rw[Array.toList_push];rw[dropK hi]at mg;refine Mg.ta (a1:=[bN a i]) mg fun x hx' y hy=>?_;rw[mem_singleton.mp hx'];obtain⟨n,z1,z2,rfl⟩:=ib hy;exact le_trans (Kf hl) (L.ub.at z1 z2)
  by_cases e:(i+1+1 == a.size)=true
  ·rw[if_pos e];exact Jq (jy L h1 (by simpa using e) mg')
  ·rw[if_neg e];have e':i+1+1≠a.size:=by simpa using e
   have J':Jo κ R a b st (out.push (bN a i)) (i+1) j (m+1) st':=⟨h1,by walk_at "o",h3,by walk_at "o",mg'⟩
   split
   ·exact Jq J'
   ·exact Jq J'
def Iq(a b out:Array Jd)(i j g ca cb:Nat):StateT Jp Sem (ForInStep LS):=
 if g > 1 then (do modify fun st=>jh st (g - 1);Hf a b out i j (g - 1) ca cb)else (do modify fun st=>jh st g;Hf a b out i j g ca cb)
theorem Ez{a b out:Array Jd}{i j g ca cb m:Nat}{st st':Jp}(L:Lo prog w A s κ R S a b)(J:Jo κ R a b st out i j m st'):wpS (Jf prog w) A E s (Iq a b out i j g ca cb) (Po κ R a b st m) st':=by
 unfold Iq;split
 ·exact Ji (K8 (Am L { J with g:=J.g }))
 ·exact Ji (K8 (Am L { J with g:=J.g }))
theorem xr{a b:Array Jd}{st:Jp}{Q:Array Jd->Jp->Prop}(L:Lo prog w A s κ R S a b)(hk:kindOf st=κ)(za:1<=a.size)(zb:1<=b.size)
  (h:∀ out st',Dn κ R a b st out st'->Q out st'):wpS (Jf prog w) A E s (ow a b) Q st:=by
 rw[uo];have g0:CS κ st st:=⟨hk,rfl,rfl,rfl⟩;have mg:Mg R (a.toList ++ b.toList) #[bN b 0].toList (a.toList.drop 0) (b.toList.drop 1):=by
  have e:b.toList=bN b 0::b.toList.drop 1:=dropK zb;have m0:Mg R (a.toList ++ b.toList) [] (a.toList.drop 0) ([bN b 0] ++ b.toList.drop 1):=⟨L.ua,by rw[KY,List.singleton_append,<- e];exact L.ub,by rw[KY,List.singleton_append,<- e];exact List.Perm.refl _⟩
  exact m0.tb fun x hx y hy=>by rw[mem_singleton.mp hx];exact le_of_lt (L.hd y hy)
 refine lT (Ji (cz (bK zb) (br (fun e1=>Jq (h _ st (lu g0 (eq_of_beq e1) mg))) fun e1=>br (fun e2=>Jq (h _ st (jy L g0 (eq_of_beq e2) mg))) fun e2=>Ji (Mp (Ji ?_)))));have z1:1 < b.size:=KA zb fun z=>e1 (beq_iff_eq.mpr z);have z2:0+1 < a.size:=KA za fun z=>e2 (beq_iff_eq.mpr z);clear e1 e2;refine gB (fun p:Array Jd×Nat×Nat×Nat=>((none,p.1,p.2.1,p.2.2.1,p.2.2.2):Option (Array Jd)×Array Jd×Nat×Nat×Nat)) (fun x p st'=>Jo κ R a b st p.1 p.2.1 p.2.2.1 (x+1) st')
  (fun c st'=>∃ z c',c=(some z,c')/\Dn κ R a b st z st') (t:=(_,0,1,_)) ⟨g0,z2,z1,le_refl _,mg⟩ ?_ (fun p st' J=>?_) fun c st' ⟨z,c',e,d⟩=>?_
 ·rintro x ⟨out,i,j,g⟩ st' _ J
  refine Ji (gB (fun p:Array Jd×Nat×Nat×Nat×Nat=>((none,p.1,p.2.1,p.2.2.1,p.2.2.2.1,p.2.2.2.2):AS)) (fun y p st'=>Jo κ R a b st p.1 p.2.1 p.2.2.1 (x+1+y) st')
   (fun c st'=>(∃ z c',c=(some z,c')/\Dn κ R a b st z st')\/∃ out i j ca cb,c=(none,out,i,j,ca,cb)/\Jo κ R a b st out i j (x+1+1) st') (t:=(_,_,_,0,0)) J (fun y p st' _ J=>?_) (fun p st' J=>?_) fun c st' hc=>?_)
  ·refine Nf (EA (g:=g) (ca:=p.2.2.2.1) (cb:=p.2.2.2.2) L J) fun r st'' p=>?_;cases r with
   | done c=>
    rcases p.dn with d|⟨_,e,J'⟩
    ·exact .inl d
    ·exact .inr ⟨_,_,_,_,_,e,{ J' with hm:=le_trans (JC (KL (JQ y)) _) J'.hm }⟩
   | yield c=>
    obtain⟨_,e,J'⟩:=p.y;exact⟨(_,_,_,_,_),e,J'⟩
  ·refine .inr ⟨_,_,_,_,_,rfl,{ J with hm:=le_trans (JC ?_ _) J.hm }⟩
   exact le_trans za (le_trans (JX _ b.size) (Ly _ _))
  ·rcases hc with ⟨z,c',rfl,d⟩|⟨out,i,j,ca,cb,rfl,J⟩
   ·exact Jq ⟨z,_,rfl,d⟩
   ·refine lT (Ji (gB (fun p:Array Jd×Nat×Nat×Nat×Nat×Nat=>((none,p.1,p.2.1,p.2.2.1,p.2.2.2.1,p.2.2.2.2.1,p.2.2.2.2.2):LS)) (fun _ p st'=>Jo κ R a b st p.1 p.2.1 p.2.2.1 (x+1+1) st')
     (fun c st'=>(∃ z c',c=(some z,c')/\Dn κ R a b st z st')\/∃ out i j c',c=(none,out,i,j,c')/\Jo κ R a b st out i j (x+1+1) st') (t:=(_,_,_,_,_,_)) J (fun y p st' _ J=>?_) (fun p st' J=>.inr ⟨_,_,_,_,rfl,J⟩) fun c st' hc=>?_))
    ·refine Nf (Ez (g:=p.2.2.2.1) (ca:=p.2.2.2.2.1) (cb:=p.2.2.2.2.2) L J) fun r st'' p=>?_;cases r with
     | done c=>
      rcases p.dn with d|⟨_,e,J'⟩
      ·exact .inl d
      ·exact .inr ⟨_,_,_,_,e,J'⟩
     | yield c=>
      obtain⟨_,e,J'⟩:=p.y;exact⟨(_,_,_,_,_,_),e,J'⟩
    ·rcases hc with ⟨z,c',rfl,d⟩|⟨out,i,j,⟨g,ca,cb⟩,rfl,J⟩
     ·exact Jq ⟨z,_,rfl,d⟩
     ·exact Ji (K8 (Jq ⟨(_,_,_,_),rfl,{ J with g:=J.g }⟩))
 ·have h1:=J.hi;have h2:=J.hj;have h3:=le_trans (KL (Ly 0 (a.size+b.size))) J.hm;clear J mg h L;omega
 ·subst e;exact Jq (h z st' d)
end
section
variable{xs:Array Jd}{i j k n:Nat}{x:Jd}{R:Jd->Nat}
theorem h9(h:x∈xs.toList.take n):∃ j,j < n/\j < xs.size/\x=bN xs j:=by
 obtain⟨j,_,h2,h3,h4⟩:=nB (i:=0) (k:=n) h;exact⟨j,by walk_at "o",h3,h4⟩
theorem CW(h:n < xs.size):xs.toList.take (n+1)=xs.toList.take n ++ [bN xs n]:=by
 rw[List.take_succ_eq_append_getElem (by simpa using h),eU h]
theorem CY(h:k<=n):xs.toList.take n=xs.toList.take k ++ (xs.extract k n).toList:=by
 rw[Array.toList_extract,List.extract_eq_take_drop]
 conv=>lhs;rw[<- Nat.add_sub_cancel' h,List.take_add]
theorem Cu:(xs.extract 0 n).toList=xs.toList.take n:=by
 rw[Array.toList_extract,List.extract_eq_take_drop,Nh,MZ]
end
section
variable{prog:Jw}{w:JG}{A:Jy}{E:IV->IX->Prop}{s:IX}{κ:KC}{R:Jd->Nat}{S:Jd->Prop}
def oz:Array Jd->Array Jd->StateT Jp Sem (Array Jd):=sortPriv% PySem.Builtin.mergeHi
def fE(a b out:Array Jd)(i j:Nat):Array Jd:=a.extract 0 i ++ b.extract 0 j ++ out.reverse
def iA(a b out:Array Jd)(i j:Nat):Array Jd:=b.extract 0 j ++ a.extract 0 i ++ out.reverse
theorem uq(a b:Array Jd):oz a b=(do
 rule "list.sort.merge-hi"
 let all:=a.size+b.size
 let mut i:=a.size - 1
 let mut j:=b.size
 let mut out:Array Jd:=#[<- Kx a i]
 if i == 0 then return fE a b out i j
 if j == 1 then return iA a b out i j
 let mut g:=gallopOf (<- get)
 for _ in [0:all] do
  let mut ca:=0
  let mut cb:=0
  for _ in [0:all] do
   let some wins <- lt' (<- Kx b (j - 1)) (<- Kx a (i - 1))|return fE a b out i j
   if wins then
    i:=i - 1;out:=out.push (<- Kx a i);ca:=ca+1;cb:=0
    if i == 0 then return fE a b out i j
    if ca>=g then break
   else
    j:=j - 1;out:=out.push (<- Kx b j);cb:=cb+1;ca:=0
    if j == 1 then return iA a b out i j
    if cb>=g then break
  rule "list.sort.gallop"
  g:=g+1
  for _ in [0:all] do
   if g > 1 then g:=g - 1
   modify (fun st=>jh st g)
   let some p <- dR false (<- Kx b (j - 1)) a 0 i (i - 1)|return fE a b out i j
   let k:=i - p
   ca:=k
   if k > 0 then
    out:=out ++ (a.extract p i).reverse;i:=p
    if i == 0 then return fE a b out i j
   j:=j - 1;out:=out.push (<- Kx b j)
   if j == 1 then return iA a b out i j
   let some p <- dR true (<- Kx a (i - 1)) b 0 j (j - 1)|return fE a b out i j
   let k:=j - p
   cb:=k
   if k > 0 then
    out:=out ++ (b.extract p j).reverse;j:=p
    if j == 1 then return iA a b out i j
    if j == 0 then return fE a b out i j
   i:=i - 1;out:=out.push (<- Kx a i)
   if i == 0 then return fE a b out i j
   if ca < 7 && cb < 7 then break
  g:=g+1
  modify (fun st=>jh st g)
 Ol "internal:list.sort.merge-bound"):=rfl
structure Ho(κ:KC)(R:Jd->Nat)(a b:Array Jd)(st:Jp)(out:Array Jd)(i j m:Nat)(st':Jp):Prop where
 g:CS κ st st'
 h0:0 < i
 hi:i<=a.size
 h1:1 < j
 hj:j<=b.size
 hm:i+j+m<=a.size+b.size
 mh:Mh R (a.toList ++ b.toList) out.toList.reverse (a.toList.take i) (b.toList.take j)
theorem lr{a b out:Array Jd}{i j:Nat}{st st':Jp}(g:CS κ st st')(hi:i=0)(mh:Mh R (a.toList ++ b.toList) out.toList.reverse (a.toList.take i) (b.toList.take j)):Dn κ R a b st (fE a b out i j) st':=by
 subst hi;rw[MU]at mh;have e:(fE a b out 0 j).toList=b.toList.take j ++ out.toList.reverse:=by
  unfold fE;rw[Array.toList_append,Array.toList_append,Cu,Cu,MU,KY,Array.toList_reverse]
 unfold Dn;rw[e];exact⟨g,mh.fin⟩
theorem jx{a b out:Array Jd}{i j:Nat}{st st':Jp}(L:Lo prog w A s κ R S a b)(g:CS κ st st')(hj:j=1)(mh:Mh R (a.toList ++ b.toList) out.toList.reverse (a.toList.take i) (b.toList.take j)):Dn κ R a b st (iA a b out i j) st':=by
 have e:(iA a b out i j).toList=b.toList.take j ++ (a.toList.take i ++ out.toList.reverse):=by
  unfold iA;rw[Array.toList_append,Array.toList_append,Cu,Cu,Array.toList_reverse,JM]
 unfold Dn;rw[e];refine⟨g,mh.last fun x hx y hy=>?_⟩;obtain⟨k,h1,h2,rfl⟩:=h9 hy;rw[show k=0 by walk_at "o"]
 exact le_of_lt (L.hd x (KG hx))
theorem Mh.one_a{a b out:Array Jd}{i j:Nat}(h0:0 < i)(hi:i<=a.size)(mh:Mh R (a.toList ++ b.toList) out.toList.reverse (a.toList.take i) (b.toList.take j))(hx:∀ y∈b.toList.take j,R y<=R (bN a (i - 1))):
  Mh R (a.toList ++ b.toList) (out.push (bN a (i - 1))).toList.reverse (a.toList.take (i - 1)) (b.toList.take j):=by
 obtain⟨n,rfl⟩:∃ n,i=n+1:=⟨i - 1,by walk_at "o"⟩
 rw[Array.toList_push,List.reverse_append,List.reverse_singleton];rw[CW (by walk_at "o")]at mh
 exact mh.ta fun x hx' y hy=>by rw[mem_singleton.mp hx'];exact hx y hy
theorem Mh.one_b{a b out:Array Jd}{i j:Nat}(h0:0 < j)(hj:j<=b.size)(mh:Mh R (a.toList ++ b.toList) out.toList.reverse (a.toList.take i) (b.toList.take j))(hx:∀ y∈a.toList.take i,R y<=R (bN b (j - 1))):
  Mh R (a.toList ++ b.toList) (out.push (bN b (j - 1))).toList.reverse (a.toList.take i) (b.toList.take (j - 1)):=by
 obtain⟨n,rfl⟩:∃ n,j=n+1:=⟨j - 1,by walk_at "o"⟩
 rw[Array.toList_push,List.reverse_append,List.reverse_singleton];rw[CW (by walk_at "o")]at mh
 exact mh.tb fun x hx' y hy=>by rw[mem_singleton.mp hx'];exact hx y hy
theorem wS{xs:Array Jd}{i j:Nat}{x:Jd}(hij:i<=j)(h:x∈(xs.extract i j).toList):∃ k,i<=k/\k < j/\k < xs.size/\x=bN xs k:=by
 rw[<- Nat.add_sub_cancel' hij,EV]at h;obtain⟨k,h1,h2,h3,h4⟩:=nB h;exact⟨k,h1,by walk_at "o",h3,h4⟩
theorem wG{out e:Array Jd}:(out ++ e.reverse).toList.reverse=e.toList ++ out.toList.reverse:=by
 rw[Array.toList_append,List.reverse_append,Array.toList_reverse,List.reverse_reverse]
abbrev HS:=Option (Array Jd)×Nat×Nat×Array Jd×Nat×Nat×Nat
abbrev Ph(κ:KC)(R:Jd->Nat)(a b:Array Jd)(st:Jp)(m:Nat):ForInStep HS->Jp->Prop:=PX (Dn κ R a b st) fun c=>Ho κ R a b st c.2.2.1 c.1 c.2.1 m
theorem hU{i n:Nat}(h:0 < i)(h1:i<=n):i - 1 < n:=by walk_at "o"
theorem zV{i j m n:Nat}(h:0 < i)(h1:i+j+m<=n):i - 1+j+(m+1)<=n:=by walk_at "o"
theorem xM{i j m n:Nat}(h:0 < j)(h1:i+j+m<=n):i+(j - 1)+(m+1)<=n:=by walk_at "o"
theorem wK{j:Nat}(h:1 < j)(h1:¬ j - 1=1):1 < j - 1:=by walk_at "o"
theorem Cd{i i' j j' m n:Nat}(h:i'<=i)(h':j'<=j)(h1:i+j+m<=n):i'+j'+m<=n:=by walk_at "o"
def Hg(a b out:Array Jd)(i j g ca cb:Nat):StateT Jp Sem (ForInStep HS):=do
 let x <- Kx a (i - 1)
 if (i - 1 == 0)=true then pure (.done (some (fE a b (out.push x) (i - 1) j),i - 1,j,out.push x,g,ca,cb))
 else if (ca < 7 && cb < 7)=true then pure (.done (none,i - 1,j,out.push x,g,ca,cb))else pure (.yield (none,i - 1,j,out.push x,g,ca,cb))
theorem AB{a b out:Array Jd}{i j g ca cb m:Nat}{st st':Jp}(J:Ho κ R a b st out i j m st')(hx:∀ y∈b.toList.take j,R y<=R (bN a (i - 1))):
  wpS (Jf prog w) A E s (Hg a b out i j g ca cb) (Ph κ R a b st m) st':=by
 obtain⟨h1,h2,h3,h4,h5,h6,mh⟩:=J;have mh':=mh.one_a h2 h3 hx;unfold Hg;refine Ji (cz (bK (hU h2 h3)) (br (fun e=>Jq (lr h1 (eq_of_beq e) mh')) fun e=>?_));have J':Ho κ R a b st (out.push (bN a (i - 1))) (i - 1) j m st':=⟨h1,KW fun z=>e (beq_iff_eq.mpr z),le_trans (Me _ _) h3,h4,h5,Cd (Me _ _) (le_refl _) h6,mh'⟩;exact br (fun _=>Jq J') fun _=>Jq J'
def hi2(a b out:Array Jd)(i j g ca cb:Nat):StateT Jp Sem (ForInStep HS):=do
 let y <- Kx b (j - 1)
 if (j - 1 == 1)=true then pure (.done (some (iA a b (out.push y) i (j - 1)),i,j - 1,out.push y,g,ca,cb))
 else
  let x <- Kx a (i - 1)
  let r <- dR true x b 0 (j - 1) (j - 1 - 1)
  match r with
  | some p=>if j - 1 - p > 0 then (if (p == 1)=true then pure (.done (some (iA a b (out.push y ++ (b.extract p (j - 1)).reverse) i p),i,p,out.push y ++ (b.extract p (j - 1)).reverse,g,ca,j - 1 - p))
    else if (p == 0)=true then pure (.done (some (fE a b (out.push y ++ (b.extract p (j - 1)).reverse) i p),i,p,out.push y ++ (b.extract p (j - 1)).reverse,g,ca,j - 1 - p))
    else Hg a b (out.push y ++ (b.extract p (j - 1)).reverse) i p g ca (j - 1 - p))else Hg a b (out.push y) i (j - 1) g ca (j - 1 - p)
  | _=>pure (.done (some (fE a b (out.push y) i (j - 1)),i,j - 1,out.push y,g,ca,cb))
theorem AC{a b out:Array Jd}{i j g ca cb m:Nat}{st st':Jp}(L:Lo prog w A s κ R S a b)(J:Ho κ R a b st out i j m st')(hx:∀ x∈a.toList.take i,R x<=R (bN b (j - 1))):
  wpS (Jf prog w) A E s (hi2 a b out i j g ca cb) (Ph κ R a b st m) st':=by
 obtain⟨h1,h2,h3,h4,h5,h6,mh⟩:=J;have j0:=KQ h4;have hi:=hU h2 h3;have hj:=hU j0 h5;have mh':=mh.one_b j0 h5 hx;unfold hi2;refine Ji (cz (bK hj) (br (fun e=>Jq (jx L h1 (eq_of_beq e) mh')) fun e=>?_));have j1:=wK h4 fun z=>e (beq_iff_eq.mpr z);have up:∀ {n},n < 0+(j - 1)->n < b.size:=fun z=>Jt z (le_trans (Ki (LD _)) (le_of_lt hj));refine Ji (cz (bK hi) (Ji (tG L.an h1.1 (fun n z1 z2=>L.sb _ (dD (up z2))) (L.sa _ (dD hi)) (le_trans (Ki (LD _)) (le_of_lt hj)) (MP (KQ j1) Mu) (fun n n' z1 z2 z3=>L.ub.at z2 (up z3)) fun p hp c1 c2=>?_)));have bU:∀ y∈b.toList.take p,R y<=R (bN a (i - 1)):=fun y hy=>by
  obtain⟨n,z1,z2,rfl⟩:=h9 hy;exact le_of_lt (lL.1.mp (c1 n (JQ _) (Nat.lt_of_lt_of_eq z1 (LD p).symm)))
 have far:∀ n,p<=n->n < j - 1->R (bN a (i - 1))<=R (bN b n):=fun n z1 z2=>lL.2.mp (c2 n (le_trans (Ki (LD p)) z1) (Nat.lt_of_lt_of_eq z2 (LD _).symm));refine br (fun hk0=>?_) fun hk0=>?_
 ·have mh2:Mh R (a.toList ++ b.toList) (out.push (bN b (j - 1)) ++ (b.extract p (j - 1)).reverse).toList.reverse (a.toList.take i) (b.toList.take p):=by
   rw[wG];rw[CY (n:=j - 1) hp]at mh';refine mh'.tb fun x hx' y hy=>?_;obtain⟨n,z1,z2,z3,rfl⟩:=wS hp hx';obtain⟨n',y1,y2,rfl⟩:=h9 hy;exact le_trans (L.ua.at (KR y1) hi) (far n z1 z2)
  have p0:0 < p:=KW fun z=>absurd (far 0 (Ki z) (KQ j1)) (Nat.not_le_of_lt (L.hd _ (dD hi)));exact br (fun e2=>Jq (jx L h1 (eq_of_beq e2) mh2)) fun e2=>br (fun e3=>absurd (eq_of_beq e3) (My p0)) fun _=>
   AB ⟨h1,h2,h3,KA p0 fun z=>e2 (beq_iff_eq.mpr z.symm),le_trans hp (le_of_lt hj),Cd (le_refl _) (le_trans hp (Me _ _)) h6,mh2⟩ bU
 ·have e0:p=j - 1:=le_antisymm hp (Nat.le_of_sub_eq_zero (le_zero.mp (Kf hk0)));subst e0;exact AB ⟨h1,h2,h3,j1,le_of_lt hj,Cd (le_refl _) (Me _ _) h6,mh'⟩ bU
def Hh(a b out:Array Jd)(i j g ca cb:Nat):StateT Jp Sem (ForInStep HS):=do
 let y <- Kx b (j - 1)
 let r <- dR false y a 0 i (i - 1)
 match r with
 | some p=>if i - p > 0 then (if (p == 0)=true then pure (.done (some (fE a b (out ++ (a.extract p i).reverse) p j),p,j,out ++ (a.extract p i).reverse,g,i - p,cb))
    else hi2 a b (out ++ (a.extract p i).reverse) p j g (i - p) cb)else hi2 a b out i j g (i - p) cb
 | _=>pure (.done (some (fE a b out i j),i,j,out,g,ca,cb))
theorem AD{a b out:Array Jd}{i j g ca cb m:Nat}{st st':Jp}(L:Lo prog w A s κ R S a b)(J:Ho κ R a b st out i j m st'):
  wpS (Jf prog w) A E s (Hh a b out i j g ca cb) (Ph κ R a b st m) st':=by
 obtain⟨h1,h2,h3,h4,h5,h6,mh⟩:=J;have j0:=KQ h4;have hj:=hU j0 h5;have up:∀ {n},n < 0+i->n < a.size:=fun z=>Jt z (le_trans (Ki (LD _)) h3);unfold Hh;refine Ji (cz (bK hj) (Ji (tG L.an h1.1 (fun n z1 z2=>L.sa _ (dD (up z2))) (L.sb _ (dD hj)) (le_trans (Ki (LD _)) h3) (MP h2 Mu) (fun n n' z1 z2 z3=>L.ua.at z2 (up z3)) fun p hp c1 c2=>?_)));have bU:∀ y∈a.toList.take p,R y<=R (bN b (j - 1)):=fun y hy=>by
  obtain⟨n,z1,z2,rfl⟩:=h9 hy;exact jV.1.mp (c1 n (JQ _) (Nat.lt_of_lt_of_eq z1 (LD p).symm))
 refine br (fun _=>?_) fun hk0=>?_
 ·have mh2:Mh R (a.toList ++ b.toList) (out ++ (a.extract p i).reverse).toList.reverse (a.toList.take p) (b.toList.take j):=by
   rw[wG];rw[CY (n:=i) hp]at mh;refine mh.ta fun x hx' y hy=>?_;obtain⟨n,z1,z2,z3,rfl⟩:=wS hp hx';obtain⟨n',y1,y2,rfl⟩:=h9 hy;exact le_trans (L.ub.at (KR y1) hj) (le_of_lt (jV.2.mp (c2 n (le_trans (Ki (LD p)) z1) (Nat.lt_of_lt_of_eq z2 (LD _).symm))))
  exact br (fun e2=>Jq (lr h1 (eq_of_beq e2) mh2)) fun e2=>
   AC L ⟨h1,KW fun z=>e2 (beq_iff_eq.mpr z),le_trans hp h3,h4,h5,Cd hp (le_refl _) h6,mh2⟩ bU
 ·have e0:p=i:=le_antisymm hp (Nat.le_of_sub_eq_zero (le_zero.mp (Kf hk0)));subst e0;exact AC L ⟨h1,h2,h3,h4,h5,h6,mh⟩ bU
abbrev BS:=Option (Array Jd)×Nat×Nat×Array Jd×Nat×Nat
def Iu(a b:Array Jd)(g:Nat)(out:Array Jd)(i j ca cb:Nat):StateT Jp Sem (ForInStep BS):=do
 let y <- Kx b (j - 1)
 let x <- Kx a (i - 1)
 match <- lt' y x with
 | some wins=>
  if wins=true then do
   let x <- Kx a (i - 1)
   if (i - 1 == 0)=true then pure (.done (some (fE a b (out.push x) (i - 1) j),i - 1,j,out.push x,ca+1,0))
   else if ca+1>=g then pure (.done (none,i - 1,j,out.push x,ca+1,0))
   else pure (.yield (none,i - 1,j,out.push x,ca+1,0))
  else do
   let y <- Kx b (j - 1)
   if (j - 1 == 1)=true then pure (.done (some (iA a b (out.push y) i (j - 1)),i,j - 1,out.push y,0,cb+1))
   else if cb+1>=g then pure (.done (none,i,j - 1,out.push y,0,cb+1))
   else pure (.yield (none,i,j - 1,out.push y,0,cb+1))
 | _=>pure (.done (some (fE a b out i j),i,j,out,ca,cb))
abbrev PB(κ:KC)(R:Jd->Nat)(a b:Array Jd)(st:Jp)(m:Nat):ForInStep BS->Jp->Prop:=PX (Dn κ R a b st) fun c=>Ho κ R a b st c.2.2.1 c.1 c.2.1 (m+1)
theorem EU{a b out:Array Jd}{i j g ca cb m:Nat}{st st':Jp}(L:Lo prog w A s κ R S a b)(J:Ho κ R a b st out i j m st'):wpS (Jf prog w) A E s (Iu a b g out i j ca cb) (PB κ R a b st m) st':=by
 obtain⟨h1,h2,h3,h4,h5,h6,mh⟩:=J;have j0:=KQ h4;have hi:=hU h2 h3;have hj:=hU j0 h5;unfold Iu;refine Ji (cz (bK hj) (Ji (cz (bK hi) (Ji (yX L.an h1.1 (L.sb _ (dD hj)) (L.sa _ (dD hi)) (br (fun hl=>?_) fun hl=>?_))))))
 ·have hl:=of_decide_eq_true hl;have mh':=mh.one_a h2 h3 fun y hy=>by
   obtain⟨n,z1,z2,rfl⟩:=h9 hy;exact le_trans (L.ub.at (KR z1) hj) (le_of_lt hl)
  refine Ji (cz (bK hi) (br (fun e=>Jq (lr h1 (eq_of_beq e) mh')) fun e=>?_));have J':Ho κ R a b st (out.push (bN a (i - 1))) (i - 1) j (m+1) st':=⟨h1,KW fun z=>e (beq_iff_eq.mpr z),le_of_lt hi,h4,h5,zV h2 h6,mh'⟩;exact br (fun _=>Jq J') fun _=>Jq J'
 ·have hl:¬ R (bN b (j - 1)) < R (bN a (i - 1)):=fun z=>hl (decide_eq_true z);have mh':=mh.one_b j0 h5 fun y hy=>by
   obtain⟨n,z1,z2,rfl⟩:=h9 hy;exact le_trans (L.ua.at (KR z1) hi) (Kf hl)
  refine Ji (cz (bK hj) (br (fun e=>Jq (jx L h1 (eq_of_beq e) mh')) fun e=>?_));have J':Ho κ R a b st (out.push (bN b (j - 1))) i (j - 1) (m+1) st':=⟨h1,h2,h3,wK h4 fun z=>e (beq_iff_eq.mpr z),le_of_lt hj,xM j0 h6,mh'⟩;exact br (fun _=>Jq J') fun _=>Jq J'
def Is(a b out:Array Jd)(i j g ca cb:Nat):StateT Jp Sem (ForInStep HS):=
 if g > 1 then (do modify fun st=>jh st (g - 1);Hh a b out i j (g - 1) ca cb)else (do modify fun st=>jh st g;Hh a b out i j g ca cb)
theorem ET{a b out:Array Jd}{i j g ca cb m:Nat}{st st':Jp}(L:Lo prog w A s κ R S a b)(J:Ho κ R a b st out i j m st'):wpS (Jf prog w) A E s (Is a b out i j g ca cb) (Ph κ R a b st m) st':=by
 unfold Is;exact br (fun _=>Ji (K8 (AD L { J with g:=J.g }))) fun _=>Ji (K8 (AD L { J with g:=J.g }))
theorem xt{a b:Array Jd}{st:Jp}{Q:Array Jd->Jp->Prop}(L:Lo prog w A s κ R S a b)(hk:kindOf st=κ)(za:1<=a.size)(zb:1<=b.size)
  (h:∀ out st',Dn κ R a b st out st'->Q out st'):wpS (Jf prog w) A E s (oz a b) Q st:=by
 rw[uq];have g0:CS κ st st:=⟨hk,rfl,rfl,rfl⟩;have m0:Mh R (a.toList ++ b.toList) #[].toList.reverse (a.toList.take a.size) (b.toList.take b.size):=by
  rw[List.take_of_length_le (Ki (by simp)),List.take_of_length_le (Ki (by simp))]
  exact⟨by simpa using L.ua,by simpa using L.ub,by simp⟩
 have mh:Mh R (a.toList ++ b.toList) #[bN a (a.size - 1)].toList.reverse (a.toList.take (a.size - 1)) (b.toList.take b.size):=
  m0.one_a za (le_refl _) fun y hy=>le_of_lt (L.ls y (KG hy))
 have z0:a.size - 1 < a.size:=hU za (le_refl _);refine lT (Ji (cz (bK z0) (br (fun e1=>Jq (h _ st (lr g0 (eq_of_beq e1) mh))) fun e1=>br (fun e2=>Jq (h _ st (jx L g0 (eq_of_beq e2) mh))) fun e2=>Ji (Mp (Ji ?_)))));have z1:1 < b.size:=KA zb fun z=>e2 (beq_iff_eq.mpr z.symm);have z2:0 < a.size - 1:=KW fun z=>e1 (beq_iff_eq.mpr z);clear e1 e2;refine gB (fun p:Array Jd×Nat×Nat×Nat=>((none,p.2.1,p.2.2.1,p.1,p.2.2.2):Option (Array Jd)×Nat×Nat×Array Jd×Nat)) (fun x p st'=>Ho κ R a b st p.1 p.2.1 p.2.2.1 (x+1) st')
  (fun c st'=>∃ z c',c=(some z,c')/\Dn κ R a b st z st') (t:=(_,_,_,_)) ⟨g0,z2,le_of_lt z0,z1,le_refl _,?_,mh⟩ ?_ (fun p st' J=>?_) fun c st' ⟨z,c',e,d⟩=>?_
 ·show a.size - 1+b.size+(0+1)<=a.size+b.size;clear mh m0 L h;omega
 ·rintro x ⟨out,i,j,g⟩ st' _ J
  refine Ji (gB (fun p:Array Jd×Nat×Nat×Nat×Nat=>((none,p.2.1,p.2.2.1,p.1,p.2.2.2.1,p.2.2.2.2):BS)) (fun y p st'=>Ho κ R a b st p.1 p.2.1 p.2.2.1 (x+1+y) st')
   (fun c st'=>(∃ z c',c=(some z,c')/\Dn κ R a b st z st')\/∃ out i j ca cb,c=(none,i,j,out,ca,cb)/\Ho κ R a b st out i j (x+1+1) st') (t:=(_,_,_,0,0)) J (fun y p st' _ J=>?_) (fun p st' J=>?_) fun c st' hc=>?_)
  ·refine Nf (EU (g:=g) (ca:=p.2.2.2.1) (cb:=p.2.2.2.2) L J) fun r st'' p=>?_;cases r with
   | done c=>
    rcases p.dn with d|⟨_,e,J'⟩
    ·exact .inl d
    ·exact .inr ⟨_,_,_,_,_,e,{ J' with hm:=le_trans (JC (JC (KL (JQ y)) _) _) J'.hm }⟩
   | yield c=>
    obtain⟨_,e,J'⟩:=p.y;exact⟨(_,_,_,_,_),e,J'⟩
  ·refine .inr ⟨_,_,_,_,_,rfl,{ J with hm:=le_trans (JC (JC ?_ _) _) J.hm }⟩
   exact le_trans za (le_trans (JX _ b.size) (Ly _ _))
  ·rcases hc with ⟨z,c',rfl,d⟩|⟨out,i,j,ca,cb,rfl,J⟩
   ·exact Jq ⟨z,_,rfl,d⟩
   ·refine lT (Ji (gB (fun p:Array Jd×Nat×Nat×Nat×Nat×Nat=>((none,p.2.1,p.2.2.1,p.1,p.2.2.2.1,p.2.2.2.2.1,p.2.2.2.2.2):HS)) (fun _ p st'=>Ho κ R a b st p.1 p.2.1 p.2.2.1 (x+1+1) st')
     (fun c st'=>(∃ z c',c=(some z,c')/\Dn κ R a b st z st')\/∃ out i j c',c=(none,i,j,out,c')/\Ho κ R a b st out i j (x+1+1) st') (t:=(_,_,_,_,_,_)) J (fun y p st' _ J=>?_) (fun p st' J=>.inr ⟨_,_,_,_,rfl,J⟩) fun c st' hc=>?_))
    ·refine Nf (ET (g:=p.2.2.2.1) (ca:=p.2.2.2.2.1) (cb:=p.2.2.2.2.2) L J) fun r st'' p=>?_;cases r with
     | done c=>
      rcases p.dn with d|⟨_,e,J'⟩
      ·exact .inl d
      ·exact .inr ⟨_,_,_,_,e,J'⟩
     | yield c=>
      obtain⟨_,e,J'⟩:=p.y;exact⟨(_,_,_,_,_,_),e,J'⟩
    ·rcases hc with ⟨z,c',rfl,d⟩|⟨out,i,j,⟨g,ca,cb⟩,rfl,J⟩
     ·exact Jq ⟨z,_,rfl,d⟩
     ·exact Ji (K8 (Jq ⟨(_,_,_,_),rfl,{ J with g:=J.g }⟩))
 ·have h3:=le_trans (JC (KL (Ly 0 (a.size+b.size))) _) J.hm;have h0:=J.h0;clear J mh m0 h L;omega
 ·subst e;exact Jq (h z st' d)
end
section
variable{R:Jd->Nat}{xs ys:Array Jd}{lo n:Nat}
def A2(R:Jd->Nat)(xs:Array Jd)(lo n:Nat):Prop:=∀ i j,lo<=i->i<=j->j < lo+n->R (bN xs i)<=R (bN xs j)
def A5(R:Jd->Nat)(xs:Array Jd)(lo n:Nat):Prop:=∀ i j,lo<=i->i<=j->j < lo+n->R (bN xs j)<=R (bN xs i)
theorem pj{i j:Nat}(h:xs[i]?=ys[j]?):bN xs i=bN ys j:=by
 unfold bN;rw[Array.getD_eq_getD_getElem?,Array.getD_eq_getD_getElem?,h]
theorem wt{src d:Nat}(hs:src < xs.size)(hd:d<=src)(k:Nat):bN (bubble xs src d) k=if k=src - d then bN xs src else if src - d < k/\k<=src then bN xs (k - 1)else bN xs k:=by
 have be:=getElem?_bubble hs d hd k
 by_cases h1:k=src - d
 ·rw[if_pos h1]at be ⊢;exact pj be
 ·rw[if_neg h1]at be ⊢
  by_cases hh:src - d < k/\k<=src
  ·rw[if_pos hh]at be ⊢;exact pj be
  ·rw[if_neg hh]at be ⊢;exact pj be
theorem wq{i j:Nat}(hj:j<=xs.size)(k:Nat):bN (mirror xs i j ((j - i) / 2)) k=if i<=k/\k < j then bN xs (i+j - 1 - k)else bN xs k:=by
 have me:=getElem?_mirror_all (i:=i) hj k;split at me
 ·rename_i h;rw[if_pos h];exact pj me
 ·rename_i h;rw[if_neg h];exact pj me
end
section
variable{prog:Jw}{w:JG}{A:Jy}{E:IV->IX->Prop}{s:IX}{κ:KC}{R:Jd->Nat}{S:Jd->Prop}
structure Bs(κ:KC)(st0 st:Jp)(lo hi:Nat):Prop where
 k:kindOf st=κ
 f:KJ st=KJ st0
 p:JV st=JV st0
 pm:(Jm st).Perm (Jm st0)
 out:∀ i,i < lo\/hi<=i->bN (Jm st) i=bN (Jm st0) i
theorem Bs.z{st0 st:Jp}{lo hi:Nat}(b:Bs κ st0 st lo hi):(Jm st).size=(Jm st0).size:=b.pm.size_eq
theorem Bs.sOf{st0 st:Jp}{lo hi:Nat}(b:Bs κ st0 st lo hi)(hS:∀ x∈(Jm st0).toList,S x){i:Nat}(hi:i < (Jm st0).size):S (bN (Jm st) i):=
 hS _ ((Array.perm_iff_toList_perm.mp b.pm).mem_iff.mp (dD (by rw[b.z];exact hi)))
theorem nM{st0 st:Jp}{lo hi i j:Nat}{Q:Option Bool->Jp->Prop}(an:xn prog w A s κ R S)(hS:∀ x∈(Jm st0).toList,S x)(b:Bs κ st0 st lo hi)(hi':i < (Jm st0).size)(hj:j < (Jm st0).size)
  (h:Q (some (decide (R (bN (Jm st) i) < R (bN (Jm st) j)))) st):wpS (Jf prog w) A E s (NW i j) Q st:=by
 rw[ltAt'_eq];refine Ji (Mp (Ji (cz (bK (by rw[b.z];exact hi')) (Ji (cz (bK (by rw[b.z];exact hj)) ?_)))))
 exact yX an b.k (b.sOf hS hi') (b.sOf hS hj) h
theorem HJ{l r:Nat}(h:l < r):l<=(l+r) / 2/\(l+r) / 2 < r:=by walk_at "o"
theorem Co{f g:Nat->Nat}{lo k l:Nat}(hl:l<=k)(e:∀ i,g i=if i=lo+l then f (lo+k)else if lo+l < i/\i<=lo+k then f (i - 1)else f i)(sg:∀ i j,lo<=i->i<=j->j < lo+k->f i<=f j)
  (a4:∀ i,lo<=i->i < lo+l->f i<=f (lo+k)) (a5:∀ i,lo+l<=i->i < lo+k->f (lo+k) < f i) {i j:Nat} (h1:lo<=i) (h2:i<=j) (h3:j < lo+(k+1)):g i<=g j:=by
 have lo':∀ i,i < lo+l->g i=f i:=fun i h=>by rw[e,if_neg (JP h),if_neg fun z=>Nat.lt_asymm z.1 h]
 have hi':∀ i,lo+l < i->i < lo+(k+1)->g i=f (i - 1):=fun i h h'=>by rw[e,if_neg (My h),if_pos ⟨h,Lr h'⟩]
 have at':g (lo+l)=f (lo+k):=by rw[e,if_pos rfl]
 have p1:∀ j,lo+l < j->j < lo+(k+1)->lo+l<=j - 1/\j - 1 < lo+k:=fun j h h'=>by clear e sg a4 a5 lo' hi' at';omega
 rcases Nat.lt_trichotomy j (lo+l)with g2|g2|g2
 ·rw[lo' i (lt_of_le_of_lt h2 g2),lo' j g2];exact sg i j h1 h2 (Jt g2 (JC hl lo))
 ·rw[g2,at'];rcases KZ i (lo+l)with g1|g1
  ·rw[lo' i g1];exact a4 i h1 g1
  ·rw[le_antisymm (g2 ▸ h2) g1,at'];exact le_refl _
 ·obtain⟨q1,q2⟩:=p1 j g2 h3;rw[hi' j g2 h3];rcases Nat.lt_trichotomy i (lo+l)with g1|g1|g1
  ·rw[lo' i g1];exact sg i _ h1 (le_trans (le_of_lt g1) q1) q2
  ·rw[g1,at'];exact le_of_lt (a5 _ q1 q2)
  ·rw[hi' i g1 (lt_of_le_of_lt h2 h3)];exact sg _ _ (le_trans (JX lo l) (p1 i g1 (lt_of_le_of_lt h2 h3)).1) (Nat.sub_le_sub_right h2 1) q2
theorem DH{i j:Nat}{st:Jp}{Q:Unit->Jp->Prop}(h:Q () (setArr st (bubble (Jm st) i (i - j)))):wpS (Jf prog w) A E s (moveDown' i j) Q st:=by
 rw[moveDown'_eq];exact K8 h
theorem Fx{st0 st:Jp}{lo n ok:Nat}{Q:Bool->Jp->Prop}(an:xn prog w A s κ R S)(hS:∀ x∈(Jm st0).toList,S x)(b:Bs κ st0 st lo (lo+n))(hz:lo+n<=(Jm st0).size)(hok:ok<=n)(sg:A2 R (Jm st) lo ok)
  (h:∀ st',Bs κ st0 st' lo (lo+n)->A2 R (Jm st') lo n->Q true st'):wpS (Jf prog w) A E s (binarySort' lo n ok) Q st:=by
 rw[binarySort'_eq];refine Ji (gB (fun _:Unit=>((none,()):Option Bool×Unit)) (fun k _ st'=>Bs κ st0 st' lo (lo+n)/\A2 R (Jm st') lo (min k n)) (fun c st'=>c=(none,())/\Bs κ st0 st' lo (lo+n)/\A2 R (Jm st') lo n) (t:=()) ⟨b,fun i j h1 h2 h3=>?_⟩ ?_ (fun _ st' z=>⟨rfl,z.1,?_⟩) fun c st' z=>?_)
 ·by_cases g:ok=0
  ·have e:i=j:=by
    subst g;clear hz hok;omega
   rw[e];exact le_refl _
  ·refine sg i j h1 h2 (Jt h3 (JC ?_ lo));exact le_trans (Nat.min_le_left _ _) (Ki (Nat.max_eq_left (KW g)))
 ·rintro k _ st' k2 ⟨b',sg'⟩
  rw[L7 (le_of_lt k2)]at sg';have kz:lo+k < (Jm st0).size:=Jt (J4 k2 lo) hz;refine Ji (gB (fun p:Nat×Nat=>((none,p.1,p.2):Option Bool×Nat×Nat)) (fun x p st''=>st''=st'/\p.1<=p.2/\p.2<=k/\p.2+x<=p.1+k/\(∀ i,lo<=i->i < lo+p.1->R (bN (Jm st') i)<=R (bN (Jm st') (lo+k)))/\∀ i,lo+p.2<=i->i < lo+k->R (bN (Jm st') (lo+k)) < R (bN (Jm st') i))
   (fun c st''=>st''=st'/\∃ l,c=(none,l,l)/\l<=k/\(∀ i,lo<=i->i < lo+l->R (bN (Jm st') i)<=R (bN (Jm st') (lo+k)))/\∀ i,lo+l<=i->i < lo+k->R (bN (Jm st') (lo+k)) < R (bN (Jm st') i)) (t:=(0,k))
   ⟨rfl,JQ _,le_refl _,Ki (Nat.add_comm _ _),fun i z1 z2=>absurd z1 (Nat.not_le_of_lt z2),fun i z1 z2=>absurd z1 (Nat.not_le_of_lt z2)⟩ ?_ ?_ ?_)
  ·rintro x ⟨l,r⟩ st'' _ ⟨rfl,a1,a2,a3,a4,a5⟩
   refine br (fun g=>?_) fun g=>?_
   ·have e:l=r:=le_antisymm a1 g;subst e;exact Jq ⟨rfl,l,rfl,a2,a4,a5⟩
   ·obtain⟨m1,m2⟩:=HJ (Lx g);have m3:=Jt m2 a2;refine Ji (nM an hS b' kz (Nat.lt_trans (J4 m3 lo) kz) (br (fun hl=>?_) fun hl=>?_))
    ·exact Jq ⟨(_,_),rfl,rfl,m1,le_of_lt m3,C7 a3 m2,a4,fun i z1 z2=>Jt (of_decide_eq_true hl) (sg' _ _ (JX lo _) z1 z2)⟩
    ·exact Jq ⟨(_,_),rfl,rfl,m2,a2,C6 a3 m1,fun i z1 z2=>le_trans (sg' i _ z1 (Lr z2) (J4 m3 lo)) (Kf fun z=>hl (decide_eq_true z)),a5⟩
  ·rintro⟨l,r⟩ st'' ⟨rfl,a1,a2,a3,a4,a5⟩
   rw[Nat.zero_max]at a3;have e:=le_antisymm a1 (Nat.le_of_add_le_add_right a3);dsimp only at e a2 a4 a5 ⊢;subst e;exact⟨rfl,l,rfl,a2,a4,a5⟩
  ·rintro c st'' ⟨rfl,l,rfl,a2,a4,a5⟩
   have e:=wt (xs:=Jm st'') (src:=lo+k) (d:=lo+k - (lo+l)) (by rw[b'.z];exact kz) (Me _ _)
   rw[Nat.sub_sub_self (JC a2 lo)]at e;refine Ji (DH (Jq ⟨(),rfl,⟨b'.k,b'.f,b'.p,(bubble_perm _ _ _).trans b'.pm,fun i hi=>?_⟩,?_⟩))
   ·refine (e i).trans ?_;have o1:¬ i=lo+l/\¬ (lo+l < i/\i<=lo+k):=by
     clear e b' sg' a4 a5 an hS sg b h;omega
    rw[if_neg o1.1,if_neg o1.2];exact b'.out i hi
   ·rw[L7 k2];exact fun i j z1 z2 z3=>Co (f:=fun i=>R (bN (Jm st'') i)) (g:=fun i=>R (bN (bubble (Jm st'') (lo+k) (lo+k - (lo+l))) i)) a2 (fun i=>by rw[e,apply_ite R,apply_ite R]) sg' a4 a5 z1 z2 z3
 ·have z2:=z.2;rwa[Nat.min_eq_right (Ly _ _)]at z2
 ·obtain⟨rfl,b',s'⟩:=z;exact Jq (h st' b' s')
def HV(lo n0 Pm:Nat):StateT Jp Sem (Option Nat):=do
 let mut n:=n0
 rule ("list.sort.descending-run")
 n:=n+1
 let mut q:=0
 for _ in [n:Pm] do
  let some less <- NW (lo+n) (lo+n - 1)|return none
  if less then
   if q > 0 then L1 (lo+n - (q+1)) (lo+n)
   q:=0
  else
   let some more <- NW (lo+n - 1) (lo+n)|return none
   if more then break
   q:=q+1
  n:=n+1
 if q > 0 then L1 (lo+n - (q+1)) (lo+n)
 L1 lo (lo+n)
 for _ in [n:Pm] do
  let some less <- NW (lo+n) (lo+n - 1)|return none
  if less then break
  n:=n+1
 return some n
theorem E6(lo Pm:Nat):countRun' lo Pm=(do
 let mut n:=1
 for _ in [1:Pm] do
  let some less <- NW (lo+n) (lo+n - 1)|return none
  if less then break
  n:=n+1
 if n == Pm then return (some n)
 if n > 1 then
  let some up <- NW lo (lo+n - 1)|return none
  if up then return some n
  L1 lo (lo+n)
 HV lo n Pm):=rfl
theorem wC{st0 st:Jp}{lo hi i j:Nat}{Q:Unit->Jp->Prop}(b:Bs κ st0 st lo hi)(h1:lo<=i)(h2:j<=hi)(hz:hi<=(Jm st0).size)
  (h:∀ st',Bs κ st0 st' lo hi->(∀ k,bN (Jm st') k=if i<=k/\k < j then bN (Jm st) (i+j - 1 - k)else bN (Jm st) k)->Q () st'):wpS (Jf prog w) A E s (L1 i j) Q st:=by
 rw[reverseSlice'_eq];have e:=wq (xs:=Jm st) (i:=i) (j:=j) (by rw[b.z];omega)
 refine K8 (h _ ⟨b.k,b.f,b.p,(mirror_perm _ _ _ _).trans b.pm,fun k hk=>?_⟩ e);refine (e k).trans ?_;rw[if_neg (by walk_at "o")]
 exact b.out k hk
theorem Bt{f:Nat->Nat}{lo n:Nat}(h1:1<=n)(sg:∀ i j,lo<=i->i<=j->j < lo+n->f i<=f j)(h:f (lo+n - 1)<=f (lo+n)):∀ i j,lo<=i->i<=j->j < lo+(n+1)->f i<=f j:=fun i j z1 z2 z3=>by
 rcases KZ j (lo+n)with g|g
 ·exact sg i j z1 z2 g
 ·rw[le_antisymm (Lr z3) g]at z2 ⊢;rcases KZ i (lo+n)with g2|g2
  ·exact le_trans (sg i _ z1 (KR g2) (MP (Jt h1 (Nat.le_add_left n lo)) Mu)) h
  ·rw[le_antisymm z2 g2];exact le_refl _
theorem sK{f:Nat->Nat}{lo n:Nat}(h1:1<=n)(sg:∀ i j,lo<=i->i<=j->j < lo+n->f j<=f i)(h:f (lo+n)<=f (lo+n - 1)):∀ i j,lo<=i->i<=j->j < lo+(n+1)->f j<=f i:=fun i j z1 z2 z3=>by
 rcases KZ j (lo+n)with g|g
 ·exact sg i j z1 z2 g
 ·rw[le_antisymm (Lr z3) g]at z2 ⊢;rcases KZ i (lo+n)with g2|g2
  ·exact le_trans h (sg i _ z1 (KR g2) (MP (Jt h1 (Nat.le_add_left n lo)) Mu))
  ·rw[le_antisymm z2 g2];exact le_refl _
theorem C1{st0 st:Jp}{lo n Pm:Nat}{Q:Option (Option Nat)×Nat->Jp->Prop}(an:xn prog w A s κ R S)(hS:∀ x∈(Jm st0).toList,S x)(b:Bs κ st0 st lo (lo+Pm))(hz:lo+Pm<=(Jm st0).size)(h1:1<=n)(hn:n<=Pm)(sg:A2 R (Jm st) lo n)
  (h:∀ m,n<=m->m<=Pm->A2 R (Jm st) lo m->(m=Pm\/R (bN (Jm st) (lo+m)) < R (bN (Jm st) (lo+m - 1)))->Q (none,m) st):wpS (Jf prog w) A E s (forIn [n:Pm] ((none,n):Option (Option Nat)×Nat) fun _ c=>do
   let r <- NW (lo+c.2) (lo+c.2 - 1)
   match r with
   | some less=>if less=true then pure (ForInStep.done (none,c.2))else pure (ForInStep.yield (none,c.2+1))
   | _=>pure (ForInStep.done (some none,c.2))) Q st:=by
 refine gB (fun m:Nat=>((none,m):Option (Option Nat)×Nat)) (fun x m st'=>st'=st/\m=x/\n<=x/\x<=Pm/\A2 R (Jm st) lo x)
  (fun c st'=>st'=st/\∃ m,c=(none,m)/\n<=m/\m<=Pm/\A2 R (Jm st) lo m/\(m=Pm\/R (bN (Jm st) (lo+m)) < R (bN (Jm st) (lo+m - 1)))) (t:=n) ⟨rfl,rfl,le_refl _,hn,sg⟩ ?_ ?_ ?_
 ·rintro x _ st' x2 ⟨rfl,rfl,a1,a2,a3⟩
  have kz:=Jt (J4 x2 lo) hz;refine Ji (nM an hS b kz (lt_of_le_of_lt (Me _ _) kz) (br (fun hl=>Jq ⟨rfl,_,rfl,a1,a2,a3,.inr (of_decide_eq_true hl)⟩) fun hl=>?_));exact Jq ⟨_,rfl,rfl,rfl,LH a1,x2,Bt (f:=fun i=>R (bN (Jm st') i)) (le_trans h1 a1) a3 (Kf fun z=>hl (decide_eq_true z))⟩
 ·rintro _ st' ⟨rfl,rfl,a1,a2,a3⟩
  exact⟨rfl,_,rfl,a1,a2,a3,.inl (Nat.max_eq_right hn)⟩
 ·rintro c st' ⟨rfl,m,rfl,a1,a2,a3,a4⟩
  exact h m a1 a2 a3 a4
structure Dn2(R:Jd->Nat)(xs:Array Jd)(lo n q:Nat):Prop where
 d:A5 R xs lo n
 hq:q+1<=n
 e:∀ i,lo+n - (q+1)<=i->i < lo+n->R (bN xs i)=R (bN xs (lo+n - 1))
theorem Dn2.turn{xs ys:Array Jd}{lo n q:Nat}(D:Dn2 R xs lo n q)(e:∀ k,bN ys k=if lo+n - (q+1)<=k/\k < lo+n then bN xs (lo+n - (q+1)+(lo+n) - 1 - k)else bN xs k)(k:Nat):R (bN ys k)=R (bN xs k):=by
 rw[e];split
 ·rename_i g;have:=D.hq;rw[D.e _ (by walk_at "o") (by walk_at "o"),D.e k g.1 g.2]
 ·rfl
theorem A5.of{xs ys:Array Jd}{lo n:Nat}(D:A5 R xs lo n)(e:∀ k,R (bN ys k)=R (bN xs k)):A5 R ys lo n:=fun i j a b c=>by rw[e,e];exact D i j a b c
theorem Fv{lo n i:Nat}(h1:lo+n - (0+1)<=i)(h2:i < lo+n):i=lo+n - 1:=by walk_at "o"
theorem C8{lo x q:Nat}(h:q+1<=x):lo<=lo+x - (q+1):=by walk_at "o"
theorem CZ{lo n q i:Nat}(h:q+1<=n)(h1:lo+(n+1) - (q+1+1)<=i)(h2:i < lo+(n+1))(h3:¬ i=lo+n):lo+n - (q+1)<=i/\i < lo+n:=by walk_at "o"
theorem wn{xs:Array Jd}{lo n:Nat}(d:A5 R xs lo n)(h:1<=n):Dn2 R xs lo n 0:=⟨d,h,fun i z1 z2=>by rw[Fv z1 z2]⟩
theorem CB{xs:Array Jd}{lo n q:Nat}(D:Dn2 R xs lo n q)(d:A5 R xs lo (n+1))(e:R (bN xs (lo+n))=R (bN xs (lo+n - 1))):Dn2 R xs lo (n+1) (q+1):=by
 refine⟨d,KL D.hq,fun i z1 z2=>?_⟩;rw[Nat.add_succ_sub_one,e]
 by_cases g:i=lo+n
 ·rw[g,e]
 ·exact D.e i (CZ D.hq z1 z2 g).1 (CZ D.hq z1 z2 g).2
theorem Bw{f g:Nat->Nat}{lo m:Nat}(e:∀ k,g k=if lo<=k/\k < lo+m then f (lo+(lo+m) - 1 - k)else f k)(d:∀ i j,lo<=i->i<=j->j < lo+m->f j<=f i)(i j:Nat)(z1:lo<=i)(z2:i<=j)(z3:j < lo+m):g i<=g j:=by
 rw[e,e,if_pos ⟨z1,lt_of_le_of_lt z2 z3⟩,if_pos ⟨le_trans z1 z2,z3⟩];have q:lo<=lo+(lo+m) - 1 - j/\lo+(lo+m) - 1 - j<=lo+(lo+m) - 1 - i/\lo+(lo+m) - 1 - i < lo+m:=by clear e d;omega
 exact d _ _ q.1 q.2.1 q.2.2
theorem C0{st0 st:Jp}{lo n Pm:Nat}{Q:Option Nat->Jp->Prop}(an:xn prog w A s κ R S)(hS:∀ x∈(Jm st0).toList,S x)(b:Bs κ st0 st lo (lo+Pm))(hz:lo+Pm<=(Jm st0).size)(h1:1<=n)(hn:n+1<=Pm)(dg:A5 R (Jm st) lo (n+1))
  (h:∀ m st',Bs κ st0 st' lo (lo+Pm)->1<=m->m<=Pm->A2 R (Jm st') lo m->Q (some m) st'):wpS (Jf prog w) A E s (HV lo n Pm) Q st:=by
 unfold HV;have one:∀ {x},n+1<=x->1<=x:=fun z=>le_trans (KL (JQ n)) z;refine lT (Ji (gB (fun p:Nat×Nat=>((none,p.1,p.2):Option (Option Nat)×Nat×Nat)) (fun x p st'=>p.1=x/\Bs κ st0 st' lo (lo+Pm)/\n+1<=x/\x<=Pm/\Dn2 R (Jm st') lo x p.2)
  (fun c st'=>∃ m q,c=(none,m,q)/\Bs κ st0 st' lo (lo+Pm)/\n+1<=m/\m<=Pm/\Dn2 R (Jm st') lo m q) (t:=(n+1,0)) ⟨rfl,b,le_refl _,hn,wn dg (one (le_refl _))⟩ ?_ ?_ ?_))
 ·rintro x ⟨_,q⟩ st' x2 ⟨rfl,b',a1,a2,D⟩
  dsimp only at x2 a1 a2 D ⊢;have kz:=Jt (J4 x2 lo) hz;have kz':=lt_of_le_of_lt (Me _ 1) kz;have ext:∀ ys:Array Jd,(∀ k,R (bN ys k)=R (bN (Jm st') k))->_->A5 R ys lo _:=fun ys e hl=>A5.of (sK (f:=fun i=>R (bN (Jm st') i)) (one a1) D.d hl) e;refine Ji (nM an hS b' kz kz' (br (fun hl=>?_) fun hl=>?_))
  ·have hl':=le_of_lt (of_decide_eq_true hl);exact br (fun _=>Ji (wC b' (C8 D.hq) (JC a2 lo) hz fun st2 b2 e=>Jq ⟨(_,0),rfl,rfl,b2,LH a1,x2,wn (ext _ (D.turn e) hl') (KL (JQ _))⟩)) fun _=>
    Jq ⟨(_,0),rfl,rfl,b',LH a1,x2,wn (ext _ (fun _=>rfl) hl') (KL (JQ _))⟩
  ·refine Ji (nM an hS b' kz' kz (br (fun hm=>Jq ⟨_,q,rfl,b',a1,a2,D⟩) fun hm=>?_));have eq:=le_antisymm (Kf fun z=>hm (decide_eq_true z)) (Kf fun z=>hl (decide_eq_true z));exact Jq ⟨(_,q+1),rfl,rfl,b',LH a1,x2,CB D (ext _ (fun _=>rfl) (Ki eq)) eq⟩
 ·rintro⟨_,q⟩ st' ⟨rfl,b',a1,a2,D⟩
  exact⟨_,q,rfl,b',a1,a2,D⟩
 ·rintro c st' ⟨m,q,rfl,b',a1,a2,D⟩
  have fin:∀ st2,Bs κ st0 st2 lo (lo+Pm)->A5 R (Jm st2) lo m->wpS (Jf prog w) A E s (do
    L1 lo (lo+m)
    let mut n:=m
    for _ in [n:Pm] do
     let some less <- NW (lo+n) (lo+n - 1)|return none
     if less then break
     n:=n+1
    return some n) Q st2:=fun st2 b2 d2=>
   Ji (wC b2 (le_refl _) (JC a2 lo) hz fun st3 b3 e=>Ji (C1 an hS b3 hz (one a1) a2 (Bw (f:=fun i=>R (bN (Jm st2) i)) (g:=fun i=>R (bN (Jm st3) i)) (fun k=>by rw[e,apply_ite R]) d2) fun m' z1 z2 z3 _=>Jq (h m' st3 b3 (le_trans (one a1) z1) z2 z3)))
  exact br (fun _=>Ji (wC b' (C8 D.hq) (JC a2 lo) hz fun st2 b2 e=>fin st2 b2 (D.d.of (D.turn e)))) fun _=>fin st' b' D.d
theorem wO{lo i j:Nat}(h1:lo<=i)(h2:i<=j)(h3:j < lo+1):i=j:=by walk_at "o"
theorem Bi{st:Jp}{lo Pm:Nat}{Q:Option Nat->Jp->Prop}(an:xn prog w A s κ R S)(hS:∀ x∈(Jm st).toList,S x)(hk:kindOf st=κ)(h1:1<=Pm)(hz:lo+Pm<=(Jm st).size)
  (h:∀ m st',Bs κ st st' lo (lo+Pm)->1<=m->m<=Pm->A2 R (Jm st') lo m->Q (some m) st'):wpS (Jf prog w) A E s (countRun' lo Pm) Q st:=by
 rw[E6];have b0:Bs κ st st lo (lo+Pm):=⟨hk,rfl,rfl,Array.Perm.refl _,fun _ _=>rfl⟩;refine Ji (C1 an hS b0 hz (le_refl 1) h1 (fun i j z1 z2 z3=>by rw[wO z1 z2 z3];exact le_refl _) fun n n1 n2 sg hd=>br (fun _=>Jq (h n st b0 n1 n2 sg)) fun e1=>?_)
 have ne:n≠Pm:=fun z=>e1 (beq_iff_eq.mpr z);have hd':=le_of_lt (hd.resolve_left ne);have lt:n+1<=Pm:=KA n2 ne;have zn:lo+n - 1 < lo+n:=MP (Jt n1 (Nat.le_add_left n lo)) Mu;have zz:lo+n<=(Jm st).size:=le_trans (JC n2 lo) hz;have lz:lo < lo+n:=Nat.lt_add_of_pos_right n1;refine br (fun _=>?_) fun e2=>?_
 ·refine Ji (nM an hS b0 (Jt lz zz) (Jt zn zz) (br (fun _=>Jq (h n st b0 n1 n2 sg)) fun hl=>?_));have hl:=Kf fun z=>hl (decide_eq_true z);refine Ji (wC b0 (le_refl _) (JC n2 lo) hz fun st2 b2 e=>C0 an hS b2 hz n1 lt ?_ h);have same:∀ k,lo<=k->k < lo+n->R (bN (Jm st) k)=R (bN (Jm st) lo):=fun k k1 k2=>
   le_antisymm (le_trans (sg k _ k1 (KR k2) zn) hl) (sg lo k (le_refl _) k1 k2)
  have ev:∀ k,R (bN (Jm st2) k)=R (bN (Jm st) k):=fun k=>by
   rw[e];split
   ·rename_i g;have q:lo<=lo+(lo+n) - 1 - k/\lo+(lo+n) - 1 - k < lo+n:=by clear e same sg hd' hl h b0 b2;omega
    rw[same _ q.1 q.2,same k g.1 g.2]
   ·rfl
  exact A5.of (sK (f:=fun i=>R (bN (Jm st) i)) n1 (fun i j z1 z2 z3=>Ki ((same j (le_trans z1 z2) z3).trans (same i z1 (lt_of_le_of_lt z2 z3)).symm)) hd') ev
 ·have e:n=1:=le_antisymm (Kf e2) n1;subst e;exact C0 an hS b0 hz n1 lt (sK (f:=fun i=>R (bN (Jm st) i)) n1 (fun i j z1 z2 z3=>by rw[wO z1 z2 z3];exact le_refl _) hd') h
end
section
variable{R:Jd->Nat}{xs:Array Jd}{U V r T:List Jd}
theorem sW(xs:Array Jd)(i:Nat):bN xs i=(xs.toList[i]?).getD (Value.none,Value.none):=by
 unfold bN;rw[Array.getD_eq_getD_getElem?,Array.getElem?_toList]
theorem i8(h:xs.toList=U ++ (r ++ V)){i:Nat}(hi:i < r.length):bN xs (U.length+i)=r[i]:=by
 rw[sW,h,List.getElem?_append_right (by walk_at "o"),Nat.add_sub_cancel_left,List.getElem?_append_left hi,Jb hi]
 rfl
def Pd(R:Jd->Nat):Nat->List (Nat×Nat×Nat)->List (List Jd)->Prop
 | _,[],[]=>True
 | lo,x::p,r::rs=>x.1=lo/\x.2.1=r.length/\1<=r.length/\Up R r/\Pd R (lo+r.length) p rs
 | _,_,_=>False
theorem Pd.split{x y:Nat×Nat×Nat}{pr:List (Nat×Nat×Nat)}:∀ {pl:List (Nat×Nat×Nat)} {lo:Nat} {rs:List (List Jd)},Pd R lo (pl ++ x::y::pr) rs->∃ rl ra rb rr,rs=rl ++ ra::rb::rr/\x.1=lo+rl.flatten.length/\x.2.1=ra.length/\1<=ra.length/\Up R ra
  /\ y.1=lo+rl.flatten.length+ra.length/\y.2.1=rb.length/\1<=rb.length/\Up R rb/\∀ rc,rc.length=ra.length+rb.length->Up R rc->Pd R lo (pl ++ (x.1,x.2.1+y.2.1,x.2.2)::pr) (rl ++ rc::rr)
 | [],lo,[],h=>h.elim
 | [],lo,[_],h=>h.2.2.2.2.elim
 | [],lo,ra::rb::rr,⟨a1,a2,a3,a4,b1,b2,b3,b4,b5⟩=>⟨[],ra,rb,rr,rfl,a1,a2,a3,a4,b1,b2,b3,b4,fun rc e u=>⟨a1,by rw[e,<- a2,<- b2],by walk_at "o",u,by rw[e,<- M1];exact b5⟩⟩
 | z::pl,lo,[],h=>h.elim
 | z::pl,lo,r::rs,⟨a1,a2,a3,a4,h⟩=>by
  obtain⟨rl,ra,rb,rr,e,c1,c2,c3,c4,c5,c6,c7,c8,c9⟩:=Pd.split h;subst e;refine⟨r::rl,ra,rb,rr,rfl,?_,c2,c3,c4,?_,c6,c7,c8,fun rc e u=>⟨a1,a2,a3,a4,c9 rc e u⟩⟩
  ·rw[c1,KM,Jh];omega
  ·rw[c5,KM,Jh];omega
theorem Pd.push{st n w:Nat}:∀ {p:List (Nat×Nat×Nat)} {lo:Nat} {rs:List (List Jd)},Pd R lo p rs->st=lo+rs.flatten.length->n=r.length->1<=r.length->Up R r->Pd R lo (p ++ [(st,n,w)]) (rs ++ [r])
 | [],lo,[],_,e,h1,h2,h3=>⟨e,h1,h2,h3,trivial⟩
 | [],_,_::_,h,_,_,_,_=>h.elim
 | _::_,_,[],h,_,_,_,_=>h.elim
 | x::p,lo,q::rs,⟨a1,a2,a3,a4,h⟩,e,h1,h2,h3=>⟨a1,a2,a3,a4,h.push (by rw[e,KM,Jh];omega) h1 h2 h3⟩
theorem Pd.len:∀ {p:List (Nat×Nat×Nat)} {lo:Nat} {rs:List (List Jd)},Pd R lo p rs->p.length=rs.length/\rs.length<=rs.flatten.length
 | [],_,[],_=>⟨rfl,le_refl _⟩
 | [],_,_::_,h=>h.elim
 | _::_,_,[],h=>h.elim
 | x::p,lo,q::rs,⟨_,_,a3,_,h⟩=>by
  have:=h.len;rw[KM,Jh,Jv,Jv];omega
theorem Pd.of:∀ {p p':List (Nat×Nat×Nat)} {lo:Nat} {rs:List (List Jd)},Pd R lo p rs->p.map (fun x=>(x.1,x.2.1))=p'.map (fun x=>(x.1,x.2.1))->Pd R lo p' rs
 | [],[],_,_,h,_=>h
 | [],_::_,_,_,_,e=>by simp at e
 | _::_,[],_,_,_,e=>by simp at e
 | _::_,_::_,_,[],h,_=>h.elim
 | x::p,y::p',lo,q::rs,⟨a1,a2,a3,a4,h⟩,e=>by
  simp only[Jz,List.cons.injEq,Prod.mk.injEq]at e;exact⟨e.1.1 ▸ a1,e.1.2 ▸ a2,a3,a4,h.of e.2⟩
theorem Im{base:Nat}:∀ (l:List Jd) (n:Nat) (xs:Array Jd),base+n+l.length<=xs.size->((l.zipIdx n).foldl (fun a (x:Jd×Nat)=>a.setIfInBounds (base+x.2) x.1) xs).toList=xs.toList.take (base+n) ++ (l ++ xs.toList.drop (base+n+l.length))
 | [],n,xs,_=>by simp
 | x::l,n,xs,h=>by
  rw[Jv]at h;rw[List.zipIdx_cons,L0,Im l (n+1) _ (by rw[Array.size_setIfInBounds];omega)]
  have hl:base+n < xs.toList.length:=by rw[Array.length_toList];omega
  rw[Array.toList_setIfInBounds,List.drop_set_of_lt (by walk_at "o"),Jv,show base+(n+1)+l.length=base+n+(l.length+1)by walk_at "o",<- M1 base n 1,
   List.take_succ_eq_append_getElem (by rw[List.length_set];exact hl),List.getElem_set_self,List.take_set_of_le (le_refl _)]
  simp
theorem Up.app{a b:List Jd}(ha:Up R a)(hb:Up R b)(h:∀ x∈a,∀ y∈b,R x<=R y):Up R (a ++ b):=LJ.mpr ⟨ha,hb,h⟩
theorem Up.lt{a b:List Jd}(h:Up R (a ++ b)):Up R a:=(LJ.mp h).1
theorem Up.rt{a b:List Jd}(h:Up R (a ++ b)):Up R b:=(LJ.mp h).2.1
theorem Up.cr{a b:List Jd}(h:Up R (a ++ b)):∀ x∈a,∀ y∈b,R x<=R y:=(LJ.mp h).2.2
end
section
variable{prog:Jw}{w:JG}{A:Jy}{E:IV->IX->Prop}{s:IX}{κ:KC}{R:Jd->Nat}{S:Jd->Prop}
theorem Ai{xs:Array Jd}{U r V:List Jd}{i:Nat}(h:xs.toList=U ++ (r ++ V))(hi:i < r.length):U.length+i < xs.size:=by
 rw[<- Array.length_toList,h,Jh,Jh];exact J4 (Jt hi (JX _ _)) _
theorem Ao{xs:Array Jd}{U r V:List Jd}(h:xs.toList=U ++ (r ++ V)):U.length+r.length<=xs.size:=by
 rw[<- Array.length_toList,h,Jh,Jh];exact JC (JX _ _) _
theorem AO{l U r V:List Jd}(h:l=U ++ (r ++ V)):l.drop (U.length+r.length)=V:=by
 rw[h,<- JM];exact List.drop_left' (Jh ..)
theorem yZ{left:Bool}{key:Jd}{xs:Array Jd}{U r V:List Jd}{base n hint:Nat}{st:Jp}{Q:Option Nat->Jp->Prop}(an:xn prog w A s κ R S)(hk:kindOf st=κ)(hx:xs.toList=U ++ (r ++ V))(hb:base=U.length)(hn:n=r.length)
  (sr:∀ x∈r,S x) (sk:S key) (hh:hint < n) (up:Up R r) (h:∀ r1 r2,r=r1 ++ r2->(∀ x∈r1,yE R left key x=true)->(∀ x∈r2,yE R left key x=false)->Q (some r1.length) st):
  wpS (Jf prog w) A E s (dR left key xs base n hint) Q st:=by
 subst hb hn;refine tG an hk (fun i h1 h2=>?_) sk (Ao hx) hh (fun i j h1 h2 h3=>?_) fun k hk1 c1 c2=>?_
 ·obtain⟨d,rfl⟩:=Nat.exists_eq_add_of_le h1;rw[i8 hx (Nat.lt_of_add_lt_add_left h2)];exact sr _ (K6 _)
 ·obtain⟨d,rfl⟩:=Nat.exists_eq_add_of_le h1;obtain⟨d',rfl⟩:=Nat.exists_eq_add_of_le (le_trans h1 h2);have l':=Nat.lt_of_add_lt_add_left h3;have l:=Nat.le_of_add_le_add_left h2;rw[i8 hx (lt_of_le_of_lt l l'),i8 hx l'];rcases KZ d d' with g|g
  ·exact pairwise_iff_getElem.mp up _ _ _ _ g
  ·have:d=d':=le_antisymm l g;subst this;exact le_refl _
 ·have:=h (r.take k) (r.drop k) (Lw k r).symm (fun x hx'=>?_) fun x hx'=>?_
  ·rwa[JN,L7 hk1]at this
  ·obtain⟨i,hi,e⟩:=mem_iff_getElem.mp hx';rw[Lz]at e;rw[JN,L7 hk1]at hi;have c:=c1 (U.length+i) (JX _ _) (J4 hi _);rw[i8 hx (Jt hi hk1)]at c;rwa[<- e]
  ·obtain⟨i,hi,e⟩:=mem_iff_getElem.mp hx';rw[Ma]at e;rw[K5]at hi;have l:=Nat.add_lt_of_lt_sub' hi;have c:=c2 (U.length+(k+i)) (JC (JX _ _) _) (J4 l _);rw[i8 hx l]at c;rwa[<- e]
theorem ur(i:Nat):mergeAt' i=(do
 let s <- get
 let (some (a,m,q),some (b,n,_)):=((JV s)[i]?,(JV s)[i+1]?)|Ol ("internal:list.sort.pending")
 set (NH s (((JV s).setIfInBounds i (a,m+n,q)).eraseIdxIfInBounds (i+1)))
 let some k <- dR false (<- Kx (Jm s) b) (Jm s) a m 0|return false
 let (a,m):=(a+k,m - k)
 if m == 0 then return true
 let some n <- dR true (<- Kx (Jm s) (a+m - 1)) (Jm s) b n (n - 1)|return false
 if n == 0 then return true
 let x:=(Jm s).extract a b
 let y:=(Jm s).extract b (b+n)
 let out <- if m<=n then ow x y else oz x y
 modify fun s=>setArr s (out.toList.zipIdx.foldl (fun z (p,j)=>z.setIfInBounds (a+j) p) (Jm s))
 return (KJ (<- get)).isNone):=rfl
structure Ps(κ:KC)(R:Jd->Nat)(T:List Jd)(st:Jp)(rs:List (List Jd))(bU:List Jd):Prop where
 k:kindOf st=κ
 f:KJ st=none
 pd:Pd R 0 (JV st).toList rs
 ar:(Jm st).toList=rs.flatten ++ bU
 pm:(Jm st).toList.Perm T
theorem DE{α:Type}{p:Array α}{i:Nat}(h:i+1 < p.size):∃ pl x y pr,p=(pl ++ x::y::pr).toArray/\pl.length=i:=by
 refine⟨p.toList.take i,p.toList[i]'(by simp;omega),p.toList[i+1]'(by simpa using h),p.toList.drop (i+2),?_,by simp;omega⟩
 apply Array.toList_inj.mp;rw[<- KB,<- KB,Lw]
theorem yL{σ:Type}{M:OT}{v:σ}{Q:PUnit->σ->Prop}{st:σ}(h:Q ⟨⟩ v):wpS M A E s (set v:StateT σ Sem PUnit) Q st:=by
 unfold wpS;rw[StateT.run_set];exact IY ⟨rfl,h⟩
theorem wY{xs:Array Jd}{U r V:List Jd}{i j:Nat}(h:xs.toList=U ++ (r ++ V))(hi:i=U.length)(hj:j=i+r.length):(xs.extract i j).toList=r:=by
 subst hj hi;rw[Array.toList_extract,List.extract_eq_take_drop,h,List.drop_left,Nat.add_sub_cancel_left,List.take_left]
theorem qk{T:List Jd}{st:Jp}{rs:List (List Jd)}{bU:List Jd}{i:Nat}{Q:Bool->Jp->Prop}(an:xn prog w A s κ R S)(hS:∀ x∈T,S x)(P:Ps κ R T st rs bU)(hi:i+1 < (JV st).size)
  (h:∀ st' rs',Ps κ R T st' rs' bU->(JV st').size+1=(JV st).size->Q true st'):wpS (Jf prog w) A E s (mergeAt' i) Q st:=by
 obtain⟨hk,hf,pd,ar,pm⟩:=P;obtain⟨pl,⟨a,m,q⟩,⟨b,n,q'⟩,pr,ep,el⟩:=DE hi;rw[ep]at pd;obtain⟨rl,ra,rb,rr,rfl,c1,c2,c3,c4,c5,c6,c7,c8,c9⟩:=pd.split;dsimp only at c1 c2 c5 c6;rw[ur];refine Ji (Mp ?_);rw[ep];have g1:(pl ++ (a,m,q)::(b,n,q')::pr).toArray[i]?=some (a,m,q):=by subst el;simp
 have g2:(pl ++ (a,m,q)::(b,n,q')::pr).toArray[i+1]?=some (b,n,q'):=by subst el;simp
 rw[g1,g2];dsimp only;refine Ji (yL ?_);have e2:(((pl ++ (a,m,q)::(b,n,q')::pr).toArray.setIfInBounds i (a,m+n,q)).eraseIdxIfInBounds (i+1))=(pl ++ (a,m+n,q)::pr).toArray:=by
  subst el;simp[List.eraseIdx_append_of_length_le]
 rw[e2];have hS':∀ x∈(Jm st).toList,S x:=fun x hx=>hS x (pm.mem_iff.mp hx);have ea:(Jm st).toList=rl.flatten ++ (ra ++ (rb ++ (rr.flatten ++ bU))):=by rw[ar];simp
 have eb:(Jm st).toList=(rl.flatten ++ ra) ++ (rb ++ (rr.flatten ++ bU)):=by rw[ar];simp
 have sra:∀ x∈ra,S x:=fun x hx=>hS' x (by rw[ea];simp[hx])
 have srb:∀ x∈rb,S x:=fun x hx=>hS' x (by rw[ea];simp[hx])
 rw[LD]at c1 c5;have lb:(rl.flatten ++ ra).length=b:=by rw[Jh,c5]
 have hb:b < (Jm st).size:=lb ▸ Ai (i:=0) eb c7;have b0:bN (Jm st) b=rb[0]:=by
  have:=i8 eb (i:=0) c7;rwa[lb]at this
 have same:∀ st1:Jp,kindOf st1=κ->KJ st1=none->Jm st1=Jm st->JV st1=(pl ++ (a,m+n,q)::pr).toArray->(∀ x∈ra,∀ y∈rb,R x<=R y)->Q true st1:=fun st1 z1 z2 z3 z4 z5=>by
  refine h st1 (rl ++ (ra ++ rb)::rr) ⟨z1,z2,?_,?_,by rw[z3];exact pm⟩ ?_
  ·rw[z4];exact c9 _ (Jh ..) (c4.app c8 z5)
  ·rw[z3,ar];simp
  ·rw[z4,ep];simp only[Jj,Jh,Jv];rfl
 refine Ji (cz (bK hb) (Ji (yZ (S:=S) an hk ea c1 c2 sra (by rw[b0];exact srb _ (K6 _)) (c2 ▸ c3) c4 fun r1 r2 e f1 f2=>?_)))
 subst e;rw[b0]at f1 f2;have hb0:∀ y∈rb,R rb[0]<=R y:=fun y hy=>by
  obtain⟨j,hj,rfl⟩:=mem_iff_getElem.mp hy;rcases Nat.eq_zero_or_pos j with g|g
  ·subst g;exact le_refl _
  ·exact pairwise_iff_getElem.mp c8 0 j (by walk_at "o") hj g
 rw[Jh]at c2;have m2:m - r1.length=r2.length:=by rw[c2,Nat.add_sub_cancel_left]
 refine br (fun e1=>?_) fun e1=>?_
 ·have:r2=[]:=length_eq_zero_iff.mp (m2 ▸ eq_of_beq e1);subst this;refine Jq (same _ hk hf rfl rfl fun x hx y hy=>?_);rw[Kl]at hx;exact le_trans (jV.1.mp (f1 x hx)) (hb0 y hy)
 have e1':0 < r2.length:=KW fun z=>e1 (beq_iff_eq.mpr (m2.trans z));have p2:r2.length - 1 < r2.length:=MP e1' Mu;have ec:(Jm st).toList=(rl.flatten ++ r1) ++ (r2 ++ (rb ++ (rr.flatten ++ bU))):=by rw[ea,JM r1,JM rl.flatten]
 have ia:a+r1.length+(m - r1.length) - 1=(rl.flatten ++ r1).length+(r2.length - 1):=by rw[m2,Jh,c1,Nat.add_sub_assoc e1']
 have la:bN (Jm st) (a+r1.length+(m - r1.length) - 1)=r2[r2.length - 1]:=by rw[ia,i8 ec p2]
 have ha:a+r1.length+(m - r1.length) - 1 < (Jm st).size:=ia ▸ Ai ec p2;have lst:∀ x∈r1 ++ r2,R x<=R r2[r2.length - 1]:=fun x hx=>by
  rcases Mi.mp hx with g|g
  ·exact c4.cr x g _ (K6 _)
  ·obtain⟨j,hj,rfl⟩:=mem_iff_getElem.mp g;rcases KZ j (r2.length - 1)with g2|g2
   ·exact pairwise_iff_getElem.mp c4.rt j _ hj p2 g2
   ·have:j=r2.length - 1:=le_antisymm (KR hj) g2;subst this;exact le_refl _
 refine Ji (cz (bK ha) (Ji (yZ (S:=S) an hk eb lb.symm c6 srb (by rw[la];exact sra _ (JO _ (K6 _))) (MP (c6 ▸ c7) Mu) c8 fun r3 r4 e g1 g2=>?_)))
 subst e;rw[la]at g1 g2;refine br (fun e3=>?_) fun e3=>?_
 ·have:r3=[]:=length_eq_zero_iff.mp (eq_of_beq e3);subst this;exact Jq (same _ hk hf rfl rfl fun x hx y hy=>le_trans (lst x hx) (lL.2.mp (g2 y hy)))
 have e3':0 < r3.length:=KW fun z=>e3 (beq_iff_eq.mpr z);have a1:a+r1.length=(rl.flatten ++ r1).length:=by rw[Jh,c1]
 have b1:b=a+r1.length+r2.length:=by rw[<- lb,Jh,Jh,c1,M1]
 have ex:((Jm st).extract (a+r1.length) b).toList=r2:=wY ec a1 b1;have ed:(Jm st).toList=(rl.flatten ++ (r1 ++ r2)) ++ (r3 ++ (r4 ++ (rr.flatten ++ bU))):=by rw[eb,JM r3]
 have ey:((Jm st).extract b (b+r3.length)).toList=r3:=wY ed lb.symm rfl;have zx:((Jm st).extract (a+r1.length) b).size=r2.length:=by rw[<- Array.length_toList,ex]
 have zy:((Jm st).extract b (b+r3.length)).size=r3.length:=by rw[<- Array.length_toList,ey]
 have L:Lo prog w A s κ R S ((Jm st).extract (a+r1.length) b) ((Jm st).extract b (b+r3.length)):=by
  refine⟨an,?_,?_,?_,?_,?_,?_⟩
  ·rw[ex];exact fun x hx=>sra x (JO _ hx)
  ·rw[ey];exact fun x hx=>srb x (LK _ hx)
  ·rw[ex];exact c4.rt
  ·rw[ey];exact c8.lt
  ·rw[ex];intro x hx;rw[sW,ey,Jb e3'];have:=jV.2.mp (f2 x hx);rwa[List.getElem_append_left e3']at this
  ·rw[ey];intro y hy;rw[sW,ex,zx,Jb p2];exact lL.1.mp (g1 y hy)
 have fin:∀ out st',Dn κ R ((Jm st).extract (a+r1.length) b) ((Jm st).extract b (b+r3.length)) (NH st (pl ++ (a,m+n,q)::pr).toArray) out st'->wpS (Jf prog w) A E s (do
   modify fun s=>setArr s (out.toList.zipIdx.foldl (fun z (p,j)=>z.setIfInBounds (a+r1.length+j) p) (Jm s))
   return (KJ (<- get)).isNone) Q st':=by
  rintro out st' ⟨⟨z1,z2,z3,z4⟩,u,pq⟩
  have z2':Jm st'=Jm st:=z2;have z3':JV st'=(pl ++ (a,m+n,q)::pr).toArray:=z3;have z4':KJ st'=none:=z4.trans hf;rw[ex,ey]at pq;have lo':out.toList.length=r2.length+r3.length:=by rw[pq.length_eq,Jh]
  refine Ji (K8 (Ji (Mp (Jq ?_))));show Q (KJ st').isNone _
  rw[z4'];have wr:(out.toList.zipIdx.foldl (fun z (x:Jd×Nat)=>z.setIfInBounds (a+r1.length+x.2) x.1) (Jm st')).toList=(rl ++ (r1 ++ (out.toList ++ r4))::rr).flatten ++ bU:=by
   have ee:(Jm st).toList=(rl.flatten ++ r1) ++ ((r2 ++ r3) ++ (r4 ++ (rr.flatten ++ bU))):=by rw[ec];simp only[JM]
   have le:a+r1.length+out.toList.length=(rl.flatten ++ r1).length+(r2 ++ r3).length:=by rw[lo',Jh (as:=r2),a1]
   rw[Im _ 0 _ (by rw[z2',Nat.add_zero,le];exact Ao ee),z2',Nat.add_zero,le]
   have t1:(Jm st).toList.take (a+r1.length)=rl.flatten ++ r1:=by rw[ee];exact List.take_left' a1.symm
   have t2:=AO ee;rw[t1,t2];simp
  have low:∀ x∈r1,∀ y∈r3 ++ r4,R x<=R y:=fun x hx y hy=>le_trans (jV.1.mp (f1 x hx)) (hb0 y hy);refine h _ (rl ++ (r1 ++ (out.toList ++ r4))::rr) ⟨z1,z4',?_,wr,?_⟩ ?_
  ·show Pd R 0 (JV st').toList _;rw[z3'];refine c9 _ (by simp only[Jh,lo'];clear z1 z2 z3 z4 u;omega) (c4.lt.app (Up.app u c8.rt fun x hx y hy=>?_) fun x hx y hy=>?_)
   ·rcases Mi.mp (pq.mem_iff.mp hx)with g|g
    ·exact le_trans (lst x (JO _ g)) (lL.2.mp (g2 y hy))
    ·exact c8.cr x g y hy
   ·rcases Mi.mp hy with g|g
    ·rcases Mi.mp (pq.mem_iff.mp g)with g'|g'
     ·exact c4.cr x hx y g'
     ·exact low x hx y (LK _ g')
    ·exact low x hx y (JO _ g)
  ·refine List.Perm.trans ?_ pm;show (out.toList.zipIdx.foldl (fun z (x:Jd×Nat)=>z.setIfInBounds (a+r1.length+x.2) x.1) (Jm st')).toList.Perm _
   rw[wr,ar];refine List.Perm.append_right _ ?_;rw[List.flatten_append,List.flatten_append,KM,KM,KM];refine List.Perm.append_left rl.flatten ?_;rw[<- JM (r1 ++ r2)];refine List.Perm.append_right _ ?_;rw[JM,<- JM r2];exact List.Perm.append_left _ (List.Perm.append_right _ pq)
  ·show (JV st').size+1=_;rw[z3',ep];simp only[Jj,Jh,Jv];rfl
 have k1:1<=((Jm st).extract (a+r1.length) b).size:=zx.symm ▸ e1';have k2:1<=((Jm st).extract b (b+r3.length)).size:=zy.symm ▸ e3';refine br (fun _=>?_) fun _=>?_
 ·exact Ji (xr L hk k1 k2 fin)
 ·exact Ji (xt L hk k1 k2 fin)
theorem Bs.take{st0 st:Jp}{lo hi:Nat}(b:Bs κ st0 st lo hi):(Jm st).toList.take lo=(Jm st0).toList.take lo:=by
 apply List.ext_getElem
 ·rw[JN,JN,Array.length_toList,Array.length_toList,b.z]
 ·intro i h1 h2;rw[Lz,Lz];rw[JN,Array.length_toList]at h1 h2;rw[eU (by walk_at "o"),eU (by walk_at "o")]
  exact b.out i (.inl (by walk_at "o"))
theorem Ps.next{T:List Jd}{st st':Jp}{rs:List (List Jd)}{bU:List Jd}{lo n hi:Nat}(P:Ps κ R T st rs bU)(hl:rs.flatten.length=lo)(b:Bs κ st st' lo hi)(hn:lo+n<=(Jm st).size)(sg:A2 R (Jm st') lo n):
  ∃ r rest',Ps κ R T st' rs (r ++ rest')/\r.length=n/\Up R r:=by
 have e:=b.take;rw[P.ar,<- hl,List.take_append_of_le_length (le_refl _),JR]at e;have hz:=b.z;refine⟨((Jm st').toList.drop lo).take n,(Jm st').toList.drop (lo+n),⟨b.k,b.f.trans P.f,by rw[b.p];exact P.pd,?_,(Array.perm_iff_toList_perm.mp b.pm).trans P.pm⟩,?_,?_⟩
 ·rw[<- E5,<- e,<- hl,Lw]
 ·rw[JN,K5,Array.length_toList];omega
 ·refine pairwise_iff_getElem.mpr ?_;intro i j hi hj hij;rw[JN,K5,Array.length_toList]at hi hj;rw[Lz,Lz,Ma,Ma,eU (by walk_at "o"),eU (by walk_at "o")]
  exact sg _ _ (by walk_at "o") (by walk_at "o") (by walk_at "o")
theorem Pd.pw{p:Array (Nat×Nat×Nat)}{i q lo:Nat}{rs:List (List Jd)}(h:Pd R lo p.toList rs):Pd R lo (p.modify i fun x=>(x.1,x.2.1,q)).toList rs:=by
 refine h.of ?_;apply List.ext_getElem?;intro j;rw[JB,JB,Array.getElem?_toList,Array.getElem?_toList,Array.getElem?_modify];split
 ·cases p[j]?<;>rfl
 ·rfl
theorem Ps.pw{T:List Jd}{st:Jp}{rs:List (List Jd)}{bU:List Jd}(P:Ps κ R T st rs bU)(i q:Nat):Ps κ R T (NH st ((JV st).modify i fun x=>(x.1,x.2.1,q))) rs bU:=
 ⟨P.k,P.f,P.pd.pw,P.ar,P.pm⟩
theorem Ps.push{T:List Jd}{st:Jp}{rs:List (List Jd)}{r bU:List Jd}{lo:Nat}(P:Ps κ R T st rs (r ++ bU))(e:lo+r.length+bU.length=T.length)(h1:1<=r.length)(u:Up R r):
  Ps κ R T (NH st ((JV st).push (lo,r.length,0))) (rs ++ [r]) bU/\(rs ++ [r]).flatten.length=lo+r.length:=by
 have l:=P.pm.length_eq;rw[P.ar]at l;simp only[Jh]at l;refine⟨⟨P.k,P.f,?_,?_,P.pm⟩,?_⟩
 ·show Pd R 0 ((JV st).push (lo,r.length,0)).toList _;rw[Array.toList_push];exact P.pd.push (by walk_at "o") rfl h1 u
 ·show (Jm st).toList=_;rw[P.ar];simp
 ·simp only[List.flatten_append,KM,List.flatten_nil,Kl,Jh];omega
theorem nK{n:Nat}(h:1 < n):n - 2+1 < n:=by walk_at "o"
theorem yW{st:Jp}{Q:Unit->Jp->Prop}(an:xn prog w A s κ R S)(hS:∀ x∈(Jm st).toList,S x)(hk:kindOf st=κ)(hf:KJ st=none)(hp:JV st=#[])
  (h:∀ st',KJ st'=none->(Jm st').toList.Perm (Jm st).toList->Up R (Jm st').toList->Q () st'):wpS (Jf prog w) A E s sortRuns' Q st:=by
 rw[sortRuns'_eq];have hz:∀ {st' rs bU},Ps κ R (Jm st).toList st' rs bU->(Jm st').size=(Jm st).size:=fun P=>by rw[<- Array.length_toList,<- Array.length_toList];exact P.pm.length_eq
 have all:∀ {st' rs bU},Ps κ R (Jm st).toList st' rs bU->rs.flatten.length=(Jm st).size->bU=[]:=fun {st' rs bU} P e=>by
  have z:=hz P;rw[<- Array.length_toList,P.ar,Jh,e]at z;exact length_eq_zero_iff.mp (Nat.add_eq_left.mp z)
 have done:∀ {st' rs bU lo},Ps κ R (Jm st).toList st' rs bU->rs.flatten.length=lo->lo=(Jm st).size->∃ rs,((none:Option Unit),lo)=(none,(Jm st).size)/\Ps κ R (Jm st).toList st' rs []:=fun {st' rs bU lo} P e e2=>by
  subst e2;exact⟨rs,rfl,all P e ▸ P⟩
 refine Ji (Mp (Ji (gB (fun lo:Nat=>((none,lo):Option Unit×Nat)) (fun x lo st'=>∃ rs bU,Ps κ R (Jm st).toList st' rs bU/\rs.flatten.length=lo/\lo<=(Jm st).size/\(x<=lo\/lo=(Jm st).size))
  (fun c st'=>∃ rs,c=(none,(Jm st).size)/\Ps κ R (Jm st).toList st' rs []) (t:=0) ⟨[],(Jm st).toList,⟨hk,hf,by rw[hp];trivial,rfl,List.Perm.refl _⟩,rfl,JQ _,.inl (JQ _)⟩ ?_ ?_ ?_)))
 ·rintro x lo st' _ ⟨rs,bU,P,e,h1,h2⟩
  refine br (fun g=>Jq (done P e (le_antisymm h1 g))) fun g=>?_;have hS':∀ x∈(Jm st').toList,S x:=fun x hx=>hS x (P.pm.mem_iff.mp hx);have z:=hz P;have lt:=Lx g;have xlo:x<=lo:=h2.resolve_right (JP lt);have lez:lo+((Jm st).size - lo)<=(Jm st').size:=by rw[z,Nat.add_sub_cancel' h1];exact le_refl _
  refine Ji (Bi an hS' P.k (Nat.sub_pos_of_lt lt) lez fun m st2 b2 m1 m2 sg=>br (fun hm=>?_) fun hm=>?_)
  case' refine_1=>
   have n1:1<=min ((Jm st).size - lo) (minRun' (Jm st).size (Jm st).size 0):=le_trans m1 (Nat.le_min.mpr ⟨m2,le_of_lt hm⟩);have n2:=Nat.min_le_left ((Jm st).size - lo) (minRun' (Jm st).size (Jm st).size 0);have SX:=le_trans (JC n2 lo) lez;refine lT (Ji (Fx an (fun y hy=>hS' y ((Array.perm_iff_toList_perm.mp b2.pm).mem_iff.mp hy)) ⟨b2.k,rfl,rfl,Array.Perm.refl _,fun _ _=>rfl⟩ (by rw[b2.z];exact SX) (Nat.le_min.mpr ⟨m2,le_of_lt hm⟩) sg fun st3 b3 s3=>br (fun z=>by cases z) fun _=>?_))
   have b4:Bs κ st' st3 lo (lo+((Jm st).size - lo)):=⟨b3.k,b3.f.trans b2.f,b3.p.trans b2.p,b3.pm.trans b2.pm,fun i hi=>(b3.out i (hi.imp id fun q=>le_trans (JC n2 lo) q)).trans (b2.out i hi)⟩;obtain⟨r,rest',P3,e3,u3⟩:=P.next e b4 SX s3;clear b2 b3 b4 sg s3
  case' refine_2=>
   have n1:=m1;have n2:=m2;obtain⟨r,rest',P3,e3,u3⟩:=P.next e b2 (le_trans (JC n2 lo) lez) sg;clear b2 sg
  all_goals
   rw[<- e3]at n1 n2 ⊢;have tl:lo+r.length+rest'.length=(Jm st).toList.length:=by
    have l:=P3.pm.length_eq;rw[P3.ar,Jh,Jh,e,<- M1]at l;exact l
   have q1:lo+r.length<=(Jm st).size:=Nat.add_le_of_le_sub' h1 n2;have q2:x+1<=lo+r.length\/lo+r.length=(Jm st).size:=.inl (Nat.add_le_add xlo n1);clear h1 h2 g lt xlo lez m1 m2 hm e3 n2 z;refine Ji (Mp ?_);split
   ·rename_i s1 n1' q hb;refine Ji (gB (fun _:Unit=>((none,()):Option Unit×Unit)) (fun _ _ st'=>∃ rs',Ps κ R (Jm st).toList st' rs' (r ++ rest')) (fun c st'=>c=(none,())/\∃ rs',Ps κ R (Jm st).toList st' rs' (r ++ rest')) (t:=()) ⟨rs,P3⟩ (fun x _ st4 _ ⟨rs',P'⟩=>Ji (Mp ?_)) (fun _ st4 z=>⟨rfl,z⟩) fun c st4 ⟨e,rs4,P4⟩=>?_)
    ·dsimp only
     by_cases g:(JV st4).size > 1
     ·rw[if_pos g,getElem?_pos (JV st4) ((JV st4).size - 2) (MP (Nat.lt_trans Mu g) Nat.two_pos)];exact br (fun _=>Jq ⟨rfl,rs',P'⟩) fun _=>Ji (qk an hS P' (nK g) fun st5 rs5 P5 _=>Jq ⟨(),rfl,rs5,P5⟩)
     ·rw[if_neg g];exact Jq ⟨rfl,rs',P'⟩
    ·subst e;obtain⟨P6,l6⟩:=(P4.pw ((JV st4).size - 1) (power' (Jm st).size (2*s1+n1') (2*s1+n1'+n1'+r.length) (Jm st).size)).push tl n1 u3;exact Ji (K8 (Ji (K8 (Jq ⟨_,rfl,_,_,P6,l6,q1,q2⟩))))
   ·obtain⟨P6,l6⟩:=P3.push tl n1 u3;exact Ji (K8 (Jq ⟨_,rfl,_,_,P6,l6,q1,q2⟩))
 ·rintro lo st' ⟨rs,bU,P,e,h1,h2⟩
  exact done P e (h2.elim (fun z=>le_antisymm h1 (le_trans (Ly _ _) z)) id)
 ·rintro c st' ⟨rs,rfl,P⟩
  refine Ji (gB (fun _:Unit=>((none,()):Option Unit×Unit)) (fun x _ st'=>∃ rs,Ps κ R (Jm st).toList st' rs []/\(JV st').size+x<=(Jm st).size+1) (fun c st'=>c=(none,())/\∃ rs,Ps κ R (Jm st).toList st' rs []/\(JV st').size<=1) (t:=()) ⟨rs,P,?_⟩ ?_ (fun _ st2 ⟨rs2,P2,z⟩=>⟨rfl,rs2,P2,?_⟩) fun c st2 ⟨e,rs2,P2,z⟩=>?_)
  ·have z:=hz P;have l:=P.pd.len;rw[<- Array.length_toList,P.ar,Kl]at z;rw[<- Array.length_toList,l.1,<- z];exact LH l.2
  ·rintro x _ st2 _ ⟨rs2,P2,z⟩
   refine Ji (Mp (br (fun g=>Jq ⟨rfl,rs2,P2,g⟩) fun g=>?_));refine Ji (qk an hS P2 (by repeat' (first|exact nK (Lx g)|exact lt_of_le_of_lt (KL (Me _ _)) (nK (Lx g))|split)) fun st3 rs3 P3 z3=>Jq ⟨(),rfl,rs3,P3,?_⟩)
   rw[<- z3]at z;exact le_trans (Ki (by rw[M1,Nat.add_comm 1])) z
  ·exact Nat.le_of_add_le_add_right (le_trans (JC (Ly 0 (Jm st).size) _) (le_trans z (Ki (Nat.add_comm _ _))))
  ·subst e;refine Jq (h st2 P2.f P2.pm ?_);have l:=P2.pd.len.1;rw[Array.length_toList]at l;rw[P2.ar,Kl]
   match rs2,P2.pd,l with
   | [],_,_=>exact List.Pairwise.nil
   | [r],pd,_=>
    cases hh:(JV st2).toList with
    | nil=>rw[hh]at pd;exact pd.elim
    | cons y p=>
     rw[hh]at pd;rw[KM,List.flatten_nil,Kl];exact pd.2.2.2.1
   | _::_::t,_,l=>
    rw[l]at z;exact absurd z (Nat.not_le_of_lt (Nat.succ_lt_succ (Nat.succ_pos t.length)))
end
section
variable{X:Cx}{pins:List (IW×Obj)}{τ:St}{H H0:Hp}{s:IX}{G:Gp}{S D0:IW}{A:Jy}{E:IV->IX->Prop}{P:PySem.Fin->IX->Prop}
theorem tF(I:L2.Inv X pins τ H s)(rg:RG X.K H G)(kp:Kp G H0 G H)(nS:H0 S=none)(nD:H0 D0=none)(gS:G S=none)(gD:G D0=none)(hne:S≠D0){e1 n:Nat}{ku out:List IV}{ov:List V}{st:Jp}
  (eD:H D0=some (XO D0 (Kh "list" #[] e1))) (eS:H S=some (XO S (Kh "list" ku.toArray n))) (hz:ku.length < 64) (ho:(Jm st).map (·.2)=out.toArray) (hf:KJ st=none) (hv:Vals ov out) (hl:out.length < 64)
  (q:∀ H' s',L2.Inv X pins τ H' s'->Kp G H0 G H'->RG X.K H' G->H' D0=some (.lst ov)->Stb X.K H H'->P (.done (.ret .none)) s'):Jc (Jf X.prog X.w) A (ksk_tail D0 false e1 (.ref S) st) P E s:=by
 unfold ksk_tail;dsimp only;rw[ho];simp only[Bool.false_eq_true,if_false];have oS:=i5 I eS;have e2:=LN oS (fun _=>(#[]:Array IV));have mu:yA (H S):=by rw[eS];exact trivial
 have I1:=lF (t':=s.toks) I eS e2;have eD1:(bG H S (XO S (Kh "list" #[] (if ((#[]:Array IV).size == ku.toArray.size)=true then n else n+1)))) D0=some (XO D0 (Kh "list" #[] e1)):=by rw[ax hne.symm];exact eD
 have oD:=i5 I1 eD1;have mu2:yA ((bG H S (XO S (Kh "list" #[] (if ((#[]:Array IV).size == ku.toArray.size)=true then n else n+1)))) D0):=by rw[eD1];exact trivial
 have e3:=LN oD (fun _=>out.toArray);refine IU (L4 oS rfl ?_ (by rw[Jj,JW];omega) (JQ _))
 refine IU (MN ?_);refine IU (Nx oD rfl ?_);refine IU (L4 oD rfl ?_ (JQ _) (by rw[Jj,JW];omega))
 rw[hf];simp only[bne_self_eq_false,Bool.false_eq_true,if_false];have I2:=I1.write (x:=D0) (e:=D0) (o:=.lst ov) (t':=s.toks) mu2 (.inl rfl) (fun b u hb hu=>(Li _ (Kr fun _=>out.toArray) (Ne.symm hb)).trans hu) ⟨_,e3⟩ ⟨by rw[hv.length,JW];omega,out,_,hv,e3⟩
 refine IY (q _ _ I2 (oM (oM kp nS) nD) (qw (qw rg gS mu) gD mu2) aU ?_);exact⟨fun b xs z=>(ip mu2).t _ _ ((ip mu).t _ _ z),fun b xs z=>(ip mu2).l _ _ ((ip mu).l _ _ z)⟩
theorem yg{vs:List V}{us:List IV}(w:Vals vs us)(i:Nat)(hi:i < vs.length):aF (vs.getD i .non) (us.getD i .none):=by
 have hl:=w.length;obtain⟨v,e,r⟩:=Vals.getV (i:=i) (u:=us[i]'(by walk_at "o")) w (by simp)
 rw[Jn,Jn,e,Jb (by walk_at "o")]
 exact r
theorem oE{vs:List V}{us:List IV}(w:Vals vs us):∀ {p:List Nat},(∀ i∈p,i < vs.length)->Vals (p.map fun i=>vs.getD i .non) (p.map fun i=>us.getD i .none)
 | [],_=>.nil
 | i::r,h=>.cons (yg w i (h i Jk)) (oE w fun j hj=>h j (Jl _ hj))
theorem AF{K:JD}{ds:List D}{vs:List V}(r:RDs K H ds vs)(i:Nat)(hi:i < vs.length):RD K H (ds.getD i .non) (vs.getD i .non):=by
 obtain⟨d,e,q⟩:=RDs.getV (i:=i) r (Jb hi);rw[Jn,Jn,e,Jb hi];exact q
theorem r9{K:JD}{ds:List D}{vs:List V}(r:RDs K H ds vs):∀ {p:List Nat},(∀ i∈p,i < vs.length)->RDs K H (p.map fun i=>ds.getD i .non) (p.map fun i=>vs.getD i .non)
 | [],_=>RDs.nil
 | i::t,h=>RDs.cons (AF r i (h i Jk)) (r9 r fun j hj=>h j (Jl _ hj))
theorem range_getD{α:Type}(l:List α)(d:α):(List.range l.length).map (fun i=>l.getD i d)=l:=by
 refine List.ext_getElem (by simp) fun i h1 h2=>?_
 simp[h2]
theorem kU{α β:Type}{f:α->β}{l m:List β}(p:l.Perm m):∀ {xs:List α},m=xs.map f->∃ ys:List α,l=ys.map f/\ys.Perm xs:=by
 induction p with
 | nil=>intro xs e;exact⟨[],rfl,by rw[List.map_eq_nil_iff.mp e.symm]⟩
 | cons x _ ih=>
  intro xs e;cases xs with
  | nil=>cases e
  | cons y t=>
   simp only[Jz,List.cons.injEq]at e;obtain⟨ys,e1,e2⟩:=ih e.2;exact⟨y::ys,by rw[Jz,<- e1,e.1],e2.cons y⟩
 | swap x y l=>
  intro xs e
  match xs,e with
  | u::v::t,e=>
   simp only[Jz,List.cons.injEq]at e;exact⟨v::u::t,by rw[Jz,Jz,e.1,e.2.1,e.2.2],List.Perm.swap u v t⟩
 | trans _ _ ih1 ih2=>
  intro xs e;obtain⟨ys,e1,e2⟩:=ih2 e;obtain⟨zs,e3,e4⟩:=ih1 e1;exact⟨zs,e3,e4.trans e2⟩
theorem AV{n:Nat}{P:D->D->Prop}:∀ {ds:List D},Dp n P ds ds->∀ d∈ds,pl n d
 | [],_,d,h=>by simp at h
 | a::t,⟨p,_,z⟩,d,h=>by
  rcases Kg.mp h with rfl|h
  ·exact p.1
  ·exact AV z d h
theorem wW{d:D}{v:V}(h:si d)(r:RD X.K H d v):∃ a,v=.ref a:=by
 obtain⟨_,_,rfl⟩:=h;simp only[RD]at r;obtain⟨a,_,e,_⟩:=r;exact⟨a,e⟩
theorem Cf(I:L2.Inv X pins τ H s){a b:D}{v:V}(ha:si a)(hb:si b)(ca:tq 4 a a)(cb:tq 4 b b)(r:RD X.K H a v)(r':RD X.K H b v):a=b:=by
 obtain⟨_,_,rfl⟩:=ha;obtain⟨_,_,rfl⟩:=hb;exact n8 I 4 (AV (n:=3) ca) (AV (n:=3) cb) r r'
theorem Cy(I:L2.Inv X pins τ H s)(rg:RG X.K H G)(kp:Kp G H0 G H)(nS:H0 S=none)(nD:H0 D0=none)(gS:G S=none)(gD:G D0=none)(hne:S≠D0){e1 n:Nat}{ks:List D}{kv vs:List V}{ku us:List IV}
  (eD:H D0=some (XO D0 (Kh "list" #[] e1))) (eS:H S=some (XO S (Kh "list" ku.toArray n))) (rk:RDs X.K H ks kv) (wk:Vals kv ku) (wv:Vals vs us) (hl:ku.length=us.length) (hz:us.length < 64) (hu:A.units+4 < JY)
  (hk:∀ d∈ks,si d) (hc:∀ a∈ks,∀ b∈ks,tq 4 a b) (r:Nat->Nat) (hr:∀ i j a b,ks[i]?=some a->ks[j]?=some b->ij 4 a b=decide (r i < r j))
  (q:∀ (p:List Nat) H' s',p.Perm (List.range us.length)->(p.map r).Pairwise (·<=·)->L2.Inv X pins τ H' s'->Kp G H0 G H'->RG X.K H' G->H' D0=some (.lst (p.map fun i=>vs.getD i .non))->Stb X.K H H'->P (.done (.ret .none)) s'):
  Jc (Jf X.prog X.w) A (ksk_end D0 false us.toArray e1 (.ref S) ku.toArray) P E s:=by
 have lk:=wk.length;have lk':=rk.length;have lv:=wv.length;unfold ksk_end;dsimp only;simp only[Bool.false_eq_true,if_false]
 by_cases h2:us.length < 2
 ·have hs:us.toArray.size < 2:=by rw[Jj];exact h2
  rw[if_pos hs,if_pos hs];refine IU (IY ?_);refine IU (IY ?_);refine tF I rg kp nS nD gS gD hne eD eS (by walk_at "o") (out:=us) (ov:=vs) (st:=Nd general' (ku.toArray.zip us.toArray) #[] 7 none) ?_ rfl wv hz fun H' s' I' kp' rg' e' st'=>?_
  ·apply Array.toList_inj.mp;show ((ku.toArray.zip us.toArray).map (·.2)).toList=_
   rw[Array.toList_map,ksk_zip];simp[List.map_snd_zip,hl]
  ·refine q (List.range us.length) H' s' (List.Perm.refl _) ?_ I' kp' rg' (by rw[<- lv,range_getD];exact e') st'
   have:us.length=0\/us.length=1:=by walk_at "o"
   rcases this with e|e<;>rw[e]<;>simp[List.range_succ]
 ·have hs:¬ us.toArray.size < 2:=by rw[Jj];exact h2
  rw[if_neg hs,if_neg hs];refine IU (EC I hk rk wk (by walk_at "o") ?_)
  have ez:(ku.toArray.zip us.toArray).toList=(List.range us.length).map fun i=>(ku.getD i Value.none,us.getD i Value.none):=by
   rw[ksk_zip]
   conv=>lhs;rw[<- range_getD us Value.none,<- range_getD ku Value.none,hl]
   rw[List.zip_map']
  have ix:∀ x,x∈(ku.toArray.zip us.toArray).toList->∃ i,i < us.length/\(ku.getD i Value.none,us.getD i Value.none)=x:=fun x hx=>by
   rw[ez]at hx;obtain⟨i,hi,e⟩:=mem_map.mp hx;exact⟨i,mem_range.mp hi,e⟩
  have at_:∀ i,i < us.length->∃ d v,ks[i]?=some d/\RD X.K H d v/\aF v (ku.getD i Value.none):=fun i hi=>by
   obtain⟨v1,f1,g1⟩:=Vals.getV (i:=i) (u:=ku[i]'(by walk_at "o")) wk (by simp)
   obtain⟨d1,b1,c1⟩:=RDs.getV rk f1;exact⟨d1,v1,b1,c1,by rw[Jn,Jb (by walk_at "o")];exact g1⟩
  let ixOf:Jd->Nat:=fun x=>Classical.epsilon fun i=>i < us.length/\(ku.getD i Value.none,us.getD i Value.none)=x
  have ixs:∀ x,x∈(ku.toArray.zip us.toArray).toList->ixOf x < us.length/\(ku.getD (ixOf x) Value.none,us.getD (ixOf x) Value.none)=x:=fun x hx=>Classical.epsilon_spec (p:=fun i=>i < us.length/\(ku.getD i Value.none,us.getD i Value.none)=x) (ix x hx);have an:xn X.prog X.w A s (MB true) (fun x=>r (ixOf x)) (fun x=>x∈(ku.toArray.zip us.toArray).toList):=by
   intro x y hx hy;obtain⟨b1,e1'⟩:=ixs x hx;obtain⟨b2,e2'⟩:=ixs y hy;have kx:=congrArg Prod.fst e1';have ky:=congrArg Prod.fst e2';dsimp only at kx ky;rw[<- kx,<- ky];obtain⟨d1,v1,c1,k1,g1⟩:=at_ _ b1;obtain⟨d2,v2,c2,k2,g2⟩:=at_ _ b2;exact GV I hu (hc _ (Js c1) _ (Js c2)) (hk _ (Js c1)) (hk _ (Js c2)) k1 k2 g1 g2 ⟨rfl,hr _ _ d1 d2 c1 c2⟩
  refine IU (Ka (yW (E:=E) (st:=Nd (MB true) (ku.toArray.zip us.toArray) #[] 7 none) (Q:=fun _ st'=>KJ st'=none/\(Jm st').toList.Perm (ku.toArray.zip us.toArray).toList/\Up (fun x=>r (ixOf x)) (Jm st').toList) an (fun x hx=>hx) rfl rfl rfl fun st' a1 a2 a3=>⟨a1,a2,a3⟩) ?_ fun _ _ x=>x)
  rintro⟨⟨⟩,st'⟩ s' ⟨rfl,hf,hp,up⟩
  dsimp only at hf hp up ⊢;obtain⟨p,ep,hp'⟩:=kU hp ez;have lp:p.length=us.length:=by rw[hp'.length_eq,List.length_range]
  have inr:∀ i∈p,i < us.length:=fun i hi=>mem_range.mp (hp'.mem_iff.mp hi);refine tF I rg kp nS nD gS gD hne eD eS (by walk_at "o") (out:=p.map fun i=>us.getD i Value.none) (ov:=p.map fun i=>vs.getD i .non) ?_ hf (oE wv fun i hi=>by rw[lv];exact inr i hi) (by rw[IZ,lp];exact hz) fun H' s' I' kp' rg' e' st'=>?_
  ·apply Array.toList_inj.mp;rw[Array.toList_map,ep,JK];rfl
  refine q p H' s' hp' ?_ I' kp' rg' e' st';unfold Up at up;rw[ep,Lg]at up;rw[Lg];have same:∀ i∈p,r (ixOf (ku.getD i Value.none,us.getD i Value.none))=r i:=fun i hi=>by
   have hi':=inr i hi;obtain⟨b1,e1'⟩:=ixs (ku.getD i Value.none,us.getD i Value.none) (by rw[ez];exact mem_map.mpr ⟨i,mem_range.mpr hi',rfl⟩)
   have e3:=congrArg Prod.fst e1';dsimp only at e3;clear e1';generalize ixOf (ku.getD i Value.none,us.getD i Value.none)=k at b1 e3 ⊢;obtain⟨d1,v1,c1,k1,g1⟩:=at_ _ b1;obtain⟨d2,v2,c2,k2,g2⟩:=at_ _ hi';have m1:=Js c1;have m2:=Js c2;obtain⟨a1,rfl⟩:=wW (hk _ m1) k1;obtain⟨a2,rfl⟩:=wW (hk _ m2) k2;rw[e3]at g1;have z:Value.ref a1=Value.ref a2:=(show _=Value.ref a1 from g1).symm.trans (show _=Value.ref a2 from g2)
   injection z with z
   subst z;have ed:=Cf I (hk _ m1) (hk _ m2) (hc _ m1 _ m1) (hc _ m2 _ m2) k1 k2;subst ed;have t1:=hr k i _ _ c1 c2;have t2:=hr k k _ _ c1 c1;have t3:=hr i k _ _ c2 c1;rw[t2,decide_eq_false (Nat.lt_irrefl _)]at t1 t3;have u1:=of_decide_eq_false t1.symm;have u3:=of_decide_eq_false t3.symm;omega
  refine List.Pairwise.imp_of_mem (fun {i j} hi hj' hij=>?_) up;have Rn:r (ixOf (ku.getD i Value.none,us.getD i Value.none))<=r (ixOf (ku.getD j Value.none,us.getD j Value.none)):=hij;rw[same i hi,same j hj']at Rn;exact Rn
end
structure SortBy(sp:fB)(G:Gp)(ds:List D)(ks:List D)(r:Nat->Nat):Prop where
 few:ds.length < 64
 len:ks.length=ds.length
 key:∀ (i:Nat) d kd,ds[i]?=some d->ks[i]?=some kd->sp [d] G fun z G'=>z=kd/\G'=G
 ki:∀ d∈ks,si d
 cp:∀ a∈ks,∀ b∈ks,tq 4 a b
 lt:∀ i j a b,ks[i]?=some a->ks[j]?=some b->ij 4 a b=decide (r i < r j)
section
variable{X:Cx}{pins:List (IW×Obj)}{τ:St}{H H0:Hp}{s:IX}{G:Gp}{S D0:IW}{A:Jy}{E:IV->IX->Prop}{P:PySem.Fin->IX->Prop}
 {k:Nat} {f:IW} {fd:JE} {ps:List Str} {sp:fB} {ds ks:List D} {r:Nat->Nat} {vs:List V} {us:List IV}
theorem zq(F:FnOk X.prog X.w X.K X.mg X.base gF k f fd ps (aJ X.K sp))(hb:gr X.K fd ps [])(hr:Room k A)(hA:∀ {s H},L2.Inv X pins τ H s->Env0 X.prog X.w X.K X.mg X.base A X.stack s H)(sb:SortBy sp G ds ks r)(hu:A.units+4 < JY)
  (I:L2.Inv X pins τ H s) (rg:RG X.K H G) (kp:Kp G H0 G H) (nS:H0 S=none) (nD:H0 D0=none) (gS:G S=none) (gD:G D0=none) (hne:S≠D0) {e1:Nat}
  (eD:H D0=some (XO D0 (Kh "list" #[] e1))) (eS:H S=some (XO S (Kh "list" #[] 0))) (rd:RDs X.K H ds vs) (wv:Vals vs us)
  (q:∀ (p:List Nat) H' s',p.Perm (List.range ds.length)->(p.map r).Pairwise (·<=·)->L2.Inv X pins τ H' s'->Kp G H0 G H'->RG X.K H' G->H' D0=some (.lst (p.map fun i=>vs.getD i .non))->Stb X.K H H'->P (.done (.ret .none)) s'):
  Jc (Jf X.prog X.w) A (ksk_rest D0 (.ref f) false us.toArray e1 (.ref S)) P E s:=by
 have l1:=rd.length;have l2:=wv.length;have few:=sb.few;unfold ksk_rest;refine IU (LP ?_)
 first
  | rw[List.forIn_toArray]
  | (rw[<- Array.forIn_toList];simp only[List.toList_toArray])
  | rw[<- Array.forIn_toList]
 refine IU (uB F hb hr hA nS nD gS gD hne (fun x s' Q' h=>?_) sb.len (fun i d kd a b=>⟨sb.key i d kd a b,fun l e=>?_⟩) I kp rg rd wv eD (ku:=[]) (n:=0) (done:=[]) (kv:=[]) eS RDs.nil .nil (by simp only[JU];omega)
  fun H' s' kv' ku' n' I' kp' rg' eD' eS' rk wk st=>?_)
 ·refine IU (Lq (Ka h (fun u s'' hu'=>?_) fun _ _ hF=>hF.elim));dsimp only;exact IU (Ka hu' (fun _ s3 hq=>IY hq) fun _ _ x=>x)
 ·obtain⟨t,rr,e2⟩:=sb.ki kd (Js b);rw[e2]at e;cases e
 ·have l3:=rk.length;have l4:=wk.length;have sl:=sb.len;simp only[KY]at rk l3;refine IU (N_ (i5 I' eS') rfl ?_);refine Cy I' rg' kp' nS nD gS gD hne eD' eS' rk wk wv (by walk_at "o") (by walk_at "o") hu sb.ki sb.cp r sb.lt fun p H'' s'' hp hs I'' Vp Uc e'' st''=>?_
  refine q p H'' s'' (by rw[show ds.length=us.length by walk_at "o"];exact hp) hs I'' Vp Uc e'' ⟨fun b xs z=>st''.t _ _ (st.t _ _ z),fun b xs z=>st''.l _ _ (st.l _ _ z)⟩
theorem yS(F:FnOk X.prog X.w X.K X.mg X.base gF k f fd ps (aJ X.K sp))(hb:gr X.K fd ps [])(hr:Room k A)(hA:∀ {s H},L2.Inv X pins τ H s->Env0 X.prog X.w X.K X.mg X.base A X.stack s H)(sb:SortBy sp G ds ks r)(hu:A.units+4 < JY)
  (I:L2.Inv X pins τ H s) (rg:RG X.K H G) (kp:Kp G H0 G H) (h0:∀ a,H a=none->H0 a=none) (nD:H0 D0=none) (gD:G D0=none) {n:Nat}
  (eD:H D0=some (XO D0 (Kh "list" us.toArray n))) (rd:RDs X.K H ds vs) (wv:Vals vs us)
  (q:∀ (p:List Nat) H' s',p.Perm (List.range ds.length)->(p.map r).Pairwise (·<=·)->L2.Inv X pins τ H' s'->Kp G H0 G H'->RG X.K H' G->H' D0=some (.lst (p.map fun i=>vs.getD i .non))->Stb X.K H H'->P (.done (.ret .none)) s'):
  Jc (Jf X.prog X.w) A (ksk_tree D0 (.ref f) false) P E s:=by
 have l1:=rd.length;have l2:=wv.length;have few:=sb.few;have oD:=i5 I eD;have mu:yA (H D0):=by rw[eD];exact trivial
 have e2:=LN oD (fun _=>(#[]:Array IV));generalize (if ((#[]:Array IV).size == us.toArray.size)=true then n else n+1)=e1 at e2
 have I1:=lF (t':=s.toks) I eD e2;unfold ksk_tree;refine IU (N_ oD rfl ?_);refine IU (L4 oD rfl ?_ (by rw[Jj,JW];omega) (JQ _))
 refine IU (Nx e2 rfl ?_);refine IU (MM ?_ (by show us.length<=_;rw[JW];omega))
 refine IU (M8 ?_ (JQ _));refine JZ ?_;have I2:L2.Inv X pins τ _ { s with heap:=(s.heap.update D0 (Kr fun _=>#[])).push { cls:=.type "tuple",data:=.seq us.toArray } }:=I1.kept (t':=s.toks) fun b u e=>Ja _ e
 have fS:=I2.fresh;have I3:=mE (t':=s.toks) (o:=Kh "list" #[] 0) I2 rfl rfl;have hS0:H ((s.heap.update D0 (Kr fun _=>(#[]:Array IV))).push { cls:=.type "tuple",data:=.seq us.toArray }).objs.size=none:=by
  by_cases e:((s.heap.update D0 (Kr fun _=>(#[]:Array IV))).push { cls:=.type "tuple",data:=.seq us.toArray }).objs.size=D0
  ·rw[e]at fS;rw[aU]at fS;cases fS
  ·rw[ax e]at fS;exact fS
 have hne:((s.heap.update D0 (Kr fun _=>(#[]:Array IV))).push { cls:=.type "tuple",data:=.seq us.toArray }).objs.size≠D0:=fun e=>by rw[e,eD]at hS0;cases hS0
 have rg1:RG X.K (bG H D0 (XO D0 (Kh "list" #[] e1))) G:=qw rg gD mu;have st1:Stb X.K H (bG H D0 (XO D0 (Kh "list" #[] e1))):=ip mu;have st2:Stb X.K (bG H D0 (XO D0 (Kh "list" #[] e1))) (bG (bG H D0 (XO D0 (Kh "list" #[] e1))) ((s.heap.update D0 (Kr fun _=>(#[]:Array IV))).push { cls:=.type "tuple",data:=.seq us.toArray }).objs.size (XO ((s.heap.update D0 (Kr fun _=>(#[]:Array IV))).push { cls:=.type "tuple",data:=.seq us.toArray }).objs.size (Kh "list" #[] 0))):=(Kp.laid (G:=G) fS).stb rg1;refine zq F hb hr hA sb hu I3 (rg1.laid fS) (oM (oM kp nD) (h0 _ hS0)) (h0 _ hS0) nD (rg.free hS0) gD hne (by rw[ax hne.symm,aU]) aU (RDs.mono st2 _ _ (RDs.mono st1 _ _ rd)) wv fun p H' s' hp hs I' kp' rg' e' st'=>?_
 exact q p H' s' hp hs I' kp' rg' e' ⟨fun b xs z=>st'.t _ _ (st2.t _ _ (st1.t _ _ z)),fun b xs z=>st'.l _ _ (st2.l _ _ (st1.l _ _ z))⟩
theorem vm{d vw:IW}{Q:IV->IX->Prop}(F:FnOk X.prog X.w X.K X.mg X.base gF k f fd ps (aJ X.K sp))(hb:gr X.K fd ps [])(hr:Room (k+2) X.A)(sb:SortBy sp G ds ks r)(hu:X.A.units+8 < JY)(hh:X.A.handled=none)
  (I:L2.Inv X pins τ H s) (rg:RG X.K H G) {ep:Nat} (hv:s.heap.IsValuesView vw d) (dr:kt s.heap d us ep) (rd:RDs X.K H ds vs) (wv:Vals vs us)
  (q:∀ (p:List Nat) D0 H' s',p.Perm (List.range ds.length)->(p.map r).Pairwise (·<=·)->L2.Inv X pins τ H' s'->Kp G H G H'->RG X.K H' G->H D0=none->H' D0=some (.lst (p.map fun i=>vs.getD i .non))->RDs X.K H' (p.map fun i=>ds.getD i .non) (p.map fun i=>vs.getD i .non)->Q (.ref D0) s'):
  Jc (Jf X.prog X.w) X.A (call (.builtin "sorted") [.ref vw] [(I_ "key",.ref f)]) Q E s:=by
 have l1:=rd.length;have l2:=wv.length;have few:=sb.few;refine call_function_entry_kw kind_sorted plain_sorted entry_sorted (ksk_s1 _ _) ?_;unfold Builtin.«sorted»;refine IU (m:=checkCount "sorted" 1 1 _) (IY ?_);refine IU (kdu_collect (A:=X.A.in1) (Bx (r:=vw) (d:=d) (vs:=us) (ep:=ep)) hh ⟨hv,dr⟩ (by rw[JW];omega) fun h' tk acc hk hacc=>?_)
 have ea:acc.toList=us:=by
  refine List.ext_getElem? fun i=>?_;rcases KZ i acc.size with h|h
  ·have e:acc[i]?=some acc[i]:=by simp[h]
   have:=hacc.2 i _ e;rw[this];simp[h]
  ·rw[J5 (by simpa using h),J5 (by rw[<- hacc.1];exact h)]
 rw[ea];have I1:L2.Inv X pins τ H { s with heap:=h',toks:=tk }:=I.kept hk
 refine IU (M8 ?_ (by rw[JW];omega))
 have fD:=I1.fresh;have I2:=mE (t':=tk) (o:=Kh "list" us.toArray 0) I1 rfl rfl;have st:Stb X.K H (bG H h'.objs.size (XO h'.objs.size (Kh "list" us.toArray 0))):=(Kp.laid (G:=G) fD).stb rg;refine IU (JZ (wpAny_call_entry_kw slot_list_sort ⟨_,i5 I2 aU,rfl⟩ entry_list_sort ?_ (ksk_l1 _ _)));rw[ksk_t1];refine yS F hb (hr.in1.in1) (fun J=>J.env0.in1.in1) sb (by show X.A.units+1+1+4 < JY;omega) I2 (rg.laid fD) (Kp.laid fD) (fun a e=>?_) fD (rg.free fD) aU (RDs.mono st _ _ rd) wv fun p H' s' hp hs I' kp' rg' e' st'=>⟨_,rfl,?_⟩
 ·by_cases h:a=h'.objs.size
  ·subst h;exact fD
  ·rw[ax h]at e;exact e
 ·refine IY ⟨_,rfl,q p _ H' s' hp hs I' kp' rg' fD e' (r9 (RDs.mono st' _ _ (RDs.mono st _ _ rd)) fun i hi=>?_)⟩;rw[<- l1];exact mem_range.mp (hp.mem_iff.mp hi)
end
def wa(sp:fB)(to:bP):bP:=fun σ G Q=>to σ G fun x G1=>match val x with
 | .ref a=>match G1 a with
  | some (.dT _ kvs)=>∃ ks r,SortBy sp G1 (kvs.map (·.2)) ks r/\∀ p:List Nat,p.Perm (List.range (kvs.map (·.2)).length)->(p.map r).Pairwise (·<=·)->Q (.fl (p.map fun i=>(kvs.map (·.2)).getD i .non)) G1
  | _=>False
 | _=>False
theorem zk{K:JD}{H:Hp}{kvs:List (List aQ×D)}{xs:List (List aQ×IW×IV)}(r:jK K H kvs xs):∃ vs,RDs K H (kvs.map (·.2)) vs/\Vals vs (xs.map (·.2.2)):=by
 unfold jK at r
 induction r with
 | nil=>exact⟨[],RDs.nil,.nil⟩
 | cons h _ ih=>
  obtain⟨_,_,v,h1,h2⟩:=h;obtain⟨vs,a,b⟩:=ih;exact⟨v::vs,RDs.cons h1 a,.cons h2 b⟩
theorem BV{X:Cx}{k:Nat}{f:Str}{sp:fB}{o:JJ}{to:bP}{p0 apos cpos np Vo pos:Pos}(F:Fn3 X.prog X.w X.K X.mg X.base k f [] sp)(hr:Room (k+2) X.A)(hc:X.calm=true)(hgf:Gl X f)(hg:Gl X "sorted")(hm:X.mg "sorted"=none)(ho:PE X o (aI X.K to))
  (QI:K9 o "values" X.env (eval o X.env)=eval o X.env:=by rfl) (QH:(apos.endLine == cpos.line)=true:=by rfl) (hdf:(f == ("__debug__":Str))=false:=by decide):
  PE X (.Call (.Name "sorted" p0) [.Call (.Attribute o "values" apos) [] [] cpos] [⟨some "key",.Name f np,Vo⟩] pos) (aI X.K (wa sp to)):=by
 obtain⟨fa,fd,ps,dv,dvs,ok,hmf,_,hb,hv0,hd0⟩:=F.ex;have e0:dvs=[]:=(hd0 (fun _=>none)).inv_nil;subst e0;cases hv0;have hu:=hr.units
 rintro pins s τ H Q I ⟨σ,G,Q3,rs,rg,h,kf⟩
 refine KU (gx I hg hm (u:=.builtin "sorted") (by decide +kernel) ?_ (by decide) (by decide))
 refine callWith_kw (id:="sorted") ?_;show Jc _ _ (spliced [(false,eval (.Call (.Attribute o "values" apos) [] [] cpos) X.env)]) _ _ _
 refine Kc (NS QI QH (cm (cD ho I rs rg h) fun ov s1 zz=>?_));obtain⟨ox,H1,I1,rox,x,G1,q1,k1,rg1,rd1⟩:=zz;split at q1
 ·rename_i a hx;rw[hx]at rd1;simp only[RD]at rd1;subst rd1;cases rox;split at q1
  ·rename_i hw kvs hga;obtain⟨ks,r,sb,q1⟩:=q1;obtain⟨hob,eo,ro⟩:=rg1 a _ hga;cases hob with
   | ext φ=>
    obtain⟨xs,rfl,rt,nd,hz⟩:=ro;obtain⟨hsm,o1,es,ep,g1,g2,g3,g4⟩:=(show bZ X.prog X.w H1 s1.heap a (.ext (qV hw a xs))from I1.hok a _ eo).1
    obtain⟨vs,rv,wv⟩:=zk rt;have dr:kt s1.heap a (xs.map (·.2.2)) ep:=⟨o1,es,g1,g2,g3,by rw[g4,JK];rfl⟩
    refine⟨"dict","dict.values",PySem.F.plainAttrs_dict,PySem.F.slot_dict_values,PySem.F.type_dict_values,dr.ty,fun b e=>?_,?_⟩
    ·cases e;exact⟨o1,g1,g2.2.1⟩
    ·refine Lj rfl (PySem.evalArgs_none (Mc PySem.F.slot_dict_values dr.ty PySem.F.entry_dict_values (PySem.F.args_dict_values_1 _) (vF hsm) ⟨⟨_,ep,dr⟩,?_⟩));refine KE ?_;have I2:L2.Inv X pins τ H1 { s1 with heap:=s1.heap.push { cls:=.type "dict_values",data:=.fields #[.ref a] } }:=I1.kept (t':=s1.toks) fun b u e=>Ja _ e
     show Jc _ _ (evalAll [(do let v <- eval (.Name f np) X.env;Ni pos;pure v)]) _ _ _
     refine wpAny_evalAll_cons (IU (nC I2 hgf hmf (IU (M6 (IY (wpAny_evalAll_nil ?_)))) hdf));show Jc _ _ (call (.builtin "sorted") [.ref s1.heap.objs.size] [(I_ "key",.ref fa)]) _ _ _
     refine vm ok hb hr sb (by walk_at "o") (I.ok.hd hc) I2 rg1 (ep:=ep) ⟨_,Je _ rfl,rfl,rfl⟩ (dr.stay fun b e=>Ja _ e) rv wv fun p D0 H' s' hp hs I' kp' rg' n0 e' rd'=>?_
     exact⟨.ref D0,H',I',rfl,kf _ G1 _ H' (q1 p hp hs) (k1.trans kp') rg' (.inl ⟨_,D0,_,rfl,rfl,e',rg1.free n0,rd',k1.fr (jE n0)⟩)⟩
   | _=>exact ro.elim
  ·exact q1.elim
 ·exact q1.elim
def Gv(te:bP):bP:=fun σ G Q=>te σ G fun x G1=>match qR G1 (val x) with
 | some ds=>Q (.fl ds.reverse) G1
 | none=>False
def EZ(to:bP):bP:=fun σ G Q=>to σ G fun x G1=>match x with
 | .ref a=>match G1 a with
  | some (.lst _)=>Q .non (gset G1 a (.lst []))
  | _=>False
 | _=>False
def dq{α:Type}(xs:List α)(lo hi st:Option Int):List α:=
 (NG (K4 lo hi st xs.length).1 (K4 lo hi st xs.length).2.1 (K4 lo hi st xs.length).2.2).filterMap (xs[·]?)
def yk(te:bP)(tl th ts:CL):bP:=fun σ G Q=>te σ G fun x G1=>tl σ G1 fun l G2=>th σ G2 fun u G3=>ts σ G3 fun st G4=>st≠some 0/\match qR G4 (val x) with
 | some ds=>Q (.fl (dq ds l u st)) G4
 | none=>False
theorem jF{vs:List V}{us:List IV}(w:Vals vs us):∀ ix:List Nat,Vals (ix.filterMap (vs[·]?)) (ix.filterMap (us[·]?))
 | []=>.nil
 | i::r=>by
  have hl:=w.length;rcases KZ i us.length with h|h
  ·obtain⟨v,e,q⟩:=Vals.getV (i:=i) (u:=us[i]) w (by simp[h])
   rw[KH e,KH (Jb h)];exact .cons q (jF w r)
  ·rw[KI (J5 (by walk_at "o")),KI (J5 h)]
   exact jF w r
theorem o7{K:JD}{H:Hp}{ds:List D}{vs:List V}(w:RDs K H ds vs):∀ ix:List Nat,RDs K H (ix.filterMap (ds[·]?)) (ix.filterMap (vs[·]?))
 | []=>RDs.nil
 | i::r=>by
  have hl:=w.length;rcases KZ i vs.length with h|h
  ·obtain⟨v,e,q⟩:=RDs.getV (i:=i) w (Jb h);rw[KH e,KH (Jb h)];exact RDs.cons q (o7 w r)
  ·rw[KI (J5 (by walk_at "o")),KI (J5 h)]
   exact o7 w r
theorem n_{X:Cx}{e:JJ}{te:bP}{lo hi:Option JJ}{st:JJ}{tl th ts:CL}{p2 pos:Pos}(he:PE X e (aI X.K te))(hl:PO X lo (mR X.K tl))(hu:PO X hi (mR X.K th))(hst:PO X (some st) (mR X.K ts)):PE X (.Subscript e (.Slice lo hi (some st) p2) pos) (aI X.K (yk te tl th ts)):=by
 rintro pins s τ H Q I ⟨σ,G,Q3,rs,rg,h,k⟩
 have po:∀ {oe:Option JJ} {t:CL} {s:IX} {H:Hp} {σ:gy} {G:Gp} {q:Option Int->Gp->Prop},PO X oe (mR X.K t)->L2.Inv X pins τ H s->RS X.K H σ τ->RG X.K H G->t σ G q->
   Jc (Jf X.prog X.w) X.A (evalPart oe X.env) (fun u s'=>∃ o H',L2.Inv X pins τ H' s'/\MS u o/\∃ G',q o G'/\Kp G H G' H'/\RG X.K H' G') X.xe s:=fun hp I rs rg ht=>
  hp pins _ τ _ _ I ⟨_,_,_,rs,rg,ht,fun o G' H' q k rg'=>⟨G',q,k,rg'⟩⟩
 refine NL (cm (cD he I rs rg h) fun v s1 zz=>?_);obtain⟨ox,H1,I1,rox,x,G1,q1,k1,rg1,rd1⟩:=zz;refine wpAny_Slice (cm (po hl I1 (rs.mono (k1.stb rg)) rg1 q1) fun vl s2 zz=>?_);obtain⟨l,H2,I2,pl,G2,q2,k2,rg2⟩:=zz;refine cm (po hu I2 (rs.mono ((k1.trans k2).stb rg)) rg2 q2) fun vu s3 zz=>?_;obtain⟨u,H3,I3,pu,G3,q3,k3,rg3⟩:=zz;refine cm (po hst I3 (rs.mono ((k1.trans (k2.trans k3)).stb rg)) rg3 q3) fun vs s4 zz=>?_;obtain⟨stp,H4,I4,ps,G4,q4,k4,rg4⟩:=zz;obtain⟨n0,q4⟩:=q4;split at q4
 ·rename_i ds hq;have rd4:=RD.mono ((k2.trans (k3.trans k4)).stb rg1) _ _ rd1;obtain⟨b,xs,rfl,sq,r⟩:=iC (G:=G4) (H:=H4) hq (.of rd4) rg4;cases rox;have I5:L2.Inv X pins τ H4 { s4 with heap:=s4.heap.push { cls:=.type "slice",data:=.fields #[vl,vu,vs] } }:=I4.kept (t':=s4.toks) fun b ob q=>Ja _ q
  obtain⟨its,rv,plist,hz⟩:=I5.list sq;have hlen:=rv.length;have S6:=r.length;show Jc (Jf X.prog X.w) X.A (M9 e (.Slice lo hi (some st) p2) (.ref b) (.ref s4.heap.objs.size)) _ X.xe { s4 with heap:=s4.heap.push { cls:=.type "slice",data:=.fields #[vl,vu,vs] } }
  refine tail_any (ops:=[.ref b,.ref s4.heap.objs.size]) plist.isList.typeIs slot_list_getitem.lookup ?_ (by with_unfolding_all rfl)
  refine NQ plist.isList (OL ..) pl pu ps n0 ?_ (by rw[Jj];omega)
  have fr:=I5.fresh;have e1:(MX its.toArray l u stp)=(dq its l u stp).toArray:=by simp[MX,dq]
  have sz:(dq xs l u stp).length<=Jg:=by
   have h1:=OQ its.toArray l u stp;rw[e1,Jj,Jj]at h1;have h2:Vals (dq xs l u stp) (dq its l u stp):=by unfold dq;rw[hlen];exact jF rv _
   have:=h2.length;omega
  rw[e1];have wv:Vals (dq xs l u stp) (dq its l u stp):=by unfold dq;rw[hlen];exact jF rv _
  have wd:RDs X.K H4 (dq ds l u stp) (dq xs l u stp):=by unfold dq;rw[S6];exact o7 r _
  refine⟨.ref _,_,I5.lnew (t':=s4.toks) wv sz,rfl,k _ G4 _ _ q4 ((k1.trans (k2.trans (k3.trans k4))).trans (Kp.laid fr)) (rg4.laid fr) (.inl ⟨_,_,_,rfl,rfl,aU,rg4.free fr,RDs.mono ((Kp.laid (G:=G4) fr).stb rg4) _ _ wd,(k1.trans (k2.trans (k3.trans k4))).fr (jE fr)⟩)⟩
 ·exact q4.elim
def tj(K:JD)(mg:Str->Option IV)(x:Str)(d:D):Prop:=∃ u v,mg x=some u/\aF v u/\∀ H,RD K H d v
theorem jl{X:Cx}{x:Str}{d:D}{pos:Pos}(hg:Gl X x)(h:tj X.K X.mg x d)(hd:(x == ("__debug__":Str))=false:=by decide):PE X (.Name x pos) (aI X.K (eC d)):=by
 obtain⟨u,v,hm,r,rd⟩:=h;exact wN hg hm r rd hd
theorem yr{K:JD}{mg:Str->Option IV}{x:Str}{ds:List D}{vs:List V}{its:Array IV}{a:IW}{n:Nat}{sl:Array (Option IV)}(hm:mg x=some (.ref a))(hl:K.lookup a=some ⟨.type "tuple",none,.seq its n,sl⟩)
  (hz:its.size<=Jg) (w:Vals vs its.toList) (r:∀ H,RDs K H ds vs):tj K mg x (.tup ds):=
 ⟨.ref a,.ref a,hm,rfl,fun H=>md (.inr ⟨_,its,n,hl,⟨rfl,rfl⟩,rfl,hz,w⟩) (r H)⟩
end L3
namespace L2
open PySem PySem.Spec PyProof.Rows
theorem Inv.turnedL{X:Cx}{pins:List (IW×Obj)}{σ:St}{H:Hp}{s:IX}{h':JI}{t':Nat}{fp:List IW}(I:Inv X pins σ H s)(k:∀ b o,b∉fp->s.heap.get? b=some o->h'.get? b=some o)(hf:∀ b∈fp,mK X pins H b):
  Inv X pins σ H { s with heap:=h',toks:=t' }:=by
 have nit:∀ b u,H b=some u->b∉fp:=fun b u e z=>by rw[(hf b z).1]at e;cases e
 have hL:X.env.locals∉fp:=fun z=>(hf _ z).2.1 rfl;refine I.step (g':=s.gens) (d':=s.drawn) (ch:=fp) (fun b hb=>⟨(hf b hb).2.2.2.1,(hf b hb).2.1,(hf b hb).2.2.2.2.1,(hf b hb).2.2.2.2.2⟩) (fun b o _ _ hc e _=>k b o hc e) (fun b o _ _ hc e _=>⟨o.slots,k b o hc e⟩) (fun _ _ _ _ n=>n)
  (fun b o hc e=>⟨o,k b o hc e⟩) (fun _ _ e=>e) (fun _ _ _ e=>e) (fun b ps e=>⟨#[],by rw[e];simp⟩) (fun m hm=>?_) (fun b u e=>?_) I.bare
 ·obtain⟨o,es,ep,ho,r⟩:=hm;exact⟨o,es,ep,k _ o hL ho,r⟩
 ·refine (I.hok b u e).stay (fun c v hc q=>k c v ?_ q) (fun _ q=>q) fun _ _ q=>q;rcases hc with z|z
  ·rw[z];exact nit b u e
  ·exact nit c _ z
end L2
namespace L3
open PySem PySem.Spec PyProof.Rows L2
def gl(a b:String):Bool:=(a == b) || ((a == "bool") && (b == "int"))
def ic(b:String):Prop:=b="int"\/b="bool"\/b="str"\/b="tuple"\/b="list"
def Ia:xl:=fun ds G Q=>match ds with
 | [d,.ty T]=>ic T/\∃ T',gJ G d=some T'/\Q (.bl (gl T' T)) G
 | _=>False
def Gy:xl:=fun ds G Q=>match ds with
 | [.bl b]=>Q (.int (if b then 1 else 0)) G
 | _=>False
end L3
namespace L2
open PySem PySem.Spec PyProof.Rows
end L2
namespace L3
open PySem PySem.Spec PyProof.Rows L2
def vy(c:nH)(tb:d9):d9:=fun E σ G=>∃ W:Nat->gy->Gp->Prop,(∃ m,W m σ G)/\∀ m σ' G',W m σ' G'->
 c σ' G' fun b G1=>if b=true then ∃ N:gy->Gp->Prop,(∀ σ2 G2,N σ2 G2->∃ m',m' < m/\W m' σ2 G2)/\tb { E with nx:=N,ct:=N,bk:=E.nx } σ' G1 else E.nx σ' G1
theorem BA{X:Cx}{c:JJ}{body:List Kt}{tc:nH}{tb:d9}{pos:Pos}(hp:Nt (Jf X.prog X.w) X.A X.env X.xe)(hc:PT X c (du X.K tc))(hb:nz X body (dw X.K tb)):PS X (.While c body [] pos) (dw X.K (vy tc tb)):=
 (zJ hp hc hb).imp fun D τ H ⟨σ,G,D3,rs,rg,⟨W,⟨m0,w0⟩,turn⟩,k⟩=>by
  refine⟨fun m τ' H'=>∃ σ' G',RS X.K H' σ' τ'/\RG X.K H' G'/\W m σ' G'/\Kp G H G' H',⟨m0,σ,G,rs,rg,w0,Kp.refl⟩,?_⟩
  rintro m τ' H' ⟨σ',G',rs',rg',w',k'⟩
  refine⟨σ',G',_,rs',rg',turn m σ' G' w',fun b G1 H1 q k1 rg1=>?_⟩;cases b with
  | true=>
   rw[if_pos rfl]at q ⊢;obtain⟨N,hN,q⟩:=q;refine⟨fun τ2 H2=>∃ σ2 G2,RS X.K H2 σ2 τ2/\RG X.K H2 G2/\N σ2 G2/\Kp G H G2 H2,fun τ2 H2 ⟨σ2,G2,a,b,n,d⟩=>?_,?_⟩
   ·obtain⟨m',hm,w2⟩:=hN σ2 G2 n;exact⟨m',hm,σ2,G2,a,b,w2,d⟩
   ·have kG:=k'.trans k1;exact⟨σ',G1,_,rs'.mono (k1.stb rg'),rg1,q,⟨fun σ4 G4 τ4 H4 q4 k4 rg4 rs4=>⟨σ4,G4,rs4,rg4,q4,kG.trans k4⟩,k.rt.base kG,fun σ4 G4 τ4 H4 q4 k4=>k.nx σ4 G4 τ4 H4 q4 (kG.trans k4),fun σ4 G4 τ4 H4 q4 k4 rg4 rs4=>⟨σ4,G4,rs4,rg4,q4,kG.trans k4⟩⟩⟩
  | false=>
   rw[if_neg Bool.false_ne_true]at q ⊢;exact k.nx σ' G1 τ' H1 q (k'.trans k1) rg1 (rs'.mono (k1.stb rg'))
theorem EK:ic "int"=True:=eq_true (by unfold ic;simp)
theorem uG:gl "int" "int"=true:=by decide
theorem sy:gl "int" "bool"=false:=by decide
theorem uF:gl "int" "str"=false:=by decide
theorem p7:gl "int" "tuple"=false:=by decide
theorem sv:gl "int" "list"=false:=by decide
theorem Ch:ic "bool"=True:=eq_true (by unfold ic;simp)
theorem sB:gl "bool" "int"=true:=by decide
theorem p9:gl "bool" "bool"=true:=by decide
theorem sA:gl "bool" "str"=false:=by decide
theorem oQ:gl "bool" "tuple"=false:=by decide
theorem p8:gl "bool" "list"=false:=by decide
theorem EJ:ic "str"=True:=eq_true (by unfold ic;simp)
theorem uE:gl "str" "int"=false:=by decide
theorem sm:gl "str" "bool"=false:=by decide
theorem uD:gl "str" "str"=true:=by decide
theorem pZ:gl "str" "tuple"=false:=by decide
theorem sj:gl "str" "list"=false:=by decide
theorem At:ic "tuple"=True:=eq_true (by unfold ic;simp)
theorem pY:gl "tuple" "int"=false:=by decide
theorem oO:gl "tuple" "bool"=false:=by decide
theorem pX:gl "tuple" "str"=false:=by decide
theorem nt:gl "tuple" "tuple"=true:=by decide
theorem oN:gl "tuple" "list"=false:=by decide
theorem Cg:ic "list"=True:=eq_true (by unfold ic;simp)
theorem su:gl "list" "int"=false:=by decide
theorem p6:gl "list" "bool"=false:=by decide
theorem sn:gl "list" "str"=false:=by decide
theorem oP:gl "list" "tuple"=false:=by decide
theorem p5:gl "list" "list"=true:=by decide
def jp:List Str->List D->Str->Option D
 | g::L,d::ds,f=>if g=f then some d else jp L ds f
 | _,_,_=>none
def iN(L:List Str)(f:Str):List Str:=match L with
 | []=>[f]
 | g::r=>if g=f then g::r else g::iN r f
def g6:List Str->List D->Str->D->List D
 | g::L,x::ds,f,d=>if g=f then d::ds else x::g6 L ds f d
 | _,_,_,d=>[d]
section
variable{K:JD}{H:Hp}
theorem o6:∀ {gs:List (Str×V)} {ds:List D} {f:Str} {d:D},RDs K H ds (gs.map (·.2))->jp (gs.map (·.1)) ds f=some d->∃ v,gs.lookup f=some v/\RD K H d v
 | [],ds,f,d,r,e=>by simp[jp]at e
 | (g,u)::t,ds,f,d,r,e=>by
  cases ds with
  | nil=>simp[jp]at e
  | cons x ds=>
   obtain⟨y,q,e1,h1,h2⟩:=r.inv_cons;rw[Jz,List.cons.injEq]at e1;obtain⟨rfl,e1⟩:=e1;simp only[Jz,jp]at e;split at e
   ·rename_i hg;cases e;subst hg;exact⟨u,by rw[Le,beq_self_eq_true],h1⟩
   ·rename_i hg;obtain⟨v,e2,h3⟩:=o6 (gs:=t) (by rw[e1];exact h2) e
    exact⟨v,by rw[Le,show (f == g)=false by simpa using Ne.symm hg];exact e2,h3⟩
theorem tW:∀ {gs:List (Str×V)} {f:Str} {v:V},(g_ f v gs).map (·.1)=iN (gs.map (·.1)) f
 | [],f,v=>rfl
 | (g,u)::t,f,v=>by
  simp only[g_,Jz,iN];split
  ·rename_i hg;simp[hg]
  ·simp[tW (gs:=t)]
theorem tX:∀ {gs:List (Str×V)} {ds:List D} {f:Str} {v:V} {d:D},RDs K H ds (gs.map (·.2))->RD K H d v->RDs K H (g6 (gs.map (·.1)) ds f d) ((g_ f v gs).map (·.2))
 | [],ds,f,v,d,r,h=>by
  have:g6 ([]:List Str) ds f d=[d]:=by unfold g6;rfl
  exact RDs.cons h RDs.nil
 | (g,u)::t,ds,f,v,d,r,h=>by
  cases ds with
  | nil=>exact absurd r.length (by simp)
  | cons x ds=>
   obtain⟨y,q,e1,h1,h2⟩:=r.inv_cons;rw[Jz,List.cons.injEq]at e1;obtain⟨rfl,e1⟩:=e1;simp only[g_,Jz,g6];split
   ·rename_i hg;subst e1;exact RDs.cons h h2
   ·exact RDs.cons h1 (tX (gs:=t) (by rw[e1];exact h2) h)
end
def gn(cs:List IW)(f:Str)(to:bP):bP:=fun σ G Q=>to σ G fun x G1=>match x with
 | .ref a=>match G1 a with
  | some (.ins C L ds)=>C∈cs/\match jp L ds f with
   | some d=>Q d G1
   | none=>False
  | _=>False
 | _=>False
def iK(cs:List IW)(f:Str)(to tv:bP):d9:=fun D σ G=>tv σ G fun d G1=>to σ G1 fun x G2=>match x with
 | .ref a=>match G2 a with
  | some (.ins C L ds)=>(C∈cs/\L.length < 1000)/\D.nx σ (gset G2 a (.ins C (iN L f) (g6 L ds f (val d))))
  | _=>False
 | _=>False
def fQ(cs:List (IW×fB))(m:Str)(dds:List D)(to:bP)(ta:lP):bP:=fun σ G Q=>to σ G fun x G1=>match x with
 | .ref a=>match G1 a with
  | some (.ins C L _)=>m∉L/\∃ sp,(C,sp)∈cs/\ta σ G1 fun ds G2=>sp (.ref a::(ds ++ dds)) G2 Q
  | _=>False
 | _=>False
section
variable{X:Cx}{o e:JJ}{es:List JJ}{to te:bP}{t:lP}{pos apos:Pos}{k:Nat}{m:Str}{dds:List D}{sp:fB}
theorem iY{f:Str}{cs:List IW}(tab:∀ C∈cs,Cls X.K C/\fC X.K C f)(ho:PE X o (aI X.K to))(hb:K9 o f X.env (eval o X.env)=eval o X.env:=by rfl):PE X (.Attribute o f pos) (aI X.K (gn cs f to)):=
 (Ef ho hb).imp fun τ H Q zz=>by
 obtain⟨σ,G,Q3,rs,rg,h,kk⟩:=zz;exact (
  ⟨σ,G,_,rs,rg,h,fun d G1 v H1 q k1 rg1 re=>by
    cases d with
    | ref a=>
     dsimp only at q;split at q
     ·rename_i C L ds hg;obtain⟨hc,q⟩:=q;split at q
      ·rename_i d hd;obtain⟨ho,e1,ro⟩:=rg1 a _ hg;cases ho with
       | ins C2 dx gs=>
        obtain⟨rfl,r2,r3⟩:=ro;subst r2;obtain⟨w,hw,rd⟩:=o6 r3 hd;exact⟨a,_,dx,gs,w,re.ref,e1,(tab _ hc).1,(tab _ hc).2,hw,kk _ G1 _ H1 q k1 rg1 (.of rd)⟩
       | _=>exact ro.elim
      ·exact q.elim
     ·exact q.elim
    | _=>exact q.elim⟩)
theorem gY{f:Str}{cs:List IW}{pos':Pos}(tab:∀ C∈cs,Cls X.K C/\fC X.K C f)(ho:PE X o (aI X.K to))(hv:PE X e (aI X.K te))(hs:LY e (some (.Attribute o f pos')) pos.line X.env=pure false:=by rfl):
  PS X (.Assign [.Attribute o f pos'] e pos) (dw X.K (iK cs f to te)):=
 (D7 ho (fx hv) hs).imp fun Dd τ H zz=>by
 obtain⟨σ,G,D3,rs,rg,h,kk⟩:=zz;exact (
  ⟨σ,G,_,rs,rg,h,fun d G1 v H1 q1 k1 rg1 rd=>⟨σ,G1,_,rs.mono (k1.stb rg),rg1,q1,fun x G2 u H2 q2 k2 rg2 re=>by
    cases x with
    | ref a=>
     dsimp only at q2;split at q2
     ·rename_i C L ds hg;obtain⟨⟨hc,hl⟩,q2⟩:=q2;obtain⟨ho,e1,ro⟩:=rg2 a _ hg;cases ho with
      | ins C2 dx gs=>
       obtain⟨rfl,r2,r3⟩:=ro;subst r2;have rd2:=RD.mono (k2.stb rg1) _ _ rd;obtain⟨kp,rg3⟩:=DY (gs':=g_ f v gs) (L':=iN (gs.map (·.1)) f) (ds':=g6 (gs.map (·.1)) ds f (val d)) rg2 e1 tW (tX r3 rd2) (by rw[hg];exact fun z=>nomatch z)
       exact⟨a,_,dx,gs,re.ref,e1,(tab _ hc).1,(tab _ hc).2,by simpa using hl,kk.nx _ _ _ _ q2 ((k1.trans k2).trans kp) rg3 (rs.mono ((((k1.trans k2).trans kp)).stb rg))⟩
      | _=>exact ro.elim
     ·exact q2.elim
    | _=>exact q2.elim⟩⟩)
theorem hX{pl:Sem Bool}{cs:List (IW×fB)}(tab:∀ c∈cs,∃ k',k'<=k/\Mt3 X.prog X.w X.K X.mg X.base k' c.1 m dds c.2)(hr:Room k X.A)(ho:PE X o (aI X.K to))
  (ht:eval (.Call (.Attribute o m apos) [] [] pos) X.env=(do
   let ov <- eval o X.env
   Ni apos.atName
   let (f,first) <- holding [ov] (NZ ov m pl)
   callWith pos f first (K3 pos (Jx [] X.env)) (Nl pos (Mv [] X.env))):=by rfl):
  PE X (.Call (.Attribute o m apos) [] [] pos) (aI X.K (fQ cs m dds to aB)):=by
 rintro pins s τ H Q I ⟨σ,G,Q3,rs,rg,h,kk⟩
 refine PySem.W.methodCall_KW (pl:=pl) (cm (cD ho I rs rg h) fun u s1 zz=>?_) ht;obtain⟨x,H1,I1,rx,d,G1,q,k1,rg1,rd⟩:=zz;cases d with
 | ref a=>
  simp only[val,RD]at rd;subst rd;obtain rfl:u=Value.ref a:=rx;dsimp only at q;split at q
  ·rename_i C L ds hg;obtain⟨hL,sp,hc,q⟩:=q;obtain⟨k',hk,F⟩:=tab _ hc;obtain⟨f,fd,ps,ds',dvs,ok,hm,hb,hv,hd⟩:=F.ex;obtain⟨ho,e1,ro⟩:=rg1 a _ hg;cases ho with
   | ins C2 dx gs=>
    obtain⟨rfl,r2,r3⟩:=ro;refine v8 I1 e1 F.cl hm (xU (K:=X.K) r2 hL) ?_;exact PySem.W.callWith_K0 (first:=[.ref a]) I1.kIn hm.kp (vA (us:=[.ref a]) (vs:=[.ref a]) ok (hr.mono hk) hb hv wM I1 (.cons rfl .nil) ⟨.ref a::([] ++ dds),G1,Q3,RDs.cons iX (hd H1),rg1,q,kk.base k1⟩)
   | _=>exact ro.elim
  ·exact q.elim
 | _=>exact q.elim
structure Cf3(P:Jw)(w:JG)(K:JD)(mg:Str->Option IV)(base:JI)(k:Nat)(x m:Str)(dds:List D)(sp:fB):Prop where
 ex:∃ C f fd ps ds dvs,FnOk P w K mg base gF k f fd ps (aJ K sp)/\mg x=some (.ref C)/\MW K (.ref C) "__getattribute__"=some (some (.builtin "type.__getattribute__"))/\readsIn K C (.type "type")=true/\
  findCls K (.ref C) (.type "type") m=some (.val (.ref f))/\J1 K (.ref f)=true/\gr K fd ps ds/\Vals dvs ds/\∀ H,RDs K H dds dvs
theorem jw{pl:Sem Bool}{x:Str}{p:Pos}(F:Cf3 X.prog X.w X.K X.mg X.base k x m dds sp)(hr:Room k X.A)(hg:Gl X x)(ha:PA X (e::es) (fA X.K t))(hdb:(x == ("__debug__":Str))=false:=by decide)
  (hst:Jx (e::es) X.env=(false,eval e X.env)::Jx es X.env:=by rfl) (hpl:(K3 pos (Jx es X.env)).any (·.1)=false:=by rfl)
  (ht:eval (.Call (.Attribute (.Name x p) m apos) (e::es) [] pos) X.env=(do
   let ov <- eval (.Name x p) X.env
   Ni apos.atName
   let (f,first) <- holding [ov] (NZ ov m pl)
   callWith pos f first (K3 pos (Jx (e::es) X.env)) (Nl pos (Mv [] X.env))):=by rfl):
  PE X (.Call (.Attribute (.Name x p) m apos) (e::es) [] pos) (aI X.K (bB sp dds t)):=by
 obtain⟨C,f,fd,ps,ds,dvs,ok,hm,hga,hrd,hfc,hk,hb,hv,hd⟩:=F.ex;intro pins s τ H Q I h;refine PySem.W.methodCall_KW (pl:=pl) (cm (wL (v:=.ref C) hg hm rfl hdb pins s τ H (fun v H1=>v=.ref C/\H1=H) I ⟨rfl,rfl⟩) fun u s1 zz=>?_) ht;obtain⟨v,H1,I1,rx,e1,e2⟩:=zz;subst e1 e2;obtain rfl:u=Value.ref C:=rx;refine PySem.W.method_cls I1.kIn hga (PySem.W.cls_value I1.kIn hrd hfc rfl ?_);have I2:=I1.tok (s1.toks+1);obtain⟨σ,G,Q3,rs,rg,h,kk⟩:=h;refine NK (first:=[]) (h₀:=X.base) I.ok.mod.kin hk (cm (ha pos pins _ τ H1 (fun vs H2=>∃ ds G1,sp (ds ++ dds) G1 Q3/\Kp G H1 G1 H2/\RG X.K H2 G1/\RDs X.K H2 ds vs) I2 ⟨σ,G,_,rs,rg,h,fun ds G1 vs H2 q k1 rg1 rds=>⟨ds,G1,q,k1,rg1,rds⟩⟩) fun us s2 ⟨vs,H2,I3,r,ds1,G1,q2,k1,rg1,rds⟩=>⟨I3.kIn,?_⟩) hst hpl
 exact vA (us:=us) (vs:=vs) ok hr hb hv wM I3 r ⟨ds1 ++ dds,G1,Q3,rds.append (hd _),rg1,q2,kk.base k1⟩
end
end L3
theorem L3.all_cons{α:Type}{p:α->Prop}{a:α}{l:List α}(h:p a)(t:∀ x∈l,p x):∀ x∈a::l,p x:=fun x hx=>by
 rcases Kg.mp hx with rfl|hx
 ·exact h
 ·exact t x hx
namespace L3
open PySem PySem.Spec PyProof.Rows L2 PySem.SeqAt PySem.W
def oR:D->Bool
 | .non=>true
 | _=>false
def HI:R3:=fun x y G Q=>match y with
 | .non=>Q (.bl (oR x)) G
 | _=>False
def ue:R3:=fun x y G Q=>match y with
 | .non=>Q (.bl (!oR x)) G
 | _=>False
section
variable{X:Cx}
theorem zr{K:JD}{G0 G:Gp}{H0 H:Hp}{x:D}{v:V}{u:IV}(r:RE K G0 H0 G H x v)(l:aF v u):(u == Value.none)=oR x:=by
 cases x with
 | non=>rw[r.non]at l;cases l;rfl
 | fl ds=>
  obtain⟨p,xs,rfl,_⟩:=r.fl;cases l;rfl
 | lst ds=>
  obtain⟨a,xs,rfl,_⟩:=r.lst;cases l;rfl
 | tup ds=>
  obtain⟨a,xs,rfl,_⟩:=r.tup;cases l;rfl
 | int i=>rw[r.int]at l;obtain⟨t,rfl⟩:=l;rfl
 | str i=>rw[r.str]at l;obtain⟨t,rfl⟩:=l;rfl
 | bl i=>rw[r.bl]at l;cases l;rfl
 | ref a=>rw[r.ref]at l;cases l;rfl
 | ty T=>
  have:=r.rd (by intro ds z;cases z)
  simp only[RD]at this;subst this;cases l;rfl
theorem Dy:iD X (J_ .IsNot) (fy X.K ue):=by
 rintro pins s σ H v u v' u' Q I rv ru ⟨x,y,G0,H0,G,Q3,rx,ry,rg,h,k⟩
 unfold ue at h;split at h
 ·rw[ry.non]at ru;cases ru;refine isnot_none_gen ?_;rw[zr rx rv];exact⟨.bl _,H,I,rfl,k _ G _ H h Kp.refl rg (.of gC)⟩
 ·exact h.elim
end
section
variable{X:Cx}{o i:JJ}{to ti:bP}{pos:Pos}
theorem vL(hu:X.A.units+8 < JY)(hi:PE X i (aI X.K ti))(ho:PE X o (aI X.K to))(hm:Kn .In o=false:=by rfl):PT X (.Compare i [.In] [o] pos) (du X.K (dW (sI (ah X.prog X.w) ti to))):=by
 refine (zH (op:=.In) (t:=aI X.K (sI (ah X.prog X.w) ti to)) (fun pins s τ H Q I ⟨σ,G,Q3,rs,rg,h,k⟩=>?_) hm).imp fun τ H Q h=>qY h;refine cm (cD hi I rs rg h) fun iv s1 zz=>?_;obtain⟨iy,H1,I1,riy,y,G1,q1,k1,rg1,rd1⟩:=zz;refine cm (cD ho I1 (rs.mono (k1.stb rg)) rg1 q1) fun ov s2 zz=>?_;obtain⟨ox,H2,I2,rox,x,G2,q2,k2,rg2,rd2⟩:=zz;obtain⟨r,l,q2⟩:=q2;exact Do (by walk_at "o") I2 rg2 l rd2 rox (RD.mono (k2.stb rg1) _ _ rd1) riy fun s3 I3=>⟨.bl r.isSome,H2,I3,rfl,k _ G2 _ H2 q2 (k1.trans k2) rg2 (.of gC)⟩
theorem xK(hu:X.A.units+8 < JY)(hi:PE X i (aI X.K ti))(ho:PE X o (aI X.K to))(hm:Kn .NotIn o=false:=by rfl):PT X (.Compare i [.NotIn] [o] pos) (du X.K (dW (lM (ah X.prog X.w) ti to))):=by
 refine (zH (op:=.NotIn) (t:=aI X.K (lM (ah X.prog X.w) ti to)) (fun pins s τ H Q I ⟨σ,G,Q3,rs,rg,h,k⟩=>?_) hm).imp fun τ H Q h=>qY h;refine cm (cD hi I rs rg h) fun iv s1 zz=>?_;obtain⟨iy,H1,I1,riy,y,G1,q1,k1,rg1,rd1⟩:=zz;refine cm (cD ho I1 (rs.mono (k1.stb rg)) rg1 q1) fun ov s2 zz=>?_;obtain⟨ox,H2,I2,rox,x,G2,q2,k2,rg2,rd2⟩:=zz;obtain⟨r,l,q2⟩:=q2;exact AR (by walk_at "o") I2 rg2 l rd2 rox (RD.mono (k2.stb rg1) _ _ rd1) riy fun s3 I3=>⟨.bl (!r.isSome),H2,I3,rfl,k _ G2 _ H2 q2 (k1.trans k2) rg2 (.of gC)⟩
end
def wj(hw:List aQ->Int)(tk tv:bP):bP:=fun σ G Q=>∀ p,G p=none->tk σ (gset G p (.dT hw [])) fun x G1=>tv σ G1 fun y G2=>match G2 p with
 | some (.dT hw' [])=>hw'=hw/\∃ ks,kj (val x)=some ks/\Q (.ref p) (gset G2 p (.dT hw [(ks,val y)]))
 | _=>False
section
variable{X:Cx}{pos:Pos}
theorem B1{k v:JJ}{tk tv:bP}(hu:X.A.units+8 < JY)(hk:PE X k (aI X.K tk))(hv:PE X v (aI X.K tv)):PE X (.Dict [some k] [v] pos) (aI X.K (wj (ah X.prog X.w) tk tv)):=fun pins s τ H Q I zz=>by
 obtain⟨σ,G,Q3,rs,rg,h,kk⟩:=zz;have hf:H s.heap.objs.size=none:=I.hok.fresh (le_refl _);obtain⟨kp,rg2⟩:=Cr (o:=.dT (ah X.prog X.w) []) (ho:=.ext (qV (ah X.prog X.w) s.heap.objs.size [])) rg hf fun H' _=>⟨[],rfl,.nil,Nr,JQ _⟩;have hd:(s.heap.objs.size == J8)=false:=beq_eq_false_iff_ne.mpr (Ne.symm (JP I.big));have I1:=I.laid (a:=s.heap.objs.size) (t':=s.toks) (fun _ _ q=>Ja _ q) (le_refl _) (ko (P:=X.prog) (w:=X.w) (hw:=ah X.prog X.w) (xs:=[]) ⟨hd,_,#[],0,Je (h:=s.heap) (o:={ cls:=.type "dict",data:=.dict #[] }) rfl,⟨rfl,rfl,rfl⟩,rfl,rfl⟩);refine wpAny_Dict_any (by rfl) (by rfl) (by simp) (by simp) ?_
 refine pairTrees_cons_walk (cm (cD hk I1 (rs.mono (kp.stb rg)) rg2 (h _ (rg.free hf))) fun kv s1 zz=>?_);obtain⟨ox,H1,I2,rox,x,G1,q1,k1,rg1,rd1⟩:=zz;refine cm (cD hv I2 (rs.mono ((kp.trans k1).stb rg)) rg1 q1) fun vv s2 zz=>?_;obtain⟨oy,H2,I3,roy,y,G2,q2,k2,rgb,rd2⟩:=zz;refine pairTrees_nil_walk ?_;unfold storeAll;rw[LQ];split at q2
 ·rename_i hw' hg;obtain⟨rfl,ks,hks,q2⟩:=q2;have Ud:=RD.mono (k2.stb rg1) _ _ rd1;obtain⟨b,rfl,sq⟩:=i4 hks Ud;cases rox;obtain⟨ho,e,r⟩:=rgb _ _ hg;cases ho with
  | ext φ=>
   obtain⟨xs,rfl,rt,nd,_⟩:=r;have e0:xs=[]:=by
    have:=rt.length;exact length_eq_zero_iff.mp this.symm
   subst e0;obtain⟨hd2,dd⟩:=nF I3 e rt nd;refine IU (IU (Oy (hsz:=JQ _) (show X.A.units < JY by walk_at "o") (key_at I3 sq) dd fun h' dd' hs=>IY ?_))
   dsimp only;rw[Mz];refine IY ?_;obtain⟨q,es,ep,hq,h2,h3,h4,_,h5⟩:=dd';obtain⟨kp3,rg3⟩:=oW (a:=s.heap.objs.size) (o:=.dT (ah X.prog X.w) (cH [] ks (val y))) (ho:=.ext (qV (ah X.prog X.w) s.heap.objs.size (MV [] ks b vv))) rgb (by rw[hg];exact fun z=>nomatch z)
    fun H' st=>⟨_,rfl,(rt.put ks sq rd2 roy).mono st,j9 ks (val y) nd,by have:=gi ([]:List (List aQ×D)) ks (val y);have hs:=av;simp only[JU]at this;omega⟩
   exact⟨.ref _,_,lN I3 (by rw[e];exact True.intro) hs ⟨q,hq⟩ (ko ⟨hd2,q,es,ep,hq,h2,h3,h4⟩),rfl,kk _ _ _ _ q2 (kp.trans (k1.trans (k2.trans kp3))) rg3 (.of iX)⟩
  | _=>exact r.elim
 ·exact q2.elim
end
def Ay(x:D):List D->Nat
 | []=>0
 | d::r=>if fh d x then 0 else Ay x r+1
def EY(to:bP)(ta:lP):bP:=fun σ G Q=>to σ G fun x G1=>match x with
 | .lst ds=>ta σ G1 fun es G2=>match es with
  | [y]=>(pl 7 y/\(∀ d∈ds,pl 7 d)/\y∈ds)/\Q (.int (Ay y ds)) G2
  | _=>False
 | _=>False
def EW(sp:fB)(to:bP):bP:=fun σ G Q=>to σ G fun x G1=>match qR G1 (val x) with
 | some ds=>∃ ks r,SortBy sp G1 ds ks r/\∀ p:List Nat,p.Perm (List.range ds.length)->(p.map r).Pairwise (·<=·)->Q (.fl (p.map fun i=>ds.getD i .non)) G1
 | none=>False
section
variable{X:Cx}{pins:List (IW×Obj)}{τ:St}{H H0:Hp}{s:IX}{G:Gp}{E:IV->IX->Prop}
 {k:Nat} {f:IW} {fd:JE} {ps:List Str} {sp:fB} {ds ks:List D} {r:Nat->Nat} {vs:List V} {us:List IV}
end
def tm(c:Bool):Nat:=if c then 31 else 7
def Tb(c:Bool)(pl:Array Nat)(led plain:Bool):SetTable:={ mask:=tm c,place:=pl,dummies:=#[],finger:=0,led:=led,moves:=if c then 1 else 0,plain:=plain }
abbrev Pb:=SetTable.Probe
def look(c:Bool)(pl:Array Nat)(hs:Nat->Int)(same:Nat->Bool)(h:Int):Nat->Pb->Option (Option Nat)
 | 0,_=>none
 | f+1,p=>match (Tb c pl false false).probe hs h p with
  | none=>none
  | some (.empty j _)=>some (some j)
  | some (.candidate _ i next)=>if same i then some none else look c pl hs same h f next
section
variable{κ:Type}[DecidableEq κ]
def Ek(c:Bool)(h:Int):Pb:=(Tb c #[] false false).probeStart h
def found(hw:κ->Int)(ks:List κ)(c:Bool)(pl:Array Nat)(k:κ):Option (Option Nat):=look c pl (fun i=>((ks[i]?.map hw)).getD 0) (fun i=>decide (ks[i]?=some k)) (hw k) 100000 (Ek c (hw k))
end
def IE(es:Array (Int×IV))(ep:Nat)(t:SetTable):Obj:={ cls:=.type "set",dict:=none,data:=.set es ep t }
section
variable{prog:Jw}{w:JG}{κ:Type}[DecidableEq κ]{kn:KeyKind prog w κ}{A:Jy}{E:IV->IX->Prop}{s:IX}{a b:IW}
abbrev hK(kn:KeyKind prog w κ):List κ->Int:=tupleKeyHash kn
def IK(kn:KeyKind prog w κ)(xs:List (List κ×IW)):Array (Int×IV):=(xs.map fun x=>(hK kn x.1,Value.ref x.2)).toArray
end
set_option maxRecDepth 100000
def IS(first:IV)(i n ep:Nat)(S:IW):Obj:={ cls:=.type "set_iterator",data:=.fields #[first,.int i 0,.ref S,.int n 0,.int ep 0] }
set_option maxRecDepth 100000
set_option maxRecDepth 100000
set_option maxRecDepth 100000
section
variable{X:Cx}{pins:List (IW×Obj)}{τ:St}{H H0:Hp}{s:IX}{G:Gp}
def Aq(d:D):Prop:=∃ t r,d=.tup (.str t::r)
theorem GU(I:L2.Inv X pins τ H s){A:Jy}(hu:A.units+4 < JY){kx ky:D}{v u:V}{v' u':IV}(cp:tq 4 kx ky)(hx:Aq kx)(hy:Aq ky)(rx:RD X.K H kx v)(ry:RD X.K H ky u)(lx:aF v v')(ly:aF u u'){C:Bool->IX->Prop}{E:IV->IX->Prop}
  (q:C (ij 4 kx ky) s):Jc (Jf X.prog X.w) A (keyLt' (MB true) v' u') C E s:=by
 obtain⟨i,r,rfl⟩:=hx;obtain⟨j,t,rfl⟩:=hy;simp only[RD]at rx ry;obtain⟨a,xs,rfl,s1,r1⟩:=rx;obtain⟨b,ys,rfl,s2,r2⟩:=ry;cases lx;cases ly;obtain⟨its,w1,⟨o1,h1,c1,n1,d1⟩,z1⟩:=I.tuple s1;obtain⟨its2,w2,⟨o2,h2,c2,n2,d2⟩,z2⟩:=I.tuple s2;refine kat_lt h1 d1 h2 d2 ?_;have l1:=w1.length;have l1':=r1.length;have l2:=w2.length;have l2':=r2.length;obtain⟨x1,t1,e1,g1,g2⟩:=RDs.inv_cons (d:=.str i) (ds:=r) r1;subst e1;obtain⟨x2,t2,e2,f1,f2⟩:=RDs.inv_cons (d:=.str j) (ds:=t) r2;subst e2;simp only[RD]at g1 f1;subst g1 f1;cases w1 with
 | @cons _ u1 _ m1 k1 w1=>
 cases w2 with
 | @cons _ u2 _ m2 k2 w2=>
  obtain⟨tk,rfl⟩:=k1;obtain⟨tk',rfl⟩:=k2;obtain⟨p,c,z⟩:=(show Dp 3 (tq 3) (.str i::r) (.str j::t)from cp)
  have q':C (cE (ij 3) (.str i::r) (.str j::t)) s:=q;show KatLex _ _ _ _ _ _ ((_::m1).zip (_::m2)) 0 s
  rw[LC];refine kat_cons ((pi I 3 (x:=.str i) (y:=.str j) (v:=.str i) (u:=.str j) p.1 p.2 ir ir ⟨tk,rfl⟩ ⟨tk',rfl⟩ (by walk_at "o")).eq X.prog X.w _ _ (kat_go (fun e=>kat_yes ?_) fun e=>kat_no ?_))
  ·rw[show cE (ij 3) (.str i::r) (.str j::t)=cE (ij 3) r t by simp[cE,e]]at q'
   simp only[Jv]at l1 l1' l2 l2';exact As I (by walk_at "o") (by simp) z g2 f2 w1 w2 (by simp only[Jj,Jv];omega) q'
  ·rw[show cE (ij 3) (.str i::r) (.str j::t)=ij 3 (.str i) (.str j)by simp[cE,e]]at q'
   show Jc _ _ (oneLt' true _ _) _ _ _
   exact oneLt_str q'
theorem EB(I:L2.Inv X pins τ H s){A:Jy}{E:IV->IX->Prop}{Q:KC->IX->Prop}{ks:List D}{kv:List V}{ku:List IV}(hk:∀ d∈ks,Aq d)(r:RDs X.K H ks kv)(w:Vals kv ku)(hn:0 < ks.length)(q:Q (MB true) s):
  Jc (Jf X.prog X.w) A (keyKind' ku.toArray) Q E s:=by
 have go:∀ {ks:List D} {kv:List V} {ku:List IV},(∀ d∈ks,Aq d)->RDs X.K H ks kv->Vals kv ku->∃ fs,KatTups s.heap ku fs/\fs.length=ks.length/\∀ v∈fs,∃ i t,v=Value.str i t:=by
  intro ks
  induction ks with
  | nil=>
   intro kv ku _ r w;rw[r.inv_nil]at w;cases w;exact⟨[],KatTups.nil,rfl,fun v hv=>by simp at hv⟩
  | cons d t ih=>
   intro kv ku hk r w;obtain⟨x1,t1,e1,g1,g2⟩:=r.inv_cons;subst e1;cases w with
   | cons k1 w=>
    obtain⟨fs,h1,h2,h3⟩:=ih (fun d hd=>hk d (Jl _ hd)) g2 w;obtain⟨i,rr,rfl⟩:=hk d Jk;simp only[RD]at g1;obtain⟨a,xs,rfl,s1,r1⟩:=g1;cases k1;obtain⟨its,w1,⟨o1,e1,c1,n1,d1⟩,z1⟩:=I.tuple s1;obtain⟨y1,u1,e2,g3,_⟩:=RDs.inv_cons (d:=.str i) (ds:=rr) r1;subst e2;simp only[RD]at g3;subst g3;cases w1 with
    | cons k2 w1=>
     obtain⟨tk,rfl⟩:=k2;refine⟨.str i tk::fs,KatTups.cons e1 c1 d1 (by simp) h1,by simp[h2],fun v hv=>?_⟩
     rcases Kg.mp hv with rfl|hv
     ·exact⟨i,tk,rfl⟩
     ·exact h3 v hv
 obtain⟨fs,h1,h2,h3⟩:=go hk r w;refine kat_kind (T:=.type "str") h1 (by walk_at "o") (fun v hv=>?_) (by decide) ?_
 ·obtain⟨i,t,rfl⟩:=h3 v hv;exact Looks.of_pure rfl
 ·rw[show (Value.type "str" != Value.type "tuple")=true by decide]
  exact q
end
section
variable{X:Cx}{pins:List (IW×Obj)}{τ:St}{H:Hp}{s:IX}{G:Gp}{E:IV->IX->Prop}
theorem qf{α:Type}{g:α->IW}:∀ (l:List α),Vals (l.map fun x=>V.ref (g x)) (l.map fun x=>Value.ref (g x))
 | []=>.nil
 | x::t=>.cons rfl (qf t)
end
structure InsAsk(K:JD)(C:IW):Prop where
 cl:Cls K C
 ca:JF K (.ref C) "__class__"=some (some (.builtin "object.__class__"))
 gs:MW K (.builtin "object.__class__") "__get__"=some (some (.builtin "getset_descriptor.__get__"))
 tk:OO K (.builtin "object.__class__")=some true
 mo:NT K C (.type "object")=some true
def sT(cs:List (IW×Bool))(c:IW):xl:=fun ds G Q=>match ds with
 | [.ref a,.ref c']=>c'=c/\match G a with
  | some (.ins C _ _)=>∃ b,(C,b)∈cs/\Q (.bl b) G
  | _=>False
 | _=>False
theorem rR{X:Cx}{nm:Str}{C:IW}{pos:Pos}(hg:Gl X nm)(hm:X.mg nm=some (.ref C))(hd:(nm == ("__debug__":Str))=false:=by decide):PE X (.Name nm pos) (aI X.K (eC (.ref C))):=wN (v:=.ref C) hg hm rfl (fun _=>by simp only[RD]) hd
theorem xc{X:Cx}{cs:List (IW×Bool)}{c:IW}(tab:∀ p∈cs,InsAsk X.K p.1/\Kv X.K (.ref p.1) (.ref c)=some p.2):eV X (.builtin "isinstance") (lA X.K (sT cs c)):=by
 rintro pins s σ H vs us Q I rv ⟨ds,G,Q3,rds,rg,h,kk⟩
 unfold sT at h;split at h
 ·rename_i a c';obtain⟨rfl,h⟩:=h;split at h
  ·rename_i C L es hg;obtain⟨b,hb,hq⟩:=h;obtain⟨v,t,e,h1,h2⟩:=rds.inv_cons;obtain⟨u2,e2,h3⟩:=fX h2;simp only[RD]at h1 h3;subst e e2 h1 h3;obtain⟨u,w',rfl,ru,rw'⟩:=CV rv;cases ru;cases rw';obtain⟨ho,e1,ro⟩:=rg a _ hg;cases ho with
   | ins C2 dx gs=>
    obtain⟨rfl,r2,r3⟩:=ro;obtain⟨t1,t2⟩:=tab _ hb;exact jC (x:=V.ref a) I rfl (TyOf.ins e1 t1.cl t1.ca t1.gs t1.tk t1.mo) t2 fun tk=>⟨.bl _,H,I.tok tk,rfl,kk _ G _ H hq Kp.refl rg (.of gC)⟩
   | _=>exact ro.elim
  ·exact h.elim
 ·exact h.elim
end L3
namespace RQ
open PySem PySem.Spec PyProof.Rows L2 L3
structure Rw where
 pen:Str
 num:Int
 time:Int
 act:D
instance:Inhabited Rw:=⟨⟨"",0,0,.non⟩⟩
def Rw.d(r:Rw):D:=.tup [.tup [.str r.pen,.int r.num],.int r.time,r.act]
def Rw.key(r:Rw):D:=.tup [.int r.time,.tup [.str r.pen,.int r.num]]
def Rw.ok(r:Rw):Prop:=pl 4 r.act
def Rw.lt(a b:Rw):Bool:=if a.time=b.time then (if a.pen=b.pen then decide (a.num < b.num)else decide (a.pen.cps.toList < b.pen.cps.toList))else decide (a.time < b.time)
def fR(rs:List Rw):Prop:=rs.Pairwise fun a b=>a.lt b=true
def eK(a b:Rw):Prop:=¬ (a.pen=b.pen/\a.num=b.num)
def eX(rs:List Rw):Prop:=∀ a∈rs,∀ b∈rs,a.pen=b.pen->a.num=b.num->a=b
abbrev HW:=List aQ->Int
open PySem.W (SWO STO pR uj wR wU oF rankIn rank_lt)
theorem jH:STO (fun a b:List Nat=>decide (a < b)):=by
 have e:(fun a b:List Nat=>decide (a < b))=pR uj:=by funext a b;exact (oF a b).symm
 rw[e];exact wU wR
theorem w8{x y:Str}(h:x.cps.toList=y.cps.toList):x=y:=by
 cases x;cases y;simp only at h;rw[Array.toList_inj.mp h]
theorem lt_irrefl(a:Rw):a.lt a=false:=by simp[Rw.lt]
theorem lt_trans(a b c:Rw)(h1:a.lt b=true)(h2:b.lt c=true):a.lt c=true:=by
 unfold Rw.lt at *
 by_cases e1:a.time=b.time
 ·rw[if_pos e1]at h1
  by_cases e2:b.time=c.time
  ·rw[if_pos e2]at h2;rw[if_pos (e1.trans e2)]
   by_cases p1:a.pen=b.pen
   ·rw[if_pos p1]at h1
    by_cases p2:b.pen=c.pen
    ·rw[if_pos p2]at h2;rw[if_pos (p1.trans p2)];simp only[decide_eq_true_eq]at *
     omega
    ·rw[if_neg p2]at h2;rw[p1,if_neg p2];exact h2
   ·rw[if_neg p1]at h1
    by_cases p2:b.pen=c.pen
    ·rw[<- p2,if_neg p1];exact h1
    ·rw[if_neg p2]at h2;have h3:=jH.trans _ _ _ h1 h2;rw[if_neg (fun e=>by rw[e,jH.irrefl]at h3;cases h3)]
     exact h3
  ·rw[if_neg e2]at h2;rw[e1,if_neg e2];exact h2
 ·rw[if_neg e1]at h1
  by_cases e2:b.time=c.time
  ·rw[<- e2,if_neg e1];exact h1
  ·rw[if_neg e2]at h2;simp only[decide_eq_true_eq]at *
   rw[if_neg (by walk_at "o")]
   simp only[decide_eq_true_eq];omega
theorem Ah(a b:Rw)(h1:a.lt b=false)(h2:b.lt a=false):a.pen=b.pen/\a.num=b.num/\a.time=b.time:=by
 unfold Rw.lt at *
 by_cases e1:a.time=b.time
 ·rw[if_pos e1]at h1;rw[if_pos e1.symm]at h2
  by_cases p1:a.pen=b.pen
  ·rw[if_pos p1]at h1;rw[if_pos p1.symm]at h2;simp only[decide_eq_false_iff_not]at *
   exact⟨p1,by walk_at "o",e1⟩
  ·rw[if_neg p1]at h1;rw[if_neg (Ne.symm p1)]at h2;exact absurd (w8 (jH.tot _ _ h1 h2)) p1
 ·rw[if_neg e1]at h1;rw[if_neg (Ne.symm e1)]at h2;simp only[decide_eq_false_iff_not]at *
  omega
theorem lt_asymm{a b:Rw}(h:a.lt b=true):b.lt a=false:=by
 cases e:b.lt a with
 | false=>rfl
 | true=>have:=lt_trans _ _ _ h e;rw[lt_irrefl]at this;cases this
theorem B_{a b c:Rw}(p:a.pen=b.pen)(n:a.num=b.num)(t:a.time=b.time):a.lt c=b.lt c/\c.lt a=c.lt b:=by
 unfold Rw.lt;rw[p,n,t];exact⟨rfl,rfl⟩
theorem zi:SWO Rw.lt where
 irrefl:=lt_irrefl
 trans:=lt_trans
 neg:=fun a b c h=>by
  cases e:a.lt b with
  | true=>exact .inl rfl
  | false=>
   cases e2:b.lt c with
   | true=>exact .inr rfl
   | false=>
    cases e3:b.lt a with
    | true=>have:=lt_trans _ _ _ e3 h;rw[e2]at this;cases this
    | false=>
     obtain⟨p,n,t⟩:=Ah a b e e3;rw[(B_ (c:=c) p n t).1,e2]at h;cases h
theorem io:∀ {xs ys:List Rw},fR xs->fR ys->(∀ r,r∈xs↔r∈ys)->xs=ys
 | [],ys,_,_,h=>by
  cases ys with
  | nil=>rfl
  | cons y t=>have:=(h y).mpr Jk;simp at this
 | x::xs,[],_,_,h=>by have:=(h x).mp Jk;simp at this
 | x::xs,y::ys,h1,h2,h=>by
  unfold fR at h1 h2;rw[List.pairwise_cons]at h1 h2;have hxy:x=y:=by
   rcases Kg.mp ((h x).mp Jk)with e|m1
   ·exact e
   ·rcases Kg.mp ((h y).mpr Jk)with e|m2
    ·exact e.symm
    ·have a1:=h2.1 x m1;have a2:=h1.1 y m2;rw[lt_asymm a1]at a2;cases a2
  subst hxy;have nx:x∉xs:=fun m=>by have:=h1.1 x m;rw[lt_irrefl]at this;cases this
  have ny:x∉ys:=fun m=>by have:=h2.1 x m;rw[lt_irrefl]at this;cases this
  rw[io h1.2 h2.2 fun r=>⟨fun m=>?_,fun m=>?_⟩]
  ·rcases Kg.mp ((h r).mp (Jl _ m))with e|m'
   ·subst e;exact absurd m nx
   ·exact m'
  ·rcases Kg.mp ((h r).mpr (Jl _ m))with e|m'
   ·subst e;exact absurd m ny
   ·exact m'
theorem fj{xs:List Rw}(h:fR xs):xs.Nodup:=List.Pairwise.imp (fun {a b} q e=>by subst e;rw[lt_irrefl]at q;cases q) h
theorem mZ{xs:List Rw}(h:xs.Pairwise eK):xs.Nodup:=List.Pairwise.imp (fun {a b} q e=>by subst e;exact q ⟨rfl,rfl⟩) h
open Classical in
theorem gj:∀ {xs ys:List Rw},xs.Nodup->(∀ r∈xs,r∈ys)->xs.length<=ys.length
 | [],_,_,_=>JQ _
 | x::xs,ys,h,s=>by
  rw[KF]at h;have hx:=s x Jk;have:=gj (ys:=ys.erase x) h.2 fun r hr=>(List.mem_erase_of_ne (fun e=>by subst e;exact h.1 hr)).mpr (s r (Jl _ hr))
  rw[List.length_erase_of_mem hx]at this;have hp:0 < ys.length:=List.length_pos_of_mem hx;rw[Jv];omega
theorem yw{rs:List Rw}(h:rs.Pairwise eK):eX rs:=by
 induction h with
 | nil=>intro a ha;simp at ha
 | @cons x xs h1 h2 ih=>
  intro a ha b hb p n;rcases Kg.mp ha with e|ha
  ·rcases Kg.mp hb with e'|hb
   ·rw[e,e']
   ·rw[e]at p n;exact absurd ⟨p,n⟩ (h1 b hb)
  ·rcases Kg.mp hb with e|hb
   ·rw[e]at p n;exact absurd ⟨p.symm,n.symm⟩ (h1 a ha)
   ·exact ih a ha b hb p n
theorem vO{rs ss:List Rw}(h:eX rs)(s:∀ r∈ss,r∈rs):eX ss:=fun a ha b hb=>h a (s a ha) b (s b hb)
theorem EF(a b:Rw):ij 4 a.key b.key=a.lt b:=by
 show cE (ij 3) [.int a.time,.tup [.str a.pen,.int a.num]] [.int b.time,.tup [.str b.pen,.int b.num]]=_
 unfold Rw.lt
 by_cases e:a.time=b.time
 ·rw[if_pos e];have h1:fh (.int a.time) (.int b.time)=true:=by rw[e];exact bo _
  rw[show cE (ij 3) [.int a.time,.tup [.str a.pen,.int a.num]] [.int b.time,.tup [.str b.pen,.int b.num]]=cE (ij 3) [.tup [.str a.pen,.int a.num]] [.tup [.str b.pen,.int b.num]]by simp[cE,h1]]
  have inner:ij 3 (.tup [.str a.pen,.int a.num]) (.tup [.str b.pen,.int b.num])=if a.pen=b.pen then decide (a.num < b.num)else decide (a.pen.cps.toList < b.pen.cps.toList):=by
   show cE (ij 2) [.str a.pen,.int a.num] [.str b.pen,.int b.num]=_
   by_cases p:a.pen=b.pen
   ·have h2:fh (.str a.pen) (.str b.pen)=true:=by rw[p];exact bo _
    rw[if_pos p]
    by_cases n:a.num=b.num
    ·have h3:fh (.int a.num) (.int b.num)=true:=by rw[n];exact bo _
     simp[cE,h2,n,bo]
    ·have h3:fh (.int a.num) (.int b.num)=false:=bM (by simpa using n)
     simp[cE,h2,h3,ij]
   ·have h2:fh (.str a.pen) (.str b.pen)=false:=bM (by simpa using p)
    rw[if_neg p];simp[cE,h2,ij]
  by_cases t:(D.tup [.str a.pen,.int a.num])=.tup [.str b.pen,.int b.num]
  ·have h2:=o8 t;simp only[D.tup.injEq,List.cons.injEq,D.str.injEq,D.int.injEq,and_true]at t;simp[cE,t.1,t.2,bo]
  ·rw[<- inner];simp[cE,bM t]
 ·rw[if_neg e];have h1:fh (.int a.time) (.int b.time)=false:=bM (by simpa using e)
  simp[cE,h1,ij]
theorem EI(a b:Rw):tq 4 a.key b.key:=by
 refine⟨⟨trivial,trivial⟩,fun _=>trivial,⟨fun d hd=>?_,fun d hd=>?_⟩,fun _=>?_,trivial⟩
 ·simp only[Kg,Kz,or_false]at hd;rcases hd with rfl|rfl<;>trivial
 ·simp only[Kg,Kz,or_false]at hd;rcases hd with rfl|rfl<;>trivial
 ·exact⟨⟨trivial,trivial⟩,fun _=>trivial,⟨trivial,trivial⟩,fun _=>trivial,trivial⟩
def mP(r:Rw):List aQ:=[.inr r.pen,.inl r.num]
def mz(r:Rw):List aQ×D:=(mP r,r.d)
theorem qz{a b:Rw}:mP a=mP b↔a.pen=b.pen/\a.num=b.num:=by
 simp[mP]
theorem D4{vs:List Rw}{r:Rw}(h:r∈vs)(o:∀ a∈vs,a.pen=r.pen->a.num=r.num->a=r):cH (vs.map mz) (mP r) r.d=vs.map mz:=by
 unfold cH;rw[if_pos (by rw[NA];exact⟨mz r,List.mem_map_of_mem h,decide_eq_true rfl⟩),JK]
 refine Kq fun a ha=>?_;simp only[Function.comp_apply];split
 ·rename_i e;obtain⟨p,n⟩:=qz.mp e;have:=o a ha p n;subst this;rfl
 ·rfl
theorem put_new{vs:List Rw}{r:Rw}(h:∀ a∈vs,eK a r):cH (vs.map mz) (mP r) r.d=(vs ++ [r]).map mz:=by
 unfold cH;rw[if_neg]
 ·rw[J0];rfl
 ·rw[Bool.not_eq_true,List.any_eq_false];intro kv hkv;obtain⟨a,ha,rfl⟩:=mem_map.mp hkv;simp only[decide_eq_true_eq];intro e;exact h a ha (qz.mp e)
theorem y8{vs:List Rw}(hv:vs.Pairwise eK){p:List Nat}(hp:p.Perm (List.range vs.length))(hs:(p.map fun i=>rankIn Rw.lt vs (vs.getD i default)).Pairwise (·<=·)):
  fR (p.map fun i=>vs.getD i default)/\∀ r,r∈(p.map fun i=>vs.getD i default)↔r∈vs:=by
 have inr:∀ i∈p,i < vs.length:=fun i hi=>mem_range.mp (hp.mem_iff.mp hi);have gm:∀ i,i < vs.length->vs.getD i default∈vs:=fun i hi=>by rw[Jn,Jb hi];exact K6 hi
 constructor
 ·unfold fR;rw[Lg]at hs ⊢;have nd:p.Nodup:=hp.nodup_iff.mpr List.nodup_range;refine (hs.and nd).imp_of_mem fun {i j} hi hj h=>?_;have li:=inr i hi;have lj:=inr j hj;have nlt:(vs.getD j default).lt (vs.getD i default)=false:=by
   rw[rank_lt zi (gm j lj),decide_eq_false_iff_not,not_lt];exact h.1
  cases e:(vs.getD i default).lt (vs.getD j default) with
  | true=>rfl
  | false=>
   obtain⟨pp,nn,_⟩:=Ah _ _ e nlt;have ap:eK (vs.getD i default) (vs.getD j default):=by
    rw[Jn,Jn,Jb li,Jb lj];rcases Nat.lt_or_gt_of_ne h.2 with l|l
    ·exact pairwise_iff_getElem.mp hv i j li lj l
    ·exact fun z=>pairwise_iff_getElem.mp hv j i lj li l ⟨z.1.symm,z.2.symm⟩
   exact absurd ⟨pp,nn⟩ ap
 ·intro r;have e:((List.range vs.length).map fun i=>vs.getD i default)=vs:=L3.range_getD vs default;have q:=hp.map fun i=>vs.getD i default;rw[e]at q;exact q.mem_iff
theorem i_{κ:Type}[DecidableEq κ](k k':κ)(v:D):∀ kvs:List (κ×D),eL (cH kvs k v) k'=if k'=k then some v else eL kvs k':=by
 have go:∀ kvs:List (κ×D),(kvs.any fun kv=>decide (kv.1=k))=true->eL (kvs.map fun kv=>if kv.1=k then (kv.1,v)else kv) k'=if k'=k then some v else eL kvs k':=by
  intro kvs
  induction kvs with
  | nil=>intro h;simp at h
  | cons p r ih=>
   intro h
   by_cases e:p.1=k
   ·by_cases e':k'=k
    ·rw[if_pos e'];simp[eL,JT,e,e']
    ·rw[if_neg e'];have n1:¬ k=k':=fun z=>e' z.symm;have skip:∀ q:List (κ×D),eL (((p.1,v):κ×D)::q) k'=eL q k':=fun q=>by simp[eL,JT,e,n1]
     have SR:eL (p::r) k'=eL r k':=by simp[eL,JT,e,n1]
     rw[Jz,if_pos e,skip,SR]
     by_cases hr:(r.any fun kv=>decide (kv.1=k))=true
     ·have:=ih hr;rw[if_neg e']at this;exact this
     ·have:r.map (fun kv=>if kv.1=k then (kv.1,v)else kv)=r:=by
       rw[Bool.not_eq_true,List.any_eq_false]at hr
       conv=>rhs;rw[<- map_id r]
       refine Kq fun a ha=>?_;have:=hr a ha;simp only[decide_eq_true_eq]at this;rw[if_neg this];rfl
      rw[this]
   ·have hr:(r.any fun kv=>decide (kv.1=k))=true:=by simpa[e]using h
    rw[Jz,if_neg e]
    by_cases e2:p.1=k'
    ·have n1:¬ k'=k:=fun z=>e (e2.trans z);rw[if_neg n1];simp[eL,JT,e2]
    ·have s1:∀ q:List (κ×D),eL (p::q) k'=eL q k':=fun q=>by simp[eL,JT,e2]
     rw[s1,s1];exact ih hr
 intro kvs;unfold cH
 by_cases h:(kvs.any fun kv=>decide (kv.1=k))=true
 ·rw[if_pos h];exact go kvs h
 ·rw[if_neg h]
  by_cases e':k'=k
  ·rw[if_pos e'];subst e';have hn:eL kvs k'=none:=by
    have:=jJ k' kvs;rw[Bool.not_eq_true]at h;rw[h]at this;cases q:eL kvs k' with
    | none=>rfl
    | some _=>rw[q]at this;cases this
   unfold eL at hn ⊢;rw[List.find?_append];cases q:kvs.find? fun kv=>decide (kv.1=k') with
   | none=>simp
   | some z=>rw[q]at hn;cases hn
  ·rw[if_neg e'];unfold eL;rw[List.find?_append];cases q:kvs.find? fun kv=>decide (kv.1=k') with
   | none=>simp;exact fun z=>e' z.symm
   | some z=>rfl
theorem iO{α β:Type}(f:α->β)(xs:List α)(l u st:Option Int):dq (xs.map f) l u st=(dq xs l u st).map f:=by
 unfold dq;rw[IZ,List.map_filterMap];congr 1;funext i;rw[JB]
theorem tZ{α:Type}{xs:List α}{l u st:Option Int}{x:α}(h:x∈dq xs l u st):x∈xs:=by
 unfold dq at h;obtain⟨i,_,e⟩:=mem_filterMap.mp h;exact Js e
theorem rC{α:Type}(xs:List α)(l u st:Option Int):(dq xs l u st).length<=xs.length:=by
 have h:=OQ (xs.map fun _=>Value.none).toArray l u st;have e:(MX (xs.map fun _=>Value.none).toArray l u st)=(dq (xs.map fun _=>Value.none) l u st).toArray:=by simp[MX,dq]
 rw[e,Jj,Jj,iO,IZ,IZ]at h;exact h
set_option genInjectivity false in
structure Sl where
 pen:Str
 n:Int
 k:Int
deriving DecidableEq
instance:Inhabited Sl:=⟨⟨"",0,0⟩⟩
def Sl.d(s:Sl):D:=.tup [.str s.pen,.int s.n,.int s.k]
def Sl.key(s:Sl):List aQ:=[.inr s.pen,.inl s.n,.inl s.k]
theorem Sl.key_inj{a b:Sl}(h:a.key=b.key):a=b:=by
 obtain⟨a1,a2,a3⟩:=a;obtain⟨b1,b2,b3⟩:=b;simp only[Sl.key,List.cons.injEq,Sum.inr.injEq,Sum.inl.injEq,and_true]at h;obtain⟨rfl,rfl,rfl⟩:=h;rfl
theorem Sl.d_inj{a b:Sl}(h:a.d=b.d):a=b:=by
 obtain⟨a1,a2,a3⟩:=a;obtain⟨b1,b2,b3⟩:=b;simp only[Sl.d,D.tup.injEq,List.cons.injEq,D.str.injEq,D.int.injEq,and_true]at h;obtain⟨rfl,rfl,rfl⟩:=h;rfl
theorem lE(s:Sl):kj s.d=some s.key:=rfl
def ay:Sl:=⟨I_ "",0,0⟩
set_option genInjectivity false in
inductive Act where
 | put (a:Sl) (x:Str)
 | strike (ns:List Sl)
 | dress (ns:List Sl) (w:Str)
 | move (ns:List Sl) (a:Sl)
def Act.d:Act->D
 | .put a x=>.tup [.str "put",a.d,.str x]
 | .strike ns=>.tup [.str "strike",.tup (ns.map Sl.d)]
 | .dress ns w=>.tup [.str "dress",.tup (ns.map Sl.d),.str w]
 | .move ns a=>.tup [.str "move",.tup (ns.map Sl.d),a.d]
def Act.many:Act->Nat
 | .put _ x=>x.length
 | .move ns _=>ns.length
 | _=>0
def Act.anch:Act->Sl
 | .put a _=>a
 | .move _ a=>a
 | _=>ay
set_option genInjectivity false in
structure Sk where
 pen:Str
 num:Int
 time:Int
 act:Act
instance:Inhabited Sk:=⟨⟨"",0,0,.strike []⟩⟩
def Sk.rw(s:Sk):Rw:=⟨s.pen,s.num,s.time,s.act.d⟩
def Sk.d(s:Sk):D:=.tup [.tup [.str s.pen,.int s.num],.int s.time,s.act.d]
def Sk.ok(s:Sk):Prop:=1<=s.num/\s.act.many<=1000
def au(pen:Str)(n:Int)(m:Nat):List Sl:=(List.range m).map fun (k:Nat)=>⟨pen,n,(k:Int)+1⟩
def made(s:Sk):List Sl:=au s.pen s.num s.act.many
def cR(m:Nat):List Sl:=au (I_ "") 0 m
theorem aY(p:Str)(n:Int)(m:Nat):(au p n m).length=m:=by simp[au]
theorem d6(p:Str)(n:Int)(m:Nat):(au p n m).Nodup:=by
 unfold au List.Nodup;rw[Lg];refine List.Pairwise.imp ?_ (List.nodup_range (n:=m));intro a b h e;injection e with e1 e2 e3
 exact h (by walk_at "o")
theorem bJ{p:Str}{n:Int}{m:Nat}{x:Sl}(h:x∈au p n m):x.pen=p/\x.n=n/\1<=x.k:=by
 unfold au at h;obtain⟨k,_,rfl⟩:=mem_map.mp h;exact⟨rfl,rfl,by show 1<=(k:Int)+1;omega⟩
def yG:List Sl->D
 | []=>.non
 | s::_=>s.d
def nx:List Sl->Sl->D
 | [],_=>.non
 | a::t,c=>if a=c then yG t else nx t c
def jd:List Sl->Sl->Sl->List Sl
 | [],_,_=>[]
 | a::t,b,x=>if a=b then a::x::t else a::jd t b x
def bz:List Sl->Sl->List Sl->List Sl
 | W,_,[]=>W
 | W,b,x::t=>bz (jd W b x) x t
theorem d7{W:List Sl}{b x:Sl}(hb:b∈W):∀ c,c∈jd W b x↔c∈W\/c=x:=by
 induction W with
 | nil=>simp at hb
 | cons a t ih=>
  intro c;unfold jd
  by_cases e:a=b
  ·rw[if_pos e];simp only[Kg];constructor
   ·rintro (h|h|h)
    ·exact .inl (.inl h)
    ·exact .inr h
    ·exact .inl (.inr h)
   ·rintro ((h|h)|h)
    ·exact .inl h
    ·exact .inr (.inr h)
    ·exact .inr (.inl h)
  ·rw[if_neg e];have hb':b∈t:=by
    rcases Kg.mp hb with z|z
    ·exact absurd z.symm e
    ·exact z
   simp only[Kg,ih hb' c];constructor
   ·rintro (h|h|h)
    ·exact .inl (.inl h)
    ·exact .inl (.inr h)
    ·exact .inr h
   ·rintro ((h|h)|h)
    ·exact .inl h
    ·exact .inr (.inl h)
    ·exact .inr (.inr h)
theorem jo{W:List Sl}{b x:Sl}(hb:b∈W):(jd W b x).length=W.length+1:=by
 induction W with
 | nil=>simp at hb
 | cons a t ih=>
  unfold jd
  by_cases e:a=b
  ·rw[if_pos e];simp
  ·rw[if_neg e];have hb':b∈t:=by
    rcases Kg.mp hb with z|z
    ·exact absurd z.symm e
    ·exact z
   simp[ih hb']
theorem oU{W:List Sl}{b x:Sl}(hW:W.Nodup)(hx:x∉W)(hb:b∈W):(jd W b x).Nodup:=by
 induction W with
 | nil=>simp at hb
 | cons a t ih=>
  unfold jd;rw[KF]at hW
  by_cases e:a=b
  ·rw[if_pos e,KF,KF];simp only[Kg,not_or]at hx;refine⟨?_,hx.2,hW.2⟩;rw[Kg,not_or];exact⟨Ne.symm hx.1,hW.1⟩
  ·rw[if_neg e];have hb':b∈t:=by
    rcases Kg.mp hb with z|z
    ·exact absurd z.symm e
    ·exact z
   simp only[Kg,not_or]at hx;rw[KF];refine⟨fun z=>?_,ih hW.2 hx.2 hb'⟩;rcases (d7 hb' a).mp z with z|z
   ·exact hW.1 z
   ·exact hx.1 z.symm
theorem Ax{W:List Sl}{b x:Sl}:yG (jd W b x)=yG W:=by
 cases W with
 | nil=>rfl
 | cons a t=>
  unfold jd;split<;>rfl
theorem Cp{W:List Sl}{b x:Sl}(hW:W.Nodup)(hx:x∉W)(hb:b∈W):∀ c,nx (jd W b x) c=if c=x then nx W b else if c=b then x.d else nx W c:=by
 induction W with
 | nil=>simp at hb
 | cons a t ih=>
  intro c;rw[KF]at hW;simp only[Kg,not_or]at hx;unfold jd
  by_cases e:a=b
  ·subst e;rw[if_pos rfl];simp only[nx]
   by_cases c1:c=x
   ·subst c1;rw[if_neg (Ne.symm hx.1),if_pos rfl,if_pos rfl];simp
   ·rw[if_neg c1]
    by_cases c2:c=a
    ·subst c2;simp[yG]
    ·rw[if_neg (Ne.symm c2),if_neg (fun z=>c1 z.symm),if_neg c2,if_neg (Ne.symm c2)]
  ·rw[if_neg e];have hb':b∈t:=by
    rcases Kg.mp hb with z|z
    ·exact absurd z.symm e
    ·exact z
   simp only[nx];rw[Ax,ih hW.2 hx.2 hb' c]
   by_cases c0:a=c
   ·subst c0;rw[if_pos rfl,if_neg (fun z=>hx.1 z.symm),if_neg e,if_pos rfl]
   ·rw[if_neg c0,if_neg c0,if_neg e]
def yD(kvs:List (List aQ×D))(W:List Sl):Prop:=W.Nodup/\kvs.length=W.length/\(∀ s,s∉W->eL kvs s.key=none)/\∀ s∈W,eL kvs s.key=some (nx W s)
theorem tY{κ:Type}[DecidableEq κ]{kvs:List (κ×D)}{k:κ}{v:D}:(cH kvs k v).length=if (eL kvs k).isSome=true then kvs.length else kvs.length+1:=by
 unfold cH;rw[jJ];split<;>simp
theorem AK{kvs:List (List aQ×D)}{W:List Sl}{b x:Sl}(h:yD kvs W)(hb:b∈W)(hx:x∉W):yD (cH (cH kvs x.key (nx W b)) b.key x.d) (jd W b x):=by
 obtain⟨h1,h2,h3,h4⟩:=h;have hne:b≠x:=fun z=>hx (z ▸ hb);have at2:∀ c:Sl,eL (cH (cH kvs x.key (nx W b)) b.key x.d) c.key=if c=b then some x.d else if c=x then some (nx W b)else eL kvs c.key:=fun c=>by
  rw[i_,i_]
  by_cases e1:c=b
  ·subst e1;rw[if_pos rfl,if_pos rfl]
  ·rw[if_neg (fun z=>e1 (Sl.key_inj z)),if_neg e1]
   by_cases e2:c=x
   ·subst e2;rw[if_pos rfl,if_pos rfl]
   ·rw[if_neg (fun z=>e2 (Sl.key_inj z)),if_neg e2]
 refine⟨oU h1 hx hb,?_,fun c hc=>?_,fun c hc=>?_⟩
 ·rw[tY,tY,h3 x hx,i_,if_neg (fun z=>hne (Sl.key_inj z)),h4 b hb,jo hb,h2];simp
 ·have hc':c∉W/\c≠x:=⟨fun z=>hc ((d7 hb c).mpr (.inl z)),fun z=>hc ((d7 hb c).mpr (.inr z))⟩;rw[at2,if_neg (fun (z:c=b)=>hc'.1 (by rw[z];exact hb)),if_neg hc'.2]
  exact h3 c hc'.1
 ·rw[at2,Cp h1 hx hb]
  by_cases e1:c=b
  ·subst e1;rw[if_pos rfl,if_neg hne,if_pos rfl]
  ·rw[if_neg e1]
   by_cases e2:c=x
   ·rw[if_pos e2,if_pos e2]
   ·rw[if_neg e2,if_neg e2,if_neg e1];rcases (d7 hb c).mp hc with z|z
    ·exact h4 c z
    ·exact absurd z e2
theorem yi(v:List Sl->Prop):yD [(ay.key,.non)] [ay]:=by
 refine⟨by simp,rfl,fun s hs=>?_,fun s hs=>?_⟩
 ·have:s≠ay:=by simpa using hs
  simp only[eL,JT,List.find?_nil];rw[decide_eq_false (fun z=>this (Sl.key_inj z).symm)];rfl
 ·have:s=ay:=by simpa using hs
  subst this;simp[eL,nx,yG]
def bW(W:List Sl)(s:Sk):List Sl:=if s.act.anch∈W then bz W s.act.anch (made s)else W
def j4(n:Nat)(out:List Sk):List Sl:=out.foldl bW (bz [ay] ay (cR n))
theorem fO:∀ {ss W:List Sl} {b:Sl},b∈W->∀ c,c∈bz W b ss↔c∈W\/c∈ss
 | [],W,b,hb,c=>by simp[bz]
 | x::t,W,b,hb,c=>by
  unfold bz;rw[fO (ss:=t) ((d7 hb x).mpr (.inr rfl)) c,d7 hb c,Kg];constructor
  ·rintro ((h|h)|h)
   ·exact .inl h
   ·exact .inr (.inl h)
   ·exact .inr (.inr h)
  ·rintro (h|h|h)
   ·exact .inl (.inl h)
   ·exact .inl (.inr h)
   ·exact .inr h
theorem jT:∀ {ss W:List Sl} {b:Sl},b∈W->(bz W b ss).length=W.length+ss.length
 | [],W,b,hb=>by simp[bz]
 | x::t,W,b,hb=>by
  unfold bz;rw[jT (ss:=t) ((d7 hb x).mpr (.inr rfl)),jo hb,Jv];omega
theorem v7{pre post:List Sl}{b x:Sl}(h:b∉pre):jd (pre ++ b::post) b x=pre ++ b::x::post:=by
 induction pre with
 | nil=>simp[jd]
 | cons a t ih=>
  simp only[Kg,not_or]at h;simp only[LV,jd];rw[if_neg (Ne.symm h.1),ih h.2]
theorem lG:∀ {ss pre post:List Sl} {b:Sl},b∉pre->ss.Nodup->(∀ x∈ss,x∉pre/\x≠b)->bz (pre ++ b::post) b ss=pre ++ b::(ss ++ post)
 | [],pre,post,b,_,_,_=>by simp[bz]
 | x::t,pre,post,b,h,nd,hs=>by
  unfold bz;rw[v7 h];rw[KF]at nd;have hx:=hs x Jk;have e:pre ++ b::x::post=(pre ++ [b]) ++ x::post:=by simp
  rw[e,lG (ss:=t) (pre:=pre ++ [b]) (post:=post) (b:=x) (by simp[hx.1,hx.2]) nd.2 (fun y hy=>?_)]
  ·simp
  ·have hy':=hs y (Jl _ hy);refine⟨by simp[hy'.1,hy'.2],fun z=>nd.1 (z ▸ hy)⟩
def td(done:List Sk)(W:List Sl):Prop:=∀ x∈W,x.n=0\/∃ s∈done,x.pen=s.pen/\x.n=s.num
theorem oX{done:List Sk}{W:List Sl}{s:Sk}(h:td done W)(hs:1<=s.num)(ap:∀ r∈done,¬ (r.pen=s.pen/\r.num=s.num)):∀ x∈made s,x∉W:=fun x hx hW=>by
 obtain⟨p1,p2,_⟩:=bJ hx;rcases h x hW with z|⟨r,hr,z1,z2⟩
 ·omega
 ·exact ap r hr ⟨z1.symm.trans p1,z2.symm.trans p2⟩
theorem mF{done:List Sk}{W:List Sl}{s:Sk}(h:td done W):td (done ++ [s]) (bW W s):=fun x hx=>by
 unfold bW at hx;have up:x∈W->x.n=0\/∃ r∈done ++ [s],x.pen=r.pen/\x.n=r.num:=fun z=>by
  rcases h x z with q|⟨r,hr,q⟩
  ·exact .inl q
  ·exact .inr ⟨r,LK _ hr,q⟩
 split at hx
 ·rename_i ha;rcases (fO ha x).mp hx with z|z
  ·exact up z
  ·obtain⟨p1,p2,_⟩:=bJ z;exact .inr ⟨s,by simp,p1,p2⟩
 ·exact up hx
theorem cn(n:Nat):bz [ay] ay (cR n)=ay::cR n:=by
 have:=lG (ss:=cR n) (pre:=[]) (post:=[]) (b:=ay) (by simp) (d6 _ _ _) (fun x hx=>⟨by simp,fun z=>by
  obtain⟨_,_,h⟩:=bJ hx;rw[z]at h;exact absurd h (by decide)⟩)
 simpa using this
theorem km(n:Nat):td [] (bz [ay] ay (cR n)):=fun x hx=>by
 rw[cn]at hx;rcases Kg.mp hx with z|z
 ·subst z;exact .inl rfl
 ·exact .inl (bJ z).2.1
theorem uJ(n:Nat):∀ (out done:List Sk) (W:List Sl),td done W->td (done ++ out) (out.foldl bW W)
 | [],done,W,h=>by simpa using h
 | s::t,done,W,h=>by
  have:=uJ n t (done ++ [s]) (bW W s) (mF h)
  simpa using this
theorem xu{W:List Sl}{s:Sk}{R:List Sl}(h:W=ay::R):∃ R',bW W s=ay::R':=by
 unfold bW;split
 ·rename_i ha;clear ha;generalize made s=ss;generalize s.act.anch=b
  induction ss generalizing W b R with
  | nil=>exact⟨R,h⟩
  | cons x t ih=>
   unfold bz;subst h;unfold jd;split
   ·exact ih rfl _
   ·exact ih rfl _
 ·exact⟨R,h⟩
theorem tP(n:Nat):∀ (out:List Sk) (W R:List Sl),W=ay::R->∃ R',out.foldl bW W=ay::R'
 | [],W,R,h=>⟨R,h⟩
 | s::t,W,R,h=>by
  obtain⟨R',h'⟩:=xu (s:=s) h;exact tP n t _ R' h'
def aE(n:Nat)(out:List Sk):List Sl:=(j4 n out).tail
theorem iW(n:Nat)(out:List Sk):j4 n out=ay::aE n out:=by
 obtain⟨R,h⟩:=tP n out _ (cR n) (cn n);unfold aE;have:j4 n out=ay::R:=h;rw[this];rfl
theorem qv(n:Nat)(out:List Sk)(s:Sk):j4 n (out ++ [s])=bW (j4 n out) s:=by simp[j4]
theorem rY(W:List Sl):val (yG W)=yG W:=by cases W<;>rfl
theorem Ew(W:List Sl)(c:Sl):val (nx W c)=nx W c:=by
 induction W with
 | nil=>rfl
 | cons a t ih=>
  unfold nx;split
  ·exact rY t
  ·exact ih
end RQ
open RQ
namespace L3
open PySem PySem.Spec PyProof.Rows L2 PySem.SeqAt PySem.W
theorem iH{α β:Type}[DecidableEq α]{r:α->α->Bool}{s:β->β->Bool}(hr:STO r)(hs:STO s):STO (fun a b:α×β=>if a.1=b.1 then s a.2 b.2 else r a.1 b.1) where
 irrefl:=fun a=>by rw[if_pos rfl];exact hs.irrefl _
 trans:=fun a b c h1 h2=>by
  by_cases p1:a.1=b.1
  ·rw[if_pos p1]at h1
   by_cases p2:b.1=c.1
   ·rw[if_pos p2]at h2;rw[if_pos (p1.trans p2)];exact hs.trans _ _ _ h1 h2
   ·rw[if_neg p2]at h2;rw[p1,if_neg p2];exact h2
  ·rw[if_neg p1]at h1
   by_cases p2:b.1=c.1
   ·rw[<- p2,if_neg p1];exact h1
   ·rw[if_neg p2]at h2;have h3:=hr.trans _ _ _ h1 h2;rw[if_neg (fun e=>by rw[e,hr.irrefl]at h3;cases h3)]
    exact h3
 tot:=fun a b h1 h2=>by
  by_cases p1:a.1=b.1
  ·rw[if_pos p1]at h1;rw[if_pos p1.symm]at h2;exact Prod.ext p1 (hs.tot _ _ h1 h2)
  ·rw[if_neg p1]at h1;rw[if_neg (Ne.symm p1)]at h2;exact absurd (hr.tot _ _ h1 h2) p1
def Hy(a b:Str):Bool:=decide (a.cps.toList < b.cps.toList)
theorem vk:STO Hy where
 irrefl:=fun a=>jH.irrefl a.cps.toList
 trans:=fun a b c=>jH.trans a.cps.toList b.cps.toList c.cps.toList
 tot:=fun a b h1 h2=>w8 (jH.tot a.cps.toList b.cps.toList h1 h2)
def DQ(a b:Sl):Bool:=if a.pen=b.pen then (if a.n=b.n then sC a.k b.k else sC a.n b.n)else Hy a.pen b.pen
theorem vn:STO DQ where
 irrefl:=fun a=>(iH vk (iH jD jD)).irrefl (a.pen,a.n,a.k)
 trans:=fun a b c=>(iH vk (iH jD jD)).trans (a.pen,a.n,a.k) (b.pen,b.n,b.k) (c.pen,c.n,c.k)
 tot:=fun a b h1 h2=>by
  have e:=(iH vk (iH jD jD)).tot (a.pen,a.n,a.k) (b.pen,b.n,b.k) h1 h2;obtain⟨a1,a2,a3⟩:=a;obtain⟨b1,b2,b3⟩:=b;simp only[Prod.mk.injEq]at e;obtain⟨rfl,rfl,rfl⟩:=e;rfl
theorem FD(a b:Sl):ij 4 a.d b.d=DQ a b:=by
 show cE (ij 3) [.str a.pen,.int a.n,.int a.k] [.str b.pen,.int b.n,.int b.k]=_
 unfold DQ
 by_cases p:a.pen=b.pen
 ·rw[if_pos p];have e:fh (.str a.pen) (.str b.pen)=true:=o8 (by rw[p])
  by_cases n:a.n=b.n
  ·rw[if_pos n];have e2:fh (.int a.n) (.int b.n)=true:=o8 (by rw[n])
   by_cases k:a.k=b.k
   ·have e3:fh (.int a.k) (.int b.k)=true:=o8 (by rw[k])
    simp[cE,e,e2,sC,k,bo]
   ·have e3:fh (.int a.k) (.int b.k)=false:=bM fun z=>k (by injection z)
    simp[cE,e,e2,e3,ij,sC]
  ·rw[if_neg n];have e2:fh (.int a.n) (.int b.n)=false:=bM fun z=>n (by injection z)
   simp[cE,e,e2,ij,sC]
 ·rw[if_neg p];have e:fh (.str a.pen) (.str b.pen)=false:=bM fun z=>p (by injection z)
  simp[cE,e,ij,Hy]
theorem FE(a b:Sl):tq 4 a.d b.d:=by
 show Dp 3 (tq 3) [.str a.pen,.int a.n,.int a.k] [.str b.pen,.int b.n,.int b.k]
 exact⟨⟨trivial,trivial⟩,fun _=>trivial,⟨trivial,trivial⟩,fun _=>trivial,⟨trivial,trivial⟩,fun _=>trivial,trivial⟩
def Fi(l:List Sl):Prop:=l.Pairwise fun a b=>DQ b a=false
theorem tK:∀ {L M:List Sl},L.Perm M->Fi L->Fi M->L=M
 | [],M,p,_,_=>(List.nil_perm.mp p).symm
 | a::L,[],p,_,_=>absurd p.length_eq (by simp)
 | a::L,b::M,p,h1,h2=>by
  unfold Fi at h1 h2;rw[List.pairwise_cons]at h1 h2;have e:a=b:=by
   rcases Kg.mp (p.mem_iff.mp Jk)with e|m1
   ·exact e
   ·rcases Kg.mp (p.mem_iff.mpr Jk)with e|m2
    ·exact e.symm
    ·exact vn.tot _ _ (h2.1 a m1) (h1.1 b m2)
  subst e;rw[tK ((List.perm_cons a).mp p) h1.2 h2.2]
def Bm(l:List Sl):List Sl:=Classical.epsilon fun L=>L.Perm l/\Fi L
theorem DL{l M:List Sl}(h:M.Perm l)(s:Fi M):Bm l=M:=by
 have e:=Classical.epsilon_spec (p:=fun L:List Sl=>L.Perm l/\Fi L) ⟨M,h,s⟩;exact tK (e.1.trans h.symm) e.2 s
theorem y6{l m:List Sl}(h:l.Perm m):Bm l=Bm m:=by
 unfold Bm;congr 1;funext L;exact propext ⟨fun x=>⟨x.1.trans h,x.2⟩,fun x=>⟨x.1.trans h.symm,x.2⟩⟩
section
variable{X:Cx}{pins:List (IW×Obj)}{τ:St}{H H0:Hp}{s:IX}{G:Gp}{D0:IW}{A:Jy}{E:IV->IX->Prop}{P:PySem.Fin->IX->Prop}{ds:List D}{r:Nat->Nat}{vs:List V}{us:List IV}
theorem xq(I:L2.Inv X pins τ H s)(rg:RG X.K H G)(kp:Kp G H0 G H)(nD:H0 D0=none)(gD:G D0=none){n:Nat}(hu:A.units+4 < JY)
  (eD:H D0=some (XO D0 (Kh "list" us.toArray n))) (rd:RDs X.K H ds vs) (wv:Vals vs us) (few:ds.length<=900000) (hk:∀ d∈ds,Aq d) (hc:∀ a∈ds,∀ b∈ds,tq 4 a b) (hr:∀ i j a b,ds[i]?=some a->ds[j]?=some b->ij 4 a b=decide (r i < r j))
  (hj:∀ i j:Nat,i < us.length->us[i]?=us[j]?->r i=r j)
  (q:∀ (p:List Nat) H' s',p.Perm (List.range ds.length)->(p.map r).Pairwise (·<=·)->L2.Inv X pins τ H' s'->Kp G H0 G H'->RG X.K H' G->H' D0=some (.lst (p.map fun i=>vs.getD i .non))->Stb X.K H H'->P (.done (.ret .none)) s'):
  Jc (Jf X.prog X.w) A (Builtin.«list.sort» ⟨[.ref D0],[]⟩) P E s:=by
 have l1:=rd.length;have l2:=wv.length;have oD:=i5 I eD;have mu:yA (H D0):=by rw[eD];exact trivial
 have e2:=LN oD (fun _=>(#[]:Array IV));generalize (if ((#[]:Array IV).size == us.toArray.size)=true then n else n+1)=e1 at e2
 have I1:=lF (t':=s.toks) I eD e2;have I2:L2.Inv X pins τ (bG H D0 (XO D0 (Kh "list" #[] e1))) { s with heap:=((s.heap.update D0 (Kr fun _=>(#[]:Array IV))).push (Kh "tuple" us.toArray 0)).push (Kh "list" #[] 0) }:=I1.kept (t':=s.toks) fun b u e=>Ja _ (Ja _ e)
 have st1:Stb X.K H (bG H D0 (XO D0 (Kh "list" #[] e1))):=ip mu;have rd2:=RDs.mono st1 _ _ rd;have eD2:(bG H D0 (XO D0 (Kh "list" #[] e1))) D0=some (XO D0 (Kh "list" #[] e1)):=aU;have mu2:yA ((bG H D0 (XO D0 (Kh "list" #[] e1))) D0):=by rw[eD2];exact trivial
 have fin:∀ (p:List Nat) (st:Jp),p.Perm (List.range ds.length)->(p.map r).Pairwise (·<=·)->(Jm st).map (·.2)=(p.map fun i=>us.getD i Value.none).toArray->KJ st=none->
   Jc (Jf X.prog X.w) A (do
    let touched:=(<- seqEpoch D0) != e1
    N5 (.ref D0) fun _=>(Jm st).map (·.2)
    if let some e:=KJ st then rule ("list.sort.comparison-raised");throw e
    if touched then rule ("list.sort.modified");raiseError "ValueError" ("list modified during sort")
    ret .none) P E { s with heap:=((s.heap.update D0 (Kr fun _=>(#[]:Array IV))).push (Kh "tuple" us.toArray 0)).push (Kh "list" #[] 0) }:=by
  intro p st hp hs ha hf;have oD2:=i5 I2 eD2;have inr:∀ i∈p,i < vs.length:=fun i hi=>by rw[<- l1];exact mem_range.mp (hp.mem_iff.mp hi)
  have lp:p.length=ds.length:=by rw[hp.length_eq,List.length_range]
  have hv:Vals (p.map fun i=>vs.getD i .non) (p.map fun i=>us.getD i Value.none):=oE wv inr;have e3:=LN oD2 (fun _=>(p.map fun i=>us.getD i Value.none).toArray);rw[ha,hf];refine IU (Nx oD2 rfl ?_);refine IU (L4 oD2 rfl ?_ (JQ _) (by rw[Jj,IZ,lp,JW];omega))
  simp only[bne_self_eq_false,Bool.false_eq_true,if_false];have I3:=I2.write (x:=D0) (e:=D0) (o:=.lst (p.map fun i=>vs.getD i .non)) (t':=s.toks) mu2 (.inl rfl) (fun b u hb hu=>(Li _ (Kr fun _=>(p.map fun i=>us.getD i Value.none).toArray) (Ne.symm hb)).trans hu) ⟨_,e3⟩ ⟨by rw[IZ,lp,JW];omega,_,_,hv,e3⟩
  refine IY (q p _ _ hp hs I3 (oM (oM kp nD) nD) (qw (qw rg gD mu) gD mu2) aU ?_);exact⟨fun b xs z=>(ip mu2).t _ _ (st1.t _ _ z),fun b xs z=>(ip mu2).l _ _ (st1.l _ _ z)⟩
 rw[list_sort_plain];refine IU (N_ oD rfl ?_);refine IU (L4 oD rfl ?_ (by rw[Jj,JW];omega) (JQ _))
 refine IU (Nx e2 rfl ?_);refine IU (MM ?_ (by show us.length<=_;rw[JW];omega))
 refine IU (M8 ?_ (JQ _));refine JZ ?_;dsimp only;have ez:(us.toArray.zip us.toArray).toList=(List.range us.length).map fun i=>(us.getD i Value.none,us.getD i Value.none):=by
  rw[ksk_zip];have:=range_getD us Value.none
  conv=>lhs;rw[<- this]
  rw[List.zip_map']
 by_cases h2:us.length < 2
 ·have hs:us.toArray.size < 2:=by rw[Jj];exact h2
  rw[if_pos hs,if_pos hs];refine IU (IY ?_);refine IU (IY ?_);refine fin (List.range ds.length) (Nd general' (us.toArray.zip us.toArray) #[] 7 none) (List.Perm.refl _) ?_ ?_ rfl
  ·have:ds.length=0\/ds.length=1:=by walk_at "o"
   rcases this with e|e<;>rw[e]<;>simp[List.range_succ]
  ·apply Array.toList_inj.mp;show ((us.toArray.zip us.toArray).map (·.2)).toList=_
   rw[Array.toList_map,ez,JK,show ds.length=us.length by walk_at "o"]
   rfl
 ·have hs:¬ us.toArray.size < 2:=by rw[Jj];exact h2
  rw[if_neg hs,if_neg hs];refine IU (EB I2 hk rd2 wv (by walk_at "o") ?_)
  have ix:∀ x,x∈(us.toArray.zip us.toArray).toList->∃ i,i < us.length/\(us.getD i Value.none,us.getD i Value.none)=x:=fun x hx=>by
   rw[ez]at hx;obtain⟨i,hi,e⟩:=mem_map.mp hx;exact⟨i,mem_range.mp hi,e⟩
  let ixOf:Jd->Nat:=fun x=>Classical.epsilon fun i=>i < us.length/\(us.getD i Value.none,us.getD i Value.none)=x
  have ixs:∀ x,x∈(us.toArray.zip us.toArray).toList->ixOf x < us.length/\(us.getD (ixOf x) Value.none,us.getD (ixOf x) Value.none)=x:=fun x hx=>Classical.epsilon_spec (p:=fun i=>i < us.length/\(us.getD i Value.none,us.getD i Value.none)=x) (ix x hx);have an:xn X.prog X.w A { s with heap:=((s.heap.update D0 (Kr fun _=>(#[]:Array IV))).push (Kh "tuple" us.toArray 0)).push (Kh "list" #[] 0) } (MB true) (fun x=>r (ixOf x)) (fun x=>x∈(us.toArray.zip us.toArray).toList):=by
   intro x y hx hy;obtain⟨b1,e1'⟩:=ixs x hx;obtain⟨b2,e2'⟩:=ixs y hy;have kx:=congrArg Prod.fst e1';have ky:=congrArg Prod.fst e2';dsimp only at kx ky;rw[<- kx,<- ky];show Jc _ _ (keyLt' (MB true) (us.getD (ixOf x) Value.none) (us.getD (ixOf y) Value.none)) (fun b s'=>s'=_/\b=decide (r (ixOf x) < r (ixOf y))) _ _
   clear kx ky e1' e2';generalize ixOf x=i at b1 ⊢;generalize ixOf y=j at b2 ⊢;obtain⟨v1,f1,g1⟩:=Vals.getV (i:=i) (u:=us[i]'b1) wv (by simp)
   obtain⟨v2,f2,g2⟩:=Vals.getV (i:=j) (u:=us[j]'b2) wv (by simp)
   obtain⟨d1,c1,k1⟩:=RDs.getV rd2 f1;obtain⟨d2,c2,k2⟩:=RDs.getV rd2 f2;rw[show us.getD i Value.none=us[i]'b1 by simp[b1],show us.getD j Value.none=us[j]'b2 by simp[b2]]
   exact GU I2 hu (hc _ (Js c1) _ (Js c2)) (hk _ (Js c1)) (hk _ (Js c2)) k1 k2 g1 g2 ⟨rfl,hr i j d1 d2 c1 c2⟩
  refine IU (Ka (yW (E:=E) (st:=Nd (MB true) (us.toArray.zip us.toArray) #[] 7 none) (Q:=fun _ st'=>KJ st'=none/\(Jm st').toList.Perm (us.toArray.zip us.toArray).toList/\Up (fun x=>r (ixOf x)) (Jm st').toList) an (fun x hx=>hx) rfl rfl rfl fun st' a1 a2 a3=>⟨a1,a2,a3⟩) ?_ fun _ _ x=>x)
  rintro⟨⟨⟩,st'⟩ s' ⟨rfl,hf,hp,up⟩
  dsimp only at hf hp up ⊢;obtain⟨p,ep,hp'⟩:=kU hp ez;refine fin p st' (by rw[show ds.length=us.length by walk_at "o"];exact hp') ?_ ?_ hf
  ·unfold Up at up;rw[ep,Lg]at up;rw[Lg];refine List.Pairwise.imp_of_mem (fun {i j} hi hj' hij=>?_) up;have same:∀ i∈p,r (ixOf (us.getD i Value.none,us.getD i Value.none))=r i:=fun i hi=>by
    have hi':i < us.length:=mem_range.mp (hp'.mem_iff.mp hi);obtain⟨b1,e1'⟩:=ixs (us.getD i Value.none,us.getD i Value.none) (by rw[ez];exact mem_map.mpr ⟨i,mem_range.mpr hi',rfl⟩)
    have e3:=congrArg Prod.fst e1';dsimp only at e3;clear e1';generalize ixOf (us.getD i Value.none,us.getD i Value.none)=k at b1 e3 ⊢;refine hj _ _ b1 ?_;rw[Jb b1,Jb hi'];rw[Jn,Jn,Jb b1,Jb hi']at e3;exact congrArg some e3
   have Rn:r (ixOf (us.getD i Value.none,us.getD i Value.none))<=r (ixOf (us.getD j Value.none,us.getD j Value.none)):=hij;rw[same i hi,same j hj']at Rn;exact Rn
  ·apply Array.toList_inj.mp;rw[Array.toList_map,ep,JK];rfl
theorem Bo(I:L2.Inv X pins τ H s){x y:Sl}{b:IW}(h1:RD X.K H x.d (.ref b))(h2:RD X.K H y.d (.ref b)):x=y:=
 Sl.d_inj (n8 I 4 (by intro d hd;simp only[Kg,Kz,or_false]at hd;rcases hd with rfl|rfl|rfl<;>trivial) (by intro d hd;simp only[Kg,Kz,or_false]at hd;rcases hd with rfl|rfl|rfl<;>trivial) h1 h2)
theorem mL{ps:List Sl}{src:IV}{Q:IV->IX->Prop}(hu:X.A.units+8 < JY)(I:L2.Inv X pins τ H s)(rg:RG X.K H G)(hz:ps.length<=900000)
  (col:∀ {E':IV->IX->Prop} {Q':List IV->IX->Prop},(∀ h' tk us vs,(∀ b o,s.heap.get? b=some o->h'.get? b=some o)->RDs X.K H (ps.map Sl.d) vs->Vals vs us->Q' us { s with heap:=h',toks:=tk })->Jc (Jf X.prog X.w) X.A.in1 (collect src) Q' E' s)
  (k:∀ D0 H' s' vs,L2.Inv X pins τ H' s'->Kp G H G H'->RG X.K H' G->H D0=none->H' D0=some (.lst vs)->RDs X.K H' ((Bm ps).map Sl.d) vs->Q (.ref D0) s'):
  Jc (Jf X.prog X.w) X.A (call (.builtin "sorted") [src]) Q E s:=by
 refine Calls.call_function_entry kind_sorted plain_sorted entry_sorted (args_sorted1 _) ?_;unfold Builtin.«sorted»;refine IU (m:=checkCount "sorted" 1 1 _) (IY ?_);refine IU (col fun h' tk us vs hk rd wv=>?_);have l1:=rd.length;have l2:=wv.length;rw[IZ]at l1;have I1:L2.Inv X pins τ H { s with heap:=h',toks:=tk }:=I.kept hk
 refine IU (M8 ?_ (by rw[JW];omega))
 have fD:=I1.fresh;have I2:=mE (t':=tk) (o:=Kh "list" us.toArray 0) I1 rfl rfl;have st:Stb X.K H (bG H h'.objs.size (XO h'.objs.size (Kh "list" us.toArray 0))):=(Kp.laid (G:=G) fD).stb rg;refine IU (JZ (J9 slot_list_sort ⟨_,i5 I2 aU,rfl⟩ entry_list_sort ?_ (args_list_sort _)));have at_:∀ (i:Nat) a,(ps.map Sl.d)[i]?=some a->∃ x,ps[i]?=some x/\a=x.d:=fun i a e=>by
  rw[JB]at e;cases h:ps[i]? with
  | none=>rw[h]at e;cases e
  | some x=>rw[h]at e;cases e;exact⟨x,rfl,rfl⟩
 refine xq (A:=X.A.in1.in1) (r:=fun i=>rankIn DQ ps (ps.getD i default)) I2 (rg.laid fD) (Kp.laid fD) fD (rg.free fD) (by show X.A.units+1+1+4 < JY;omega) aU (RDs.mono st _ _ rd) wv (by rw[IZ];exact hz) (fun d hd=>?_) (fun a ha b hb'=>?_) (fun i j a b ha hb'=>?_) (fun i j hi e=>?_) fun p H' s' hp' hs I' kp' rg' e' st'=>⟨_,rfl,?_⟩
 ·obtain⟨x,_,rfl⟩:=mem_map.mp hd;exact⟨_,_,rfl⟩
 ·obtain⟨x,_,rfl⟩:=mem_map.mp ha;obtain⟨y,_,rfl⟩:=mem_map.mp hb';exact FE _ _
 ·obtain⟨x,ex,rfl⟩:=at_ i a ha;obtain⟨y,ey,rfl⟩:=at_ j b hb';rw[FD];have g1:ps.getD i default=x:=by rw[Jn,ex];rfl
  have g2:ps.getD j default=y:=by rw[Jn,ey];rfl
  rw[g1,g2];exact rank_lt vn.swo (Js ex)
 ·have hj:j < us.length:=by
   rcases KZ j us.length with g|g
   ·exact g
   ·rw[J5 g,Jb hi]at e;cases e
  obtain⟨v1,f1,g1⟩:=Vals.getV (i:=i) (u:=us[i]'hi) wv (by simp)
  obtain⟨v2,f2,g2⟩:=Vals.getV (i:=j) (u:=us[j]'hj) wv (by simp)
  obtain⟨d1,c1,k1⟩:=RDs.getV rd f1;obtain⟨d2,c2,k2⟩:=RDs.getV rd f2;obtain⟨x,ex,rfl⟩:=at_ i d1 c1;obtain⟨y,ey,rfl⟩:=at_ j d2 c2;have eu:us[i]=us[j]:=by
   rw[Jb hi,Jb hj]at e;exact Option.some.inj e
  obtain⟨b1,rfl,_⟩:=i4 (lE x) k1;obtain⟨b2,rfl,_⟩:=i4 (lE y) k2;rw[eu]at g1;have eb:b1=b2:=by
   have z:Value.ref b1=Value.ref b2:=(show us[j]=Value.ref b1 from g1).symm.trans (show us[j]=Value.ref b2 from g2)
   injection z
  subst eb;have exy:=Bo I1 k1 k2;subst exy;show rankIn DQ ps (ps.getD i default)=rankIn DQ ps (ps.getD j default)
  rw[Jn,Jn,ex,ey]
 ·rw[IZ]at hp';have inr:∀ i∈p,i < ps.length:=fun i hi=>mem_range.mp (hp'.mem_iff.mp hi);have key:Bm ps=p.map fun i=>ps.getD i default:=by
   refine DL ?_ ?_
   ·have:=hp'.map fun i=>ps.getD i default;rwa[range_getD ps default]at this
   ·unfold Fi;rw[Lg]at hs ⊢;refine List.Pairwise.imp_of_mem (fun {i j} hi hj hij=>?_) hs;have m:ps.getD j default∈ps:=by
     rw[Jn,Jb (inr j hj)];exact K6 _
    rw[rank_lt vn.swo m,decide_eq_false_iff_not,not_lt];exact hij
  refine IY ⟨_,rfl,k _ H' s' _ I' kp' rg' fD e' ?_⟩;have fin:=r9 (p:=p) (RDs.mono st' _ _ (RDs.mono st _ _ rd)) fun i hi=>by rw[<- l1];exact inr i hi
  have e3:(p.map fun i=>(ps.map Sl.d).getD i .non)=(Bm ps).map Sl.d:=by
   rw[key,JK];refine Kq fun i hi=>?_;have:=inr i hi;simp[Jn,this]
  rw[e3]at fin;exact fin
end
def wb(to:bP):bP:=fun σ G Q=>to σ G fun x G1=>match qR G1 (val x) with
 | some ds=>∃ ps:List Sl,ds=ps.map Sl.d/\ps.length<=900000/\Q (.fl ((Bm ps).map Sl.d)) G1
 | none=>False
theorem BW{X:Cx}{o:JJ}{to:bP}{p0 pos:Pos}(hu:X.A.units+8 < JY)(hg:Gl X "sorted")(hm:X.mg "sorted"=none)(ho:PE X o (aI X.K to))
  (hs:Jx [o] X.env=[(false,eval o X.env)]:=by rfl):PE X (.Call (.Name "sorted" p0) [o] [] pos) (aI X.K (wb to)):=by
 rintro pins s τ H Q I ⟨σ,G,Q3,rs,rg,h,kf⟩
 refine KU (gx I hg hm (u:=.builtin "sorted") (by decide +kernel) ?_ (by decide) (by decide))
 refine PyProof.Rows.callWith_builtin1 ?_ (by rw[hs];rfl) (by rfl)
 rw[show K3 pos (Jx [o] X.env)=[(false,eval o X.env)]by rw[hs];rfl]
 refine Kc (cm (cD ho I rs rg h) fun ov s1 ⟨ox,H1,I1,rox,x,G1,q1,k1,rg1,rd1⟩=>KE ?_);split at q1
 ·rename_i ds hq;obtain⟨ps,rfl,hz,q1⟩:=q1;obtain⟨b,xs,rfl,sq,rr⟩:=iC (G:=G1) (H:=H1) hq (.of rd1) rg1;cases rox;obtain⟨its,rv,pl,_⟩:=I1.list sq;have l1:=rr.length;have l2:=rv.length;rw[IZ]at l1;refine mL hu I1 rg1 hz (fun {E' Q'} q'=>collect_list pl.isList (q' _ _ its xs (fun b' o' q=>?_) rr rv) (by rw[JW];omega)) fun D0 H' s' vs I' kp' rg' n0 e' rd'=>?_
  ·have hlt:b' < s1.heap.objs.size:=Ju q;rw[Heap.get?_update_ne _ _ _ _ (JP hlt),Nn _ _ _ (JP hlt)];exact q
  ·exact⟨.ref D0,H',I',rfl,kf _ G1 _ H' q1 (k1.trans kp') rg' (.inl ⟨_,D0,_,rfl,rfl,e',rg1.free n0,rd',k1.fr (jE n0)⟩)⟩
 ·exact q1.elim
end L3
namespace L3
open PySem PySem.Spec PyProof.Rows L2 PySem.SeqAt PySem.W
def jQ(h:JI)(d:IW)(vs:List IV)(ep:Nat):Prop:=∃ o es,h.get? d=some o/\o.ExactDict/\o.data=.dict es ep/\es.toList.map (·.key)=vs
section
variable{prog:Jw}{w:JG}{A:Jy}{E:IV->IX->Prop}{s:IX}{d r it:IW}{vs:List IV}{ep i:Nat}
theorem jQ.ty(x:jQ s.heap d vs ep):s.TypeIs (.ref d) "dict":=let ⟨o,_,e,z,_⟩:=x;⟨o,e,z.1⟩
theorem jQ.there{h:JI}(x:jQ h d vs ep):d < h.objs.size:=let ⟨_,_,e,_⟩:=x;Ju e
theorem jQ.stay{h h':JI}(x:jQ h d vs ep)(k:∀ o,h.get? d=some o->h'.get? d=some o):jQ h' d vs ep:=let ⟨o,es,e,z⟩:=x;⟨o,es,k o e,z⟩
theorem vG(hs:(d == J8)=false):MeetsIn prog w (Builtin.«dict.keys» ⟨[.ref d],[]⟩) (fun _ R s=>(∃ vs ep,jQ s.heap d vs ep)/\
   R (.ok (.ret (.ref s.heap.objs.size))) { s with heap:=s.heap.push (⟨.type "dict_keys",none,.fields #[.ref d],#[]⟩:Obj) }):=
 .of_wp fun A R s ⟨⟨vs,ep,x⟩,q⟩=>by
  refine IU ?_;unfold Ov;refine IU (Ls x.ty ?_);show Jc _ _ (pure d) _ _ s;refine IY ?_
  show Jc _ _ (K2 d >>= _) _ _ s;unfold K2
  rw[if_neg (fun z=>by rw[hs]at z;cases z)];refine IU (IY ?_)
  exact IU (JS (IY ⟨_,rfl,q⟩))
theorem zC{Q:IV->IX->Prop}(hr:KdlKeysView s.heap r d)(x:jQ s.heap d vs ep)
  (q:Q (.ref s.heap.objs.size) { s with heap:=s.heap.push { cls:=.type "dict_keyiterator",data:=.fields #[.ref d,.int 0 0,.int vs.length 0,.int ep 0] } }):Jc (Jf prog w) A (Mf (.ref r)) Q E s:=by
 obtain⟨ov,e1,c1,d1⟩:=id hr;obtain⟨o,es,e2,c2,d2,rfl⟩:=x;refine Mr hr.typeIs OF (J9 OF hr.typeIs kdl_entry_keys_iter ?_ (kdl_args_keys_iter _));unfold Builtin.«dict_keys.__iter__»;refine IU (IY ?_);refine IU ?_;unfold NP;refine IU (Ky e1 d1 (x:=.ref d) rfl (IY ?_));refine IU ?_;unfold Nv;refine IU (Ko e2 d2 ?_);refine IU (Lk e2 d2 ?_);have own:Kj "dict_keyiterator"=false:=by decide
 simp only[own,Bool.false_eq_true,if_false];refine JS (IY ⟨_,rfl,"dict_keyiterator",_,⟨_,Je _ rfl,rfl⟩,Lp.lookup,?_⟩)
 simpa[LB]using q
theorem tV{v:IV}{Q:Option IV->IX->Prop}(hi:s.heap.IsKeyIter it d i vs.length ep)(x:jQ s.heap d vs ep)(hv:vs[i]?=some v)
  (q:∀ h',h'.IsKeyIter it d (i+1) vs.length ep->KO it s.heap h'->Q (some v) { s with heap:=h' }):Jc (Jf prog w) A (Lf (.ref it)) Q E s:=by
 obtain⟨o,e1,c1,d1⟩:=id hi;obtain⟨od,es,e2,c2,d2,rfl⟩:=x;unfold Lf;refine IU (Lq (Km (name:=I_ "__next__") hi.typeIs Lp (J9 Lp hi.typeIs NC ?_ (Nu _))));refine IU (IY ?_);refine IU ?_;refine IU ?_
 first|refine IU (Ld hi.typeIs (IY ?_))|refine IU (LG hi.typeIs (IY ?_))
 refine IU (MO e1 d1 ?_);have own:Kj "dict_keyiterator"=false:=by decide
 simp only[own,Bool.false_eq_true,if_false];show Jc _ _ (if (Value.ref d == Value.none)=true then _ else _) _ _ s;rw[if_neg (show ¬ ((Value.ref d == Value.none)=true)from Bool.false_ne_true)]
 refine IU (IY ?_);refine IU (Ko e2 d2 ?_);have z:es.size=(es.toList.map (·.key)).length:=by simp
 rw[if_neg (by rw[z];simp)];refine IU (IY ?_);refine IU (Lk e2 d2 ?_)
 rw[if_neg (by simp)];refine IY ?_
 have lt:i < es.size:=by
  rw[z];rcases KZ i (es.toList.map (·.key)).length with h|h
  ·exact h
  ·rw[J5 h]at hv;cases hv
 have val:es[i].key=v:=by
  rw[JB]at hv
  simpa[lt]using hv
 simp only[show ¬ ((i:Int) < 0)from by walk_at "o",if_false,Int.toNat_natCast,Array.getElem?_eq_getElem lt];refine IU ?_
 first|refine IU (Ld hi.typeIs (IY ?_))|refine IU (LG hi.typeIs (IY ?_))
 refine IU (Oi hi.typeIs ?_);show Jc _ _ (Om (.ref it) 1 (LB ((i:Int)+1)) >>= _) _ _ s;refine IU (ML e1 d1 (by simp) ?_)
 have hi':(s.heap.update it (Mx (·.setIfInBounds 1 (LB ((i:Int)+1))))).IsKeyIter it d (i+1) (es.toList.map (·.key)).length ep:=
  ⟨_,LX _ e1 (Oj (Mm d1 _)),(OS ..).trans c1,by rw[Mm d1];simp[LB]⟩
 refine IU (JZ ?_);refine IU (Oi (s:={ s with heap:=s.heap.update it (Mx (·.setIfInBounds 1 (LB ((i:Int)+1)))) }) hi'.typeIs ?_)
 show Jc _ _ (pure es[i].key) _ _ _
 exact IY (IY ⟨_,rfl,IY (val ▸ q _ hi' (K_ ..))⟩)
theorem wH{Q:Option IV->IX->Prop}(hh:A.handled=none)(hi:s.heap.IsKeyIter it d i vs.length ep)(x:jQ s.heap d vs ep)(hv:vs[i]?=none)
  (q:∀ h',Heap.ExtBut it s.heap h'->Q none { s with heap:=h' }):Jc (Jf prog w) A (Lf (.ref it)) Q E s:=by
 obtain⟨o,e1,c1,d1⟩:=id hi;obtain⟨od,es,e2,c2,d2,rfl⟩:=x;unfold Lf;refine IU (Lq (Km (name:=I_ "__next__") hi.typeIs Lp (J9 Lp hi.typeIs NC ?_ (Nu _))));refine IU (IY ?_);refine IU ?_;refine IU ?_
 first|refine IU (Ld hi.typeIs (IY ?_))|refine IU (LG hi.typeIs (IY ?_))
 refine IU (MO e1 d1 ?_);have own:Kj "dict_keyiterator"=false:=by decide
 simp only[own,Bool.false_eq_true,if_false];show Jc _ _ (if (Value.ref d == Value.none)=true then _ else _) _ _ s;rw[if_neg (show ¬ ((Value.ref d == Value.none)=true)from Bool.false_ne_true)]
 refine IU (IY ?_);refine IU (Ko e2 d2 ?_);have z:es.size=(es.toList.map (·.key)).length:=by simp
 rw[if_neg (by rw[z];simp)];refine IU (IY ?_);refine IU (Lk e2 d2 ?_)
 rw[if_neg (by simp)];refine IY ?_
 have ge:es.size<=i:=by rw[z];simpa using hv
 simp only[show ¬ ((i:Int) < 0)from by walk_at "o",if_false,Int.toNat_natCast,Array.getElem?_eq_none ge];refine IU ?_
 first|refine IU (Ld hi.typeIs (IY ?_))|refine IU (LG hi.typeIs (IY ?_))
 show Jc _ _ (Om (.ref it) 0 .none >>= _) _ _ s;refine IU (ML e1 d1 (by simp) ?_)
 show Jc _ _ (newExc (.type "StopIteration") [] >>= _) _ _ _;refine IU ?_
 simp only[newExc,newTuple];refine IU (JS ?_ (by size_fits))
 refine IU (m:=MQ _ _) (wpAny_of_eq (a:=Value.none) (by first|rfl|(simp only[MQ];rfl)) ?_);refine JS ?_ (by size_fits)
 simp only[raiseNew];refine IU (wpAny_handled ?_);rw[show A.in1.handled=none from hh]
 refine IU (IY (wpAny_throw ?_));refine IU (Nq (T:="StopIteration") (b:=true) ⟨_,Je _ rfl,rfl⟩ NI ?_);exact IY (q _ (((K_ ..).extBut.push _).push _))
theorem zB(hh:A.handled=none)(hne:d≠it):Walks prog w A it [it,d] [it] vs.length (fun i v=>vs[i]?=some v) (fun i h=>h.IsKeyIter it d i vs.length ep/\jQ h d vs ep) where
 sub:=fun b hb=>by rw[mem_singleton.mp hb];exact Jk
 frame:=fun _ _ _ t k=>⟨t.1.at fun o e=>k it Jk o e,t.2.stay fun o e=>k d (Jl _ Jk) o e⟩
 item:=fun i s Q E hi t q=>by
  obtain⟨v,hv⟩:∃ v,vs[i]?=some v:=⟨vs[i],by simp[hi]⟩
  refine tV t.1 t.2 hv fun h' a b=>?_;exact q v h' s.toks hv ⟨a,t.2.stay fun o e=>b.extBut d o hne e⟩ fun c o hc e=>b.extBut c o (fun z=>hc (by rw[z];exact Jk)) e
 done:=fun s Q E t q=>wH hh t.1 t.2 (by simp) fun h' b=>q h' s.toks fun c o hc e=>b c o (fun z=>hc (by rw[z];exact Jk)) e
 self:=fun _ _ _ _ t q=>wpAny_pyIter_keyiter t.1 q
theorem Bz:KdlSrc prog w "dict_keys" r d vs.length (fun i v=>vs[i]?=some v) (fun h=>KdlKeysView h r d/\jQ h d vs ep) where
 type:=fun _ x=>x.1.typeIs
 there:=fun _ x=>⟨let ⟨_,e,_⟩:=x.1;Ju e,x.2.there⟩
 keep:=fun _ _ x k=>⟨let ⟨o,e,z⟩:=x.1;⟨o,k r (.inl rfl) o e,z⟩,x.2.stay fun o e=>k d (.inr rfl) o e⟩
 notList:=by decide
 notTuple:=by decide
 hint:=fun _ _ _ _ x q=>kdl_hint_keys x.1.typeIs q
 iter:=fun _ _ hh x=>⟨_,_,(fun _ _ q=>zC x.1 x.2 q),zB hh (JP x.2.there),⟨⟨_,Je _ rfl,rfl,rfl⟩,x.2.stay fun o e=>Ja _ e⟩⟩
end
def we(to:bP):bP:=fun σ G Q=>to σ G fun x G1=>match val x with
 | .ref a=>match G1 a with
  | some (.dT _ kvs)=>∃ ps:List Sl,kvs.map (·.1)=ps.map Sl.key/\ps.length<=900000/\Q (.fl ((Bm ps).map Sl.d)) G1
  | _=>False
 | _=>False
theorem FC{K:JD}{H:Hp}{x:Sl}{b:IW}(h:ja K H b (x.key.map kV)):RD K H x.d (.ref b):=by
 unfold Sl.d;simp only[RD];exact⟨b,_,rfl,h,RDs.cons (by simp only[RD];rfl) (RDs.cons (by simp only[RD];rfl) (RDs.cons (by simp only[RD];rfl) RDs.nil))⟩
theorem zl{K:JD}{H:Hp}{kvs:List (List aQ×D)}{xs:List (List aQ×IW×IV)}(r:jK K H kvs xs):∀ {ps:List Sl},kvs.map (·.1)=ps.map Sl.key->RDs K H (ps.map Sl.d) (xs.map fun x=>V.ref x.2.1):=by
 unfold jK at r
 induction r with
 | nil=>
  intro ps e;rw[List.map_eq_nil_iff.mp e.symm];exact RDs.nil
 | cons h _ ih=>
  intro ps e;cases ps with
  | nil=>cases e
  | cons y t=>
   simp only[Jz,List.cons.injEq]at e;obtain⟨h1,h2,_⟩:=h;rw[Jz,Jz];rw[e.1]at h2;exact RDs.cons (FC h2) (ih e.2)
theorem BX{X:Cx}{o:JJ}{to:bP}{p0 apos cpos pos:Pos}(hu:X.A.units+8 < JY)(hc:X.calm=true)(hg:Gl X "sorted")(hm:X.mg "sorted"=none)(ho:PE X o (aI X.K to))
  (QI:K9 o "keys" X.env (eval o X.env)=eval o X.env:=by rfl) (QH:(apos.endLine == cpos.line)=true:=by rfl):
  PE X (.Call (.Name "sorted" p0) [.Call (.Attribute o "keys" apos) [] [] cpos] [] pos) (aI X.K (we to)):=by
 rintro pins s τ H Q I ⟨σ,G,Q3,rs,rg,h,kf⟩
 refine KU (gx I hg hm (u:=.builtin "sorted") (by decide +kernel) ?_ (by decide) (by decide))
 refine PyProof.Rows.callWith_builtin1 ?_ (by rfl) (by rfl)
 show Jc _ _ (spliced [(false,eval (.Call (.Attribute o "keys" apos) [] [] cpos) X.env)]) _ _ _
 refine Kc (NS QI QH (cm (cD ho I rs rg h) fun ov s1 ⟨ox,H1,I1,rox,x,G1,q1,k1,rg1,rd1⟩=>?_));split at q1
 ·rename_i a hx;rw[hx]at rd1;simp only[RD]at rd1;subst rd1;cases rox;split at q1
  ·rename_i hw kvs hga;obtain⟨ps,ek,hz,q1⟩:=q1;obtain⟨hob,eo,ro⟩:=rg1 a _ hga;cases hob with
   | ext φ=>
    obtain⟨xs,rfl,rt,nd,_⟩:=ro;obtain⟨hsm,o1,es,ep,g1,g2,g3,g4⟩:=(show bZ X.prog X.w H1 s1.heap a (.ext (qV hw a xs))from I1.hok a _ eo).1
    have dr:jQ s1.heap a (xs.map fun x=>Value.ref x.2.1) ep:=⟨o1,es,g1,g2,g3,by rw[g4,JK];rfl⟩
    have rk:=zl rt ek;have lk:=rk.length;rw[IZ,IZ]at lk;refine⟨"dict","dict.keys",PySem.F.plainAttrs_dict,PySem.F.slot_dict_keys,PySem.F.type_dict_keys,dr.ty,fun b e=>?_,?_⟩
    ·cases e;exact⟨o1,g1,g2.2.1⟩
    ·refine Lj rfl (PySem.evalArgs_none (Mc PySem.F.slot_dict_keys dr.ty PySem.F.entry_dict_keys (PySem.F.args_dict_keys_1 _) (vG hsm) ⟨⟨_,ep,dr⟩,?_⟩));refine KE ?_;have I2:L2.Inv X pins τ H1 { s1 with heap:=s1.heap.push { cls:=.type "dict_keys",data:=.fields #[.ref a] } }:=I1.kept (t':=s1.toks) fun b u e=>Ja _ e
     refine mL hu I2 rg1 hz (fun {E' Q'} q'=>kdu_collect (A:=X.A.in1) (Bz (r:=s1.heap.objs.size) (d:=a) (vs:=xs.map fun x=>Value.ref x.2.1) (ep:=ep)) (I.ok.hd hc) ⟨⟨_,Je _ rfl,rfl,rfl⟩,dr.stay fun b e=>Ja _ e⟩ (by rw[IZ,JW];omega) fun h' tk acc hk hacc=>?_) fun D0 H' s' vs I' kp' rg' n0 e' rd'=>?_
     ·have ea:acc.toList=xs.map fun x=>Value.ref x.2.1:=by
       refine List.ext_getElem? fun i=>?_;rcases KZ i acc.size with h|h
       ·have e:acc[i]?=some acc[i]:=by simp[h]
        have:=hacc.2 i _ e;rw[this];simp[h]
       ·rw[J5 (by simpa using h),J5 (by rw[<- hacc.1];exact h)]
      rw[ea];exact q' h' tk _ _ hk rk (qf xs)
     ·exact⟨.ref D0,H',I',rfl,kf _ G1 _ H' q1 (k1.trans kp') rg' (.inl ⟨_,D0,_,rfl,rfl,e',rg1.free n0,rd',k1.fr (jE n0)⟩)⟩
   | _=>exact ro.elim
  ·exact q1.elim
 ·exact q1.elim
open HT
section
variable{X:Cx}{prog:Jw}{w:JG}{A:Jy}{E:IV->IX->Prop}{s:IX}
def ID:GY:=fun x lo hi G Q=>match x with
 | .tup ds=>Q (.tup (cutD ds lo hi)) G
 | _=>False
end
end L3
namespace L2
open PySem PySem.Spec PyProof.Rows
end L2
namespace L3
open PySem PySem.Spec PyProof.Rows L2
theorem RDs.bls_inv{K:JD}{H:Hp}:∀ (ns:List Bool) {xs:List V},RDs K H (ns.map D.bl) xs->xs=ns.map V.bl
 | [],xs,h=>h.inv_nil
 | n::r,xs,h=>by
  obtain⟨x,t,e,h1,h2⟩:=RDs.inv_cons (d:=.bl n) (ds:=r.map D.bl) h;simp only[RD]at h1;subst e h1;rw[RDs.bls_inv r h2];rfl
theorem uX:∀ {ns:List Bool} {us:List IV},Vals (ns.map V.bl) us->us=ns.map Value.bool
 | [],us,w=>by cases w;rfl
 | n::r,us,w=>by
  rw[Jz]at w;cases w with
  | cons h w=>
   cases h;rw[uX w];rfl
def xg:xl:=fun ds G Q=>match ds with
 | [d]=>∃ bs:List Bool,qR G d=some (bs.map D.bl)/\Q (.bl (bs.all id)) G
 | _=>False
theorem qS:∀ (bs:List Bool),(List.range bs.length).all (fun i=>bs.getD i false)=bs.all id
 | []=>rfl
 | b::r=>by
  rw[Jv,List.range_succ_eq_map,List.all_cons,List.all_cons,List.all_map];have:=qS r;rw[<- this];rfl
theorem Fg{X:Cx}(hc:X.calm=true):eV X (.builtin "all") (lA X.K xg):=by
 rintro pins s σ H vs us Q I rv ⟨ds,G,Q3,rds,rg,h,kk⟩
 unfold xg at h;split at h
 ·rename_i d;obtain⟨v,rfl,rd⟩:=fX rds;obtain⟨bs,he,h⟩:=h;obtain⟨a,xs,rfl,sq,r⟩:=iC (G:=G) (H:=H) he (.of rd) rg;obtain⟨u,rfl,ru⟩:=qh rv;cases ru;rw[RDs.bls_inv bs r]at sq;obtain⟨its,w,pl,hz⟩:=I.list sq;have ei:its=bs.map Value.bool:=uX w;have ll:a < s.heap.objs.size:=let ⟨o,e,_⟩:=pl.isList;Ju e;refine call_all_walk (Ms pl.isList ?_);refine⟨s.heap.objs.size,_,_,_,_,_,fun i=>bs.getD i false,rfl,Walks.list (A:=X.A.in1) (I.ok.hd hc) _ a (JP ll) its.toArray,⟨⟨_,Je _ rfl,rfl,rfl⟩,pl.isList.push _⟩,fun i v s Q E hP hQ=>?_,fun h' tk hk=>?_⟩
  ·have e:v=.bool (bs.getD i false):=by
    have hP':its[i]?=some v:=by simpa using hP
    rw[ei,JB]at hP';cases hb:bs[i]? with
    | none=>rw[hb]at hP';cases hP'
    | some b=>
     rw[hb]at hP';cases hP';rw[Jn,hb];rfl
   rw[e];exact Mq hQ
  ·have el:its.toArray.size=bs.length:=by rw[Jj,ei,IZ]
   rw[el,qS];refine⟨.bl _,H,I.kept fun b o e=>hk b o (fun z=>?_) (Ja _ e),rfl,kk _ G _ H h Kp.refl rg (.of gC)⟩;rw[mem_singleton.mp z]at e;exact absurd (Ju e) (Nat.lt_irrefl _)
 ·exact h.elim
end L3
namespace L2
open PySem PySem.Spec PyProof.Rows
abbrev gq(h:JI)(z TI TO:IW)(f0 f1:IV):Prop:=
 h.get? z=some { cls:=.type "zip",dict:=none,data:=.fields #[f0,f1,.bool false,.ref TI,.ref TO],slots:=#[] }
def ww(f0:IV):Prop:=f0=.none\/∃ T:IW,f0=LB T
structure ZApart(z TI TO i1 i2:IW)(fp1 fp2:List IW):Prop where
 a1:TI≠z
 a2:TO≠z
 a3:i1≠z
 a4:i2≠z
 a5:TI≠TO
 a6:TI≠i1
 a7:TI≠i2
 a8:TO≠i1
 a9:TO≠i2
 a10:i1≠i2
 f1:∀ b∈fp1,b≠z/\b≠TO/\b≠i2
 f2:∀ b∈fp2,b≠z/\b≠TO/\b≠i1
section
variable{prog:Jw}{w:JG}{A:Jy}{E:IV->IX->Prop}{s:IX}
theorem yK{α:Type}{M:OT}{a:IW}{k:Option Obj->Sem α}{Q:α->IX->Prop}(h:Jc M A (k (s.heap.get? a)) Q E s):Jc M A (Oo a >>= k) Q E s:=fun Γ p hΓ=>by
 have e:(Oo a >>= k)=Sem.loadIfAlive a k:=rfl;rw[e,Sem.wp_loadIfAlive];exact h Γ p hΓ
theorem tw{z TI TO:IW}{f0 f1:IV}{Q:Bool->IX->Prop}(hz:gq s.heap z TI TO f0 f1)(hf:ww f0)(q1:Q true s)
  (q2:∀ h' f1',gq h' z TI TO f0 f1'->KO z s.heap h'->Q false { s with heap:=h' }):Jc (Jf prog w) A (KS (.ref z)) Q E s:=by
 unfold KS;refine IU (Ky hz rfl (x:=f0) rfl ?_);rcases hf with rfl|⟨T,rfl⟩
 ·exact IY q1
 ·show Jc _ _ (Oo _ >>= _) _ _ _;refine yK ?_;cases hT:s.heap.get? (Int.toNat (T:Int)) with
  | none=>exact IY q1
  | some o=>
   show Jc _ _ (field (.ref z) 1 >>= _) _ _ _
   refine IU (Ky hz rfl (x:=f1) rfl ?_)
   by_cases e:(f1 != Value.bool true)=true
   ·rw[if_pos e];exact IU (Ku hz (by simp) fun h1 hz1 hs1=>IY (q2 h1 _ hz1 hs1))
   ·rw[if_neg e];exact IU (IY (IY (q2 s.heap f1 hz (OU ..))))
theorem tx{z TI TO i1 i2:IW}{f0 f1 a b:IV}{i:Nat}{fp1 fp2:List IW}{n1 n2:Nat}{P1 P2:Nat->IV->Prop}{St1 St2:Nat->JI->Prop}{Q:Option IV->IX->Prop}
  (D1:OW prog w A.in1 i1 fp1 n1 P1 St1) (D2:OW prog w A.in1 i2 fp2 n2 P2 St2) (D:ZApart z TI TO i1 i2 fp1 fp2) (hz:gq s.heap z TI TO f0 f1) (hf:ww f0) (hTI:LR s.heap TI (.ref i1) (.ref i2)) (hTO:LR s.heap TO a b)
  (h1:St1 i s.heap) (h2:St2 i s.heap) (l1:i < n1) (l2:i < n2)
  (hQ:∀ h' tk x y f0' f1' a' b',P1 i x->P2 i y->ww f0'->gq h' z TI TO f0' f1'->LR h' TO a' b'->St1 (i+1) h'->St2 (i+1) h'->LR h' s.heap.objs.size x y->h'.objs.size=s.heap.objs.size+1->
   (∀ c o,c≠z->c≠TO->c≠i1->c≠i2->s.heap.get? c=some o->h'.get? c=some o)->Q (some (.ref s.heap.objs.size)) { s with heap:=h',toks:=tk }):
  Jc (Jf prog w) A (Lf (.ref z)) Q E s:=by
 have hT:s.TypeIs (.ref z) "zip":=⟨_,hz,rfl⟩;unfold Lf;refine IU (Lq (Km (name:=I_ "__next__") hT MH (J9 MH hT F.entry_zip_next ?_ (OV _))));show Jc _ _ (field (.ref z) 2 >>= _) _ _ _;refine IU (Ky hz rfl (x:=.bool false) rfl ?_)
 show Jc _ _ (field (.ref z) 3 >>= _) _ _ _;refine IU (Ky hz rfl (x:=.ref TI) rfl ?_)
 refine IU (Lu hTI rfl ?_);show Jc _ _ (KS (.ref z) >>= _) _ _ _;refine IU (tw hz hf ?_ fun h0 f1' hz0 hs0=>?_)
 ·simp only[if_true];refine IU (LP ?_);refine IU (Ky hz rfl (x:=.ref TO) rfl ?_);refine IU (Ku hz (by simp) fun g1 z1 s1=>?_)
  replace z1:gq g1 z TI TO .ellipsis f1:=z1
  refine IU ?_;simp only[List.zipIdx_cons,List.zipIdx_nil,LQ,Mz];refine IU (IU (M7 ?_));show Jc _ _ (J6 (.ref i1) >>= _) _ _ _;refine IU (D1.item i { s with heap:=g1 } _ _ l1 (D1.frame i _ _ h1 fun b hb o e=>s1.extBut _ _ (D.f1 b hb).1 e) fun x g2 t2 p1 st1 s2=>IY ?_)
  have o2:LR g2 TO a b:=s2.extBut _ _ D.a8 (s1.extBut _ _ D.a2 hTO);refine IU (Lu o2 rfl ?_);refine IU (MK o2 fun g3 o3 s3=>?_)
  replace o3:LR g3 TO x b:=o3
  refine IU (MN (IY ?_));refine IU (IU (M7 ?_));show Jc _ _ (J6 (.ref i2) >>= _) _ _ _;refine IU (D2.item i { s with heap:=g3,toks:=t2 } _ _ l2 (D2.frame i _ _ h2 fun b hb o e=>s3.extBut _ _ (D.f2 b hb).2.1 (s2.extBut _ _ (D.f2 b hb).2.2 (s1.extBut _ _ (D.f2 b hb).1 e))) fun y g4 t4 p2 st2 s4=>IY ?_)
  have o4:LR g4 TO x b:=s4.extBut _ _ D.a9 o3;refine IU (Lu o4 rfl ?_);refine IU (MK o4 fun g5 o5 s5=>?_)
  replace o5:LR g5 TO x y:=o5
  refine IU (MN (IY (IY ?_)));refine IU (Lu o5 rfl ?_);refine IU (MM ?_);have sz:g5.objs.size=s.heap.objs.size:=by rw[s5.1,s4.1,s3.1,s2.1,s1.1]
  have z5:gq g5 z TI TO .ellipsis f1:=s5.extBut _ _ D.a2.symm (s4.extBut _ _ D.a4.symm (s3.extBut _ _ D.a2.symm (s2.extBut _ _ D.a3.symm z1)));have k5:∀ c o,c≠z->c≠TO->c≠i1->c≠i2->s.heap.get? c=some o->g5.get? c=some o:=fun c o c1 c2 c3 c4 e=>s5.extBut _ _ c2 (s4.extBut _ _ c4 (s3.extBut _ _ c2 (s2.extBut _ _ c3 (s1.extBut _ _ c1 e))));have lz:z < g5.objs.size:=Ju z5;show Jc _ _ (M5 (.ref z) (.ref g5.objs.size) >>= _) _ _ _;refine IU ?_;unfold M5
  have z6:gq (g5.push { cls:=.type "tuple",data:=.seq #[x,y] }) z TI TO .ellipsis f1:=Ja _ z5;refine IU (Ku z6 (by simp) fun g7 z7 s7=>?_)
  replace z7:gq g7 z TI TO (LB g5.objs.size) f1:=z7
  refine Ku z7 (by simp) fun g8 z8 s8=>?_
  replace z8:gq g8 z TI TO (LB g5.objs.size) (.bool false):=z8
  have up:∀ c o,c≠z->g5.get? c=some o->g8.get? c=some o:=fun c o c1 e=>s8.extBut _ _ c1 (s7.extBut _ _ c1 (Ja _ e));have t8:LR g8 g5.objs.size x y:=s8.extBut _ _ (My lz) (s7.extBut _ _ (My lz) (Je _ rfl));have sz8:g8.objs.size=g5.objs.size+1:=by rw[s8.1,s7.1,K1]
  have r1:St1 (i+1) g8:=D1.frame _ _ _ st1 fun b hb o e=>up b o (D.f1 b hb).1 (s5.extBut _ _ (D.f1 b hb).2.1 (s4.extBut _ _ (D.f1 b hb).2.2 (s3.extBut _ _ (D.f1 b hb).2.1 e)));have r2:St2 (i+1) g8:=D2.frame _ _ _ st2 fun b hb o e=>up b o (D.f2 b hb).1 (s5.extBut _ _ (D.f2 b hb).2.1 e);rw[sz]at z8 t8 sz8;refine IY ⟨.ref g5.objs.size,rfl,IY ?_⟩;rw[sz];exact hQ g8 t4 x y _ _ x y p1 p2 (.inr ⟨_,rfl⟩) z8 (up _ _ D.a2 o5) r1 r2 t8 sz8 fun c o c1 c2 c3 c4 e=>up c o c1 (k5 c o c1 c2 c3 c4 e)
 ·simp only[Bool.false_eq_true,if_false];rw[<- Array.forIn_toList];simp only[LQ,Mz];refine IU (IU (IU (JZ ?_)));show Jc _ _ (J6 (.ref i1) >>= _) _ _ _
  refine IU (D1.item i { s with heap:=h0 } _ _ l1 (D1.frame i _ _ h1 fun b hb o e=>hs0.extBut _ _ (D.f1 b hb).1 e) fun x g2 t2 p1 st1 s2=>IY (IY ?_))
  refine IU (IU (JZ ?_));show Jc _ _ (J6 (.ref i2) >>= _) _ _ _
  refine IU (D2.item i { s with heap:=g2,toks:=t2 } _ _ l2 (D2.frame i _ _ h2 fun b hb o e=>s2.extBut _ _ (D.f2 b hb).2.2 (hs0.extBut _ _ (D.f2 b hb).1 e)) fun y g4 t4 p2 st2 s4=>IY (IY (IY ?_)))
  refine IU (MM ?_ (by show 2<=Jg;decide))
  have sz:g4.objs.size=s.heap.objs.size:=by rw[s4.1,s2.1,hs0.1]
  have k4:∀ c o,c≠z->c≠TO->c≠i1->c≠i2->s.heap.get? c=some o->g4.get? c=some o:=fun c o c1 _ c3 c4 e=>s4.extBut _ _ c4 (s2.extBut _ _ c3 (hs0.extBut _ _ c1 e));have z4:gq g4 z TI TO f0 f1':=s4.extBut _ _ D.a4.symm (s2.extBut _ _ D.a3.symm hz0);have o4:LR g4 TO a b:=s4.extBut _ _ D.a9 (s2.extBut _ _ D.a8 (hs0.extBut _ _ D.a2 hTO));refine IY ⟨.ref g4.objs.size,rfl,IY ?_⟩;have up:∀ c o,g4.get? c=some o->(g4.push { cls:=.type "tuple",data:=.seq #[x,y] }).get? c=some o:=fun c o e=>Ja _ e;have t8:LR (g4.push { cls:=.type "tuple",data:=.seq #[x,y] }) g4.objs.size x y:=Je _ rfl;have sz8:(g4.push { cls:=.type "tuple",data:=.seq #[x,y] }).objs.size=g4.objs.size+1:=K1 ..;rw[sz]at t8 sz8 ⊢;exact hQ _ t4 x y _ _ a b p1 p2 hf (up _ _ z4) (up _ _ o4) (D1.frame _ _ _ st1 fun b hb o e=>up _ _ (s4.extBut _ _ (D.f1 b hb).2.2 e)) (D2.frame _ _ _ st2 fun b _ o e=>up b o e) t8 sz8 fun c o c1 c2 c3 c4 e=>up _ _ (k4 c o c1 c2 c3 c4 e)
theorem u6{z TI TO i1 i2:IW}{f0 f1 a b:IV}{i:Nat}{fp1 fp2:List IW}{n1 n2:Nat}{P1 P2:Nat->IV->Prop}{St1 St2:Nat->JI->Prop}{Q:Option IV->IX->Prop}
  (D1:OW prog w A.in1 i1 fp1 n1 P1 St1) (D2:OW prog w A.in1 i2 fp2 n2 P2 St2) (D:ZApart z TI TO i1 i2 fp1 fp2) (hz:gq s.heap z TI TO f0 f1) (hf:ww f0) (hTI:LR s.heap TI (.ref i1) (.ref i2)) (hTO:LR s.heap TO a b)
  (h1:St1 i s.heap) (h2:St2 i s.heap) (le:i=n1\/(i < n1/\i=n2))
  (hQ:∀ h' tk,(∀ c o,c≠z->c≠TO->c≠i1->c≠i2->s.heap.get? c=some o->h'.get? c=some o)->Q none { s with heap:=h',toks:=tk }):
  Jc (Jf prog w) A (Lf (.ref z)) Q E s:=by
 have hT:s.TypeIs (.ref z) "zip":=⟨_,hz,rfl⟩;unfold Lf;have fin:∀ {h':JI} {tk:Nat} {e:IW},(∀ c o,c≠z->c≠TO->c≠i1->c≠i2->s.heap.get? c=some o->h'.get? c=some o)->(∃ o,h'.get? e=some o/\o.cls=.type "StopIteration")->
   Jc (Jf prog w) A (do if <- isInstance (.ref e) (.type "StopIteration")then pure none else throw (.ref e)) Q E { s with heap:=h',toks:=tk }:=fun hk ⟨o,ho,hc⟩=>
  IU (Nq (T:="StopIteration") (b:=true) ⟨o,ho,hc⟩ NI (IY (hQ _ _ hk)))
 refine IU (Lq (Km (name:=I_ "__next__") hT MH (J9 MH hT F.entry_zip_next ?_ (OV _))));show Jc _ _ (field (.ref z) 2 >>= _) _ _ _;refine IU (Ky hz rfl (x:=.bool false) rfl ?_)
 show Jc _ _ (field (.ref z) 3 >>= _) _ _ _;refine IU (Ky hz rfl (x:=.ref TI) rfl ?_)
 refine IU (Lu hTI rfl ?_);show Jc _ _ (KS (.ref z) >>= _) _ _ _;refine IU (tw hz hf ?_ fun h0 f1' hz0 hs0=>?_)
 ·simp only[if_true];refine IU (LP ?_);refine IU (Ky hz rfl (x:=.ref TO) rfl ?_);refine IU (Ku hz (by simp) fun g1 z1 s1=>?_)
  replace z1:gq g1 z TI TO .ellipsis f1:=z1
  refine IU ?_;simp only[List.zipIdx_cons,List.zipIdx_nil,LQ,Mz];refine IU (IU (M7 ?_));show Jc _ _ (J6 (.ref i1) >>= _) _ _ _;have st0:St1 i g1:=D1.frame i _ _ h1 fun b hb o e=>s1.extBut _ _ (D.f1 b hb).1 e;rcases le with rfl|⟨l1,rfl⟩
  ·refine IU (D1.done { s with heap:=g1 } _ _ st0 fun g2 e s2 he=>?_)
   obtain⟨oe,hoe,hce⟩:=he;have z2:gq g2 z TI TO .ellipsis f1:=s2 _ _ D.a3.symm z1;have hez:e≠z:=fun x=>by subst x;rw[z2]at hoe;cases hoe;simp at hce
   exact Ku z2 (by simp) fun g3 _ s3=>fin (tk:=s.toks) (fun c o c1 _ c3 _ x=>s3.extBut _ _ c1 (s2 _ _ c3 (s1.extBut _ _ c1 x))) ⟨oe,s3.extBut _ _ hez hoe,hce⟩
  ·refine IU (D1.item i { s with heap:=g1 } _ _ l1 st0 fun x g2 t2 p1 st1 s2=>IY ?_)
   have o2:LR g2 TO a b:=s2.extBut _ _ D.a8 (s1.extBut _ _ D.a2 hTO);refine IU (Lu o2 rfl ?_);refine IU (MK o2 fun g3 o3 s3=>?_);refine IU (MN (IY ?_));refine IU (IU (M7 ?_));show Jc _ _ (J6 (.ref i2) >>= _) _ _ _;refine IU (D2.done { s with heap:=g3,toks:=t2 } _ _ (D2.frame i _ _ h2 fun b hb o e=>s3.extBut _ _ (D.f2 b hb).2.1 (s2.extBut _ _ (D.f2 b hb).2.2 (s1.extBut _ _ (D.f2 b hb).1 e))) fun g4 e s4 he=>?_)
   obtain⟨oe,hoe,hce⟩:=he;have z4:gq g4 z TI TO .ellipsis f1:=s4 _ _ D.a4.symm (s3.extBut _ _ D.a2.symm (s2.extBut _ _ D.a3.symm z1));have hez:e≠z:=fun x=>by subst x;rw[z4]at hoe;cases hoe;simp at hce
   exact Ku z4 (by simp) fun g5 _ s5=>fin (tk:=t2) (fun c o c1 c2 c3 c4 x=>s5.extBut _ _ c1 (s4 _ _ c4 (s3.extBut _ _ c2 (s2.extBut _ _ c3 (s1.extBut _ _ c1 x))))) ⟨oe,s5.extBut _ _ hez hoe,hce⟩
 ·simp only[Bool.false_eq_true,if_false];rw[<- Array.forIn_toList];simp only[LQ,Mz];refine IU (IU (IU (JZ ?_)));show Jc _ _ (J6 (.ref i1) >>= _) _ _ _
  have st0:St1 i h0:=D1.frame i _ _ h1 fun b hb o e=>hs0.extBut _ _ (D.f1 b hb).1 e;rcases le with rfl|⟨l1,rfl⟩
  ·exact IU (D1.done { s with heap:=h0 } _ _ st0 fun g2 e s2 he=>fin (tk:=s.toks) (fun c o c1 _ c3 _ x=>s2 _ _ c3 (hs0.extBut _ _ c1 x)) he)
  ·refine IU (D1.item i { s with heap:=h0 } _ _ l1 st0 fun x g2 t2 p1 st1 s2=>IY (IY ?_))
   refine IU (IU (JZ ?_));show Jc _ _ (J6 (.ref i2) >>= _) _ _ _
   exact IU (D2.done { s with heap:=g2,toks:=t2 } _ _ (D2.frame i _ _ h2 fun b hb o e=>s2.extBut _ _ (D.f2 b hb).2.2 (hs0.extBut _ _ (D.f2 b hb).1 e)) fun g4 e s4 he=>fin (tk:=t2) (fun c o c1 _ c3 c4 x=>s4 _ _ c4 (s2.extBut _ _ c3 (hs0.extBut _ _ c1 x))) he)
theorem Dw{tg:JJ}{z TI TO:IW}{f0 f1 u:IV}{Q:Unit->IX->Prop}(hz:gq s.heap z TI TO f0 f1)(hf:ww f0)
  (hQ:∀ h' f0',ww f0'->gq h' z TI TO f0' f1->KO z s.heap h'->Q () { s with heap:=h' }):Jc (Jf prog w) A (LL tg (.ref z) u) Q E s:=by
 have same:Q () s:=hQ s.heap f0 hf hz (OU ..);unfold LL;cases tg<;>first
  | exact IY same
  | (cases u<;>first
    | exact IY same
    | (refine IU (wpAny_load hz ?_)
       dsimp only;split
       ·refine IU (LP ?_);exact Ku hz (by simp) fun h1 z1 s1=>hQ h1 _ (.inl rfl) z1 s1
       ·exact IY same))
end
set_option genInjectivity false in
inductive Zk where
 | lst (l:IW) (xs:List V)
 | txt (z:Str) (t:Tok)
def Zk.vs:Zk->List V
 | .lst _ xs=>xs
 | .txt z _=>dX z
def Zk.val:Zk->IV
 | .lst l _=>.ref l
 | .txt z t=>.str z t
def Zk.here(K:JD)(H:Hp):Zk->Prop
 | .lst l xs=>jW K H l xs
 | .txt _ _=>True
def Zk.ready(h:JI):Zk->Prop
 | .lst l xs=>∃ us,Vals xs us/\h.IsList l us.toArray
 | .txt _ _=>True
def Zk.it(it:IW)(i:Nat)(h:JI):Zk->Prop
 | .lst l _=>h.IsListIter it l i
 | .txt z t=>h.IsStrIter it (Mt z) z t i
theorem jY(z:Str):Mt z="str_ascii_iterator"\/Mt z="str_iterator":=by unfold Mt;split;exact .inl rfl;exact .inr rfl
theorem Zk.obj{k:Zk}{it:IW}{i:Nat}{h:JI}(x:k.it it i h):∃ o,h.get? it=some o/\(∀ v,o.data≠.cell v)/\o.cls≠.type "list"/\o.cls≠.type "tuple"/\o.cls≠.type "zip":=by
 cases k with
 | lst l xs=>
  obtain⟨o,e,c,d⟩:=x;exact⟨o,e,(fun v z=>by rw[d]at z;cases z),by rw[c];decide,by rw[c];decide,by rw[c];decide⟩
 | txt z t=>
  obtain⟨o,e,c,d⟩:=x;refine⟨o,e,(fun v z=>by rw[d]at z;cases z),?_⟩
  rw[c];rcases jY z with q|q<;>rw[q]<;>decide
theorem Zk.keep{k:Zk}{it:IW}{i:Nat}{h h':JI}(x:k.it it i h)(q:∀ o,h.get? it=some o->h'.get? it=some o):k.it it i h':=by
 cases k with
 | lst l xs=>exact x.at fun o e=>q o e
 | txt z t=>
  obtain⟨o,e,c⟩:=x;exact⟨o,q o e,c⟩
theorem Zk.of{X:Cx}{pins:List (IW×Obj)}{σ:St}{H:Hp}{s:IX}{k:Zk}(I:Inv X pins σ H s)(x:k.here X.K H):k.ready s.heap:=by
 cases k with
 | lst l xs=>
  obtain⟨its,rv,p,_⟩:=I.list x;exact⟨its,rv,p.isList⟩
 | txt z t=>exact True.intro
theorem Zk.draws{P:Jw}{w:JG}{k:Zk}{it:IW}{h:JI}{j:Nat}(x:k.ready h)(y:k.it it j h):∃ (fp:List IW) (Pv:Nat->IV->Prop) (St:Nat->JI->Prop),(∀ A:Jy,A.handled=none->OW P w A it fp k.vs.length Pv St)/\(∀ i v,Pv i v->∃ u,k.vs[i]?=some u/\aF u v)/\
  (∀ i,k.it it i h->St i h)/\(∀ i h',St i h'->k.it it i h')/\∀ b∈fp,b=it\/∃ o,h.get? b=some o/\o.cls=.type "list":=by
 cases k with
 | lst l xs=>
  obtain⟨us,rv,p⟩:=x;obtain⟨o,e,c,d⟩:=id y;obtain⟨o',e',c',d'⟩:=id p;have hne:l≠it:=fun z=>by subst z;rw[e]at e';cases e';rw[c]at c';exact absurd c' (by decide)
  have hl:us.toArray.size=xs.length:=by rw[Jj];exact rv.length.symm
  refine⟨[it,l],fun i v=>us.toArray[i]?=some v,fun i h=>h.IsListIter it l i/\h.IsList l us.toArray,fun A hh=>?_,fun i v q=>?_,fun i q=>⟨q,p⟩,fun i h' q=>q.1,fun b hb=>?_⟩
  ·have:=Draws.list (prog:=P) (w:=w) hh it l hne us.toArray;rw[hl]at this;exact this
  ·have q':us[i]?=some v:=by simpa using q
   obtain⟨u,e1,r⟩:=L3.Vals.getV rv q';exact⟨u,e1,r⟩
  ·have hb':b=it\/b=l:=by simpa using hb
   rcases hb' with rfl|rfl
   ·exact .inl rfl
   ·exact .inr ⟨o',e',c'⟩
 | txt z t=>
  have hz:(dX z).length=z.cps.size:=by simp[dX]
  refine⟨[it],fun i v=>∃ c u,z.cps[i]?=some c/\v=.str ⟨#[c]⟩ u,fun i h=>h.IsStrIter it (Mt z) z t i,fun A hh=>?_,fun i v q=>?_,fun i q=>q,fun i h' q=>q,fun b hb=>.inl (by simpa using hb)⟩
  ·show OW P w A it [it] (dX z).length _ _;rw[hz];rcases jY z with q|q<;>rw[q]
   ·exact Draws.strAscii hh it z t
   ·exact Draws.strWide hh it z t
  ·obtain⟨c,u,e1,rfl⟩:=q;have e2:z.cps.toList[i]?=some c:=by simpa using e1
   exact⟨.str ⟨#[c]⟩,by simp[Zk.vs,dX,e2],⟨u,rfl⟩⟩
def xk(k1 k2:Zk)(z TI TO i1 i2:IW)(i:Nat)(h:JI):Prop:=
 (∃ f0 f1,ww f0/\gq h z TI TO f0 f1)/\LR h TI (.ref i1) (.ref i2)/\(∃ a b,LR h TO a b)/\k1.it i1 i h/\k2.it i2 i h
structure ZAp(z TI TO i1 i2:IW):Prop where
 t:TI≠TO
 i:i1≠i2
theorem xk.apart{k1 k2:Zk}{z TI TO i1 i2:IW}{i:Nat}{h:JI}{fp1 fp2:List IW}(D:ZAp z TI TO i1 i2)(x:xk k1 k2 z TI TO i1 i2 i h)(q1:∀ b∈fp1,b=i1\/∃ o,h.get? b=some o/\o.cls=.type "list")(q2:∀ b∈fp2,b=i2\/∃ o,h.get? b=some o/\o.cls=.type "list"):ZApart z TI TO i1 i2 fp1 fp2:=by
 obtain⟨⟨f0,f1,_,hz⟩,hTI,⟨a,b,hTO⟩,h1,h2⟩:=x;obtain⟨o1,e1,_,c1,c2,c3⟩:=Zk.obj h1;obtain⟨o2,e2,_,d1,d2,d3⟩:=Zk.obj h2;have ne:∀ {a b:IW} {o o':Obj},h.get? a=some o->h.get? b=some o'->o.cls≠o'.cls->a≠b:=fun ha hb hc z=>by subst z;rw[ha]at hb;cases hb;exact hc rfl
 have y1:i1≠z:=ne e1 hz c3;have y2:i2≠z:=ne e2 hz d3;have y3:TO≠i1:=(ne e1 hTO c2).symm;have y4:TO≠i2:=(ne e2 hTO d2).symm;have tz:Value.type "tuple"≠Value.type "zip":=by decide
 have lz:Value.type "list"≠Value.type "zip":=by decide
 have lt:Value.type "list"≠Value.type "tuple":=by decide
 refine⟨ne hTI hz tz,ne hTO hz tz,y1,y2,D.t,(ne e1 hTI c2).symm,(ne e2 hTI d2).symm,y3,y4,D.i,fun b hb=>?_,fun b hb=>?_⟩
 ·rcases q1 b hb with rfl|⟨o,e,c⟩
  ·exact⟨y1,y3.symm,D.i⟩
  ·exact⟨ne e hz (by rw[c];exact lz),ne e hTO (by rw[c];exact lt),ne e e2 (by rw[c];exact d1.symm)⟩
 ·rcases q2 b hb with rfl|⟨o,e,c⟩
  ·exact⟨y2,y4.symm,D.i.symm⟩
  ·exact⟨ne e hz (by rw[c];exact lz),ne e hTO (by rw[c];exact lt),ne e e1 (by rw[c];exact c1.symm)⟩
section
variable{prog:Jw}{w:JG}{A:Jy}{E:IV->IX->Prop}{s:IX}{k1 k2:Zk}{z TI TO i1 i2:IW}{i:Nat}
theorem wy{Q:Option IV->IX->Prop}(hh:A.in1.handled=none)(D:ZAp z TI TO i1 i2)(x:xk k1 k2 z TI TO i1 i2 i s.heap)(r1:k1.ready s.heap)(r2:k2.ready s.heap)(l1:i < k1.vs.length)(l2:i < k2.vs.length)
  (hQ:∀ h' tk x y u v,k1.vs[i]?=some u->k2.vs[i]?=some v->aF u x->aF v y->xk k1 k2 z TI TO i1 i2 (i+1) h'->LR h' s.heap.objs.size x y->h'.objs.size=s.heap.objs.size+1->
   (∀ c o,c∉[z,TI,TO,i1,i2]->s.heap.get? c=some o->h'.get? c=some o)->Q (some (.ref s.heap.objs.size)) { s with heap:=h',toks:=tk }):Jc (Jf prog w) A (Lf (.ref z)) Q E s:=by
 obtain⟨fp1,P1,St1,D1,v1,t1,b1,q1⟩:=Zk.draws (P:=prog) (w:=w) r1 x.2.2.2.1;obtain⟨fp2,P2,St2,D2,v2,t2,b2,q2⟩:=Zk.draws (P:=prog) (w:=w) r2 x.2.2.2.2;have ap:=x.apart D q1 q2;obtain⟨⟨f0,f1,hf,hz⟩,hTI,⟨a,b,hTO⟩,h1,h2⟩:=x;refine tx (D1 _ hh) (D2 _ hh) ap hz hf hTI hTO (t1 i h1) (t2 i h2) l1 l2 fun h' tk x y f0' f1' a' b' p1 p2 hf' z' o' s1 s2 tp sz kp=>?_;obtain⟨u,e1,ru⟩:=v1 i x p1;obtain⟨v,e2,rv⟩:=v2 i y p2;exact hQ h' tk x y u v e1 e2 ru rv ⟨⟨f0',f1',hf',z'⟩,kp _ _ ap.a1 ap.a5 ap.a6 ap.a7 hTI,⟨a',b',o'⟩,b1 _ _ s1,b2 _ _ s2⟩ tp sz fun c o hc e=>kp c o (fun q=>hc (by simp[q])) (fun q=>hc (by simp[q])) (fun q=>hc (by simp[q])) (fun q=>hc (by simp[q])) e
theorem yJ{Q:Option IV->IX->Prop}(hh:A.in1.handled=none)(D:ZAp z TI TO i1 i2)(x:xk k1 k2 z TI TO i1 i2 i s.heap)(r1:k1.ready s.heap)(r2:k2.ready s.heap)(l:i=min k1.vs.length k2.vs.length)
  (hQ:∀ h' tk,(∀ c o,c∉[z,TI,TO,i1,i2]->s.heap.get? c=some o->h'.get? c=some o)->Q none { s with heap:=h',toks:=tk }):Jc (Jf prog w) A (Lf (.ref z)) Q E s:=by
 obtain⟨fp1,P1,St1,D1,v1,t1,b1,q1⟩:=Zk.draws (P:=prog) (w:=w) r1 x.2.2.2.1;obtain⟨fp2,P2,St2,D2,v2,t2,b2,q2⟩:=Zk.draws (P:=prog) (w:=w) r2 x.2.2.2.2;have ap:=x.apart D q1 q2;obtain⟨⟨f0,f1,hf,hz⟩,hTI,⟨a,b,hTO⟩,h1,h2⟩:=x;exact u6 (D1 _ hh) (D2 _ hh) ap hz hf hTI hTO (t1 i h1) (t2 i h2) (by walk_at "o") fun h' tk kp=>hQ h' tk fun c o hc e=>kp c o (fun q=>hc (by simp[q])) (fun q=>hc (by simp[q])) (fun q=>hc (by simp[q])) (fun q=>hc (by simp[q])) e
theorem xk.keep{h h':JI}(x:xk k1 k2 z TI TO i1 i2 i h)(q:∀ b∈[z,TI,TO,i1,i2],∀ o,h.get? b=some o->h'.get? b=some o):xk k1 k2 z TI TO i1 i2 i h':=by
 obtain⟨⟨f0,f1,hf,hz⟩,hTI,⟨a,b,hTO⟩,h1,h2⟩:=x;exact⟨⟨f0,f1,hf,q z (by simp) _ hz⟩,q TI (by simp) _ hTI,⟨a,b,q TO (by simp) _ hTO⟩,Zk.keep h1 fun o e=>q i1 (by simp) o e,Zk.keep h2 fun o e=>q i2 (by simp) o e⟩
end
def Iw(K:JD)(k1 k2:Zk):It:=
 ⟨fun i H=>(i < k1.vs.length/\i < k2.vs.length)/\k1.here K H/\k2.here K H,fun i H x H'=>∃ p u v,H p=none/\x=.ref p/\H'=bG H p (.tup [u,v])/\k1.vs[i]?=some u/\k2.vs[i]?=some v,fun i H=>i=min k1.vs.length k2.vs.length/\k1.here K H/\k2.here K H⟩
theorem nL{P:Jw}{w:JG}{K:JD}{tg:JJ}(k1 k2:Zk)(z TI TO i1 i2:IW)(D:ZAp z TI TO i1 i2):Turn P w K tg (Iw K k1 k2) [z,TI,TO,i1,i2] z (xk k1 k2 z TI TO i1 i2) where
 mem:=by simp
 obj:=fun i h st b hb=>by
  obtain⟨⟨f0,f1,hf,hz⟩,hTI,⟨a,b',hTO⟩,h1,h2⟩:=st;obtain⟨o1,e1,c1,_⟩:=Zk.obj h1;obtain⟨o2,e2,c2,_⟩:=Zk.obj h2;simp only[Kg,Kz,or_false]at hb;rcases hb with rfl|rfl|rfl|rfl|rfl
  ·exact⟨_,hz,fun v q=>by cases q⟩
  ·exact⟨_,hTI,fun v q=>by cases q⟩
  ·exact⟨_,hTO,fun v q=>by cases q⟩
  ·exact⟨o1,e1,c1⟩
  ·exact⟨o2,e2,c2⟩
 keep:=fun i h h' st q=>st.keep q
 item:=by
  intro X hP hw hK hc i pins s σ H E I hf st hg;subst hP hw hK;obtain⟨⟨l1,l2⟩,e1,e2⟩:=hg;refine wy (I.ok.hd hc) D st (Zk.of I e1) (Zk.of I e2) l1 l2 fun h' tk x y u v q1 q2 ru rv st' tp sz kp=>?_;refine⟨_,rfl,?_⟩;obtain⟨⟨f0,f1,hl,hz⟩,hTI,⟨a,b,hTO⟩,h1,h2⟩:=id st';refine Dw (s:={ s with heap:=h',toks:=tk }) hz hl fun h2' f0' hl' hz' sb=>?_
  have hn:H s.heap.objs.size=none:=I.hok.fresh (le_refl _);have lt:∀ b∈[z,TI,TO,i1,i2],b≠s.heap.objs.size:=fun b hb=>by
   obtain⟨o,e,_⟩:=(show ∃ o,s.heap.get? b=some o/\True from by
    obtain⟨⟨g0,g1,_,gz⟩,gTI,⟨ga,gb,gTO⟩,k1',k2'⟩:=st;obtain⟨o1,x1,_⟩:=Zk.obj k1';obtain⟨o2,x2,_⟩:=Zk.obj k2';simp only[Kg,Kz,or_false]at hb;rcases hb with rfl|rfl|rfl|rfl|rfl
    ·exact⟨_,gz,True.intro⟩
    ·exact⟨_,gTI,True.intro⟩
    ·exact⟨_,gTO,True.intro⟩
    ·exact⟨_,x1,True.intro⟩
    ·exact⟨_,x2,True.intro⟩)
   exact JP (Ju e)
  have up:∀ c o,c≠z->h'.get? c=some o->h2'.get? c=some o:=fun c o hc e=>sb.extBut _ _ hc e;have hzs:z≠s.heap.objs.size:=lt z (by simp)
  have I0:Inv X pins σ (bG H s.heap.objs.size (.tup [u,v])) { s with heap:=s.heap.push { cls:=.type "tuple",data:=.seq #[x,y] },toks:=s.toks }:=by
   refine I.laid (t':=s.toks) (fun b v q=>Ja _ q) (le_refl _) ?_;exact⟨by show 2<=Jg;decide,[x,y],.cons ru (.cons rv .nil),qc.new _ _⟩
  have I1:Inv X pins σ (bG H s.heap.objs.size (.tup [u,v])) { s with heap:=h2',toks:=tk }:=by
   have:=Inv.turnedL (s:={ s with heap:=s.heap.push { cls:=.type "tuple",data:=.seq #[x,y] },toks:=s.toks }) (h':=h2') (t':=tk) (fp:=[z,TI,TO,i1,i2]) I0 (fun b o hb q=>?_) fun b hb=>?_
   ·exact this
   ·have hbz:b≠z:=fun q=>hb (by simp[q])
    have q':(s.heap.push { cls:=.type "tuple",data:=.seq #[x,y] }).get? b=some o:=q
    by_cases hbs:b=s.heap.objs.size
    ·subst hbs;rw[Je _ rfl]at q';cases q';exact up _ _ hbz tp
    ·rw[Nn _ _ _ hbs]at q';exact up _ _ hbz (kp b o hb q')
   ·obtain⟨g0,g1,g2,g3,g4,g5⟩:=hf b hb;exact⟨by rw[ax (lt b hb)];exact g0,g1,g2,g3,g4,g5⟩
  have ap:=st'.apart (fp1:=[]) (fp2:=[]) D (fun b hb=>by simp at hb) fun b hb=>by simp at hb
  refine⟨.ref s.heap.objs.size,_,I1,rfl,⟨_,u,v,hn,rfl,rfl,q1,q2⟩,⟨⟨f0',f1,hl',hz'⟩,up _ _ ap.a1 hTI,⟨a,b,up _ _ ap.a2 hTO⟩,Zk.keep h1 fun o e=>up _ _ ap.a3 e,Zk.keep h2 fun o e=>up _ _ ap.a4 e⟩,fun b hb=>?_⟩;rw[ax (lt b hb)];exact (hf b hb).1
 done:=by
  intro X hP hw hK hc i pins s σ H E I hf st hg;subst hP hw hK;obtain⟨l,e1,e2⟩:=hg;exact yJ (I.ok.hd hc) D st (Zk.of I e1) (Zk.of I e2) l fun h' tk kp=>⟨rfl,I.turnedL (t':=tk) (fp:=[z,TI,TO,i1,i2]) kp hf⟩
 self:=fun _ _ _ _ _ st h=>by
  obtain⟨⟨f0,f1,_,hz⟩,_⟩:=st;have hT:=(⟨_,hz,rfl⟩:Shared.TypeIs _ (.ref z) "zip");refine Mr hT F.slot_zip_iter (J9 F.slot_zip_iter hT F.entry_zip_iter ?_ (F.args_zip_iter_1 _));show Jc _ _ (ret (.ref z)) _ _ _
  exact IY ⟨_,rfl,"zip",_,hT,MH.lookup,h⟩
def Zk.itObj:Zk->Obj
 | .lst l _=>{ cls:=.type "list_iterator",data:=.fields #[.ref l,.int 0 0] }
 | .txt z t=>{ cls:=.type (Mt z),data:=.fields #[.str z t,.int 0 0] }
theorem Zk.iter{prog:Jw}{w:JG}{A:Jy}{E:IV->IX->Prop}{s:IX}{k:Zk}{Q:IV->IX->Prop}(r:k.ready s.heap)(hQ:Q (.ref s.heap.objs.size) { s with heap:=s.heap.push k.itObj }):Jc (Jf prog w) A (Mf k.val) Q E s:=by
 cases k with
 | lst l xs=>
  obtain⟨us,_,p⟩:=r;exact Ms p hQ
 | txt z t=>exact wpAny_pyIter_strU hQ
theorem Zk.grow{k:Zk}{h h':JI}(r:k.ready h)(q:∀ c o,h.get? c=some o->h'.get? c=some o):k.ready h':=by
 cases k with
 | lst l xs=>
  obtain⟨us,rv,p⟩:=r;exact⟨us,rv,p.at fun o e=>q l o e⟩
 | txt z t=>exact True.intro
theorem Zk.it0{k:Zk}{h:JI}{it:IW}(e:h.get? it=some k.itObj):k.it it 0 h:=by
 cases k with
 | lst l xs=>exact⟨_,e,rfl,rfl⟩
 | txt z t=>exact⟨_,e,rfl,rfl⟩
theorem Zk.alive{k:Zk}{h:JI}:(h.push k.itObj).get? h.objs.size=some k.itObj:=by
 cases k with
 | lst l xs=>exact Je _ rfl
 | txt z t=>exact Je _ rfl
abbrev Be(h:JI)(k1:Zk):JI:=h.push k1.itObj
abbrev Bd(h:JI)(k1 k2:Zk):JI:=(Be h k1).push k2.itObj
abbrev Bc(h:JI)(k1 k2:Zk):JI:=(Bd h k1 k2).push { cls:=.type "tuple",data:=.seq #[.ref h.objs.size,.ref (Be h k1).objs.size] }
abbrev Bb(h:JI)(k1 k2:Zk):JI:=(Bc h k1 k2).push { cls:=.type "tuple",data:=.seq #[.none,.none] }
abbrev u5(h:JI)(k1 k2:Zk):JI:=(Bb h k1 k2).push { cls:=.type "zip",data:=.fields #[.none,.bool false,.bool false,.ref (Bd h k1 k2).objs.size,.ref (Bc h k1 k2).objs.size] }
theorem vV(k1 k2:Zk):Meets (Builtin.«zip.__new__» ⟨[.type "zip",k1.val,k2.val],[]⟩) (fun _ R s=>k1.ready s.heap/\k2.ready s.heap/\R (.ok (.ret (.ref (Bb s.heap k1 k2).objs.size))) { s with heap:=u5 s.heap k1 k2 }):=
 .of_wp fun prog w A R s h=>by
  obtain⟨hp,g,d,tk,os⟩:=s;obtain⟨r1,r2,h⟩:=h;have hsub:=sub_zip;have q2:k2.ready (Shared.heap ⟨hp.push k1.itObj,g,d,tk,os⟩):=Zk.grow r2 fun c o e=>Ja _ e
  wp_walk using Zk.iter (k:=k1) (s:=⟨hp,g,d,tk,os⟩) r1,Zk.iter (k:=k2) (s:=⟨hp.push k1.itObj,g,d,tk,os⟩) q2
  exact⟨_,rfl,h⟩
theorem qL{prog:Jw}{w:JG}{A:Jy}{E:IV->IX->Prop}{s:IX}{k1 k2:Zk}{Q:IV->IX->Prop}(r1:k1.ready s.heap)(r2:k2.ready s.heap)
  (h:∀ h',xk k1 k2 (s.heap.objs.size+4) (s.heap.objs.size+2) (s.heap.objs.size+3) s.heap.objs.size (s.heap.objs.size+1) 0 h'->h'.objs.size=s.heap.objs.size+5->
   (∀ c o,s.heap.get? c=some o->h'.get? c=some o)->Q (.ref (s.heap.objs.size+4)) { s with heap:=h' }):Jc (Jf prog w) A (call (.type "zip") [k1.val,k2.val]) Q E s:=by
 refine callType_new F.called_zip (by decide) (F.typeCall_zip_2 _ _) (F.newCall_zip_2 _ _) (fun obj=>F.args_object_init_3 obj _ _) F.entry_zip_new (vV k1 k2) ⟨r1,r2,?_⟩
 have z1:(Be s.heap k1).objs.size=s.heap.objs.size+1:=K1 ..;have z2:(Bd s.heap k1 k2).objs.size=s.heap.objs.size+2:=by rw[K1,z1]
 have z3:(Bc s.heap k1 k2).objs.size=s.heap.objs.size+3:=by rw[K1,z2]
 have z4:(Bb s.heap k1 k2).objs.size=s.heap.objs.size+4:=by rw[K1,z3]
 have z5:(u5 s.heap k1 k2).objs.size=s.heap.objs.size+5:=by rw[K1,z4]
 have u:∀ {h:JI} {c:IW} {o o':Obj},h.get? c=some o->(h.push o').get? c=some o:=fun e=>Ja _ e;have g5:(u5 s.heap k1 k2).get? (Bb s.heap k1 k2).objs.size=some _:=Je _ rfl;have g4:(u5 s.heap k1 k2).get? (Bc s.heap k1 k2).objs.size=some _:=u (Je _ rfl);have g3:(u5 s.heap k1 k2).get? (Bd s.heap k1 k2).objs.size=some _:=u (u (Je _ rfl));have g2:(u5 s.heap k1 k2).get? (Be s.heap k1).objs.size=some k2.itObj:=u (u (u Zk.alive));have g1:(u5 s.heap k1 k2).get? s.heap.objs.size=some k1.itObj:=u (u (u (u Zk.alive)));show _/\_
 rw[z2,z3,z4]at g5;rw[z1,z2]at g3;rw[z3]at g4;rw[z1]at g2;rw[z4];exact⟨⟨_,g5,rfl⟩,h _ ⟨⟨_,_,.inl rfl,g5⟩,g3,⟨_,_,g4⟩,Zk.it0 g1,Zk.it0 g2⟩ z5 fun c o x=>u (u (u (u (u x))))⟩
end L2
namespace L3
open PySem PySem.Spec PyProof.Rows L2
def fG:D->Option (List D)
 | .lst ds=>some ds
 | .str x=>some (signs x)
 | _=>none
def kC:List D->List D->List D
 | a::r,b::t=>.tup [a,b]::kC r t
 | _,_=>[]
theorem jf:∀ (a b:List D),(kC a b).length=min a.length b.length
 | [],_=>by simp[kC]
 | _::_,[]=>by simp[kC]
 | _::r,_::t=>by simp only[kC,Jv,jf r t];omega
theorem nI:∀ {a b:List D} {i:Nat} {x y:D},a[i]?=some x->b[i]?=some y->(kC a b)[i]?=some (.tup [x,y])
 | _::_,_::_,0,_,_,h,h'=>by simp at h h';subst h h';rfl
 | _::r,_::t,i+1,_,_,h,h'=>by simp only[J3]at h h';simpa[kC]using nI h h'
 | [],_,_,_,_,h,_=>by simp at h
 | _::_,[],_,_,_,_,h=>by simp at h
theorem qq{K:JD}{H:Hp}(z:Str):RDs K H (signs z) (dX z):=by
 have e1:signs z=(z.cps.toList.map fun c=>(⟨#[c]⟩:Str)).map D.str:=by simp[signs]
 have e2:dX z=(z.cps.toList.map fun c=>(⟨#[c]⟩:Str)).map V.str:=by simp[dX]
 rw[e1,e2];exact RDs.strs _
theorem wz{K:JD}{H:Hp}{d:D}{v:V}{u:IV}{ds:List D}(e:fG d=some ds)(r:RD K H d v)(ru:aF v u):
  ∃ k:Zk,u=k.val/\RDs K H ds k.vs/\∀ (G:Gp) (G':Gp) (H':Hp),RG K H G->Kp G H G' H'->k.here K H'/\RDs K H' ds k.vs:=by
 cases d with
 | lst es=>
  simp only[fG,Option.some.injEq]at e;subst e;simp only[RD]at r;obtain⟨a,xs,rfl,f,rr⟩:=r;cases ru;exact⟨.lst a xs,rfl,rr,fun G G' H' rg k=>⟨((k.stb rg).l _ _ f).sq,RDs.mono (k.stb rg) _ _ rr⟩⟩
 | str z=>
  simp only[fG,Option.some.injEq]at e;subst e;simp only[RD]at r;subst r;obtain⟨t,rfl⟩:=ru;exact⟨.txt z t,rfl,qq z,fun _ _ _ _ _=>⟨True.intro,qq z⟩⟩
 | _=>simp[fG]at e
theorem EQ{K:JD}{G0:Gp}{H0:Hp}{ds es:List D}{k1 k2:Zk}(rg0:RG K H0 G0)(r1:∀ (G:Gp) (G':Gp) (H':Hp),RG K H0 G->Kp G H0 G' H'->k1.here K H'/\RDs K H' ds k1.vs)(r2:∀ (G:Gp) (G':Gp) (H':Hp),RG K H0 G->Kp G H0 G' H'->k2.here K H'/\RDs K H' es k2.vs):
  yC K G0 H0 (kC ds es) (Iw K k1 k2):=fun i G H k rg=>by
 obtain⟨a1,q1⟩:=r1 G0 G H rg0 k;obtain⟨a2,q2⟩:=r2 G0 G H rg0 k;have n1:=q1.length;have n2:=q2.length;rw[jf];refine⟨fun hi=>⟨⟨⟨by walk_at "o",by walk_at "o"⟩,a1,a2⟩,fun x H' y=>?_⟩,fun e=>⟨by walk_at "o",a1,a2⟩⟩
 obtain⟨p,u,v,hn,rfl,rfl,e1,e2⟩:=y;have i1:i < ds.length:=by walk_at "o"
 have i2:i < es.length:=by walk_at "o"
 obtain⟨u',f1,g1⟩:=q1.get (Jb i1);obtain⟨v',f2,g2⟩:=q2.get (Jb i2);rw[e1]at f1;cases f1;rw[e2]at f2;cases f2;exact⟨Kp.laid hn,rg.laid hn,_,nI (Jb i1) (Jb i2),kH rg hn (RDs.cons g1 (RDs.cons g2 RDs.nil))⟩
def yc(ta:lP):A9:=fun σ G Q=>ta σ G fun ds G'=>match ds with
 | [x,y]=>∃ a b,(fG x=some a/\fG y=some b)/\Q (kC a b) G'
 | _=>False
theorem uW:KN "zip"=some (.type "zip"):=by kernel_rfl
theorem qX{K:JD}{H:Hp}{x y:D}{vs:List V}(h:RDs K H [x,y] vs):∃ v u,vs=[v,u]/\RD K H x v/\RD K H y u:=by
 obtain⟨v,t,rfl,h1,h2⟩:=h.inv_cons;obtain⟨u,rfl,h3⟩:=fX h2;exact⟨v,u,rfl,h1,h3⟩
end L3
namespace L2
open PySem PySem.Spec PyProof.Rows
theorem r_:Na (.type "list") "keys"=pure none:=by rw[ND,MJ];kernel_rfl
theorem uu:Na (.type "zip") "keys"=pure none:=by rw[ND,MJ];kernel_rfl
theorem lQ:Na (.type "zip") "__getattr__"=pure none:=by rw[ND,MJ];kernel_rfl
theorem sG:entryFor table "zip.__getattribute__"=some Builtin.«object.__getattribute__»:=entryFor_alias (id':="object.__getattribute__") (by kernel_rfl) (by first|rfl|decide +kernel) (by decide +kernel) (by kernel_rfl)
theorem xS:(["__module__","__name__","__qualname__","__doc__","__annotations__"]:List Str).contains (I_ "keys")=false:=by decide +kernel
theorem qm:(I_ "keys").length+100<=Jg:=by rw[JW];decide +kernel
theorem oC(a:IW)(vs:Array IV)(u:Tok):Meets (Builtin.«object.__getattribute__» ⟨[.ref a,.str "keys" u],[]⟩) (fun A R s=>s.heap.get? a=some { cls:=.type "zip",dict:=none,data:=.fields vs,slots:=#[] }/\raisesAttr (.ref a) "keys" A R s):=
 Meets.of_wp fun prog w A R s hs=>by
  obtain⟨hp,g,d,tk,os⟩:=s;obtain⟨hx,hs⟩:=hs;have hT:(⟨hp,g,d,tk,os⟩:IX).TypeIs (.ref a) "zip":=⟨_,hx,rfl⟩;have f4:=uu;unfold Builtin.«object.__getattribute__»
  repeat (any_goals (first|assumption|wp_step))
  exact wpAny_raiseAttrError hs.1 hs.2 (attrMsg_fits (by decide +kernel) qm)
section
variable{prog:Jw}{w:JG}{A:Jy}{E:IV->IX->Prop}{s:IX}{a:IW}{Q:Option IV->IX->Prop}
theorem rZ{xs:Array IV}{k:Nat}{sl:Array (Option IV)}(hx:s.heap.get? a=some { cls:=.type "list",dict:=none,data:=.seq xs k,slots:=sl })(hA:A.in1.handled=none)
  (h:∀ h' tk,(∀ c o,s.heap.get? c=some o->h'.get? c=some o)->Q none { s with heap:=h',toks:=tk }):Jc (Jf prog w) A (Nk (.ref a) "keys") Q E s:=by
 obtain⟨hp,g,d,tk,os⟩:=s;have hT:∀ tk',(⟨hp,g,d,tk',os⟩:IX).TypeIs (.ref a) "list":=fun _=>⟨_,hx,rfl⟩;have f1:=OC;have f3:=F.slot_list_getattribute.lookup;have f4:=F.slot_list_getattribute.bind (.ref a);have f5:=am_list_getattr_none;unfold Nk getAttrBy?
 repeat (any_goals (first|assumption|exact hT _|((with_reducible show Jc _ _ (call _ _ _) _ _ _);refine OI F.slot_list_getattribute (hT _) am_entry_list_getattribute (F.args_list_getattribute_2 _ _) (meets_getattribute_miss_list a xs k sl _ _ r_ xS qm) ⟨hx,hA,fun h' t' e hx'=>?_⟩)|wp_step))
 obtain⟨t1,u1,he⟩:=hx'.there;show Jc _ _ (Ml _ _ _ _ _ _ _) _ _ _
 unfold Ml
 repeat (any_goals (first|assumption|wp_step))
 exact h _ _ hx'.keeps
theorem ug{vs:Array IV}(hx:s.heap.get? a=some { cls:=.type "zip",dict:=none,data:=.fields vs,slots:=#[] })(hA:A.in1.handled=none)
  (h:∀ h' tk,(∀ c o,s.heap.get? c=some o->h'.get? c=some o)->Q none { s with heap:=h',toks:=tk }):Jc (Jf prog w) A (Nk (.ref a) "keys") Q E s:=by
 obtain⟨hp,g,d,tk,os⟩:=s;have hT:∀ tk',(⟨hp,g,d,tk',os⟩:IX).TypeIs (.ref a) "zip":=fun _=>⟨_,hx,rfl⟩;have f1:=OC;have f3:=F.slot_zip_getattribute.lookup;have f4:=F.slot_zip_getattribute.bind (.ref a);have f5:=lQ;unfold Nk getAttrBy?
 repeat (any_goals (first|assumption|exact hT _|((with_reducible show Jc _ _ (call _ _ _) _ _ _);refine OI F.slot_zip_getattribute (hT _) sG (F.args_zip_getattribute_2 _ _) (oC a vs _) ⟨hx,hA,fun h' t' e hx'=>?_⟩)|wp_step))
 obtain⟨t1,u1,he⟩:=hx'.there;show Jc _ _ (Ml _ _ _ _ _ _ _) _ _ _
 unfold Ml
 repeat (any_goals (first|assumption|wp_step))
 exact h _ _ hx'.keeps
end
structure PWalk(prog:Jw)(w:JG)(A:Jy)(it:IW)(wr:List IW)(n:Nat)(Pv:Nat->IV->IV->Prop)(St:Nat->JI->Prop):Prop where
 frame:∀ i h h',St i h->(∀ c o,o.cls≠.type "dict"->h.get? c=some o->h'.get? c=some o)->St i h'
 item:∀ i (s:IX) (Q:Option IV->IX->Prop) (E:IV->IX->Prop),i < n->St i s.heap->
  (∀ h' tk p k v,Pv i k v->(∃ o m,h'.get? p=some o/\o.cls=.type "tuple"/\o.data=.seq #[k,v] m)->St (i+1) h'->(∀ c o,c∉wr->s.heap.get? c=some o->h'.get? c=some o)->Q (some (.ref p)) { s with heap:=h',toks:=tk })->
  Jc (Jf prog w) A (Lf (.ref it)) Q E s
 done:∀ (s:IX) (Q:Option IV->IX->Prop) (E:IV->IX->Prop),St n s.heap->(∀ h' tk,(∀ c o,c∉wr->s.heap.get? c=some o->h'.get? c=some o)->Q none { s with heap:=h',toks:=tk })->
  Jc (Jf prog w) A (Lf (.ref it)) Q E s
theorem fw:plainId "dict.update.loop"=true:=by decide +kernel
theorem jr:entryFor table "dict.update.loop"=some Builtin.«dict.update.loop»:=entryFor_of_tree (by kernel_rfl)
section
variable{prog:Jw}{w:JG}{A:Jy}{it d:IW}{wr:List IW}{n:Nat}{Pv:Nat->IV->IV->Prop}{St:Nat->JI->Prop}{R:OK->IX->Prop}{h0:JI}
def Ha(prog:Jw)(w:JG)(h:JI)(d:IW)(xs:List (List aQ×IW×IV)):Prop:=
 ∃ o es ep,h.get? d=some o/\o.ExactDict/\o.data=.dict es ep/\es.toList=xs.map (OG (Ks (bn prog w)))/\(xs.map (·.1)).Nodup
theorem vK{p:IW}{k v:IV}{s:IX}{E:IV->IX->Prop}{Q:List IV->IX->Prop}(h:∃ o m,s.heap.get? p=some o/\o.cls=.type "tuple"/\o.data=.seq #[k,v] m)(q:Q [k,v] s):Jc (Jf prog w) A (Oe (.ref p)) Q E s:=by
 obtain⟨o,m,e,c,dt⟩:=h;unfold Oe;refine IU (N7 (T:="tuple") ⟨o,e,c⟩ ?_);rw[if_pos (by decide)]
 exact IU (Lu e dt (IY q))
theorem yQ(W:PWalk prog w A.in1 it wr n Pv St)(hu:A.units+1 < JY)(hd:d∉wr)(hn:n<=Jg)(Acc:Nat->List (List aQ×IW×IV)->Prop)
  (hk:∀ i k v xs,Pv i k v->Acc i xs->∃ ks b,k=.ref b/\Acc (i+1) (MV xs ks b v)/\∀ h,(∀ c o,c∉wr->c≠d->h0.get? c=some o->h.get? c=some o)->(Ks (bn prog w)).is h ks b)
  (hx:∀ i xs,Acc i xs->xs.length<=i/\∀ x∈xs,∀ h,(∀ c o,c∉wr->c≠d->h0.get? c=some o->h.get? c=some o)->(Ks (bn prog w)).is h x.1 x.2.1):
  ∀ (k i:Nat) (s:IX) (xs:List (List aQ×IW×IV)),n - i=k->i<=n->St i s.heap->(∀ c o,c∉wr->c≠d->h0.get? c=some o->s.heap.get? c=some o)->Ha prog w s.heap d xs->Acc i xs->
   (∀ h' tk ys,(∀ c o,c∉wr->c≠d->h0.get? c=some o->h'.get? c=some o)->(∀ c o,c∉wr->c≠d->s.heap.get? c=some o->h'.get? c=some o)->Ha prog w h' d ys->Acc n ys->R (.ok (.ret .none)) { s with heap:=h',toks:=tk })->
   Mb (Jf prog w) A (.builtin "dict.update.loop" ⟨[.ref d,.ref it,LB i,.none],[]⟩) R s:=by
 intro k
 induction k with
 | zero=>
  intro i s xs hk' hi st keep dr ac hR;have hin:i=n:=by walk_at "o"
  subst hin;refine codeAny_builtin jr ?_;rw[Ot fw _];show Jc _ A.in1 (Lf (.ref it) >>= _) _ _ s
  refine IU (W.done s _ _ st fun h' tk kp=>?_);show Jc _ _ (Builtin.Dict.addKeywords d [] >>= _) _ _ _
  refine IU (IY (IY ?_));obtain⟨o,es,ep,e,r⟩:=dr;exact hR h' tk xs (fun c o hc hcd q=>kp c o hc (keep c o hc hcd q)) (fun c o hc _ q=>kp c o hc q) ⟨o,es,ep,kp d o hd e,r⟩ ac
 | succ k ih=>
  intro i s xs hk' hi st keep dr ac hR;have hlt:i < n:=by walk_at "o"
  refine codeAny_builtin jr ?_;rw[Ot fw _];show Jc _ A.in1 (Lf (.ref it) >>= _) _ _ s
  refine IU (W.item i s _ _ hlt st fun h1 t1 p kv vv pv tp st1 kp=>?_);obtain⟨ks,b,rfl,ac',key⟩:=hk i kv vv xs pv ac;refine IU (JZ (IU (wpAny_tryCatch (vK tp ?_))));refine JZ ?_;obtain⟨o,es,ep,e,r1,r2,r3,r4⟩:=dr;have Rk:∀ c o,c∉wr->c≠d->h0.get? c=some o->h1.get? c=some o:=fun c o hc hcd q=>kp c o hc (keep c o hc hcd q);obtain⟨len,keys⟩:=hx i xs ac;have dd:Heap.DictOfH (Ks (bn prog w)) h1 d xs:=⟨o,es,ep,kp d o hd e,r1,r2,r3,fun x hx'=>keys x hx' h1 Rk,r4⟩;refine Oy (s:={ s with heap:=h1,toks:=t1 }) (hsz:=by walk_at "o") (show A.in1.units < JY from hu) (key h1 Rk) dd fun h2 dd2 sb=>?_
  obtain⟨o2,es2,ep2,e2,q1,q2,q3,_,q4⟩:=dd2;have up:∀ c o,c≠d->h1.get? c=some o->h2.get? c=some o:=fun c o hc q=>sb.extBut _ _ hc q;have kpd:h1.get? d=some o:=kp d o hd e;refine IY ⟨plainId_quiet fw _,?_⟩;have:=ih (i+1) { s with heap:=h2,toks:=t1+(Ks (bn prog w)).draws ks } (MV xs ks b vv) (by walk_at "o") hlt (W.frame _ _ _ st1 fun c o' hc q=>up c o' (fun z=>by subst z;rw[kpd]at q;cases q;exact hc r1.1) q) (fun c o hc hcd q=>up c o hcd (Rk c o hc hcd q)) ⟨o2,es2,ep2,e2,q1,q2,q3,q4⟩ ac'
   fun h' tk ys k1 k2 k3 k4=>hR h' tk ys k1 (fun c o hc hcd q=>k2 c o hc hcd (up c o hcd (kp c o hc q))) k3 k4
  exact this
end
end L2
namespace L3
open PySem PySem.Spec PyProof.Rows L2
def t7(kv:List aQ×D):D:=.tup [.tup (kv.1.map kD),kv.2]
def dictOf(kvs:List (List aQ×D)):List (List aQ×D):=kvs.foldl (fun a kv=>cH a kv.1 kv.2) []
theorem lJ(kvs:List (List aQ×D)):∀ a:List (List aQ×D),(kvs.foldl (fun a kv=>cH a kv.1 kv.2) a).length<=a.length+kvs.length:=by
 induction kvs with
 | nil=>intro a;exact le_refl _
 | cons kv r ih=>
  intro a;have h1:=ih (cH a kv.1 kv.2);have h2:=gi a kv.1 kv.2;simp only[L0,Jv];omega
theorem uP{kvs:List (List aQ×D)}{i:Nat}{kv:List aQ×D}(h:kvs[i]?=some kv):dictOf (kvs.take (i+1))=cH (dictOf (kvs.take i)) kv.1 kv.2:=by
 unfold dictOf;rw[Ke,h,List.foldl_append];rfl
theorem sL(kvs:List (List aQ×D)):((dictOf kvs).map (·.1)).Nodup:=by
 unfold dictOf
 suffices h:∀ a:List (List aQ×D),(a.map (·.1)).Nodup->((kvs.foldl (fun a kv=>cH a kv.1 kv.2) a).map (·.1)).Nodup from h [] Nr
 induction kvs with
 | nil=>intro a h;exact h
 | cons kv r ih=>intro a h;exact ih _ (j9 kv.1 kv.2 h)
theorem ym{prog:Jw}{w:JG}{A:Jy}{E:IV->IX->Prop}{s:IX}{src:IW}{T:String}{Q:IV->IX->Prop}(hT:∃ o,s.heap.get? src=some o/\o.cls=.type T)(hne:(Value.type T != Value.type "dict")=true)
  (hno:∀ (s':IX) (Q':Option IV->IX->Prop) (E':IV->IX->Prop),(∀ c o,s.heap.get? c=some o->s'.heap.get? c=some o)->(∀ h' tk,(∀ c o,s'.heap.get? c=some o->h'.get? c=some o)->Q' none { s' with heap:=h',toks:=tk })->Jc (Jf prog w) A.in1.in1 (Nk (.ref src) "keys") Q' E' s')
  (h:∀ h' tk,(∀ c o,s.heap.get? c=some o->h'.get? c=some o)->h'.get? s.heap.objs.size=some { cls:=.type "dict",data:=.dict #[] }->
   Jc (Jf prog w) A.in1.in1 (Mf (.ref src)) (fun it s2=>Mb (Jf prog w) A.in1 (.builtin "dict.update.loop" ⟨[.ref s.heap.objs.size,it,LB 0,.none],[]⟩) (wants (fun r s₂=>r=.none/\Q (.ref s.heap.objs.size) s₂) E) s2) (fun e s'=>wants (fun r s₂=>r=.none/\Q (.ref s.heap.objs.size) s₂) E (.error e) s') { s with heap:=h',toks:=tk }):
  Jc (Jf prog w) A (call (.type "dict") [.ref src]) Q E s:=by
 refine callType_codes (Q₁:=fun obj s₁=>obj=.ref s.heap.objs.size/\s₁={ s with heap:=s.heap.push { cls:=.type "dict",data:=.dict #[] } }) F.kt_called_dict (F.kt_typeCall_dict_1 _) F.entry_dict_init (kt_code_dict_new _ ⟨rfl,rfl⟩) ?_
 rintro obj s₁ ⟨rfl,rfl⟩
 have hd:(s.heap.push { cls:=.type "dict",data:=.dict #[] }).get? s.heap.objs.size=some { cls:=.type "dict",data:=.dict #[] }:=Je _ rfl;have tyd:Shared.TypeIs { s with heap:=s.heap.push { cls:=.type "dict",data:=.dict #[] } } (.ref s.heap.objs.size) "dict":=⟨_,hd,rfl⟩
 obtain⟨o,e,c⟩:=hT;have up:∀ c o,s.heap.get? c=some o->(s.heap.push { cls:=.type "dict",data:=.dict #[] }).get? c=some o:=fun c o e=>Ja _ e;refine⟨tyd,F.args_dict_init_2 _ _,?_⟩;unfold Builtin.«dict.__init__»;refine IU ?_;unfold Builtin.Dict.selfAndRest;refine IU (Ls tyd ?_);show Jc _ _ (pure (s.heap.objs.size,[Value.ref src])) _ _ _;refine IY ?_
 show Jc _ _ (N6 "dict.__init__" s.heap.objs.size (.ref src) [] .none) _ _ _
 unfold N6;refine IU (N7 (T:=T) ⟨o,up _ _ e,c⟩ ?_);rw[if_pos hne];refine IU (hno _ _ _ up fun h' tk kp=>?_);simp only[Option.isNone_none,if_true];refine IU (LP ?_);refine IU (Ka (h h' tk (fun c o e=>kp c o (up c o e)) (kp _ _ hd)) (fun it s2 q=>IY ⟨plainId_quiet fw _,q⟩) fun _ _ q=>q)
section
variable{X:Cx}{pins:List (IW×Obj)}{τ:St}{H1:Hp}{s1:IX}{G1:Gp}
theorem uO{src:IW}{T:String}{kvs:List (List aQ×D)}{Q:IV->IX->Prop}(hu:X.A.units+8 < JY)(I1:L2.Inv X pins τ H1 s1)(rg1:RG X.K H1 G1)(hz:kvs.length<=900000)
  (hT:∃ o,s1.heap.get? src=some o/\o.cls=.type T) (hne:(Value.type T != Value.type "dict")=true)
  (hno:∀ (s':IX) (Q':Option IV->IX->Prop) (E':IV->IX->Prop),(∀ c o,s1.heap.get? c=some o->s'.heap.get? c=some o)->(∀ h' tk,(∀ c o,s'.heap.get? c=some o->h'.get? c=some o)->Q' none { s' with heap:=h',toks:=tk })->Jc (Jf X.prog X.w) X.A.in1.in1 (Nk (.ref src) "keys") Q' E' s')
  (hit:∀ (h2:JI) (tk2:Nat) (Q':IV->IX->Prop) (E':IV->IX->Prop),(∀ c o,s1.heap.get? c=some o->h2.get? c=some o)->s1.heap.objs.size < h2.objs.size->
   (∀ it wr Pv St h3,PWalk X.prog X.w X.A.in1.in1 it wr kvs.length Pv St->St 0 h3->(∀ c o,h2.get? c=some o->h3.get? c=some o)->(∀ b∈wr,mK X pins H1 b/\b≠s1.heap.objs.size)->
    (∀ i k v,Pv i k v->∃ kv b x,kvs[i]?=some kv/\k=.ref b/\ja X.K H1 b (kv.1.map kV)/\RD X.K H1 kv.2 x/\aF x v)->Q' (.ref it) { s1 with heap:=h3,toks:=tk2 })->
   Jc (Jf X.prog X.w) X.A.in1.in1 (Mf (.ref src)) Q' E' { s1 with heap:=h2,toks:=tk2 })
  (q:∀ s' H',L2.Inv X pins τ H' s'->H1 s1.heap.objs.size=none->Kp G1 H1 (gset G1 s1.heap.objs.size (.dT (ah X.prog X.w) (dictOf kvs))) H'->RG X.K H' (gset G1 s1.heap.objs.size (.dT (ah X.prog X.w) (dictOf kvs)))->Q (.ref s1.heap.objs.size) s'):
  Jc (Jf X.prog X.w) X.A (call (.type "dict") [.ref src]) Q X.xe s1:=by
 have hsl:=av;have sle:=JW;refine ym hT hne hno fun h2 tk2 kp2 hd2=>?_;refine hit h2 tk2 _ _ kp2 (Ju hd2) fun it wr Pv St h3 W st0 kp3 hwr hpv=>?_;have hf:H1 s1.heap.objs.size=none:=I1.hok.fresh (le_refl _);have hdw:s1.heap.objs.size∉wr:=fun z=>(hwr _ z).2 rfl;have ltk:∀ {b:IW} {ks:List aQ},ja X.K H1 b (ks.map kV)->b∉wr/\b≠s1.heap.objs.size/\∀ h:JI,(∀ c o,c∉wr->c≠s1.heap.objs.size->s1.heap.get? c=some o->h.get? c=some o)->(Ks (bn X.prog X.w)).is h ks b:=fun {b ks} sq=>by
  have key:=key_at I1 sq;obtain⟨o,its,n,e,c,dd,ii⟩:=id key;have hb1:b≠s1.heap.objs.size:=JP (Ju e);have hb2:b∉wr:=fun z=>by
   obtain⟨⟨g0,g1,g2,g3,g4,g5⟩,_⟩:=hwr b z;rcases sq with (e1|⟨o',e1⟩)|⟨o',its',n',kl,_⟩
   ·rw[g0]at e1;cases e1
   ·rw[g0]at e1;cases e1
   ·have e2:X.base.get? b=some o':=I1.mod.kin b o' kl;rcases g3 with g3|g3
    ·exact I1.ok.noex b o' e2 g3
    ·exact absurd (Ju (I1.ok.bs b o' e2).1) (not_lt.mpr g3)
  exact⟨hb2,hb1,fun h kp=>⟨o,its,n,kp b o hb2 hb1 e,c,dd,ii⟩⟩
 have WV:∀ {i:Nat} {xs:List (List aQ×IW×IV)},jK X.K H1 (dictOf (kvs.take i)) xs->xs.length<=i/\∀ x∈xs,ja X.K H1 x.2.1 (x.1.map kV):=fun {i xs} r=>by
  refine⟨?_,?_⟩
  ·rw[<- r.length];have:=lJ (kvs.take i) [];rw[JN]at this;unfold dictOf;simp only[JU]at this;omega
  ·unfold jK at r;generalize dictOf (kvs.take i)=ks at r
   induction r with
   | nil=>intro x hx;exact nomatch hx
   | @cons p q ps qs hq t ih=>
    intro x hx;rcases Kg.mp hx with e|hx
    ·subst e;rw[<- hq.1];exact hq.2.1
    ·exact ih x hx
 refine yQ (A:=X.A.in1) (h0:=s1.heap) (d:=s1.heap.objs.size) W (show X.A.units+1+1 < JY by walk_at "o") hdw (by walk_at "o") (fun i xs=>jK X.K H1 (dictOf (kvs.take i)) xs) (fun i k v xs pv ac=>?_) (fun i xs ac=>?_) kvs.length 0 { s1 with heap:=h3,toks:=tk2 } [] (Nh _) (JQ _) st0 (fun c o _ _ e=>kp3 c o (kp2 c o e)) ⟨_,#[],0,kp3 _ _ hd2,⟨rfl,rfl,rfl⟩,rfl,rfl,Nr⟩ .nil fun h' tk ys k1 k2 dr ac=>?_
 ·obtain⟨kv,b,x,e,rfl,sq,rd,rv⟩:=hpv i k v pv;refine⟨kv.1,b,rfl,?_,(ltk sq).2.2⟩;show jK X.K H1 (dictOf (kvs.take (i+1))) _
  rw[uP e];exact jK.put ac kv.1 sq rd rv
 ·obtain⟨len,ks⟩:=WV ac;exact⟨len,fun x hx h kp=>(ltk (ks x hx)).2.2 h kp⟩
 ·rw[JR]at ac;obtain⟨o,es,ep,e,r1,r2,r3,r4⟩:=dr;have hsm:(s1.heap.objs.size == J8)=false:=beq_eq_false_iff_ne.mpr (Ne.symm (JP I1.big));have fd:o.isFreed=false:=by
   obtain⟨c,dd,dt,sl⟩:=o;have r2':dt=.dict es ep:=r2;subst r2';rfl
  obtain⟨kpp,rg2⟩:=Cr (o:=.dT (ah X.prog X.w) (dictOf kvs)) (ho:=.ext (qV (ah X.prog X.w) s1.heap.objs.size ys)) rg1 hf fun H' st=>⟨ys,rfl,ac.mono st,sL kvs,by
   have:=lJ kvs [];unfold dictOf;simp only[JU]at this;omega⟩
  have I2:L2.Inv X pins τ (bG H1 s1.heap.objs.size (.ext (qV (ah X.prog X.w) s1.heap.objs.size ys))) { s1 with heap:=s1.heap.push o,toks:=s1.toks }:=
   I1.laid (fun _ _ q=>Ja _ q) (le_refl _) (ko ⟨hsm,o,es,ep,Je _ fd,r1,r2,r3⟩)
  have I3:=Inv.turnedL (s:={ s1 with heap:=s1.heap.push o,toks:=s1.toks }) (h':=h') (t':=tk) (fp:=wr) I2 (fun b o' hb qb=>by
   have qb':(s1.heap.push o).get? b=some o':=qb
   by_cases hbs:b=s1.heap.objs.size
   ·subst hbs;rw[Je _ fd]at qb';cases qb';exact e
   ·rw[Nn _ _ _ hbs]at qb';exact k1 b o' hb hbs qb') fun b hb=>by
   obtain⟨⟨g0,g1,g2,g3,g4,g5⟩,nb⟩:=hwr b hb;exact⟨by rw[ax nb];exact g0,g1,g2,g3,g4,g5⟩
  exact⟨rfl,q _ _ I3 hf kpp rg2⟩
end
end L3
namespace L2
open PySem PySem.Spec PyProof.Rows
theorem vH{prog:Jw}{w:JG}{A:Jy}{it l:IW}{us:List IV}{Pv:Nat->IV->IV->Prop}(hh:A.handled=none):
  PWalk prog w A it [it] us.length Pv (fun i h=>h.IsListIter it l i/\h.IsList l us.toArray/\∀ j u,us[j]?=some u->∃ p kk vv,u=.ref p/\(∃ o m,h.get? p=some o/\o.cls=.type "tuple"/\o.data=.seq #[kk,vv] m)/\Pv j kk vv) where
 frame:=fun i h h' ⟨⟨o1,e1,c1,d1⟩,⟨o2,e2,c2,d2⟩,ps⟩ kp=>⟨⟨o1,kp _ _ (by rw[c1];decide) e1,c1,d1⟩,⟨o2,kp _ _ (by rw[c2];decide) e2,c2,d2⟩,fun j u hu=>by
  obtain⟨p,kk,vv,e,⟨o,m,g,c,dt⟩,pv⟩:=ps j u hu;exact⟨p,kk,vv,e,⟨o,m,kp _ _ (by rw[c];decide) g,c,dt⟩,pv⟩⟩
 item:=fun i s Q E hi ⟨x1,x2,ps⟩ q=>by
  have hu:us[i]?=some us[i]:=Jb hi;obtain⟨p,kk,vv,e,tp,pv⟩:=ps i _ hu;refine N8 x1 x2 (x:=us[i]) (by simpa using hu) fun h' st' sb=>?_
  obtain⟨o1,e1,c1,_⟩:=x1;obtain⟨o2,e2,c2,_⟩:=id x2;have ne:∀ {b:IW} {o:Obj} {T:String},s.heap.get? b=some o->o.cls=.type T->Value.type T≠.type "list_iterator"->b≠it:=fun hb hc hT z=>by subst z;rw[e1]at hb;cases hb;rw[c1]at hc;exact hT hc.symm
  have lk:∀ {p:IW} {kk vv:IV},(∃ o m,s.heap.get? p=some o/\o.cls=.type "tuple"/\o.data=.seq #[kk,vv] m)->∃ o m,h'.get? p=some o/\o.cls=.type "tuple"/\o.data=.seq #[kk,vv] m:=fun⟨o,m,g,c,dt⟩=>⟨o,m,(sb.2 _ (ne g c (by decide))).trans g,c,dt⟩
  rw[e];refine q h' s.toks p kk vv pv (lk tp) ⟨st',x2.at fun o g=>(sb.2 l (ne e2 c2 (by decide))).trans g,fun j u hu=>?_⟩ fun c o hc g=>(sb.2 c (fun z=>hc (by simp[z]))).trans g
  obtain⟨p',k',v',e',tp',pv'⟩:=ps j u hu;exact⟨p',k',v',e',lk tp',pv'⟩
 done:=fun s Q E ⟨x1,x2,ps⟩ q=>Og hh x1 x2 (by simp) fun h' eb=>q h' s.toks fun c o hc g=>eb c o (fun z=>hc (by simp[z])) g
theorem xk.wr{k1 k2:Zk}{z TI TO i1 i2:IW}{i:Nat}{h:JI}(x:xk k1 k2 z TI TO i1 i2 i h):∀ b∈[z,TI,TO,i1,i2],∃ o,h.get? b=some o/\o.cls≠.type "list"/\o.cls≠.type "dict":=by
 obtain⟨⟨f0,f1,_,hz⟩,hTI,⟨a,b',hTO⟩,h1,h2⟩:=x;have nd:∀ {k:Zk} {it:IW},k.it it i h->∃ o,h.get? it=some o/\o.cls≠.type "list"/\o.cls≠.type "dict":=fun {k it} y=>by
  cases k with
  | lst l xs=>
   obtain⟨o,e,c,_⟩:=y;exact⟨o,e,by rw[c];decide,by rw[c];decide⟩
  | txt z t=>
   obtain⟨o,e,c,_⟩:=y;refine⟨o,e,?_⟩;rw[c];rcases jY z with q|q<;>rw[q]<;>decide
 intro b hb;simp only[Kg,Kz,or_false]at hb;rcases hb with rfl|rfl|rfl|rfl|rfl
 ·exact⟨_,hz,by show Value.type "zip"≠_;decide,by show Value.type "zip"≠_;decide⟩
 ·exact⟨_,hTI,by show Value.type "tuple"≠_;decide,by show Value.type "tuple"≠_;decide⟩
 ·exact⟨_,hTO,by show Value.type "tuple"≠_;decide,by show Value.type "tuple"≠_;decide⟩
 ·exact nd h1
 ·exact nd h2
theorem Zk.stay{k:Zk}{h h':JI}(r:k.ready h)(q:∀ c o,o.cls=.type "list"->h.get? c=some o->h'.get? c=some o):k.ready h':=by
 cases k with
 | lst l xs=>
  obtain⟨us,rv,o,e,c,d⟩:=r;exact⟨us,rv,o,q l o c e,c,d⟩
 | txt z t=>exact True.intro
theorem xA{prog:Jw}{w:JG}{A:Jy}{k1 k2:Zk}{z TI TO i1 i2:IW}(hh:A.in1.handled=none)(D:ZAp z TI TO i1 i2):
  PWalk prog w A z [z,TI,TO,i1,i2] (min k1.vs.length k2.vs.length) (fun i k v=>∃ u x,k1.vs[i]?=some u/\k2.vs[i]?=some x/\aF u k/\aF x v) (fun i h=>xk k1 k2 z TI TO i1 i2 i h/\k1.ready h/\k2.ready h) where
 frame:=fun i h h' ⟨st,r1,r2⟩ kp=>⟨st.keep fun b hb o e=>by
  obtain⟨o',e',_,c⟩:=st.wr b hb;rw[e]at e';cases e';exact kp b o c e,Zk.stay r1 fun c o hc e=>kp c o (by rw[hc];decide) e,Zk.stay r2 fun c o hc e=>kp c o (by rw[hc];decide) e⟩
 item:=fun i s Q E hi ⟨st,r1,r2⟩ q=>by
  refine wy hh D st r1 r2 (by walk_at "o") (by walk_at "o") fun h' tk x y u v e1 e2 ru rv st' tp sz kp=>?_
  have ls:∀ c o,o.cls=.type "list"->s.heap.get? c=some o->h'.get? c=some o:=fun c o hc e=>kp c o (fun hb=>by
   obtain⟨o',e',c',_⟩:=st.wr c hb;rw[e]at e';cases e';exact c' hc) e
  exact q h' tk _ x y ⟨u,v,e1,e2,ru,rv⟩ ⟨_,_,tp,rfl,rfl⟩ ⟨st',Zk.stay r1 ls,Zk.stay r2 ls⟩ kp
 done:=fun s Q E ⟨st,r1,r2⟩ q=>yJ hh D st r1 r2 rfl fun h' tk kp=>q h' tk kp
end L2
namespace L3
open PySem PySem.Spec PyProof.Rows L2
theorem qM:KN "dict"=some (.type "dict"):=by kernel_rfl
theorem Dl{X:Cx}{tg:JJ}{a b:JJ}{ta:lP}{p pos:Pos}(hg:Gl X "zip")(hm:X.mg "zip"=none)(ha:PA X [a,b] (fA X.K ta))(hs:Jx [a,b] X.env=[(false,eval a X.env),(false,eval b X.env)]:=by rfl)(hs2:Jx [b] X.env=[(false,eval b X.env)]:=by rfl):
  PI X tg (.Call (.Name "zip" p) [a,b] [] pos) (mS X.K (yc ta)):=by
 intro pins s τ H R I h;obtain⟨σ,G,Q3,rs,rg,hq,k⟩:=h;refine OX (gx I hg hm uW (PyProof.Rows.callWith_type1 (cm (ha pos pins s τ H (fun vs H1=>∃ ds G1,(match ds with|[x,y]=>∃ a b,(fG x=some a/\fG y=some b)/\Q3 (kC a b) G1|_=>False)/\Kp G H G1 H1/\RG X.K H1 G1/\RDs X.K H1 ds vs) I
  ⟨σ,G,_,rs,rg,hq,fun ds G1 vs H1 q k1 rg1 rds=>⟨ds,G1,q,k1,rg1,rds⟩⟩) fun us s1 ⟨vs,H1,I1,r1,q1⟩=>?_) (by rw[hs,hs2]) (by rw[hs2];rfl)))
 obtain⟨ds,G1,q,k1,rg1,rds⟩:=q1;split at q
 ·rename_i x y;obtain⟨as,bs,⟨ea,eb⟩,q⟩:=q;obtain⟨v,v',rfl,rd1,rd2⟩:=qX rds;obtain⟨u,u',rfl,ru1,ru2⟩:=r1.two;obtain⟨z1,rfl,_,w1⟩:=wz ea rd1 ru1;obtain⟨z2,rfl,_,w2⟩:=wz eb rd2 ru2;have hr1:=(w1 G1 G1 H1 rg1 Kp.refl).1;have hr2:=(w2 G1 G1 H1 rg1 Kp.refl).1;refine qL (Zk.of I1 hr1) (Zk.of I1 hr2) fun h' zs hsz kp=>?_;have D:ZAp (s1.heap.objs.size+4) (s1.heap.objs.size+2) (s1.heap.objs.size+3) s1.heap.objs.size (s1.heap.objs.size+1):=⟨JP (LW (s1.heap.objs.size+2)),JP (LW s1.heap.objs.size)⟩;refine (nL (P:=X.prog) (w:=X.w) (K:=X.K) (tg:=tg) z1 z2 _ _ _ _ _ D).self _ 0 _ _ _ zs ?_;refine⟨s1.heap.objs.size+4,[s1.heap.objs.size+4,s1.heap.objs.size+2,s1.heap.objs.size+3,s1.heap.objs.size,s1.heap.objs.size+1],_,_,H1,rfl,I1.kept (t':=s1.toks) kp,nL z1 z2 _ _ _ _ _ D,zs,fun c hc=>?_,k _ G1 _ H1 q k1 rg1 (EQ rg1 w1 w2)⟩;have hc':s1.heap.objs.size<=c:=by
   simp only[Kg,Kz,or_false]at hc;rcases hc with rfl|rfl|rfl|rfl|rfl<;>first|exact le_refl _|exact JX _ _
  exact I1.fpOk hc' (I1.hok.fresh hc')
 ·exact q.elim
def wg(hw:List aQ->Int)(te:bP):bP:=fun σ G Q=>te σ G fun x G1=>match qR G1 (val x) with
 | some ds=>∃ kvs:List (List aQ×D),(ds=kvs.map t7/\kvs.length<=900000)/\∀ p,G1 p=none->Q (.ref p) (gset G1 p (.dT hw (dictOf kvs)))
 | none=>False
def wf(hw:List aQ->Int)(ta:lP):bP:=fun σ G Q=>ta σ G fun ds G1=>match ds with
 | [x,y]=>∃ a b,∃ kvs:List (List aQ×D),(fG x=some a/\fG y=some b/\kC a b=kvs.map t7/\kvs.length<=900000)/\∀ p,G1 p=none->Q (.ref p) (gset G1 p (.dT hw (dictOf kvs)))
 | _=>False
theorem Di{K:JD}{H:Hp}{ks:List aQ}{v:V}(r:RD K H (.tup (ks.map kD)) v):∃ b,v=.ref b/\ja K H b (ks.map kV):=i4 (d:=.tup (ks.map kD)) (wV ks) r
theorem B0{X:Cx}{e:JJ}{te:bP}{p1 pos:Pos}(hu:X.A.units+8 < JY)(hc:X.calm=true)(hg:Gl X "dict")(hm:X.mg "dict"=none)(he:PE X e (aI X.K te))(hs:Jx [e] X.env=[(false,eval e X.env)]:=by rfl):
  PE X (.Call (.Name "dict" p1) [e] [] pos) (aI X.K (wg (ah X.prog X.w) te)):=by
 rintro pins s τ H Q I ⟨σ,G,Q3,rs,rg,h,k⟩
 refine OX (gx I hg hm qM (PyProof.Rows.callWith_type1 ?_ hs rfl) (by decide) (by decide))
 rw[show K3 pos (Jx [e] X.env)=[(false,eval e X.env)]by rw[hs];rfl]
 refine Kc (cm (cD he I rs rg h) fun ov s1 ⟨ox,H1,I1,rox,x,G1,q1,k1,rg1,rd1⟩=>KE ?_);split at q1
 ·rename_i ds hq;obtain⟨kvs,⟨rfl,hz⟩,q1⟩:=q1;obtain⟨l,xs,rfl,sq,r⟩:=iC (G:=G1) (H:=H1) hq (.of rd1) rg1;cases rox;obtain⟨its,rv,pl,_⟩:=I1.list sq;have n1:=r.length;have n2:=rv.length;rw[IZ]at n1;obtain⟨lo,ln,le,lc,ld,ldat⟩:=id pl;have tps:∀ (j:Nat) u,its[j]?=some u->∃ p kk vv,u=.ref p/\(∃ o m,s1.heap.get? p=some o/\o.cls=.type "tuple"/\o.data=.seq #[kk,vv] m)/\∃ kv b x,kvs[j]?=some kv/\kk=.ref b/\ja X.K H1 b (kv.1.map kV)/\RD X.K H1 kv.2 x/\aF x vv:=fun j u hu=>by
   obtain⟨v,e1,ru⟩:=Vals.getV rv hu;obtain⟨d,e2,rd⟩:=RDs.getV r e1;rw[JB]at e2;cases hkv:kvs[j]? with
   | none=>rw[hkv]at e2;cases e2
   | some kv=>
    rw[hkv]at e2;cases e2;unfold t7 at rd;simp only[RD]at rd;obtain⟨p,ys,rfl,sqp,ry⟩:=rd;obtain⟨y1,y2,rfl,ra,rb⟩:=qX ry;obtain⟨b,rfl,sb⟩:=Di (ks:=kv.1) (by simpa only[RD]using ra)
    cases ru;obtain⟨its2,rv2,tp,_⟩:=I1.tuple sqp;obtain⟨o,g1,g2,m,g3⟩:=tp;obtain⟨w1,w2,rfl,rw1,rw2⟩:=rv2.two;cases rw1;exact⟨p,_,w2,rfl,⟨o,m,g1,g2,by simpa using g3⟩,kv,b,y2,rfl,rfl,sb,rb,rw2⟩
  refine uO (T:="list") (kvs:=kvs) hu I1 rg1 hz ⟨lo,le,lc⟩ (by decide) (fun s' Q' E' kp q'=>?_) (fun h2 tk2 Q' E' kp hlt q'=>?_) fun s' H' I' hf kp rg'=>⟨.ref s1.heap.objs.size,H',I',rfl,k _ _ _ H' (q1 _ (rg1.free hf)) (k1.trans kp) rg' (.of iX)⟩
  ·obtain⟨c0,d0,t0,s0⟩:=lo;simp only at lc ld ldat;subst lc ld ldat;exact rZ (kp _ _ le) (I.ok.hd hc) q'
  ·refine Ms (pl.isList.at fun o e=>kp _ _ e) ?_;have hln:kvs.length=its.length:=n1.trans n2;have W:=vH (prog:=X.prog) (w:=X.w) (A:=X.A.in1.in1) (it:=h2.objs.size) (l:=l) (us:=its) (Pv:=fun (j:Nat) (kk vv:IV)=>∃ (kv:List aQ×D) (b:IW) (x:V),kvs[j]?=some kv/\kk=Value.ref b/\ja X.K H1 b (kv.1.map kV)/\RD X.K H1 kv.2 x/\aF x vv) (I.ok.hd hc);rw[<- hln]at W;refine q' h2.objs.size [h2.objs.size] _ _ _ W ⟨⟨_,Je _ rfl,rfl,rfl⟩,(pl.isList.at fun o e=>kp _ _ e).push _,fun j u hu=>?_⟩ (fun c o e=>Ja _ e) (fun b hb=>?_) fun i k v pv=>pv
   ·obtain⟨p,kk,vv,e,⟨o,m,g1,g2,g3⟩,pv⟩:=tps j u hu;exact⟨p,kk,vv,e,⟨o,m,Ja _ (kp _ _ g1),g2,g3⟩,pv⟩
   ·have e:=mem_singleton.mp hb;subst e;exact⟨I1.fpOk (le_of_lt hlt) (I1.hok.fresh (le_of_lt hlt)),My hlt⟩
 ·exact q1.elim
theorem BZ{X:Cx}{a b:JJ}{ta:lP}{p1 p2 pos Ru:Pos}(hu:X.A.units+8 < JY)(hc:X.calm=true)(hg1:Gl X "dict")(hm1:X.mg "dict"=none)(hg2:Gl X "zip")(hm2:X.mg "zip"=none)(ha:PA X [a,b] (fA X.K ta))
  (hs:Jx [a,b] X.env=[(false,eval a X.env),(false,eval b X.env)]:=by rfl) (hs2:Jx [b] X.env=[(false,eval b X.env)]:=by rfl):
  PE X (.Call (.Name "dict" p1) [.Call (.Name "zip" p2) [a,b] [] Ru] [] pos) (aI X.K (wf (ah X.prog X.w) ta)):=by
 rintro pins s τ H Q I ⟨σ,G,Q3,rs,rg,h,k⟩
 refine OX (gx I hg1 hm1 qM (PyProof.Rows.callWith_type1 ?_ rfl rfl) (by decide) (by decide))
 show Jc _ _ (spliced [(false,eval (.Call (.Name "zip" p2) [a,b] [] Ru) X.env)]) _ _ _
 refine Kc (OX (gx I hg2 hm2 uW (PyProof.Rows.callWith_type1 (cm (ha Ru pins s τ H (fun vs H1=>∃ ds G1,(match ds with|[x,y]=>∃ a b,∃ kvs:List (List aQ×D),(fG x=some a/\fG y=some b/\kC a b=kvs.map t7/\kvs.length<=900000)/\∀ p,G1 p=none->Q3 (.ref p) (gset G1 p (.dT (ah X.prog X.w) (dictOf kvs)))|_=>False)/\Kp G H G1 H1/\RG X.K H1 G1/\RDs X.K H1 ds vs) I
  ⟨σ,G,_,rs,rg,h,fun ds G1 vs H1 q k1 rg1 rds=>⟨ds,G1,q,k1,rg1,rds⟩⟩) fun us s1 ⟨vs,H1,I1,r1,q1⟩=>?_) (by rw[hs,hs2]) (by rw[hs2];rfl)) (by decide) (by decide)))
 obtain⟨ds,G1,q,k1,rg1,rds⟩:=q1;split at q
 ·rename_i x y;obtain⟨as,bs,kvs,⟨ea,eb,ez,hz⟩,q⟩:=q;obtain⟨v,v',rfl,rd1,rd2⟩:=qX rds;obtain⟨u,u',rfl,ru1,ru2⟩:=r1.two;obtain⟨z1,rfl,t1,w1⟩:=wz ea rd1 ru1;obtain⟨z2,rfl,t2,w2⟩:=wz eb rd2 ru2;have n1:=t1.length;have n2:=t2.length;have hr1:=(w1 G1 G1 H1 rg1 Kp.refl).1;have hr2:=(w2 G1 G1 H1 rg1 Kp.refl).1;refine qL (Zk.of I1 hr1) (Zk.of I1 hr2) fun h' zs hsz kp=>KE ?_;have I2:L2.Inv X pins τ H1 { s1 with heap:=h' }:=I1.kept (t':=s1.toks) kp
  have DZ:ZAp (s1.heap.objs.size+4) (s1.heap.objs.size+2) (s1.heap.objs.size+3) s1.heap.objs.size (s1.heap.objs.size+1):=⟨JP (LW (s1.heap.objs.size+2)),JP (LW s1.heap.objs.size)⟩;obtain⟨f0,f1,_,hzo⟩:=zs.1;have hlen:kvs.length=min z1.vs.length z2.vs.length:=by
   have:=jf as bs;rw[ez,IZ]at this;omega
  refine uO (s1:={ s1 with heap:=h' }) (T:="zip") (kvs:=kvs) hu I2 rg1 hz ⟨_,hzo,rfl⟩ (by decide) (fun s' Q' E' kp' q'=>ug (kp' _ _ hzo) (I.ok.hd hc) q') (fun h2 tk2 Q' E' kp2 hlt q'=>?_) fun s' H' I' hf kp' rg'=>⟨.ref h'.objs.size,H',I',rfl,k _ _ _ H' (q _ (rg1.free hf)) (k1.trans kp') rg' (.of iX)⟩
  have zs2:xk z1 z2 (s1.heap.objs.size+4) (s1.heap.objs.size+2) (s1.heap.objs.size+3) s1.heap.objs.size (s1.heap.objs.size+1) 0 h2:=zs.keep fun b _ o e=>kp2 b o e;refine (nL (P:=X.prog) (w:=X.w) (K:=X.K) (tg:=.Name "" pos) z1 z2 _ _ _ _ _ DZ).self _ 0 { s1 with heap:=h2,toks:=tk2 } _ _ zs2 ?_
  have W:=xA (prog:=X.prog) (w:=X.w) (A:=X.A.in1.in1) (k1:=z1) (k2:=z2) (I.ok.hd hc) DZ;rw[<- hlen]at W;refine q' _ _ _ _ _ W ⟨zs2,Zk.grow (Zk.of I1 hr1) fun c o e=>kp2 c o (kp c o e),Zk.grow (Zk.of I1 hr2) fun c o e=>kp2 c o (kp c o e)⟩ (fun _ _ e=>e) (fun c hc=>?_) fun i kk vv pv=>?_
  ·have hc':s1.heap.objs.size<=c/\c≠s1.heap.objs.size+5:=by
    simp only[Kg,Kz,or_false]at hc;rcases hc with rfl|rfl|rfl|rfl|rfl
    ·exact⟨JX _ _,JP (J4 (by decide) _)⟩
    ·exact⟨JX _ _,JP (J4 (by decide) _)⟩
    ·exact⟨JX _ _,JP (J4 (by decide) _)⟩
    ·exact⟨le_refl _,JP (Nat.lt_add_of_pos_right (by decide))⟩
    ·exact⟨JX _ _,JP (J4 (by decide) _)⟩
   refine⟨I1.fpOk hc'.1 (I1.hok.fresh hc'.1),?_⟩;show c≠h'.objs.size
   rw[hsz];exact hc'.2
  ·obtain⟨u,x,e1,e2,ru,rx⟩:=pv;obtain⟨d1,g1,r1⟩:=RDs.getV t1 e1;obtain⟨d2,g2,r2⟩:=RDs.getV t2 e2;have e3:=nI g1 g2;rw[ez,JB]at e3;cases hkv:kvs[i]? with
   | none=>rw[hkv]at e3;cases e3
   | some kv=>
    rw[hkv]at e3;simp only[Option.map_some,Option.some.injEq,t7,D.tup.injEq,List.cons.injEq,and_true]at e3;obtain⟨rfl,rfl⟩:=e3;obtain⟨b,rfl,sb⟩:=Di r1;cases ru;exact⟨kv,b,x,rfl,rfl,sb,r2,rx⟩
 ·exact q.elim
def Ar(kv:List aQ×D):D:=.tup (kv.1.map kD)
def zh(te:bP)(g:u0)(tb:d9):d9:=fun E σ G=>te σ G fun d G1=>match d with
 | .ref a=>∃ hw kvs,G1 a=some (.dT hw kvs)/\ForIn g tb { nx:=fun σ' G'=>E.nx σ' (gset G' a (.dT hw kvs)),rt:=fun _ _=>False } σ (kvs.map Ar) (fP G1 a)
 | _=>False
theorem ya{prog:Jw}{w:JG}{A:Jy}{E:IV->IX->Prop}{s:IX}{d:IW}{vs:List IV}{ep:Nat}{Q:IV->IX->Prop}(hd:(d == J8)=false)(x:jQ s.heap d vs ep)
  (q:Q (.ref s.heap.objs.size) { s with heap:=s.heap.push { cls:=.type "dict_keyiterator",data:=.fields #[.ref d,.int 0 0,.int vs.length 0,.int ep 0] } }):Jc (Jf prog w) A (Mf (.ref d)) Q E s:=by
 obtain⟨o,es,ho,hc,hdat,rfl⟩:=id x;refine Mr x.ty PySem.F.slot_dict_iter (J9 PySem.F.slot_dict_iter x.ty PySem.F.entry_dict_iter ?_ (PySem.F.args_dict_iter_1 _));unfold Builtin.«dict.__iter__»;refine IU ?_;unfold Builtin.Dict.dictSlotNone;refine IU (Ls x.ty ?_);show Jc _ _ (pure (Value.ref d)) _ _ s;refine IY ?_
 show Jc _ _ (K2 d >>= _) _ _ s;unfold K2;rw[if_neg (by rw[hd];exact Bool.false_ne_true)]
 refine IU (IY ?_);refine IU (Ko ho hdat ?_);refine IU (Lk ho hdat ?_);refine IU (JS (IY ⟨_,rfl,"dict_keyiterator",_,⟨_,Je _ rfl,rfl⟩,PySem.F.slot_dict_keyiterator_next.lookup,?_⟩))
 simpa[LB]using q
theorem vD{K:JD}{H:Hp}:∀ ks:List aQ,RDs K H (ks.map kD) (ks.map kV)
 | []=>RDs.nil
 | .inl i::r=>RDs.cons eY (vD r)
 | .inr x::r=>RDs.cons ir (vD r)
theorem jK.at{K:JD}{H:Hp}{kvs:List (List aQ×D)}{xs:List (List aQ×IW×IV)}(r:jK K H kvs xs):∀ {i:Nat} {kv:List aQ×D},kvs[i]?=some kv->∃ x,xs[i]?=some x/\RD K H (Ar kv) (.ref x.2.1):=by
 unfold jK at r
 induction r with
 | nil=>intro i kv h;simp at h
 | @cons p q ps qs hq t ih=>
  intro i kv h;cases i with
  | zero=>
   simp only[J2,Option.some.injEq]at h;subst h;refine⟨q,rfl,?_⟩;unfold Ar;simp only[RD];exact⟨q.2.1,_,rfl,hq.2.1,vD _⟩
  | succ i=>
   simp only[J3]at h ⊢;exact ih h
abbrev EX(a:IW)(o:Obj):HO:=.ext fun h=>h.get? a=some o
theorem Go{P:Jw}{w:JG}{H:Hp}{h:JI}{a:IW}{o:Obj}(e:h.get? a=some o):bZ P w H h a (EX a o):=⟨e,⟨o,e⟩,fun _ _ q k=>k o q⟩
theorem DV{X:Cx}{tg iter:JJ}{body:List Kt}{te:bP}{g:u0}{tb:d9}{pos:Pos}(hp:Nt (Jf X.prog X.w) X.A X.env X.xe)(hc:X.calm=true)(hi:PE X iter (aI X.K te))(hg:PG X tg (mT X.K g))(hb:nz X body (dw X.K tb))
  (hs:∀ x,K7 iter X.env x=pure x:=by intro _;rfl):PS X (.For tg iter body [] pos) (dw X.K (zh te g tb)):=by
 rintro pins s τ H Dd I ⟨σ,G,D3,rs,rg,h,k⟩
 refine wpAny_For (cm (cD hi I rs rg h) fun v s1 ⟨ox,H1,I1,rox,d,G1,q1,k1,rg1,rd1⟩=>?_) hs;cases d with
 | ref a=>
  obtain⟨hw,kvs,hga,Pv,p0,step,fin⟩:=q1;simp only[val,RD]at rd1;subst rd1;cases rox;obtain⟨hob,eo,ro⟩:=rg1 a _ hga;cases hob with
  | ext φ=>
   obtain⟨xs,rfl,rt,nd,len⟩:=ro;obtain⟨hsm,o1,es,ep,g1,g2,g3,g4⟩:=(show bZ X.prog X.w H1 s1.heap a (.ext (qV hw a xs))from I1.hok a _ eo).1
   have raw:∀ {h:JI},h.get? a=some o1->jQ h a (xs.map fun x=>Value.ref x.2.1) ep:=fun e=>⟨o1,es,e,g2,g3,by rw[g4,JK];rfl⟩
   have lx:=rt.length;refine ya hsm (raw g1) ?_;have hita:a≠s1.heap.objs.size:=JP (Ju g1);have kpA:Kp G1 H1 (fP G1 a) (bG H1 a (EX a o1)):=fun b u e n=>by
    have hb:b≠a:=fun z=>by subst z;rw[hga]at n;cases n
    exact⟨by rw[ax hb];exact e,by rw[eG hb];exact n⟩
   have rg2:RG X.K (bG H1 a (EX a o1)) (fP G1 a):=fun b u e=>by
    have hb:b≠a:=fun z=>by subst z;rw[eF]at e;cases e
    rw[eG hb]at e;obtain⟨ho,e1,r1⟩:=rg1 b u e;exact⟨ho,by rw[ax hb];exact e1,r1.mono (kpA.stb rg1)⟩
   have I1':L2.Inv X pins τ (bG H1 a (EX a o1)) { s1 with heap:=s1.heap,toks:=s1.toks }:=I1.write (x:=a) (e:=a) (by rw[eo];exact True.intro) (.inl rfl) (fun _ _ _ q=>q) ⟨o1,g1⟩ (Go g1)
   have I2:L2.Inv X pins τ (bG H1 a (EX a o1)) { s1 with heap:=s1.heap.push { cls:=.type "dict_keyiterator",data:=.fields #[.ref a,.int 0 0,.int (xs.map fun x=>Value.ref x.2.1).length 0,.int ep 0] } }:=I1'.kept (t':=s1.toks) fun _ _ q=>Ja _ q
   have fit:mK X pins (bG H1 a (EX a o1)) s1.heap.objs.size:=I1.fpOk (le_refl _) (by rw[ax hita.symm];exact I1.hok.fresh (le_refl _))
   have back:∀ {τ':St} {H':Hp} {G':Gp} {σ':gy} {s':IX},L2.Inv X pins τ' H' s'->Kp (fP G1 a) (bG H1 a (EX a o1)) G' H'->RS X.K H' σ' τ'->RG X.K H' G'->D3.nx σ' (gset G' a (.dT hw kvs))->∃ τ'' H'',L2.Inv X pins τ'' H'' s'/\Dd.nx τ'' H'':=fun {τ' H' G' σ' s'} I' kk rs' rg' q=>by
    obtain⟨e1,e2⟩:=kk a _ aU eF;have e3:s'.heap.get? a=some o1:=(show bZ X.prog X.w H' s'.heap a (EX a o1)from I'.hok a _ e1).1
    have I'':L2.Inv X pins τ' (bG H' a (.ext (qV hw a xs))) { s' with heap:=s'.heap,toks:=s'.toks }:=I'.write (x:=a) (e:=a) (by rw[e1];exact True.intro) (.inl rfl) (fun _ _ _ q=>q) ⟨o1,e3⟩ (ko ⟨hsm,o1,es,ep,e3,g2,g3,g4⟩)
    have st1:=(kpA.stb rg1);have st2:=(kk.stb rg2);have st3:Stb X.K H' (bG H' a (.ext (qV hw a xs))):=⟨fun b ys y=>by
     rcases y with (y|⟨o',y⟩)|y
     ·exact .inl (.inl (by rw[ax (fun z=>by rw[z,e1]at y;cases y)];exact y))
     ·exact .inl (.inr ⟨o',by rw[ax (fun z=>by rw[z,e1]at y;cases y)];exact y⟩)
     ·exact .inr y,fun b ys y=>by
     rcases y with ⟨o',y⟩|y
     ·exact .inl ⟨o',by rw[ax (fun z=>by rw[z,e1]at y;cases y)];exact y⟩
     ·exact .inr y⟩
    have rg3:RG X.K (bG H' a (.ext (qV hw a xs))) (gset G' a (.dT hw kvs)):=fun b u e=>by
     by_cases hb:b=a
     ·subst hb;rw[az]at e;cases e;exact⟨_,aU,xs,rfl,((rt.mono st1).mono st2).mono st3,nd,len⟩
     ·rw[aK hb]at e;obtain⟨ho,e4,r4⟩:=rg' b u e;exact⟨ho,by rw[ax hb];exact e4,r4.mono st3⟩
    have kpC:Kp G H (gset G' a (.dT hw kvs)) (bG H' a (.ext (qV hw a xs))):=fun b u e n=>by
     obtain⟨e4,n4⟩:=k1 b u e n;have hb:b≠a:=fun z=>by subst z;rw[hga]at n4;cases n4
     obtain⟨e5,n5⟩:=kk b u (by rw[ax hb];exact e4) (by rw[eG hb];exact n4)
     exact⟨by rw[ax hb];exact e5,by rw[aK hb];exact n5⟩
    exact⟨τ',_,I'',k.nx σ' _ τ' _ q kpC rg3 (rs'.mono st3)⟩
   refine Ou (fun n s'=>∃ i σ' τ' G' H',L2.Inv X pins τ' H' s'/\s'.heap.IsKeyIter s1.heap.objs.size a i (xs.map fun x=>Value.ref x.2.1).length ep/\H' s1.heap.objs.size=none/\RS X.K H' σ' τ'/\RG X.K H' G'/\Pv i σ' G'/\Kp (fP G1 a) (bG H1 a (EX a o1)) G' H'/\i<=kvs.length/\n=kvs.length - i) ?_ kvs.length
    ⟨0,σ,τ,fP G1 a,_,I2,⟨_,Je _ rfl,rfl,rfl⟩,fit.1,rs.mono ((k1.trans kpA).stb rg),rg2,p0,Kp.refl,JQ _,rfl⟩
   rintro n s3 ⟨i,σ3,τ3,G3,H3,I3,ki,fr3,rs3,rg3,pv,kk,hil,rfl⟩
   obtain⟨e1,e2⟩:=kk a _ aU eF;have e3:s3.heap.get? a=some o1:=(show bZ X.prog X.w H3 s3.heap a (EX a o1)from I3.hok a _ e1).1
   by_cases hlt:i < kvs.length
   ·obtain⟨x,hx,rd⟩:=((rt.mono (kpA.stb rg1)).mono (kk.stb rg2)).at (Jb hlt);refine Kd hp (tV ki (raw e3) (v:=.ref x.2.1) (by rw[JB,hx];rfl) fun h4 ki4 sb=>?_)
    have I4:L2.Inv X pins τ3 H3 { s3 with heap:=h4,toks:=s3.toks }:=I3.turned (fun b o hb e=>(sb.2 b hb).trans e) fr3 fit.2.1 fit.2.2.2.1 fit.2.2.2.2.1 fit.2.2.2.2.2
    obtain⟨oi,ei,ci,di⟩:=id ki4;refine Kd hp (uH (s:={ s3 with heap:=h4 }) ei ci di (by decide) ?_)
    have I4':=I4.pinned (fp:=[s1.heap.objs.size]) (fun b hb=>by rw[mem_singleton.mp hb];exact⟨fr3,fit.2⟩) fun b hb=>by rw[mem_singleton.mp hb];exact⟨oi,ei,fun v z=>by rw[di]at z;cases z⟩
    refine Kd hp (cm (hg _ _ τ3 H3 (.ref x.2.1) (.ref x.2.1) (fun τ2 H2=>dw X.K tb { nx:=fun τ' H'=>∃ σ' G',RS X.K H' σ' τ'/\RG X.K H' G'/\Pv (i+1) σ' G'/\Kp (fP G1 a) (bG H1 a (EX a o1)) G' H',ct:=fun τ' H'=>∃ σ' G',RS X.K H' σ' τ'/\RG X.K H' G'/\Pv (i+1) σ' G'/\Kp (fP G1 a) (bG H1 a (EX a o1)) G' H',bk:=fun τ' H'=>∃ σ' G',RS X.K H' σ' τ'/\RG X.K H' G'/\D3.nx σ' (gset G' a (.dT hw kvs))/\Kp (fP G1 a) (bG H1 a (EX a o1)) G' H',rt:=fun _ _=>False } τ2 H2) I4' rfl
     ⟨Ar kvs[i],σ3,G3,_,rd,rs3,rg3,step i _ σ3 G3 (by rw[JB,Jb hlt];rfl) pv,fun σ5 G5 τ5 H5 q5 k5 rg5 rs5=>⟨σ5,G5,_,rs5,rg5,q5,⟨fun σ6 G6 τ6 H6 q6 k6 rg6 rs6=>⟨σ6,G6,rs6,rg6,q6,kk.trans (k5.trans k6)⟩,fun _ _ _ _ q _ _ _=>q.elim,fun σ6 G6 τ6 H6 q6 k6 rg6 rs6=>⟨σ6,G6,rs6,rg6,q6,kk.trans (k5.trans k6)⟩,fun σ6 G6 τ6 H6 q6 k6 rg6 rs6=>⟨σ6,G6,rs6,rg6,q6,kk.trans (k5.trans k6)⟩⟩⟩⟩) fun _ s6 ⟨σ6,H6,I6,q6⟩=>?_)
    refine Kd hp (cm (hb _ s6 σ6 H6 _ I6 q6) fun f s7 q7=>?_);have again:∀ {τ7:St} {H7:Hp},L2.Inv X (pins ++ mi [s1.heap.objs.size] h4) τ7 H7 s7->(∃ σ' G',RS X.K H7 σ' τ7/\RG X.K H7 G'/\Pv (i+1) σ' G'/\Kp (fP G1 a) (bG H1 a (EX a o1)) G' H7)->∃ m,m < kvs.length - i/\∃ i σ' τ' G' H',L2.Inv X pins τ' H' s7/\s7.heap.IsKeyIter s1.heap.objs.size a i (xs.map fun x=>Value.ref x.2.1).length ep/\H' s1.heap.objs.size=none/\RS X.K H' σ' τ'/\RG X.K H' G'/\Pv i σ' G'/\Kp (fP G1 a) (bG H1 a (EX a o1)) G' H'/\i<=kvs.length/\m=kvs.length - i:=fun {τ7 H7} I7 ⟨σ7,G7,rs7,rg7,pv7,k7⟩=>by
     have pin:=I7.pin (s1.heap.objs.size,oi) (JO _ (JO _ (h_ (by simp) ei)))
     exact⟨kvs.length - (i+1),by walk_at "o",i+1,σ7,τ7,G7,H7,I7.unpinned,⟨oi,pin.1,ci,di⟩,pin.2.1,rs7,rg7,pv7,k7,hlt,rfl⟩
    cases f with
    | next=>obtain⟨σ7,H7,I7,n7⟩:=q7;exact again I7 n7
    | cont=>obtain⟨σ7,H7,I7,n7⟩:=q7;exact again I7 n7
    | brk=>
     obtain⟨σ7,H7,I7,σ8,G8,rs8,rg8,q8,k8⟩:=q7;exact back I7.unpinned k8 rs8 rg8 q8
    | ret v=>obtain⟨x7,σ7,H7,I7,r7,q7⟩:=q7;exact q7.elim
   ·have ei:i=kvs.length:=by walk_at "o"
    subst ei;refine Kd hp (wH (I.ok.hd hc) ki (raw e3) (by rw[JB,J5 (by walk_at "o")];rfl) fun h4 eb=>L_ ?_)
    have I4:L2.Inv X pins τ3 H3 { s3 with heap:=h4,toks:=s3.toks }:=I3.turned (fun b o hb e=>eb b o hb e) fr3 fit.2.1 fit.2.2.2.1 fit.2.2.2.2.1 fit.2.2.2.2.2
    exact back I4 kk rs3 rg3 (fin σ3 G3 (by rw[IZ];exact pv))
  | _=>exact ro.elim
 | _=>exact q1.elim
open HT PySem.SeqAt
def Gr(te:bP)(tl th ts:CL):bP:=fun σ G Q=>te σ G fun x G1=>tl σ G1 fun l G2=>th σ G2 fun u G3=>ts σ G3 fun st G4=>match x with
 | .tup ds=>(l=none/\u=none/\st=some (-1))/\Q (.tup ds.reverse) G4
 | _=>False
def CA(to:bP)(ta:lP):bP:=fun σ G Q=>to σ G fun x G1=>match x with
 | .tup ds=>ta σ G1 fun es G2=>match es with
  | [y]=>(pl 7 y/\(∀ d∈ds,pl 7 d)/\y∈ds)/\Q (.int (Ay y ds)) G2
  | _=>False
 | _=>False
section
variable{κ α:Type}[DecidableEq κ]
def d8(l:List (κ×α))(k:κ):List (κ×α):=l.filter fun x=>!decide (x.1=k)
theorem sM{k:κ}:∀ {l:List (κ×α)},k∉l.map (·.1)->d8 l k=l
 | [],_=>rfl
 | x::t,h=>by
  rw[Jz,Kg,not_or]at h;unfold d8;rw[Kk (by rw[decide_eq_false (Ne.symm h.1)];rfl)]
  congr 1;exact sM h.2
theorem qG{α β:Type}(f:α->β):∀ (l:List α) (j:Nat),(l.map f).eraseIdx j=(l.eraseIdx j).map f
 | [],_=>rfl
 | x::t,0=>rfl
 | x::t,j+1=>by rw[Jz,List.eraseIdx_cons_succ,List.eraseIdx_cons_succ,Jz,qG f t j]
theorem uM{k:κ}:∀ {l:List (κ×α)} {j:Nat} {p:α},(l.map (·.1)).Nodup->l[j]?=some (k,p)->l.eraseIdx j=d8 l k
 | [],j,p,_,h=>by simp at h
 | x::t,j,p,nd,h=>by
  rw[Jz,KF]at nd;cases j with
  | zero=>
   rw[J2]at h;cases h;rw[List.eraseIdx_cons_zero];unfold d8;rw[Kw (by rw[decide_eq_true rfl];decide)]
   exact (sM nd.1).symm
  | succ j=>
   rw[J3]at h;rw[List.eraseIdx_cons_succ,uM nd.2 h];have hk:k∈t.map (·.1):=mem_map.mpr ⟨_,Js h,rfl⟩;have hne:x.1≠k:=fun z=>nd.1 (z ▸ hk);unfold d8;rw[Kk (by rw[decide_eq_false hne];rfl)]
end
section
variable{prog:Jw}{w:JG}{κ:Type}[DecidableEq κ]{kn:HeapKind prog w κ}{A:Jy}{E:IV->IX->Prop}{s:IX}
theorem yT{d a:IW}{xs:List (κ×IW×IV)}{k:κ}{Q:Option DictEntry->IX->Prop}(hu:kn.room A)(hk:kn.is s.heap k a)(hm:s.heap.DictOfH kn d xs)(hz:xs.length<=Jg)
  (h0:(∀ (j:Nat) (p:IW×IV),xs[j]?≠some (k,p))->Q none { s with toks:=s.toks+kn.draws k })
  (h1:∀ (j:Nat) (p:IW×IV),xs[j]?=some (k,p)->∀ h',h'.DictOfH kn d (d8 xs k)->KO d s.heap h'->Q (some (OG kn (k,p))) { s with heap:=h',toks:=s.toks+kn.draws k }):
  Jc (Jf prog w) A (Os d (.ref a)) Q E s:=by
 obtain⟨o,es,ep,ho,hc,hd,he,his,nd⟩:=hm;have z:=size_of_entries he;unfold Os
 try with_reducible refine JZ ?_
 refine IU (kn.pyHash hu hk (IU (wpAny_dictFind_heap (s:={ s with toks:=s.toks+kn.draws k }) hu hk ho hd he his nd (fun hno=>IY (h0 hno)) fun j p hj=>?_)))
 refine IU (Ko (s:={ s with toks:=s.toks+kn.draws k }) ho hd ?_)
 rw[entry_at he j,hj];refine IU (wpAny_updateDictKeys (hz:=by walk_at "o") (s:={ s with toks:=s.toks+kn.draws k }) ho hd (IY (h1 j p hj _ ⟨_,_,ep+1,LX _ ho (Obj.isFreed_of_dict (Oq hd _)),
  hc.mapDictKeys _,Oq hd _,?_,fun x hx=>kn.keeps (his x (OD.mp hx).1) ho hd (K_ ..),?_⟩ (K_ ..))))
 ·have e1:(es.eraseIdxIfInBounds j).toList=es.toList.eraseIdx j:=by
   obtain⟨l⟩:=es;simp
  rw[e1,he,qG,uM nd hj]
 ·exact nd.sublist (List.filter_sublist.map _)
theorem vW{d a:IW}(hd:(d == J8)=false)(z:IV):
  MeetsIn prog w (Builtin.«dict.pop» ⟨[.ref d,.ref a,z],[]⟩) (fun A R s=>kn.room A.in1/\∃ k xs,kn.is s.heap k a/\s.heap.DictOfH kn d xs/\xs.length<=Jg/\
   ((∀ (j:Nat) (p:IW×IV),xs[j]?≠some (k,p))->∀ n,R (.ok (.ret z)) { s with toks:=s.toks+n })/\
   ∀ (j:Nat) (p:IW×IV),xs[j]?=some (k,p)->∀ h' n,h'.DictOfH kn d (d8 xs k)->KO d s.heap h'->R (.ok (.ret p.2)) { s with heap:=h',toks:=s.toks+n }):=
 .of_wp fun A R s ⟨hu,k,xs,hk,hm,hz,h0,h1⟩=>by
  unfold Builtin.«dict.pop»;refine IU ?_;unfold Builtin.Dict.keyAndDefault;refine IU (Ls hm.typeIs ?_);show Jc _ _ (pure (d,Value.ref a,some z)) _ _ s
  refine IY ?_;have kp:(keyPart (Value.ref a)).isSome=false:=rfl;simp only[kp,Bool.false_eq_true,if_false];have hm':=hm;obtain⟨o,es,ep,ho,hc,hdd,he,his,nd⟩:=hm';refine IU (Ko ho hdd (IU (IY ?_)))
  by_cases e0:es.isEmpty=true
  ·rw[if_pos e0];have hx:xs=[]:=by
    have:=size_of_entries he;rw[Array.isEmpty_iff_size_eq_zero.mp e0]at this;exact length_eq_zero_iff.mp this.symm
   refine IU (LP (IU (IY ?_)));simp only[Option.isNone_none,if_true];refine IU (NO hd ?_);exact IU (LP (IY ⟨z,rfl,h0 (fun j p=>by rw[hx];simp) 0⟩))
  ·rw[if_neg e0];refine IU (yT hu hk hm hz (fun hno=>?_) fun j p hj h' dd hs=>?_)
   ·simp only[Option.isNone_none,if_true];refine IU (NO hd ?_);exact IU (LP (IY ⟨z,rfl,h0 hno _⟩))
   ·simp only[Option.isNone_some,Bool.false_eq_true,if_false];exact IU (MN (IY ⟨p.2,rfl,h1 j p hj h' _ dd hs⟩))
end
section
variable{K:JD}{H:Hp}
theorem jK.del{kvs:List (List aQ×D)}{xs:List (List aQ×IW×IV)}(r:jK K H kvs xs)(k:List aQ):jK K H (d8 kvs k) (d8 xs k):=by
 unfold jK at r ⊢
 induction r with
 | nil=>exact .nil
 | @cons p q ps qs h t ih=>
  unfold d8 at ih ⊢
  by_cases e:p.1=k
  ·rw[Kw (by rw[decide_eq_true e];decide),Kw (by rw[decide_eq_true (h.1.symm.trans e)];decide)]
   exact ih
  ·rw[Kk (by rw[decide_eq_false e];rfl),Kk (by rw[decide_eq_false (fun z=>e (h.1.trans z))];rfl)]
   exact .cons h ih
theorem Fh{kvs:List (List aQ×D)}{k:List aQ}(h:eL kvs k=none):k∉kvs.map (·.1):=fun m=>by
 obtain⟨p,hp,rfl⟩:=mem_map.mp m;have:=jJ p.1 kvs;rw[h,NA.mpr ⟨p,hp,decide_eq_true rfl⟩]at this;cases this
theorem yf{G:Gp}{a:IW}{o:GO}(h:G a=some o):gset G a o=G:=by
 funext b;unfold gset;split
 ·rename_i e;rw[e,h]
 ·rfl
end
def wm(hw:List aQ->Int)(to ti tz:bP):bP:=fun σ G Q=>to σ G fun x G1=>iP G1 (val x)/\ti σ G1 fun y G2=>tz σ G2 fun z G3=>match val x with
 | .ref a=>match G3 a with
  | some (.dT hw' kvs)=>hw'=hw/\∃ ks,kj (val y)=some ks/\Q ((eL kvs ks).getD (val z)) (gset G3 a (.dT hw (d8 kvs ks)))
  | _=>False
 | _=>False
theorem BY{X:Cx}{o e f:JJ}{to ti tz:bP}{apos cpos:Pos}(hu:X.A.units+8 < JY)(ho:PE X o (aI X.K to))(he:PE X e (aI X.K ti))(hf:PE X f (aI X.K tz))(m:M2 X o "pop" apos e f cpos:=by exact⟨rfl,rfl,rfl,rfl⟩):PE X (.Call (.Attribute o "pop" apos) [e,f] [] cpos) (aI X.K (wm (ah X.prog X.w) to ti tz)):=by
 rintro pins s τ H Q I ⟨σ,G,Q3,rs,rg,h,k⟩
 refine ON m.base m.few m.line PySem.F.plainAttrs_dict PySem.F.slot_dict_pop PySem.F.type_dict_pop (cm (cD ho I rs rg h) fun ov s1 ⟨ox,H1,I1,rox,x,G1,q1,k1,rg1,rd1⟩=>?_);obtain⟨t1,t2⟩:=q1.1.at I1 rg1 rd1 rox;refine⟨t1,t2,?_⟩;rw[m.trees];refine Lj rfl (MT (Kc (cm (cD he I1 (rs.mono (k1.stb rg)) rg1 q1.2) fun iv s2 ⟨iy,H2,I2,riy,y,G2,q2,k2,rg2,rd2⟩=>
  Kc (cm (cD hf I2 (rs.mono ((k1.trans k2).stb rg)) rg2 q2) fun fv s3 ⟨fz,H3,I3,rfz,z,G3,q3,k3,rg3,rd3⟩=>KE ?_))))
 have rx:=RD.mono ((k2.trans k3).stb rg1) _ _ rd1;have ry:=RD.mono (k3.stb rg2) _ _ rd2;have kk:=k1.trans (k2.trans k3);split at q3
 ·rename_i a ex;rw[ex]at rx;simp only[RD]at rx;subst rx;cases rox;split at q3
  ·rename_i hw' kvs hg;obtain⟨rfl,ks,hk,q3⟩:=q3;obtain⟨b,rfl,sq⟩:=i4 hk ry;cases riy;obtain⟨ho,e,r⟩:=rg3 a _ hg;cases ho with
   | ext φ=>
    obtain⟨xs,rfl,rt,nd,hz⟩:=r;obtain⟨hd,dd⟩:=nF I3 e rt nd;have hz':xs.length<=Jg:=by rw[<- rt.length];exact hz
    have nd':=dd;obtain⟨_,_,_,_,_,_,_,_,nd'⟩:=nd';refine Mc PySem.F.slot_dict_pop dd.typeIs PySem.F.entry_dict_pop (PySem.F.args_dict_pop_3 _ _ _) (vW (kn:=Ks (bn X.prog X.w)) hd fv) ⟨J7 (show X.A.units+1 < JY by walk_at "o"),ks,xs,key_at I3 sq,dd,hz',fun hno n=>?_,fun j p hj h' n dd' hs=>?_⟩
    ·have ea:eL kvs ks=none:=by
      rcases rt.val ks with ⟨z1,_⟩|⟨_,_,_,_,_,z2,_⟩
      ·exact z1
      ·rw[atKey_none_of_get hno]at z2;cases z2
     rw[ea,sM (Fh ea),yf hg]at q3;exact⟨fz,H3,I3.tok _,rfz,k _ G3 _ H3 q3 kk rg3 (.of rd3)⟩
    ·obtain⟨q,es,ep,hq,h2,h3,h4,_,h5⟩:=dd';obtain⟨kp,rg4⟩:=oW (a:=a) (o:=.dT (ah X.prog X.w) (d8 kvs ks)) (ho:=.ext (qV (ah X.prog X.w) a (d8 xs ks))) rg3 (by rw[hg];exact fun z=>nomatch z)
      fun H' st=>⟨_,rfl,(rt.del ks).mono st,nd.sublist (List.filter_sublist.map _),le_trans (La _ _) hz⟩
     rcases rt.val ks with ⟨_,z2⟩|⟨d,b',u,v,z1,z2,rd,rv⟩
     ·rw[atKey_of_get nd' hj]at z2;cases z2
     ·rw[atKey_of_get nd' hj]at z2;cases z2;rw[z1]at q3;exact⟨v,_,lN I3 (by rw[e];exact True.intro) hs ⟨q,hq⟩ (ko ⟨hd,q,es,ep,hq,h2,h3,h4⟩),rv,k _ _ _ _ q3 (kk.trans kp) rg4 (.of (RD.mono (kp.stb rg3) _ _ rd))⟩
   | _=>exact r.elim
  ·exact q3.elim
 ·exact q3.elim
end L3
namespace RQ
open PySem PySem.Spec PyProof.Rows L2 L3
section
variable{α:Type}
def b8(l:List (Sl×α))(k:Sl):Option α:=(l.find? fun p=>decide (p.1=k)).map (·.2)
def iw(l:List (Sl×α))(k:Sl)(v:α):List (Sl×α):=if (l.any fun p=>decide (p.1=k))=true then l.map (fun p=>if p.1=k then (p.1,v)else p)else l ++ [(k,v)]
def aW(l m:List (Sl×α)):List (Sl×α):=m.foldl (fun a p=>iw a p.1 p.2) l
def aM(f:α->D)(l:List (Sl×α)):List (List aQ×D):=l.map fun p=>(p.1.key,f p.2)
theorem xi(f:α->D)(k:Sl):∀ l:List (Sl×α),((aM f l).any fun kv=>decide (kv.1=k.key))=l.any fun p=>decide (p.1=k)
 | []=>rfl
 | p::r=>by
  have ih:=xi f k r;unfold aM at ih ⊢;simp only[Jz,MA,ih];congr 1
  by_cases e:p.1=k
  ·rw[decide_eq_true e,decide_eq_true (by rw[e])]
  ·rw[decide_eq_false e,decide_eq_false (fun z=>e (Sl.key_inj z))]
theorem kT(f:α->D)(l:List (Sl×α))(k:Sl)(v:α):cH (aM f l) k.key (f v)=aM f (iw l k v):=by
 unfold cH iw;rw[xi];split
 ·unfold aM;rw[JK,JK];refine Kq fun p _=>?_;simp only[Function.comp]
  by_cases e:p.1=k
  ·rw[if_pos e,if_pos (by rw[e])]
  ·rw[if_neg e,if_neg (fun z=>e (Sl.key_inj z))]
 ·unfold aM;rw[J0];rfl
theorem sY(f:α->D)(k:Sl):∀ l:List (Sl×α),eL (aM f l) k.key=(b8 l k).map f
 | []=>rfl
 | p::r=>by
  have ih:=sY f k r;unfold aM b8 eL at *
  by_cases e:p.1=k
  ·simp[JT,e]
  ·have e':¬ p.1.key=k.key:=fun z=>e (Sl.key_inj z);simp only[Jz,JT,decide_eq_false e,decide_eq_false e'];exact ih
theorem pc(f:α->D)(m:List (Sl×α)):dictOf (aM f m)=aM f (aW [] m):=by
 unfold dictOf aW;have:∀ (m l:List (Sl×α)),(aM f m).foldl (fun a kv=>cH a kv.1 kv.2) (aM f l)=aM f (m.foldl (fun a p=>iw a p.1 p.2) l):=by
  intro m
  induction m with
  | nil=>intro l;rfl
  | cons p r ih=>
   intro l;unfold aM at ih ⊢;simp only[Jz,L0];have:=kT f l p.1 p.2;unfold aM at this;rw[this];exact ih _
 exact this m []
theorem sZ(l:List (Sl×α))(k j:Sl)(v:α):b8 (iw l k v) j=if j=k then some v else b8 l j:=by
 unfold iw;split
 ·rename_i h
  induction l with
  | nil=>simp at h
  | cons p r ih=>
   simp only[Jz,b8,JT]
   by_cases e:p.1=k
   ·rw[if_pos e]
    by_cases ej:j=k
    ·rw[if_pos ej];simp[e,ej]
    ·rw[if_neg ej];have e2:¬ p.1=j:=fun z=>ej (z.symm.trans e);simp only[decide_eq_false e2];clear ih h
     induction r with
     | nil=>rfl
     | cons q t ih2=>
      simp only[Jz,JT]
      by_cases e3:q.1=k
      ·rw[if_pos e3];have e4:¬ q.1=j:=fun z=>ej (z.symm.trans e3);simp only[decide_eq_false e4];exact ih2
      ·rw[if_neg e3]
       by_cases e4:q.1=j
       ·simp[e4]
       ·simp only[decide_eq_false e4];exact ih2
   ·rw[if_neg e];simp only[MA,decide_eq_false e,Bool.false_or]at h;have ih':=ih h;unfold b8 at ih'
    by_cases e2:p.1=j
    ·have ej:¬ j=k:=fun z=>e (e2.trans z);rw[if_neg ej];simp[e2]
    ·simp only[decide_eq_false e2];exact ih'
 ·rename_i h;have hn:∀ p∈l,p.1≠k:=fun p hp z=>h (NA.mpr ⟨p,hp,decide_eq_true z⟩);unfold b8;rw[List.find?_append]
  by_cases ej:j=k
  ·rw[if_pos ej];have:l.find? (fun p=>decide (p.1=j))=none:=List.find?_eq_none.mpr fun p hp=>by simpa using fun z=>hn p hp (z.trans ej)
   rw[this];simp[ej]
  ·rw[if_neg ej];cases l.find? (fun p=>decide (p.1=j)) with
   | some p=>rfl
   | none=>
    have ek:¬ k=j:=fun z=>ej z.symm;simp[ek]
theorem zE{l:List (Sl×α)}{k:Sl}{v:α}{p:Sl×α}(h:p∈iw l k v):p∈l\/p=(k,v):=by
 unfold iw at h;split at h
 ·obtain⟨q,hq,e⟩:=mem_map.mp h;split at e
  ·rename_i z;exact .inr (by rw[<- e,z])
  ·exact .inl (e ▸ hq)
 ·rcases Mi.mp h with h|h
  ·exact .inl h
  ·exact .inr (mem_singleton.mp h)
theorem mf{m:List (Sl×α)}:∀ {l:List (Sl×α)} {p:Sl×α},p∈aW l m->p∈l\/p∈m:=by
 induction m with
 | nil=>intro l p h;exact .inl h
 | cons q r ih=>
  intro l p h;rcases ih (l:=iw l q.1 q.2) h with h|h
  ·rcases zE h with h|h
   ·exact .inl h
   ·exact .inr (h ▸ Jk)
  ·exact .inr (Jl _ h)
theorem nG{l:List (Sl×α)}{k:Sl}{v:α}(h:b8 l k=some v):(k,v)∈l:=by
 unfold b8 at h;cases e:l.find? fun p=>decide (p.1=k) with
 | none=>rw[e]at h;cases h
 | some p=>
  rw[e]at h;cases h;have h1:=List.mem_of_find?_eq_some e;have h2:=List.find?_some e;have:p.1=k:=of_decide_eq_true h2;rw[<- this];exact h1
theorem uY{l:List (Sl×α)}{p:Sl×α}(h:p∈l):∃ v,b8 l p.1=some v:=by
 unfold b8;cases e:l.find? fun q=>decide (q.1=p.1) with
 | none=>exact absurd (List.find?_eq_none.mp e p h) (by simp)
 | some q=>exact⟨q.2,rfl⟩
theorem zF(l:List (Sl×α))(k:Sl)(v:α):(iw l k v).length<=l.length+1:=by
 unfold iw;split<;>simp
theorem dj(m:List (Sl×α)):∀ l:List (Sl×α),(aW l m).length<=l.length+m.length:=by
 induction m with
 | nil=>intro l;exact le_refl _
 | cons p r ih=>
  intro l;have h1:=ih (iw l p.1 p.2);have h2:=zF l p.1 p.2;show (aW (iw l p.1 p.2) r).length<=_
  rw[Jv];omega
theorem eA(l a b:List (Sl×α)):aW l (a ++ b)=aW (aW l a) b:=by unfold aW;rw[List.foldl_append]
theorem hJ(l a:List (Sl×α))(p:Sl×α):aW l (a ++ [p])=iw (aW l a) p.1 p.2:=by rw[eA];rfl
end
def Gc(c:Nat):Str:=⟨#[c]⟩
def ig(x:Str):List Str:=x.cps.toList.map Gc
def dC(s:Sk):List (Sl×Str):=match s.act with
 | .put _ x=>(made s).zip (ig x)
 | _=>[]
def eM(s:Sk):List (Sl×Unit):=match s.act with
 | .strike ns=>ns.map fun n=>(n,())
 | _=>[]
def iR(s:Sk):List (Sl×Sl):=match s.act with
 | .move ns _=>ns.zip (made s)
 | _=>[]
def lR(s:Sk):List (Sl×Str):=match s.act with
 | .dress ns w=>ns.map fun n=>(n,w)
 | _=>[]
def Sk.wd(s:Sk):Nat:=match s.act with
 | .put _ x=>x.length
 | .strike ns=>ns.length
 | .dress ns _=>ns.length
 | .move ns _=>ns.length
def aA(x:Str)(o:List Sk):List (Sl×Str):=aW [] ((cR x.length).zip (ig x) ++ o.flatMap dC)
def bh(o:List Sk):List (Sl×Unit):=aW [] (o.flatMap eM)
def bL(o:List Sk):List (Sl×Sl):=aW [] (o.flatMap iR)
def fY(o:List Sk):List (Sl×Str):=aW [] (o.flatMap lR)
abbrev Nm:=Str×Int
def Nm.d(n:Nm):D:=.tup [.str n.1,.int n.2]
def Nm.key(n:Nm):List aQ:=[.inr n.1,.inl n.2]
def Sk.nm(s:Sk):Nm:=(s.pen,s.num)
def gv(row:List Sl)(s:Sk):Bool:=(made s).all fun x=>decide (x∈row)
def aH(out:List Sk)(names:List Nm)(row:List Sl):List Sk:=(out.filter fun s=>decide (s.nm∈names)).filter (gv row)
def bu(x:Str)(w:List Sk):List (Sl×Sl):=aW [] (((aA x w).filter fun p=>(b8 (bh w) p.1).isNone).map fun p=>((b8 (bL w) p.1).getD p.1,p.1))
set_option genInjectivity false in
structure Seat where
 slot:Sl
 name:Sl
 sign:Str
 word:Str
def Seat.d(s:Seat):D:=.tup [s.slot.d,s.name.d,.str s.sign,.str s.word]
def fT(x:Str)(w:List Sk)(row:List Sl):List (Sl×Sl):=row.filterMap fun s=>(b8 (bu x w) s).map fun n=>(s,n)
def bx(x:Str)(out:List Sk)(names:List Nm):List Seat:=
 (fT x (aH out names (aE x.length out)) (aE x.length out)).map fun p=>⟨p.1,p.2,(b8 (aA x (aH out names (aE x.length out))) p.2).getD "",(b8 (fY (aH out names (aE x.length out))) p.2).getD ""⟩
def jL(i:Nat):Kt:=PySem.Challenge.pw_redquill_k31_signs_that_are_there.main.body.getD i (.Pass ⟨0,0,0,0⟩)
def k_START:D:=.tup [.str "",.int 0,.int 0]
theorem oY{a0 a1 a2 a3:D}:jp ["name","time","anchor","names"] [a0,a1,a2,a3] "name"=some a0:=by kernel_rfl
theorem nv{a0 a1 a2 a3:D}:jp ["name","time","anchor","names"] [a0,a1,a2,a3] "names"=some a3:=by kernel_rfl
theorem rG:iN [] "name"=(["name"]:List Str):=by kernel_rfl
theorem rM{x:D}:g6 [] [] "name" x=[x]:=by kernel_rfl
theorem rF:iN ["name"] "time"=(["name","time"]:List Str):=by kernel_rfl
theorem rL{a0 x:D}:g6 ["name"] [a0] "time" x=[a0,x]:=by kernel_rfl
theorem rE:iN ["name","time"] "anchor"=(["name","time","anchor"]:List Str):=by kernel_rfl
theorem rK{a0 a1 x:D}:g6 ["name","time"] [a0,a1] "anchor" x=[a0,a1,x]:=by kernel_rfl
theorem rD:iN ["name","time","anchor"] "names"=(["name","time","anchor","names"]:List Str):=by kernel_rfl
theorem rJ{a0 a1 a2 x:D}:g6 ["name","time","anchor"] [a0,a1,a2] "names" x=[a0,a1,a2,x]:=by kernel_rfl
theorem uK{a0 a1 a2 a3 a4:D}:jp ["name","time","anchor","names","signs"] [a0,a1,a2,a3,a4] "name"=some a0:=by kernel_rfl
theorem sE{a0 a1 a2 a3 a4:D}:jp ["name","time","anchor","names","signs"] [a0,a1,a2,a3,a4] "signs"=some a4:=by kernel_rfl
theorem xG:iN ["name","time","anchor","names"] "anchor"=(["name","time","anchor","names"]:List Str):=by kernel_rfl
theorem xI{a0 a1 a2 a3 x:D}:g6 ["name","time","anchor","names"] [a0,a1,a2,a3] "anchor" x=[a0,a1,x,a3]:=by kernel_rfl
theorem xF:iN ["name","time","anchor","names"] "signs"=(["name","time","anchor","names","signs"]:List Str):=by kernel_rfl
theorem xH{a0 a1 a2 a3 x:D}:g6 ["name","time","anchor","names"] [a0,a1,a2,a3] "signs" x=[a0,a1,a2,a3,x]:=by kernel_rfl
theorem rH:iN ["name","time","anchor","names"] "names"=(["name","time","anchor","names"]:List Str):=by kernel_rfl
theorem rN{a0 a1 a2 a3 x:D}:g6 ["name","time","anchor","names"] [a0,a1,a2,a3] "names" x=[a0,a1,a2,x]:=by kernel_rfl
theorem oZ{a0 a1 a2 a3 a4:D}:jp ["name","time","anchor","names","word"] [a0,a1,a2,a3,a4] "names"=some a3:=by kernel_rfl
theorem t5:iN ["name","time","anchor","names"] "word"=(["name","time","anchor","names","word"]:List Str):=by kernel_rfl
theorem t6{a0 a1 a2 a3 x:D}:g6 ["name","time","anchor","names"] [a0,a1,a2,a3] "word" x=[a0,a1,a2,a3,x]:=by kernel_rfl
abbrev ef:Kt:=jL 3
theorem pE:FnScope ["name","how_many"] ["name","how_many"] (aj ef):=by walk_at "j"
theorem nj:((["k"]:List Str) ++ (["name","how_many"]:List Str)).Nodup:=by decide +kernel
abbrev e9:Kt:=jL 9
theorem gH:FnScope ["row","name","time","act"] ["row"] (aj e9):=by walk_at "j"
abbrev cw:Kt:=jL 10
theorem kJ:FnScope ["row"] ["row"] (aj cw):=by walk_at "j"
abbrev fK:Kt:=jL 11
theorem jj:FnScope ["rows","by_name","row"] ["rows"] (aj fK):=by walk_at "j"
abbrev e_:Kt:=jL 13
theorem rj:FnScope ["old"] ["old"] (aj e_):=by walk_at "j"
abbrev eg:Kt:=jL 14
theorem fV:FnScope ["following","anchor","slots","behind","slot"] ["following","anchor","slots"] (aj eg):=by walk_at "j"
abbrev gQ:Kt:=jL 15
theorem iV:FnScope ["following","row","slot"] ["following"] (aj gQ):=by walk_at "j"
abbrev fJ:Kt:=jL 16
theorem ji:FnScope ["old","strokes","following","stroke"] ["old","strokes"] (aj fJ):=by walk_at "j"
theorem pP:((["row"]:List Str) ++ (["old","strokes","following","stroke"]:List Str)).Nodup:=by decide +kernel
abbrev iJ:Kt:=jL 18
theorem xy:FnScope ["keys"] ["keys"] (aj iJ):=by walk_at "j"
theorem ui:((["key"]:List Str) ++ (["keys"]:List Str)).Nodup:=by decide +kernel
abbrev fb:Kt:=jL 19
theorem rm:FnScope ["stroke","in_row"] ["stroke","in_row"] (aj fb):=by walk_at "j"
theorem oq:((["slot"]:List Str) ++ (["stroke","in_row"]:List Str)).Nodup:=by decide +kernel
abbrev fc:Kt:=jL 20
theorem iU:FnScope ["strokes","standing","in_row","stands","chosen"] ["strokes","standing","in_row"] (aj fc):=by walk_at "j"
theorem ou:((["row"]:List Str) ++ (["strokes","standing","in_row","stands","chosen"]:List Str)).Nodup:=by decide +kernel
theorem ot:((["stroke"]:List Str) ++ (["strokes","standing","in_row","stands","chosen"]:List Str)).Nodup:=by decide +kernel
abbrev cL:Kt:=jL 21
theorem cY:FnScope ["old","strokes","brought","stroke","name","sign"] ["old","strokes"] (aj cL):=by walk_at "j"
abbrev cZ:Kt:=jL 22
theorem eW:FnScope ["strokes","struck","stroke","name"] ["strokes"] (aj cZ):=by walk_at "j"
abbrev dM:Kt:=jL 23
theorem dY:FnScope ["strokes","taken","stroke","name","slot"] ["strokes"] (aj dM):=by walk_at "j"
abbrev d_:Kt:=jL 24
theorem fU:FnScope ["strokes","worn","stroke","name"] ["strokes"] (aj d_):=by walk_at "j"
abbrev iI:Kt:=jL 25
theorem dL:FnScope ["old","strokes","standing","row","working","brought","struck","taken","worn","sitting","name","seats"] ["old","strokes","standing"] (aj iI):=by walk_at "j"
theorem uh:((["slot"]:List Str) ++ (["old","strokes","standing","row","working","brought","struck","taken","worn","sitting","name","seats"]:List Str)).Nodup:=by decide +kernel
theorem mO:((["slot","name"]:List Str) ++ (["old","strokes","standing","row","working","brought","struck","taken","worn","sitting","-name","seats"]:List Str)).Nodup:=by decide +kernel
abbrev gP:Kt:=jL 26
theorem vt:FnScope ["old","strokes","standing"] ["old","strokes","standing"] (aj gP):=by walk_at "j"
theorem r6:((["seat"]:List Str) ++ (["old","strokes","standing"]:List Str)).Nodup:=by decide +kernel
abbrev gO:Kt:=jL 27
theorem vq:FnScope ["rows"] ["rows"] (aj gO):=by walk_at "j"
theorem r0:((["row"]:List Str) ++ (["rows"]:List Str)).Nodup:=by decide +kernel
abbrev da:Kt:=jL 29
theorem m4:FnScope ["_law_script","_law_k"] ["_law_script","_law_k"] (aj da):=by walk_at "j"
abbrev dN:Kt:=jL 30
theorem dZ:FnScope ["_law_cell","_law_many","_law_found","_law_number","_law_k"] ["_law_cell","_law_many"] (aj dN):=by walk_at "j"
abbrev c_:Kt:=jL 31
theorem aD:FnScope ["_law_cells","_law_pens","_law_old","_law_signs","_law_slots","_law_rows","_law_many","_law_cell","_law_xs","_law_pen","_law_name","_law_anchor","_law_at","_law_names","_law_act","_law_some"] ["_law_cells","_law_pens","_law_old"] (aj c_):=by walk_at "j"
theorem lq:((["_law_k"]:List Str) ++ (["_law_cells","_law_pens","_law_old","_law_signs","_law_slots","_law_rows","_law_many","_law_cell","_law_xs","_law_pen","_law_name","_law_anchor","_law_at","_law_names","_law_act","_law_some"]:List Str)).Nodup:=by decide +kernel
theorem lg:((["_law_k"]:List Str) ++ (["_law_cells","_law_pens","_law_old","_law_signs","_law_slots","_law_rows","_law_many","_law_cell","_law_xs","_law_pen","_law_name","_law_anchor","_law_at","_law_names","_law_act","_law_some"]:List Str)).Nodup:=by decide +kernel
theorem lf:((["_law_k"]:List Str) ++ (["_law_cells","_law_pens","_law_old","_law_signs","_law_slots","_law_rows","_law_many","_law_cell","_law_xs","_law_pen","_law_name","_law_anchor","_law_at","_law_names","_law_act","_law_some"]:List Str)).Nodup:=by decide +kernel
abbrev cM:Kt:=jL 32
theorem fI:FnScope ["_law_rows","_law_cell","_law_found","_law_k"] ["_law_rows","_law_cell"] (aj cM):=by walk_at "j"
abbrev fL:Kt:=jL 33
theorem ce:FnScope ["_law_old","_law_rows","_law_standing_here","_law_slots","_law_due_here","_law_k","_law_name","_law_time","_law_act","_law_sign"] ["_law_old","_law_rows","_law_standing_here","_law_slots"] (aj fL):=by walk_at "j"
abbrev kM:Kt:=jL 34
theorem fH:FnScope ["_law_script","_law_first","_law_old","_law_pens","_law_rows","_law_standing_here","_law_slots","_law_due_here","_law_handed","_law_found","_law_seats","_law_sits"] ["_law_script"] (aj kM):=by walk_at "j"
theorem Ad:((["_law_row"]:List Str) ++ (["_law_script","_law_first","_law_old","_law_pens","_law_rows","_law_standing_here","_law_slots","_law_due_here","_law_handed","_law_found","_law_seats","_law_sits"]:List Str)).Nodup:=by decide +kernel
theorem Ac:((["_law_row"]:List Str) ++ (["_law_script","_law_first","_law_old","_law_pens","_law_rows","_law_standing_here","_law_slots","_law_due_here","_law_handed","_law_found","_law_seats","_law_sits"]:List Str)).Nodup:=by decide +kernel
theorem Ab:((["_law_row"]:List Str) ++ (["_law_script","_law_first","_law_old","_law_pens","_law_rows","_law_standing_here","_law_slots","_law_due_here","_law_handed","_law_found","_law_seats","_law_sits"]:List Str)).Nodup:=by decide +kernel
theorem Aa:((["_law_row"]:List Str) ++ (["_law_script","_law_first","_law_old","_law_pens","_law_rows","_law_standing_here","_law_slots","_law_due_here","_law_handed","_law_found","_law_seats","_law_sits"]:List Str)).Nodup:=by decide +kernel
theorem z_:((["_law_row"]:List Str) ++ (["_law_script","_law_first","_law_old","_law_pens","_law_rows","_law_standing_here","_law_slots","_law_due_here","_law_handed","_law_found","_law_seats","_law_sits"]:List Str)).Nodup:=by decide +kernel
theorem z9:((["_law_slot"]:List Str) ++ (["_law_script","_law_first","_law_old","_law_pens","_law_rows","_law_standing_here","_law_slots","_law_due_here","_law_handed","_law_found","_law_seats","_law_sits"]:List Str)).Nodup:=by decide +kernel
theorem oo:((["_law_name","_law_sign","_law_word"]:List Str) ++ (["_law_script","_law_first","_law_old","_law_pens","_law_rows","_law_standing_here","_law_slots","_law_due_here","_law_handed","_law_found","_law_seats","_law_sits"]:List Str)).Nodup:=by decide +kernel
abbrev cf:Kt:=gK (jL 4) 0
theorem j2:FnScope ["self","name","time"] ["self","name","time"] (aj cf):=by walk_at "j"
abbrev db:Kt:=gK (jL 4) 1
theorem m5:FnScope ["self"] ["self"] (aj db):=by walk_at "j"
abbrev cx:Kt:=gK (jL 4) 2
theorem kK:FnScope ["self"] ["self"] (aj cx):=by walk_at "j"
abbrev dc:Kt:=gK (jL 5) 0
theorem m6:FnScope ["self","name","time","anchor","signs"] ["self","name","time","anchor","signs"] (aj dc):=by walk_at "j"
abbrev fe:Kt:=gK (jL 5) 1
theorem rp:FnScope ["self"] ["self"] (aj fe):=by walk_at "j"
abbrev cg:Kt:=gK (jL 6) 0
theorem j3:FnScope ["self","name","time","names"] ["self","name","time","names"] (aj cg):=by walk_at "j"
abbrev cy:Kt:=gK (jL 7) 0
theorem kL:FnScope ["self","name","time","names","word"] ["self","name","time","names","word"] (aj cy):=by walk_at "j"
abbrev cN:Kt:=gK (jL 8) 0
theorem lW:FnScope ["self","name","time","names","anchor"] ["self","name","time","names","anchor"] (aj cN):=by walk_at "j"
abbrev eh:Kt:=gK (jL 8) 1
theorem pF:FnScope ["self"] ["self"] (aj eh):=by walk_at "j"
def aO(_ _ _ _ _:IW)(_:HW):fB:=fun ds G Q=>match ds with
 | [d]=>∃ r:Rw,d=r.d/\Q r.key G
 | _=>False
def iQ(G G':Gp):Prop:=∀ a o,G a=some o->G' a=some o
theorem iQ.refl{G:Gp}:iQ G G:=fun _ _ h=>h
theorem iQ.trans{G G1 G2:Gp}(a:iQ G G1)(b:iQ G1 G2):iQ G G2:=fun x o h=>b x o (a x o h)
theorem iQ.gset{G G1:Gp}{p:IW}{o:GO}(a:iQ G G1)(hp:G p=none):iQ G (gset G1 p o):=fun x y h=>by
 have:x≠p:=fun z=>by subst z;rw[hp]at h;cases h
 rw[aK this];exact a x y h
def bY(_ _ _ _ _:IW)(_:HW):fB:=fun ds G Q=>match ds with
 | [.lst xs]=>∃ rs base:List Rw,(xs=rs.map Rw.d/\eX rs/\rs.length<=1000/\base.length < 64/\∀ r∈rs,r∈base)/\∀ out G',iQ G G'->fR out->(∀ r,r∈out↔r∈rs)->Q (.fl (out.map Rw.d)) G'
 | _=>False
def a_(_ _ _ _ _:IW)(_:HW):fB:=fun ds G Q=>match ds with
 | [.tup [.str p,.int n],.int m]=>(0<=m/\m<=1000)/\Q (.fl ((au p n m.toNat).map Sl.d)) G
 | _=>False
def cj(Z1 Z2 Z3 Z4 Z5:IW)(s:Sk):GO:=match s.act with
 | .put a x=>.ins Z2 ["name","time","anchor","names","signs"] [.tup [.str s.pen,.int s.num],.int s.time,a.d,.tup [],.str x]
 | .strike ns=>.ins Z3 ["name","time","anchor","names"] [.tup [.str s.pen,.int s.num],.int s.time,ay.d,.tup (ns.map Sl.d)]
 | .dress ns w=>.ins Z4 ["name","time","anchor","names","word"] [.tup [.str s.pen,.int s.num],.int s.time,ay.d,.tup (ns.map Sl.d),.str w]
 | .move ns a=>.ins Z5 ["name","time","anchor","names"] [.tup [.str s.pen,.int s.num],.int s.time,a.d,.tup (ns.map Sl.d)]
def aw(Z1 Z2 Z3 Z4 Z5:IW)(hw:HW):fB:=fun ds G Q=>match ds with
 | [.ref a,d,.int t]=>(∃ C,C∈[Z1,Z2,Z3,Z4,Z5]/\G a=some (.ins C [] [])/\∃ p n,d=.tup [.str p,.int n]/\Q .non (gset G a (.ins C ["name","time","anchor","names"] [d,.int t,ay.d,.tup []])))
 | _=>False
def bd(Z1 Z2 Z3 Z4 Z5:IW)(hw:HW):fB:=fun ds G Q=>match ds with
 | [.ref a,d,.int t,b,.str x]=>G a=some (.ins Z2 [] [])/\∃ p n s,d=.tup [.str p,.int n]/\b=Sl.d s/\Q .non (gset G a (.ins Z2 ["name","time","anchor","names","signs"] [d,.int t,b,.tup [],.str x]))
 | _=>False
def aR(Z1 Z2 Z3 Z4 Z5:IW)(hw:HW):fB:=fun ds G Q=>match ds with
 | [.ref a,d,.int t,.tup ns]=>G a=some (.ins Z3 [] [])/\∃ p n,d=.tup [.str p,.int n]/\Q .non (gset G a (.ins Z3 ["name","time","anchor","names"] [d,.int t,ay.d,.tup ns]))
 | _=>False
def aV(Z1 Z2 Z3 Z4 Z5:IW)(hw:HW):fB:=fun ds G Q=>match ds with
 | [.ref a,d,.int t,.tup ns,.str w]=>G a=some (.ins Z4 [] [])/\∃ p n,d=.tup [.str p,.int n]/\Q .non (gset G a (.ins Z4 ["name","time","anchor","names","word"] [d,.int t,ay.d,.tup ns,.str w]))
 | _=>False
def aZ(Z1 Z2 Z3 Z4 Z5:IW)(hw:HW):fB:=fun ds G Q=>match ds with
 | [.ref a,d,.int t,.tup ns,b]=>G a=some (.ins Z5 [] [])/\∃ p n s,d=.tup [.str p,.int n]/\b=Sl.d s/\Q .non (gset G a (.ins Z5 ["name","time","anchor","names"] [d,.int t,b,.tup ns]))
 | _=>False
def bH(Z1 Z2 Z3 Z4 Z5:IW)(hw:HW):fB:=fun ds G Q=>match ds with
 | [d]=>∃ s:Sk,d=s.d/\∀ p,G p=none->Q (.ref p) (gset G p (cj Z1 Z2 Z3 Z4 Z5 s))
 | _=>False
def ai(_ _ _ _ _:IW)(_:HW):fB:=fun ds G Q=>match ds with
 | [.ref _]=>Q (.fl []) G
 | _=>False
def aS(Z1 Z2 Z3 Z4 Z5:IW)(hw:HW):fB:=fun ds G Q=>match ds with
 | [.ref a]=>∃ (s:Sk) (b:Sl) (x:Str),(s.act=.put b x/\G a=some (cj Z1 Z2 Z3 Z4 Z5 s)/\x.length<=1000)/\Q (.fl ((made s).map Sl.d)) G
 | _=>False
def aL(Z1 Z2 Z3 Z4 Z5:IW)(hw:HW):fB:=fun ds G Q=>match ds with
 | [.ref a]=>∃ (s:Sk) (b:Sl) (ns:List Sl),(s.act=.move ns b/\G a=some (cj Z1 Z2 Z3 Z4 Z5 s)/\ns.length<=1000)/\Q (.fl ((made s).map Sl.d)) G
 | _=>False
def bI(_ _ _ _ _:IW)(_:HW):fB:=fun ds G Q=>match ds with
 | [.str x]=>x.length<=1000/\Q (.fl ((cR x.length).map Sl.d)) G
 | _=>False
def bF(Z1 Z2 Z3 Z4 Z5:IW)(hw:HW):fB:=fun ds G Q=>match ds with
 | [.ref p,a,.lst xs]=>∃ (b:Sl) (ss W:List Sl) (kvs:List (List aQ×D)),(a=b.d/\xs=ss.map Sl.d/\G p=some (.dT hw kvs)/\yD kvs W/\b∈W/\ss.Nodup/\(∀ x∈ss,x∉W)/\W.length+ss.length<=900000)/\
   ∀ Ra,yD Ra (bz W b ss)->Q .non (gset G p (.dT hw Ra))
 | _=>False
def cX(Z1 Z2 Z3 Z4 Z5:IW)(hw:HW):fB:=fun ds G Q=>match ds with
 | [.ref p]=>∃ (R:List Sl) (kvs:List (List aQ×D)),(G p=some (.dT hw kvs)/\yD kvs (ay::R)/\R.length<=900000)/\Q (.fl (R.map Sl.d)) G
 | _=>False
def bX(Z1 Z2 Z3 Z4 Z5:IW)(hw:HW):fB:=fun ds G Q=>match ds with
 | [.str x,.lst xs]=>∃ sks base:List Sk,(xs=sks.map Sk.d/\x.length<=1000/\eX (sks.map Sk.rw)/\sks.length<=1000/\base.length < 64/\(∀ s∈sks,s∈base)/\∀ s∈sks,s.ok)/\
   ∀ out G',iQ G G'->fR (out.map Sk.rw)->(∀ s,s∈out↔s∈sks)->Q (.fl ((aE x.length out).map Sl.d)) G'
 | _=>False
def iE(Z1 Z2 Z3 Z4 Z5:IW)(G:Gp)(ps:List IW)(o:List Sk):Prop:=ps.length=o.length/\∀ (j:Nat) p s,ps[j]?=some p->o[j]?=some s->G p=some (cj Z1 Z2 Z3 Z4 Z5 s)
def qT(o:List Sk):Prop:=o.length<=64/\∀ s∈o,s.wd<=1000
def cK(Z1 Z2 Z3 Z4 Z5:IW)(hw:HW):fB:=fun ds G Q=>match ds with
 | [.lst xs]=>(∃ ss:List Sl,(xs=ss.map Sl.d/\ss.length<=900000)/\∀ p,G p=none->Q (.ref p) (gset G p (.dT hw (aM (fun _=>.bl true) (aW [] (ss.map fun s=>(s,())))))))\/
   ∃ ns:List Nm,(xs=ns.map Nm.d/\ns.length<=900000)/\∀ p,G p=none->Q (.ref p) (gset G p (.dT hw (dictOf (ns.map fun n=>(n.key,.bl true)))))
 | _=>False
def b9(Z1 Z2 Z3 Z4 Z5:IW)(hw:HW):fB:=fun ds G Q=>match ds with
 | [.ref a,.ref p]=>∃ (s:Sk) (row:List (Sl×Unit)),(G a=some (cj Z1 Z2 Z3 Z4 Z5 s)/\s.wd<=1000/\G p=some (.dT hw (aM (fun _=>.bl true) row)))/\Q (.bl ((made s).all fun x=>(b8 row x).isSome)) G
 | _=>False
def b_(Z1 Z2 Z3 Z4 Z5:IW)(hw:HW):fB:=fun ds G Q=>match ds with
 | [.lst xs,.lst ns,.ref p]=>∃ (sks base:List Sk) (names:List Nm) (row:List Sl),(xs=sks.map Sk.d/\eX (sks.map Sk.rw)/\sks.length<=1000/\base.length < 64/\(∀ s∈sks,s∈base)/\(∀ s∈sks,s.wd<=1000)/\ns=names.map Nm.d/\names.length<=900000/\G p=some (.dT hw (aM (fun _=>.bl true) (aW [] (row.map fun s=>(s,()))))))/\
   ∀ out ps G',iQ G G'->fR (out.map Sk.rw)->(∀ s,s∈out↔s∈sks)->iE Z1 Z2 Z3 Z4 Z5 G' ps (aH out names row)->Q (.fl (ps.map D.ref)) G'
 | _=>False
def bj(Z1 Z2 Z3 Z4 Z5:IW)(hw:HW):fB:=fun ds G Q=>match ds with
 | [.str x,.lst xs]=>∃ (ps:List IW) (o:List Sk),(xs=ps.map D.ref/\iE Z1 Z2 Z3 Z4 Z5 G ps o/\qT o/\x.length<=1000)/\∀ p,G p=none->Q (.ref p) (gset G p (.dT hw (aM D.str (aA x o))))
 | _=>False
def ae(Z1 Z2 Z3 Z4 Z5:IW)(hw:HW):fB:=fun ds G Q=>match ds with
 | [.ref a]=>∃ (s:Sk) (ns:List Sl),((s.act=.strike ns\/(∃ w,s.act=.dress ns w)\/∃ b,s.act=.move ns b)/\G a=some (cj Z1 Z2 Z3 Z4 Z5 s)/\ns.length<=1000)/\Q (.fl (ns.map Sl.d)) G
 | _=>False
def bv(Z1 Z2 Z3 Z4 Z5:IW)(hw:HW):fB:=fun ds G Q=>match ds with
 | [.lst xs]=>∃ (ps:List IW) (o:List Sk),(xs=ps.map D.ref/\iE Z1 Z2 Z3 Z4 Z5 G ps o/\qT o)/\∀ p,G p=none->Q (.ref p) (gset G p (.dT hw (aM (fun _=>.bl true) (bh o))))
 | _=>False
def bE(Z1 Z2 Z3 Z4 Z5:IW)(hw:HW):fB:=fun ds G Q=>match ds with
 | [.lst xs]=>∃ (ps:List IW) (o:List Sk),(xs=ps.map D.ref/\iE Z1 Z2 Z3 Z4 Z5 G ps o/\qT o)/\∀ p,G p=none->Q (.ref p) (gset G p (.dT hw (aM Sl.d (bL o))))
 | _=>False
def bQ(Z1 Z2 Z3 Z4 Z5:IW)(hw:HW):fB:=fun ds G Q=>match ds with
 | [.lst xs]=>∃ (ps:List IW) (o:List Sk),(xs=ps.map D.ref/\iE Z1 Z2 Z3 Z4 Z5 G ps o/\qT o)/\∀ p,G p=none->Q (.ref p) (gset G p (.dT hw (aM D.str (fY o))))
 | _=>False
def cJ(Z1 Z2 Z3 Z4 Z5:IW)(hw:HW):fB:=fun ds G Q=>match ds with
 | [.str x,.lst xs,.lst ns]=>∃ (sks base:List Sk) (names:List Nm),(xs=sks.map Sk.d/\x.length<=1000/\eX (sks.map Sk.rw)/\sks.length<=1000/\base.length < 64/\(∀ s∈sks,s∈base)/\(∀ s∈sks,1<=s.num/\s.wd<=1000)/\ns=names.map Nm.d/\names.length<=900000)/\
   ∀ out G',iQ G G'->fR (out.map Sk.rw)->(∀ s,s∈out↔s∈sks)->Q (.fl ((bx x out names).map Seat.d)) G'
 | _=>False
def bc(_ _ _ _ _:IW)(_:HW):fB:=fun ds G Q=>match ds with
 | [.lst xs,.int k]=>∃ ns:List Int,(xs=ns.map D.int/\0<=k)/\∀ c:Int,Q (.int c) G
 | _=>False
def jZ(_ _ _ _ _:IW)(_:HW):fB:=fun vs _ Q=>match vs with
 | [.lst ds]=>∃ ns:List Int,ds=ns.map D.int/\ns.length<=63/\∀ G',Q (.bl true) G'
 | _=>False
def bb(_ _ _ _ _:IW)(_:HW):fB:=fun ds G Q=>match ds with
 | [.int _,.int m]=>(0<=m/\m<=100)/\∀ xs:List Int,(xs.length:Int)=m->(∀ x∈xs,0<=x/\x < 2147483647)->Q (.fl (xs.map D.int)) G
 | _=>False
def Fm(sks:List Sk):Prop:=sks.length<=32/\(∀ s∈sks,1<=s.num/\s.wd<=3)/\(sks.map Sk.rw).Pairwise eK
def bw(_ _ _ _ _:IW)(_:HW):fB:=fun ds _ Q=>match ds with
 | [.lst cs,.lst SU,.str x]=>∃ (ns:List Int) (ps:List Str),(cs=ns.map D.int/\ns.length<=32/\SU=ps.map D.str/\0 < ps.length/\ps.length<=4/\x.length<=12)/\∀ (sks:List Sk) G',Fm sks->Q (.fl (sks.map Sk.d)) G'
 | _=>False
def bm(_ _ _ _ _:IW)(_:HW):fB:=fun ds _ Q=>match ds with
 | [.lst xs,.int _]=>∃ sks:List Sk,(xs=sks.map Sk.d/\sks.length<=32)/\∀ (names:List Nm) G',names.length<=34->Q (.fl (names.map Nm.d)) G'
 | _=>False
def dJ(names:List Nm)(row:List Sl)(s:Sk):List (Sl×Str):=if s.nm∈names/\(⟨s.pen,s.num,1⟩:Sl)∈row then dC s else []
def dB(names:List Nm)(s:Sk):List Sl:=if s.nm∈names then (eM s).map (·.1)else []
def mI(x:Str)(sks:List Sk)(names:List Nm)(row:List Sl):List (Sl×Str):=(sks.flatMap (dB names)).foldl d8 (aW [] ((cR x.length).zip (ig x) ++ sks.flatMap (dJ names row)))
def cv(Z1 Z2 Z3 Z4 Z5:IW)(hw:HW):fB:=fun ds G Q=>match ds with
 | [.str x,.lst xs,.lst ys,.lst zs]=>∃ (sks:List Sk) (names:List Nm) (row:List Sl),(xs=sks.map Sk.d/\ys=names.map Nm.d/\zs=row.map Sl.d/\x.length<=12/\sks.length<=32/\∀ s∈sks,s.wd<=3)/\∀ p,G p=none->Q (.ref p) (gset G p (.dT hw (aM D.str (mI x sks names row))))
 | _=>False
def Seat.d3(s:Seat):D:=.tup [s.name.d,.str s.sign,.str s.word]
def cW(Z1 Z2 Z3 Z4 Z5:IW)(hw:HW):fB:=fun ds G Q=>match ds with
 | [.str x,.lst xs,.lst ns]=>∃ (sks base:List Sk) (names:List Nm),(xs=sks.map Sk.d/\x.length<=1000/\eX (sks.map Sk.rw)/\sks.length<=1000/\base.length < 64/\(∀ s∈sks,s∈base)/\(∀ s∈sks,1<=s.num/\s.wd<=1000)/\ns=names.map Nm.d/\names.length<=900000)/\
   ∀ out G',iQ G G'->fR (out.map Sk.rw)->(∀ s,s∈out↔s∈sks)->Q (.fl ((bx x out names).map Seat.d3)) G'
 | _=>False
def cV(_ _ _ _ _:IW)(_:HW):fB:=fun ds G Q=>match ds with
 | [.lst xs]=>∃ seats:List Seat,(xs=seats.map Seat.d3/\seats.length<=100000/\∀ s∈seats,s.sign.length<=1)/\Q (.str (Txt.join (I_ "") (seats.map Seat.sign))) G
 | _=>False
def dG(Z1 Z2 Z3 Z4 Z5:IW)(hw:List aQ->Int):d9:=sSeq (nA (dW (bS HH (ab 1) (eB i7 (af (ab 0) (aB))))) (dS (bS eT (ab 0) (ab 1))) (dA))
 (dS (eC (.int 0)))
def d5(Z1 Z2 Z3 Z4 Z5:IW)(hw:List aQ->Int):d9:=sSeq (xz 2 (js (aB)))
 (sSeq (bT 3 (bS jc (bS vT (bS fN (ab 0) (eC (.int 1))) (eC (.int 48271))) (eC (.int 2147483647))))
 (sSeq (gu (Cq (af (ab 1) (aB))) (gN 4) (sSeq (bT 3 (bS jc (bS vT (bS fN (bS fN (ab 3) (bS vT (eC (.int 7919)) (ab 4))) (eC (.int 1))) (bS fN (bS xQ (ab 3) (eC (.int 1009))) (eC (.int 69621)))) (eC (.int 2147483647))))
 (gT (i6 (ab 2) (af (ab 3) (aB))))))
 (fW 2)))
def dF(Z1 Z2 Z3 Z4 Z5:IW)(hw:List aQ->Int):d9:=sSeq (bT 3 (bS fN (dm 1 (Cq (af (eB i7 (af (ab 2) (aB))) (aB))) (gN 0) (f_) (gL (af (eC (.str "")) (af (eC (.int 0)) (af (bS fN (ab 0) (eC (.int 1))) (aB)))))) (js (af (gL (af (eC (.str "zoe")) (af (eC (.int 1)) (af (eC (.int 1)) (aB))))) (aB)))))
 (sSeq (bT 4 (bS fN (js (af (gL (af (eC (.str "")) (af (eC (.int 0)) (af (eC (.int 0)) (aB))))) (aB))) (ab 3)))
 (sSeq (xz 5 (js (aB)))
 (sSeq (bT 6 (AM))
 (sSeq (gu (dU (ab 0)) (gN 7) (sSeq (bT 8 (bB (bb Z1 Z2 Z3 Z4 Z5 hw) [] (af (ab 7) (af (eC (.int 8)) (aB)))))
 (sSeq (bT 9 (bS eT (ab 1) (bS jc (bS eT (ab 8) (eC (.int 0))) (eB i7 (af (ab 1) (aB))))))
 (sSeq (ff hw (ab 6) (ab 9) (bS fN (mH hw (ab 6) (ab 9) (eC (.int 0))) (eC (.int 1))))
 (sSeq (bT 10 (gL (af (ab 9) (af (sH hw (ab 6) (ab 9)) (aB)))))
 (sSeq (bT 11 (bS eT (ab 4) (bS jc (bS eT (ab 8) (eC (.int 2))) (eB i7 (af (ab 4) (aB))))))
 (sSeq (bT 12 (bS jc (bS eT (ab 8) (eC (.int 3))) (eB i7 (af (ab 3) (aB)))))
 (sSeq (bT 13 (eB sS (af (A8 y_ (ab 3) (h8 (ab 12)) (h8 (bS fN (bS fN (ab 12) (eC (.int 1))) (bS jc (bS eT (ab 8) (eC (.int 4))) (eC (.int 3)))))) (aB))))
 (sSeq (bT 14 (gL (af (eC (.str "put")) (af (ab 11) (af (bS eT (js (af (eC (.str "a")) (af (eC (.str "b\n")) (af (eC (.str "\\~ ")) (aB))))) (bS jc (bS eT (ab 8) (eC (.int 4))) (eC (.int 3)))) (aB))))))
 (sSeq (nA (dW (bS Gd (bS jc (bS eT (ab 8) (eC (.int 5))) (eC (.int 9))) (eC (.int 2)))) (sSeq (bT 15 (js (af (gL (af (eC (.str "strike")) (af (ab 13) (aB)))) (af (gL (af (eC (.str "move")) (af (ab 13) (af (ab 11) (aB))))) (af (gL (af (eC (.str "dress")) (af (ab 13) (af (bS eT (js (af (eC (.str "")) (af (eC (.str "bold")) (aB)))) (bS jc (bS eT (ab 8) (eC (.int 6))) (eC (.int 2)))) (aB))))) (aB))))))
 (bT 14 (bS eT (ab 15) (bS jc (bS eT (ab 8) (eC (.int 5))) (eC (.int 3)))))) (dA))
 (sSeq (gT (i6 (ab 5) (af (gL (af (ab 10) (af (bS fN (eC (.int 1)) (bS jc (bS eT (ab 8) (eC (.int 1))) (eC (.int 9)))) (af (ab 14) (aB))))) (aB))))
 (sSeq (nA (dW (gM yF (bS eT (ab 14) (eC (.int 0))) (eC (.str "put")))) (sSeq (bT 3 (bS fN (ab 3) (dm 1 (Cq (af (eB i7 (af (bS eT (ab 14) (eC (.int 2))) (aB))) (aB))) (gN 0) (f_) (gL (af (bS eT (ab 11) (eC (.int 0))) (af (bS eT (ab 11) (eC (.int 1))) (af (bS fN (ab 0) (eC (.int 1))) (aB))))))))
 (bT 4 (bS fN (ab 4) (A8 y_ (ab 3) (h8 (bS Eu (eB i7 (af (ab 3) (aB))) (eB i7 (af (bS eT (ab 14) (eC (.int 2))) (aB))))) (wP))))) (dA))
 (nA (dW (gM yF (bS eT (ab 14) (eC (.int 0))) (eC (.str "move")))) (bT 4 (bS fN (ab 4) (dm 1 (Cq (af (eB i7 (af (ab 13) (aB))) (aB))) (gN 0) (f_) (gL (af (bS eT (ab 11) (eC (.int 0))) (af (bS eT (ab 11) (eC (.int 1))) (af (bS fN (ab 0) (eC (.int 1))) (aB)))))))) (dA))))))))))))))
 (fW 5)))))
def df(Z1 Z2 Z3 Z4 Z5:IW)(hw:List aQ->Int):d9:=sSeq (xz 2 (js (af (gL (af (eC (.str "zoe")) (af (eC (.int 1)) (aB)))) (af (gL (af (eC (.str "zoe")) (af (eC (.int 1)) (aB)))) (aB)))))
 (sSeq (gu (Cq (af (eB i7 (af (ab 0) (aB))) (aB))) (gN 3) (nA (dW (bS Gd (bS jc (bS eT (bB (bb Z1 Z2 Z3 Z4 Z5 hw) [] (af (bS fN (ab 1) (bS vT (eC (.int 7919)) (ab 3))) (af (eC (.int 2)) (aB)))) (eC (.int 1))) (eC (.int 4))) (eC (.int 0)))) (gT (i6 (ab 2) (af (bS eT (bS eT (ab 0) (ab 3)) (eC (.int 0))) (aB)))) (dA)))
 (fW 2))
def eP(Z1 Z2 Z3 Z4 Z5:IW)(hw:List aQ->Int):d9:=sSeq (bT 3 (ab 1))
 (gu (dU (ab 2)) (gN 4) (sSeq (ff hw (ab 0) (ab 4) (sH hw (ab 0) (ab 3)))
 (sSeq (ff hw (ab 0) (ab 3) (ab 4))
 (bT 3 (ab 4)))))
def eO(Z1 Z2 Z3 Z4 Z5:IW)(hw:List aQ->Int):d9:=dS (dm 1 (HM (af (eC (.int 1)) (af (bS fN (ab 1) (eC (.int 1))) (aB)))) (gN 0) (f_) (bS fN (ab 1) (gL (af (ab 0) (aB)))))
def fm(Z1 Z2 Z3 Z4 Z5:IW)(hw:List aQ->Int):d9:=dS (bB (a_ Z1 Z2 Z3 Z4 Z5 hw) [] (af (A8 y_ (eC k_START) (wP) (h8 (eC (.int 2)))) (af (eB i7 (af (ab 0) (aB))) (aB))))
def cO(Z1 Z2 Z3 Z4 Z5:IW)(hw:List aQ->Int):d9:=dS (gL (af (bS eT (ab 0) (eC (.int 1))) (af (bS eT (ab 0) (eC (.int 0))) (aB))))
def gf(Z1 Z2 Z3 Z4 Z5:IW)(hw:List aQ->Int):d9:=sSeq (bT 1 (mW hw))
 (sSeq (gu (dU (ab 0)) (gN 2) (ff hw (ab 1) (bS eT (ab 2) (eC (.int 0))) (ab 2)))
 (dS (wa (aO Z1 Z2 Z3 Z4 Z5 hw) (ab 1))))
def cA(Z1 Z2 Z3 Z4 Z5:IW)(hw:List aQ->Int):d9:=sSeq (iK [Z1,Z2,Z3,Z4,Z5] "name" (ab 0) (ab 1))
 (sSeq (iK [Z1,Z2,Z3,Z4,Z5] "time" (ab 0) (ab 2))
 (sSeq (iK [Z1,Z2,Z3,Z4,Z5] "anchor" (ab 0) (eC k_START))
 (iK [Z1,Z2,Z3,Z4,Z5] "names" (ab 0) (gL (aB)))))
def dI(Z1 Z2 Z3 Z4 Z5:IW)(hw:List aQ->Int):d9:=sSeq (gT (bB (aw Z1 Z2 Z3 Z4 Z5 hw) [] (af (ab 0) (af (ab 1) (af (ab 2) (aB))))))
 (sSeq (iK [Z1,Z2,Z3,Z4,Z5] "anchor" (ab 0) (ab 3))
 (iK [Z1,Z2,Z3,Z4,Z5] "signs" (ab 0) (ab 4)))
def cB(Z1 Z2 Z3 Z4 Z5:IW)(hw:List aQ->Int):d9:=sSeq (gT (bB (aw Z1 Z2 Z3 Z4 Z5 hw) [] (af (ab 0) (af (ab 1) (af (ab 2) (aB))))))
 (iK [Z1,Z2,Z3,Z4,Z5] "names" (ab 0) (ab 3))
def cQ(Z1 Z2 Z3 Z4 Z5:IW)(hw:List aQ->Int):d9:=sSeq (gT (bB (aw Z1 Z2 Z3 Z4 Z5 hw) [] (af (ab 0) (af (ab 1) (af (ab 2) (aB))))))
 (sSeq (iK [Z1,Z2,Z3,Z4,Z5] "names" (ab 0) (ab 3))
 (iK [Z1,Z2,Z3,Z4,Z5] "word" (ab 0) (ab 4)))
def dh(Z1 Z2 Z3 Z4 Z5:IW)(hw:List aQ->Int):d9:=sSeq (gT (bB (aw Z1 Z2 Z3 Z4 Z5 hw) [] (af (ab 0) (af (ab 1) (af (ab 2) (aB))))))
 (sSeq (iK [Z1,Z2,Z3,Z4,Z5] "names" (ab 0) (ab 3))
 (iK [Z1,Z2,Z3,Z4,Z5] "anchor" (ab 0) (ab 4)))
def fk(Z1 Z2 Z3 Z4 Z5:IW)(hw:List aQ->Int):d9:=sSeq (bT 1 (bS eT (ab 0) (eC (.int 0))))
 (sSeq (bT 2 (bS eT (ab 0) (eC (.int 1))))
 (sSeq (bT 3 (bS eT (ab 0) (eC (.int 2))))
 (sSeq (nA (dW (gM yF (bS eT (ab 3) (eC (.int 0))) (eC (.str "put")))) (dS (o9 Z2 (bd Z1 Z2 Z3 Z4 Z5 hw) [] (af (ab 1) (af (ab 2) (af (bS eT (ab 3) (eC (.int 1))) (af (bS eT (ab 3) (eC (.int 2))) (aB))))))) (dA))
 (sSeq (nA (dW (gM yF (bS eT (ab 3) (eC (.int 0))) (eC (.str "strike")))) (dS (o9 Z3 (aR Z1 Z2 Z3 Z4 Z5 hw) [] (af (ab 1) (af (ab 2) (af (bS eT (ab 3) (eC (.int 1))) (aB)))))) (dA))
 (sSeq (nA (dW (gM yF (bS eT (ab 3) (eC (.int 0))) (eC (.str "dress")))) (dS (o9 Z4 (aV Z1 Z2 Z3 Z4 Z5 hw) [] (af (ab 1) (af (ab 2) (af (bS eT (ab 3) (eC (.int 1))) (af (bS eT (ab 3) (eC (.int 2))) (aB))))))) (dA))
 (dS (o9 Z5 (aZ Z1 Z2 Z3 Z4 Z5 hw) [] (af (ab 1) (af (ab 2) (af (bS eT (ab 3) (eC (.int 1))) (af (bS eT (ab 3) (eC (.int 2))) (aB))))))))))))
def gW(Z1 Z2 Z3 Z4 Z5:IW)(hw:List aQ->Int):d9:=sSeq (xz 1 (js (aB)))
 (sSeq (bT 2 (sH hw (ab 0) (eC k_START)))
 (sSeq (vy (dW (bS ue (ab 2) (eC .non))) (sSeq (gT (i6 (ab 1) (af (ab 2) (aB))))
 (bT 2 (sH hw (ab 0) (ab 2)))))
 (fW 1)))
def dH(Z1 Z2 Z3 Z4 Z5:IW)(hw:List aQ->Int):d9:=dS (js (aB))
def ft(Z1 Z2 Z3 Z4 Z5:IW)(hw:List aQ->Int):d9:=dS (bB (a_ Z1 Z2 Z3 Z4 Z5 hw) [] (af (gn [Z1,Z2,Z3,Z4,Z5] "name" (ab 0)) (af (eB i7 (af (gn [Z1,Z2,Z3,Z4,Z5] "signs" (ab 0)) (aB))) (aB))))
def eQ(Z1 Z2 Z3 Z4 Z5:IW)(hw:List aQ->Int):d9:=dS (bB (a_ Z1 Z2 Z3 Z4 Z5 hw) [] (af (gn [Z1,Z2,Z3,Z4,Z5] "name" (ab 0)) (af (eB i7 (af (gn [Z1,Z2,Z3,Z4,Z5] "names" (ab 0)) (aB))) (aB))))
def gc(Z1 Z2 Z3 Z4 Z5:IW)(hw:List aQ->Int):d9:=sSeq (bT 2 (wj hw (eC k_START) (eC .non)))
 (sSeq (gT (bB (bF Z1 Z2 Z3 Z4 Z5 hw) [] (af (ab 2) (af (eC k_START) (af (bB (bI Z1 Z2 Z3 Z4 Z5 hw) [] (af (ab 0) (aB))) (aB))))))
 (sSeq (gu (dU (dm 1 (dU (bB (bY Z1 Z2 Z3 Z4 Z5 hw) [] (af (ab 1) (aB)))) (gN 0) (f_) (bB (bH Z1 Z2 Z3 Z4 Z5 hw) [] (af (ab 0) (aB))))) (gN 3) (nA (dW (sI hw (gn [Z1,Z2,Z3,Z4,Z5] "anchor" (ab 3)) (ab 2))) (gT (bB (bF Z1 Z2 Z3 Z4 Z5 hw) [] (af (ab 2) (af (gn [Z1,Z2,Z3,Z4,Z5] "anchor" (ab 3)) (af (fQ [(Z1,ai Z1 Z2 Z3 Z4 Z5 hw),(Z2,aS Z1 Z2 Z3 Z4 Z5 hw),(Z3,ai Z1 Z2 Z3 Z4 Z5 hw),(Z4,ai Z1 Z2 Z3 Z4 Z5 hw),(Z5,aL Z1 Z2 Z3 Z4 Z5 hw)] "slots" [] (ab 3) aB) (aB)))))) (dA)))
 (dS (bB (cX Z1 Z2 Z3 Z4 Z5 hw) [] (af (ab 2) (aB))))))
def gg(Z1 Z2 Z3 Z4 Z5:IW)(hw:List aQ->Int):d9:=sSeq (bT 4 (mW hw))
 (sSeq (gu (Cq (af (eB i7 (af (ab 0) (aB))) (aB))) (gN 5) (ff hw (ab 4) (gL (af (eC (.str "")) (af (eC (.int 0)) (af (bS fN (ab 5) (eC (.int 1))) (aB))))) (bS eT (ab 0) (ab 5))))
 (sSeq (gu (dU (ab 1)) (jU 3 (cI (gN 6) (cI (gN 7) (cI (gN 8) (jb))))) (nA (nO (dW (gM yF (bS eT (ab 8) (eC (.int 0))) (eC (.str "put")))) (nO (dW (gM B6 (ab 6) (ab 2))) (dW (gM B6 (gL (af (bS eT (ab 6) (eC (.int 0))) (af (bS eT (ab 6) (eC (.int 1))) (af (eC (.int 1)) (aB))))) (ab 3))))) (gu (Cq (af (eB i7 (af (bS eT (ab 8) (eC (.int 2))) (aB))) (aB))) (gN 5) (ff hw (ab 4) (gL (af (bS eT (ab 6) (eC (.int 0))) (af (bS eT (ab 6) (eC (.int 1))) (af (bS fN (ab 5) (eC (.int 1))) (aB))))) (bS eT (bS eT (ab 8) (eC (.int 2))) (ab 5)))) (dA)))
 (sSeq (gu (dU (ab 1)) (jU 3 (cI (gN 6) (cI (gN 7) (cI (gN 8) (jb))))) (nA (nO (dW (gM yF (bS eT (ab 8) (eC (.int 0))) (eC (.str "strike")))) (dW (gM B6 (ab 6) (ab 2)))) (gu (dU (bS eT (ab 8) (eC (.int 1)))) (gN 9) (gT (wm hw (ab 4) (ab 9) (eC (.str ""))))) (dA)))
 (dS (ab 4)))))
def iM(Z1 Z2 Z3 Z4 Z5:IW)(hw:List aQ->Int):d9:=dS (wg hw (dm 1 (dU (ab 0)) (gN 0) (f_) (gL (af (ab 0) (af (eC (.bl true)) (aB))))))
def fo(Z1 Z2 Z3 Z4 Z5:IW)(hw:List aQ->Int):d9:=dS (eB xg (af (dm 1 (dU (fQ [(Z1,ai Z1 Z2 Z3 Z4 Z5 hw),(Z2,aS Z1 Z2 Z3 Z4 Z5 hw),(Z3,ai Z1 Z2 Z3 Z4 Z5 hw),(Z4,ai Z1 Z2 Z3 Z4 Z5 hw),(Z5,aL Z1 Z2 Z3 Z4 Z5 hw)] "slots" [] (ab 0) aB)) (gN 0) (f_) (sI hw (ab 0) (ab 2))) (aB)))
def fq(Z1 Z2 Z3 Z4 Z5:IW)(hw:List aQ->Int):d9:=sSeq (bT 3 (bB (cK Z1 Z2 Z3 Z4 Z5 hw) [] (af (ab 1) (aB))))
 (sSeq (bT 4 (dm 1 (dU (bB (bY Z1 Z2 Z3 Z4 Z5 hw) [] (af (ab 0) (aB)))) (gN 0) (dW (sI hw (bS eT (ab 0) (eC (.int 0))) (ab 4))) (bB (bH Z1 Z2 Z3 Z4 Z5 hw) [] (af (ab 0) (aB)))))
 (dS (dm 1 (dU (ab 4)) (gN 0) (nN (bB (b9 Z1 Z2 Z3 Z4 Z5 hw) [] (af (ab 0) (af (ab 3) (aB))))) (ab 0))))
def de(Z1 Z2 Z3 Z4 Z5:IW)(hw:List aQ->Int):d9:=sSeq (bT 2 (wf hw (af (bB (bI Z1 Z2 Z3 Z4 Z5 hw) [] (af (ab 0) (aB))) (af (ab 0) (aB)))))
 (sSeq (gu (dU (ab 1)) (gN 3) (nA (nN (eB (sT [(Z1,false),(Z2,true),(Z3,false),(Z4,false),(Z5,false)] Z2) (af (ab 3) (af (eC (.ref Z2)) aB)))) (gu (yc (af (fQ [(Z1,ai Z1 Z2 Z3 Z4 Z5 hw),(Z2,aS Z1 Z2 Z3 Z4 Z5 hw),(Z3,ai Z1 Z2 Z3 Z4 Z5 hw),(Z4,ai Z1 Z2 Z3 Z4 Z5 hw),(Z5,aL Z1 Z2 Z3 Z4 Z5 hw)] "slots" [] (ab 3) aB) (af (gn [Z1,Z2,Z3,Z4,Z5] "signs" (ab 3)) (aB)))) (jU 2 (cI (gN 4) (cI (gN 5) (jb)))) (ff hw (ab 2) (ab 4) (ab 5))) (dA)))
 (dS (ab 2)))
def cP(Z1 Z2 Z3 Z4 Z5:IW)(hw:List aQ->Int):d9:=dS (eB xf (af (gn [Z1,Z2,Z3,Z4,Z5] "names" (ab 0)) (aB)))
def dE(Z1 Z2 Z3 Z4 Z5:IW)(hw:List aQ->Int):d9:=sSeq (bT 1 (mW hw))
 (sSeq (gu (dU (ab 0)) (gN 2) (nA (nN (eB (sT [(Z1,false),(Z2,false),(Z3,true),(Z4,false),(Z5,false)] Z3) (af (ab 2) (af (eC (.ref Z3)) aB)))) (gu (dU (fQ [(Z1,ae Z1 Z2 Z3 Z4 Z5 hw),(Z2,ae Z1 Z2 Z3 Z4 Z5 hw),(Z3,ae Z1 Z2 Z3 Z4 Z5 hw),(Z4,ae Z1 Z2 Z3 Z4 Z5 hw),(Z5,ae Z1 Z2 Z3 Z4 Z5 hw)] "touched" [] (ab 2) aB)) (gN 3) (ff hw (ab 1) (ab 3) (eC (.bl true)))) (dA)))
 (dS (ab 1)))
def d4(Z1 Z2 Z3 Z4 Z5:IW)(hw:List aQ->Int):d9:=sSeq (bT 1 (mW hw))
 (sSeq (gu (dU (ab 0)) (gN 2) (nA (nN (eB (sT [(Z1,false),(Z2,false),(Z3,false),(Z4,false),(Z5,true)] Z5) (af (ab 2) (af (eC (.ref Z5)) aB)))) (gu (yc (af (fQ [(Z1,ae Z1 Z2 Z3 Z4 Z5 hw),(Z2,ae Z1 Z2 Z3 Z4 Z5 hw),(Z3,ae Z1 Z2 Z3 Z4 Z5 hw),(Z4,ae Z1 Z2 Z3 Z4 Z5 hw),(Z5,ae Z1 Z2 Z3 Z4 Z5 hw)] "touched" [] (ab 2) aB) (af (fQ [(Z1,ai Z1 Z2 Z3 Z4 Z5 hw),(Z2,aS Z1 Z2 Z3 Z4 Z5 hw),(Z3,ai Z1 Z2 Z3 Z4 Z5 hw),(Z4,ai Z1 Z2 Z3 Z4 Z5 hw),(Z5,aL Z1 Z2 Z3 Z4 Z5 hw)] "slots" [] (ab 2) aB) (aB)))) (jU 2 (cI (gN 3) (cI (gN 4) (jb)))) (ff hw (ab 1) (ab 3) (ab 4))) (dA)))
 (dS (ab 1)))
def eN(Z1 Z2 Z3 Z4 Z5:IW)(hw:List aQ->Int):d9:=sSeq (bT 1 (mW hw))
 (sSeq (gu (dU (ab 0)) (gN 2) (nA (nN (eB (sT [(Z1,false),(Z2,false),(Z3,false),(Z4,true),(Z5,false)] Z4) (af (ab 2) (af (eC (.ref Z4)) aB)))) (gu (dU (fQ [(Z1,ae Z1 Z2 Z3 Z4 Z5 hw),(Z2,ae Z1 Z2 Z3 Z4 Z5 hw),(Z3,ae Z1 Z2 Z3 Z4 Z5 hw),(Z4,ae Z1 Z2 Z3 Z4 Z5 hw),(Z5,ae Z1 Z2 Z3 Z4 Z5 hw)] "touched" [] (ab 2) aB)) (gN 3) (ff hw (ab 1) (ab 3) (gn [Z1,Z2,Z3,Z4,Z5] "word" (ab 2)))) (dA)))
 (dS (ab 1)))
def iL(Z1 Z2 Z3 Z4 Z5:IW)(hw:List aQ->Int):d9:=sSeq (bT 3 (bB (bX Z1 Z2 Z3 Z4 Z5 hw) [] (af (ab 0) (af (ab 1) (aB)))))
 (sSeq (bT 4 (bB (b_ Z1 Z2 Z3 Z4 Z5 hw) [] (af (ab 1) (af (ab 2) (af (bB (cK Z1 Z2 Z3 Z4 Z5 hw) [] (af (ab 3) (aB))) (aB))))))
 (sSeq (bT 5 (bB (bj Z1 Z2 Z3 Z4 Z5 hw) [] (af (ab 0) (af (ab 4) (aB)))))
 (sSeq (bT 6 (bB (bv Z1 Z2 Z3 Z4 Z5 hw) [] (af (ab 4) (aB))))
 (sSeq (bT 7 (bB (bE Z1 Z2 Z3 Z4 Z5 hw) [] (af (ab 4) (aB))))
 (sSeq (bT 8 (bB (bQ Z1 Z2 Z3 Z4 Z5 hw) [] (af (ab 4) (aB))))
 (sSeq (bT 9 (mW hw))
 (sSeq (zh (ab 5) (gN 10) (nA (dW (lM hw (ab 10) (ab 6))) (ff hw (ab 9) (mH hw (ab 7) (ab 10) (ab 10)) (ab 10)) (dA)))
 (sSeq (bT 11 (dm 1 (dU (ab 3)) (gN 0) (dW (sI hw (ab 0) (ab 10))) (gL (af (ab 0) (af (sH hw (ab 10) (ab 0)) (aB))))))
 (dS (dm 2 (dU (ab 11)) (jU 2 (cI (gN 0) (cI (gN 1) (jb)))) (f_) (gL (af (ab 0) (af (ab 1) (af (sH hw (ab 7) (ab 1)) (af (mH hw (ab 10) (ab 1) (eC (.str ""))) (aB))))))))))))))))
def gV(Z1 Z2 Z3 Z4 Z5:IW)(hw:List aQ->Int):d9:=dS (dm 1 (dU (bB (cJ Z1 Z2 Z3 Z4 Z5 hw) [] (af (ab 0) (af (ab 1) (af (ab 2) (aB)))))) (gN 0) (f_) (A8 y_ (ab 0) (h8 (eC (.int 1))) (wP)))
def gU(Z1 Z2 Z3 Z4 Z5:IW)(hw:List aQ->Int):d9:=dS (uN (eC (.str "")) (af (dm 1 (dU (ab 0)) (gN 0) (f_) (bS eT (ab 0) (eC (.int 1)))) (aB)))
def n6(Z1 Z2 Z3 Z4 Z5:IW)(hw:List aQ->Int):d9:=sSeq (bT 1 (bB (bc Z1 Z2 Z3 Z4 Z5 hw) [] (af (ab 0) (af (eC (.int 0)) (aB)))))
 (sSeq (bT 2 (A8 y_ (eC (.str "some old\ntxt")) (wP) (h8 (bS jc (ab 1) (eC (.int 13))))))
 (sSeq (bT 3 (A8 y_ (bS eT (js (af (js (af (eC (.str "ann")) (af (eC (.str "bob")) (af (eC (.str "cyd")) (aB))))) (af (js (af (eC (.str "a")) (af (eC (.str "ab")) (af (eC (.str "abc")) (aB))))) (aB)))) (bS jc (bS xQ (ab 1) (eC (.int 13))) (eC (.int 2)))) (wP) (h8 (bS fN (eC (.int 1)) (bS jc (bS xQ (ab 1) (eC (.int 26))) (eC (.int 3)))))))
 (sSeq (bT 4 (bB (bw Z1 Z2 Z3 Z4 Z5 hw) [] (af (A8 y_ (ab 0) (h8 (eC (.int 2))) (h8 (eC (.int 34)))) (af (ab 3) (af (ab 2) (aB))))))
 (sSeq (bT 5 (bB (bm Z1 Z2 Z3 Z4 Z5 hw) [] (af (ab 4) (af (bB (bc Z1 Z2 Z3 Z4 Z5 hw) [] (af (ab 0) (af (eC (.int 1)) (aB)))) (aB)))))
 (sSeq (bT 6 (bB (bX Z1 Z2 Z3 Z4 Z5 hw) [] (af (ab 2) (af (ab 4) (aB)))))
 (sSeq (bT 7 (bB (cv Z1 Z2 Z3 Z4 Z5 hw) [] (af (ab 2) (af (ab 4) (af (ab 5) (af (ab 6) (aB)))))))
 (sSeq (bT 8 (ab 4))
 (sSeq (nA (dW (gM yF (bS jc (bS xQ (ab 1) (eC (.int 78))) (eC (.int 3))) (eC (.int 1)))) (bT 8 (bS fN (yk (ab 4) (wP) (wP) (h8 (Cz (eC (.int 1))))) (yk (ab 4) (wP) (wP) (h8 (eC (.int 2)))))) (dA))
 (sSeq (bT 9 (bB (cW Z1 Z2 Z3 Z4 Z5 hw) [] (af (ab 2) (af (ab 8) (af (ab 5) (aB))))))
 (sSeq (bT 10 (bB (cJ Z1 Z2 Z3 Z4 Z5 hw) [] (af (ab 2) (af (yk (ab 8) (wP) (wP) (h8 (Cz (eC (.int 1))))) (af (bS fN (ab 5) (ab 5)) (aB))))))
 (sSeq (nA (vg (wD (nN (eB yu (af (ab 9) (af (eC (.ty "list")) (aB)))))) (dW (gM A7 (dm 1 (dU (ab 9)) (gN 0) (vg (wD (nN (eB yu (af (ab 0) (af (eC (.ty "tuple")) (aB)))))) (dW (gM A7 (eB i7 (af (ab 0) (aB))) (eC (.int 3))))) (ab 0)) (js (aB))))) (dS (eC (.bl false))) (dA))
 (sSeq (nA (dW (gM A7 (wb (dm 1 (dU (ab 9)) (gN 0) (f_) (bS eT (ab 0) (eC (.int 0))))) (we (ab 7)))) (dS (eC (.bl false))) (dA))
 (sSeq (nA (vg (dW (gM A7 (dm 1 (dU (ab 9)) (gN 0) (dW (gM A7 (sH hw (ab 8) (bS eT (ab 0) (eC (.int 0)))) (bS eT (ab 0) (eC (.int 1))))) (ab 0)) (js (aB)))) (dW (gM A7 (dm 1 (dU (ab 10)) (gN 0) (f_) (A8 y_ (ab 0) (h8 (eC (.int 1))) (wP))) (ab 9)))) (dS (eC (.bl false))) (dA))
 (sSeq (bT 11 (dm 1 (dU (ab 10)) (gN 0) (f_) (bS eT (ab 0) (eC (.int 0)))))
 (sSeq (nA (dW (gM A7 (ab 11) (dm 1 (dU (ab 6)) (gN 0) (dW (gM B6 (ab 0) (ab 12))) (ab 0)))) (dS (eC (.bl false))) (dA))
 (dS (gM yF (bB (cV Z1 Z2 Z3 Z4 Z5 hw) [] (af (ab 9) (aB))) (uN (eC (.str "")) (af (dm 3 (dU (ab 9)) (jU 3 (cI (gN 0) (cI (gN 1) (cI (gN 2) (jb))))) (f_) (ab 1)) (aB))))))))))))))))))))
theorem Gq{ns:List Int}(h:ns.length=8):∃ a b c d e f g k:Int,ns=[a,b,c,d,e,f,g,k]:=by
 match ns,h with
 | [a,b,c,d,e,f,g,k],_=>exact⟨a,b,c,d,e,f,g,k,rfl⟩
theorem GG{a b c d e f g h:D}:iF [a,b,c,d,e,f,g,h] 0=some a:=rfl
theorem GF{a b c d e f g h:D}:iF [a,b,c,d,e,f,g,h] 1=some b:=rfl
theorem GE{a b c d e f g h:D}:iF [a,b,c,d,e,f,g,h] 2=some c:=rfl
theorem Gz{a b c d e f g h:D}:iF [a,b,c,d,e,f,g,h] 7=some h:=rfl
theorem GD{a b c d e f g h:D}:iF [a,b,c,d,e,f,g,h] 3=some d:=rfl
theorem GC{a b c d e f g h:D}:iF [a,b,c,d,e,f,g,h] 4=some e:=rfl
theorem GB{a b c d e f g h:D}:iF [a,b,c,d,e,f,g,h] 5=some f:=rfl
theorem GA{a b c d e f g h:D}:iF [a,b,c,d,e,f,g,h] 6=some g:=rfl
def wl:String:="dA gT dS FF DS FI nA DR bT xz fW HB FH FG ab eC bS gM E1 HU IL Gs IM Cz dW nO vg wD nN f_ DG gL js aB af fN oI Df Eu jc xQ HG vT HH II Gd IJ yF A7 eT A8 wP h8 y_ eB i7 xf sS HY HZ H_ yu gJ bB Gu o9 HR uN i6 dm gu dU Cq HM HL Hz il qR yH gN jU cI jb val iq List.map_cons List.map_nil List.replicate List.length_cons List.length_nil List.cons_append List.nil_append List.append_nil List.getElem?_cons_zero List.getElem?_cons_succ List.getElem?_nil List.set_cons_zero List.set_cons_succ List.set_nil Nat.reduceAdd Nat.reduceSub Nat.reduceLeDiff Nat.zero_add Option.some.injEq Option.map_some decide_eq_true_eq true_and and_true and_self if_true if_false Bool.false_eq_true reduceCtorEq List.cons.injEq GO.ins.injEq GO.lst.injEq D.lst.injEq D.fl.injEq exists_eq_left' exists_eq_left exists_eq' az eE pl bo GT GS GR Dv Du Dt GQ GP GN GM GL GK GJ GI GH mW AM mH ff mN Gv yk EZ HF Ev iP cG kj uA Ci k_START EK Ch EJ At Cg uG sy uF p7 sv sB p9 sA oQ p8 uE sm uD pZ sj pY oO pX nt oN su p6 sn oP p5 Bool.not_true Bool.not_false gn iK fQ wj EY EW wa HI ue oR vy sH sI lM Ia Gy if_true if_false wg wf yc fG zh xg sT Gr CA ID yk lM mH iP Gd wm wb we yu gJ uN oY nv rG rM rF rL rE rK rD rJ uK sE xG xI xF xH rH rN oZ t5 t6 GG GF GE GD GC GB GA Gz aO bY a_ aw bd aR aV aZ bH ai aS aL bI bF cX bX cK b9 b_ bj ae bv bE bQ cJ cW cV bc bb bw bm cv"
local macro_rules | `(tactic| walk_at "st") => do let ls <- (("sSeq " ++ wl).splitOn " ").toArray.mapM (fun s => `(Lean.Parser.Tactic.simpLemma| $(Lean.mkIdent s.toName):term)); `(tactic| simp only [$ls,*, *])
local macro_rules | `(tactic| walk_at "s1") => do let ls <- (wl.splitOn " ").toArray.mapM (fun s => `(Lean.Parser.Tactic.simpLemma| $(Lean.mkIdent s.toName):term)); `(tactic| simp only [$ls,*, *])
theorem Aw{b:Bool}{p q:Prop}(h1:b=true->p)(h2:b=false->q):if b=true then p else q:=by
 cases b
 ·rw[if_neg (by decide)];exact h2 rfl
 ·rw[if_pos rfl];exact h1 rfl
theorem iteF{p q:Prop}(h:q):if (false:Bool)=true then p else q:=by rw[if_neg (by decide)];exact h
theorem iteT{p q:Prop}(h:p):if (true:Bool)=true then p else q:=by rw[if_pos rfl];exact h
theorem dy{a b:Int}(h:0 < b):0<=a % b/\a % b < b:=⟨Int.emod_nonneg _ (by walk_at "o"),Int.emod_lt_of_pos _ h⟩
def mY(m:Str)(i:Int):Str:=⟨#[m.cps.toList.getD i.toNat 0]⟩
theorem tI{m:Str}{i:Int}(h0:0<=i)(h:i < m.length):L3.strAt m i=some (.str (mY m i)):=by
 have hl:i.toNat < m.cps.toList.length:=by simp only[Array.length_toList];have:m.length=m.cps.size:=rfl;omega
 unfold L3.strAt iF Ck;have h2:i < (m.cps.toList.length:Int):=by walk_at "o"
 rw[if_pos h0,if_pos h2];have hl':i.toNat < m.cps.size:=by simpa using hl
 simp[mY,hl']
theorem sV{α:Type}[Inhabited α]{f:α->D}{xs:List α}{i:Int}(h0:0<=i)(h:i < xs.length):iF (xs.map f) i=some (f (xs.getD i.toNat default)):=by
 rw[A0 h0 (by rw[IZ];exact h)]
 have hi:i.toNat < xs.length:=by walk_at "o"
 simp[hi]
theorem qD{G:Gp}{p:IW}{o:GO}(h:G p=none):fP (gset G p o) p=G:=by
 funext a
 by_cases e:a=p
 ·subst e;rw[eF,h]
 ·rw[eG e,aK e]
local macro_rules | `(tactic| walk_at "conds") => `(tactic| (repeat ((with_reducible refine And.intro ?cc ?_); (case cc => first | decide | omega | rfl))))
def bC(sp:fB)(rd:d9)(ns:List Str):Prop:=∀ ds G Q,sp ds G Q->rd { nx:=fun _ G'=>Q .non G',rt:=Q } (iq ns ds) G
def bD(sp:fB)(n:Nat):Prop:=∀ ds G Q,sp ds G Q->ds.length=n
theorem u8{k:Nat}{A:Jy}(r:Room k A):A.units+8 < JY:=by have:=r.un;omega
theorem u4{k:Nat}{A:Jy}(r:Room k A):A.units+4 < JY:=by have:=r.un;omega
theorem cF{P:Jw}{w:JG}{K:JD}{mg:Str->Option IV}{base:JI}{k:Nat}{x:Str}{f:IW}{fd:JE}{ps:List Str}{sp:fB}(o:FnOk P w K mg base gF k f fd ps (aJ K sp))(m:mg x=some (.ref f))(q:J1 K (.ref f)=true)(b:gr K fd ps []):Fn3 P w K mg base k x [] sp:=⟨_,_,_,[],[],o,m,q,b,.nil,fun _=>RDs.nil⟩
theorem iz{P:Jw}{w:JG}{K:JD}{mg:Str->Option IV}{base:JI}{k:Nat}{C:IW}{x:Str}{f:IW}{fd:JE}{ps:List Str}{sp:fB}(c:Cls K C)(o:FnOk P w K mg base gF k f fd ps (aJ K sp))(m:Meth K C x f)(b:gr K fd ps []):Mt3 P w K mg base k C x [] sp:=⟨c,_,_,_,[],[],o,m,b,.nil,fun _=>RDs.nil⟩
local macro_rules | `(tactic| walk_at "i") => `(tactic| first | exact Or.inl rfl | exact Or.inr rfl)
theorem jM(Z1 Z2 Z3 Z4 Z5:IW)(hw:HW):bC (aw Z1 Z2 Z3 Z4 Z5 hw) (cA Z1 Z2 Z3 Z4 Z5 hw) ["self","name","time"]:=by
 intro ds G Q h;unfold aw at h;split at h
 ·rename_i a d t;obtain⟨C,hC,hG,p,n,rfl,h⟩:=h;have hs:=av;unfold cA;walk_at "st";walk_at "conds";exact h
 ·exact h.elim
theorem ma(Z1 Z2 Z3 Z4 Z5:IW)(hw:HW):bC (bd Z1 Z2 Z3 Z4 Z5 hw) (dI Z1 Z2 Z3 Z4 Z5 hw) ["self","name","time","anchor","signs"]:=by
 intro ds G Q h;unfold bd at h;split at h
 ·rename_i a d t b x;obtain⟨hG,p,n,s,rfl,rfl,h⟩:=h;have hs:=av;have hc:Z2∈[Z1,Z2,Z3,Z4,Z5]:=by simp
  unfold dI;unfold Sl.d;walk_at "st";exact⟨Z2,hc,rfl,p,n,rfl,⟨hc,by decide⟩,⟨hc,by decide⟩,h⟩
 ·exact h.elim
theorem jN(Z1 Z2 Z3 Z4 Z5:IW)(hw:HW):bC (aR Z1 Z2 Z3 Z4 Z5 hw) (cB Z1 Z2 Z3 Z4 Z5 hw) ["self","name","time","names"]:=by
 intro ds G Q h;unfold aR at h;split at h
 ·obtain⟨hG,p,n,rfl,h⟩:=h;have hs:=av;have hc:Z3∈[Z1,Z2,Z3,Z4,Z5]:=by simp
  unfold cB;walk_at "st";exact⟨Z3,hc,rfl,p,n,rfl,⟨hc,by decide⟩,h⟩
 ·exact h.elim
theorem j7(Z1 Z2 Z3 Z4 Z5:IW)(hw:HW):bC (aV Z1 Z2 Z3 Z4 Z5 hw) (cQ Z1 Z2 Z3 Z4 Z5 hw) ["self","name","time","names","word"]:=by
 intro ds G Q h;unfold aV at h;split at h
 ·obtain⟨hG,p,n,rfl,h⟩:=h;have hs:=av;have hc:Z4∈[Z1,Z2,Z3,Z4,Z5]:=by simp
  unfold cQ;walk_at "st";exact⟨Z4,hc,rfl,p,n,rfl,⟨hc,by decide⟩,⟨hc,by decide⟩,h⟩
 ·exact h.elim
theorem kQ(Z1 Z2 Z3 Z4 Z5:IW)(hw:HW):bC (aZ Z1 Z2 Z3 Z4 Z5 hw) (dh Z1 Z2 Z3 Z4 Z5 hw) ["self","name","time","names","anchor"]:=by
 intro ds G Q h;unfold aZ at h;split at h
 ·obtain⟨hG,p,n,s,rfl,rfl,h⟩:=h;have hs:=av;have hc:Z5∈[Z1,Z2,Z3,Z4,Z5]:=by simp
  unfold dh;unfold Sl.d;walk_at "st";exact⟨Z5,hc,rfl,p,n,rfl,⟨hc,by decide⟩,⟨hc,by decide⟩,h⟩
 ·exact h.elim
theorem nW(Z1 Z2 Z3 Z4 Z5:IW)(hw:HW):bC (a_ Z1 Z2 Z3 Z4 Z5 hw) (eO Z1 Z2 Z3 Z4 Z5 hw) ["name","how_many"]:=by
 intro ds G Q h;unfold a_ at h;split at h
 ·rename_i p n m;obtain⟨⟨h1,h2⟩,h⟩:=h;have hs:=av;unfold eO;walk_at "s1";refine⟨⟨by walk_at "o",by walk_at "o",by walk_at "o",by walk_at "o"⟩,cU (fun d=>match d with|.int k=>.tup [.str p,.int n,.int k]|d=>d) (by rw[bR];omega) (fun d hd P hP=>?_) ?_⟩
  ·obtain⟨k,hk,rfl⟩:=mem_map.mp hd;walk_at "st";exact⟨rfl,by walk_at "o",by simp,by walk_at "o",hP _ rfl⟩
  ·have e:(eZ 1 (m+1 - 1).toNat).map (fun d=>match d with|D.int k=>D.tup [.str p,.int n,.int k]|d=>d)=(au p n m.toNat).map Sl.d:=by
    unfold eZ au;rw[JK,JK,show m+1 - 1=m by walk_at "o"]
    refine Kq fun k _=>?_;simp only[Function.comp,Sl.d];rw[Int.add_comm]
   rw[e];exact h
 ·exact h.elim
theorem pH(Z1 Z2 Z3 Z4 Z5:IW)(hw:HW):bC (bI Z1 Z2 Z3 Z4 Z5 hw) (fm Z1 Z2 Z3 Z4 Z5 hw) ["old"]:=by
 intro ds G Q h;unfold bI at h;split at h
 ·rename_i x;obtain⟨h1,h⟩:=h;have hs:=av;unfold fm;have ec:L3.cutD [D.str (I_ ""),D.int 0,D.int 0] none (some 2)=[D.str (I_ ""),D.int 0]:=by rw[w6 (by decide)];rfl
  walk_at "st";refine⟨by decide,by walk_at "o",⟨by walk_at "o",by walk_at "o"⟩,?_⟩
  rw[Int.toNat_natCast];exact h
 ·exact h.elim
theorem l_(Z1 Z2 Z3 Z4 Z5:IW)(hw:HW):bC (ai Z1 Z2 Z3 Z4 Z5 hw) (dH Z1 Z2 Z3 Z4 Z5 hw) ["self"]:=by
 intro ds G Q h;unfold ai at h;split at h
 ·have hs:=av;unfold dH;walk_at "st"
  first|exact⟨by walk_at "o",h⟩|omega
 ·exact h.elim
theorem pK(Z1 Z2 Z3 Z4 Z5:IW)(hw:HW):bC (aS Z1 Z2 Z3 Z4 Z5 hw) (ft Z1 Z2 Z3 Z4 Z5 hw) ["self"]:=by
 intro ds G Q h;unfold aS at h;split at h
 ·rename_i a;obtain⟨s,b,x,⟨e,hG,hl⟩,h⟩:=h;have hs:=av;have hc:Z2∈[Z1,Z2,Z3,Z4,Z5]:=by simp
  unfold cj at hG;rw[e]at hG;unfold ft;walk_at "st";refine⟨by walk_at "o",⟨by walk_at "o",by walk_at "o"⟩,?_⟩
  rw[Int.toNat_natCast];unfold made at h;rw[e]at h;exact h
 ·exact h.elim
theorem nY(Z1 Z2 Z3 Z4 Z5:IW)(hw:HW):bC (aL Z1 Z2 Z3 Z4 Z5 hw) (eQ Z1 Z2 Z3 Z4 Z5 hw) ["self"]:=by
 intro ds G Q h;unfold aL at h;split at h
 ·rename_i a;obtain⟨s,b,ns,⟨e,hG,hl⟩,h⟩:=h;have hs:=av;have hc:Z5∈[Z1,Z2,Z3,Z4,Z5]:=by simp
  unfold cj at hG;rw[e]at hG;unfold eQ;walk_at "st";rw[IZ];refine⟨⟨by walk_at "o",by walk_at "o"⟩,?_⟩
  rw[Int.toNat_natCast];unfold made at h;rw[e]at h;exact h
 ·exact h.elim
theorem dO{a b:String}(h:I_ a≠I_ b):fh (.str (I_ a)) (.str (I_ b))=false:=bM fun z=>h (by injection z)
theorem pG(Z1 Z2 Z3 Z4 Z5:IW)(hw:HW):bC (bH Z1 Z2 Z3 Z4 Z5 hw) (fk Z1 Z2 Z3 Z4 Z5 hw) ["row","name","time","act"]:=by
 intro ds G Q h;unfold bH at h;split at h
 ·obtain⟨⟨pen,num,time,act⟩,rfl,h⟩:=h;have hs:=av;unfold cj at h;unfold fk Sk.d;cases act with
  | put a x=>
   unfold Act.d;dsimp only at h;rw[ag];walk_at "s1";rw[ag];walk_at "s1";rw[ag];walk_at "s1";rw[ag];unfold Sl.d at h;unfold Sl.d;walk_at "s1";exact fun p hp=>⟨pen,num,a,rfl,rfl,h p hp⟩
  | strike ns=>
   unfold Act.d;dsimp only at h;rw[ag];walk_at "s1";rw[ag];walk_at "s1";rw[ag];walk_at "s1";have e0:=dO (a:="strike") (b:="put") (by decide +kernel)
   rw[ag];refine bf false (fun K hK=>?_) (iteF ?_)
   ·walk_at "st"
   ·simp only[dA];rw[ag];walk_at "s1";exact fun p hp=>⟨pen,num,rfl,h p hp⟩
  | dress ns w=>
   unfold Act.d;dsimp only at h;rw[ag];walk_at "s1";rw[ag];walk_at "s1";rw[ag];walk_at "s1";have e0:=dO (a:="dress") (b:="put") (by decide +kernel)
   have e1:=dO (a:="dress") (b:="strike") (by decide +kernel)
   rw[ag];refine bf false (fun K hK=>?_) (iteF ?_)
   ·walk_at "st"
   ·simp only[dA];rw[ag];refine bf false (fun K hK=>?_) (iteF ?_)
    ·walk_at "st"
    ·simp only[dA];rw[ag];walk_at "s1";exact fun p hp=>⟨pen,num,rfl,h p hp⟩
  | move ns a=>
   unfold Act.d;dsimp only at h;rw[ag];walk_at "s1";rw[ag];walk_at "s1";rw[ag];walk_at "s1";have e0:=dO (a:="move") (b:="put") (by decide +kernel)
   have e1:=dO (a:="move") (b:="strike") (by decide +kernel)
   have e2:=dO (a:="move") (b:="dress") (by decide +kernel)
   rw[ag];refine bf false (fun K hK=>?_) (iteF ?_)
   ·walk_at "st"
   ·simp only[dA];rw[ag];refine bf false (fun K hK=>?_) (iteF ?_)
    ·walk_at "st"
    ·simp only[dA];rw[ag];refine bf false (fun K hK=>?_) (iteF ?_)
     ·walk_at "st"
     ·simp only[dA];unfold Sl.d at h;unfold Sl.d;walk_at "s1";exact fun p hp=>⟨pen,num,a,rfl,rfl,h p hp⟩
 ·exact h.elim
theorem j5(Z1 Z2 Z3 Z4 Z5:IW)(hw:HW):bC (aO Z1 Z2 Z3 Z4 Z5 hw) (cO Z1 Z2 Z3 Z4 Z5 hw) ["row"]:=by
 intro ds G Q h;unfold aO at h;split at h
 ·obtain⟨r,rfl,h⟩:=h;have hs:=av;unfold cO Rw.d;walk_at "st"
  first|exact⟨by walk_at "o",h⟩|omega
 ·exact h.elim
def IG(hw:List aQ->Int)(G:Gp)(p:IW)(ss W:List Sl)(b:Sl)(a:D)(i:Nat)(σ:gy)(G':Gp):Prop:=∃ (x4:Option D) (Wi:List Sl) (bi:Sl) (kvs:List (List aQ×D)),σ=[some (.ref p),some a,some (.lst (ss.map Sl.d)),some bi.d,x4]/\G'=gset G p (.dT hw kvs)/\yD kvs Wi/\bi∈Wi/\(∀ x∈ss.drop i,x∉Wi)/\bz Wi bi (ss.drop i)=bz W b ss/\Wi.length=W.length+i
theorem nX(Z1 Z2 Z3 Z4 Z5:IW)(hw:HW):bC (bF Z1 Z2 Z3 Z4 Z5 hw) (eP Z1 Z2 Z3 Z4 Z5 hw) ["following","anchor","slots","behind","slot"]:=by
 intro ds G Q h;unfold bF at h;split at h
 ·rename_i p a xs;obtain⟨b,ss,W,kvs,⟨rfl,rfl,hG,hF,hb,nd,hf,hl⟩,h⟩:=h;have hs:=av;unfold eP;rw[ag];have eb:(match b.d with|D.fl ds=>D.lst ds|d=>d)=b.d:=rfl
  simp only[bT,ab,iq,val,Jz,Nj,LV,KY,List.replicate,J2,J3,Jv,JU,JA,JL,Nat.reduceAdd,Nat.reduceSub,eb];refine⟨IG hw G p ss W b b.d,⟨_,W,b,kvs,rfl,?_,hF,hb,hf,rfl,rfl⟩,?_,?_⟩
  ·funext z
   by_cases e:z=p
   ·subst e;rw[az];exact hG
   ·rw[aK e]
  ·rintro i d σ G' hd ⟨x4,Wi,bi,kvs,rfl,rfl,hF,hb,hf,hI,hlen⟩
   rw[JB]at hd;cases hx:ss[i]? with
   | none=>rw[hx]at hd;cases hd
   | some x=>
    rw[hx]at hd;cases hd;obtain⟨hi,ex⟩:=List.getElem?_eq_some_iff.mp hx;have dr:ss.drop i=x::ss.drop (i+1):=by rw[<- ex];exact KB hi
    rw[dr]at hf hI;have hxW:=hf x Jk;have fs:=AK hF hb hxW;have lk:=hF.2.2.2 bi hb;have lx:=hF.2.2.1 x hxW;have nx1:=hF.2.1;have nd':(x::ss.drop (i+1)).Nodup:=by rw[<- dr];exact nd.sublist (List.drop_sublist _ _)
    rw[KF]at nd';simp only[gN,JL,JA];have kx:=lE x;have kb:=lE bi;have vx:val x.d=x.d:=rfl;have vb:val bi.d=bi.d:=rfl;rw[ag];show ∃ d,cG hw (gset G p (.dT hw kvs)) (.ref p) bi.d (some d)/\mN hw (.ref p) x.d (val d) (gset G p (.dT hw kvs)) _
    refine⟨nx Wi bi,?_,?_⟩
    ·show (match gset G p (.dT hw kvs) p with|some (.dT hw' kvs)=>hw'=hw/\∃ ks,kj bi.d=some ks/\some (nx Wi bi)=eL kvs ks|some (.dK kvs)=>_|_=>False)
     rw[az];exact⟨rfl,bi.key,kb,lk.symm⟩
    ·rw[Ew];show (match gset G p (.dT hw kvs) p with|some (.dT hw' kvs)=>hw'=hw/\∃ ks,kj x.d=some ks/\kvs.length < Jg/\_|some (.dK kvs)=>_|some (.lst ds)=>_|_=>False)
     rw[az];refine⟨rfl,x.key,kx,by walk_at "o",?_⟩
     rw[eE];dsimp only;rw[ag];show (match gset G p (.dT hw (cH kvs x.key (nx Wi bi))) p with|some (.dT hw' kvs)=>hw'=hw/\∃ ks,kj bi.d=some ks/\kvs.length < Jg/\_|some (.dK kvs)=>_|some (.lst ds)=>_|_=>False)
     rw[az];refine⟨rfl,bi.key,kb,by have:=gi kvs x.key (nx Wi bi);omega,?_⟩
     rw[eE];refine⟨_,jd Wi bi x,x,_,rfl,rfl,fs,(d7 hb x).mpr (.inr rfl),fun y hy hW=>?_,?_,by rw[jo hb];omega⟩
     ·rcases (d7 hb y).mp hW with z|z
      ·exact hf y (Jl _ hy) z
      ·exact nd'.1 (z ▸ hy)
     ·exact hI
  ·rintro σ G' ⟨x4,Wi,bi,kvs,rfl,rfl,hF,hb,hf,hI,hlen⟩
   rw[IZ,List.drop_length]at hI;have:Wi=bz W b ss:=hI;rw[this]at hF;exact h _ hF
 ·exact h.elim
def Ip(G:Gp)(p q:IW)(R:List Sl)(m:Nat)(σ:gy)(G':Gp):Prop:=∃ i,i<=R.length/\m=R.length - i/\σ=[some (.ref p),some (.ref q),some (yG (R.drop i))]/\G'=gset G q (.lst ((R.take i).map Sl.d))
theorem Ge{W:List Sl}(hW:W.Nodup):∀ {pre post:List Sl} {c:Sl},W=pre ++ c::post->nx W c=yG post:=by
 induction W with
 | nil=>intro pre post c h;simp at h
 | cons a t ih=>
  intro pre post c h;rw[KF]at hW;cases pre with
  | nil=>
   simp only[KY,List.cons.injEq]at h;obtain⟨rfl,rfl⟩:=h;simp[nx]
  | cons a' pre=>
   simp only[LV,List.cons.injEq]at h;obtain⟨rfl,h⟩:=h;have hc:c∈t:=by rw[h];simp
   simp only[nx];rw[if_neg (fun (z:a=c)=>hW.1 (by rw[z];exact hc))]
   exact ih hW.2 h
theorem tS(Z1 Z2 Z3 Z4 Z5:IW)(hw:HW):bC (cX Z1 Z2 Z3 Z4 Z5 hw) (gW Z1 Z2 Z3 Z4 Z5 hw) ["following","row","slot"]:=by
 intro ds G Q h;unfold cX at h;split at h
 ·rename_i p;obtain⟨R,kvs,⟨hG,hF,hl⟩,h⟩:=h;have hs:=av;unfold gW;rw[ag];walk_at "s1";refine⟨by walk_at "o",fun q hq=>?_⟩
  have hpq:p≠q:=fun z=>by subst z;rw[hG]at hq;cases hq
  have gp:∀ o,gset G q o p=some (.dT hw kvs):=fun o=>by rw[aK hpq];exact hG
  have look:∀ c∈ay::R,∀ o,cG hw (gset G q o) (.ref p) c.d (some (nx (ay::R) c)):=fun c hc o=>by
   show (match gset G q o p with|some (.dT hw' kvs)=>hw'=hw/\∃ ks,kj c.d=some ks/\some (nx (ay::R) c)=eL kvs ks|some (.dK kvs)=>_|_=>False)
   rw[gp];exact⟨rfl,c.key,lE c,(hF.2.2.2 c hc).symm⟩
  rw[ag];show ∃ d,cG hw (gset G q (.lst [])) (.ref p) ay.d (some d)/\_
  refine⟨_,look ay (by simp) _,?_⟩
  have e0:nx (ay::R) ay=yG R:=by simp[nx]
  dsimp only;rw[ag,e0,rY];simp only[JL,JA];refine⟨Ip G p q R,⟨R.length,0,JQ _,rfl,rfl,rfl⟩,?_⟩;have wc:∀ (a b:Option D) (d:D) (K:Bool->Gp->Prop) (G:Gp),dW (bS ue (ab 2) (eC .non)) [a,b,some d] G K↔K (!oR d) G:=fun a b d K G=>Iff.rfl
  rintro m σ G' ⟨i,hi,rfl,rfl,rfl⟩
  by_cases hlt:i < R.length
  ·have dr:R.drop i=R[i]::R.drop (i+1):=KB hlt;rw[dr];refine (wc _ _ (R[i]).d _ _).mpr ?_;dsimp only;rw[show (!oR (R[i]).d)=true from rfl,if_pos rfl]
   have e1:nx (ay::R) R[i]=yG (R.drop (i+1)):=Ge hF.1 (pre:=ay::R.take i) (by rw[LV];congr 1;rw[<- dr];exact (Lw i R).symm)
   refine⟨fun σ G'=>Ip G p q R (R.length - (i+1)) σ G',fun σ2 G2 hN=>⟨_,by walk_at "o",hN⟩,?_⟩
   rw[ag];have ua:∀ (E:Ends3) (Z:D),gT (i6 (ab 1) (af (ab 2) aB)) E [some (.ref p),some (.ref q),some (R[i]).d] (gset G q (.lst ((R.take i).map Sl.d)))↔((R.take i).map Sl.d).length < Jg/\E.nx [some (.ref p),some (.ref q),some (R[i]).d] (gset G q (.lst ((R.take i).map Sl.d ++ [(R[i]).d]))):=fun E Z=>by
    unfold Sl.d;walk_at "s1"
   rw[show yG (R[i]::R.drop (i+1))=(R[i]).d from rfl,ua _ .non]
   refine⟨by rw[IZ,JN];omega,?_⟩
   dsimp only;show ∃ d,cG hw (gset G q _) (.ref p) (R[i]).d (some d)/\_
   refine⟨_,look R[i] (by simp) _,i+1,by walk_at "o",rfl,?_,?_⟩
   ·rw[e1,rY];rfl
   ·rw[Ke,Jb hlt,J0];rfl
  ·have ei:i=R.length:=by walk_at "o"
   subst ei;rw[List.drop_length,JR];refine (wc _ _ .non _ _).mpr ?_;dsimp only;rw[show (!oR D.non)=false from rfl,if_neg (by decide)]
   show fW 1 _ _ _
   simp only[fW,J3,J2,az];rw[qD hq];exact h
 ·exact h.elim
theorem Bh(vs:List Rw):(vs.map mz).map (·.2)=vs.map Rw.d:=by rw[JK];rfl
theorem zp{rs:List Rw}{i:Nat}{d:D}(h:(rs.map Rw.d)[i]?=some d):∃ r,rs[i]?=some r/\d=r.d:=by
 rw[JB]at h;cases e:rs[i]? with
 | none=>rw[e]at h;cases h
 | some r=>rw[e]at h;cases h;exact⟨r,rfl,rfl⟩
theorem key_at{rs:List Rw}{i:Nat}{d:D}(h:(rs.map Rw.key)[i]?=some d):∃ r,rs[i]?=some r/\d=r.key:=by
 rw[JB]at h;cases e:rs[i]? with
 | none=>rw[e]at h;cases h
 | some r=>rw[e]at h;cases h;exact⟨r,rfl,rfl⟩
theorem Bn(Z1 Z2 Z3 Z4 Z5:IW)(hw:HW)(G:Gp){vs base:List Rw}(hv:vs.Pairwise eK)(hb:base.length < 64)(sub:∀ r∈vs,r∈base):
  SortBy (aO Z1 Z2 Z3 Z4 Z5 hw) G (vs.map Rw.d) (vs.map Rw.key) fun i=>PySem.W.rankIn Rw.lt vs (vs.getD i default) where
 few:=by
  rw[IZ];have:=gj (mZ hv) sub;omega
 len:=by rw[IZ,IZ]
 key:=fun i d kd h1 h2=>by
  obtain⟨r,e1,rfl⟩:=zp h1;obtain⟨r',e2,rfl⟩:=key_at h2;rw[e1]at e2;cases e2;exact⟨r,rfl,rfl,rfl⟩
 ki:=fun d hd=>by
  obtain⟨r,_,rfl⟩:=mem_map.mp hd;exact⟨_,_,rfl⟩
 cp:=fun a ha b hb=>by
  obtain⟨r,_,rfl⟩:=mem_map.mp ha;obtain⟨r',_,rfl⟩:=mem_map.mp hb;exact EI r r'
 lt:=fun i j a b h1 h2=>by
  obtain⟨r,e1,rfl⟩:=key_at h1;obtain⟨r',e2,rfl⟩:=key_at h2;rw[EF,PySem.W.rank_lt zi (Js e1),Jn,Jn,e1,e2];rfl
theorem rA(Z1 Z2 Z3 Z4 Z5:IW)(hw:HW):bC (bY Z1 Z2 Z3 Z4 Z5 hw) (gf Z1 Z2 Z3 Z4 Z5 hw) ["rows","by_name","row"]:=by
 intro ds G Q h;unfold bY at h;split at h
 ·obtain⟨rs,base,⟨rfl,one,l1,l2,sub⟩,h⟩:=h;have hs:=av;unfold gf;rw[ag];walk_at "s1";intro p hp;rw[ag];walk_at "s1";refine⟨fun i σ G'=>∃ (vs:List Rw) (v:Option D),(σ=[some (.lst (rs.map Rw.d)),some (.ref p),v]/\G'=gset G p (.dT hw (vs.map mz)))/\vs.Pairwise eK/\∀ r,r∈vs↔r∈rs.take i,⟨[],none,⟨rfl,rfl⟩,.nil,by simp⟩,?_,?_⟩
  ·rintro i d σ G' hd ⟨vs,v,⟨rfl,rfl⟩,hv,hm⟩
   obtain⟨r,hr,rfl⟩:=zp hd;have hr':=Js hr;have tk:∀ x,x∈rs.take (i+1)↔x∈rs.take i\/x=r:=fun x=>by
    rw[Ke,hr,Mi];simp
   have lv:vs.length<=base.length:=gj (mZ hv) fun x hx=>sub x (KG ((hm x).mp hx));simp only[gN,JL,JA];have fin:∀ G2,G2=gset G p (.dT hw (cH (vs.map mz) (mP r) r.d))->∃ (vs:List Rw) (v:Option D),(([some (D.lst (rs.map Rw.d)),some (.ref p),some r.d]:gy)=[some (.lst (rs.map Rw.d)),some (.ref p),v]/\G2=gset G p (.dT hw (vs.map mz)))/\vs.Pairwise eK/\∀ x,x∈vs↔x∈rs.take (i+1):=by
    intro G2 e
    by_cases hin:r∈vs
    ·refine⟨vs,_,⟨rfl,?_⟩,hv,fun x=>?_⟩
     ·rw[e,D4 hin fun a ha pp nn=>one a (KG ((hm a).mp ha)) r hr' pp nn]
     ·rw[tk,hm];constructor
      ·exact .inl
      ·rintro (z|rfl)
       ·exact z
       ·exact (hm _).mp hin
    ·have ap:∀ a∈vs,eK a r:=fun a ha z=>hin (by
      have:=one a (KG ((hm a).mp ha)) r hr' z.1 z.2;subst this;exact ha)
     refine⟨vs ++ [r],_,⟨rfl,?_⟩,?_,fun x=>?_⟩
     ·rw[e,put_new ap]
     ·rw[LJ];exact⟨hv,List.pairwise_singleton _ _,fun a ha b hb=>by rw[mem_singleton.mp hb];exact ap a ha⟩
     ·rw[tk,Mi,hm,mem_singleton]
   refine (show ff hw (ab 1) (bS eT (ab 2) (eC (.int 0))) (ab 2) _ [some (D.lst (rs.map Rw.d)),some (.ref p),some r.d] _ from ?_)
   show (match (gset G p (.dT hw (vs.map mz))) p with
    | some (.dT hw' kvs)=>hw'=hw/\∃ ks,kj (.tup [.str r.pen,.int r.num])=some ks/\kvs.length < Jg/\_
    | some (.dK kvs)=>_
    | some (.lst ds)=>_
    | _=>False)
   rw[az];exact⟨rfl,mP r,rfl,by rw[IZ];omega,fin _ (by rw[eE];rfl)⟩
  ·rintro σ G' ⟨vs,v,⟨rfl,rfl⟩,hv,hm⟩
   rw[IZ,JR]at hm;show (match (gset G p (.dT hw (vs.map mz))) p with
    | some (.dT _ kvs)=>∃ ks r,SortBy (aO Z1 Z2 Z3 Z4 Z5 hw) (gset G p (.dT hw (vs.map mz))) (kvs.map (·.2)) ks r/\∀ p':List Nat,p'.Perm (List.range (kvs.map (·.2)).length)->(p'.map r).Pairwise (·<=·)->Q (.fl (p'.map fun i=>(kvs.map (·.2)).getD i .non)) (gset G p (.dT hw (vs.map mz)))
    | _=>False)
   rw[az];dsimp only;rw[Bh];refine⟨vs.map Rw.key,_,Bn Z1 Z2 Z3 Z4 Z5 hw _ hv l2 (fun r hr=>sub r ((hm r).mp hr)),fun q hq hsq=>?_⟩;rw[IZ]at hq;obtain⟨st,mem⟩:=y8 hv hq hsq;have e:(q.map fun i=>(vs.map Rw.d).getD i .non)=(q.map fun i=>vs.getD i default).map Rw.d:=by
    rw[JK];refine Kq fun i hi=>?_;have li:i < vs.length:=mem_range.mp (hq.mem_iff.mp hi);simp[li]
   rw[e];exact h _ _ (iQ.refl.gset hp) st fun r=>(mem r).trans (hm r)
 ·exact h.elim
theorem vz{sks:List Sk}:∀ {out:List Rw},(∀ r∈out,r∈sks.map Sk.rw)->∃ o:List Sk,out=o.map Sk.rw/\∀ s∈o,s∈sks
 | [],_=>⟨[],rfl,fun s hs=>by simp at hs⟩
 | r::t,h=>by
  obtain⟨o,e,ho⟩:=vz fun x hx=>h x (Jl _ hx);obtain⟨s,hs,er⟩:=mem_map.mp (h r Jk);refine⟨s::o,by rw[e,<- er];rfl,fun x hx=>?_⟩
  rcases Kg.mp hx with z|z
  ·rw[z];exact hs
  ·exact ho x z
theorem Act.d_inj{a b:Act}(h:a.d=b.d):a=b:=by
 have sl:∀ {xs ys:List Sl},xs.map Sl.d=ys.map Sl.d->xs=ys:=fun {xs ys} e=>List.map_inj_right (f:=Sl.d) (fun x y=>Sl.d_inj) |>.mp e
 have ne:∀ {x y:String},I_ x≠I_ y->D.str (I_ x)≠D.str (I_ y):=fun h z=>h (by injection z)
 cases a<;>cases b<;>simp only[Act.d,D.tup.injEq,List.cons.injEq,D.str.injEq,and_true,true_and,reduceCtorEq,and_false,false_and]at h
 ·obtain⟨h1,h2⟩:=h;rw[Sl.d_inj h1,h2]
 all_goals first
  | (exact absurd h (by decide +kernel))
  | (exact absurd h.1 (by decide +kernel))
  | skip
 ·rw[sl h]
 ·rw[sl h.1,h.2]
 ·rw[sl h.1,Sl.d_inj h.2]
theorem Sk.rw_inj{a b:Sk}(h:a.rw=b.rw):a=b:=by
 obtain⟨a1,a2,a3,a4⟩:=a;obtain⟨b1,b2,b3,b4⟩:=b;simp only[Sk.rw,Rw.mk.injEq]at h;obtain⟨rfl,rfl,rfl,h⟩:=h;rw[Act.d_inj h]
theorem o0(Z1 Z2 Z3 Z4 Z5:IW)(hw:HW){σ:gy}{G:Gp}{p:IW}{s:Sk}{i:Nat}{Q:pC}(hσ:σ[i]?=some (some (.ref p)))(hG:G p=some (cj Z1 Z2 Z3 Z4 Z5 s))(h:Q s.act.anch.d G):gn [Z1,Z2,Z3,Z4,Z5] "anchor" (ab i) σ G Q:=by
 obtain⟨pen,num,time,act⟩:=s;unfold gn ab;rw[hσ];cases act<;>(simp only[cj]at hG;simp only[hG];refine⟨by simp,?_⟩;first|exact h)
theorem i0(Z1 Z2 Z3 Z4 Z5:IW)(hw:HW){σ:gy}{G:Gp}{p:IW}{s:Sk}{i:Nat}{Q:pC}(hσ:σ[i]?=some (some (.ref p)))(hG:G p=some (cj Z1 Z2 Z3 Z4 Z5 s))(hm:s.act.many<=1000)(h:Q (.fl ((made s).map Sl.d)) G):
  fQ [(Z1,ai Z1 Z2 Z3 Z4 Z5 hw),(Z2,aS Z1 Z2 Z3 Z4 Z5 hw),(Z3,ai Z1 Z2 Z3 Z4 Z5 hw),(Z4,ai Z1 Z2 Z3 Z4 Z5 hw),(Z5,aL Z1 Z2 Z3 Z4 Z5 hw)] "slots" [] (ab i) aB σ G Q:=by
 obtain⟨pen,num,time,act⟩:=s;unfold fQ ab;rw[hσ];cases act with
 | put a x=>
  have hG':=hG;simp only[cj]at hG;simp only[hG];exact⟨by decide +kernel,aS Z1 Z2 Z3 Z4 Z5 hw,by simp,⟨_,a,x,⟨rfl,hG',hm⟩,h⟩⟩
 | strike ns=>
  simp only[cj]at hG;simp only[hG];exact⟨by decide +kernel,ai Z1 Z2 Z3 Z4 Z5 hw,by simp,h⟩
 | dress ns w=>
  simp only[cj]at hG;simp only[hG];exact⟨by decide +kernel,ai Z1 Z2 Z3 Z4 Z5 hw,by simp,h⟩
 | move ns a=>
  have hG':=hG;simp only[cj]at hG;simp only[hG];exact⟨by decide +kernel,aL Z1 Z2 Z3 Z4 Z5 hw,by simp,⟨_,a,ns,⟨rfl,hG',hm⟩,h⟩⟩
def A4(Z1 Z2 Z3 Z4 Z5:IW)(G:Gp)(ps:List IW)(o:List Sk):Prop:=∀ (j:Nat) p s,ps[j]?=some p->o[j]?=some s->G p=some (cj Z1 Z2 Z3 Z4 Z5 s)
theorem qx(Z1 Z2 Z3 Z4 Z5:IW)(s:Sk):∃ C L ds,cj Z1 Z2 Z3 Z4 Z5 s=.ins C L ds:=by
 obtain⟨pen,num,time,act⟩:=s;cases act<;>exact⟨_,_,_,rfl⟩
theorem kN(n:Nat):∀ (o:List Sk) (W:List Sl),(∀ s∈o,s.act.many<=1000)->(o.foldl bW W).length<=W.length+1000*o.length
 | [],W,_=>by simp
 | s::t,W,h=>by
  have h1:=h s Jk;have ih:=kN n t (bW W s) fun x hx=>h x (Jl _ hx);have h2:(bW W s).length<=W.length+1000:=by
   unfold bW;split
   ·rename_i ha;rw[jT ha];have:(made s).length=s.act.many:=aY _ _ _;omega
   ·omega
  simp only[L0,Jv];omega
def IH(Z1 Z2 Z3 Z4 Z5:IW)(hw:List aQ->Int)(G:Gp)(f:IW)(ps:List IW)(o:List Sk)(n:Nat)(x0 x1:Option D)(i:Nat)(σ:gy)(G':Gp):Prop:=∃ (x3:Option D) (kvs:List (List aQ×D)),σ=[x0,x1,some (.ref f),x3]/\iQ G G'/\A4 Z1 Z2 Z3 Z4 Z5 G' ps o/\G' f=some (.dT hw kvs)/\yD kvs (j4 n (o.take i))
theorem rq(Z1 Z2 Z3 Z4 Z5:IW)(hw:HW):bC (bX Z1 Z2 Z3 Z4 Z5 hw) (gc Z1 Z2 Z3 Z4 Z5 hw) ["old","strokes","following","stroke"]:=by
 intro ds G Q h;unfold bX at h;split at h
 ·rename_i x xs;obtain⟨sks,base,⟨rfl,hx,one,l1,l2,sub,ok⟩,h⟩:=h;have hs:=av;unfold gc;rw[ag];show ∀ f,G f=none->(match gset G f (.dT hw []) f with|some (.dT hw' [])=>hw'=hw/\∃ ks,kj ay.d=some ks/\_|_=>False)
  intro f hf;rw[az];refine⟨rfl,ay.key,rfl,?_⟩;rw[eE];dsimp only;rw[ag];simp only[JL,JA,iq,Jz,Nj,LV,KY,List.replicate,Jv,JU,Nat.reduceAdd,Nat.reduceSub];show x.length<=1000/\(∃ (b:Sl) (ss W:List Sl) (kvs:List (List aQ×D)),(ay.d=b.d/\(cR x.length).map Sl.d=ss.map Sl.d/\gset G f (.dT hw [(ay.key,.non)]) f=some (.dT hw kvs)/\yD kvs W/\b∈W/\ss.Nodup/\(∀ x∈ss,x∉W)/\W.length+ss.length<=900000)/\∀ Ra,yD Ra (bz W b ss)->_)
  have ol:(cR x.length).length=x.length:=aY _ _ _;refine⟨hx,ay,cR x.length,[ay],_,⟨rfl,rfl,az,yi (fun _=>True),by simp,d6 _ _ _,fun y hy hW=>?_,by rw[ol];simp;omega⟩,fun kvs hF=>?_⟩
  ·obtain⟨_,_,hk⟩:=bJ hy;rw[mem_singleton.mp hW]at hk;exact absurd hk (by decide)
  ·rw[eE];dsimp only;rw[ag];walk_at "s1";refine⟨sks.map Sk.rw,base.map Sk.rw,⟨by rw[JK];rfl,one,by rw[IZ];exact l1,by rw[IZ];exact l2,fun r hr=>?_⟩,fun out G1 hE st mem=>?_⟩
   ·obtain⟨s,hs',rfl⟩:=mem_map.mp hr;exact mem_map.mpr ⟨s,sub s hs',rfl⟩
   obtain⟨o,rfl,ho⟩:=vz (sks:=sks) (out:=out) fun r hr=>(mem r).mp hr;have memo:∀ s,s∈o↔s∈sks:=fun s=>⟨ho s,fun hs'=>by
    obtain⟨s',h1,h2⟩:=mem_map.mp ((mem s.rw).mpr (mem_map.mpr ⟨s,hs',rfl⟩));rw[<- Sk.rw_inj h2];exact h1⟩
   have lo:o.length < 64:=by
    have:=gj (fj st) (ys:=base.map Sk.rw) fun r hr=>by
     obtain⟨s,hs',rfl⟩:=mem_map.mp hr;exact mem_map.mpr ⟨s,sub s (ho s hs'),rfl⟩
    rw[IZ,IZ]at this;omega
   have hG1:G1 f=some (.dT hw kvs):=hE f _ az;have hE1:iQ G G1:=fun a o' ha=>hE a o' (by
    have:a≠f:=fun z=>by subst z;rw[hf]at ha;cases ha
    rw[aK this];exact ha)
   have dmap:(o.map Sk.rw).map Rw.d=o.map Sk.d:=by rw[JK];rfl
   rw[dmap];refine⟨by rw[IZ];omega,fun i acc G2=>∃ ps:List IW,ps.length=i/\acc=ps.map D.ref/\iQ G1 G2/\A4 Z1 Z2 Z3 Z4 Z5 G2 ps o,⟨[],rfl,rfl,iQ.refl,fun j p s hj=>by simp at hj⟩,?_,?_⟩
   ·rintro i d acc G2 hd ⟨ps,rfl,rfl,hE2,hO⟩
    rw[JB]at hd;cases hsj:o[ps.length]? with
    | none=>rw[hsj]at hd;cases hd
    | some s=>
     rw[hsj]at hd;cases hd;refine⟨⟨by simp,rfl⟩,?_⟩
     show ∃ s':Sk,s.d=s'.d/\∀ p,G2 p=none->_
     refine⟨s,rfl,fun p hp=>⟨ps ++ [p],by simp,by rw[J0];rfl,fun a o' ha=>?_,fun j q s' hj hs'=>?_⟩⟩
     ·have:a≠p:=fun z=>by subst z;rw[hE2 a o' ha]at hp;cases hp
      rw[aK this];exact hE2 a o' ha
     ·rw[List.getElem?_append]at hj;split at hj
      ·have h1:=hO j q s' hj hs';have:q≠p:=fun z=>by subst z;rw[h1]at hp;cases hp
       rw[aK this];exact h1
      ·rename_i hge;have hj0:j=ps.length:=by
        by_cases z:j - ps.length=0
        ·omega
        ·obtain⟨k,hk⟩:∃ k,j - ps.length=k+1:=⟨j - ps.length - 1,by walk_at "o"⟩
         rw[hk]at hj;simp at hj
       subst hj0;simp at hj;subst hj;rw[hsj]at hs';cases hs';exact az
   ·rintro acc G2 ⟨ps,hl,rfl,hE2,hO⟩
    rw[IZ]at hl;show L3.ForIn _ _ _ _ (ps.map D.ref) G2
    refine⟨IH Z1 Z2 Z3 Z4 Z5 hw G f ps o x.length (some (.str x)) (some (.lst (sks.map Sk.d))),⟨_,kvs,rfl,hE1.trans hE2,hO,hE2 f _ hG1,hF⟩,?_,?_⟩
    ·rintro i d σ G3 hd ⟨x3,kvs3,rfl,hE3,hO3,hf3,hF3⟩
     rw[JB]at hd;cases hpj:ps[i]? with
     | none=>rw[hpj]at hd;cases hd
     | some p=>
      rw[hpj]at hd;cases hd;have hil:i < o.length:=by have:=(List.getElem?_eq_some_iff.mp hpj).1;omega
      have hsi:o[i]?=some o[i]:=Jb hil;have Q9:=hO3 i p _ hpj hsi;have oks:=ok o[i] (ho _ (K6 hil));have tk:o.take (i+1)=o.take i ++ [o[i]]:=by rw[Ke,hsi];rfl
      have fr:td (o.take i) (j4 x.length (o.take i)):=by
       have:=uJ x.length (o.take i) [] _ (km x.length)
       simpa[j4]using this
      have apart:∀ r∈o.take i,¬ (r.pen=(o[i]).pen/\r.num=(o[i]).num):=fun r hr z=>by
       obtain⟨j,hj,er⟩:=mem_iff_getElem.mp hr;rw[JN]at hj;rw[Lz]at er;have hji:j < i:=by walk_at "o"
       have st':∀ a b:Nat,(ha:a < (o.map Sk.rw).length)->(hb:b < (o.map Sk.rw).length)->a < b->((o.map Sk.rw)[a]).lt (o.map Sk.rw)[b]=true:=fun a b ha hb hab=>pairwise_iff_getElem.mp st a b ha hb hab;have:=st' j i (by rw[IZ];omega) (by rw[IZ];omega) hji
       rw[List.getElem_map,List.getElem_map,er]at this;have UC:=one (o[i]).rw (mem_map.mpr ⟨_,ho _ (K6 hil),rfl⟩) r.rw (mem_map.mpr ⟨_,ho _ (er ▸ K6 (by walk_at "o")),rfl⟩) z.1.symm z.2.symm
       rw[UC,lt_irrefl]at this;cases this
      have fresh:=oX fr oks.1 apart;have wl:=kN x.length (o.take i) (bz [ay] ay (cR x.length)) fun s hs'=>(ok s (ho s (KG hs'))).2;rw[cn]at wl;have wl2:(j4 x.length (o.take i)).length<=100000:=by
       have e1:j4 x.length (o.take i)=(o.take i).foldl bW (ay::cR x.length):=by unfold j4;rw[cn]
       rw[e1];rw[JN,Jv,ol]at wl;omega
      generalize o[i]=s at *
      simp only[gN,JL,JA];have nf:f≠p:=fun z=>by subst z;obtain⟨C,L,ds,e⟩:=qx Z1 Z2 Z3 Z4 Z5 s;rw[hf3,e]at Q9;cases Q9
      refine bf (decide (s.act.anch∈j4 x.length (o.take i))) (fun K hK=>?_) (Aw (fun hin=>?_) fun VN=>?_)
      ·unfold dW sI;refine o0 Z1 Z2 Z3 Z4 Z5 hw (p:=p) (i:=3) rfl Q9 ?_;show ∃ r,cG hw G3 (.ref f) s.act.anch.d r/\_
       refine⟨eL kvs3 s.act.anch.key,?_,?_⟩
       ·show (match G3 f with|some (.dT hw' kvs)=>hw'=hw/\∃ ks,kj s.act.anch.d=some ks/\eL kvs3 s.act.anch.key=eL kvs ks|some (.dK kvs)=>_|_=>False)
        rw[hf3];exact⟨rfl,_,rfl,rfl⟩
       ·have e1:(eL kvs3 s.act.anch.key).isSome=decide (s.act.anch∈j4 x.length (o.take i)):=by
         by_cases z:s.act.anch∈j4 x.length (o.take i)
         ·rw[hF3.2.2.2 _ z,decide_eq_true z];rfl
         ·rw[hF3.2.2.1 _ z,decide_eq_false z];rfl
        rw[e1];exact hK
      ·have S8:=of_decide_eq_true hin;simp only[gT,bB,af,aB,ab,J2,J3];refine o0 Z1 Z2 Z3 Z4 Z5 hw (p:=p) (i:=3) rfl Q9 ?_;refine i0 Z1 Z2 Z3 Z4 Z5 hw (p:=p) (i:=3) rfl Q9 oks.2 ?_;have lm:(made s).length=s.act.many:=aY _ _ _;have lm2:=oks.2;show ∃ (b:Sl) (ss W:List Sl) (kvs:List (List aQ×D)),(s.act.anch.d=b.d/\(made s).map Sl.d=ss.map Sl.d/\G3 f=some (.dT hw kvs)/\yD kvs W/\b∈W/\ss.Nodup/\(∀ x∈ss,x∉W)/\W.length+ss.length<=900000)/\∀ Ra,yD Ra (bz W b ss)->_
       refine⟨s.act.anch,made s,_,kvs3,⟨rfl,rfl,hf3,hF3,S8,d6 _ _ _,fresh,by walk_at "o"⟩,fun Ra hF'=>?_⟩
       refine⟨_,Ra,rfl,fun a o' ha=>?_,fun j q s' hj hs'=>?_,az,?_⟩
       ·have:a≠f:=fun z=>by subst z;rw[hf]at ha;cases ha
        rw[aK this];exact hE3 a o' ha
       ·have h1:=hO3 j q s' hj hs';have:q≠f:=fun z=>by subst z;obtain⟨C,L,ds,e⟩:=qx Z1 Z2 Z3 Z4 Z5 s';rw[hf3,e]at h1;cases h1
        rw[aK this];exact h1
       ·rw[tk,qv];unfold bW;rw[if_pos S8];exact hF'
      ·have S4:=of_decide_eq_false VN;simp only[dA];refine⟨_,kvs3,rfl,hE3,hO3,hf3,?_⟩;rw[tk,qv];unfold bW;rw[if_neg S4];exact hF3
    ·rintro σ G3 ⟨x3,kvs3,rfl,hE3,hO3,hf3,hF3⟩
     rw[IZ,hl,JR]at hF3;rw[iW]at hF3;show ∃ (R:List Sl) (kvs:List (List aQ×D)),(G3 f=some (.dT hw kvs)/\yD kvs (ay::R)/\R.length<=900000)/\_
     refine⟨aE x.length o,kvs3,⟨hf3,hF3,?_⟩,h o G3 hE3 st memo⟩;have wl:=kN x.length o (bz [ay] ay (cR x.length)) fun s hs'=>(ok s (ho s hs')).2;have e1:o.foldl bW (bz [ay] ay (cR x.length))=ay::aE x.length o:=iW x.length o;rw[e1,cn,Jv,Jv,ol]at wl;omega
 ·exact h.elim
theorem jz(s:Sk):s.act.many<=s.wd:=by
 obtain⟨pen,num,time,act⟩:=s;cases act<;>first|exact le_refl _|exact JQ _
theorem vC(Z1 Z2 Z3 Z4 Z5:IW)(hw:HW):bC (cK Z1 Z2 Z3 Z4 Z5 hw) (iM Z1 Z2 Z3 Z4 Z5 hw) ["keys"]:=by
 intro ds G Q h;unfold cK at h;split at h
 ·rename_i xs;have hs:=av;unfold iM;rcases h with ⟨ss,⟨rfl,hl⟩,h⟩|⟨ns,⟨rfl,hl⟩,h⟩
  ·walk_at "s1";refine cU (fun d=>.tup [d,.bl true]) (by rw[IZ];omega) (fun d hd P hP=>?_) ?_
   ·obtain⟨s,hs',rfl⟩:=mem_map.mp hd;unfold Sl.d;walk_at "st";exact⟨rfl,by walk_at "o",hP _ rfl⟩
   ·dsimp only;refine⟨aM (fun _=>.bl true) (ss.map fun s=>(s,())),⟨?_,by unfold aM;rw[IZ,IZ];exact hl⟩,fun p hp=>?_⟩
    ·unfold aM;rw[JK,JK,JK];rfl
    ·rw[pc];exact h p hp
  ·walk_at "s1";refine cU (fun d=>.tup [d,.bl true]) (by rw[IZ];omega) (fun d hd P hP=>?_) ?_
   ·obtain⟨s,hs',rfl⟩:=mem_map.mp hd;unfold Nm.d;walk_at "st";exact⟨rfl,by walk_at "o",hP _ rfl⟩
   ·dsimp only;refine⟨ns.map fun n=>(n.key,.bl true),⟨?_,by rw[IZ];exact hl⟩,fun p hp=>h p hp⟩
    rw[JK,JK];rfl
 ·exact h.elim
theorem i3(Z1 Z2 Z3 Z4 Z5:IW)(hw:HW){G:Gp}{p:IW}{α:Type}{f:α->D}{l:List (Sl×α)}(x:Sl)(hG:G p=some (.dT hw (aM f l))):cG hw G (.ref p) x.d ((b8 l x).map f):=by
 unfold cG;dsimp only;rw[hG];exact⟨rfl,x.key,rfl,(sY f x l).symm⟩
theorem pI(Z1 Z2 Z3 Z4 Z5:IW)(hw:HW):bC (b9 Z1 Z2 Z3 Z4 Z5 hw) (fo Z1 Z2 Z3 Z4 Z5 hw) ["stroke","in_row"]:=by
 intro ds G Q h;unfold b9 at h;split at h
 ·rename_i a p;obtain⟨s,row,⟨hG,hw',hp⟩,h⟩:=h;have hs:=av;have mw:=jz s;unfold fo;unfold dS eB af aB dm dU;refine i0 Z1 Z2 Z3 Z4 Z5 hw (p:=a) (i:=0) (s:=s) rfl hG (by walk_at "o") ?_
  dsimp only[il];have lm:(made s).length=s.act.many:=aY _ _ _;refine cU (fun d=>match d with|.tup [.str q,.int n,.int k]=>.bl (b8 row ⟨q,n,k⟩).isSome|d=>d) (by rw[IZ,lm];omega) (fun d hd P hP=>?_) ?_
  ·obtain⟨x,hx,rfl⟩:=mem_map.mp hd;refine⟨⟨by simp[iq],rfl⟩,?_⟩
   show ∃ r,cG hw G (.ref p) x.d r/\P (.bl r.isSome) G
   refine⟨_,i3 Z1 Z2 Z3 Z4 Z5 hw x hp,hP _ ?_⟩;show D.bl ((b8 row x).map _).isSome=D.bl (b8 row x).isSome
   rw[Option.isSome_map]
  ·show ∃ bs:List Bool,qR G (val _)=some (bs.map D.bl)/\_;refine⟨(made s).map fun x=>(b8 row x).isSome,?_,?_⟩
   ·show some _=some _;congr 1;rw[JK,JK];rfl
   ·rw[List.all_map];exact h
 ·exact h.elim
theorem B7{ns:List Nm}(n:Nm):(eL (dictOf (ns.map fun n=>(n.key,D.bl true))) n.key).isSome=decide (n∈ns):=by
 unfold dictOf;have key_inj:∀ {a b:Nm},a.key=b.key->a=b:=fun {a b} h=>by
  obtain⟨a1,a2⟩:=a;obtain⟨b1,b2⟩:=b;simp only[Nm.key,List.cons.injEq,Sum.inr.injEq,Sum.inl.injEq,and_true]at h;obtain⟨rfl,rfl⟩:=h;rfl
 suffices H:∀ l:List (List aQ×D),(eL ((ns.map fun n=>(n.key,D.bl true)).foldl (fun a kv=>cH a kv.1 kv.2) l) n.key).isSome=((eL l n.key).isSome || decide (n∈ns)) by
  have:=H []
  simpa[eL]using this
 induction ns with
 | nil=>intro l;simp
 | cons m r ih=>
  intro l;rw[Jz,L0,ih,i_]
  by_cases e:n=m
  ·subst e;simp
  ·rw[if_neg (fun z=>e (key_inj z))];simp[e]
theorem iE.ext{Z1 Z2 Z3 Z4 Z5:IW}{G G':Gp}{ps:List IW}{o:List Sk}(h:iE Z1 Z2 Z3 Z4 Z5 G ps o)(e:iQ G G'):iE Z1 Z2 Z3 Z4 Z5 G' ps o:=⟨h.1,fun j p s hp hs=>e _ _ (h.2 j p s hp hs)⟩
theorem iE.nil{Z1 Z2 Z3 Z4 Z5:IW}{G:Gp}:iE Z1 Z2 Z3 Z4 Z5 G [] []:=⟨rfl,fun j p s hp=>by simp at hp⟩
theorem iE.add{Z1 Z2 Z3 Z4 Z5:IW}{G:Gp}{ps:List IW}{o:List Sk}{p:IW}{s:Sk}(h:iE Z1 Z2 Z3 Z4 Z5 G ps o)(hp:G p=some (cj Z1 Z2 Z3 Z4 Z5 s)):iE Z1 Z2 Z3 Z4 Z5 G (ps ++ [p]) (o ++ [s]):=by
 obtain⟨hl,h⟩:=h;refine⟨by simp[hl],fun j q t hq ht=>?_⟩
 rw[List.getElem?_append]at hq ht;split at hq
 ·rename_i hj;rw[if_pos (by walk_at "o")]at ht
  exact h j q t hq ht
 ·rename_i hj;rw[if_neg (by walk_at "o")]at ht
  have hj0:j - ps.length=0:=by
   by_cases z:j - ps.length=0
   ·exact z
   ·obtain⟨k,hk⟩:∃ k,j - ps.length=k+1:=⟨j - ps.length - 1,by walk_at "o"⟩
    rw[hk]at hq;simp at hq
  rw[hj0]at hq;rw[show j - o.length=0 by walk_at "o"]at ht
  simp only[J2,Option.some.injEq]at hq ht;subst hq ht;exact hp
theorem B9(row:List Sl)(x:Sl):(b8 (aW [] (row.map fun s=>(s,()))) x).isSome=decide (x∈row):=by
 suffices H:∀ l:List (Sl×Unit),(b8 (aW l (row.map fun s=>(s,()))) x).isSome=((b8 l x).isSome || decide (x∈row)) by
  have:=H []
  simpa[b8]using this
 induction row with
 | nil=>intro l;simp[aW]
 | cons m r ih=>
  intro l;show (b8 (aW (iw l m ()) (r.map fun s=>(s,()))) x).isSome=_
  rw[ih,sZ]
  by_cases e:x=m
  ·subst e;simp
  ·rw[if_neg e];simp[e]
theorem iE.snoc{Z1 Z2 Z3 Z4 Z5:IW}{G:Gp}{ps:List IW}{o:List Sk}{p:IW}{s:Sk}(h:iE Z1 Z2 Z3 Z4 Z5 G ps o)(hp:G p=none):iE Z1 Z2 Z3 Z4 Z5 (gset G p (cj Z1 Z2 Z3 Z4 Z5 s)) (ps ++ [p]) (o ++ [s]):=
 (h.ext (iQ.refl.gset hp)).add az
theorem pJ(Z1 Z2 Z3 Z4 Z5:IW)(hw:HW):bC (b_ Z1 Z2 Z3 Z4 Z5 hw) (fq Z1 Z2 Z3 Z4 Z5 hw) ["strokes","standing","in_row","stands","chosen"]:=by
 intro ds G Q h;unfold b_ at h;split at h
 ·rename_i xs ns p;obtain⟨sks,base,names,row,⟨rfl,one,l1,l2,sub,wd,rfl,l3,hG⟩,h⟩:=h;have hs:=av;unfold fq;rw[ag];walk_at "s1";refine .inr ⟨names,⟨rfl,l3⟩,fun q hq=>?_⟩;have hpq:p≠q:=fun z=>by subst z;rw[hG]at hq;cases hq
  rw[ag];have g1:gset G q (.dT hw (dictOf (names.map fun n=>(n.key,.bl true)))) q=some (.dT hw (dictOf (names.map fun n=>(n.key,.bl true)))):=az;have g2:iQ G (gset G q (.dT hw (dictOf (names.map fun n=>(n.key,.bl true))))):=iQ.refl.gset hq;generalize gset G q (.dT hw (dictOf (names.map fun n=>(n.key,.bl true))))=G1 at g1 g2;walk_at "s1";refine⟨sks.map Sk.rw,base.map Sk.rw,⟨by rw[JK];rfl,one,by rw[IZ];exact l1,by rw[IZ];exact l2,fun r hr=>?_⟩,fun out G2 hE st mem=>?_⟩
  ·obtain⟨s,hs',rfl⟩:=mem_map.mp hr;exact mem_map.mpr ⟨s,sub s hs',rfl⟩
  obtain⟨o,rfl,ho⟩:=vz (sks:=sks) (out:=out) fun r hr=>(mem r).mp hr;have memo:∀ s,s∈o↔s∈sks:=fun s=>⟨ho s,fun hs'=>by
   obtain⟨s',h1,h2⟩:=mem_map.mp ((mem s.rw).mpr (mem_map.mpr ⟨s,hs',rfl⟩));rw[<- Sk.rw_inj h2];exact h1⟩
  have lo:o.length < 64:=by
   have:=gj (fj st) (ys:=base.map Sk.rw) fun r hr=>by
    obtain⟨s,hs',rfl⟩:=mem_map.mp hr;exact mem_map.mpr ⟨s,sub s (ho s hs'),rfl⟩
   rw[IZ,IZ]at this;omega
  have dmap:(o.map Sk.rw).map Rw.d=o.map Sk.d:=by rw[JK];rfl
  rw[dmap];refine⟨by rw[IZ];omega,fun i acc G3=>∃ ps:List IW,acc=ps.map D.ref/\iQ G2 G3/\iE Z1 Z2 Z3 Z4 Z5 G3 ps ((o.take i).filter fun s=>decide (s.nm∈names)),⟨[],rfl,iQ.refl,by simpa using iE.nil⟩,?_,?_⟩
  ·rintro i d acc G3 hd ⟨ps,rfl,hE3,hO⟩
   rw[JB]at hd;cases hsj:o[i]? with
   | none=>rw[hsj]at hd;cases hd
   | some s=>
    rw[hsj]at hd;cases hd;have tk:(o.take (i+1)).filter (fun s=>decide (s.nm∈names))=(o.take i).filter (fun s=>decide (s.nm∈names)) ++ (if s.nm∈names then [s]else []):=by
     rw[Ke,hsj,List.filter_append]
     by_cases e:s.nm∈names
     ·rw[if_pos e];simp[e]
     ·rw[if_neg e];simp[e]
    refine⟨⟨by simp,rfl⟩,?_⟩
    show ∃ r,cG hw G3 (.ref q) s.nm.d r/\(match D.bl r.isSome with|.bl b=>_|_=>False)
    refine⟨eL (dictOf (names.map fun n=>(n.key,D.bl true))) s.nm.key,?_,?_⟩
    ·unfold cG;dsimp only;rw[hE3 q _ (hE q _ g1)];exact⟨rfl,_,rfl,rfl⟩
    ·rw[B7];dsimp only
     by_cases e:s.nm∈names
     ·rw[decide_eq_true e,if_pos rfl];show ∃ s':Sk,s.d=s'.d/\∀ p,G3 p=none->_
      refine⟨s,rfl,fun r hr=>⟨ps ++ [r],by rw[J0];rfl,fun a o' ha=>?_,?_⟩⟩
      ·have:a≠r:=fun z=>by subst z;rw[hE3 a o' ha]at hr;cases hr
       rw[aK this];exact hE3 a o' ha
      ·rw[tk,if_pos e];exact hO.snoc hr
     ·rw[decide_eq_false e,if_neg Bool.false_ne_true];refine⟨ps,rfl,hE3,?_⟩;rw[tk,if_neg e,Kl];exact hO
  ·rintro acc G3 ⟨ps,rfl,hE3,hO⟩
   rw[IZ,JR]at hO;dsimp only[val];have hE4:iQ G G3:=g2.trans (hE.trans hE3);generalize hfl:o.filter (fun s=>decide (s.nm∈names))=ws at hO;have TK:∀ s∈ws,s∈o:=fun s hs'=>by rw[<- hfl]at hs';exact (OD.mp hs').1
   have lw:ws.length<=o.length:=by rw[<- hfl];exact La _ _
   have hl:=hO.1;show (_<=Jg)/\_
   refine⟨by rw[IZ];omega,fun i acc G4=>∃ qs:List IW,acc=qs.map D.ref/\G4=G3/\iE Z1 Z2 Z3 Z4 Z5 G3 qs ((ws.take i).filter (gv row)),⟨[],rfl,rfl,by simpa using iE.nil⟩,?_,?_⟩
   ·rintro i d acc G4 hd ⟨qs,rfl,rfl,hQ⟩
    rw[JB]at hd;cases hpi:ps[i]? with
    | none=>rw[hpi]at hd;cases hd
    | some a=>
     rw[hpi]at hd;cases hd;have hi:i < ws.length:=by have:=(List.getElem?_eq_some_iff.mp hpi).1;omega
     have hwi:ws[i]?=some ws[i]:=Jb hi;have hob:=hO.2 i a _ hpi hwi;refine⟨⟨by simp,rfl⟩,?_⟩
     have tk:(ws.take (i+1)).filter (gv row)=(ws.take i).filter (gv row) ++ (if gv row ws[i]=true then [ws[i]]else []):=by
      rw[Ke,hwi,List.filter_append]
      by_cases e:gv row ws[i]=true
      ·rw[if_pos e];simp[e]
      ·rw[if_neg e];simp[e]
     have hgp:G4 p=some (.dT hw (aM (fun _=>.bl true) (aW [] (row.map fun s=>(s,()))))):=hE4 p _ hG;have pe:(made ws[i]).all (fun x=>(b8 (aW [] (row.map fun s=>(s,()))) x).isSome)=gv row ws[i]:=by
      unfold gv;congr 1;funext x;exact B9 row x
     refine⟨_,_,⟨hob,wd _ (ho _ (TK _ (K6 hi))),hgp⟩,?_⟩;rw[pe];show True/\_
     refine⟨trivial,?_⟩;dsimp only
     by_cases e:gv row ws[i]=true
     ·rw[if_pos e];exact⟨qs ++ [a],by rw[J0];rfl,rfl,by rw[tk,if_pos e];exact hQ.add hob⟩
     ·rw[if_neg e];exact⟨qs,rfl,rfl,by rw[tk,if_neg e,Kl];exact hQ⟩
   ·rintro acc G4 ⟨qs,rfl,rfl,hQ⟩
    rw[IZ,hl,JR]at hQ;refine h o qs _ hE4 st memo ?_;unfold aH;rw[hfl];exact hQ
 ·exact h.elim
theorem rh{hw:HW}{α:Type}{f:α->D}{l:List (Sl×α)}{G:Gp}{p:IW}{x:Sl}{w:α}{K:Gp->Prop}(hG:G p=some (.dT hw (aM f l)))(hl:l.length < Jg)(h:K (gset G p (.dT hw (aM f (iw l x w))))):mN hw (.ref p) x.d (f w) G K:=by
 unfold mN;dsimp only;rw[hG];exact⟨rfl,x.key,rfl,by unfold aM;rw[IZ];exact hl,by rw[kT];exact h⟩
theorem nT{α:Type}{σ:List α}{a:Nat}(h:a < σ.length):σ.set a σ[a]=σ:=List.set_getElem_self h
theorem Dg{hw:HW}{α:Type}{f:α->D}(hf:∀ v,val (f v)=f v){m l:List (Sl×α)}{a b d:Nat}{σ:gy}{G:Gp}{p:IW}{E:Ends3}(hab:a≠b)(had:a≠d)(hbd:b≠d)(ha:a < σ.length)(hb:b < σ.length)(hσ:σ[d]?=some (some (.ref p)))(hl:l.length+m.length < Jg)
  (h:∀ u v,E.nx ((σ.set a u).set b v) (gset G p (.dT hw (aM f (aW l m))))):ForIn (jU 2 (cI (gN a) (cI (gN b) jb))) (ff hw (ab d) (ab a) (ab b)) E σ (m.map fun q=>.tup [q.1.d,f q.2]) (gset G p (.dT hw (aM f l))):=by
 refine⟨fun i σ' G'=>∃ u v,σ'=(σ.set a u).set b v/\G'=gset G p (.dT hw (aM f (aW l (m.take i)))),⟨σ[a],σ[b],by rw[nT ha,nT hb],rfl⟩,?_,?_⟩
 ·rintro i dd σ' G' hd ⟨u,v,rfl,rfl⟩
  rw[JB]at hd;cases hq:m[i]? with
  | none=>rw[hq]at hd;cases hd
  | some q=>
   rw[hq]at hd;cases hd;have hi:=(List.getElem?_eq_some_iff.mp hq).1;have tk:m.take (i+1)=m.take i ++ [q]:=by rw[Ke,hq];rfl
   unfold jU cI jb gN;refine⟨rfl,?_⟩;show ff hw (ab d) (ab a) (ab b) _ ((((σ.set a u).set b v).set a (some q.1.d)).set b (some (f q.2))) _
   have e0:(((σ.set a u).set b v).set a (some q.1.d)).set b (some (f q.2))=(σ.set a (some q.1.d)).set b (some (f q.2)):=by
    rw[List.set_comm _ _ (Ne.symm hab),List.set_set,List.set_set]
   rw[e0];have s1:((σ.set a (some q.1.d)).set b (some (f q.2)))[b]?=some (some (f q.2)):=by rw[List.getElem?_set_self (by rw[List.length_set];exact hb)]
   have s2:((σ.set a (some q.1.d)).set b (some (f q.2)))[a]?=some (some q.1.d):=by rw[Lm (Ne.symm hab),List.getElem?_set_self ha]
   have s3:((σ.set a (some q.1.d)).set b (some (f q.2)))[d]?=some (some (.ref p)):=by rw[Lm hbd,Lm had];exact hσ
   unfold ff ab;rw[s1,s2,s3];dsimp only;rw[hf];have pl:=dj (m.take i) l;rw[JN]at pl;refine rh (x:=q.1) az (by walk_at "o") ⟨_,_,rfl,?_⟩
   rw[eE,tk,hJ]
 ·rintro σ' G' ⟨u,v,rfl,rfl⟩
  rw[IZ,JR];exact h u v
theorem Dh{hw:HW}{α:Type}{f:α->D}{w:α}(hf:val (f w)=f w){ns:List Sl}{l:List (Sl×α)}{a d:Nat}{σ:gy}{G:Gp}{p:IW}{E:Ends3}{te:bP}(had:a≠d)(ha:a < σ.length)(hσ:σ[d]?=some (some (.ref p)))(hl:l.length+ns.length < Jg)
  (ht:∀ u l (K:pC),K (f w) (gset G p (.dT hw (aM f l)))->te (σ.set a u) (gset G p (.dT hw (aM f l))) K)
  (h:∀ u,E.nx (σ.set a u) (gset G p (.dT hw (aM f (aW l (ns.map fun n=>(n,w))))))):ForIn (gN a) (ff hw (ab d) (ab a) te) E σ (ns.map Sl.d) (gset G p (.dT hw (aM f l))):=by
 refine⟨fun i σ' G'=>∃ u,σ'=σ.set a u/\G'=gset G p (.dT hw (aM f (aW l ((ns.take i).map fun n=>(n,w))))),⟨σ[a],by rw[nT ha],rfl⟩,?_,?_⟩
 ·rintro i dd σ' G' hd ⟨u,rfl,rfl⟩
  rw[JB]at hd;cases hq:ns[i]? with
  | none=>rw[hq]at hd;cases hd
  | some q=>
   rw[hq]at hd;cases hd;have hi:=(List.getElem?_eq_some_iff.mp hq).1;have tk:ns.take (i+1)=ns.take i ++ [q]:=by rw[Ke,hq];rfl
   show ff hw (ab d) (ab a) te _ ((σ.set a u).set a (some q.d)) _
   rw[List.set_set];have s2:(σ.set a (some q.d))[a]?=some (some q.d):=by rw[List.getElem?_set_self ha]
   have s3:(σ.set a (some q.d))[d]?=some (some (.ref p)):=by rw[Lm had];exact hσ
   unfold ff;refine ht _ _ _ ?_;unfold ab;rw[s2,s3];dsimp only;rw[hf];have pl:=dj ((ns.take i).map fun n=>(n,w)) l;rw[IZ,JN]at pl;refine rh (x:=q) az (by walk_at "o") ⟨_,rfl,?_⟩
   rw[eE,tk,J0,Jz,Nj,hJ]
 ·rintro σ' G' ⟨u,rfl,rfl⟩
  rw[IZ,JR];exact h u
theorem kB{α β:Type}(f:α->D)(g:β->D):∀ (a:List α) (b:List β),kC (a.map f) (b.map g)=(a.zip b).map fun q=>.tup [f q.1,g q.2]
 | [],_=>rfl
 | _::_,[]=>rfl
 | x::a,y::b=>by simp only[Jz,kC,LC,kB f g a b]
theorem qp(x:Str):L3.signs x=(ig x).map D.str:=by unfold L3.signs ig;rw[JK];rfl
theorem wF(x:Str):(ig x).length=x.length:=by simp[ig,Nc]
theorem gR{β:Type}(g:Sk->List β){o:List Sk}{i:Nat}{s:Sk}(h:o[i]?=some s):(o.take (i+1)).flatMap g=(o.take i).flatMap g ++ g s:=by
 rw[Ke,h,List.flatMap_append];simp
theorem lK{β:Type}(g:Sk->List β):∀ {o:List Sk},(∀ s∈o,(g s).length<=1000)->(o.flatMap g).length<=1000*o.length
 | [],_=>by simp
 | s::r,h=>by
  have h1:=h s Jk;have h2:=lK g (o:=r) fun t ht=>h t (Jl _ ht);rw[List.flatMap_cons,Jh,Jv];omega
theorem jI{s:Sk}(h:s.wd<=1000):(dC s).length<=1000:=by
 obtain⟨pen,num,time,act⟩:=s;cases act with
 | put a x=>
  show ((made _).zip (ig x)).length<=1000
  rw[Mj,wF];have:x.length<=1000:=h;omega
 | _=>exact JQ _
theorem vh{s:Sk}(h:s.wd<=1000):(eM s).length<=1000:=by
 obtain⟨pen,num,time,act⟩:=s;cases act with
 | strike ns=>show (ns.map _).length<=1000;rw[IZ];exact h
 | _=>exact JQ _
theorem yM{s:Sk}(h:s.wd<=1000):(lR s).length<=1000:=by
 obtain⟨pen,num,time,act⟩:=s;cases act with
 | dress ns w=>show (ns.map _).length<=1000;rw[IZ];exact h
 | _=>exact JQ _
theorem tE{s:Sk}(h:s.wd<=1000):(iR s).length<=1000:=by
 obtain⟨pen,num,time,act⟩:=s;cases act with
 | move ns a=>
  show (ns.zip (made _)).length<=1000
  rw[Mj];have:ns.length<=1000:=h;omega
 | _=>exact JQ _
theorem iS{β:Type}{o:List Sk}(h:qT o)(g:Sk->List β)(hg:∀ s:Sk,s.wd<=1000->(g s).length<=1000)(i:Nat):((o.take i).flatMap g).length<=64000:=by
 have h1:=lK g (o:=o.take i) fun s hs=>hg s (h.2 s (KG hs));have h2:=h.1;rw[JN]at h1;omega
theorem jn(Z1 Z2 Z3 Z4 Z5:IW)(hw:HW){σ:gy}{G:Gp}{a C:IW}{s:Sk}{i:Nat}{cs:List (IW×Bool)}{K:Bool->Gp->Prop}(b:Bool)(hσ:σ[i]?=some (some (.ref a)))(hG:G a=some (cj Z1 Z2 Z3 Z4 Z5 s))
  (hc:match s.act with|.put _ _=>(Z2,b)∈cs|.strike _=>(Z3,b)∈cs|.dress _ _=>(Z4,b)∈cs|.move _ _=>(Z5,b)∈cs) (h:K b G):nN (eB (sT cs C) (af (ab i) (af (eC (.ref C)) aB))) σ G K:=by
 obtain⟨pen,num,time,act⟩:=s;unfold nN eB af aB ab eC sT;rw[hσ];cases act<;>(simp only[cj]at hG;simp only[val,hG];exact⟨trivial,b,hc,⟨trivial,h⟩⟩)
theorem iZ(Z1 Z2 Z3 Z4 Z5:IW)(hw:HW){σ:gy}{G:Gp}{p:IW}{s:Sk}{ns:List Sl}{i:Nat}{Q:pC}(hσ:σ[i]?=some (some (.ref p)))(hG:G p=some (cj Z1 Z2 Z3 Z4 Z5 s))(ha:s.act=.strike ns\/(∃ w,s.act=.dress ns w)\/∃ b,s.act=.move ns b)(hm:ns.length<=1000)(h:Q (.fl (ns.map Sl.d)) G):
  fQ [(Z1,ae Z1 Z2 Z3 Z4 Z5 hw),(Z2,ae Z1 Z2 Z3 Z4 Z5 hw),(Z3,ae Z1 Z2 Z3 Z4 Z5 hw),(Z4,ae Z1 Z2 Z3 Z4 Z5 hw),(Z5,ae Z1 Z2 Z3 Z4 Z5 hw)] "touched" [] (ab i) aB σ G Q:=by
 have hG':=hG;unfold fQ ab;rw[hσ];obtain⟨pen,num,time,act⟩:=s;rcases ha with e|⟨w,e⟩|⟨b,e⟩<;>(have e':act=_:=e;subst e';simp only[cj]at hG;simp only[hG])
 ·exact⟨by decide +kernel,ae Z1 Z2 Z3 Z4 Z5 hw,by simp,_,ns,⟨.inl rfl,hG',hm⟩,h⟩
 ·exact⟨by decide +kernel,ae Z1 Z2 Z3 Z4 Z5 hw,by simp,_,ns,⟨.inr (.inl ⟨w,rfl⟩),hG',hm⟩,h⟩
 ·exact⟨by decide +kernel,ae Z1 Z2 Z3 Z4 Z5 hw,by simp,_,ns,⟨.inr (.inr ⟨b,rfl⟩),hG',hm⟩,h⟩
theorem j6(Z1 Z2 Z3 Z4 Z5:IW)(hw:HW):bC (ae Z1 Z2 Z3 Z4 Z5 hw) (cP Z1 Z2 Z3 Z4 Z5 hw) ["self"]:=by
 intro ds G Q h;unfold ae at h;split at h
 ·rename_i p;obtain⟨⟨pen,num,time,act⟩,ns,⟨ha,hG,hl⟩,h⟩:=h;have hs:=av;unfold cj at hG;unfold cP;rcases ha with e|⟨w,e⟩|⟨b,e⟩<;>(have e':act=_:=e;subst e';dsimp only at hG)
  ·have hc:Z3∈[Z1,Z2,Z3,Z4,Z5]:=by simp
   walk_at "st"
   try exact h
  ·have hc:Z4∈[Z1,Z2,Z3,Z4,Z5]:=by simp
   walk_at "st"
   try exact h
  ·have hc:Z5∈[Z1,Z2,Z3,Z4,Z5]:=by simp
   walk_at "st"
   try exact h
 ·exact h.elim
theorem sR(x:Str){o:List Sk}{i:Nat}{s:Sk}(h:o[i]?=some s):aA x (o.take (i+1))=aW (aA x (o.take i)) (dC s):=by
 unfold aA;rw[gR dC h,<- JM,eA]
theorem tH{o:List Sk}{i:Nat}{s:Sk}(h:o[i]?=some s):bh (o.take (i+1))=aW (bh (o.take i)) (eM s):=by
 unfold bh;rw[gR eM h,eA]
theorem vf{o:List Sk}{i:Nat}{s:Sk}(h:o[i]?=some s):bL (o.take (i+1))=aW (bL (o.take i)) (iR s):=by
 unfold bL;rw[gR iR h,eA]
theorem xo{o:List Sk}{i:Nat}{s:Sk}(h:o[i]?=some s):fY (o.take (i+1))=aW (fY (o.take i)) (lR s):=by
 unfold fY;rw[gR lR h,eA]
theorem BC{Z1 Z2 Z3 Z4 Z5:IW}{G:Gp}{ps:List IW}{o:List Sk}{i:Nat}{d:D}(h:iE Z1 Z2 Z3 Z4 Z5 G ps o)(hd:(ps.map D.ref)[i]?=some d):∃ a s,d=.ref a/\o[i]?=some s/\G a=some (cj Z1 Z2 Z3 Z4 Z5 s):=by
 rw[JB]at hd;cases hp:ps[i]? with
 | none=>rw[hp]at hd;cases hd
 | some a=>
  rw[hp]at hd;cases hd;have hi:i < o.length:=by have:=(List.getElem?_eq_some_iff.mp hp).1;have:=h.1;omega
  exact⟨a,o[i],rfl,Jb hi,h.2 i a _ hp (Jb hi)⟩
theorem yj(Z1 Z2 Z3 Z4 Z5:IW)(hw:HW){σ:gy}{G:Gp}{p:IW}{pen:Str}{num time:Int}{a:Sl}{x:Str}{i:Nat}{Q:pC}(hσ:σ[i]?=some (some (.ref p)))(hG:G p=some (cj Z1 Z2 Z3 Z4 Z5 ⟨pen,num,time,.put a x⟩))(h:Q (.str x) G):gn [Z1,Z2,Z3,Z4,Z5] "signs" (ab i) σ G Q:=by
 unfold gn ab;rw[hσ];simp only[cj]at hG;simp only[hG];exact⟨by simp,h⟩
theorem AL(Z1 Z2 Z3 Z4 Z5:IW)(hw:HW){σ:gy}{G:Gp}{p:IW}{pen:Str}{num time:Int}{ns:List Sl}{w:Str}{i:Nat}{Q:pC}(hσ:σ[i]?=some (some (.ref p)))(hG:G p=some (cj Z1 Z2 Z3 Z4 Z5 ⟨pen,num,time,.dress ns w⟩))(h:Q (.str w) G):gn [Z1,Z2,Z3,Z4,Z5] "word" (ab i) σ G Q:=by
 unfold gn ab;rw[hσ];simp only[cj]at hG;simp only[hG];exact⟨by simp,h⟩
theorem kO(Z1 Z2 Z3 Z4 Z5:IW)(hw:HW):bC (bj Z1 Z2 Z3 Z4 Z5 hw) (de Z1 Z2 Z3 Z4 Z5 hw) ["old","strokes","brought","stroke","name","sign"]:=by
 intro ds G Q h;unfold bj at h;split at h
 ·rename_i x xs;obtain⟨ps,o,⟨rfl,hO,hS,hx⟩,h⟩:=h;have hs:=av;unfold de;rw[ag];walk_at "s1";have ol:(cR x.length).length=x.length:=aY _ _ _;have l0:((cR x.length).zip (ig x)).length<=1000:=by rw[Mj];omega
  refine⟨_,_,aM D.str ((cR x.length).zip (ig x)),⟨rfl,rfl,?_,by unfold aM;rw[IZ];omega⟩,fun p hp=>?_⟩
  ·rw[qp,kB];unfold aM;rw[JK];rfl
  rw[pc];have e0:aW [] ((cR x.length).zip (ig x))=aA x (o.take 0):=by unfold aA;simp
  rw[e0];rw[ag];have hE:iQ G (gset G p (.dT hw (aM D.str (aA x (o.take 0))))):=iQ.refl.gset hp;show ForIn _ _ _ _ (ps.map D.ref) _
  refine⟨fun i σ G'=>∃ x3 x4 x5,σ=[some (.str x),some (.lst (ps.map D.ref)),some (.ref p),x3,x4,x5]/\G'=gset G p (.dT hw (aM D.str (aA x (o.take i)))),⟨_,_,_,rfl,rfl⟩,?_,?_⟩
  ·rintro i d σ G' hd ⟨x3,x4,x5,rfl,rfl⟩
   obtain⟨a,s,rfl,hsi,hGa⟩:=BC hO hd;have hap:a≠p:=fun z=>by subst z;rw[hp]at hGa;cases hGa
   have Qy:∀ u,gset G p u a=some (cj Z1 Z2 Z3 Z4 Z5 s):=fun u=>by rw[aK hap];exact hGa
   have swd:s.wd<=1000:=hS.2 s (Js hsi);have bl:(aA x (o.take i)).length<=65000:=by
    have h1:=dj ((cR x.length).zip (ig x) ++ (o.take i).flatMap dC) [];have h2:=iS hS dC (fun s hs=>jI hs) i;rw[Jh,JU]at h1;unfold aA;omega
   have bt:=sR x hsi;simp only[gN,JL,JA];obtain⟨pen,num,time,act⟩:=s;cases act with
   | put an w=>
    refine bf true (fun K hK=>jn Z1 Z2 Z3 Z4 Z5 hw (s:=⟨pen,num,time,.put an w⟩) (a:=a) (i:=3) true rfl (Qy _) (by simp) hK) ?_
    rw[if_pos rfl];unfold gu yc af aB;have mw:=jz ⟨pen,num,time,.put an w⟩;refine i0 Z1 Z2 Z3 Z4 Z5 hw (p:=a) (i:=3) (s:=⟨pen,num,time,.put an w⟩) rfl (Qy _) (by walk_at "o") ?_
    refine yj Z1 Z2 Z3 Z4 Z5 hw (p:=a) (i:=3) (a:=an) (x:=w) rfl (Qy _) ?_;refine⟨_,_,⟨rfl,rfl⟩,?_⟩;rw[qp,kB];have bl2:=jI swd;refine Dg (f:=D.str) (fun _=>rfl) (m:=(made ⟨pen,num,time,.put an w⟩).zip (ig w)) (by decide) (by decide) (by decide) (by simp) (by simp) rfl (by show _+(dC ⟨pen,num,time,.put an w⟩).length < _;omega) fun u v=>⟨_,_,_,rfl,?_⟩
    rw[bt];rfl
   | _=>
    refine bf false (fun K hK=>jn Z1 Z2 Z3 Z4 Z5 hw (s:=⟨pen,num,time,_⟩) (a:=a) (i:=3) false rfl (Qy _) (by simp) hK) ?_
    rw[if_neg Bool.false_ne_true];refine⟨_,_,_,rfl,?_⟩;rw[bt];rfl
  ·rintro σ G' ⟨x3,x4,x5,rfl,rfl⟩
   rw[IZ,hO.1,JR];exact h p hp
 ·exact h.elim
theorem lX(Z1 Z2 Z3 Z4 Z5:IW)(hw:HW):bC (bv Z1 Z2 Z3 Z4 Z5 hw) (dE Z1 Z2 Z3 Z4 Z5 hw) ["strokes","struck","stroke","name"]:=by
 intro ds G Q h;unfold bv at h;split at h
 ·rename_i xs;obtain⟨ps,o,⟨rfl,hO,hS⟩,h⟩:=h;have hs:=av;unfold dE;rw[ag];walk_at "s1";intro p hp;rw[ag];show ForIn _ _ _ _ (ps.map D.ref) _
  refine⟨fun i σ G'=>∃ x2 x3,σ=[some (.lst (ps.map D.ref)),some (.ref p),x2,x3]/\G'=gset G p (.dT hw (aM (fun _=>.bl true) (bh (o.take i)))),⟨_,_,rfl,rfl⟩,?_,?_⟩
  ·rintro i d σ G' hd ⟨x2,x3,rfl,rfl⟩
   obtain⟨a,s,rfl,hsi,hGa⟩:=BC hO hd;have hap:a≠p:=fun z=>by subst z;rw[hp]at hGa;cases hGa
   have Qy:∀ u,gset G p u a=some (cj Z1 Z2 Z3 Z4 Z5 s):=fun u=>by rw[aK hap];exact hGa
   have swd:s.wd<=1000:=hS.2 s (Js hsi);have bl:(bh (o.take i)).length<=65000:=by
    have h1:=dj ((o.take i).flatMap eM) [];have h2:=iS hS eM (fun s hs=>vh hs) i;rw[JU]at h1;unfold bh;omega
   have bt:=tH hsi;simp only[gN,JL,JA];obtain⟨pen,num,time,act⟩:=s;cases act with
   | strike ns=>
    refine bf true (fun K hK=>jn Z1 Z2 Z3 Z4 Z5 hw (s:=⟨pen,num,time,.strike ns⟩) (a:=a) (i:=2) true rfl (Qy _) (by simp) hK) ?_
    rw[if_pos rfl];unfold gu dU;have hl:ns.length<=1000:=swd;refine iZ Z1 Z2 Z3 Z4 Z5 hw (p:=a) (i:=2) (s:=⟨pen,num,time,.strike ns⟩) rfl (Qy _) (.inl rfl) hl ?_;dsimp only[il];refine Dh (f:=fun (_:Unit)=>D.bl true) (w:=()) rfl (by decide) (by simp) rfl (by walk_at "o") (fun u l K hK=>hK) fun u=>⟨_,_,rfl,?_⟩
    rw[bt];rfl
   | _=>
    refine bf false (fun K hK=>jn Z1 Z2 Z3 Z4 Z5 hw (s:=⟨pen,num,time,_⟩) (a:=a) (i:=2) false rfl (Qy _) (by simp) hK) ?_
    rw[if_neg Bool.false_ne_true];refine⟨_,_,rfl,?_⟩;rw[bt];rfl
  ·rintro σ G' ⟨x2,x3,rfl,rfl⟩
   rw[IZ,hO.1,JR];exact h p hp
 ·exact h.elim
theorem nV(Z1 Z2 Z3 Z4 Z5:IW)(hw:HW):bC (bQ Z1 Z2 Z3 Z4 Z5 hw) (eN Z1 Z2 Z3 Z4 Z5 hw) ["strokes","worn","stroke","name"]:=by
 intro ds G Q h;unfold bQ at h;split at h
 ·rename_i xs;obtain⟨ps,o,⟨rfl,hO,hS⟩,h⟩:=h;have hs:=av;unfold eN;rw[ag];walk_at "s1";intro p hp;rw[ag];show ForIn _ _ _ _ (ps.map D.ref) _
  refine⟨fun i σ G'=>∃ x2 x3,σ=[some (.lst (ps.map D.ref)),some (.ref p),x2,x3]/\G'=gset G p (.dT hw (aM D.str (fY (o.take i)))),⟨_,_,rfl,rfl⟩,?_,?_⟩
  ·rintro i d σ G' hd ⟨x2,x3,rfl,rfl⟩
   obtain⟨a,s,rfl,hsi,hGa⟩:=BC hO hd;have hap:a≠p:=fun z=>by subst z;rw[hp]at hGa;cases hGa
   have Qy:∀ u,gset G p u a=some (cj Z1 Z2 Z3 Z4 Z5 s):=fun u=>by rw[aK hap];exact hGa
   have swd:s.wd<=1000:=hS.2 s (Js hsi);have bl:(fY (o.take i)).length<=65000:=by
    have h1:=dj ((o.take i).flatMap lR) [];have h2:=iS hS lR (fun s hs=>yM hs) i;rw[JU]at h1;unfold fY;omega
   have bt:=xo hsi;simp only[gN,JL,JA];obtain⟨pen,num,time,act⟩:=s;cases act with
   | dress ns w=>
    refine bf true (fun K hK=>jn Z1 Z2 Z3 Z4 Z5 hw (s:=⟨pen,num,time,.dress ns w⟩) (a:=a) (i:=2) true rfl (Qy _) (by simp) hK) ?_
    rw[if_pos rfl];unfold gu dU;have hl:ns.length<=1000:=swd;refine iZ Z1 Z2 Z3 Z4 Z5 hw (p:=a) (i:=2) (s:=⟨pen,num,time,.dress ns w⟩) rfl (Qy _) (.inr (.inl ⟨w,rfl⟩)) hl ?_;dsimp only[il];refine Dh (f:=D.str) (w:=w) rfl (by decide) (by simp) rfl (by walk_at "o") (fun u l K hK=>AL Z1 Z2 Z3 Z4 Z5 hw (p:=a) (i:=2) (ns:=ns) (w:=w) rfl (Qy _) hK) fun u=>⟨_,_,rfl,?_⟩
    rw[bt];rfl
   | _=>
    refine bf false (fun K hK=>jn Z1 Z2 Z3 Z4 Z5 hw (s:=⟨pen,num,time,_⟩) (a:=a) (i:=2) false rfl (Qy _) (by simp) hK) ?_
    rw[if_neg Bool.false_ne_true];refine⟨_,_,rfl,?_⟩;rw[bt];rfl
  ·rintro σ G' ⟨x2,x3,rfl,rfl⟩
   rw[IZ,hO.1,JR];exact h p hp
 ·exact h.elim
theorem m7(Z1 Z2 Z3 Z4 Z5:IW)(hw:HW):bC (bE Z1 Z2 Z3 Z4 Z5 hw) (d4 Z1 Z2 Z3 Z4 Z5 hw) ["strokes","taken","stroke","name","slot"]:=by
 intro ds G Q h;unfold bE at h;split at h
 ·rename_i xs;obtain⟨ps,o,⟨rfl,hO,hS⟩,h⟩:=h;have hs:=av;unfold d4;rw[ag];walk_at "s1";intro p hp;rw[ag];show ForIn _ _ _ _ (ps.map D.ref) _
  refine⟨fun i σ G'=>∃ x2 x3 x4,σ=[some (.lst (ps.map D.ref)),some (.ref p),x2,x3,x4]/\G'=gset G p (.dT hw (aM Sl.d (bL (o.take i)))),⟨_,_,_,rfl,rfl⟩,?_,?_⟩
  ·rintro i d σ G' hd ⟨x2,x3,x4,rfl,rfl⟩
   obtain⟨a,s,rfl,hsi,hGa⟩:=BC hO hd;have hap:a≠p:=fun z=>by subst z;rw[hp]at hGa;cases hGa
   have Qy:∀ u,gset G p u a=some (cj Z1 Z2 Z3 Z4 Z5 s):=fun u=>by rw[aK hap];exact hGa
   have swd:s.wd<=1000:=hS.2 s (Js hsi);have bl:(bL (o.take i)).length<=65000:=by
    have h1:=dj ((o.take i).flatMap iR) [];have h2:=iS hS iR (fun s hs=>tE hs) i;rw[JU]at h1;unfold bL;omega
   have bt:=vf hsi;simp only[gN,JL,JA];obtain⟨pen,num,time,act⟩:=s;cases act with
   | move ns an=>
    refine bf true (fun K hK=>jn Z1 Z2 Z3 Z4 Z5 hw (s:=⟨pen,num,time,.move ns an⟩) (a:=a) (i:=2) true rfl (Qy _) (by simp) hK) ?_
    rw[if_pos rfl];unfold gu yc af aB;have hl:ns.length<=1000:=swd;have mw:=jz ⟨pen,num,time,.move ns an⟩;refine iZ Z1 Z2 Z3 Z4 Z5 hw (p:=a) (i:=2) (s:=⟨pen,num,time,.move ns an⟩) rfl (Qy _) (.inr (.inr ⟨an,rfl⟩)) hl ?_;refine i0 Z1 Z2 Z3 Z4 Z5 hw (p:=a) (i:=2) (s:=⟨pen,num,time,.move ns an⟩) rfl (Qy _) (by walk_at "o") ?_
    refine⟨_,_,⟨rfl,rfl⟩,?_⟩;rw[kB];have bl2:=tE swd;refine Dg (f:=Sl.d) (fun _=>rfl) (m:=ns.zip (made ⟨pen,num,time,.move ns an⟩)) (by decide) (by decide) (by decide) (by simp) (by simp) rfl (by show _+(iR ⟨pen,num,time,.move ns an⟩).length < _;omega) fun u v=>⟨_,_,_,rfl,?_⟩
    rw[bt];rfl
   | _=>
    refine bf false (fun K hK=>jn Z1 Z2 Z3 Z4 Z5 hw (s:=⟨pen,num,time,_⟩) (a:=a) (i:=2) false rfl (Qy _) (by simp) hK) ?_
    rw[if_neg Bool.false_ne_true];refine⟨_,_,_,rfl,?_⟩;rw[bt];rfl
  ·rintro σ G' ⟨x2,x3,x4,rfl,rfl⟩
   rw[IZ,hO.1,JR];exact h p hp
 ·exact h.elim
theorem q0{out:List Rw}(one:eX out)(h:fR out):out.Pairwise eK:=by
 refine List.Pairwise.imp_of_mem (fun {a b} ha hb hab z=>?_) h;have:=one a ha b hb z.1 z.2;subst this;rw[lt_irrefl]at hab;cases hab
theorem nR{xs ys:List Sk}(h:xs.map Sk.rw=ys.map Sk.rw):xs=ys:=List.map_inj_right (f:=Sk.rw) (fun x y=>Sk.rw_inj) |>.mp h
def DP:D->Sl
 | .tup [.str q,.int n,.int k]=>⟨q,n,k⟩
 | _=>default
theorem y9(x:Sl):DP x.d=x:=rfl
theorem xw(row:List Sl)(sit:List (Sl×Sl)):((row.map Sl.d).filter fun d=>(b8 sit (DP d)).isSome).map (fun d=>.tup [d,((b8 sit (DP d)).getD default).d])=(row.filterMap fun s=>(b8 sit s).map fun n=>(s,n)).map fun p=>D.tup [p.1.d,p.2.d]:=by
 induction row with
 | nil=>rfl
 | cons s r ih=>
  rw[Jz,List.filter_cons,y9];cases e:b8 sit s with
  | none=>
   rw[KI (by rw[e];rfl)]
   simpa using ih
  | some n=>
   rw[KH (b:=(s,n)) (by rw[e];rfl)]
   simp only[Option.isSome_some,if_true,Jz,ih,y9,e,Option.getD_some]
theorem vB(Z1 Z2 Z3 Z4 Z5:IW)(hw:HW):bC (cJ Z1 Z2 Z3 Z4 Z5 hw) (iL Z1 Z2 Z3 Z4 Z5 hw) ["old","strokes","standing","row","working","brought","struck","taken","worn","sitting","name","seats"]:=by
 intro ds G Q h;unfold cJ at h;split at h
 ·rename_i x xs ns;obtain⟨sks,base,names,⟨rfl,hx,one,l1,l2,sub,ok,rfl,l3⟩,h⟩:=h;have hs:=av;have okk:∀ s∈sks,s.ok:=fun s hs'=>⟨(ok s hs').1,le_trans (jz s) (ok s hs').2⟩;unfold iL;rw[ag];walk_at "s1";refine⟨sks,base,⟨rfl,one,l1,l2,sub,okk⟩,fun out G1 hE1 st1 Re=>?_⟩;have lo:out.length < 64:=by
   have:=gj (fj st1) (ys:=base.map Sk.rw) fun r hr=>by
    obtain⟨s,hs',rfl⟩:=mem_map.mp hr;exact mem_map.mpr ⟨s,sub s ((Re s).mp hs'),rfl⟩
   rw[IZ,IZ]at this;omega
  have Rj:(aE x.length out).length<=900000:=by
   have wl:=kN x.length out (bz [ay] ay (cR x.length)) fun s hs'=>(okk s ((Re s).mp hs')).2;have e1:out.foldl bW (bz [ay] ay (cR x.length))=ay::aE x.length out:=iW x.length out;have ol:(cR x.length).length=x.length:=aY _ _ _;rw[e1,cn,Jv,Jv,ol]at wl;omega
  rw[ag];have h':=fun G' hE=>h out G' hE st1 Re;clear h;unfold bx at h';generalize aE x.length out=row at Rj h' ⊢;walk_at "s1";refine .inl ⟨row,⟨rfl,Rj⟩,fun pm hpm=>?_⟩;refine⟨sks,base,names,row,⟨rfl,one,l1,l2,sub,fun s hs'=>(ok s hs').2,rfl,l3,rfl⟩,fun Rv ps G2 hE2 st2 Rz hO2=>?_⟩;have eo:Rv=out:=nR (io st2 st1 fun r=>by
   constructor
   ·intro hr;obtain⟨s,hs',rfl⟩:=mem_map.mp hr;exact mem_map.mpr ⟨s,(Re s).mpr ((Rz s).mp hs'),rfl⟩
   ·intro hr;obtain⟨s,hs',rfl⟩:=mem_map.mp hr;exact mem_map.mpr ⟨s,(Rz s).mpr ((Re s).mp hs'),rfl⟩)
  subst eo;have hE3:iQ G G2:=hE1.trans ((iQ.refl.gset hpm).trans hE2);have sw:qT (aH Rv names row):=⟨le_trans (le_trans (La _ _) (La _ _)) (by walk_at "o"),fun s hs'=>(ok s ((Re s).mp (OD.mp (OD.mp hs').1).1)).2⟩
  generalize aH Rv names row=w at *
  clear hE2 hpm Re Rz st1 st2 lo;rw[ag];walk_at "s1";refine⟨ps,w,⟨rfl,hO2,sw⟩,fun pb hpb=>?_⟩;have hE4:iQ G (gset G2 pb (.dT hw (aM D.str (aA x w)))):=hE3.trans (iQ.refl.gset hpb);have hO4:=hO2.ext (G':=gset G2 pb (.dT hw (aM D.str (aA x w)))) (iQ.refl.gset hpb);have f1:gset G2 pb (.dT hw (aM D.str (aA x w))) pb=some (.dT hw (aM D.str (aA x w))):=az;generalize gset G2 pb (.dT hw (aM D.str (aA x w)))=G4 at *
  clear hE3 hO2 hpb;rw[ag];walk_at "s1";refine⟨ps,w,⟨rfl,hO4,sw⟩,fun pk hpk=>?_⟩;have ne1:pb≠pk:=fun z=>by subst z;rw[f1]at hpk;cases hpk
  have hE5:iQ G4 (gset G4 pk (.dT hw (aM (fun _=>.bl true) (bh w)))):=iQ.refl.gset hpk;have hO5:=hO4.ext hE5;have f2:gset G4 pk (.dT hw (aM (fun _=>.bl true) (bh w))) pk=some (.dT hw (aM (fun _=>.bl true) (bh w))):=az;have f1':=hE5 _ _ f1;have hE5':=hE4.trans hE5;generalize gset G4 pk (.dT hw (aM (fun _=>.bl true) (bh w)))=G5 at *
  clear hE4 hO4 hpk hE5 f1;rw[ag];walk_at "s1";refine⟨ps,w,⟨rfl,hO5,sw⟩,fun pt hpt=>?_⟩;have ne2:pb≠pt:=fun z=>by subst z;rw[f1']at hpt;cases hpt
  have ne3:pk≠pt:=fun z=>by subst z;rw[f2]at hpt;cases hpt
  have hE6:iQ G5 (gset G5 pt (.dT hw (aM Sl.d (bL w)))):=iQ.refl.gset hpt;have hO6:=hO5.ext hE6;have f3:gset G5 pt (.dT hw (aM Sl.d (bL w))) pt=some (.dT hw (aM Sl.d (bL w))):=az;have f1:=hE6 _ _ f1';have f2':=hE6 _ _ f2;have hE6':=hE5'.trans hE6;generalize gset G5 pt (.dT hw (aM Sl.d (bL w)))=G6 at *
  clear hE5' hO5 hpt hE6 f1' f2;rw[ag];walk_at "s1";refine⟨ps,w,⟨rfl,hO6,sw⟩,fun pw hpw=>?_⟩;have ne4:pb≠pw:=fun z=>by subst z;rw[f1]at hpw;cases hpw
  have hE7:iQ G6 (gset G6 pw (.dT hw (aM D.str (fY w)))):=iQ.refl.gset hpw;have f4:gset G6 pw (.dT hw (aM D.str (fY w))) pw=some (.dT hw (aM D.str (fY w))):=az;have f1':=hE7 _ _ f1;have f2:=hE7 _ _ f2';have f3':=hE7 _ _ f3;have Tc:=hE6'.trans hE7;generalize gset G6 pw (.dT hw (aM D.str (fY w)))=G7 at *
  clear hE6' hO6 hpw hE7 f1 f2' f3;rw[ag];walk_at "s1";intro pq hpq;have n1:pb≠pq:=fun z=>by subst z;rw[f1']at hpq;cases hpq
  have n2:pk≠pq:=fun z=>by subst z;rw[f2]at hpq;cases hpq
  have n3:pt≠pq:=fun z=>by subst z;rw[f3']at hpq;cases hpq
  have n4:pw≠pq:=fun z=>by subst z;rw[f4]at hpq;cases hpq
  rw[ag];have gb:gset G7 pq (.dT hw []) pb=some (.dT hw (aM D.str (aA x w))):=by rw[aK n1];exact f1'
  refine⟨hw,_,gb,?_⟩;clear gb;have bl:(aA x w).length<=65000:=by
   have h1:=dj ((cR x.length).zip (ig x) ++ w.flatMap dC) [];have h2:=lK dC (o:=w) fun s hs'=>jI (sw.2 s hs');have h3:=sw.1;rw[Jh,JU,Mj,wF]at h1;unfold aA;omega
  have keys:(aM D.str (aA x w)).map Ar=(aA x w).map fun p=>p.1.d:=by
   unfold aM;rw[JK];rfl
  rw[keys];refine⟨fun i σ G'=>∃ x10,σ=[some (.str x),some (.lst (sks.map Sk.d)),some (.lst (names.map Nm.d)),some (.lst (row.map Sl.d)),some (.lst (ps.map D.ref)),some (.ref pb),some (.ref pk),some (.ref pt),some (.ref pw),some (.ref pq),x10,none]/\G'=gset (fP G7 pb) pq (.dT hw (aM Sl.d (aW [] ((((aA x w).take i).filter fun p=>(b8 (bh w) p.1).isNone).map fun p=>((b8 (bL w) p.1).getD p.1,p.1))))),⟨_,rfl,?_⟩,?_,?_⟩
  ·funext b
   by_cases e1:b=pq
   ·rw[e1,eG n1.symm,az,az];rfl
   ·rw[aK e1]
    by_cases e2:b=pb
    ·rw[e2,eF,eF]
    ·rw[eG e2,eG e2,aK e1]
  ·rintro i d σ G' hd ⟨x10,rfl,rfl⟩
   rw[JB]at hd;cases hq:(aA x w)[i]? with
   | none=>rw[hq]at hd;cases hd
   | some q=>
    rw[hq]at hd;cases hd;have hi:=(List.getElem?_eq_some_iff.mp hq).1;simp only[gN,JL,JA];generalize hL:(((aA x w).take i).filter fun p=>(b8 (bh w) p.1).isNone).map (fun p=>((b8 (bL w) p.1).getD p.1,p.1))=L;have ll:L.length<=65000:=by
     rw[<- hL,IZ];have:=La (fun p:Sl×Str=>(b8 (bh w) p.1).isNone) ((aA x w).take i);rw[JN]at this;omega
    have pl:=dj L [];rw[JU]at pl;have tk:(((aA x w).take (i+1)).filter fun p=>(b8 (bh w) p.1).isNone).map (fun p=>((b8 (bL w) p.1).getD p.1,p.1))=L ++ (if (b8 (bh w) q.1).isNone=true then [((b8 (bL w) q.1).getD q.1,q.1)]else []):=by
     rw[Ke,hq,List.filter_append,J0,hL];congr 1
     by_cases e:(b8 (bh w) q.1).isNone=true
     ·rw[if_pos e];simp[e]
     ·rw[if_neg e];simp[e]
    have gk:gset (fP G7 pb) pq (.dT hw (aM Sl.d (aW [] L))) pk=some (.dT hw (aM (fun _=>.bl true) (bh w))):=by rw[aK n2,eG (Ne.symm ne1)];exact f2
    have gt:gset (fP G7 pb) pq (.dT hw (aM Sl.d (aW [] L))) pt=some (.dT hw (aM Sl.d (bL w))):=by rw[aK n3,eG (Ne.symm ne2)];exact f3'
    refine bf (b8 (bh w) q.1).isNone (fun K hK=>?_) ?_
    ·show ∃ r,cG hw _ (.ref pk) q.1.d r/\K (!r.isSome) _;refine⟨_,i3 Z1 Z2 Z3 Z4 Z5 hw q.1 gk,?_⟩;rw[Option.isSome_map];cases e:b8 (bh w) q.1<;>(rw[e]at hK;exact hK)
    ·by_cases e:(b8 (bh w) q.1).isNone=true
     ·rw[if_pos e];show iP _ _/\∃ r,cG hw _ (.ref pt) q.1.d r/\mN hw (.ref pq) (val (r.getD q.1.d)) q.1.d _ _
      refine⟨?_,_,i3 Z1 Z2 Z3 Z4 Z5 hw q.1 gt,?_⟩
      ·unfold iP;simp only[val,gt]
      ·have ek:val (((b8 (bL w) q.1).map Sl.d).getD q.1.d)=((b8 (bL w) q.1).getD q.1).d:=by cases b8 (bL w) q.1<;>rfl
       rw[ek];refine rh (f:=Sl.d) (w:=q.1) az (by walk_at "o") ⟨_,rfl,?_⟩
       rw[eE,tk,if_pos e,hJ]
     ·rw[if_neg e];refine⟨_,rfl,?_⟩;rw[tk,if_neg e,Kl]
  ·rintro σ G' ⟨x10,rfl,rfl⟩
   rw[IZ,JR];dsimp only;have es:aW [] (((aA x w).filter fun p=>(b8 (bh w) p.1).isNone).map fun p=>((b8 (bL w) p.1).getD p.1,p.1))=bu x w:=rfl;rw[es];have g9:gset (gset (fP G7 pb) pq (.dT hw (aM Sl.d (bu x w)))) pb (.dT hw (aM D.str (aA x w))) pq=some (.dT hw (aM Sl.d (bu x w))):=by rw[aK n1.symm,az]
   have g5:gset (gset (fP G7 pb) pq (.dT hw (aM Sl.d (bu x w)))) pb (.dT hw (aM D.str (aA x w))) pb=some (.dT hw (aM D.str (aA x w))):=az;have g8:gset (gset (fP G7 pb) pq (.dT hw (aM Sl.d (bu x w)))) pb (.dT hw (aM D.str (aA x w))) pw=some (.dT hw (aM D.str (fY w))):=by rw[aK ne4.symm,aK n4,eG ne4.symm];exact f4
   have gE:iQ G (gset (gset (fP G7 pb) pq (.dT hw (aM Sl.d (bu x w)))) pb (.dT hw (aM D.str (aA x w)))):=fun a o ha=>by
    have h7:=Tc a o ha
    by_cases e1:a=pb
    ·rw[e1]at h7 ⊢;rw[g5,<- h7,f1']
    ·rw[aK e1];have e2:a≠pq:=fun z=>by rw[z,hpq]at h7;cases h7
     rw[aK e2,eG e1];exact h7
   generalize gset (gset (fP G7 pb) pq (.dT hw (aM Sl.d (bu x w)))) pb (.dT hw (aM D.str (aA x w)))=G9 at *
   clear f1' f2 f3' f4 Tc hpq n1 n2 n3 n4 ne1 ne2 ne3 ne4 bl keys es;rw[ag];unfold bT dm dU;simp only[ab,J2,J3,il];refine im (fun d=>(b8 (bu x w) (DP d)).isSome) (fun d=>.tup [d,((b8 (bu x w) (DP d)).getD default).d]) (by rw[IZ];omega) (fun d hd P R hP hR=>?_) ?_
   ·obtain⟨s,hs',rfl⟩:=mem_map.mp hd;rw[y9]at hP hR;refine⟨⟨by simp,rfl⟩,?_⟩
    show ∃ r,cG hw G9 (.ref pq) s.d r/\(if r.isSome=true then _ else R G9)
    refine⟨_,i3 Z1 Z2 Z3 Z4 Z5 hw s g9,?_⟩;rw[Option.isSome_map];cases e:b8 (bu x w) s with
    | none=>
     rw[e]at hR;simp only[Option.isSome_none,Bool.false_eq_true,if_false];exact hR rfl
    | some n=>
     rw[e]at hP;simp only[Option.isSome_some,if_true];have lk:=i3 Z1 Z2 Z3 Z4 Z5 hw s g9;rw[e]at lk;show ∃ d,cG hw G9 (.ref pq) s.d (some d)/\_
     exact⟨n.d,lk,by show 2<=Jg;omega,hP rfl _ rfl⟩
   ·rw[xw];have eI:(row.filterMap fun s=>(b8 (bu x w) s).map fun n=>(s,n))=fT x w row:=rfl;rw[eI];dsimp only[val];have lI:(fT x w row).length<=900000:=le_trans (List.length_filterMap_le _ _) Rj;have mem:∀ p∈fT x w row,∃ z,b8 (aA x w) p.2=some z:=fun p hp=>by
     unfold fT at hp;obtain⟨s,_,e⟩:=mem_filterMap.mp hp;cases e2:b8 (bu x w) s with
     | none=>rw[e2]at e;cases e
     | some n=>
      rw[e2]at e;cases e;have m1:=nG e2;unfold bu at m1;rcases mf m1 with m2|m2
      ·simp at m2
      ·obtain⟨q,hq,e3⟩:=mem_map.mp m2;have hq':=(OD.mp hq).1;obtain⟨z,hz⟩:=uY hq';injection e3 with e4 e5
       exact⟨z,by show b8 (aA x w) n=some z;rw[<- e5];exact hz⟩
    unfold dS;simp only[J2,J3,JA,JL,il];refine cU (fun d=>match d with|.tup [a,b]=>.tup [a,b,.str ((b8 (aA x w) (DP b)).getD (I_ "")),.str ((b8 (fY w) (DP b)).getD (I_ ""))]|d=>d) (by rw[IZ];omega) (fun d hd P hP=>?_) ?_
    ·obtain⟨p,hp,rfl⟩:=mem_map.mp hd;obtain⟨z,hz⟩:=mem p hp;refine⟨rfl,⟨by simp,rfl⟩,?_⟩
     have lk:=i3 Z1 Z2 Z3 Z4 Z5 hw p.2 g5;rw[hz]at lk;show ∃ d,cG hw G9 (.ref pb) p.2.d (some d)/\iP G9 _/\∃ r,cG hw G9 (.ref pw) p.2.d r/\_
     refine⟨.str z,lk,?_,_,i3 Z1 Z2 Z3 Z4 Z5 hw p.2 g8,by show 4<=Jg;omega,hP _ ?_⟩
     ·unfold iP;simp only[val,g8]
     ·show D.tup [p.1.d,p.2.d,.str z,val (((b8 (fY w) p.2).map D.str).getD (.str (I_ "")))]=D.tup [p.1.d,p.2.d,.str ((b8 (aA x w) p.2).getD (I_ "")),.str ((b8 (fY w) p.2).getD (I_ ""))];rw[hz];cases b8 (fY w) p.2<;>rfl
    ·have:=h' G9 gE;rw[JK]at this;rw[JK];exact this
 ·exact h.elim
theorem m8(Z1 Z2 Z3 Z4 Z5:IW)(hw:HW):bC (bb Z1 Z2 Z3 Z4 Z5 hw) (d5 Z1 Z2 Z3 Z4 Z5 hw) ["_law_cell","_law_many","_law_found","_law_number","_law_k"]:=by
 intro ds G Q h;unfold bb at h;split at h
 ·rename_i c m;obtain⟨⟨h1,h2⟩,h⟩:=h;have hs:=av;unfold d5;rw[ag];walk_at "s1";refine⟨by walk_at "o",fun p hp=>?_⟩
  rw[ag];walk_at "s1";refine⟨.inr ⟨by decide,by decide⟩,by decide,?_⟩
  have b0:=dy (a:=(c+1)*48271) (b:=2147483647) (by decide)
  generalize (c+1)*48271 % 2147483647=n0 at *
  rw[ag];walk_at "s1";refine⟨⟨by walk_at "o",by walk_at "o"⟩,fun i σ G'=>∃ (xs:List Int) (n:Int) (v:Option D),(σ=[some (.int c),some (.int m),some (.ref p),some (.int n),v]/\G'=gset G p (.lst (xs.map D.int)))/\xs.length=i/\(0<=n/\n < 2147483647)/\∀ x∈xs,0<=x/\x < 2147483647,
   ⟨[],n0,_,⟨rfl,rfl⟩,rfl,b0,by simp⟩,?_,?_⟩
  ·rintro i d σ G' hd ⟨xs,n,v,⟨rfl,rfl⟩,hl,hn,hx⟩
   obtain⟨hi,rfl⟩:=j8 hd;simp only[gN,JL,JA];rw[ag];walk_at "s1";have b1:=dy (a:=(n+7919*(0+(i:Nat))+1)*(n / 1009+69621)) (b:=2147483647) (by decide)
   refine⟨.inl ⟨by decide,by decide⟩,⟨by decide,by decide⟩,.inl ⟨by walk_at "o",by walk_at "o"⟩,by decide,?_⟩
   generalize (n+7919*(0+(i:Nat))+1)*(n / 1009+69621) % 2147483647=n1 at *
   refine⟨by rw[IZ];omega,xs ++ [n1],n1,_,⟨⟨rfl,rfl⟩,by rw[J0];rfl⟩,by rw[Jh,hl];rfl,b1,fun x hx'=>?_⟩
   rcases Mi.mp hx' with hx'|hx'
   ·exact hx x hx'
   ·rw[mem_singleton.mp hx'];exact b1
  ·rintro σ G' ⟨xs,n,v,⟨rfl,rfl⟩,hl,hn,hx⟩
   rw[bR]at hl;simp only[fW,J3,J2,az];rw[qD hp];exact h xs (by walk_at "o") hx
 ·exact h.elim
theorem lZ(Z1 Z2 Z3 Z4 Z5:IW)(hw:HW):bC (bc Z1 Z2 Z3 Z4 Z5 hw) (dG Z1 Z2 Z3 Z4 Z5 hw) ["_law_script","_law_k"]:=by
 intro ds G Q h;unfold bc at h;split at h
 ·rename_i xs k;obtain⟨ns,⟨rfl,h0⟩,h⟩:=h;unfold dG;rw[ag];refine bf (decide (k < ns.length)) (fun K hK=>?_) (Aw (fun e=>?_) fun e=>?_)
  ·walk_at "st";rw[IZ];exact hK
  ·rw[decide_eq_true_eq]at e;walk_at "st";rw[sV h0 e];exact h _
  ·walk_at "st"
   first|done|exact h _
 ·exact h.elim
theorem nP(s:Sl)(n:Nat):pl (n+1) s.d:=by
 intro d hd;simp only[Kg,Kz,or_false]at hd;rcases hd with rfl|rfl|rfl<;>cases n<;>trivial
theorem jg(ss:List Sl)(n:Nat):∀ d∈ss.map Sl.d,pl (n+1) d:=fun d hd=>by
 obtain⟨s,_,rfl⟩:=mem_map.mp hd;exact nP s n
def zX(p:Str)(n:Int):D->D
 | .int k=>.tup [.str p,.int n,.int (k+1)]
 | d=>d
theorem on(p:Str)(n:Int)(m:Nat):(eZ 0 m).map (zX p n)=(au p n m).map Sl.d:=by
 unfold eZ au;rw[JK,JK];refine Kq fun k _=>?_;simp only[Function.comp,Sl.d,zX,Int.zero_add]
theorem gG{t u:nH}{σ:gy}{G:Gp}(b1 b2:Bool)(h1:∀ K:Bool->Gp->Prop,K b1 G->t σ G K)(h2:b1=true->∀ K:Bool->Gp->Prop,K b2 G->u σ G K):∀ K:Bool->Gp->Prop,K (b1 && b2) G->nO t u σ G K:=fun K hK=>by
 unfold nO;refine h1 _ ?_;cases b1 with
 | true=>rw[if_pos rfl];exact h2 rfl K hK
 | false=>rw[if_neg (by decide)];exact hK
theorem ve{t u:nH}{σ:gy}{G:Gp}(b1 b2:Bool)(h1:∀ K:Bool->Gp->Prop,K b1 G->t σ G K)(h2:b1=false->∀ K:Bool->Gp->Prop,K b2 G->u σ G K):∀ K:Bool->Gp->Prop,K (b1 || b2) G->vg t u σ G K:=fun K hK=>by
 unfold vg;refine h1 _ ?_;cases b1 with
 | true=>rw[if_pos rfl];exact hK
 | false=>rw[if_neg (by decide)];exact h2 rfl K hK
theorem r8(x:Sl)(ss:List Sl):pQ x.d (ss.map Sl.d)=decide (x∈ss):=by
 by_cases h:x∈ss
 ·rw[decide_eq_true h];exact oA.mpr (List.mem_map_of_mem h)
 ·rw[decide_eq_false h];refine oB.mpr fun z=>?_;obtain⟨y,hy,e⟩:=mem_map.mp z;exact h (Sl.d_inj e ▸ hy)
theorem Dj{x:Sl}{ss:List Sl}{d:D}{G:Gp}{Q:pC}(hd:d=.tup (ss.map Sl.d)\/d=.lst (ss.map Sl.d))(h:Q (.bl (decide (x∈ss))) G):B6 x.d d G Q:=by
 have e:yH G d=some (ss.map Sl.d):=by rcases hd with rfl|rfl<;>rfl
 unfold B6;rw[e];refine⟨⟨nP x 6,jg ss 6⟩,?_⟩;rw[r8];exact h
theorem zZ(ns:List Nm)(n:Nat):∀ d∈ns.map Nm.d,pl (n+2) d:=fun d hd=>by
 obtain⟨s,_,rfl⟩:=mem_map.mp hd;intro d hd;simp only[Kg,Kz,or_false]at hd;rcases hd with rfl|rfl
 ·trivial
 ·trivial
theorem Nm.d_inj{a b:Nm}(h:a.d=b.d):a=b:=by
 obtain⟨a1,a2⟩:=a;obtain⟨b1,b2⟩:=b;simp only[Nm.d,D.tup.injEq,List.cons.injEq,D.str.injEq,D.int.injEq,and_true]at h;obtain⟨rfl,rfl⟩:=h;rfl
theorem kP(Z1 Z2 Z3 Z4 Z5:IW)(hw:HW):bC (bm Z1 Z2 Z3 Z4 Z5 hw) (df Z1 Z2 Z3 Z4 Z5 hw) ["_law_rows","_law_cell","_law_found","_law_k"]:=by
 intro ds G Q h;unfold bm at h;split at h
 ·rename_i xs c;obtain⟨sks,⟨rfl,hl⟩,h⟩:=h;have hs:=av;unfold df;rw[ag];walk_at "s1";refine⟨by walk_at "o",by walk_at "o",by walk_at "o",fun p hp=>?_⟩
  rw[ag];walk_at "s1";rw[IZ];refine⟨⟨by (omega),by (omega)⟩,fun i σ G'=>∃ (names:List Nm) (x3:Option D),σ=[some (.lst (sks.map Sk.d)),some (.int c),some (.ref p),x3]/\G' p=some (.lst (names.map Nm.d))/\names.length<=i+2,⟨[(I_ "zoe",1),(I_ "zoe",1)],_,rfl,az,le_refl _⟩,?_,?_⟩
  ·rintro i d σ G' hd ⟨names,x3,rfl,hG,hn⟩
   rw[Int.toNat_natCast]at hd;have hi:i < sks.length:=by
    have:=(List.getElem?_eq_some_iff.mp hd).1;rw[bR]at this;exact this
   obtain⟨k,hk,rfl⟩:=mem_map.mp (Js hd);have hk':=mem_range.mp hk;simp only[gN,JL,JA];walk_at "s1";refine⟨by unfold A6;omega,by decide,fun zs hz hb=>?_⟩
   obtain⟨z0,z1,rfl⟩:∃ z0 z1,zs=[z0,z1]:=by
    match zs,hz with
    | [a,b],_=>exact⟨a,b,rfl⟩
    | [],e=>simp at e
    | [_],e=>simp at e
    | _::_::_::_,e=>simp at e;omega
   have a1:iF ([z0,z1].map D.int) 1=some (.int z1):=rfl;rw[a1];dsimp only;refine⟨by decide,?_⟩
   have ak:iF (sks.map Sk.d) (0+(k:Int))=some (sks.getD k default).d:=by
    have:=sV (f:=Sk.d) (xs:=sks) (i:=0+(k:Int)) (by walk_at "o") (by walk_at "o")
    rw[this];simp
   rw[ak];split
   ·show (names.map Nm.d).length < Jg/\_;exact⟨by rw[IZ];omega,names ++ [(sks.getD k default).nm],by rw[J0];rfl,by rw[Jh];simp;omega⟩
   ·exact⟨names,rfl,by walk_at "o"⟩
  ·rintro σ G' ⟨names,x3,rfl,hG,hn⟩
   rw[Int.toNat_natCast,bR]at hn;walk_at "st";exact h names _ (by walk_at "o")
 ·exact h.elim
theorem zo{x:Str}{out:List Sk}(om:∀ s∈out,s.act.many<=1000):(aE x.length out).length<=x.length+1000*out.length:=by
 have wl:=kN x.length out (bz [ay] ay (cR x.length)) om;have e1:out.foldl bW (bz [ay] ay (cR x.length))=ay::aE x.length out:=iW x.length out;have ol:(cR x.length).length=x.length:=aY _ _ _;rw[e1,cn,Jv,Jv,ol]at wl;omega
theorem tM{x:Str}{out:List Sk}{names:List Nm}(om:∀ s∈out,s.act.many<=1000):(bx x out names).length<=x.length+1000*out.length:=by
 unfold bx fT;rw[IZ];exact le_trans (List.length_filterMap_le _ _) (zo om)
def yV:D->D
 | .tup (_::t)=>.tup t
 | d=>d
theorem qj(seats:List Seat):(seats.map Seat.d).map yV=seats.map Seat.d3:=by rw[JK];rfl
theorem tR(Z1 Z2 Z3 Z4 Z5:IW)(hw:HW):bC (cW Z1 Z2 Z3 Z4 Z5 hw) (gV Z1 Z2 Z3 Z4 Z5 hw) ["old","strokes","standing"]:=by
 intro ds G Q h;unfold cW at h;split at h
 ·rename_i x xs ns;obtain⟨sks,base,names,hc,h⟩:=h;have hs:=av;unfold gV;simp only[dS,dm,dU,bB,af,aB,ab,iq,Jz,Nj,LV,KY,List.replicate,J2,J3,Jv,JU,Nat.reduceAdd,Nat.reduceSub,val,Kl];refine⟨sks,base,names,hc,fun out G1 hE st mem=>?_⟩;obtain⟨_,hx,_,_,l2,sub,ok,_,_⟩:=hc;have lo:out.length < 64:=by
   have:=gj (fj st) (ys:=base.map Sk.rw) fun r hr=>by
    obtain⟨s,hs',rfl⟩:=mem_map.mp hr;exact mem_map.mpr ⟨s,sub s ((mem s).mp hs'),rfl⟩
   rw[IZ,IZ]at this;omega
  have ls:=tM (x:=x) (names:=names) fun s (hs':s∈out)=>le_trans (jz s) (ok s ((mem s).mp hs')).2;refine cU yV (by rw[IZ];omega) (fun d hd P hP=>?_) ?_
  ·obtain⟨s,_,rfl⟩:=mem_map.mp hd;have ed:s.d=.tup [s.slot.d,s.name.d,.str s.sign,.str s.word]:=rfl;rw[ed]at hP ⊢;refine⟨⟨by simp[JA,List.replicate],rfl⟩,?_⟩
   show _/\_
   refine⟨by unfold HT.sIx;simp,?_⟩
   exact hP _ rfl
  ·rw[qj];exact h out G1 hE st mem
 ·exact h.elim
def DM:D->D
 | .tup (_::d::_)=>d
 | d=>d
theorem tL(seats:List Seat):(seats.map Seat.d3).map DM=(seats.map Seat.sign).map D.str:=by rw[JK,JK];rfl
theorem qZ:∀ ys:List Str,(∀ y∈ys,y.length<=1)->(ys.map (·.length)).sum<=ys.length
 | [],_=>le_refl _
 | y::t,h=>by
  have h1:=qZ t fun z hz=>h z (Jl _ hz);have h2:=h y Jk;rw[Jz,List.sum_cons,Jv];omega
theorem tQ(Z1 Z2 Z3 Z4 Z5:IW)(hw:HW):bC (cV Z1 Z2 Z3 Z4 Z5 hw) (gU Z1 Z2 Z3 Z4 Z5 hw) ["rows"]:=by
 intro ds G Q h;unfold cV at h;split at h
 ·rename_i xs;obtain⟨seats,⟨rfl,hl,h1⟩,h⟩:=h;have hs:=av;unfold gU;walk_at "st";refine cU DM (by rw[IZ];omega) (fun d hd P hP=>?_) ?_
  ·obtain⟨s,_,rfl⟩:=mem_map.mp hd;have ed:s.d3=.tup [s.name.d,.str s.sign,.str s.word]:=rfl;rw[ed]at hP ⊢;refine⟨⟨by simp[JA,List.replicate],rfl⟩,?_⟩
   exact hP _ rfl
  ·rw[tL];refine⟨_,rfl,?_,h⟩;have s1:=qZ (seats.map Seat.sign) fun y hy=>by
    obtain⟨s,hs',rfl⟩:=mem_map.mp hy;exact h1 s hs'
   have e0:(I_ "").length=0:=by decide +kernel
   rw[e0,Nat.mul_zero];rw[IZ]at s1;omega
 ·exact h.elim
theorem wZ{α:Type}(f:α->D)(k:Sl):∀ l:List (Sl×α),d8 (aM f l) k.key=aM f (d8 l k)
 | []=>rfl
 | p::r=>by
  have ih:=wZ f k r;unfold d8 aM at ih ⊢;rw[Jz]
  by_cases e:p.1=k
  ·rw[Kw (by rw[decide_eq_true (by rw[e])];decide),Kw (by rw[decide_eq_true e];decide)]
   exact ih
  ·rw[Kk (by rw[decide_eq_false (fun z=>e (Sl.key_inj z))];rfl),Kk (by rw[decide_eq_false e];rfl),Jz]
   rw[ih]
theorem Dk{n:Nm}{names:List Nm}{G:Gp}{Q:pC}(h:Q (.bl (decide (n∈names))) G):B6 n.d (.lst (names.map Nm.d)) G Q:=by
 show (_/\_)/\_
 refine⟨⟨zZ [n] 5 _ Jk,zZ names 5⟩,?_⟩;have e:pQ n.d (names.map Nm.d)=decide (n∈names):=by
  by_cases hn:n∈names
  ·rw[decide_eq_true hn];exact oA.mpr (List.mem_map_of_mem hn)
  ·rw[decide_eq_false hn];refine oB.mpr fun z=>?_;obtain⟨y,hy,e⟩:=mem_map.mp z;exact hn (Nm.d_inj e ▸ hy)
 rw[e];exact h
theorem yl{names:List Nm}{row:List Sl}{s:Sk}(h:s.wd<=3):(dJ names row s).length<=1000:=by
 unfold dJ;split
 ·exact jI (le_trans h (by decide))
 ·simp
theorem sJ{x:Str}{sks:List Sk}{names:List Nm}{row:List Sl}(hx:x.length<=12)(hl:sks.length<=32)(h:∀ s∈sks,s.wd<=3)(i:Nat):(aW [] ((au (I_ "") 0 x.length).zip (ig x) ++ (sks.take i).flatMap (dJ names row))).length<=40000:=by
 have h1:=dj ((au (I_ "") 0 x.length).zip (ig x) ++ (sks.take i).flatMap (dJ names row)) [];have h2:=lK (dJ names row) (o:=sks.take i) fun s hs=>yl (h s (KG hs));have h3:(sks.take i).length<=sks.length:=List.length_take_le' _ _;rw[Jh,JU,Mj,aY]at h1;omega
theorem tu{p:Str}{m:Int}{w:Str}{i:Nat}(hi:i < w.length):((au p m w.length).zip (ig w)).take (i+1)=((au p m w.length).zip (ig w)).take i ++ [((⟨p,m,0+(i:Int)+1⟩:Sl),mY w (0+(i:Int)))]:=by
 have h1:(au p m w.length)[i]?=some ⟨p,m,0+(i:Int)+1⟩:=by
  unfold au;rw[JB,List.getElem?_range hi,Int.zero_add];rfl
 have h2:(ig w)[i]?=some (mY w (0+(i:Int))):=by
  have hc:i < w.cps.toList.length:=by rw[Array.length_toList];exact hi
  unfold ig mY Gc;rw[Int.zero_add,Int.toNat_natCast,JB,Jb hc,Jn,Jb hc];rfl
 have h3:((au p m w.length).zip (ig w))[i]?=some (⟨p,m,0+(i:Int)+1⟩,mY w (0+(i:Int))):=List.getElem?_zip_eq_some.mpr ⟨h1,h2⟩;rw[Ke,h3];rfl
theorem qe{p:Str}{m:Int}{w:Str}:((au p m w.length).zip (ig w)).take w.length=(au p m w.length).zip (ig w):=by
 refine List.take_of_length_le ?_;rw[Mj,aY];omega
theorem rB(Z1 Z2 Z3 Z4 Z5:IW)(hw:HW):bC (cv Z1 Z2 Z3 Z4 Z5 hw) (gg Z1 Z2 Z3 Z4 Z5 hw) ["_law_old","_law_rows","_law_standing_here","_law_slots","_law_due_here","_law_k","_law_name","_law_time","_law_act","_law_sign"]:=by
 intro ds G Q h;unfold cv at h;split at h
 ·rename_i x xs ys zs;obtain⟨sks,names,row,⟨rfl,rfl,rfl,hx,hl,hw3⟩,h⟩:=h;have hs:=av;unfold gg;rw[ag];walk_at "s1";intro p hp;rw[ag];walk_at "s1";rw[Int.toNat_natCast];refine⟨by walk_at "o",⟨by (omega),by (omega)⟩,fun i σ G'=>∃ x5,σ=[some (.str x),some (.lst (sks.map Sk.d)),some (.lst (names.map Nm.d)),some (.lst (row.map Sl.d)),some (.ref p),x5,none,none,none,none]/\G'=gset G p (.dT hw (aM D.str (aW [] (((cR x.length).zip (ig x)).take i)))),⟨_,rfl,rfl⟩,?_,?_⟩
  ·rintro i d σ G' hd ⟨x5,rfl,rfl⟩
   obtain⟨hi,rfl⟩:=j8 hd;clear hd;simp only[gN,JL,JA];have sa:L3.strAt x (0+(i:Int))=some (.str (mY x (0+(i:Int)))):=tI (by walk_at "o") (by walk_at "o")
   have le:(aM D.str (aW [] (((cR x.length).zip (ig x)).take i))).length<=12:=by
    have h1:=dj (((cR x.length).zip (ig x)).take i) [];unfold aM;rw[IZ];rw[JN,JU]at h1;omega
   walk_at "s1";refine⟨by walk_at "o",by walk_at "o",by walk_at "o",?_⟩
   rw[show cR x.length=au (I_ "") 0 x.length from rfl,tu hi,hJ,<- kT]
   rfl
  ·rintro σ G' ⟨x5,rfl,rfl⟩
   rw[bR,show cR x.length=au (I_ "") 0 x.length from rfl,qe]
   dsimp only;rw[ag];show ForIn _ _ _ _ (sks.map Sk.d) _
   refine⟨fun i σ G'=>∃ x5 x6 x7 x8,σ=[some (.str x),some (.lst (sks.map Sk.d)),some (.lst (names.map Nm.d)),some (.lst (row.map Sl.d)),some (.ref p),x5,x6,x7,x8,none]/\G'=gset G p (.dT hw (aM D.str (aW [] ((au (I_ "") 0 x.length).zip (ig x) ++ (sks.take i).flatMap (dJ names row))))),⟨_,_,_,_,rfl,by rw[MU,List.flatMap_nil,Kl]⟩,?_,?_⟩
   ·rintro i d σ G' hd ⟨x5,x6,x7,x8,rfl,rfl⟩
    rw[JB]at hd;cases hq:sks[i]? with
    | none=>rw[hq]at hd;cases hd
    | some s=>
     rw[hq]at hd;cases hd;have dl:=sJ (names:=names) (row:=row) hx hl hw3 i;have bt:aW [] ((au (I_ "") 0 x.length).zip (ig x) ++ (sks.take (i+1)).flatMap (dJ names row))=aW (aW [] ((au (I_ "") 0 x.length).zip (ig x) ++ (sks.take i).flatMap (dJ names row))) (dJ names row s):=by
      rw[gR (dJ names row) hq,<- JM,eA]
     have sw:=hw3 s (Js hq);generalize aW [] ((au (I_ "") 0 x.length).zip (ig x) ++ (sks.take i).flatMap (dJ names row))=T at *
     obtain⟨pen,num,time,act⟩:=s;show _/\_
     refine⟨rfl,?_⟩;simp only[cI,jb,gN,JL,JA];unfold Act.d;cases act with
     | put an w=>
      have ht1:fh (.str (I_ "put")) (.str (I_ "put"))=true:=bo _;refine bf (true && (decide (((pen,num):Nm)∈names) && decide ((⟨pen,num,1⟩:Sl)∈row))) (gG true _ (fun K hK=>?_) fun _=>gG _ _ (fun K hK=>?_) fun _ K hK=>?_) ?_
      ·walk_at "st"
      ·walk_at "st";exact Dk (n:=(pen,num)) hK
      ·walk_at "st";refine⟨by walk_at "o",?_⟩
       exact Dj (x:=⟨pen,num,1⟩) (.inr rfl) hK
      ·rw[Bool.true_and]
       by_cases hc:((pen,num):Nm)∈names/\(⟨pen,num,1⟩:Sl)∈row
       ·rw[decide_eq_true hc.1,decide_eq_true hc.2,Bool.and_self,if_pos rfl];have ed:dJ names row ⟨pen,num,time,.put an w⟩=(au pen num w.length).zip (ig w):=by
         unfold dJ;exact (if_pos hc).trans rfl
        rw[ed]at bt;have lw:w.length<=3:=sw;clear ht1;walk_at "s1";rw[Int.toNat_natCast];refine⟨by walk_at "o",⟨by (omega),by (omega)⟩,fun j σ G'=>∃ x5,σ=[some (.str x),some (.lst (sks.map Sk.d)),some (.lst (names.map Nm.d)),some (.lst (row.map Sl.d)),some (.ref p),x5,some (.tup [.str pen,.int num]),some (.int time),some (.tup [.str (I_ "put"),an.d,.str w]),none]/\G'=gset G p (.dT hw (aM D.str (aW T (((au pen num w.length).zip (ig w)).take j)))),⟨_,rfl,rfl⟩,?_,?_⟩
        ·rintro j d σ G' hd ⟨x5',rfl,rfl⟩
         obtain⟨hj,rfl⟩:=j8 hd;clear hd;simp only[gN,JL,JA];have sa:L3.strAt w (0+(j:Int))=some (.str (mY w (0+(j:Int)))):=tI (by walk_at "o") (by walk_at "o")
         have le:(aM D.str (aW T (((au pen num w.length).zip (ig w)).take j))).length<=40003:=by
          have h1:=dj (((au pen num w.length).zip (ig w)).take j) T;unfold aM;rw[IZ];rw[JN]at h1;omega
         clear bt;walk_at "s1";refine⟨by walk_at "o",by walk_at "o",by walk_at "o",?_⟩
         rw[tu hj,hJ,<- kT];rfl
        ·rintro σ G' ⟨x5',rfl,rfl⟩
         rw[bR,qe];exact⟨_,_,_,_,rfl,by first|rfl|rw[bt]⟩
       ·have e0:(decide (((pen,num):Nm)∈names) && decide ((⟨pen,num,1⟩:Sl)∈row))=false:=by
         cases e:(decide (((pen,num):Nm)∈names) && decide ((⟨pen,num,1⟩:Sl)∈row)) with
         | false=>rfl
         | true=>
          rw[Bool.and_eq_true,decide_eq_true_eq,decide_eq_true_eq]at e;exact absurd e hc
        rw[e0,if_neg Bool.false_ne_true];have ed:dJ names row ⟨pen,num,time,.put an w⟩=[]:=by
         unfold dJ;exact if_neg hc
        exact⟨_,_,_,_,rfl,by rw[bt,ed];rfl⟩
     | strike nl=>
      have ht1:fh (.str (I_ "strike")) (.str (I_ "put"))=false:=dO (by decide +kernel)
      refine bf (false && true) (gG false true (fun K hK=>?_) fun z=>nomatch z) ?_
      ·walk_at "st"
      ·refine⟨_,_,_,_,rfl,?_⟩;rw[bt];unfold dJ;split<;>rfl
     | dress nl w=>
      have ht1:fh (.str (I_ "dress")) (.str (I_ "put"))=false:=dO (by decide +kernel)
      refine bf (false && true) (gG false true (fun K hK=>?_) fun z=>nomatch z) ?_
      ·walk_at "st"
      ·refine⟨_,_,_,_,rfl,?_⟩;rw[bt];unfold dJ;split<;>rfl
     | move nl b=>
      have ht1:fh (.str (I_ "move")) (.str (I_ "put"))=false:=dO (by decide +kernel)
      refine bf (false && true) (gG false true (fun K hK=>?_) fun z=>nomatch z) ?_
      ·walk_at "st"
      ·refine⟨_,_,_,_,rfl,?_⟩;rw[bt];unfold dJ;split<;>rfl
   ·rintro σ G' ⟨x5,x6,x7,x8,rfl,rfl⟩
    rw[IZ,JR];have dl:=sJ (names:=names) (row:=row) hx hl hw3 sks.length;rw[JR]at dl;dsimp only;rw[ag];have S9:mI x sks names row=(sks.flatMap (dB names)).foldl d8 (aW [] ((au (I_ "") 0 x.length).zip (ig x) ++ sks.flatMap (dJ names row))):=rfl;generalize aW [] ((au (I_ "") 0 x.length).zip (ig x) ++ sks.flatMap (dJ names row))=T at *
    show ForIn _ _ _ _ (sks.map Sk.d) _
    refine⟨fun i σ G'=>∃ x5 x6 x7 x8 x9,σ=[some (.str x),some (.lst (sks.map Sk.d)),some (.lst (names.map Nm.d)),some (.lst (row.map Sl.d)),some (.ref p),x5,x6,x7,x8,x9]/\G'=gset G p (.dT hw (aM D.str (((sks.take i).flatMap (dB names)).foldl d8 T))),⟨_,_,_,_,_,rfl,by rw[MU,List.flatMap_nil];rfl⟩,?_,?_⟩
    ·rintro i d σ G' hd ⟨x5,x6,x7,x8,x9,rfl,rfl⟩
     rw[JB]at hd;cases hq:sks[i]? with
     | none=>rw[hq]at hd;cases hd
     | some s=>
      rw[hq]at hd;cases hd;have bt:((sks.take (i+1)).flatMap (dB names)).foldl d8 T=(dB names s).foldl d8 (((sks.take i).flatMap (dB names)).foldl d8 T):=by
       rw[gR (dB names) hq,List.foldl_append]
      have sw:=hw3 s (Js hq);clear S9 dl;generalize ((sks.take i).flatMap (dB names)).foldl d8 T=T1 at *
      obtain⟨pen,num,time,act⟩:=s;show _/\_
      refine⟨rfl,?_⟩;simp only[cI,jb,gN,JL,JA];unfold Act.d;cases act with
      | strike nl=>
       have ht1:fh (.str (I_ "strike")) (.str (I_ "strike"))=true:=bo _;refine bf (true && decide (((pen,num):Nm)∈names)) (gG true _ (fun K hK=>?_) fun _ K hK=>?_) ?_
       ·walk_at "st"
       ·walk_at "st";exact Dk (n:=(pen,num)) hK
       ·rw[Bool.true_and]
        by_cases hc:((pen,num):Nm)∈names
        ·rw[decide_eq_true hc,if_pos rfl];have ed:dB names ⟨pen,num,time,.strike nl⟩=nl:=by
          unfold dB;refine (if_pos hc).trans ?_;unfold eM;dsimp only;rw[JK];exact map_id _
         rw[ed]at bt;clear ht1;show ForIn _ _ _ _ (nl.map Sl.d) _
         refine⟨fun j σ G'=>∃ x9,σ=[some (.str x),some (.lst (sks.map Sk.d)),some (.lst (names.map Nm.d)),some (.lst (row.map Sl.d)),some (.ref p),x5,some (.tup [.str pen,.int num]),some (.int time),some (.tup [.str (I_ "strike"),.tup (nl.map Sl.d)]),x9]/\G'=gset G p (.dT hw (aM D.str ((nl.take j).foldl d8 T1))),⟨_,rfl,rfl⟩,?_,?_⟩
         ·rintro j d σ G' hd ⟨x9',rfl,rfl⟩
          rw[JB]at hd;cases hqj:nl[j]? with
          | none=>rw[hqj]at hd;cases hd
          | some n=>
           rw[hqj]at hd;cases hd;have tk:(nl.take (j+1)).foldl d8 T1=d8 ((nl.take j).foldl d8 T1) n:=by rw[Ke,hqj,List.foldl_append];rfl
           clear bt;simp only[gN,JL,JA];have en:n.d=.tup [.str n.pen,.int n.n,.int n.k]:=rfl;rw[en];walk_at "s1";rw[<- wZ];rfl
         ·rintro σ G' ⟨x9',rfl,rfl⟩
          rw[IZ,JR];exact⟨_,_,_,_,_,rfl,by rw[bt]⟩
        ·rw[decide_eq_false hc,if_neg Bool.false_ne_true];have ed:dB names ⟨pen,num,time,.strike nl⟩=[]:=by
          unfold dB;exact if_neg hc
         exact⟨_,_,_,_,_,rfl,by rw[bt,ed];rfl⟩
      | put an w=>
       have ht1:fh (.str (I_ "put")) (.str (I_ "strike"))=false:=dO (by decide +kernel)
       refine bf (false && true) (gG false true (fun K hK=>?_) fun z=>nomatch z) ?_
       ·walk_at "st"
       ·refine⟨_,_,_,_,_,rfl,?_⟩;rw[bt];unfold dB;split<;>rfl
      | dress nl w=>
       have ht1:fh (.str (I_ "dress")) (.str (I_ "strike"))=false:=dO (by decide +kernel)
       refine bf (false && true) (gG false true (fun K hK=>?_) fun z=>nomatch z) ?_
       ·walk_at "st"
       ·refine⟨_,_,_,_,_,rfl,?_⟩;rw[bt];unfold dB;split<;>rfl
      | move nl b=>
       have ht1:fh (.str (I_ "move")) (.str (I_ "strike"))=false:=dO (by decide +kernel)
       refine bf (false && true) (gG false true (fun K hK=>?_) fun z=>nomatch z) ?_
       ·walk_at "st"
       ·refine⟨_,_,_,_,_,rfl,?_⟩;rw[bt];unfold dB;split<;>rfl
    ·rintro σ G' ⟨x5,x6,x7,x8,x9,rfl,rfl⟩
     rw[IZ,JR,<- S9];exact h p hp
 ·exact h.elim
theorem AT(ss:List Sl)(lo hi:Option Int):∃ tl:List Sl,L3.cutD (ss.map Sl.d) lo hi=tl.map Sl.d/\tl.Sublist ss/\tl.length<=HT.sIx ss.length ss.length hi - HT.sIx ss.length 0 lo:=by
 refine⟨(ss.drop (HT.sIx ss.length 0 lo)).take (HT.sIx ss.length ss.length hi - HT.sIx ss.length 0 lo),?_,(List.take_sublist _ _).trans (List.drop_sublist _ _),List.length_take_le _ _⟩;unfold L3.cutD;rw[IZ,List.map_take,List.map_drop]
theorem yx{sks:List Sk}{sk:Sk}(ap:(sks.map Sk.rw).Pairwise eK)(hm:∀ s∈sks,s.pen=sk.pen->s.num < sk.num):((sks ++ [sk]).map Sk.rw).Pairwise eK:=by
 rw[J0,LJ];refine⟨ap,List.pairwise_singleton _ _,fun r hr r' hr' z=>?_⟩;obtain⟨s,hs',rfl⟩:=mem_map.mp hr;have e:r'=sk.rw:=by simpa using hr'
 rw[e]at z;have h1:=hm s hs' z.1;have h2:s.num=sk.num:=z.2;omega
def C_(ns:List Int)(ps:List Str)(x:Str)(p q:IW)(i:Nat)(σ:gy)(G:Gp):Prop:=
 ∃ (sks:List Sk) (kvs:List (aQ×D)) (ss sl:List Sl) (x7 x8 x9 x10 x11 x12 x13 x14 x15:Option D),(σ=[some (.lst (ns.map D.int)),some (.lst (ps.map D.str)),some (.str x),some (.lst (ss.map Sl.d)),some (.lst (sl.map Sl.d)),some (.ref p),some (.ref q),x7,x8,x9,x10,x11,x12,x13,x14,x15]/\G p=some (.lst (sks.map Sk.d))/\G q=some (.dK kvs))/\
  (sks.length=i/\kvs.length<=i/\0 < ss.length/\ss.length<=13+3*i/\0 < sl.length/\sl.length<=14+120*i)/\
  (∀ s∈sks,1<=s.num/\s.wd<=3)/\(sks.map Sk.rw).Pairwise eK/\(∀ k d,eL kvs k=some d->∃ m:Int,d=.int m/\0<=m)/\(∀ s∈sks,∃ m:Int,eL kvs (.inr s.pen)=some (.int m)/\s.num<=m)
theorem lY(Z1 Z2 Z3 Z4 Z5:IW)(hw:HW):bC (bw Z1 Z2 Z3 Z4 Z5 hw) (dF Z1 Z2 Z3 Z4 Z5 hw) ["_law_cells","_law_pens","_law_old","_law_signs","_law_slots","_law_rows","_law_many","_law_cell","_law_xs","_law_pen","_law_name","_law_anchor","_law_at","_law_names","_law_act","_law_some"]:=by
 intro ds G Q h;unfold bw at h;split at h
 ·rename_i cs SU x;obtain⟨ns,ps,⟨rfl,l1,rfl,l2,l3,l4⟩,h⟩:=h;have hs:=av;unfold dF;rw[ag];walk_at "s1";refine⟨by walk_at "o",⟨by (omega),by (omega)⟩,cU (zX (I_ "") 0) (by rw[bR];omega) (fun d hd P hP=>?_) ?_⟩
  ·obtain⟨k,hk,rfl⟩:=mem_map.mp hd;walk_at "st";exact⟨rfl,by walk_at "o",hP _ rfl⟩
  rw[on,Int.toNat_natCast];have lo:(au (I_ "") 0 x.length).length=x.length:=aY _ _ _;dsimp only;refine⟨by walk_at "o",by walk_at "o",by simp only[IZ,Jv,JU];omega,?_⟩
  have e0:(au (I_ "") 0 x.length).map Sl.d ++ [D.tup [.str (I_ "zoe"),.int 1,.int 1]]=(au (I_ "") 0 x.length ++ [(⟨I_ "zoe",1,1⟩:Sl)]).map Sl.d:=by rw[J0];rfl
  rw[e0];have ls0:(au (I_ "") 0 x.length ++ [(⟨I_ "zoe",1,1⟩:Sl)]).length=x.length+1:=by rw[Jh,lo];rfl
  clear e0 lo;generalize au (I_ "") 0 x.length ++ [(⟨I_ "zoe",1,1⟩:Sl)]=ss0 at *
  rw[ag];walk_at "s1";rw[IZ];refine⟨by walk_at "o",by walk_at "o",by walk_at "o",?_⟩
  have es:D.tup [.str (I_ ""),.int 0,.int 0]::ss0.map Sl.d=(ay::ss0).map Sl.d:=rfl;rw[es];clear es;rw[ag];walk_at "s1";refine⟨by walk_at "o",fun p hp=>?_⟩
  rw[ag];walk_at "s1";intro q hq;have hpq:p≠q:=fun z=>by subst z;rw[az]at hq;cases hq
  rw[ag];walk_at "s1";refine⟨C_ ns ps x p q,⟨[],[],ss0,ay::ss0,_,_,_,_,_,_,_,_,_,⟨rfl,by rw[aK hpq,az];rfl,az⟩,⟨rfl,le_refl _,by walk_at "o",by walk_at "o",by rw[Jv];omega,by rw[Jv];omega⟩,fun r hr=>by simp at hr,.nil,fun k d e=>by simp[eL]at e,fun r hr=>by simp at hr⟩,?_,?_⟩
  ·clear hq hp ls0;clear ss0
   rintro i d σ G' hd ⟨sks,kvs,ss,sl,x7,x8,x9,x10,x11,x12,x13,x14,x15,⟨rfl,g1,g2⟩,⟨e1,e2,e3,e4,e5,e6⟩,ok,ap,kv,last⟩
   obtain⟨c,rfl⟩:∃ c:Int,d=.int c:=by
    obtain⟨c,_,rfl⟩:=mem_map.mp (Js hd);exact⟨c,rfl⟩
   have hi:i < 32:=by
    have:=(List.getElem?_eq_some_iff.mp hd).1;rw[IZ]at this;omega
   clear hd;simp only[gN,JL,JA];rw[ag];walk_at "s1";walk_at "conds";intro xs hx hb;obtain⟨a0,a1,a2,a3,a4,a5,a6,a7,rfl⟩:=Gq (ns:=xs) (by walk_at "o")
   rw[ag];walk_at "s1";rw[IZ];have bp:=dy (a:=a0) (b:=(ps.length:Int)) (by walk_at "o")
   refine⟨by walk_at "o",?_⟩
   rw[sV bp.1 bp.2];dsimp only;generalize ps.getD (a0 % (ps.length:Int)).toNat default=pen;obtain⟨m0,hm0,em,mx⟩:∃ m0:Int,0<=m0/\(eL kvs (.inr pen)).getD (.int 0)=.int m0/\∀ r∈sks,r.pen=pen->r.num<=m0:=by
    cases e:eL kvs (.inr pen) with
    | none=>
     refine⟨0,by decide,rfl,fun r hr z=>?_⟩
     obtain⟨m,hm,_⟩:=last r hr;rw[z,e]at hm;cases hm
    | some d=>
     obtain⟨m,rfl,h0⟩:=kv _ _ e;refine⟨m,h0,rfl,fun r hr z=>?_⟩;obtain⟨m',hm,hle⟩:=last r hr;rw[z,e]at hm;cases hm;exact hle
   rw[ag];walk_at "s1";refine⟨by walk_at "o",?_⟩
   have ad:eL (cH kvs (.inr pen) (.int (m0+1))) (.inr pen)=some (.int (m0+1)):=by rw[i_,if_pos rfl]
   have kl:=gi kvs (.inr pen) (.int (m0+1));have kv':∀ k d,eL (cH kvs (.inr pen) (.int (m0+1))) k=some d->∃ m:Int,d=.int m/\0<=m:=fun k d e=>by
    rw[i_]at e;split at e
    ·cases e;exact⟨_,rfl,by walk_at "o"⟩
    ·exact kv k d e
   have Rs:∀ s∈sks,∃ m:Int,eL (cH kvs (.inr pen) (.int (m0+1))) (.inr s.pen)=some (.int m)/\s.num<=m:=fun s hs'=>by
    rw[i_]
    by_cases z:(Sum.inr s.pen:aQ)=.inr pen
    ·rw[if_pos z];refine⟨_,rfl,?_⟩;have:=mx s hs' (by simpa using z)
     omega
    ·rw[if_neg z];exact last s hs'
   have g3:gset G' q (.dK (cH kvs (.inr pen) (.int (m0+1)))) p=some (.lst (sks.map Sk.d)):=by rw[aK hpq];exact g1
   have g4:gset G' q (.dK (cH kvs (.inr pen) (.int (m0+1)))) q=some (.dK (cH kvs (.inr pen) (.int (m0+1)))):=az;generalize gset G' q (.dK (cH kvs (.inr pen) (.int (m0+1))))=G3 at *
   generalize cH kvs (.inr pen) (.int (m0+1))=kvs1 at *
   clear kv last em g1 g2;have e7:kvs1.length<=i+1:=by walk_at "o"
   clear kl e2;rw[ag];walk_at "s1";refine⟨by walk_at "o",?_⟩
   rw[ag];walk_at "s1";rw[IZ];have bs:=dy (a:=a2) (b:=(sl.length:Int)) (by walk_at "o")
   refine⟨by walk_at "o",?_⟩
   rw[sV bs.1 bs.2];dsimp only;generalize sl.getD (a2 % (sl.length:Int)).toNat default=an at *
   have ea:an.d=.tup [.str an.pen,.int an.n,.int an.k]:=rfl;rw[ea];clear ea bs bp;rw[ag];walk_at "s1";rw[IZ];have ba:=dy (a:=a3) (b:=(ss.length:Int)) (by walk_at "o")
   refine⟨by walk_at "o",?_⟩
   rw[ag];walk_at "s1";have b3:=dy (a:=a4) (b:=3) (by decide)
   refine⟨by decide,?_⟩
   obtain⟨nm0,enm,snm,lnm0⟩:=AT ss (some (a3 % (ss.length:Int))) (some (a3 % (ss.length:Int)+1+a4 % 3));rw[enm];clear enm;have lnm:nm0.length<=3:=by
    unfold HT.sIx at lnm0;dsimp only at lnm0;rw[if_neg (by walk_at "o"),if_neg (by walk_at "o")]at lnm0
    omega
   clear lnm0 snm;generalize nm0=nm at *
   have lm3:=lnm;clear lnm;rw[ag];walk_at "s1";obtain⟨wd,hwd,lwd⟩:∃ wd:Str,iF [D.str (I_ "a"),D.str (I_ "b\n"),D.str (I_ "\\~ ")] (a4 % 3)=some (.str wd)/\wd.length<=3:=by
    have:a4 % 3=0\/a4 % 3=1\/a4 % 3=2:=by walk_at "o"
    rcases this with e|e|e<;>rw[e]
    ·exact⟨_,rfl,by decide +kernel⟩
    ·exact⟨_,rfl,by decide +kernel⟩
    ·exact⟨_,rfl,by decide +kernel⟩
   rw[hwd];dsimp only;refine⟨by walk_at "o",by decide,by walk_at "o",?_⟩
   clear hwd b3;refine zg (NX:=fun σ' G'=>∃ (act:Act) (fs:List D) (y:Option D),(σ'=[some (.lst (ns.map D.int)),some (.lst (ps.map D.str)),some (.str x),some (.lst (ss.map Sl.d)),some (.lst (sl.map Sl.d)),some (.ref p),some (.ref q),some (.int c),some (.lst [.int a0,.int a1,.int a2,.int a3,.int a4,.int a5,.int a6,.int a7]),some (.str pen),some (.tup [.str pen,.int (m0+1)]),some (.tup [.str an.pen,.int an.n,.int an.k]),some (.int (a3 % (ss.length:Int))),some (.tup (nm.map Sl.d)),some (.tup fs),y]/\G'=G3)/\act.d=.tup fs/\(⟨pen,m0+1,1+a1 % 9,act⟩:Sk).wd<=3) (fun σ' G5 hM=>?_) (fun NX hNX=>?_)
   ·obtain⟨act,fs,y,⟨rfl,rfl⟩,efs,wact⟩:=hM;clear lwd;clear wd;rw[ag];walk_at "s1";refine⟨by decide,by walk_at "o",by rw[IZ];omega,?_⟩
    generalize hG7:gset G5 p _=G7;obtain⟨sk,hsk⟩:∃ sk:Sk,sk=⟨pen,m0+1,1+a1 % 9,act⟩:=⟨_,rfl⟩;have s2:G7 p=some (.lst ((sks ++ [sk]).map Sk.d)):=by rw[<- hG7,az,J0,hsk,<- efs];rfl
    have s3:G7 q=some (.dK kvs1):=by rw[<- hG7,aK hpq.symm];exact g4
    clear hG7 g3 g4;have fin:∀ ss' sl':List Sl,0 < ss'.length->ss'.length<=13+3*(i+1)->0 < sl'.length->sl'.length<=14+120*(i+1)->
      C_ ns ps x p q (i+1) [some (.lst (ns.map D.int)),some (.lst (ps.map D.str)),some (.str x),some (.lst (ss'.map Sl.d)),some (.lst (sl'.map Sl.d)),some (.ref p),some (.ref q),some (.int c),some (.lst [.int a0,.int a1,.int a2,.int a3,.int a4,.int a5,.int a6,.int a7]),some (.str pen),some (.tup [.str pen,.int (m0+1)]),some (.tup [.str an.pen,.int an.n,.int an.k]),some (.int (a3 % (ss.length:Int))),some (.tup (nm.map Sl.d)),some (.tup fs),y] G7:=fun ss' sl' f1 f2 f3 f4=>by
     refine⟨sks ++ [sk],kvs1,ss',sl',_,_,_,_,_,_,_,_,_,⟨rfl,s2,s3⟩,⟨by rw[Jh,e1];rfl,e7,f1,f2,f3,f4⟩,fun s hs'=>?_,yx ap fun s hs' z=>?_,kv',fun s hs'=>?_⟩
     ·rcases Mi.mp hs' with z|z
      ·exact ok s z
      ·rw[mem_singleton.mp z,hsk];exact⟨by show 1<=m0+1;omega,wact⟩
     ·rw[hsk]at z ⊢;have:=mx s hs' z;show s.num < m0+1
      omega
     ·rcases Mi.mp hs' with z|z
      ·exact Rs s z
      ·rw[mem_singleton.mp z,hsk];exact⟨m0+1,ad,Int.le_refl _⟩
    clear s2 s3 ok ap mx Rs kv' hx hb;cases act with
    | put b w=>
     have Rf:fs=[.str (I_ "put"),.tup [.str b.pen,.int b.n,.int b.k],.str w]:=by injection efs with e;exact e.symm
     subst Rf;clear efs;have lw:w.length<=3:=wact;have n1:=dO (a:="put") (b:="move") (by decide +kernel)
     rw[ag];refine bf true (fun K hK=>?_) (iteT ?_)
     ·walk_at "st"
     rw[ag];walk_at "s1";refine⟨by walk_at "o",⟨by (omega),by (omega)⟩,cU (zX pen (m0+1)) (by rw[bR];omega) (fun d hd P hP=>?_) ?_⟩
     ·obtain⟨k,hk,rfl⟩:=mem_map.mp hd;walk_at "st";exact⟨rfl,by walk_at "o",hP _ rfl⟩
     rw[on,Int.toNat_natCast];dsimp only;have lnw:(au pen (m0+1) w.length).length=w.length:=aY _ _ _;rw[<- J0];generalize hcut:some ((((ss ++ au pen (m0+1) w.length).map Sl.d).length:Int) - (w.length:Int))=lo;obtain⟨tl,etl,stl,_⟩:=AT (ss ++ au pen (m0+1) w.length) lo none;have ltl:=stl.length_le;rw[Jh,lnw]at ltl;rw[etl,<- J0];refine⟨by simp only[IZ,lnw];omega,by walk_at "o",by simp only[IZ];omega,?_⟩
     exact fin (ss ++ au pen (m0+1) w.length) (sl ++ tl) (by rw[Jh];omega) (by rw[Jh,lnw];omega) (by rw[Jh];omega) (by rw[Jh];omega)
    | strike nl=>
     have Rf:fs=[.str (I_ "strike"),.tup (nl.map Sl.d)]:=by injection efs with e;exact e.symm
     subst Rf;have n1:=dO (a:="strike") (b:="put") (by decide +kernel)
     have n2:=dO (a:="strike") (b:="move") (by decide +kernel)
     rw[ag];refine bf false (fun K hK=>?_) (iteF ?_)
     ·walk_at "st"
     simp only[dA];refine bf false (fun K hK=>?_) (iteF ?_)
     ·walk_at "st"
     exact fin ss sl e3 (by walk_at "o") e5 (by walk_at "o")
    | dress nl w=>
     have Rf:fs=[.str (I_ "dress"),.tup (nl.map Sl.d),.str w]:=by injection efs with e;exact e.symm
     subst Rf;have n1:=dO (a:="dress") (b:="put") (by decide +kernel)
     have n2:=dO (a:="dress") (b:="move") (by decide +kernel)
     rw[ag];refine bf false (fun K hK=>?_) (iteF ?_)
     ·walk_at "st"
     simp only[dA];refine bf false (fun K hK=>?_) (iteF ?_)
     ·walk_at "st"
     exact fin ss sl e3 (by walk_at "o") e5 (by walk_at "o")
    | move nl b=>
     have Rf:fs=[.str (I_ "move"),.tup (nl.map Sl.d),.tup [.str b.pen,.int b.n,.int b.k]]:=by injection efs with e;exact e.symm
     subst Rf;have n1:=dO (a:="move") (b:="put") (by decide +kernel)
     rw[ag];refine bf false (fun K hK=>?_) (iteF ?_)
     ·walk_at "st"
     simp only[dA];refine bf true (fun K hK=>?_) (iteT ?_)
     ·walk_at "st"
     walk_at "s1";rw[IZ];refine⟨⟨by (omega),by (omega)⟩,cU (zX pen (m0+1)) (by rw[bR];omega) (fun d hd P hP=>?_) ?_⟩
     ·obtain⟨k,hk,rfl⟩:=mem_map.mp hd;walk_at "st";exact⟨rfl,by walk_at "o",hP _ rfl⟩
     rw[on,Int.toNat_natCast];dsimp only;have lnw:(au pen (m0+1) nm.length).length=nm.length:=aY _ _ _;rw[<- J0];refine⟨by simp only[IZ,lnw];omega,?_⟩
     exact fin ss (sl ++ au pen (m0+1) nm.length) e3 (by walk_at "o") (by rw[Jh];omega) (by rw[Jh,lnw];omega)
   ·refine bf (decide (2 < a5 % 9)) (fun K hK=>?_) (Aw (fun e=>?_) fun e=>?_)
    ·walk_at "st";decide
    ·rw[ag];walk_at "s1";obtain⟨wr,hwr⟩:∃ wr:Str,iF [D.str (I_ ""),D.str (I_ "bold")] (a6 % 2)=some (.str wr):=by
      have:a6 % 2=0\/a6 % 2=1:=by walk_at "o"
      rcases this with e|e<;>rw[e]<;>exact⟨_,rfl⟩
     rw[hwr];dsimp only;refine⟨by walk_at "o",by walk_at "o",by walk_at "o",by decide,by walk_at "o",by walk_at "o",by decide,?_⟩
     have b4:a5 % 3=0\/a5 % 3=1\/a5 % 3=2:=by walk_at "o"
     rcases b4 with e4|e4|e4<;>rw[e4]
     ·rw[Dv];exact hNX _ _ ⟨.strike nm,_,_,⟨rfl,rfl⟩,rfl,lm3⟩
     ·rw[Du];exact hNX _ _ ⟨.move nm an,_,_,⟨rfl,rfl⟩,rfl,lm3⟩
     ·rw[Dt];exact hNX _ _ ⟨.dress nm wr,_,_,⟨rfl,rfl⟩,rfl,lm3⟩
    ·simp only[dA];exact hNX _ _ ⟨.put an wd,_,_,⟨rfl,rfl⟩,rfl,lwd⟩
  ·rintro σ G' ⟨sks,kvs,ss,sl,x7,x8,x9,x10,x11,x12,x13,x14,x15,⟨rfl,g1,g2⟩,⟨e1,e2,e3,e4,e5,e6⟩,ok,ap,kv,last⟩
   rw[IZ]at e1;walk_at "st";exact h sks _ ⟨by walk_at "o",ok,ap⟩
 ·exact h.elim
theorem lH:∀ {ss W:List Sl} {b:Sl},W.Nodup->b∈W->ss.Nodup->(∀ x∈ss,x∉W)->(bz W b ss).Nodup
 | [],W,b,hW,_,_,_=>hW
 | x::t,W,b,hW,hb,nd,hf=>by
  rw[KF]at nd;unfold bz;refine lH (oU hW (hf x Jk) hb) ((d7 hb x).mpr (.inr rfl)) nd.2 fun y hy hW'=>?_;rcases (d7 hb y).mp hW' with z|z
  ·exact hf y (Jl _ hy) z
  ·exact nd.1 (z ▸ hy)
theorem vj{W:List Sl}{s:Sk}(hW:W.Nodup)(hf:∀ x∈made s,x∉W):(bW W s).Nodup:=by
 unfold bW;split
 ·exact lH hW (by assumption) (d6 _ _ _) hf
 ·exact hW
theorem qu{n:Nat}:∀ (out done:List Sk) (W:List Sl),td done W->W.Nodup->((done ++ out).map Sk.rw).Pairwise eK->(∀ s∈out,1<=s.num)->(out.foldl bW W).Nodup
 | [],done,W,_,hW,_,_=>hW
 | s::t,done,W,hF,hW,ap,ok=>by
  have ap2:∀ r∈done,¬ (r.pen=s.pen/\r.num=s.num):=fun r hr z=>by
   rw[J0,LJ]at ap;exact ap.2.2 r.rw (mem_map.mpr ⟨r,hr,rfl⟩) s.rw (by simp) z
  refine qu (n:=n) t (done ++ [s]) (bW W s) (mF hF) (vj hW (oX hF (ok s Jk) ap2)) (by simpa using ap) fun x hx=>ok x (Jl _ hx)
theorem A1{s:Sk}:∀ (out done:List Sk) (W:List Sl),td done W->((done ++ out).map Sk.rw).Pairwise eK->(∀ r∈out,1<=r.num)->s∈out->∀ x∈made s,x∈out.foldl bW W->∀ y∈made s,y∈out.foldl bW W
 | [],_,_,_,_,_,hs,_,_,_=>absurd hs (by simp)
 | r::t,done,W,hF,ap,ok,hs,x,hx,hin=>by
  have ap2:∀ q∈done,¬ (q.pen=r.pen/\q.num=r.num):=fun q hq z=>by
   rw[J0,LJ]at ap;exact ap.2.2 q.rw (mem_map.mpr ⟨q,hq,rfl⟩) r.rw (by simp) z
  have ap3:∀ q∈t,¬ (r.pen=q.pen/\r.num=q.num):=fun q hq z=>by
   rw[J0,LJ,Jz,List.pairwise_cons]at ap;exact ap.2.1.1 q.rw (mem_map.mpr ⟨q,hq,rfl⟩) z
  have ok':∀ q∈t,1<=q.num:=fun q hq=>ok q (Jl _ hq);have keep:∀ (l:List Sk) (V:List Sl) y,y∈V->y∈l.foldl bW V:=by
   intro l
   induction l with
   | nil=>intro V y hy;exact hy
   | cons q u ih=>
    intro V y hy;refine ih _ y ?_;unfold bW;split
    ·rename_i ha;exact (fO ha y).mpr (.inl hy)
    ·exact hy
  rcases Kg.mp hs with e|e
  ·subst e;have back:∀ (l:List Sk) (V:List Sl),(∀ q∈l,¬ (s.pen=q.pen/\s.num=q.num))->x∈l.foldl bW V->x∈V:=by
    intro l
    induction l with
    | nil=>intro V _ hy;exact hy
    | cons q u ih=>
     intro V hq hy;have h1:=ih (bW V q) (fun z hz=>hq z (Jl _ hz)) hy;unfold bW at h1;split at h1
     ·rename_i ha;rcases (fO ha x).mp h1 with z|z
      ·exact z
      ·obtain⟨p1,p2,_⟩:=bJ z;obtain⟨p3,p4,_⟩:=bJ hx;exact absurd ⟨p3.symm.trans p1,p4.symm.trans p2⟩ (hq q Jk)
     ·exact h1
   have h1:=back t (bW W s) ap3 hin;have fr:=oX hF (ok s Jk) ap2 x hx;intro y hy;refine keep t _ y ?_;unfold bW at h1 ⊢;split at h1
   ·rename_i ha;rw[if_pos ha];exact (fO ha y).mpr (.inr hy)
   ·exact absurd h1 fr
  ·exact A1 t (done ++ [r]) (bW W r) (mF hF) (by simpa using ap) ok' e x hx hin
theorem Af{s:Sk}(hs:1<=s.num):∀ y∈made s,y≠ay:=fun y hy z=>by
 obtain⟨_,h,_⟩:=bJ hy;rw[z]at h;have:(0:Int)=s.num:=h;omega
theorem Bu{n:Nat}{out:List Sk}{s:Sk}(ap:(out.map Sk.rw).Pairwise eK)(ok:∀ r∈out,1<=r.num)(hs:s∈out){x:Sl}(hx:x∈made s)(hin:x∈aE n out):gv (aE n out) s=true:=by
 refine Op.mpr fun y hy=>decide_eq_true ?_;have h:=A1 out [] _ (km n) (by simpa using ap) ok hs x hx
 have ew:out.foldl bW (bz [ay] ay (cR n))=ay::aE n out:=iW n out;rw[ew]at h;rcases Kg.mp (h (Jl _ hin) y hy)with z|z
 ·exact absurd z (Af (ok s hs) y hy)
 ·exact z
section
variable{α:Type}
def CQ(m:List (Sl×α)):Prop:=∀ k v v',(k,v)∈m->(k,v')∈m->v=v'
theorem sU:∀ (m l:List (Sl×α)) (k:Sl),(b8 (aW l m) k=b8 l k/\∀ p∈m,p.1≠k)\/∃ v,(k,v)∈m/\b8 (aW l m) k=some v
 | [],l,k=>.inl ⟨rfl,fun p hp=>by simp at hp⟩
 | p::r,l,k=>by
  have e:aW l (p::r)=aW (iw l p.1 p.2) r:=rfl;rw[e];rcases sU r (iw l p.1 p.2) k with ⟨h1,h2⟩|⟨v,h1,h2⟩
  ·by_cases z:p.1=k
   ·refine .inr ⟨p.2,by rw[<- z];exact Jk,?_⟩
    rw[h1,sZ,if_pos z.symm]
   ·refine .inl ⟨by rw[h1,sZ,if_neg (fun y=>z y.symm)],fun q hq=>?_⟩
    rcases Kg.mp hq with y|y
    ·rw[y];exact z
    ·exact h2 q y
  ·exact .inr ⟨v,Jl _ h1,h2⟩
theorem wp{m:List (Sl×α)}(h:CQ m)(k:Sl)(v:α):b8 (aW [] m) k=some v↔(k,v)∈m:=by
 rcases sU m [] k with ⟨h1,h2⟩|⟨u,h1,h2⟩
 ·rw[h1];exact⟨fun z=>by simp[b8]at z,fun z=>absurd rfl (h2 _ z)⟩
 ·rw[h2];constructor
  ·intro z;cases z;exact h1
  ·intro z;rw[h k u v h1 z]
theorem Ds{m:List (Sl×α)}(k:Sl):(b8 (aW [] m) k).isSome=true↔∃ v,(k,v)∈m:=by
 rcases sU m [] k with ⟨h1,h2⟩|⟨u,h1,h2⟩
 ·rw[h1];exact⟨fun z=>by simp[b8]at z,fun⟨v,z⟩=>absurd rfl (h2 _ z)⟩
 ·rw[h2];exact⟨fun _=>⟨u,h1⟩,fun _=>rfl⟩
theorem v4{l:List (Sl×α)}{k:Sl}:k∈l.map (·.1)↔(b8 l k).isSome=true:=by
 constructor
 ·intro h;obtain⟨p,hp,rfl⟩:=mem_map.mp h;obtain⟨v,hv⟩:=uY hp;rw[hv];rfl
 ·intro h;cases e:b8 l k with
  | none=>rw[e]at h;cases h
  | some v=>exact mem_map.mpr ⟨_,nG e,rfl⟩
theorem vI{l:List (Sl×α)}{k:Sl}{v:α}(h:(l.map (·.1)).Nodup):((iw l k v).map (·.1)).Nodup:=by
 unfold iw;split
 ·have e:(l.map fun p=>if p.1=k then (p.1,v)else p).map (·.1)=l.map (·.1):=by
   rw[JK];refine Kq fun p _=>?_;simp only[Function.comp];split<;>rfl
  rw[e];exact h
 ·rename_i hn;rw[J0,List.nodup_append];refine⟨h,by simp,fun a ha b hb z=>?_⟩
  obtain⟨p,hp,rfl⟩:=mem_map.mp ha;have:b=k:=by simpa using hb
  exact hn (NA.mpr ⟨p,hp,decide_eq_true (z.trans this)⟩)
theorem mM:∀ {m l:List (Sl×α)},(l.map (·.1)).Nodup->((aW l m).map (·.1)).Nodup
 | [],_,h=>h
 | p::r,l,h=>mM (m:=r) (l:=iw l p.1 p.2) (vI h)
theorem AZ(k j:Sl):∀ l:List (Sl×α),b8 (d8 l k) j=if j=k then none else b8 l j
 | []=>by simp[d8,b8]
 | p::r=>by
  have ih:=AZ k j r;unfold d8 at ih ⊢
  by_cases e:p.1=k
  ·rw[Kw (by rw[decide_eq_true e];decide),ih]
   by_cases z:j=k
   ·rw[if_pos z,if_pos z]
   ·rw[if_neg z,if_neg z];have:¬ p.1=j:=fun y=>z (y.symm.trans e);unfold b8;rw[List.find?_cons_of_neg (by simpa using this)]
  ·rw[Kk (by rw[decide_eq_false e];rfl)]
   by_cases y:p.1=j
   ·rw[if_neg (fun z=>e (y.trans z))];unfold b8;rw[List.find?_cons_of_pos (by simpa using y),List.find?_cons_of_pos (by simpa using y)]
   ·unfold b8 at ih ⊢;rw[List.find?_cons_of_neg (by simpa using y),List.find?_cons_of_neg (by simpa using y)]
    exact ih
theorem xh(j:Sl):∀ (ks:List Sl) (l:List (Sl×α)),b8 (ks.foldl d8 l) j=if j∈ks then none else b8 l j
 | [],l=>by simp
 | k::t,l=>by
  rw[L0,xh j t,AZ]
  by_cases z:j∈t
  ·rw[if_pos z,if_pos (Jl _ z)]
  ·rw[if_neg z]
   by_cases y:j=k
   ·rw[if_pos y,if_pos (by rw[y];exact Jk)]
   ·rw[if_neg y,if_neg (fun q=>(Kg.mp q).elim y z)]
theorem pf:∀ {ks:List Sl} {l:List (Sl×α)},(l.map (·.1)).Nodup->((ks.foldl d8 l).map (·.1)).Nodup
 | [],_,h=>h
 | k::t,l,h=>pf (ks:=t) (l:=d8 l k) (h.sublist (List.filter_sublist.map _))
theorem uQ:∀ (ks:List Sl) (l:List (Sl×α)),(ks.foldl d8 l).length<=l.length
 | [],_=>le_refl _
 | k::t,l=>le_trans (uQ t (d8 l k)) (La _ _)
end
theorem zW{p:Str}{m:Int}{l j:Nat}{n:Sl}(h:(au p m l)[j]?=some n):n=⟨p,m,(j:Int)+1⟩/\j < l:=by
 unfold au at h;rw[JB]at h;have hj:j < l:=by
  cases e:(List.range l)[j]? with
  | none=>rw[e]at h;cases h
  | some k=>
   have:=(List.getElem?_eq_some_iff.mp e).1;rwa[List.length_range]at this
 rw[List.getElem?_range hj]at h;cases h;exact⟨rfl,hj⟩
theorem k_{β:Type}{p:Str}{m:Int}{l:Nat}{vs:List β}{n:Sl}{v:β}(h:(n,v)∈(au p m l).zip vs):∃ j:Nat,n=⟨p,m,(j:Int)+1⟩/\vs[j]?=some v/\j < l:=by
 obtain⟨j,hj⟩:=List.mem_iff_getElem?.mp h;rw[List.getElem?_zip_eq_some]at hj;obtain⟨h1,h2⟩:=zW hj.1;exact⟨j,h1,hj.2,h2⟩
theorem Bf{β:Type}{p:Str}{m:Int}{l:Nat}{vs:List β}{n:Sl}{v:β}(h:(v,n)∈vs.zip (au p m l)):∃ j:Nat,n=⟨p,m,(j:Int)+1⟩/\vs[j]?=some v/\j < l:=by
 obtain⟨j,hj⟩:=List.mem_iff_getElem?.mp h;rw[List.getElem?_zip_eq_some]at hj;obtain⟨h1,h2⟩:=zW hj.2;exact⟨j,h1,hj.1,h2⟩
theorem vU{p:Str}{m:Int}{l j:Nat}(h:j < l):(⟨p,m,(j:Int)+1⟩:Sl)∈au p m l:=mem_map.mpr ⟨j,mem_range.mpr h,rfl⟩
theorem fg{s:Sk}{n:Sl}{v:Str}(h:(n,v)∈dC s):∃ a x,s.act=.put a x/\∃ j:Nat,n=⟨s.pen,s.num,(j:Int)+1⟩/\(ig x)[j]?=some v/\n∈made s/\(⟨s.pen,s.num,1⟩:Sl)∈made s:=by
 unfold dC at h;cases e:s.act with
 | put a x=>
  rw[e]at h;obtain⟨j,h1,h2,h3⟩:=k_ (show (n,v)∈(au s.pen s.num s.act.many).zip (ig x)from h)
  refine⟨a,x,rfl,j,h1,h2,?_,?_⟩
  ·rw[h1];exact vU h3
  ·have:=vU (p:=s.pen) (m:=s.num) (j:=0) (lt_of_le_of_lt (JQ _) h3);have e0:((0:Nat):Int)+1=1:=rfl;rw[e0]at this;exact this
 | _=>rw[e]at h;simp at h
theorem yU{s:Sk}{n t:Sl}(h:(n,t)∈iR s):∃ ns b,s.act=.move ns b/\∃ j:Nat,t=⟨s.pen,s.num,(j:Int)+1⟩/\ns[j]?=some n/\t∈made s:=by
 unfold iR at h;cases e:s.act with
 | move ns b=>
  rw[e]at h;obtain⟨j,h1,h2,h3⟩:=Bf (show (n,t)∈ns.zip (au s.pen s.num s.act.many)from h)
  refine⟨ns,b,rfl,j,h1,h2,?_⟩;rw[h1];exact vU h3
 | _=>rw[e]at h;simp at h
theorem vi{s:Sk}{n:Sl}{u:Unit}(h:(n,u)∈eM s):made s=[]:=by
 unfold eM at h;cases e:s.act with
 | strike ns=>
  unfold made au;rw[e];rfl
 | _=>rw[e]at h;simp at h
def nw(o:List Sk):Prop:=∀ a∈o,∀ b∈o,a.pen=b.pen->a.num=b.num->a=b
theorem uV{x:Str}{o:List Sk}(pos:∀ s∈o,1<=s.num)(un:nw o):CQ ((cR x.length).zip (ig x) ++ o.flatMap dC):=fun k v v' h h'=>by
 rcases Mi.mp h with z|z<;>rcases Mi.mp h' with z'|z'
 ·obtain⟨j,e1,e2,_⟩:=k_ z;obtain⟨j',e3,e4,_⟩:=k_ z';rw[e1]at e3;injection e3 with _ _ e
  have:j=j':=by walk_at "o"
  subst this;rw[e2]at e4;cases e4;rfl
 ·obtain⟨j,e1,_,_⟩:=k_ z;obtain⟨s,hs,hb⟩:=Nz.mp z';obtain⟨a,y,_,j',e3,_⟩:=fg hb;rw[e1]at e3;injection e3 with _ e _
  have:=pos s hs;omega
 ·obtain⟨j,e1,_,_⟩:=k_ z';obtain⟨s,hs,hb⟩:=Nz.mp z;obtain⟨a,y,_,j',e3,_⟩:=fg hb;rw[e1]at e3;injection e3 with _ e _
  have:=pos s hs;omega
 ·obtain⟨s,hs,hb⟩:=Nz.mp z;obtain⟨s',hs',hb'⟩:=Nz.mp z';obtain⟨a,y,ea,j,e1,e2,_⟩:=fg hb;obtain⟨a',y',ea',j',e3,e4,_⟩:=fg hb';rw[e1]at e3;injection e3 with p1 p2 p3
  have es:=un s hs s' hs' p1 p2;subst es;rw[ea]at ea';cases ea';have:j=j':=by walk_at "o"
  subst this;rw[e2]at e4;cases e4;rfl
theorem tO:∀ (l:List Sk) (V:List Sl) (y:Sl),y∈V->y∈l.foldl bW V
 | [],_,_,h=>h
 | q::u,V,y,h=>by
  refine tO u _ y ?_;unfold bW;split
  ·rename_i ha;exact (fO ha y).mpr (.inl h)
  ·exact h
theorem vP{n:Nat}{out:List Sk}{y:Sl}(h:y∈cR n):y∈aE n out:=by
 have h1:=tO out (bz [ay] ay (cR n)) y (by rw[cn];exact Jl _ h)
 have ew:out.foldl bW (bz [ay] ay (cR n))=ay::aE n out:=iW n out;rw[ew]at h1;rcases Kg.mp h1 with z|z
 ·obtain⟨_,_,hk⟩:=bJ h;rw[z]at hk;exact absurd hk (by decide)
 ·exact z
section
variable{x:Str}{out sks:List Sk}{names:List Nm}
theorem fZ{row:List Sl}{s:Sk}:s∈aH out names row↔(s∈out/\s.nm∈names)/\gv row s=true:=by
 unfold aH;rw[OD,OD,decide_eq_true_eq]
theorem jt(ap:(out.map Sk.rw).Pairwise eK)(pos:∀ s∈out,1<=s.num)(mo:∀ s,s∈out↔s∈sks)(q:Sl×Str):
  q∈(cR x.length).zip (ig x) ++ sks.flatMap (dJ names (aE x.length out))↔q∈(cR x.length).zip (ig x) ++ (aH out names (aE x.length out)).flatMap dC:=by
 rw[Mi,Mi];refine or_congr Iff.rfl ?_;rw[Nz,Nz];constructor
 ·rintro⟨s,hs,hq⟩
  unfold dJ at hq;split at hq
  ·rename_i hc;obtain⟨a,y,ea,j,e1,e2,h1,h2⟩:=fg (n:=q.1) (v:=q.2) hq;exact⟨s,fZ.mpr ⟨⟨(mo s).mpr hs,hc.1⟩,Bu ap pos ((mo s).mpr hs) h2 hc.2⟩,hq⟩
  ·simp at hq
 ·rintro⟨s,hs,hq⟩
  obtain⟨⟨h1,h2⟩,h3⟩:=fZ.mp hs;obtain⟨a,y,ea,j,e1,e2,h4,h5⟩:=fg (n:=q.1) (v:=q.2) hq;refine⟨s,(mo s).mp h1,?_⟩;unfold dJ;rw[if_pos ⟨h2,of_decide_eq_true (Op.mp h3 _ h5)⟩];exact hq
theorem o_{row:List Sl}(mo:∀ s,s∈out↔s∈sks)(n:Sl):n∈sks.flatMap (dB names)↔(b8 (bh (aH out names row)) n).isSome=true:=by
 unfold bh;rw[Ds,Nz];constructor
 ·rintro⟨s,hs,hn⟩
  unfold dB at hn;split at hn
  ·rename_i hc;obtain⟨p,hp,rfl⟩:=mem_map.mp hn;have hm:=vi (n:=p.1) (u:=p.2) hp;refine⟨p.2,Nz.mpr ⟨s,fZ.mpr ⟨⟨(mo s).mpr hs,hc⟩,?_⟩,hp⟩⟩;unfold gv;rw[hm];rfl
  ·simp at hn
 ·rintro⟨v,hv⟩
  obtain⟨s,hs,hn⟩:=Nz.mp hv;obtain⟨⟨h1,h2⟩,h3⟩:=fZ.mp hs;refine⟨s,(mo s).mp h1,?_⟩;unfold dB;rw[if_pos h2];exact mem_map.mpr ⟨_,hn,rfl⟩
theorem AN(ap:(out.map Sk.rw).Pairwise eK)(pos:∀ s∈out,1<=s.num)(un:nw out)(mo:∀ s,s∈out↔s∈sks)(n:Sl):
  b8 (mI x sks names (aE x.length out)) n=if (b8 (bh (aH out names (aE x.length out))) n).isSome=true then none else b8 (aA x (aH out names (aE x.length out))) n:=by
 have pw:∀ s∈aH out names (aE x.length out),s∈out:=fun s hs=>(fZ.mp hs).1.1;have o1:CQ ((cR x.length).zip (ig x) ++ (aH out names (aE x.length out)).flatMap dC):=uV (fun s hs=>pos s (pw s hs)) fun a ha b hb=>un a (pw a ha) b (pw b hb);have o2:CQ ((cR x.length).zip (ig x) ++ sks.flatMap (dJ names (aE x.length out))):=fun k v v' h h'=>o1 k v v' ((jt ap pos mo _).mp h) ((jt ap pos mo _).mp h');unfold mI aA;rw[xh]
 by_cases z:n∈sks.flatMap (dB names)
 ·rw[if_pos z,if_pos ((o_ mo n).mp z)]
 ·rw[if_neg z,if_neg (fun y=>z ((o_ mo n).mpr y))];refine Option.ext fun v=>?_;rw[wp o2,wp o1];exact jt ap pos mo (n,v)
def kI(w:List Sk)(n:Sl):Sl:=(b8 (bL w) n).getD n
def lO(x:Str)(w:List Sk)(n:Sl):Prop:=(b8 (aA x w) n).isSome=true/\(b8 (bh w) n).isNone=true
theorem qi{w:List Sk}{n:Sl}(h:lO x w n):n∈cR x.length\/∃ s∈w,∃ a y,s.act=.put a y/\n∈made s:=by
 obtain⟨h,_⟩:=h;unfold aA at h;rw[Ds]at h;obtain⟨v,hv⟩:=h;rcases Mi.mp hv with z|z
 ·exact .inl (MC z).1
 ·obtain⟨s,hs,hb⟩:=Nz.mp z;obtain⟨a,y,ea,_,_,_,hm,_⟩:=fg hb;exact .inr ⟨s,hs,a,y,ea,hm⟩
theorem jv{w:List Sk}{n t:Sl}(h:b8 (bL w) n=some t):∃ s∈w,∃ ns b,s.act=.move ns b/\∃ j:Nat,t=⟨s.pen,s.num,(j:Int)+1⟩/\ns[j]?=some n/\t∈made s:=by
 have hm:=nG h;unfold bL at hm;rcases mf hm with z|z
 ·simp at z
 ·obtain⟨s,hs,hb⟩:=Nz.mp z;exact⟨s,hs,yU hb⟩
theorem qo{w:List Sk}(pos:∀ s∈w,1<=s.num)(un:nw w){n t:Sl}{m:Sl}(h:b8 (bL w) n=some t)(hm:lO x w m):t≠m:=fun z=>by
 obtain⟨s,hs,ns,b,ea,j,et,_,_⟩:=jv h;rcases qi hm with y|⟨s',hs',a,v,ea',hmm⟩
 ·have:=(bJ y).2.1;rw[<- z,et]at this;have h1:=pos s hs;have:s.num=0:=this;omega
 ·obtain⟨p1,p2,_⟩:=bJ hmm;rw[<- z,et]at p1 p2;have:=un s hs s' hs' p1 p2;subst this;rw[ea]at ea';cases ea'
theorem Bq{w:List Sk}(pos:∀ s∈w,1<=s.num)(un:nw w){n m:Sl}(hn:lO x w n)(hm:lO x w m)(h:kI w n=kI w m):n=m:=by
 unfold kI at h;cases e1:b8 (bL w) n with
 | none=>
  cases e2:b8 (bL w) m with
  | none=>rw[e1,e2]at h;exact h
  | some t=>
   rw[e1,e2]at h;exact absurd h.symm (qo pos un e2 hn)
 | some t=>
  cases e2:b8 (bL w) m with
  | none=>
   rw[e1,e2]at h;exact absurd h (qo pos un e1 hm)
  | some t'=>
   rw[e1,e2]at h;have h:t=t':=h;obtain⟨s,hs,ns,b,ea,j,et,ej,_⟩:=jv e1;obtain⟨s',hs',ns',b',ea',j',et',ej',_⟩:=jv e2;rw[h,et']at et;injection et with p1 p2 p3
   have:=un s' hs' s hs p1 p2;subst this;rw[ea]at ea';cases ea';have:j=j':=by walk_at "o"
   subst this;rw[ej]at ej';cases ej';rfl
theorem vo{n:Sl}(hn:lO x (aH out names (aE x.length out)) n):kI (aH out names (aE x.length out)) n∈aE x.length out:=by
 have pl:∀ s∈aH out names (aE x.length out),∀ y∈made s,y∈aE x.length out:=fun s hs y hy=>of_decide_eq_true (Op.mp (fZ.mp hs).2 y hy);unfold kI;cases e1:b8 (bL (aH out names (aE x.length out))) n with
 | some t=>
  obtain⟨s,hs,_,_,_,_,_,_,hm⟩:=jv e1;exact pl s hs t hm
 | none=>
  rcases qi hn with y|⟨s,hs,_,_,_,hm⟩
  ·exact vP y
  ·exact pl s hs n hm
theorem iT{w:List Sk}(pos:∀ s∈w,1<=s.num)(un:nw w)(t n:Sl):b8 (bu x w) t=some n↔lO x w n/\kI w n=t:=by
 have mem:∀ t n,(t,n)∈((aA x w).filter fun p=>(b8 (bh w) p.1).isNone).map (fun p=>((b8 (bL w) p.1).getD p.1,p.1))↔lO x w n/\kI w n=t:=fun t n=>by
  rw[mem_map];constructor
  ·rintro⟨p,hp,e⟩
   obtain⟨h1,h2⟩:=OD.mp hp;injection e with e1 e2
   subst e2;exact⟨⟨v4.mp (mem_map.mpr ⟨p,h1,rfl⟩),h2⟩,e1⟩
  ·rintro⟨⟨h1,h2⟩,h3⟩
   obtain⟨p,hp,rfl⟩:=mem_map.mp (v4.mpr h1);exact⟨p,OD.mpr ⟨hp,h2⟩,by rw[<- h3];rfl⟩
 unfold bu;rw[wp (fun k v v' h h'=>?_),mem];obtain⟨a1,a2⟩:=(mem k v).mp h;obtain⟨b1,b2⟩:=(mem k v').mp h';exact Bq pos un a1 b1 (a2.trans b2.symm)
theorem nU{st:Seat}(h:st∈bx x out names):st.slot∈aE x.length out/\b8 (bu x (aH out names (aE x.length out))) st.slot=some st.name/\st.sign=(b8 (aA x (aH out names (aE x.length out))) st.name).getD (I_ ""):=by
 unfold bx at h;obtain⟨p,hp,rfl⟩:=mem_map.mp h;unfold fT at hp;obtain⟨q,hq,e⟩:=mem_filterMap.mp hp;cases ea:b8 (bu x (aH out names (aE x.length out))) q with
 | none=>rw[ea]at e;cases e
 | some n=>
  rw[ea]at e;cases e;exact⟨hq,ea,rfl⟩
theorem qy(pos:∀ s∈out,1<=s.num)(un:nw out)(n:Sl):n∈(bx x out names).map Seat.name↔lO x (aH out names (aE x.length out)) n:=by
 have pw:∀ s∈aH out names (aE x.length out),s∈out:=fun s hs=>(fZ.mp hs).1.1;have pos':∀ s∈aH out names (aE x.length out),1<=s.num:=fun s hs=>pos s (pw s hs);have un':nw (aH out names (aE x.length out)):=fun a ha b hb=>un a (pw a ha) b (pw b hb);constructor
 ·intro h;obtain⟨st,hst,rfl⟩:=mem_map.mp h;exact ((iT pos' un' _ _).mp (nU hst).2.1).1
 ·intro h;have hs:=(iT pos' un' (kI (aH out names (aE x.length out)) n) n).mpr ⟨h,rfl⟩;unfold bx fT;rw[JK];exact mem_map.mpr ⟨(kI (aH out names (aE x.length out)) n,n),mem_filterMap.mpr ⟨_,vo h,by rw[hs];rfl⟩,rfl⟩
theorem uk(pos:∀ s∈out,1<=s.num)(un:nw out)(nd:(aE x.length out).Nodup):((bx x out names).map Seat.name).Nodup:=by
 have pw:∀ s∈aH out names (aE x.length out),s∈out:=fun s hs=>(fZ.mp hs).1.1;have pos':∀ s∈aH out names (aE x.length out),1<=s.num:=fun s hs=>pos s (pw s hs);have un':nw (aH out names (aE x.length out)):=fun a ha b hb=>un a (pw a ha) b (pw b hb);unfold bx fT List.Nodup;rw[JK,Lg,List.pairwise_filterMap];refine List.Pairwise.imp ?_ nd;intro a b hab p hp q hq z;cases e1:b8 (bu x (aH out names (aE x.length out))) a with
 | none=>rw[e1]at hp;cases hp
 | some n=>
  cases e2:b8 (bu x (aH out names (aE x.length out))) b with
  | none=>rw[e2]at hq;cases hq
  | some m=>
   rw[e1]at hp;rw[e2]at hq;cases hp;cases hq;have z:n=m:=z;subst z;exact hab (((iT pos' un' _ _).mp e1).2.symm.trans ((iT pos' un' _ _).mp e2).2)
theorem xR(ap:(out.map Sk.rw).Pairwise eK)(pos:∀ s∈out,1<=s.num)(un:nw out)(mo:∀ s,s∈out↔s∈sks)(nd:(aE x.length out).Nodup):
  ((bx x out names).map Seat.name).Perm ((mI x sks names (aE x.length out)).map (·.1)):=by
 have nk:((mI x sks names (aE x.length out)).map (·.1)).Nodup:=pf (mM (by simp))
 refine (List.perm_ext_iff_of_nodup (uk pos un nd) nk).mpr fun n=>?_;rw[qy pos un,v4,AN ap pos un mo];unfold lO;cases e:b8 (bh (aH out names (aE x.length out))) n with
 | none=>simp
 | some v=>simp
theorem ze(ap:(out.map Sk.rw).Pairwise eK)(pos:∀ s∈out,1<=s.num)(un:nw out)(mo:∀ s,s∈out↔s∈sks){st:Seat}(h:st∈bx x out names):
  b8 (mI x sks names (aE x.length out)) st.name=some st.sign:=by
 obtain⟨h1,h2⟩:=(qy pos un st.name).mp (List.mem_map_of_mem h);rw[AN ap pos un mo,(nU h).2.2];cases e:b8 (bh (aH out names (aE x.length out))) st.name with
 | some v=>rw[e]at h2;cases h2
 | none=>
  rw[if_neg (by simp)]
  cases e2:b8 (aA x (aH out names (aE x.length out))) st.name with
  | none=>rw[e2]at h1;cases h1
  | some v=>rfl
theorem wE{y:Str}{v:Str}(h:v∈ig y):v.length<=1:=by
 unfold ig at h;obtain⟨c,_,rfl⟩:=mem_map.mp h;exact le_refl _
theorem zd{st:Seat}(h:st∈bx x out names):st.sign.length<=1:=by
 rw[(nU h).2.2];cases e:b8 (aA x (aH out names (aE x.length out))) st.name with
 | none=>show (I_ "").length<=1;decide +kernel
 | some v=>
  have hm:=nG e;unfold aA at hm;rcases mf hm with z|z
  ·simp at z
  ·rcases Mi.mp z with z|z
   ·exact wE (MC z).2
   ·obtain⟨s,hs,hb⟩:=Nz.mp z;obtain⟨a,y,_,j,_,e2,_⟩:=fg hb;exact wE (Js e2)
theorem zc:(bx x out names).map Seat.slot=(aE x.length out).filter fun s=>decide (s∈(bx x out names).map Seat.slot):=by
 have e:(bx x out names).map Seat.slot=(aE x.length out).filter fun s=>(b8 (bu x (aH out names (aE x.length out))) s).isSome:=by
  unfold bx fT;rw[JK];generalize aH out names (aE x.length out)=w;generalize aE x.length out=row
  induction row with
  | nil=>rfl
  | cons a t ih=>
   cases ea:b8 (bu x w) a with
   | none=>
    rw[KI (by rw[ea];rfl),Kw (by rw[ea];decide)]
    exact ih
   | some n=>
    rw[KH (b:=(a,n)) (by rw[ea];rfl),Kk (by rw[ea];rfl),Jz,ih]
    rfl
 rw[e];refine List.filter_congr fun s hs=>?_;cases ea:(b8 (bu x (aH out names (aE x.length out))) s).isSome with
 | true=>exact (decide_eq_true (OD.mpr ⟨hs,ea⟩)).symm
 | false=>
  refine (decide_eq_false fun z=>?_).symm;rw[(OD.mp z).2]at ea;cases ea
end
theorem jk{α:Type}{xs:List α}{x:α}:x∈dq xs none none (some (-1))↔x∈xs:=by
 refine⟨tZ,fun h=>?_⟩;obtain⟨i,hi⟩:=List.mem_iff_getElem?.mp h;have hl:=(List.getElem?_eq_some_iff.mp hi).1;unfold dq;have e:K4 none none (some (-1)) xs.length=((xs.length:Int) - 1,-1,-1):=rfl;rw[e];refine mem_filterMap.mpr ⟨i,?_,hi⟩;unfold NG;dsimp only;rw[if_neg (by decide),if_pos (by walk_at "o")]
 refine mem_map.mpr ⟨xs.length - 1 - i,mem_range.mpr ?_,?_⟩
 ·rw[show (- -1:Int)=1 by decide,Int.ediv_one];omega
 ·omega
def Ct:D->D
 | .tup (d::_)=>d
 | d=>d
theorem yh(seats:List Seat):(seats.map Seat.d3).map Ct=(seats.map Seat.name).map Sl.d:=by rw[JK,JK];rfl
theorem AG(seats:List Seat):(seats.map Seat.d).map Ct=(seats.map Seat.slot).map Sl.d:=by rw[JK,JK];rfl
theorem none_of(ds:List D):(ds.filter fun _=>false).map id=[]:=by rw[List.filter_eq_nil_iff.mpr (by simp)];rfl
theorem tN(seats:List Seat)(n:Nat):∀ d∈seats.map Seat.d3,pl (n+3) d:=fun d hd=>by
 obtain⟨s,_,rfl⟩:=mem_map.mp hd;intro d hd;simp only[Kg,Kz,or_false]at hd;rcases hd with rfl|rfl|rfl
 ·exact nP _ (n+1)
 ·trivial
 ·trivial
theorem Bv(Z1 Z2 Z3 Z4 Z5:IW)(hw:HW):bC (jZ Z1 Z2 Z3 Z4 Z5 hw) (n6 Z1 Z2 Z3 Z4 Z5 hw) ["_law_script","_law_first","_law_old","_law_pens","_law_rows","_law_standing_here","_law_slots","_law_due_here","_law_handed","_law_found","_law_seats","_law_sits"]:=by
 intro vs G Q h;unfold jZ at h;split at h
 ·obtain⟨ns,rfl,hn,hq⟩:=h;have hs:=av;unfold n6;rw[ag];walk_at "s1";refine⟨ns,⟨rfl,by decide⟩,fun c=>?_⟩
  rw[ag];walk_at "s1";have SW:(I_ "some old\ntxt").length=12:=by decide +kernel
  have b13:=dy (a:=c) (b:=13) (by decide)
  refine⟨by decide,by rw[SW];omega,?_⟩
  have lx:(⟨(kq (I_ "some old\ntxt").cps.toList none (some (c % 13))).toArray⟩:Str).length<=12:=by
   rw[CG b13.1];show (List.toArray _).size<=12
   rw[Jj,JN];omega
  generalize (⟨(kq (I_ "some old\ntxt").cps.toList none (some (c % 13))).toArray⟩:Str)=x at *
  clear SW;rw[ag];obtain⟨pz,hpz,lpz⟩:∃ pz:List Str,iF [D.lst [.str (I_ "ann"),.str (I_ "bob"),.str (I_ "cyd")],D.lst [.str (I_ "a"),.str (I_ "ab"),.str (I_ "abc")]] (c / 13 % 2)=some (.lst (pz.map D.str))/\pz.length=3:=by
   have:c / 13 % 2=0\/c / 13 % 2=1:=by walk_at "o"
   rcases this with e|e<;>rw[e]
   ·exact⟨[_,_,_],rfl,rfl⟩
   ·exact⟨[_,_,_],rfl,rfl⟩
  walk_at "s1";have b3:=dy (a:=c / 26) (b:=3) (by decide)
  refine⟨by walk_at "o",by walk_at "o",by walk_at "o",⟨by decide,by decide⟩,by decide,⟨by decide,by decide⟩,by decide,?_⟩
  rw[w6 (by walk_at "o"),<- List.map_take]
  have lps:0 < (pz.take (1+c / 26 % 3).toNat).length/\(pz.take (1+c / 26 % 3).toNat).length<=4:=by
   rw[JN];omega
  generalize pz.take (1+c / 26 % 3).toNat=ps at *
  clear hpz lpz b3 b13;clear pz;rw[ag];walk_at "s1";refine⟨(ns.drop 2).take 32,ps,⟨by rw[AU (by decide) (by decide),<- List.map_drop,<- List.map_take];rfl,by rw[JN];omega,rfl,lps.1,lps.2⟩,fun sks G1 gd=>?_⟩
  clear lps;obtain⟨l32,ok,ap⟩:=gd;have one:eX (sks.map Sk.rw):=yw ap;rw[ag];walk_at "s1";refine⟨ns,⟨rfl,by decide⟩,fun c1=>⟨sks,⟨rfl,l32⟩,fun names G2 ln=>?_⟩⟩
  have ok1:∀ s∈sks,s.ok:=fun s hs'=>⟨(ok s hs').1,le_trans (jz s) (le_trans (ok s hs').2 (by decide))⟩
  rw[ag];walk_at "s1";refine⟨sks,sks,⟨rfl,by walk_at "o",one,by walk_at "o",by walk_at "o",fun s hs'=>hs',ok1⟩,fun out G3 _ so mo=>?_⟩
  have same:∀ {o:List Sk},fR (o.map Sk.rw)->(∀ s,s∈o↔s∈sks)->o=out:=fun so' mo'=>nR (io so' so fun r=>by
   constructor
   ·intro hr;obtain⟨s,hs',rfl⟩:=mem_map.mp hr;exact mem_map.mpr ⟨s,(mo s).mpr ((mo' s).mp hs'),rfl⟩
   ·intro hr;obtain⟨s,hs',rfl⟩:=mem_map.mp hr;exact mem_map.mpr ⟨s,(mo' s).mpr ((mo s).mp hs'),rfl⟩)
  have Rx:eX (out.map Sk.rw):=vO one fun r hr=>by
   obtain⟨s,hs',rfl⟩:=mem_map.mp hr;exact mem_map.mpr ⟨s,(mo s).mp hs',rfl⟩
  have apo:(out.map Sk.rw).Pairwise eK:=q0 Rx so;have lo:out.length<=32:=by
   have:=gj (fj so) (ys:=sks.map Sk.rw) fun r hr=>by
    obtain⟨s,hs',rfl⟩:=mem_map.mp hr;exact mem_map.mpr ⟨s,(mo s).mp hs',rfl⟩
   rw[IZ,IZ]at this;omega
  have un:nw out:=fun a ha b hb h1 h2=>Sk.rw_inj (Rx a.rw (mem_map.mpr ⟨a,ha,rfl⟩) b.rw (mem_map.mpr ⟨b,hb,rfl⟩) h1 h2);have pos:∀ s∈out,1<=s.num:=fun s hs'=>(ok s ((mo s).mp hs')).1;have om:∀ s∈out,s.act.many<=1000:=fun s hs'=>(ok1 s ((mo s).mp hs')).2;have nd:(aE x.length out).Nodup:=by
   have h1:=qu (n:=x.length) out [] _ (km x.length) (by rw[cn,KF];exact⟨fun z=>by have:=(bJ z).2.2;exact absurd this (by decide),d6 _ _ _⟩) (by simpa using apo) pos
   have ew:out.foldl bW (bz [ay] ay (cR x.length))=ay::aE x.length out:=iW x.length out;rw[ew,KF]at h1;exact h1.2
  have S3:=xR (x:=x) (names:=names) apo pos un mo nd;have S2:∀ st∈bx x out names,b8 (mI x sks names (aE x.length out)) st.name=some st.sign:=fun st h=>ze apo pos un mo h;have S5:∀ st∈bx x out names,st.sign.length<=1:=fun st h=>zd h;have Rm:Nonempty (PLift ((bx x out names).map Seat.slot=(aE x.length out).filter fun s=>decide (s∈(bx x out names).map Seat.slot))):=⟨⟨zc⟩⟩;have RA:=tM (x:=x) (names:=names) om;have Rj:=zo (x:=x) om;have ldue:(mI x sks names (aE x.length out)).length<=40000:=by
   have h1:=sJ (x:=x) (names:=names) (row:=aE x.length out) lx l32 (fun s hs'=>(ok s hs').2) sks.length;rw[JR]at h1;exact le_trans (uQ _ _) h1
  have dup:bx x out (names ++ names)=bx x out names:=by
   have:aH out (names ++ names) (aE x.length out)=aH out names (aE x.length out):=by
    unfold aH;congr 1;refine List.filter_congr fun s _=>?_;exact decide_eq_decide.mpr (by rw[Mi,or_self])
   unfold bx;rw[this]
  rw[ag];walk_at "s1";refine⟨sks,names,aE x.length out,⟨rfl,rfl,rfl,l32,fun s hs'=>(ok s hs').2⟩,fun p hp=>?_⟩;have gp:gset G3 p (.dT hw (aM D.str (mI x sks names (aE x.length out)))) p=some (.dT hw (aM D.str (mI x sks names (aE x.length out)))):=az;generalize gset G3 p (.dT hw (aM D.str (mI x sks names (aE x.length out))))=G4 at *
  clear hp;rw[ag];walk_at "s1";refine zg (NX:=fun σ' G'=>∃ hd:List Sk,(hd.length<=64/\∀ s,s∈hd↔s∈sks)/\G'=G4/\σ'=[some (.lst (ns.map D.int)),some (.int c),some (.str x),some (.lst (ps.map D.str)),some (.lst (sks.map Sk.d)),some (.lst (names.map Nm.d)),some (.lst ((aE x.length out).map Sl.d)),some (.ref p),some (.lst (hd.map Sk.d)),none,none,none]) (fun σ' G5 hM=>?_) (fun NX hNX=>?_)
  ·obtain⟨hd,⟨lh,mh⟩,rfl,rfl⟩:=hM;have Ry:eX (hd.map Sk.rw):=vO one fun r hr=>by
    obtain⟨s,hs',rfl⟩:=mem_map.mp hr;exact mem_map.mpr ⟨s,(mh s).mp hs',rfl⟩
   rw[ag];simp only[bT,bB,af,aB,ab,val,J2,J3,JL,JA];refine⟨hd,sks,names,⟨rfl,by walk_at "o",Ry,by walk_at "o",by walk_at "o",fun s hs'=>(mh s).mp hs',fun s hs'=>⟨(ok s ((mh s).mp hs')).1,le_trans (ok s ((mh s).mp hs')).2 (by decide)⟩,rfl,by walk_at "o"⟩,fun o1 G6 ex6 s1 m1=>?_⟩
   have e1:o1=out:=same s1 fun s=>(m1 s).trans (mh s);rw[e1];clear s1 m1 e1;clear o1;have gp6:=ex6 p _ gp;clear gp ex6;dsimp only;rw[ag];walk_at "s1";have pk:=rC hd none none (some (-1));refine⟨by decide,by rw[IZ];omega,dq hd none none (some (-1)),sks,names ++ names,⟨by rw[iO],by walk_at "o",vO Ry fun r hr=>?_,by walk_at "o",by walk_at "o",fun s hs'=>(mh s).mp (jk.mp hs'),fun s hs'=>?_,by rw[J0],by rw[Jh];omega⟩,fun o2 G7 ex7 s2 m2=>?_⟩
   ·obtain⟨s,hs',rfl⟩:=mem_map.mp hr;exact mem_map.mpr ⟨s,jk.mp hs',rfl⟩
   ·have hs2:=(mh s).mp (jk.mp hs');exact⟨(ok s hs2).1,le_trans (ok s hs2).2 (by decide)⟩
   have e2:o2=out:=same s2 fun s=>(m2 s).trans (jk.trans (mh s));rw[e2,dup];clear s2 m2 e2 pk;clear o2;have gp7:=ex7 p _ gp6;clear gp6 ex7 Ry mh lh same dup so mo apo un pos om nd ok1 ok ap one Rx;have lse:(bx x out names).length<=40000:=by walk_at "o"
   have lro:(aE x.length out).length<=40000:=by walk_at "o"
   clear RA Rj;generalize mI x sks names (aE x.length out)=T at *
   generalize bx x out names=seats at *
   generalize aE x.length out=row at *
   clear lo;rw[ag];refine bf false (ve false false (fun K hK=>?_) fun _ K hK=>?_) (iteF ?_)
   ·walk_at "st"
   ·walk_at "st";refine im (fun _=>false) id (by rw[IZ];omega) (fun d hd P R h1 h2=>?_) ?_
    ·obtain⟨s,_,rfl⟩:=mem_map.mp hd;have ed:s.d3=.tup [s.name.d,.str s.sign,.str s.word]:=rfl;rw[ed];refine⟨⟨by simp[JA,List.replicate],rfl⟩,ve false false (fun K hK=>?_) (fun _ K hK=>?_) _ ?_⟩
     ·walk_at "st"
     ·walk_at "st";have e3:((3:Nat):Int)=3:=rfl;rw[e3,bo];exact hK
     ·exact h2 rfl
    ·rw[none_of];refine⟨JQ _,fun d hd=>by simp at hd,fun d hd=>by simp at hd,?_⟩
     rw[bo];exact hK
   simp only[dA];rw[ag];refine bf false (fun K hK=>?_) (iteF ?_)
   ·walk_at "st";refine cU Ct (by rw[IZ];omega) (fun d hd P hP=>?_) ?_
    ·obtain⟨s,_,rfl⟩:=mem_map.mp hd;have ed:s.d3=.tup [s.name.d,.str s.sign,.str s.word]:=rfl;rw[ed]at hP ⊢;refine⟨⟨by simp[JA,List.replicate],rfl⟩,?_⟩
     exact hP _ rfl
    ·rw[yh];dsimp only;refine⟨seats.map Seat.name,rfl,by rw[IZ];omega,?_⟩
     rw[gp7];dsimp only;refine⟨T.map (·.1),?_,by rw[IZ];omega,jg _ 6,jg _ 6,?_⟩
     ·unfold aM;rw[JK,JK];rfl
     ·rw[y6 S3,bo];exact hK
   simp only[dA];rw[ag];refine bf false (ve false false (fun K hK=>?_) fun _ K hK=>?_) (iteF ?_)
   ·walk_at "st";refine im (fun _=>false) id (by rw[IZ];omega) (fun d hd P R h1 h2=>?_) ?_
    ·obtain⟨s,hsm,rfl⟩:=mem_map.mp hd;have hsg:=S2 s hsm;have ed:s.d3=.tup [.tup [.str s.name.pen,.int s.name.n,.int s.name.k],.str s.sign,.str s.word]:=rfl;rw[ed];refine⟨⟨by simp[JA,List.replicate],rfl⟩,?_⟩
     walk_at "st";refine⟨.str s.sign,?_,?_⟩
     ·have h0:=sY D.str s.name T;rw[hsg]at h0;exact h0.symm
     ·dsimp only;rw[bo];exact⟨trivial,trivial,by first|exact h2 rfl|trivial⟩
    ·rw[none_of];refine⟨JQ _,fun d hd=>by simp at hd,fun d hd=>by simp at hd,?_⟩
     rw[bo];exact hK
   ·walk_at "st";refine cU yV (by rw[IZ];omega) (fun d hd P hP=>?_) ?_
    ·obtain⟨s,_,rfl⟩:=mem_map.mp hd;have ed:s.d=.tup [s.slot.d,s.name.d,.str s.sign,.str s.word]:=rfl;rw[ed]at hP ⊢;refine⟨⟨by simp[JA,List.replicate],rfl⟩,?_⟩
     show _/\_
     refine⟨by unfold HT.sIx;simp,?_⟩
     exact hP _ rfl
    ·rw[qj];refine⟨tN seats 4,tN seats 4,?_⟩;rw[bo];exact hK
   simp only[dA];rw[ag];walk_at "s1";refine cU Ct (by rw[IZ];omega) (fun d hd P hP=>?_) ?_
   ·obtain⟨s,_,rfl⟩:=mem_map.mp hd;have ed:s.d=.tup [s.slot.d,s.name.d,.str s.sign,.str s.word]:=rfl;rw[ed]at hP ⊢;refine⟨⟨by simp[JA,List.replicate],rfl⟩,?_⟩
    exact hP _ rfl
   rw[AG];dsimp only;rw[ag];refine bf false (fun K hK=>?_) (iteF ?_)
   ·walk_at "st";refine im (fun d=>pQ d ((seats.map Seat.slot).map Sl.d)) id (by rw[IZ];omega) (fun d hd P R h1 h2=>?_) ?_
    ·obtain⟨s,_,rfl⟩:=mem_map.mp hd;rw[r8]at h1 h2;have ed:s.d=.tup [.str s.pen,.int s.n,.int s.k]:=rfl;rw[ed]at h1 ⊢;refine⟨⟨by simp[JA,List.replicate],rfl⟩,?_⟩
     walk_at "st";refine Dj (x:=s) (.inr rfl) ?_;dsimp only;exact Aw (fun e=>h1 e _ rfl) fun e=>h2 e
    ·obtain⟨⟨Rm⟩⟩:=Rm;have ek:((row.map Sl.d).filter fun d=>pQ d ((seats.map Seat.slot).map Sl.d)).map id=(seats.map Seat.slot).map Sl.d:=by
      rw[map_id,List.filter_map]
      conv=>rhs;rw[Rm]
      congr 1;exact List.filter_congr fun s _=>r8 s _
     rw[ek];refine⟨jg _ 6,jg _ 6,?_⟩;rw[bo];exact hK
   simp only[dA];walk_at "st";refine⟨seats,⟨rfl,by walk_at "o",S5⟩,?_⟩
   refine cU DM (by rw[IZ];omega) (fun d hd P hP=>?_) ?_
   ·obtain⟨s,_,rfl⟩:=mem_map.mp hd;have ed:s.d3=.tup [s.name.d,.str s.sign,.str s.word]:=rfl;rw[ed]at hP ⊢;refine⟨rfl,⟨by simp[JA,List.replicate],rfl⟩,?_⟩
    exact hP _ rfl
   ·rw[tL];refine⟨seats.map Seat.sign,rfl,?_,?_⟩
    ·have q1:=qZ (seats.map Seat.sign) fun y hy=>by
      obtain⟨s,hs',rfl⟩:=mem_map.mp hy;exact S5 s hs'
     have e0:(I_ "").length=0:=by decide +kernel
     rw[e0,Nat.mul_zero];rw[IZ]at q1;omega
    ·rw[bo];exact hq _
  ·refine bf (fh (.int (c / 78 % 3)) (.int 1)) (fun K hK=>?_) (Aw (fun e=>?_) fun e=>?_)
   ·walk_at "st";exact⟨⟨by decide,by decide⟩,by decide⟩
   ·walk_at "s1";have pk1:=rC sks none none (some (-1));have pk2:=rC sks none none (some 2);refine⟨by decide,by decide,?_,hNX _ _ ⟨dq sks none none (some (-1)) ++ dq sks none none (some 2),⟨?_,fun r=>?_⟩,rfl,?_⟩⟩
    ·rw[iO,iO,IZ,IZ];omega
    ·rw[Jh];omega
    ·rw[Mi,jk];exact⟨fun z=>z.elim id tZ,.inl⟩
    ·rw[J0,iO,iO]
   ·simp only[dA];exact hNX _ _ ⟨sks,⟨by walk_at "o",fun _=>Iff.rfl⟩,rfl,rfl⟩
 ·exact h.elim
structure Tx(K:JD)(mg:Str->Option IV)(Z1 Z2 Z3 Z4 Z5:IW):Prop where
 fa_anchor:∀ C∈[Z1,Z2,Z3,Z4,Z5],Cls K C/\fC K C "anchor"
 fa_name:∀ C∈[Z1,Z2,Z3,Z4,Z5],Cls K C/\fC K C "name"
 fa_names:∀ C∈[Z1,Z2,Z3,Z4,Z5],Cls K C/\fC K C "names"
 fa_signs:∀ C∈[Z1,Z2,Z3,Z4,Z5],Cls K C/\fC K C "signs"
 fa_time:∀ C∈[Z1,Z2,Z3,Z4,Z5],Cls K C/\fC K C "time"
 fa_word:∀ C∈[Z1,Z2,Z3,Z4,Z5],Cls K C/\fC K C "word"
 cl_Stroke:Cls K Z1
 cl_Put:Cls K Z2
 cl_Strike:Cls K Z3
 cl_Dress:Cls K Z4
 cl_Move:Cls K Z5
 b_all:mg "all"=none
 b_dict:mg "dict"=none
 b_isinstance:mg "isinstance"=none
 b_len:mg "len"=none
 b_list:mg "list"=none
 b_range:mg "range"=none
 b_sorted:mg "sorted"=none
 b_tuple:mg "tuple"=none
 b_zip:mg "zip"=none
 k_START:tj K mg "START" k_START
 xm_Dress:mg "Dress"=some (.ref Z4)
 ik_Dress:∀ p∈([(Z1,false),(Z2,false),(Z3,false),(Z4,true),(Z5,false)]:List (IW×Bool)),InsAsk K p.1/\Kv K (.ref p.1) (.ref Z4)=some p.2
 xm_Move:mg "Move"=some (.ref Z5)
 ik_Move:∀ p∈([(Z1,false),(Z2,false),(Z3,false),(Z4,false),(Z5,true)]:List (IW×Bool)),InsAsk K p.1/\Kv K (.ref p.1) (.ref Z5)=some p.2
 xm_Put:mg "Put"=some (.ref Z2)
 ik_Put:∀ p∈([(Z1,false),(Z2,true),(Z3,false),(Z4,false),(Z5,false)]:List (IW×Bool)),InsAsk K p.1/\Kv K (.ref p.1) (.ref Z2)=some p.2
 xm_Strike:mg "Strike"=some (.ref Z3)
 ik_Strike:∀ p∈([(Z1,false),(Z2,false),(Z3,true),(Z4,false),(Z5,false)]:List (IW×Bool)),InsAsk K p.1/\Kv K (.ref p.1) (.ref Z3)=some p.2
section
variable{P:Jw}{w:JG}{K:JD}{mg:Str->Option IV}{base:JI}{Z1 Z2 Z3 Z4 Z5:IW}
theorem ng{f:IW}{fd:JE}(F:Fun3 K "_law_cell_at" "_law_cell_at" da f fd)(T:Tx K mg Z1 Z2 Z3 Z4 Z5) 
  (rok:bC (bc Z1 Z2 Z3 Z4 Z5 (ah P w)) (dG Z1 Z2 Z3 Z4 Z5 (ah P w)) ["_law_script","_law_k"]) (len:bD (bc Z1 Z2 Z3 Z4 Z5 (ah P w)) 2):FnOk P w K mg base gF 1 f fd ["_law_script","_law_k"] (aJ K (bc Z1 Z2 Z3 Z4 Z5 (ah P w))):=by
 refine Fun3.ok3 F m4 len (fun cdv A outer s H E hr=>⟨dG Z1 Z2 Z3 Z4 Z5 (ah P w),?_,rok⟩);have hu8:=u8 hr;have hu4:=u4 hr;unfold dG;exact (al (iu (rO Hi (aq 1) (bV b_len (by rfl) T.b_len PySem.boot_len (aa (aq 0) am)) (dk _)) (aG (cC (bO (aq 0) (aq 1)))) eR)
   (aG (cC ao)))
theorem oj{f:IW}{fd:JE}(F:Fun3 K "_law_stream" "_law_stream" dN f fd)(T:Tx K mg Z1 Z2 Z3 Z4 Z5) 
  (rok:bC (bb Z1 Z2 Z3 Z4 Z5 (ah P w)) (d5 Z1 Z2 Z3 Z4 Z5 (ah P w)) ["_law_cell","_law_many","_law_found","_law_number","_law_k"]) (len:bD (bb Z1 Z2 Z3 Z4 Z5 (ah P w)) 2):FnOk P w K mg base gF 1 f fd ["_law_cell","_law_many"] (aJ K (bb Z1 Z2 Z3 Z4 Z5 (ah P w))):=by
 refine Fun3.ok3 F dZ len (fun cdv A outer s H E hr=>⟨d5 Z1 Z2 Z3 Z4 Z5 (ah P w),?_,rok⟩);have hu8:=u8 hr;have hu4:=u4 hr;unfold d5;exact (al (wI (i:=2) dZ.nd rfl (by walk_at "i") (hZ am))
   (al (bg (i:=3) dZ.nd rfl (by walk_at "i") (cu gA (cu wA (cu dQ (aq 0) ao) ao) ao))
   (al (fu JH rfl (ie (by rfl) T.b_range (aa (aq 1) am)) (aN (i:=4) dZ.nd rfl (by walk_at "i")) (al (bg (i:=3) dZ.nd rfl (by walk_at "i") (cu gA (cu wA (cu dQ (cu dQ (aq 3) (cu wA ao (aq 4))) ao) (cu dQ (cu wB (aq 3) ao) ao)) ao))
   (aG (gZ (kW (aq 2) (aa (aq 3) am))))))
   (aG (kR (i:=2) rfl (by first|exact Or.inl rfl|exact Or.inr (Or.inl rfl)))))))
theorem m_{f:IW}{fd:JE}(F:Fun3 K "_law_strokes" "_law_strokes" c_ f fd)(T:Tx K mg Z1 Z2 Z3 Z4 Z5)(Pn:Fn3 P w K mg base 1 "_law_stream" [] (bb Z1 Z2 Z3 Z4 Z5 (ah P w)))
  (rok:bC (bw Z1 Z2 Z3 Z4 Z5 (ah P w)) (dF Z1 Z2 Z3 Z4 Z5 (ah P w)) ["_law_cells","_law_pens","_law_old","_law_signs","_law_slots","_law_rows","_law_many","_law_cell","_law_xs","_law_pen","_law_name","_law_anchor","_law_at","_law_names","_law_act","_law_some"]) (len:bD (bw Z1 Z2 Z3 Z4 Z5 (ah P w)) 3):FnOk P w K mg base gF 2 f fd ["_law_cells","_law_pens","_law_old"] (aJ K (bw Z1 Z2 Z3 Z4 Z5 (ah P w))):=by
 refine Fun3.ok3 F aD len (fun cdv A outer s H E hr=>⟨dF Z1 Z2 Z3 Z4 Z5 (ah P w),?_,rok⟩);have hu8:=u8 hr;have hu4:=u4 hr;unfold dF;exact (al (bg (i:=3) aD.nd rfl (by walk_at "i") (cu dQ (dP (T:=["_law_k"]) (M:=["_law_cells","_law_pens","_law_old","_law_signs","_law_slots","_law_rows","_law_many","_law_cell","_law_xs","_law_pen","_law_name","_law_anchor","_law_at","_law_names","_law_act","_law_some"]) (bq rfl (by kernel_rfl)) (fun cl C s₀ H₀ fp=>⟨(aN (i:=0) lq rfl (by walk_at "i")),fi,(eJ (aa ck (aa ao (aa (cu dQ (aq 0) ao) am))))⟩) (ie (by rfl) T.b_range (aa (bV b_len (by rfl) T.b_len PySem.boot_len (aa (aq 2) am)) am))) (hZ (aa (eJ (aa ck (aa ao (aa ao am)))) am))))
   (al (bg (i:=4) aD.nd rfl (by walk_at "i") (cu dQ (hZ (aa (eJ (aa ck (aa ao (aa ao am)))) am)) (aq 3)))
   (al (wI (i:=5) aD.nd rfl (by walk_at "i") (hZ am))
   (al (bg (i:=6) aD.nd rfl (by walk_at "i") Ei)
   (al (fu JH rfl (cT (aq 0)) (aN (i:=7) aD.nd rfl (by walk_at "i")) (al (bg (i:=8) aD.nd rfl (by walk_at "i") (bA Pn (hr.mono (by decide)) (by rfl) (aa (aq 7) (aa ao am))))
   (al (bg (i:=9) aD.nd rfl (by walk_at "i") (bO (aq 1) (cu gA (bO (aq 8) ao) (bV b_len (by rfl) T.b_len PySem.boot_len (aa (aq 1) am)))))
   (al (gX hu8 (aq 6) (aq 9) (cu dQ (rQ hu8 (aq 6) (aq 9) ao) ao))
   (al (bg (i:=10) aD.nd rfl (by walk_at "i") (eJ (aa (aq 9) (aa (og hu8 (aq 6) (aq 9)) am))))
   (al (bg (i:=11) aD.nd rfl (by walk_at "i") (bO (aq 4) (cu gA (bO (aq 8) ao) (bV b_len (by rfl) T.b_len PySem.boot_len (aa (aq 4) am)))))
   (al (bg (i:=12) aD.nd rfl (by walk_at "i") (cu gA (bO (aq 8) ao) (bV b_len (by rfl) T.b_len PySem.boot_len (aa (aq 3) am))))
   (al (bg (i:=13) aD.nd rfl (by walk_at "i") (t9 b_tuple (by rfl) T.b_tuple PyProof.Rows.boot_tuple (aa (ik tD (aq 3) (fM (aq 12)) (fM (cu dQ (cu dQ (aq 12) ao) (cu gA (bO (aq 8) ao) ao)))) am)))
   (al (bg (i:=14) aD.nd rfl (by walk_at "i") (eJ (aa ck (aa (aq 11) (aa (bO (hZ (aa ck (aa ck (aa ck am)))) (cu gA (bO (aq 8) ao) ao)) am)))))
   (al (iu (rO Fs (cu gA (bO (aq 8) ao) ao) ao (dk _)) (al (bg (i:=15) aD.nd rfl (by walk_at "i") (hZ (aa (eJ (aa ck (aa (aq 13) am))) (aa (eJ (aa ck (aa (aq 13) (aa (aq 11) am)))) (aa (eJ (aa ck (aa (aq 13) (aa (bO (hZ (aa ck (aa ck am))) (cu gA (bO (aq 8) ao) ao)) am)))) am)))))
   (aG (bg (i:=14) aD.nd rfl (by walk_at "i") (bO (aq 15) (cu gA (bO (aq 8) ao) ao))))) eR)
   (al (gZ (kW (aq 5) (aa (eJ (aa (aq 10) (aa (cu dQ ao (cu gA (bO (aq 8) ao) ao)) (aa (aq 14) am)))) am)))
   (al (iu (cq (qW hu8) (bO (aq 14) ao) ck (dk _)) (al (bg (i:=3) aD.nd rfl (by walk_at "i") (cu dQ (aq 3) (dP (T:=["_law_k"]) (M:=["_law_cells","_law_pens","_law_old","_law_signs","_law_slots","_law_rows","_law_many","_law_cell","_law_xs","_law_pen","_law_name","_law_anchor","_law_at","_law_names","_law_act","_law_some"]) (bq rfl (by kernel_rfl)) (fun cl C s₀ H₀ fp=>⟨(aN (i:=0) lg rfl (by walk_at "i")),fi,(eJ (aa (bO (aq 11) ao) (aa (bO (aq 11) ao) (aa (cu dQ (aq 0) ao) am))))⟩) (ie (by rfl) T.b_range (aa (bV b_len (by rfl) T.b_len PySem.boot_len (aa (bO (aq 14) ao) am)) am)))))
   (aG (bg (i:=4) aD.nd rfl (by walk_at "i") (cu dQ (aq 4) (ik tD (aq 3) (fM (cu Fq (bV b_len (by rfl) T.b_len PySem.boot_len (aa (aq 3) am)) (bV b_len (by rfl) T.b_len PySem.boot_len (aa (bO (aq 14) ao) am)))) gw))))) eR)
   (aG (iu (cq (qW hu8) (bO (aq 14) ao) ck (dk _)) (aG (bg (i:=4) aD.nd rfl (by walk_at "i") (cu dQ (aq 4) (dP (T:=["_law_k"]) (M:=["_law_cells","_law_pens","_law_old","_law_signs","_law_slots","_law_rows","_law_many","_law_cell","_law_xs","_law_pen","_law_name","_law_anchor","_law_at","_law_names","_law_act","_law_some"]) (bq rfl (by kernel_rfl)) (fun cl C s₀ H₀ fp=>⟨(aN (i:=0) lf rfl (by walk_at "i")),fi,(eJ (aa (bO (aq 11) ao) (aa (bO (aq 11) ao) (aa (cu dQ (aq 0) ao) am))))⟩) (ie (by rfl) T.b_range (aa (bV b_len (by rfl) T.b_len PySem.boot_len (aa (aq 13) am)) am)))))) eR))))))))))))))
   (aG (kR (i:=5) rfl (by first|exact Or.inl rfl|exact Or.inr (Or.inl rfl)))))))))
theorem mm{f:IW}{fd:JE}(F:Fun3 K "_law_standing" "_law_standing" cM f fd)(T:Tx K mg Z1 Z2 Z3 Z4 Z5)(Pn:Fn3 P w K mg base 1 "_law_stream" [] (bb Z1 Z2 Z3 Z4 Z5 (ah P w)))
  (rok:bC (bm Z1 Z2 Z3 Z4 Z5 (ah P w)) (df Z1 Z2 Z3 Z4 Z5 (ah P w)) ["_law_rows","_law_cell","_law_found","_law_k"]) (len:bD (bm Z1 Z2 Z3 Z4 Z5 (ah P w)) 2):FnOk P w K mg base gF 2 f fd ["_law_rows","_law_cell"] (aJ K (bm Z1 Z2 Z3 Z4 Z5 (ah P w))):=by
 refine Fun3.ok3 F fI len (fun cdv A outer s H E hr=>⟨df Z1 Z2 Z3 Z4 Z5 (ah P w),?_,rok⟩);have hu8:=u8 hr;have hu4:=u4 hr;unfold df;exact (al (wI (i:=2) fI.nd rfl (by walk_at "i") (hZ (aa (eJ (aa ck (aa ao am))) (aa (eJ (aa ck (aa ao am))) am))))
   (al (fu JH rfl (ie (by rfl) T.b_range (aa (bV b_len (by rfl) T.b_len PySem.boot_len (aa (aq 0) am)) am)) (aN (i:=3) fI.nd rfl (by walk_at "i")) (aG (iu (rO Fs (cu gA (bO (bA Pn (hr.mono (by decide)) (by rfl) (aa (cu dQ (aq 1) (cu wA ao (aq 3))) (aa ao am))) ao) ao) ao (dk _)) (aG (gZ (kW (aq 2) (aa (bO (bO (aq 0) (aq 3)) ao) am)))) eR)))
   (aG (kR (i:=2) rfl (by first|exact Or.inl rfl|exact Or.inr (Or.inl rfl))))))
theorem pN{f:IW}{fd:JE}(F:Fun3 K "lay_behind" "lay_behind" eg f fd)(T:Tx K mg Z1 Z2 Z3 Z4 Z5) 
  (rok:bC (bF Z1 Z2 Z3 Z4 Z5 (ah P w)) (eP Z1 Z2 Z3 Z4 Z5 (ah P w)) ["following","anchor","slots","behind","slot"]) (len:bD (bF Z1 Z2 Z3 Z4 Z5 (ah P w)) 3):FnOk P w K mg base gF 1 f fd ["following","anchor","slots"] (aJ K (bF Z1 Z2 Z3 Z4 Z5 (ah P w))):=by
 refine Fun3.ok3 F fV len (fun cdv A outer s H E hr=>⟨eP Z1 Z2 Z3 Z4 Z5 (ah P w),?_,rok⟩);have hu8:=u8 hr;have hu4:=u4 hr;unfold eP;exact (al (bg (i:=3) fV.nd rfl (by walk_at "i") (aq 1))
   (aG (fu JH rfl (cT (aq 2)) (aN (i:=4) fV.nd rfl (by walk_at "i")) (al (gX hu8 (aq 0) (aq 4) (og hu8 (aq 0) (aq 3)))
   (al (gX hu8 (aq 0) (aq 3) (aq 4))
   (aG (bg (i:=3) fV.nd rfl (by walk_at "i") (aq 4))))))))
theorem pM{f:IW}{fd:JE}(F:Fun3 K "slots_made" "slots_made" ef f fd)(T:Tx K mg Z1 Z2 Z3 Z4 Z5) 
  (rok:bC (a_ Z1 Z2 Z3 Z4 Z5 (ah P w)) (eO Z1 Z2 Z3 Z4 Z5 (ah P w)) ["name","how_many"]) (len:bD (a_ Z1 Z2 Z3 Z4 Z5 (ah P w)) 2):FnOk P w K mg base gF 1 f fd ["name","how_many"] (aJ K (a_ Z1 Z2 Z3 Z4 Z5 (ah P w))):=by
 refine Fun3.ok3 F pE len (fun cdv A outer s H E hr=>⟨eO Z1 Z2 Z3 Z4 Z5 (ah P w),?_,rok⟩);have hu8:=u8 hr;have hu4:=u4 hr;unfold eO;exact (aG (cC (dP (T:=["k"]) (M:=["name","how_many"]) (bq rfl (by kernel_rfl)) (fun cl C s₀ H₀ fp=>⟨(aN (i:=0) nj rfl (by walk_at "i")),fi,(cu dQ (aq 1) (eJ (aa (aq 0) am)))⟩) (Az (by rfl) T.b_range (aa ao (aa (cu dQ (aq 1) ao) am))))))
theorem rT{f:IW}{fd:JE}(F:Fun3 K "old_slots" "old_slots" e_ f fd)(T:Tx K mg Z1 Z2 Z3 Z4 Z5)(Pl:Fn3 P w K mg base 1 "slots_made" [] (a_ Z1 Z2 Z3 Z4 Z5 (ah P w)))
  (rok:bC (bI Z1 Z2 Z3 Z4 Z5 (ah P w)) (fm Z1 Z2 Z3 Z4 Z5 (ah P w)) ["old"]) (len:bD (bI Z1 Z2 Z3 Z4 Z5 (ah P w)) 1):FnOk P w K mg base gF 2 f fd ["old"] (aJ K (bI Z1 Z2 Z3 Z4 Z5 (ah P w))):=by
 refine Fun3.ok3 F rj len (fun cdv A outer s H E hr=>⟨fm Z1 Z2 Z3 Z4 Z5 (ah P w),?_,rok⟩);have hu8:=u8 hr;have hu4:=u4 hr;unfold fm;exact (aG (cC (bA Pl (hr.mono (by decide)) (by rfl) (aa (ik tD (jl (by rfl) T.k_START) gw (fM ao)) (aa (bV b_len (by rfl) T.b_len PySem.boot_len (aa (aq 0) am)) am)))))
theorem kX{f:IW}{fd:JE}(F:Fun3 K "place_in_order" "place_in_order" cw f fd)(T:Tx K mg Z1 Z2 Z3 Z4 Z5) 
  (rok:bC (aO Z1 Z2 Z3 Z4 Z5 (ah P w)) (cO Z1 Z2 Z3 Z4 Z5 (ah P w)) ["row"]) (len:bD (aO Z1 Z2 Z3 Z4 Z5 (ah P w)) 1):FnOk P w K mg base gF 1 f fd ["row"] (aJ K (aO Z1 Z2 Z3 Z4 Z5 (ah P w))):=by
 refine Fun3.ok3 F kJ len (fun cdv A outer s H E hr=>⟨cO Z1 Z2 Z3 Z4 Z5 (ah P w),?_,rok⟩);have hu8:=u8 hr;have hu4:=u4 hr;unfold cO;exact (aG (cC (eJ (aa (bO (aq 0) ao) (aa (bO (aq 0) ao) am)))))
theorem uc{f:IW}{fd:JE}(F:Fun3 K "in_order" "in_order" fK f fd)(T:Tx K mg Z1 Z2 Z3 Z4 Z5)(PV:Fn3 P w K mg base 1 "place_in_order" [] (aO Z1 Z2 Z3 Z4 Z5 (ah P w)))
  (rok:bC (bY Z1 Z2 Z3 Z4 Z5 (ah P w)) (gf Z1 Z2 Z3 Z4 Z5 (ah P w)) ["rows","by_name","row"]) (len:bD (bY Z1 Z2 Z3 Z4 Z5 (ah P w)) 1):FnOk P w K mg base gF 4 f fd ["rows"] (aJ K (bY Z1 Z2 Z3 Z4 Z5 (ah P w))):=by
 refine Fun3.ok3 F jj len (fun cdv A outer s H E hr=>⟨gf Z1 Z2 Z3 Z4 Z5 (ah P w),?_,rok⟩);have hu8:=u8 hr;have hu4:=u4 hr;unfold gf;exact (al (bg (i:=1) jj.nd rfl (by walk_at "i") mj)
   (al (fu JH rfl (cT (aq 0)) (aN (i:=2) jj.nd rfl (by walk_at "i")) (aG (gX hu8 (aq 1) (bO (aq 2) ao) (aq 2))))
   (aG (cC (BV PV (hr.mono (by decide)) rfl (by rfl) (by rfl) T.b_sorted (aq 1))))))
theorem j_{f:IW}{fd:JE}(F:Fun3 K "__init__" "Stroke.__init__" cf f fd)(T:Tx K mg Z1 Z2 Z3 Z4 Z5) 
  (rok:bC (aw Z1 Z2 Z3 Z4 Z5 (ah P w)) (cA Z1 Z2 Z3 Z4 Z5 (ah P w)) ["self","name","time"]) (len:bD (aw Z1 Z2 Z3 Z4 Z5 (ah P w)) 3):FnOk P w K mg base gF 1 f fd ["self","name","time"] (aJ K (aw Z1 Z2 Z3 Z4 Z5 (ah P w))):=by
 refine Fun3.ok3 F j2 len (fun cdv A outer s H E hr=>⟨cA Z1 Z2 Z3 Z4 Z5 (ah P w),?_,rok⟩);have hu8:=u8 hr;have hu4:=u4 hr;unfold cA;exact (al (gY T.fa_name (aq 0) (aq 1))
   (al (gY T.fa_time (aq 0) (aq 2))
   (al (gY T.fa_anchor (aq 0) (jl (by rfl) T.k_START))
   (aG (gY T.fa_names (aq 0) (eJ am))))))
theorem ni{f:IW}{fd:JE}(F:Fun3 K "__init__" "Put.__init__" dc f fd)(T:Tx K mg Z1 Z2 Z3 Z4 Z5)(OY:Cf3 P w K mg base 1 "Stroke" "__init__" [] (aw Z1 Z2 Z3 Z4 Z5 (ah P w)))
  (rok:bC (bd Z1 Z2 Z3 Z4 Z5 (ah P w)) (dI Z1 Z2 Z3 Z4 Z5 (ah P w)) ["self","name","time","anchor","signs"]) (len:bD (bd Z1 Z2 Z3 Z4 Z5 (ah P w)) 5):FnOk P w K mg base gF 2 f fd ["self","name","time","anchor","signs"] (aJ K (bd Z1 Z2 Z3 Z4 Z5 (ah P w))):=by
 refine Fun3.ok3 F m6 len (fun cdv A outer s H E hr=>⟨dI Z1 Z2 Z3 Z4 Z5 (ah P w),?_,rok⟩);have hu8:=u8 hr;have hu4:=u4 hr;unfold dI;exact (al (gZ (jw OY (hr.mono (by decide)) (by rfl) (aa (aq 0) (aa (aq 1) (aa (aq 2) am)))))
   (al (gY T.fa_anchor (aq 0) (aq 3))
   (aG (gY T.fa_signs (aq 0) (aq 4)))))
theorem kc{f:IW}{fd:JE}(F:Fun3 K "__init__" "Strike.__init__" cg f fd)(T:Tx K mg Z1 Z2 Z3 Z4 Z5)(OY:Cf3 P w K mg base 1 "Stroke" "__init__" [] (aw Z1 Z2 Z3 Z4 Z5 (ah P w)))
  (rok:bC (aR Z1 Z2 Z3 Z4 Z5 (ah P w)) (cB Z1 Z2 Z3 Z4 Z5 (ah P w)) ["self","name","time","names"]) (len:bD (aR Z1 Z2 Z3 Z4 Z5 (ah P w)) 4):FnOk P w K mg base gF 2 f fd ["self","name","time","names"] (aJ K (aR Z1 Z2 Z3 Z4 Z5 (ah P w))):=by
 refine Fun3.ok3 F j3 len (fun cdv A outer s H E hr=>⟨cB Z1 Z2 Z3 Z4 Z5 (ah P w),?_,rok⟩);have hu8:=u8 hr;have hu4:=u4 hr;unfold cB;exact (al (gZ (jw OY (hr.mono (by decide)) (by rfl) (aa (aq 0) (aa (aq 1) (aa (aq 2) am)))))
   (aG (gY T.fa_names (aq 0) (aq 3))))
theorem kZ{f:IW}{fd:JE}(F:Fun3 K "__init__" "Dress.__init__" cy f fd)(T:Tx K mg Z1 Z2 Z3 Z4 Z5)(OY:Cf3 P w K mg base 1 "Stroke" "__init__" [] (aw Z1 Z2 Z3 Z4 Z5 (ah P w)))
  (rok:bC (aV Z1 Z2 Z3 Z4 Z5 (ah P w)) (cQ Z1 Z2 Z3 Z4 Z5 (ah P w)) ["self","name","time","names","word"]) (len:bD (aV Z1 Z2 Z3 Z4 Z5 (ah P w)) 5):FnOk P w K mg base gF 2 f fd ["self","name","time","names","word"] (aJ K (aV Z1 Z2 Z3 Z4 Z5 (ah P w))):=by
 refine Fun3.ok3 F kL len (fun cdv A outer s H E hr=>⟨cQ Z1 Z2 Z3 Z4 Z5 (ah P w),?_,rok⟩);have hu8:=u8 hr;have hu4:=u4 hr;unfold cQ;exact (al (gZ (jw OY (hr.mono (by decide)) (by rfl) (aa (aq 0) (aa (aq 1) (aa (aq 2) am)))))
   (al (gY T.fa_names (aq 0) (aq 3))
   (aG (gY T.fa_word (aq 0) (aq 4)))))
theorem mn{f:IW}{fd:JE}(F:Fun3 K "__init__" "Move.__init__" cN f fd)(T:Tx K mg Z1 Z2 Z3 Z4 Z5)(OY:Cf3 P w K mg base 1 "Stroke" "__init__" [] (aw Z1 Z2 Z3 Z4 Z5 (ah P w)))
  (rok:bC (aZ Z1 Z2 Z3 Z4 Z5 (ah P w)) (dh Z1 Z2 Z3 Z4 Z5 (ah P w)) ["self","name","time","names","anchor"]) (len:bD (aZ Z1 Z2 Z3 Z4 Z5 (ah P w)) 5):FnOk P w K mg base gF 2 f fd ["self","name","time","names","anchor"] (aJ K (aZ Z1 Z2 Z3 Z4 Z5 (ah P w))):=by
 refine Fun3.ok3 F lW len (fun cdv A outer s H E hr=>⟨dh Z1 Z2 Z3 Z4 Z5 (ah P w),?_,rok⟩);have hu8:=u8 hr;have hu4:=u4 hr;unfold dh;exact (al (gZ (jw OY (hr.mono (by decide)) (by rfl) (aa (aq 0) (aa (aq 1) (aa (aq 2) am)))))
   (al (gY T.fa_names (aq 0) (aq 3))
   (aG (gY T.fa_anchor (aq 0) (aq 4)))))
theorem rS{f:IW}{fd:JE}(F:Fun3 K "stroke_of" "stroke_of" e9 f fd)(T:Tx K mg Z1 Z2 Z3 Z4 Z5)(Q_:Mk3 P w K mg base 2 "Dress" Z4 [] (aV Z1 Z2 Z3 Z4 Z5 (ah P w)))(Rg:Mk3 P w K mg base 2 "Move" Z5 [] (aZ Z1 Z2 Z3 Z4 Z5 (ah P w)))(Rq:Mk3 P w K mg base 2 "Put" Z2 [] (bd Z1 Z2 Z3 Z4 Z5 (ah P w)))(Q8:Mk3 P w K mg base 2 "Strike" Z3 [] (aR Z1 Z2 Z3 Z4 Z5 (ah P w)))
  (rok:bC (bH Z1 Z2 Z3 Z4 Z5 (ah P w)) (fk Z1 Z2 Z3 Z4 Z5 (ah P w)) ["row","name","time","act"]) (len:bD (bH Z1 Z2 Z3 Z4 Z5 (ah P w)) 1):FnOk P w K mg base gF 4 f fd ["row"] (aJ K (bH Z1 Z2 Z3 Z4 Z5 (ah P w))):=by
 refine Fun3.ok3 F gH len (fun cdv A outer s H E hr=>⟨fk Z1 Z2 Z3 Z4 Z5 (ah P w),?_,rok⟩);have hu8:=u8 hr;have hu4:=u4 hr;unfold fk;exact (al (bg (i:=1) gH.nd rfl (by walk_at "i") (bO (aq 0) ao))
   (al (bg (i:=2) gH.nd rfl (by walk_at "i") (bO (aq 0) ao))
   (al (bg (i:=3) gH.nd rfl (by walk_at "i") (bO (aq 0) ao))
   (al (iu (cq (qW hu8) (bO (aq 3) ao) ck (dk _)) (aG (cC (rP Rq (hr.mono (by decide)) (by rfl) (aa (aq 1) (aa (aq 2) (aa (bO (aq 3) ao) (aa (bO (aq 3) ao) am))))))) eR)
   (al (iu (cq (qW hu8) (bO (aq 3) ao) ck (dk _)) (aG (cC (rP Q8 (hr.mono (by decide)) (by rfl) (aa (aq 1) (aa (aq 2) (aa (bO (aq 3) ao) am)))))) eR)
   (al (iu (cq (qW hu8) (bO (aq 3) ao) ck (dk _)) (aG (cC (rP Q_ (hr.mono (by decide)) (by rfl) (aa (aq 1) (aa (aq 2) (aa (bO (aq 3) ao) (aa (bO (aq 3) ao) am))))))) eR)
   (aG (cC (rP Rg (hr.mono (by decide)) (by rfl) (aa (aq 1) (aa (aq 2) (aa (bO (aq 3) ao) (aa (bO (aq 3) ao) am)))))))))))))
theorem vS{f:IW}{fd:JE}(F:Fun3 K "chained" "chained" gQ f fd)(T:Tx K mg Z1 Z2 Z3 Z4 Z5) 
  (rok:bC (cX Z1 Z2 Z3 Z4 Z5 (ah P w)) (gW Z1 Z2 Z3 Z4 Z5 (ah P w)) ["following","row","slot"]) (len:bD (cX Z1 Z2 Z3 Z4 Z5 (ah P w)) 1):FnOk P w K mg base gF 1 f fd ["following"] (aJ K (cX Z1 Z2 Z3 Z4 Z5 (ah P w))):=by
 refine Fun3.ok3 F iV len (fun cdv A outer s H E hr=>⟨gW Z1 Z2 Z3 Z4 Z5 (ah P w),?_,rok⟩);have hu8:=u8 hr;have hu4:=u4 hr;unfold gW;exact (al (wI (i:=1) iV.nd rfl (by walk_at "i") (hZ am))
   (al (bg (i:=2) iV.nd rfl (by walk_at "i") (og hu8 (aq 0) (jl (by rfl) T.k_START)))
   (al (BA JH (rO Dy (aq 2) Dc (dk _)) (al (gZ (kW (aq 1) (aa (aq 2) am)))
   (aG (bg (i:=2) iV.nd rfl (by walk_at "i") (og hu8 (aq 0) (aq 2))))))
   (aG (kR (i:=1) rfl (by first|exact Or.inl rfl|exact Or.inr (Or.inl rfl)))))))
theorem nh{f:IW}{fd:JE}(F:Fun3 K "slots" "Stroke.slots" db f fd)(T:Tx K mg Z1 Z2 Z3 Z4 Z5) 
  (rok:bC (ai Z1 Z2 Z3 Z4 Z5 (ah P w)) (dH Z1 Z2 Z3 Z4 Z5 (ah P w)) ["self"]) (len:bD (ai Z1 Z2 Z3 Z4 Z5 (ah P w)) 1):FnOk P w K mg base gF 1 f fd ["self"] (aJ K (ai Z1 Z2 Z3 Z4 Z5 (ah P w))):=by
 refine Fun3.ok3 F m5 len (fun cdv A outer s H E hr=>⟨dH Z1 Z2 Z3 Z4 Z5 (ah P w),?_,rok⟩);have hu8:=u8 hr;have hu4:=u4 hr;unfold dH;exact (aG (cC (hZ am)))
theorem rX{f:IW}{fd:JE}(F:Fun3 K "slots" "Put.slots" fe f fd)(T:Tx K mg Z1 Z2 Z3 Z4 Z5)(Pl:Fn3 P w K mg base 1 "slots_made" [] (a_ Z1 Z2 Z3 Z4 Z5 (ah P w)))
  (rok:bC (aS Z1 Z2 Z3 Z4 Z5 (ah P w)) (ft Z1 Z2 Z3 Z4 Z5 (ah P w)) ["self"]) (len:bD (aS Z1 Z2 Z3 Z4 Z5 (ah P w)) 1):FnOk P w K mg base gF 2 f fd ["self"] (aJ K (aS Z1 Z2 Z3 Z4 Z5 (ah P w))):=by
 refine Fun3.ok3 F rp len (fun cdv A outer s H E hr=>⟨ft Z1 Z2 Z3 Z4 Z5 (ah P w),?_,rok⟩);have hu8:=u8 hr;have hu4:=u4 hr;unfold ft;exact (aG (cC (bA Pl (hr.mono (by decide)) (by rfl) (aa (iY T.fa_name (aq 0)) (aa (bV b_len (by rfl) T.b_len PySem.boot_len (aa (iY T.fa_signs (aq 0)) am)) am)))))
theorem pO{f:IW}{fd:JE}(F:Fun3 K "slots" "Move.slots" eh f fd)(T:Tx K mg Z1 Z2 Z3 Z4 Z5)(Pl:Fn3 P w K mg base 1 "slots_made" [] (a_ Z1 Z2 Z3 Z4 Z5 (ah P w)))
  (rok:bC (aL Z1 Z2 Z3 Z4 Z5 (ah P w)) (eQ Z1 Z2 Z3 Z4 Z5 (ah P w)) ["self"]) (len:bD (aL Z1 Z2 Z3 Z4 Z5 (ah P w)) 1):FnOk P w K mg base gF 2 f fd ["self"] (aJ K (aL Z1 Z2 Z3 Z4 Z5 (ah P w))):=by
 refine Fun3.ok3 F pF len (fun cdv A outer s H E hr=>⟨eQ Z1 Z2 Z3 Z4 Z5 (ah P w),?_,rok⟩);have hu8:=u8 hr;have hu4:=u4 hr;unfold eQ;exact (aG (cC (bA Pl (hr.mono (by decide)) (by rfl) (aa (iY T.fa_name (aq 0)) (aa (bV b_len (by rfl) T.b_len PySem.boot_len (aa (iY T.fa_names (aq 0)) am)) am)))))
theorem t_{f:IW}{fd:JE}(F:Fun3 K "slots_of" "slots_of" fJ f fd)(T:Tx K mg Z1 Z2 Z3 Z4 Z5)(Q6:Fn3 P w K mg base 1 "chained" [] (cX Z1 Z2 Z3 Z4 Z5 (ah P w)))(PY:Fn3 P w K mg base 4 "in_order" [] (bY Z1 Z2 Z3 Z4 Z5 (ah P w)))(Qb:Fn3 P w K mg base 1 "lay_behind" [] (bF Z1 Z2 Z3 Z4 Z5 (ah P w)))(PJ:Fn3 P w K mg base 2 "old_slots" [] (bI Z1 Z2 Z3 Z4 Z5 (ah P w)))(PH:Fn3 P w K mg base 4 "stroke_of" [] (bH Z1 Z2 Z3 Z4 Z5 (ah P w)))(OZ:Mt3 P w K mg base 1 Z1 "slots" [] (ai Z1 Z2 Z3 Z4 Z5 (ah P w)))(Pi:Mt3 P w K mg base 2 Z2 "slots" [] (aS Z1 Z2 Z3 Z4 Z5 (ah P w)))(O_:Mt3 P w K mg base 1 Z3 "slots" [] (ai Z1 Z2 Z3 Z4 Z5 (ah P w)))(Pa:Mt3 P w K mg base 1 Z4 "slots" [] (ai Z1 Z2 Z3 Z4 Z5 (ah P w)))(Pf:Mt3 P w K mg base 2 Z5 "slots" [] (aL Z1 Z2 Z3 Z4 Z5 (ah P w)))
  (rok:bC (bX Z1 Z2 Z3 Z4 Z5 (ah P w)) (gc Z1 Z2 Z3 Z4 Z5 (ah P w)) ["old","strokes","following","stroke"]) (len:bD (bX Z1 Z2 Z3 Z4 Z5 (ah P w)) 2):FnOk P w K mg base gF 5 f fd ["old","strokes"] (aJ K (bX Z1 Z2 Z3 Z4 Z5 (ah P w))):=by
 refine Fun3.ok3 F ji len (fun cdv A outer s H E hr=>⟨gc Z1 Z2 Z3 Z4 Z5 (ah P w),?_,rok⟩);have hu8:=u8 hr;have hu4:=u4 hr;unfold gc;exact (al (bg (i:=2) ji.nd rfl (by walk_at "i") (B1 hu8 (jl (by rfl) T.k_START) Dc))
   (al (gZ (bA Qb (hr.mono (by decide)) (by rfl) (aa (aq 2) (aa (jl (by rfl) T.k_START) (aa (bA PJ (hr.mono (by decide)) (by rfl) (aa (aq 0) am)) am)))))
   (al (fu JH rfl (cT (dP (T:=["row"]) (M:=["old","strokes","following","stroke"]) (bq rfl (by kernel_rfl)) (fun cl C s₀ H₀ fp=>⟨(aN (i:=0) pP rfl (by walk_at "i")),fi,(bA PH (hr.mono (by decide)) (by rfl) (aa (aq 0) am))⟩) (cT (bA PY (hr.mono (by decide)) (by rfl) (aa (aq 1) am))))) (aN (i:=3) ji.nd rfl (by walk_at "i")) (aG (iu (vL hu8 (iY T.fa_anchor (aq 3)) (aq 2)) (aG (gZ (bA Qb (hr.mono (by decide)) (by rfl) (aa (aq 2) (aa (iY T.fa_anchor (aq 3)) (aa (hX (k:=2) (all_cons ⟨_,(by decide),OZ⟩ (all_cons ⟨_,(by decide),Pi⟩ (all_cons ⟨_,(by decide),O_⟩ (all_cons ⟨_,(by decide),Pa⟩ (all_cons ⟨_,(by decide),Pf⟩ (fun _ h=>nomatch h)))))) (hr.mono (by decide)) (aq 3)) am)))))) eR)))
   (aG (cC (bA Q6 (hr.mono (by decide)) (by rfl) (aa (aq 2) am)))))))
theorem ud{f:IW}{fd:JE}(F:Fun3 K "_law_due" "_law_due" fL f fd)(T:Tx K mg Z1 Z2 Z3 Z4 Z5) 
  (rok:bC (cv Z1 Z2 Z3 Z4 Z5 (ah P w)) (gg Z1 Z2 Z3 Z4 Z5 (ah P w)) ["_law_old","_law_rows","_law_standing_here","_law_slots","_law_due_here","_law_k","_law_name","_law_time","_law_act","_law_sign"]) (len:bD (cv Z1 Z2 Z3 Z4 Z5 (ah P w)) 4):FnOk P w K mg base gF 1 f fd ["_law_old","_law_rows","_law_standing_here","_law_slots"] (aJ K (cv Z1 Z2 Z3 Z4 Z5 (ah P w))):=by
 refine Fun3.ok3 F ce len (fun cdv A outer s H E hr=>⟨gg Z1 Z2 Z3 Z4 Z5 (ah P w),?_,rok⟩);have hu8:=u8 hr;have hu4:=u4 hr;unfold gg;exact (al (bg (i:=4) ce.nd rfl (by walk_at "i") mj)
   (al (fu JH rfl (ie (by rfl) T.b_range (aa (bV b_len (by rfl) T.b_len PySem.boot_len (aa (aq 0) am)) am)) (aN (i:=5) ce.nd rfl (by walk_at "i")) (aG (gX hu8 (aq 4) (eJ (aa ck (aa ao (aa (cu dQ (aq 5) ao) am)))) (bO (aq 0) (aq 5)))))
   (al (fu JH rfl (cT (aq 1)) (qE (n:=3) rfl (e8 (aN (i:=6) ce.nd rfl (by walk_at "i")) (e8 (aN (i:=7) ce.nd rfl (by walk_at "i")) (e8 (aN (i:=8) ce.nd rfl (by walk_at "i")) qF)))) (aG (iu (PW.pt (yP (cq (qW hu8) (bO (aq 8) ao) ck (dk _)) (yP (cq (Bg hu8) (aq 6) (aq 2) rfl) (yO (cq (Bg hu8) (eJ (aa (bO (aq 6) ao) (aa (bO (aq 6) ao) (aa ao am)))) (aq 3) rfl))))) (aG (fu JH rfl (ie (by rfl) T.b_range (aa (bV b_len (by rfl) T.b_len PySem.boot_len (aa (bO (aq 8) ao) am)) am)) (aN (i:=5) ce.nd rfl (by walk_at "i")) (aG (gX hu8 (aq 4) (eJ (aa (bO (aq 6) ao) (aa (bO (aq 6) ao) (aa (cu dQ (aq 5) ao) am)))) (bO (bO (aq 8) ao) (aq 5)))))) eR)))
   (al (fu JH rfl (cT (aq 1)) (qE (n:=3) rfl (e8 (aN (i:=6) ce.nd rfl (by walk_at "i")) (e8 (aN (i:=7) ce.nd rfl (by walk_at "i")) (e8 (aN (i:=8) ce.nd rfl (by walk_at "i")) qF)))) (aG (iu (PW.pt (yP (cq (qW hu8) (bO (aq 8) ao) ck (dk _)) (yO (cq (Bg hu8) (aq 6) (aq 2) rfl)))) (aG (fu JH rfl (cT (bO (aq 8) ao)) (aN (i:=9) ce.nd rfl (by walk_at "i")) (aG (gZ (BY hu8 (aq 4) (aq 9) ck))))) eR)))
   (aG (cC (aq 4)))))))
theorem xO{f:IW}{fd:JE}(F:Fun3 K "marked" "marked" iJ f fd)(T:Tx K mg Z1 Z2 Z3 Z4 Z5) 
  (rok:bC (cK Z1 Z2 Z3 Z4 Z5 (ah P w)) (iM Z1 Z2 Z3 Z4 Z5 (ah P w)) ["keys"]) (len:bD (cK Z1 Z2 Z3 Z4 Z5 (ah P w)) 1):FnOk P w K mg base gF 1 f fd ["keys"] (aJ K (cK Z1 Z2 Z3 Z4 Z5 (ah P w))):=by
 refine Fun3.ok3 F xy len (fun cdv A outer s H E hr=>⟨iM Z1 Z2 Z3 Z4 Z5 (ah P w),?_,rok⟩);have hu8:=u8 hr;have hu4:=u4 hr;unfold iM;exact (aG (cC (B0 hu8 rfl (by rfl) T.b_dict (dP (T:=["key"]) (M:=["keys"]) (bq rfl (by kernel_rfl)) (fun cl C s₀ H₀ fp=>⟨(aN (i:=0) ui rfl (by walk_at "i")),fi,(eJ (aa (aq 0) (aa xL am)))⟩) (cT (aq 0))))))
theorem rV{f:IW}{fd:JE}(F:Fun3 K "is_placed" "is_placed" fb f fd)(T:Tx K mg Z1 Z2 Z3 Z4 Z5)(OZ:Mt3 P w K mg base 1 Z1 "slots" [] (ai Z1 Z2 Z3 Z4 Z5 (ah P w)))(Pi:Mt3 P w K mg base 2 Z2 "slots" [] (aS Z1 Z2 Z3 Z4 Z5 (ah P w)))(O_:Mt3 P w K mg base 1 Z3 "slots" [] (ai Z1 Z2 Z3 Z4 Z5 (ah P w)))(Pa:Mt3 P w K mg base 1 Z4 "slots" [] (ai Z1 Z2 Z3 Z4 Z5 (ah P w)))(Pf:Mt3 P w K mg base 2 Z5 "slots" [] (aL Z1 Z2 Z3 Z4 Z5 (ah P w)))
  (rok:bC (b9 Z1 Z2 Z3 Z4 Z5 (ah P w)) (fo Z1 Z2 Z3 Z4 Z5 (ah P w)) ["stroke","in_row"]) (len:bD (b9 Z1 Z2 Z3 Z4 Z5 (ah P w)) 2):FnOk P w K mg base gF 3 f fd ["stroke","in_row"] (aJ K (b9 Z1 Z2 Z3 Z4 Z5 (ah P w))):=by
 refine Fun3.ok3 F rm len (fun cdv A outer s H E hr=>⟨fo Z1 Z2 Z3 Z4 Z5 (ah P w),?_,rok⟩);have hu8:=u8 hr;have hu4:=u4 hr;unfold fo;exact (aG (cC (bV (Fg rfl) (by rfl) T.b_all PyProof.Rows.boot_all (aa (dP (T:=["slot"]) (M:=["stroke","in_row"]) (bq rfl (by kernel_rfl)) (fun cl C s₀ H₀ fp=>⟨(aN (i:=0) oq rfl (by walk_at "i")),fi,(FY hu8 (aq 0) (aq 2))⟩) (cT (hX (k:=2) (all_cons ⟨_,(by decide),OZ⟩ (all_cons ⟨_,(by decide),Pi⟩ (all_cons ⟨_,(by decide),O_⟩ (all_cons ⟨_,(by decide),Pa⟩ (all_cons ⟨_,(by decide),Pf⟩ (fun _ h=>nomatch h)))))) (hr.mono (by decide)) (aq 0)))) am))))
theorem rW{f:IW}{fd:JE}(F:Fun3 K "effective" "effective" fc f fd)(T:Tx K mg Z1 Z2 Z3 Z4 Z5)(PY:Fn3 P w K mg base 4 "in_order" [] (bY Z1 Z2 Z3 Z4 Z5 (ah P w)))(QB:Fn3 P w K mg base 3 "is_placed" [] (b9 Z1 Z2 Z3 Z4 Z5 (ah P w)))(Qt:Fn3 P w K mg base 1 "marked" [] (cK Z1 Z2 Z3 Z4 Z5 (ah P w)))(PH:Fn3 P w K mg base 4 "stroke_of" [] (bH Z1 Z2 Z3 Z4 Z5 (ah P w)))
  (rok:bC (b_ Z1 Z2 Z3 Z4 Z5 (ah P w)) (fq Z1 Z2 Z3 Z4 Z5 (ah P w)) ["strokes","standing","in_row","stands","chosen"]) (len:bD (b_ Z1 Z2 Z3 Z4 Z5 (ah P w)) 3):FnOk P w K mg base gF 5 f fd ["strokes","standing","in_row"] (aJ K (b_ Z1 Z2 Z3 Z4 Z5 (ah P w))):=by
 refine Fun3.ok3 F iU len (fun cdv A outer s H E hr=>⟨fq Z1 Z2 Z3 Z4 Z5 (ah P w),?_,rok⟩);have hu8:=u8 hr;have hu4:=u4 hr;unfold fq;exact (al (bg (i:=3) iU.nd rfl (by walk_at "i") (bA Qt (hr.mono (by decide)) (by rfl) (aa (aq 1) am)))
   (al (zD (T:=["row"]) (M:=["strokes","standing","in_row","stands","chosen"]) (i:=4) (bq rfl (by kernel_rfl)) iU.nd rfl rfl (fun cl C s₀ H₀ fp=>⟨(aN (i:=0) ou rfl (by walk_at "i")),(lS (vL hu8 (bO (aq 0) ao) (aq 4))),(bA PH (hr.mono (by decide)) (by rfl) (aa (aq 0) am))⟩) (cT (bA PY (hr.mono (by decide)) (by rfl) (aa (aq 0) am))))
   (aG (cC (dP (T:=["stroke"]) (M:=["strokes","standing","in_row","stands","chosen"]) (bq rfl (by kernel_rfl)) (fun cl C s₀ H₀ fp=>⟨(aN (i:=0) ot rfl (by walk_at "i")),(lS (hV (bA QB (hr.mono (by decide)) (by rfl) (aa (aq 0) (aa (aq 3) am))))),(aq 0)⟩) (cT (aq 4)))))))
theorem ml{f:IW}{fd:JE}(F:Fun3 K "signs_brought" "signs_brought" cL f fd)(T:Tx K mg Z1 Z2 Z3 Z4 Z5)(PJ:Fn3 P w K mg base 2 "old_slots" [] (bI Z1 Z2 Z3 Z4 Z5 (ah P w)))(OZ:Mt3 P w K mg base 1 Z1 "slots" [] (ai Z1 Z2 Z3 Z4 Z5 (ah P w)))(Pi:Mt3 P w K mg base 2 Z2 "slots" [] (aS Z1 Z2 Z3 Z4 Z5 (ah P w)))(O_:Mt3 P w K mg base 1 Z3 "slots" [] (ai Z1 Z2 Z3 Z4 Z5 (ah P w)))(Pa:Mt3 P w K mg base 1 Z4 "slots" [] (ai Z1 Z2 Z3 Z4 Z5 (ah P w)))(Pf:Mt3 P w K mg base 2 Z5 "slots" [] (aL Z1 Z2 Z3 Z4 Z5 (ah P w)))
  (rok:bC (bj Z1 Z2 Z3 Z4 Z5 (ah P w)) (de Z1 Z2 Z3 Z4 Z5 (ah P w)) ["old","strokes","brought","stroke","name","sign"]) (len:bD (bj Z1 Z2 Z3 Z4 Z5 (ah P w)) 2):FnOk P w K mg base gF 3 f fd ["old","strokes"] (aJ K (bj Z1 Z2 Z3 Z4 Z5 (ah P w))):=by
 refine Fun3.ok3 F cY len (fun cdv A outer s H E hr=>⟨de Z1 Z2 Z3 Z4 Z5 (ah P w),?_,rok⟩);have hu8:=u8 hr;have hu4:=u4 hr;unfold de;exact (al (bg (i:=2) cY.nd rfl (by walk_at "i") (BZ hu8 rfl (by rfl) T.b_dict (by rfl) T.b_zip (aa (bA PJ (hr.mono (by decide)) (by rfl) (aa (aq 0) am)) (aa (aq 0) am))))
   (al (fu JH rfl (cT (aq 1)) (aN (i:=3) cY.nd rfl (by walk_at "i")) (aG (iu (hV (bV (xc T.ik_Put) (by rfl) T.b_isinstance LO (aa (aq 3) (aa (rR (by rfl) T.xm_Put) am)))) (aG (fu JH rfl (Dl (by rfl) T.b_zip (aa (hX (k:=2) (all_cons ⟨_,(by decide),OZ⟩ (all_cons ⟨_,(by decide),Pi⟩ (all_cons ⟨_,(by decide),O_⟩ (all_cons ⟨_,(by decide),Pa⟩ (all_cons ⟨_,(by decide),Pf⟩ (fun _ h=>nomatch h)))))) (hr.mono (by decide)) (aq 3)) (aa (iY T.fa_signs (aq 3)) am))) (qE (n:=2) rfl (e8 (aN (i:=4) cY.nd rfl (by walk_at "i")) (e8 (aN (i:=5) cY.nd rfl (by walk_at "i")) qF))) (aG (gX hu8 (aq 2) (aq 4) (aq 5))))) eR)))
   (aG (cC (aq 2)))))
theorem kY{f:IW}{fd:JE}(F:Fun3 K "touched" "Stroke.touched" cx f fd)(T:Tx K mg Z1 Z2 Z3 Z4 Z5) 
  (rok:bC (ae Z1 Z2 Z3 Z4 Z5 (ah P w)) (cP Z1 Z2 Z3 Z4 Z5 (ah P w)) ["self"]) (len:bD (ae Z1 Z2 Z3 Z4 Z5 (ah P w)) 1):FnOk P w K mg base gF 1 f fd ["self"] (aJ K (ae Z1 Z2 Z3 Z4 Z5 (ah P w))):=by
 refine Fun3.ok3 F kK len (fun cdv A outer s H E hr=>⟨cP Z1 Z2 Z3 Z4 Z5 (ah P w),?_,rok⟩);have hu8:=u8 hr;have hu4:=u4 hr;unfold cP;exact (aG (cC (t9 b_list (by rfl) T.b_list PyProof.Rows.boot_list (aa (iY T.fa_names (aq 0)) am))))
theorem m9{f:IW}{fd:JE}(F:Fun3 K "signs_struck" "signs_struck" cZ f fd)(T:Tx K mg Z1 Z2 Z3 Z4 Z5)(Pc:Mt3 P w K mg base 1 Z1 "touched" [] (ae Z1 Z2 Z3 Z4 Z5 (ah P w)))(Pk:Mt3 P w K mg base 1 Z2 "touched" [] (ae Z1 Z2 Z3 Z4 Z5 (ah P w)))(Pe:Mt3 P w K mg base 1 Z3 "touched" [] (ae Z1 Z2 Z3 Z4 Z5 (ah P w)))(Pg:Mt3 P w K mg base 1 Z4 "touched" [] (ae Z1 Z2 Z3 Z4 Z5 (ah P w)))(Pj:Mt3 P w K mg base 1 Z5 "touched" [] (ae Z1 Z2 Z3 Z4 Z5 (ah P w)))
  (rok:bC (bv Z1 Z2 Z3 Z4 Z5 (ah P w)) (dE Z1 Z2 Z3 Z4 Z5 (ah P w)) ["strokes","struck","stroke","name"]) (len:bD (bv Z1 Z2 Z3 Z4 Z5 (ah P w)) 1):FnOk P w K mg base gF 2 f fd ["strokes"] (aJ K (bv Z1 Z2 Z3 Z4 Z5 (ah P w))):=by
 refine Fun3.ok3 F eW len (fun cdv A outer s H E hr=>⟨dE Z1 Z2 Z3 Z4 Z5 (ah P w),?_,rok⟩);have hu8:=u8 hr;have hu4:=u4 hr;unfold dE;exact (al (bg (i:=1) eW.nd rfl (by walk_at "i") mj)
   (al (fu JH rfl (cT (aq 0)) (aN (i:=2) eW.nd rfl (by walk_at "i")) (aG (iu (hV (bV (xc T.ik_Strike) (by rfl) T.b_isinstance LO (aa (aq 2) (aa (rR (by rfl) T.xm_Strike) am)))) (aG (fu JH rfl (cT (hX (k:=1) (all_cons ⟨_,(by decide),Pc⟩ (all_cons ⟨_,(by decide),Pk⟩ (all_cons ⟨_,(by decide),Pe⟩ (all_cons ⟨_,(by decide),Pg⟩ (all_cons ⟨_,(by decide),Pj⟩ (fun _ h=>nomatch h)))))) (hr.mono (by decide)) (aq 2))) (aN (i:=3) eW.nd rfl (by walk_at "i")) (aG (gX hu8 (aq 1) (aq 3) xL)))) eR)))
   (aG (cC (aq 1)))))
theorem oh{f:IW}{fd:JE}(F:Fun3 K "slots_taken" "slots_taken" dM f fd)(T:Tx K mg Z1 Z2 Z3 Z4 Z5)(OZ:Mt3 P w K mg base 1 Z1 "slots" [] (ai Z1 Z2 Z3 Z4 Z5 (ah P w)))(Pi:Mt3 P w K mg base 2 Z2 "slots" [] (aS Z1 Z2 Z3 Z4 Z5 (ah P w)))(O_:Mt3 P w K mg base 1 Z3 "slots" [] (ai Z1 Z2 Z3 Z4 Z5 (ah P w)))(Pa:Mt3 P w K mg base 1 Z4 "slots" [] (ai Z1 Z2 Z3 Z4 Z5 (ah P w)))(Pf:Mt3 P w K mg base 2 Z5 "slots" [] (aL Z1 Z2 Z3 Z4 Z5 (ah P w)))(Pc:Mt3 P w K mg base 1 Z1 "touched" [] (ae Z1 Z2 Z3 Z4 Z5 (ah P w)))(Pk:Mt3 P w K mg base 1 Z2 "touched" [] (ae Z1 Z2 Z3 Z4 Z5 (ah P w)))(Pe:Mt3 P w K mg base 1 Z3 "touched" [] (ae Z1 Z2 Z3 Z4 Z5 (ah P w)))(Pg:Mt3 P w K mg base 1 Z4 "touched" [] (ae Z1 Z2 Z3 Z4 Z5 (ah P w)))(Pj:Mt3 P w K mg base 1 Z5 "touched" [] (ae Z1 Z2 Z3 Z4 Z5 (ah P w)))
  (rok:bC (bE Z1 Z2 Z3 Z4 Z5 (ah P w)) (d4 Z1 Z2 Z3 Z4 Z5 (ah P w)) ["strokes","taken","stroke","name","slot"]) (len:bD (bE Z1 Z2 Z3 Z4 Z5 (ah P w)) 1):FnOk P w K mg base gF 3 f fd ["strokes"] (aJ K (bE Z1 Z2 Z3 Z4 Z5 (ah P w))):=by
 refine Fun3.ok3 F dY len (fun cdv A outer s H E hr=>⟨d4 Z1 Z2 Z3 Z4 Z5 (ah P w),?_,rok⟩);have hu8:=u8 hr;have hu4:=u4 hr;unfold d4;exact (al (bg (i:=1) dY.nd rfl (by walk_at "i") mj)
   (al (fu JH rfl (cT (aq 0)) (aN (i:=2) dY.nd rfl (by walk_at "i")) (aG (iu (hV (bV (xc T.ik_Move) (by rfl) T.b_isinstance LO (aa (aq 2) (aa (rR (by rfl) T.xm_Move) am)))) (aG (fu JH rfl (Dl (by rfl) T.b_zip (aa (hX (k:=1) (all_cons ⟨_,(by decide),Pc⟩ (all_cons ⟨_,(by decide),Pk⟩ (all_cons ⟨_,(by decide),Pe⟩ (all_cons ⟨_,(by decide),Pg⟩ (all_cons ⟨_,(by decide),Pj⟩ (fun _ h=>nomatch h)))))) (hr.mono (by decide)) (aq 2)) (aa (hX (k:=2) (all_cons ⟨_,(by decide),OZ⟩ (all_cons ⟨_,(by decide),Pi⟩ (all_cons ⟨_,(by decide),O_⟩ (all_cons ⟨_,(by decide),Pa⟩ (all_cons ⟨_,(by decide),Pf⟩ (fun _ h=>nomatch h)))))) (hr.mono (by decide)) (aq 2)) am))) (qE (n:=2) rfl (e8 (aN (i:=3) dY.nd rfl (by walk_at "i")) (e8 (aN (i:=4) dY.nd rfl (by walk_at "i")) qF))) (aG (gX hu8 (aq 1) (aq 3) (aq 4))))) eR)))
   (aG (cC (aq 1)))))
theorem pL{f:IW}{fd:JE}(F:Fun3 K "words_worn" "words_worn" d_ f fd)(T:Tx K mg Z1 Z2 Z3 Z4 Z5)(Pc:Mt3 P w K mg base 1 Z1 "touched" [] (ae Z1 Z2 Z3 Z4 Z5 (ah P w)))(Pk:Mt3 P w K mg base 1 Z2 "touched" [] (ae Z1 Z2 Z3 Z4 Z5 (ah P w)))(Pe:Mt3 P w K mg base 1 Z3 "touched" [] (ae Z1 Z2 Z3 Z4 Z5 (ah P w)))(Pg:Mt3 P w K mg base 1 Z4 "touched" [] (ae Z1 Z2 Z3 Z4 Z5 (ah P w)))(Pj:Mt3 P w K mg base 1 Z5 "touched" [] (ae Z1 Z2 Z3 Z4 Z5 (ah P w)))
  (rok:bC (bQ Z1 Z2 Z3 Z4 Z5 (ah P w)) (eN Z1 Z2 Z3 Z4 Z5 (ah P w)) ["strokes","worn","stroke","name"]) (len:bD (bQ Z1 Z2 Z3 Z4 Z5 (ah P w)) 1):FnOk P w K mg base gF 2 f fd ["strokes"] (aJ K (bQ Z1 Z2 Z3 Z4 Z5 (ah P w))):=by
 refine Fun3.ok3 F fU len (fun cdv A outer s H E hr=>⟨eN Z1 Z2 Z3 Z4 Z5 (ah P w),?_,rok⟩);have hu8:=u8 hr;have hu4:=u4 hr;unfold eN;exact (al (bg (i:=1) fU.nd rfl (by walk_at "i") mj)
   (al (fu JH rfl (cT (aq 0)) (aN (i:=2) fU.nd rfl (by walk_at "i")) (aG (iu (hV (bV (xc T.ik_Dress) (by rfl) T.b_isinstance LO (aa (aq 2) (aa (rR (by rfl) T.xm_Dress) am)))) (aG (fu JH rfl (cT (hX (k:=1) (all_cons ⟨_,(by decide),Pc⟩ (all_cons ⟨_,(by decide),Pk⟩ (all_cons ⟨_,(by decide),Pe⟩ (all_cons ⟨_,(by decide),Pg⟩ (all_cons ⟨_,(by decide),Pj⟩ (fun _ h=>nomatch h)))))) (hr.mono (by decide)) (aq 2))) (aN (i:=3) fU.nd rfl (by walk_at "i")) (aG (gX hu8 (aq 1) (aq 3) (iY T.fa_word (aq 2)))))) eR)))
   (aG (cC (aq 1)))))
theorem xN{f:IW}{fd:JE}(F:Fun3 K "seated" "seated" iI f fd)(T:Tx K mg Z1 Z2 Z3 Z4 Z5)(QC:Fn3 P w K mg base 5 "effective" [] (b_ Z1 Z2 Z3 Z4 Z5 (ah P w)))(Qt:Fn3 P w K mg base 1 "marked" [] (cK Z1 Z2 Z3 Z4 Z5 (ah P w)))(P_:Fn3 P w K mg base 3 "signs_brought" [] (bj Z1 Z2 Z3 Z4 Z5 (ah P w)))(Qk:Fn3 P w K mg base 2 "signs_struck" [] (bv Z1 Z2 Z3 Z4 Z5 (ah P w)))(PU:Fn3 P w K mg base 5 "slots_of" [] (bX Z1 Z2 Z3 Z4 Z5 (ah P w)))(Qr:Fn3 P w K mg base 3 "slots_taken" [] (bE Z1 Z2 Z3 Z4 Z5 (ah P w)))(Qx:Fn3 P w K mg base 2 "words_worn" [] (bQ Z1 Z2 Z3 Z4 Z5 (ah P w)))
  (rok:bC (cJ Z1 Z2 Z3 Z4 Z5 (ah P w)) (iL Z1 Z2 Z3 Z4 Z5 (ah P w)) ["old","strokes","standing","row","working","brought","struck","taken","worn","sitting","name","seats"]) (len:bD (cJ Z1 Z2 Z3 Z4 Z5 (ah P w)) 3):FnOk P w K mg base gF 6 f fd ["old","strokes","standing"] (aJ K (cJ Z1 Z2 Z3 Z4 Z5 (ah P w))):=by
 refine Fun3.ok3 F dL len (fun cdv A outer s H E hr=>⟨iL Z1 Z2 Z3 Z4 Z5 (ah P w),?_,rok⟩);have hu8:=u8 hr;have hu4:=u4 hr;unfold iL;exact (al (bg (i:=3) dL.nd rfl (by walk_at "i") (bA PU (hr.mono (by decide)) (by rfl) (aa (aq 0) (aa (aq 1) am))))
   (al (bg (i:=4) dL.nd rfl (by walk_at "i") (bA QC (hr.mono (by decide)) (by rfl) (aa (aq 1) (aa (aq 2) (aa (bA Qt (hr.mono (by decide)) (by rfl) (aa (aq 3) am)) am)))))
   (al (bg (i:=5) dL.nd rfl (by walk_at "i") (bA P_ (hr.mono (by decide)) (by rfl) (aa (aq 0) (aa (aq 4) am))))
   (al (bg (i:=6) dL.nd rfl (by walk_at "i") (bA Qk (hr.mono (by decide)) (by rfl) (aa (aq 4) am)))
   (al (bg (i:=7) dL.nd rfl (by walk_at "i") (bA Qr (hr.mono (by decide)) (by rfl) (aa (aq 4) am)))
   (al (bg (i:=8) dL.nd rfl (by walk_at "i") (bA Qx (hr.mono (by decide)) (by rfl) (aa (aq 4) am)))
   (al (bg (i:=9) dL.nd rfl (by walk_at "i") mj)
   (al (DV JH rfl (aq 5) (aN (i:=10) dL.nd rfl (by walk_at "i")) (aG (iu (xK hu8 (aq 10) (aq 6)) (aG (gX hu8 (aq 9) (rQ hu8 (aq 7) (aq 10) (aq 10)) (aq 10))) eR)))
   (al (zD (T:=["slot"]) (M:=["old","strokes","standing","row","working","brought","struck","taken","worn","sitting","name","seats"]) (i:=11) (bq rfl (by kernel_rfl)) dL.nd rfl rfl (fun cl C s₀ H₀ fp=>⟨(aN (i:=0) uh rfl (by walk_at "i")),(lS (vL hu8 (aq 0) (aq 10))),(eJ (aa (aq 0) (aa (og hu8 (aq 10) (aq 0)) am)))⟩) (cT (aq 3)))
   (aG (cC (dP (T:=["slot","name"]) (M:=["old","strokes","standing","row","working","brought","struck","taken","worn","sitting","-name","seats"]) (bq rfl (by kernel_rfl)) (fun cl C s₀ H₀ fp=>⟨(qE (n:=2) rfl (e8 (aN (i:=0) mO rfl (by walk_at "i")) (e8 (aN (i:=1) mO rfl (by walk_at "i")) qF))),fi,(eJ (aa (aq 0) (aa (aq 1) (aa (og hu8 (aq 7) (aq 1)) (aa (rQ hu8 (aq 10) (aq 1) ck) am)))))⟩) (cT (aq 11))))))))))))))
theorem vR{f:IW}{fd:JE}(F:Fun3 K "reading" "reading" gP f fd)(T:Tx K mg Z1 Z2 Z3 Z4 Z5)(Qs:Fn3 P w K mg base 6 "seated" [] (cJ Z1 Z2 Z3 Z4 Z5 (ah P w)))
  (rok:bC (cW Z1 Z2 Z3 Z4 Z5 (ah P w)) (gV Z1 Z2 Z3 Z4 Z5 (ah P w)) ["old","strokes","standing"]) (len:bD (cW Z1 Z2 Z3 Z4 Z5 (ah P w)) 3):FnOk P w K mg base gF 7 f fd ["old","strokes","standing"] (aJ K (cW Z1 Z2 Z3 Z4 Z5 (ah P w))):=by
 refine Fun3.ok3 F vt len (fun cdv A outer s H E hr=>⟨gV Z1 Z2 Z3 Z4 Z5 (ah P w),?_,rok⟩);have hu8:=u8 hr;have hu4:=u4 hr;unfold gV;exact (aG (cC (dP (T:=["seat"]) (M:=["old","strokes","standing"]) (bq rfl (by kernel_rfl)) (fun cl C s₀ H₀ fp=>⟨(aN (i:=0) r6 rfl (by walk_at "i")),fi,(ik tD (aq 0) (fM ao) gw)⟩) (cT (bA Qs (hr.mono (by decide)) (by rfl) (aa (aq 0) (aa (aq 1) (aa (aq 2) am))))))))
theorem vQ{f:IW}{fd:JE}(F:Fun3 K "text_of" "text_of" gO f fd)(T:Tx K mg Z1 Z2 Z3 Z4 Z5) 
  (rok:bC (cV Z1 Z2 Z3 Z4 Z5 (ah P w)) (gU Z1 Z2 Z3 Z4 Z5 (ah P w)) ["rows"]) (len:bD (cV Z1 Z2 Z3 Z4 Z5 (ah P w)) 1):FnOk P w K mg base gF 1 f fd ["rows"] (aJ K (cV Z1 Z2 Z3 Z4 Z5 (ah P w))):=by
 refine Fun3.ok3 F vq len (fun cdv A outer s H E hr=>⟨gU Z1 Z2 Z3 Z4 Z5 (ah P w),?_,rok⟩);have hu8:=u8 hr;have hu4:=u4 hr;unfold gU;exact (aG (cC (zU ck (aa (dP (T:=["row"]) (M:=["rows"]) (bq rfl (by kernel_rfl)) (fun cl C s₀ H₀ fp=>⟨(aN (i:=0) r0 rfl (by walk_at "i")),fi,(bO (aq 0) ao)⟩) (cT (aq 0))) am))))
theorem Et{f:IW}{fd:JE}(F:Fun3 K "law" "law" kM f fd)(T:Tx K mg Z1 Z2 Z3 Z4 Z5)(PL:Fn3 P w K mg base 1 "_law_cell_at" [] (bc Z1 Z2 Z3 Z4 Z5 (ah P w)))(QF:Fn3 P w K mg base 1 "_law_due" [] (cv Z1 Z2 Z3 Z4 Z5 (ah P w)))(Qa:Fn3 P w K mg base 2 "_law_standing" [] (bm Z1 Z2 Z3 Z4 Z5 (ah P w)))(Ql:Fn3 P w K mg base 2 "_law_strokes" [] (bw Z1 Z2 Z3 Z4 Z5 (ah P w)))(Q5:Fn3 P w K mg base 7 "reading" [] (cW Z1 Z2 Z3 Z4 Z5 (ah P w)))(Qs:Fn3 P w K mg base 6 "seated" [] (cJ Z1 Z2 Z3 Z4 Z5 (ah P w)))(PU:Fn3 P w K mg base 5 "slots_of" [] (bX Z1 Z2 Z3 Z4 Z5 (ah P w)))(Q4:Fn3 P w K mg base 1 "text_of" [] (cV Z1 Z2 Z3 Z4 Z5 (ah P w)))
  (rok:bC (jZ Z1 Z2 Z3 Z4 Z5 (ah P w)) (n6 Z1 Z2 Z3 Z4 Z5 (ah P w)) ["_law_script","_law_first","_law_old","_law_pens","_law_rows","_law_standing_here","_law_slots","_law_due_here","_law_handed","_law_found","_law_seats","_law_sits"]) (len:bD (jZ Z1 Z2 Z3 Z4 Z5 (ah P w)) 1):FnOk P w K mg base gF 8 f fd ["_law_script"] (aJ K (jZ Z1 Z2 Z3 Z4 Z5 (ah P w))):=by
 refine Fun3.ok3 F fH len (fun cdv A outer s H E hr=>⟨n6 Z1 Z2 Z3 Z4 Z5 (ah P w),?_,rok⟩);have hu8:=u8 hr;have hu4:=u4 hr;unfold n6;exact (al (bg (i:=1) fH.nd rfl (by walk_at "i") (bA PL (hr.mono (by decide)) (by rfl) (aa (aq 0) (aa ao am))))
   (al (bg (i:=2) fH.nd rfl (by walk_at "i") (ik tD ck gw (fM (cu gA (aq 1) ao))))
   (al (bg (i:=3) fH.nd rfl (by walk_at "i") (ik tD (bO (hZ (aa (hZ (aa ck (aa ck (aa ck am)))) (aa (hZ (aa ck (aa ck (aa ck am)))) am))) (cu gA (cu wB (aq 1) ao) ao)) gw (fM (cu dQ ao (cu gA (cu wB (aq 1) ao) ao)))))
   (al (bg (i:=4) fH.nd rfl (by walk_at "i") (bA Ql (hr.mono (by decide)) (by rfl) (aa (ik tD (aq 0) (fM ao) (fM ao)) (aa (aq 3) (aa (aq 2) am)))))
   (al (bg (i:=5) fH.nd rfl (by walk_at "i") (bA Qa (hr.mono (by decide)) (by rfl) (aa (aq 4) (aa (bA PL (hr.mono (by decide)) (by rfl) (aa (aq 0) (aa ao am))) am))))
   (al (bg (i:=6) fH.nd rfl (by walk_at "i") (bA PU (hr.mono (by decide)) (by rfl) (aa (aq 2) (aa (aq 4) am))))
   (al (bg (i:=7) fH.nd rfl (by walk_at "i") (bA QF (hr.mono (by decide)) (by rfl) (aa (aq 2) (aa (aq 4) (aa (aq 5) (aa (aq 6) am))))))
   (al (bg (i:=8) fH.nd rfl (by walk_at "i") (aq 4))
   (al (iu (cq (qW hu8) (cu gA (cu wB (aq 1) ao) ao) ao (dk _)) (aG (bg (i:=8) fH.nd rfl (by walk_at "i") (cu dQ (n_ (aq 4) gw gw (fM (De ao))) (n_ (aq 4) gw gw (fM ao))))) eR)
   (al (bg (i:=9) fH.nd rfl (by walk_at "i") (bA Q5 (hr.mono (by decide)) (by rfl) (aa (aq 2) (aa (aq 8) (aa (aq 5) am)))))
   (al (bg (i:=10) fH.nd rfl (by walk_at "i") (bA Qs (hr.mono (by decide)) (by rfl) (aa (aq 2) (aa (n_ (aq 8) gw gw (fM (De ao))) (aa (cu dQ (aq 5) (aq 5)) am)))))
   (al (iu (PW.pt (DA (zT (hV (bV Dr (by rfl) T.b_isinstance LO (aa (aq 9) (aa (FX (by rfl) T.b_list PyProof.Rows.boot_list) am))))) (yN (cq (u7 hu8) (dP (T:=["_law_row"]) (M:=["_law_script","_law_first","_law_old","_law_pens","_law_rows","_law_standing_here","_law_slots","_law_due_here","_law_handed","_law_found","_law_seats","_law_sits"]) (bq rfl (by kernel_rfl)) (fun cl C s₀ H₀ fp=>⟨(aN (i:=0) Ad rfl (by walk_at "i")),(lS (PW.pt (DA (zT (hV (bV Dr (by rfl) T.b_isinstance LO (aa (aq 0) (aa (FX (by rfl) T.b_tuple PyProof.Rows.boot_tuple) am))))) (yN (cq (u7 hu8) (bV b_len (by rfl) T.b_len PySem.boot_len (aa (aq 0) am)) ao (dk _)))))),(aq 0)⟩) (cT (aq 9))) (hZ am) (dk _))))) (aG (cC xL)) eR)
   (al (iu (cq (u7 hu8) (BW hu8 (by rfl) T.b_sorted (dP (T:=["_law_row"]) (M:=["_law_script","_law_first","_law_old","_law_pens","_law_rows","_law_standing_here","_law_slots","_law_due_here","_law_handed","_law_found","_law_seats","_law_sits"]) (bq rfl (by kernel_rfl)) (fun cl C s₀ H₀ fp=>⟨(aN (i:=0) Ac rfl (by walk_at "i")),fi,(bO (aq 0) ao)⟩) (cT (aq 9)))) (BX hu8 rfl (by rfl) T.b_sorted (aq 7)) (dk _)) (aG (cC xL)) eR)
   (al (iu (PW.pt (DA (cq (u7 hu8) (dP (T:=["_law_row"]) (M:=["_law_script","_law_first","_law_old","_law_pens","_law_rows","_law_standing_here","_law_slots","_law_due_here","_law_handed","_law_found","_law_seats","_law_sits"]) (bq rfl (by kernel_rfl)) (fun cl C s₀ H₀ fp=>⟨(aN (i:=0) Ab rfl (by walk_at "i")),(lS (cq (u7 hu8) (og hu8 (aq 8) (bO (aq 0) ao)) (bO (aq 0) ao) (dk _))),(aq 0)⟩) (cT (aq 9))) (hZ am) (dk _)) (yN (cq (u7 hu8) (dP (T:=["_law_row"]) (M:=["_law_script","_law_first","_law_old","_law_pens","_law_rows","_law_standing_here","_law_slots","_law_due_here","_law_handed","_law_found","_law_seats","_law_sits"]) (bq rfl (by kernel_rfl)) (fun cl C s₀ H₀ fp=>⟨(aN (i:=0) Aa rfl (by walk_at "i")),fi,(ik tD (aq 0) (fM ao) gw)⟩) (cT (aq 10))) (aq 9) (dk _))))) (aG (cC xL)) eR)
   (al (bg (i:=11) fH.nd rfl (by walk_at "i") (dP (T:=["_law_row"]) (M:=["_law_script","_law_first","_law_old","_law_pens","_law_rows","_law_standing_here","_law_slots","_law_due_here","_law_handed","_law_found","_law_seats","_law_sits"]) (bq rfl (by kernel_rfl)) (fun cl C s₀ H₀ fp=>⟨(aN (i:=0) z_ rfl (by walk_at "i")),fi,(bO (aq 0) ao)⟩) (cT (aq 10))))
   (al (iu (cq (u7 hu8) (aq 11) (dP (T:=["_law_slot"]) (M:=["_law_script","_law_first","_law_old","_law_pens","_law_rows","_law_standing_here","_law_slots","_law_due_here","_law_handed","_law_found","_law_seats","_law_sits"]) (bq rfl (by kernel_rfl)) (fun cl C s₀ H₀ fp=>⟨(aN (i:=0) z9 rfl (by walk_at "i")),(lS (cq (Bg hu8) (aq 0) (aq 12) rfl)),(aq 0)⟩) (cT (aq 6))) (dk _)) (aG (cC xL)) eR)
   (aG (cC (Ej (qW hu8) (bA Q4 (hr.mono (by decide)) (by rfl) (aa (aq 9) am)) (zU ck (aa (dP (T:=["_law_name","_law_sign","_law_word"]) (M:=["_law_script","_law_first","_law_old","_law_pens","_law_rows","_law_standing_here","_law_slots","_law_due_here","_law_handed","_law_found","_law_seats","_law_sits"]) (bq rfl (by kernel_rfl)) (fun cl C s₀ H₀ fp=>⟨(qE (n:=3) rfl (e8 (aN (i:=0) oo rfl (by walk_at "i")) (e8 (aN (i:=1) oo rfl (by walk_at "i")) (e8 (aN (i:=2) oo rfl (by walk_at "i")) qF)))),fi,(aq 1)⟩) (cT (aq 9))) am)) (dk _))))))))))))))))))))
end
theorem iG{α:Type}:∀ {us:List α},us.length=1->∃ a0,us=[a0]
 | [a0],_=>⟨a0,rfl⟩
theorem u_{α:Type}:∀ {us:List α},us.length=2->∃ a0 a1,us=[a0,a1]
 | [a0,a1],_=>⟨a0,a1,rfl⟩
theorem u9{α:Type}:∀ {us:List α},us.length=3->∃ a0 a1 a2,us=[a0,a1,a2]
 | [a0,a1,a2],_=>⟨a0,a1,a2,rfl⟩
theorem Ft{α:Type}:∀ {us:List α},us.length=4->∃ a0 a1 a2 a3,us=[a0,a1,a2,a3]
 | [a0,a1,a2,a3],_=>⟨a0,a1,a2,a3,rfl⟩
theorem DB{α:Type}:∀ {us:List α},us.length=5->∃ a0 a1 a2 a3 a4,us=[a0,a1,a2,a3,a4]
 | [a0,a1,a2,a3,a4],_=>⟨a0,a1,a2,a3,a4,rfl⟩
section
variable{Z1 Z2 Z3 Z4 Z5:IW}{hw:List aQ->Int}
theorem ms:bD (bc Z1 Z2 Z3 Z4 Z5 hw) 2:=fun _ _ _ h=>by unfold bc at h;split at h<;>first|rfl|exact h.elim
theorem nr:bD (bb Z1 Z2 Z3 Z4 Z5 hw) 2:=fun _ _ _ h=>by unfold bb at h;split at h<;>first|rfl|exact h.elim
theorem mr:bD (bw Z1 Z2 Z3 Z4 Z5 hw) 3:=fun _ _ _ h=>by unfold bw at h;split at h<;>first|rfl|exact h.elim
theorem lC:bD (bm Z1 Z2 Z3 Z4 Z5 hw) 2:=fun _ _ _ h=>by unfold bm at h;split at h<;>first|rfl|exact h.elim
theorem oJ:bD (bF Z1 Z2 Z3 Z4 Z5 hw) 3:=fun _ _ _ h=>by unfold bF at h;split at h<;>first|rfl|exact h.elim
theorem oH:bD (a_ Z1 Z2 Z3 Z4 Z5 hw) 2:=fun _ _ _ h=>by unfold a_ at h;split at h<;>first|rfl|exact h.elim
theorem pT:bD (bI Z1 Z2 Z3 Z4 Z5 hw) 1:=fun _ _ _ h=>by unfold bI at h;split at h<;>first|rfl|exact h.elim
theorem ke:bD (aO Z1 Z2 Z3 Z4 Z5 hw) 1:=fun _ _ _ h=>by unfold aO at h;split at h<;>first|rfl|exact h.elim
theorem sf:bD (bY Z1 Z2 Z3 Z4 Z5 hw) 1:=fun _ _ _ h=>by unfold bY at h;split at h<;>first|rfl|exact h.elim
theorem jO:bD (aw Z1 Z2 Z3 Z4 Z5 hw) 3:=fun _ _ _ h=>by unfold aw at h;split at h<;>first|rfl|exact h.elim
theorem my:bD (bd Z1 Z2 Z3 Z4 Z5 hw) 5:=fun _ _ _ h=>by unfold bd at h;split at h<;>first|rfl|exact h.elim
theorem jP:bD (aR Z1 Z2 Z3 Z4 Z5 hw) 4:=fun _ _ _ h=>by unfold aR at h;split at h<;>first|rfl|exact h.elim
theorem kh:bD (aV Z1 Z2 Z3 Z4 Z5 hw) 5:=fun _ _ _ h=>by unfold aV at h;split at h<;>first|rfl|exact h.elim
theorem lD:bD (aZ Z1 Z2 Z3 Z4 Z5 hw) 5:=fun _ _ _ h=>by unfold aZ at h;split at h<;>first|rfl|exact h.elim
theorem pS:bD (bH Z1 Z2 Z3 Z4 Z5 hw) 1:=fun _ _ _ h=>by unfold bH at h;split at h<;>first|rfl|exact h.elim
theorem uy:bD (cX Z1 Z2 Z3 Z4 Z5 hw) 1:=fun _ _ _ h=>by unfold cX at h;split at h<;>first|rfl|exact h.elim
theorem mv:bD (ai Z1 Z2 Z3 Z4 Z5 hw) 1:=fun _ _ _ h=>by unfold ai at h;split at h<;>first|rfl|exact h.elim
theorem pW:bD (aS Z1 Z2 Z3 Z4 Z5 hw) 1:=fun _ _ _ h=>by unfold aS at h;split at h<;>first|rfl|exact h.elim
theorem oK:bD (aL Z1 Z2 Z3 Z4 Z5 hw) 1:=fun _ _ _ h=>by unfold aL at h;split at h<;>first|rfl|exact h.elim
theorem se:bD (bX Z1 Z2 Z3 Z4 Z5 hw) 2:=fun _ _ _ h=>by unfold bX at h;split at h<;>first|rfl|exact h.elim
theorem sh:bD (cv Z1 Z2 Z3 Z4 Z5 hw) 4:=fun _ _ _ h=>by unfold cv at h;split at h<;>first|rfl|exact h.elim
theorem v3:bD (cK Z1 Z2 Z3 Z4 Z5 hw) 1:=fun _ _ _ h=>by unfold cK at h;split at h<;>first|rfl|exact h.elim
theorem pU:bD (b9 Z1 Z2 Z3 Z4 Z5 hw) 2:=fun _ _ _ h=>by unfold b9 at h;split at h<;>first|rfl|exact h.elim
theorem pV:bD (b_ Z1 Z2 Z3 Z4 Z5 hw) 3:=fun _ _ _ h=>by unfold b_ at h;split at h<;>first|rfl|exact h.elim
theorem lB:bD (bj Z1 Z2 Z3 Z4 Z5 hw) 2:=fun _ _ _ h=>by unfold bj at h;split at h<;>first|rfl|exact h.elim
theorem kg:bD (ae Z1 Z2 Z3 Z4 Z5 hw) 1:=fun _ _ _ h=>by unfold ae at h;split at h<;>first|rfl|exact h.elim
theorem mq:bD (bv Z1 Z2 Z3 Z4 Z5 hw) 1:=fun _ _ _ h=>by unfold bv at h;split at h<;>first|rfl|exact h.elim
theorem nq:bD (bE Z1 Z2 Z3 Z4 Z5 hw) 1:=fun _ _ _ h=>by unfold bE at h;split at h<;>first|rfl|exact h.elim
theorem oG:bD (bQ Z1 Z2 Z3 Z4 Z5 hw) 1:=fun _ _ _ h=>by unfold bQ at h;split at h<;>first|rfl|exact h.elim
theorem v0:bD (cJ Z1 Z2 Z3 Z4 Z5 hw) 3:=fun _ _ _ h=>by unfold cJ at h;split at h<;>first|rfl|exact h.elim
theorem ux:bD (cW Z1 Z2 Z3 Z4 Z5 hw) 3:=fun _ _ _ h=>by unfold cW at h;split at h<;>first|rfl|exact h.elim
theorem uw:bD (cV Z1 Z2 Z3 Z4 Z5 hw) 1:=fun _ _ _ h=>by unfold cV at h;split at h<;>first|rfl|exact h.elim
theorem Cc:bD (jZ Z1 Z2 Z3 Z4 Z5 hw) 1:=fun _ _ _ h=>by unfold jZ at h;split at h<;>first|rfl|exact h.elim
end
theorem all_mk{P:Jw}{w:JG}{K:JD}{h:JI}{mg:Str->Option IV}{fa:IW}{Z1 Z2 Z3 Z4 Z5 f0 f1 f2 f3 f4 f5 f6 f7 f8 f9 f10 f11 f12 f13 f14 f15 f16 f17 f18 f19 f20 f21 f22 f23 f24 f25 f26 f27 f28 f29 f30 f31 f32 ka0:IW}{od0 an0 od1 an1 od2 an2 od3 an3 od4 an4 od5 an5 od6 an6 od7 an7 od8 an8 od9 an9 UZ WU UY WT UX WS UW WR UV WQ UU WP UT WO US WN UR WM UQ WL UP WK UO WJ UN WI UM WH UL WG UK WF UJ WE UI WD UH WC UG WB UF WA UE Wz UD TJ:Option IW}{sl0 sl1 sl2 sl3 sl4 sl5 sl6 sl7 sl8 sl9 Ub Ua T_ T9 T8 T7 T6 T5 T4 T3 T2 T0 TZ TY TX TW TV TU TR TQ TN TM TL ks0:Array (Option IV)}{oc0 kV0 dc0 pm0 cd0 ct0 oc1 kV1 dc1 pm1 cd1 ct1 oc2 kV2 dc2 pm2 cd2 ct2 oc3 kV3 dc3 pm3 cd3 ct3 oc4 kV4 dc4 pm4 cd4 ct4 oc5 kV5 dc5 pm5 cd5 ct5 oc6 kV6 dc6 pm6 cd6 ct6 oc7 kV7 dc7 pm7 cd7 ct7 oc8 kV8 dc8 pm8 cd8 ct8 oc9 kV9 dc9 pm9 cd9 ct9 Vl VM Wb UB TH Wy Vk VL Wa UA TF Wx Vj VJ V_ Uz TD Ww Vi VI V9 Uy TC Wv Vh VH V8 Ux TB Wu Vg VG V7 Uw Tz Wt Vf VF V6 Uv Tw Ws Ve VE V5 Uu Tv Wr Vd VD V4 Ut Tu Wq Vc VC V3 Us Tt Wp Vb VB V2 Ur Ts Wo Va VA V1 Uq Tr Wn U_ Vz V0 Uo Tq Wm U9 Vy VZ Um Tp Wl U8 Vx VY Ul To Wk U7 Vw VX Uk Tl Wj U6 Vv VW Uj Tk Wh U5 Vu VV Ui Tj Wg U4 Vt VU Uh Ti Wf U3 Vs VT Ug Th We U2 Vr VS Uf Tg Wd U1 Vq VR Ue Tf Wc U0 S1 Td SS RB Te:IV}{S0:Tok}{SZ:Tok}{SY:Tok}{kz0:Nat}(X:K.In h)(G:h.Ns Jr mg)(hfa:mg "law"=some (.ref fa))
  (c0a:Ll K Jr "Stroke"=some (some (.ref Z1)))
  (c1a:Ll K Jr "Put"=some (some (.ref Z2)))
  (c2a:Ll K Jr "Strike"=some (some (.ref Z3)))
  (c3a:Ll K Jr "Dress"=some (some (.ref Z4)))
  (c4a:Ll K Jr "Move"=some (some (.ref Z5)))
  (Pw:MW K (.builtin "object.__class__") "__get__"=some (some (.builtin "getset_descriptor.__get__")))
  (Pu:OO K (.builtin "object.__class__")=some true)
  (Pq:JF K (.ref Z1) "__class__"=some (some (.builtin "object.__class__")))
  (Pp:NT K Z1 (.type "object")=some true)
  (PZ:Kv K (.ref Z1) (.ref Z4)=some false)
  (Qe:Kv K (.ref Z1) (.ref Z5)=some false)
  (Qm:Kv K (.ref Z1) (.ref Z2)=some false)
  (PM:Kv K (.ref Z1) (.ref Z3)=some false)
  (Qd:JF K (.ref Z2) "__class__"=some (some (.builtin "object.__class__")))
  (Qc:NT K Z2 (.type "object")=some true)
  (Qu:Kv K (.ref Z2) (.ref Z4)=some false)
  (Qz:Kv K (.ref Z2) (.ref Z5)=some false)
  (QE:Kv K (.ref Z2) (.ref Z2)=some true)
  (Qo:Kv K (.ref Z2) (.ref Z3)=some false)
  (Pt:JF K (.ref Z3) "__class__"=some (some (.builtin "object.__class__")))
  (Pr:NT K Z3 (.type "object")=some true)
  (P0:Kv K (.ref Z3) (.ref Z4)=some false)
  (Qf:Kv K (.ref Z3) (.ref Z5)=some false)
  (Qn:Kv K (.ref Z3) (.ref Z2)=some false)
  (PN:Kv K (.ref Z3) (.ref Z3)=some true)
  (PF:JF K (.ref Z4) "__class__"=some (some (.builtin "object.__class__")))
  (PD:NT K Z4 (.type "object")=some true)
  (Qh:Kv K (.ref Z4) (.ref Z4)=some true)
  (Qq:Kv K (.ref Z4) (.ref Z5)=some false)
  (Qw:Kv K (.ref Z4) (.ref Z2)=some false)
  (P7:Kv K (.ref Z4) (.ref Z3)=some false)
  (PQ:JF K (.ref Z5) "__class__"=some (some (.builtin "object.__class__")))
  (PP:NT K Z5 (.type "object")=some true)
  (Qp:Kv K (.ref Z5) (.ref Z4)=some false)
  (Qv:Kv K (.ref Z5) (.ref Z5)=some true)
  (QA:Kv K (.ref Z5) (.ref Z2)=some false)
  (Qg:Kv K (.ref Z5) (.ref Z3)=some false)
  (a0:Ll K Jr "_law_cell_at"=some (some (.ref f0)))
  (l0:K.lookup f0=some ⟨oc0,od0,.func (Ln "_law_cell_at" "_law_cell_at" (aT da) (aP da) (aj da) .none kV0 dc0 pm0 an0 cd0 ct0),sl0⟩)
  (c0':Kb K cd0 "_law_cell_at"=true)
  (k0:J1 K (.ref f0)=true)
  (a1:Ll K Jr "_law_stream"=some (some (.ref f1)))
  (l1:K.lookup f1=some ⟨oc1,od1,.func (Ln "_law_stream" "_law_stream" (aT dN) (aP dN) (aj dN) .none kV1 dc1 pm1 an1 cd1 ct1),sl1⟩)
  (c1':Kb K cd1 "_law_stream"=true)
  (k1:J1 K (.ref f1)=true)
  (a2:Ll K Jr "_law_strokes"=some (some (.ref f2)))
  (l2:K.lookup f2=some ⟨oc2,od2,.func (Ln "_law_strokes" "_law_strokes" (aT c_) (aP c_) (aj c_) .none kV2 dc2 pm2 an2 cd2 ct2),sl2⟩)
  (c2':Kb K cd2 "_law_strokes"=true)
  (k2:J1 K (.ref f2)=true)
  (a3:Ll K Jr "_law_standing"=some (some (.ref f3)))
  (l3:K.lookup f3=some ⟨oc3,od3,.func (Ln "_law_standing" "_law_standing" (aT cM) (aP cM) (aj cM) .none kV3 dc3 pm3 an3 cd3 ct3),sl3⟩)
  (c3':Kb K cd3 "_law_standing"=true)
  (k3:J1 K (.ref f3)=true)
  (a4:Ll K Jr "lay_behind"=some (some (.ref f4)))
  (l4:K.lookup f4=some ⟨oc4,od4,.func (Ln "lay_behind" "lay_behind" (aT eg) (aP eg) (aj eg) .none kV4 dc4 pm4 an4 cd4 ct4),sl4⟩)
  (c4':Kb K cd4 "lay_behind"=true)
  (k4:J1 K (.ref f4)=true)
  (a5:Ll K Jr "slots_made"=some (some (.ref f5)))
  (l5:K.lookup f5=some ⟨oc5,od5,.func (Ln "slots_made" "slots_made" (aT ef) (aP ef) (aj ef) .none kV5 dc5 pm5 an5 cd5 ct5),sl5⟩)
  (c5':Kb K cd5 "slots_made"=true)
  (k5:J1 K (.ref f5)=true)
  (a6:Ll K Jr "old_slots"=some (some (.ref f6)))
  (l6:K.lookup f6=some ⟨oc6,od6,.func (Ln "old_slots" "old_slots" (aT e_) (aP e_) (aj e_) .none kV6 dc6 pm6 an6 cd6 ct6),sl6⟩)
  (c6':Kb K cd6 "old_slots"=true)
  (k6:J1 K (.ref f6)=true)
  (a7:Ll K Jr "place_in_order"=some (some (.ref f7)))
  (l7:K.lookup f7=some ⟨oc7,od7,.func (Ln "place_in_order" "place_in_order" (aT cw) (aP cw) (aj cw) .none kV7 dc7 pm7 an7 cd7 ct7),sl7⟩)
  (c7':Kb K cd7 "place_in_order"=true)
  (k7:J1 K (.ref f7)=true)
  (a8:Ll K Jr "in_order"=some (some (.ref f8)))
  (l8:K.lookup f8=some ⟨oc8,od8,.func (Ln "in_order" "in_order" (aT fK) (aP fK) (aj fK) .none kV8 dc8 pm8 an8 cd8 ct8),sl8⟩)
  (c8':Kb K cd8 "in_order"=true)
  (k8:J1 K (.ref f8)=true)
  (a9:JF K (.ref Z1) "__init__"=some (some (.ref f9)))
  (i9:NJ K (.ref f9)=true)
  (l9:K.lookup f9=some ⟨oc9,od9,.func (Ln "__init__" "Stroke.__init__" (aT cf) (aP cf) (aj cf) .none kV9 dc9 pm9 an9 cd9 ct9),sl9⟩)
  (c9':Kb K cd9 "Stroke.__init__"=true)
  (k9:J1 K (.ref f9)=true)
  (a10:JF K (.ref Z2) "__init__"=some (some (.ref f10)))
  (i10:NJ K (.ref f10)=true)
  (l10:K.lookup f10=some ⟨Vl,UZ,.func (Ln "__init__" "Put.__init__" (aT dc) (aP dc) (aj dc) .none VM Wb UB WU TH Wy),Ub⟩)
  (SG:Kb K TH "Put.__init__"=true)
  (k10:J1 K (.ref f10)=true)
  (a11:JF K (.ref Z3) "__init__"=some (some (.ref f11)))
  (i11:NJ K (.ref f11)=true)
  (l11:K.lookup f11=some ⟨Vk,UY,.func (Ln "__init__" "Strike.__init__" (aT cg) (aP cg) (aj cg) .none VL Wa UA WT TF Wx),Ua⟩)
  (SF:Kb K TF "Strike.__init__"=true)
  (k11:J1 K (.ref f11)=true)
  (a12:JF K (.ref Z4) "__init__"=some (some (.ref f12)))
  (i12:NJ K (.ref f12)=true)
  (l12:K.lookup f12=some ⟨Vj,UX,.func (Ln "__init__" "Dress.__init__" (aT cy) (aP cy) (aj cy) .none VJ V_ Uz WS TD Ww),T_⟩)
  (SE:Kb K TD "Dress.__init__"=true)
  (k12:J1 K (.ref f12)=true)
  (a13:JF K (.ref Z5) "__init__"=some (some (.ref f13)))
  (i13:NJ K (.ref f13)=true)
  (l13:K.lookup f13=some ⟨Vi,UW,.func (Ln "__init__" "Move.__init__" (aT cN) (aP cN) (aj cN) .none VI V9 Uy WR TC Wv),T9⟩)
  (SD:Kb K TC "Move.__init__"=true)
  (k13:J1 K (.ref f13)=true)
  (a14:Ll K Jr "stroke_of"=some (some (.ref f14)))
  (l14:K.lookup f14=some ⟨Vh,UV,.func (Ln "stroke_of" "stroke_of" (aT e9) (aP e9) (aj e9) .none VH V8 Ux WQ TB Wu),T8⟩)
  (SC:Kb K TB "stroke_of"=true)
  (k14:J1 K (.ref f14)=true)
  (a15:Ll K Jr "chained"=some (some (.ref f15)))
  (l15:K.lookup f15=some ⟨Vg,UU,.func (Ln "chained" "chained" (aT gQ) (aP gQ) (aj gQ) .none VG V7 Uw WP Tz Wt),T7⟩)
  (SB:Kb K Tz "chained"=true)
  (k15:J1 K (.ref f15)=true)
  (a16:JF K (.ref Z1) "slots"=some (some (.ref f16)))
  (i16:NJ K (.ref f16)=true)
  (l16:K.lookup f16=some ⟨Vf,UT,.func (Ln "slots" "Stroke.slots" (aT db) (aP db) (aj db) .none VF V6 Uv WO Tw Ws),T6⟩)
  (SA:Kb K Tw "Stroke.slots"=true)
  (k16:J1 K (.ref f16)=true)
  (a17:JF K (.ref Z2) "slots"=some (some (.ref f17)))
  (i17:NJ K (.ref f17)=true)
  (l17:K.lookup f17=some ⟨Ve,US,.func (Ln "slots" "Put.slots" (aT fe) (aP fe) (aj fe) .none VE V5 Uu WN Tv Wr),T5⟩)
  (Sz:Kb K Tv "Put.slots"=true)
  (k17:J1 K (.ref f17)=true)
  (a18:JF K (.ref Z5) "slots"=some (some (.ref f18)))
  (i18:NJ K (.ref f18)=true)
  (l18:K.lookup f18=some ⟨Vd,UR,.func (Ln "slots" "Move.slots" (aT eh) (aP eh) (aj eh) .none VD V4 Ut WM Tu Wq),T4⟩)
  (Sy:Kb K Tu "Move.slots"=true)
  (k18:J1 K (.ref f18)=true)
  (a19:Ll K Jr "slots_of"=some (some (.ref f19)))
  (l19:K.lookup f19=some ⟨Vc,UQ,.func (Ln "slots_of" "slots_of" (aT fJ) (aP fJ) (aj fJ) .none VC V3 Us WL Tt Wp),T3⟩)
  (Sx:Kb K Tt "slots_of"=true)
  (k19:J1 K (.ref f19)=true)
  (a20:Ll K Jr "_law_due"=some (some (.ref f20)))
  (l20:K.lookup f20=some ⟨Vb,UP,.func (Ln "_law_due" "_law_due" (aT fL) (aP fL) (aj fL) .none VB V2 Ur WK Ts Wo),T2⟩)
  (Sm:Kb K Ts "_law_due"=true)
  (k20:J1 K (.ref f20)=true)
  (a21:Ll K Jr "marked"=some (some (.ref f21)))
  (l21:K.lookup f21=some ⟨Va,UO,.func (Ln "marked" "marked" (aT iJ) (aP iJ) (aj iJ) .none VA V1 Uq WJ Tr Wn),T0⟩)
  (Sj:Kb K Tr "marked"=true)
  (k21:J1 K (.ref f21)=true)
  (a22:Ll K Jr "is_placed"=some (some (.ref f22)))
  (l22:K.lookup f22=some ⟨U_,UN,.func (Ln "is_placed" "is_placed" (aT fb) (aP fb) (aj fb) .none Vz V0 Uo WI Tq Wm),TZ⟩)
  (Si:Kb K Tq "is_placed"=true)
  (k22:J1 K (.ref f22)=true)
  (a23:Ll K Jr "effective"=some (some (.ref f23)))
  (l23:K.lookup f23=some ⟨U9,UM,.func (Ln "effective" "effective" (aT fc) (aP fc) (aj fc) .none Vy VZ Um WH Tp Wl),TY⟩)
  (Sh:Kb K Tp "effective"=true)
  (k23:J1 K (.ref f23)=true)
  (a24:Ll K Jr "signs_brought"=some (some (.ref f24)))
  (l24:K.lookup f24=some ⟨U8,UL,.func (Ln "signs_brought" "signs_brought" (aT cL) (aP cL) (aj cL) .none Vx VY Ul WG To Wk),TX⟩)
  (Sg:Kb K To "signs_brought"=true)
  (k24:J1 K (.ref f24)=true)
  (a25:JF K (.ref Z1) "touched"=some (some (.ref f25)))
  (i25:NJ K (.ref f25)=true)
  (l25:K.lookup f25=some ⟨U7,UK,.func (Ln "touched" "Stroke.touched" (aT cx) (aP cx) (aj cx) .none Vw VX Uk WF Tl Wj),TW⟩)
  (Sf:Kb K Tl "Stroke.touched"=true)
  (k25:J1 K (.ref f25)=true)
  (a26:Ll K Jr "signs_struck"=some (some (.ref f26)))
  (l26:K.lookup f26=some ⟨U6,UJ,.func (Ln "signs_struck" "signs_struck" (aT cZ) (aP cZ) (aj cZ) .none Vv VW Uj WE Tk Wh),TV⟩)
  (Se:Kb K Tk "signs_struck"=true)
  (k26:J1 K (.ref f26)=true)
  (a27:Ll K Jr "slots_taken"=some (some (.ref f27)))
  (l27:K.lookup f27=some ⟨U5,UI,.func (Ln "slots_taken" "slots_taken" (aT dM) (aP dM) (aj dM) .none Vu VV Ui WD Tj Wg),TU⟩)
  (Sd:Kb K Tj "slots_taken"=true)
  (k27:J1 K (.ref f27)=true)
  (a28:Ll K Jr "words_worn"=some (some (.ref f28)))
  (l28:K.lookup f28=some ⟨U4,UH,.func (Ln "words_worn" "words_worn" (aT d_) (aP d_) (aj d_) .none Vt VU Uh WC Ti Wf),TR⟩)
  (Sc:Kb K Ti "words_worn"=true)
  (k28:J1 K (.ref f28)=true)
  (a29:Ll K Jr "seated"=some (some (.ref f29)))
  (l29:K.lookup f29=some ⟨U3,UG,.func (Ln "seated" "seated" (aT iI) (aP iI) (aj iI) .none Vs VT Ug WB Th We),TQ⟩)
  (Sb:Kb K Th "seated"=true)
  (k29:J1 K (.ref f29)=true)
  (a30:Ll K Jr "reading"=some (some (.ref f30)))
  (l30:K.lookup f30=some ⟨U2,UF,.func (Ln "reading" "reading" (aT gP) (aP gP) (aj gP) .none Vr VS Uf WA Tg Wd),TN⟩)
  (R1:Kb K Tg "reading"=true)
  (k30:J1 K (.ref f30)=true)
  (a31:Ll K Jr "text_of"=some (some (.ref f31)))
  (l31:K.lookup f31=some ⟨U1,UE,.func (Ln "text_of" "text_of" (aT gO) (aP gO) (aj gO) .none Vq VR Ue Wz Tf Wc),TM⟩)
  (R0:Kb K Tf "text_of"=true)
  (k31:J1 K (.ref f31)=true)
  (a32:Ll K Jr "law"=some (some (.ref f32)))
  (l32:K.lookup f32=some ⟨U0,UD,.func (Ln "law" "law" (aT kM) (aP kM) (aj kM) .none S1 Td SS TJ RB Te),TL⟩)
  (RZ:Kb K RB "law"=true)
  (k32:J1 K (.ref f32)=true)
  (Q1:L6 K Z1 M3=true)
  (Q2:LZ K Z1=true)
  (Q0:Md K Z1=true)
  (QZ:JF K (.ref Z1) "__setattr__"=some (some (.builtin "object.__setattr__")))
  (SN:MY K Z1=true)
  (SO:J1 K (.ref Z1)=true)
  (SM:JF K (.ref Z1) "anchor"=some none)
  (SL:JF K (.ref Z1) "name"=some none)
  (SK:JF K (.ref Z1) "names"=some none)
  (SJ:JF K (.ref Z1) "signs"=some none)
  (SI:JF K (.ref Z1) "time"=some none)
  (SH:JF K (.ref Z1) "word"=some none)
  (QX:L6 K Z2 M3=true)
  (QY:LZ K Z2=true)
  (QW:Md K Z2=true)
  (QV:JF K (.ref Z2) "__setattr__"=some (some (.builtin "object.__setattr__")))
  (Sv:MY K Z2=true)
  (Sw:J1 K (.ref Z2)=true)
  (Su:JF K (.ref Z2) "anchor"=some none)
  (Ss:JF K (.ref Z2) "name"=some none)
  (Sr:JF K (.ref Z2) "names"=some none)
  (Sq:JF K (.ref Z2) "signs"=some none)
  (So:JF K (.ref Z2) "time"=some none)
  (Sn:JF K (.ref Z2) "word"=some none)
  (QT:L6 K Z3 M3=true)
  (QU:LZ K Z3=true)
  (QS:Md K Z3=true)
  (QR:JF K (.ref Z3) "__setattr__"=some (some (.builtin "object.__setattr__")))
  (R_:MY K Z3=true)
  (Sa:J1 K (.ref Z3)=true)
  (R9:JF K (.ref Z3) "anchor"=some none)
  (R8:JF K (.ref Z3) "name"=some none)
  (R7:JF K (.ref Z3) "names"=some none)
  (R6:JF K (.ref Z3) "signs"=some none)
  (R5:JF K (.ref Z3) "time"=some none)
  (R4:JF K (.ref Z3) "word"=some none)
  (QP:L6 K Z4 M3=true)
  (QQ:LZ K Z4=true)
  (QO:Md K Z4=true)
  (QN:JF K (.ref Z4) "__setattr__"=some (some (.builtin "object.__setattr__")))
  (RX:MY K Z4=true)
  (RY:J1 K (.ref Z4)=true)
  (RW:JF K (.ref Z4) "anchor"=some none)
  (RV:JF K (.ref Z4) "name"=some none)
  (RU:JF K (.ref Z4) "names"=some none)
  (RT:JF K (.ref Z4) "signs"=some none)
  (RP:JF K (.ref Z4) "time"=some none)
  (RN:JF K (.ref Z4) "word"=some none)
  (QL:L6 K Z5 M3=true)
  (QM:LZ K Z5=true)
  (QK:Md K Z5=true)
  (QJ:JF K (.ref Z5) "__setattr__"=some (some (.builtin "object.__setattr__")))
  (RL:MY K Z5=true)
  (RM:J1 K (.ref Z5)=true)
  (RK:JF K (.ref Z5) "anchor"=some none)
  (RJ:JF K (.ref Z5) "name"=some none)
  (RI:JF K (.ref Z5) "names"=some none)
  (RH:JF K (.ref Z5) "signs"=some none)
  (RF:JF K (.ref Z5) "time"=some none)
  (RC:JF K (.ref Z5) "word"=some none)
  (b_all:Ll K Jr "all"=some none)
  (b_dict:Ll K Jr "dict"=some none)
  (b_isinstance:Ll K Jr "isinstance"=some none)
  (b_len:Ll K Jr "len"=some none)
  (b_list:Ll K Jr "list"=some none)
  (b_range:Ll K Jr "range"=some none)
  (b_sorted:Ll K Jr "sorted"=some none)
  (b_tuple:Ll K Jr "tuple"=some none)
  (b_zip:Ll K Jr "zip"=some none)
  (kn0:Ll K Jr "START"=some (some (.ref ka0)))
  (kl0:K.lookup ka0=some ⟨.type "tuple",none,.seq #[.str "" S0,.int 0 SZ,.int 0 SY] kz0,ks0⟩)
  (Qj:JF K (.ref Z4) "slots"=some (some (.ref f16)))
  (PR:JF K (.ref Z4) "touched"=some (some (.ref f25)))
  (P9:JF K (.ref Z5) "touched"=some (some (.ref f25)))
  (Qi:JF K (.ref Z2) "touched"=some (some (.ref f25)))
  (P8:JF K (.ref Z3) "slots"=some (some (.ref f16)))
  (PK:JF K (.ref Z3) "touched"=some (some (.ref f25)))
  (Py:MW K (.ref Z1) "__getattribute__"=some (some (.builtin "type.__getattribute__")))
  (Px:readsIn K Z1 (.type "type")=true)
  (Pz:findCls K (.ref Z1) (.type "type") "__init__"=some (.val (.ref f9))):
  ∃ fd:JE,(∀ (s:IX) (v:IV),NF s fd ⟨[v],[]⟩ [("_law_script",v)])/\∀ base:JI,K.In base->base.Ns Jr mg->FnOk P w K mg base gF 8 fa fd ["_law_script"] (aJ K q_):=by
 have e:=hfa.symm.trans (KD X G a32);cases e;have T:Tx K mg Z1 Z2 Z3 Z4 Z5:=⟨(all_cons ⟨⟨Q1,Q2,Q0,QZ⟩,SM⟩ (all_cons ⟨⟨QX,QY,QW,QV⟩,Su⟩ (all_cons ⟨⟨QT,QU,QS,QR⟩,R9⟩ (all_cons ⟨⟨QP,QQ,QO,QN⟩,RW⟩ (all_cons ⟨⟨QL,QM,QK,QJ⟩,RK⟩ (fun _ h=>nomatch h)))))),(all_cons ⟨⟨Q1,Q2,Q0,QZ⟩,SL⟩ (all_cons ⟨⟨QX,QY,QW,QV⟩,Ss⟩ (all_cons ⟨⟨QT,QU,QS,QR⟩,R8⟩ (all_cons ⟨⟨QP,QQ,QO,QN⟩,RV⟩ (all_cons ⟨⟨QL,QM,QK,QJ⟩,RJ⟩ (fun _ h=>nomatch h)))))),(all_cons ⟨⟨Q1,Q2,Q0,QZ⟩,SK⟩ (all_cons ⟨⟨QX,QY,QW,QV⟩,Sr⟩ (all_cons ⟨⟨QT,QU,QS,QR⟩,R7⟩ (all_cons ⟨⟨QP,QQ,QO,QN⟩,RU⟩ (all_cons ⟨⟨QL,QM,QK,QJ⟩,RI⟩ (fun _ h=>nomatch h)))))),(all_cons ⟨⟨Q1,Q2,Q0,QZ⟩,SJ⟩ (all_cons ⟨⟨QX,QY,QW,QV⟩,Sq⟩ (all_cons ⟨⟨QT,QU,QS,QR⟩,R6⟩ (all_cons ⟨⟨QP,QQ,QO,QN⟩,RT⟩ (all_cons ⟨⟨QL,QM,QK,QJ⟩,RH⟩ (fun _ h=>nomatch h)))))),(all_cons ⟨⟨Q1,Q2,Q0,QZ⟩,SI⟩ (all_cons ⟨⟨QX,QY,QW,QV⟩,So⟩ (all_cons ⟨⟨QT,QU,QS,QR⟩,R5⟩ (all_cons ⟨⟨QP,QQ,QO,QN⟩,RP⟩ (all_cons ⟨⟨QL,QM,QK,QJ⟩,RF⟩ (fun _ h=>nomatch h)))))),(all_cons ⟨⟨Q1,Q2,Q0,QZ⟩,SH⟩ (all_cons ⟨⟨QX,QY,QW,QV⟩,Sn⟩ (all_cons ⟨⟨QT,QU,QS,QR⟩,R4⟩ (all_cons ⟨⟨QP,QQ,QO,QN⟩,RN⟩ (all_cons ⟨⟨QL,QM,QK,QJ⟩,RC⟩ (fun _ h=>nomatch h)))))),⟨Q1,Q2,Q0,QZ⟩,⟨QX,QY,QW,QV⟩,⟨QT,QU,QS,QR⟩,⟨QP,QQ,QO,QN⟩,⟨QL,QM,QK,QJ⟩,Lv X G b_all,Lv X G b_dict,Lv X G b_isinstance,Lv X G b_len,Lv X G b_list,Lv X G b_range,Lv X G b_sorted,Lv X G b_tuple,Lv X G b_zip,yr (vs:=[.str "",.int 0,.int 0]) (KD X G kn0) kl0 (by show 3<=Jg;decide) (.cons ⟨_,rfl⟩ (.cons ⟨_,rfl⟩ (.cons ⟨_,rfl⟩ .nil))) fun _=>(RDs.cons ir (RDs.cons eY (RDs.cons eY RDs.nil))),KD X G c3a,(all_cons ⟨⟨⟨Q1,Q2,Q0,QZ⟩,Pq,Pw,Pu,Pp⟩,PZ⟩ (all_cons ⟨⟨⟨QX,QY,QW,QV⟩,Qd,Pw,Pu,Qc⟩,Qu⟩ (all_cons ⟨⟨⟨QT,QU,QS,QR⟩,Pt,Pw,Pu,Pr⟩,P0⟩ (all_cons ⟨⟨⟨QP,QQ,QO,QN⟩,PF,Pw,Pu,PD⟩,Qh⟩ (all_cons ⟨⟨⟨QL,QM,QK,QJ⟩,PQ,Pw,Pu,PP⟩,Qp⟩ (fun _ h=>nomatch h)))))),KD X G c4a,(all_cons ⟨⟨⟨Q1,Q2,Q0,QZ⟩,Pq,Pw,Pu,Pp⟩,Qe⟩ (all_cons ⟨⟨⟨QX,QY,QW,QV⟩,Qd,Pw,Pu,Qc⟩,Qz⟩ (all_cons ⟨⟨⟨QT,QU,QS,QR⟩,Pt,Pw,Pu,Pr⟩,Qf⟩ (all_cons ⟨⟨⟨QP,QQ,QO,QN⟩,PF,Pw,Pu,PD⟩,Qq⟩ (all_cons ⟨⟨⟨QL,QM,QK,QJ⟩,PQ,Pw,Pu,PP⟩,Qv⟩ (fun _ h=>nomatch h)))))),KD X G c1a,(all_cons ⟨⟨⟨Q1,Q2,Q0,QZ⟩,Pq,Pw,Pu,Pp⟩,Qm⟩ (all_cons ⟨⟨⟨QX,QY,QW,QV⟩,Qd,Pw,Pu,Qc⟩,QE⟩ (all_cons ⟨⟨⟨QT,QU,QS,QR⟩,Pt,Pw,Pu,Pr⟩,Qn⟩ (all_cons ⟨⟨⟨QP,QQ,QO,QN⟩,PF,Pw,Pu,PD⟩,Qw⟩ (all_cons ⟨⟨⟨QL,QM,QK,QJ⟩,PQ,Pw,Pu,PP⟩,QA⟩ (fun _ h=>nomatch h)))))),KD X G c2a,(all_cons ⟨⟨⟨Q1,Q2,Q0,QZ⟩,Pq,Pw,Pu,Pp⟩,PM⟩ (all_cons ⟨⟨⟨QX,QY,QW,QV⟩,Qd,Pw,Pu,Qc⟩,Qo⟩ (all_cons ⟨⟨⟨QT,QU,QS,QR⟩,Pt,Pw,Pu,Pr⟩,PN⟩ (all_cons ⟨⟨⟨QP,QQ,QO,QN⟩,PF,Pw,Pu,PD⟩,P7⟩ (all_cons ⟨⟨⟨QL,QM,QK,QJ⟩,PQ,Pw,Pu,PP⟩,Qg⟩ (fun _ h=>nomatch h))))))⟩
 have F0:=aX (st:=da) l0 c0';have F1:=aX (st:=dN) l1 c1';have F2:=aX (st:=c_) l2 c2';have F3:=aX (st:=cM) l3 c3';have F4:=aX (st:=eg) l4 c4';have F5:=aX (st:=ef) l5 c5';have F6:=aX (st:=e_) l6 c6';have F7:=aX (st:=cw) l7 c7';have F8:=aX (st:=fK) l8 c8';have F9:=aX (st:=cf) l9 c9';have F10:=aX (st:=dc) l10 SG;have F11:=aX (st:=cg) l11 SF;have F12:=aX (st:=cy) l12 SE;have F13:=aX (st:=cN) l13 SD;have F14:=aX (st:=e9) l14 SC;have F15:=aX (st:=gQ) l15 SB;have F16:=aX (st:=db) l16 SA;have F17:=aX (st:=fe) l17 Sz;have F18:=aX (st:=eh) l18 Sy;have F19:=aX (st:=fJ) l19 Sx;have F20:=aX (st:=fL) l20 Sm;have F21:=aX (st:=iJ) l21 Sj;have F22:=aX (st:=fb) l22 Si;have F23:=aX (st:=fc) l23 Sh;have F24:=aX (st:=cL) l24 Sg;have F25:=aX (st:=cx) l25 Sf;have F26:=aX (st:=cZ) l26 Se;have F27:=aX (st:=dM) l27 Sd;have F28:=aX (st:=d_) l28 Sc;have F29:=aX (st:=iI) l29 Sb;have F30:=aX (st:=gP) l30 R1;have F31:=aX (st:=gO) l31 R0;have F32:=aX (st:=kM) l32 RZ;refine⟨Ln "law" "law" (aT kM) (aP kM) (aj kM) .none S1 Td SS TJ RB Te,fun s v=>.of_eq rfl,fun base _ _=>?_⟩;have O0:=ng (P:=P) (w:=w) (base:=base) F0 T  (lZ _ _ _ _ _ _) ms;have PL:=cF O0 (KD X G a0) k0 (.all fun us hl=>by obtain⟨_,_,rfl⟩:=u_ (us:=us) hl;rfl)
 have O1:=oj (P:=P) (w:=w) (base:=base) F1 T  (m8 _ _ _ _ _ _) nr;have Pn:=cF O1 (KD X G a1) k1 (.all fun us hl=>by obtain⟨_,_,rfl⟩:=u_ (us:=us) hl;rfl)
 have O2:=m_ (P:=P) (w:=w) (base:=base) F2 T Pn (lY _ _ _ _ _ _) mr;have Ql:=cF O2 (KD X G a2) k2 (.all fun us hl=>by obtain⟨_,_,_,rfl⟩:=u9 (us:=us) hl;rfl)
 have O3:=mm (P:=P) (w:=w) (base:=base) F3 T Pn (kP _ _ _ _ _ _) lC;have Qa:=cF O3 (KD X G a3) k3 (.all fun us hl=>by obtain⟨_,_,rfl⟩:=u_ (us:=us) hl;rfl)
 have O4:=pN (P:=P) (w:=w) (base:=base) F4 T  (nX _ _ _ _ _ _) oJ;have Qb:=cF O4 (KD X G a4) k4 (.all fun us hl=>by obtain⟨_,_,_,rfl⟩:=u9 (us:=us) hl;rfl)
 have O5:=pM (P:=P) (w:=w) (base:=base) F5 T  (nW _ _ _ _ _ _) oH;have Pl:=cF O5 (KD X G a5) k5 (.all fun us hl=>by obtain⟨_,_,rfl⟩:=u_ (us:=us) hl;rfl)
 have O6:=rT (P:=P) (w:=w) (base:=base) F6 T Pl (pH _ _ _ _ _ _) pT;have PJ:=cF O6 (KD X G a6) k6 (.all fun us hl=>by obtain⟨_,rfl⟩:=iG (us:=us) hl;rfl)
 have O7:=kX (P:=P) (w:=w) (base:=base) F7 T  (j5 _ _ _ _ _ _) ke;have PV:=cF O7 (KD X G a7) k7 (.all fun us hl=>by obtain⟨_,rfl⟩:=iG (us:=us) hl;rfl)
 have O8:=uc (P:=P) (w:=w) (base:=base) F8 T PV (rA _ _ _ _ _ _) sf;have PY:=cF O8 (KD X G a8) k8 (.all fun us hl=>by obtain⟨_,rfl⟩:=iG (us:=us) hl;rfl)
 have O9:=j_ (P:=P) (w:=w) (base:=base) F9 T  (jM _ _ _ _ _ _) jO;have OY:Cf3 P w K mg base 1 "Stroke" "__init__" [] (aw Z1 Z2 Z3 Z4 Z5 (ah P w)):=⟨Z1,_,_,_,[],[],O9,KD X G c0a,Py,Px,Pz,k9,(.all fun us hl=>by obtain⟨_,_,_,rfl⟩:=u9 (us:=us) hl;rfl),.nil,fun _=>RDs.nil⟩
 have M_Stroke:Mk3 P w K mg base 1 "Stroke" Z1 [] (aw Z1 Z2 Z3 Z4 Z5 (ah P w)):=⟨_,_,_,[],[],⟨SN,a9,i9,SO⟩,KD X G c0a,O9,(.all fun us hl=>by obtain⟨_,_,_,rfl⟩:=u9 (us:=us) hl;rfl),.nil,fun _=>RDs.nil⟩
 have O10:=ni (P:=P) (w:=w) (base:=base) F10 T OY (ma _ _ _ _ _ _) my;have Rq:Mk3 P w K mg base 2 "Put" Z2 [] (bd Z1 Z2 Z3 Z4 Z5 (ah P w)):=⟨_,_,_,[],[],⟨Sv,a10,i10,Sw⟩,KD X G c1a,O10,(.all fun us hl=>by obtain⟨_,_,_,_,_,rfl⟩:=DB (us:=us) hl;rfl),.nil,fun _=>RDs.nil⟩
 have O11:=kc (P:=P) (w:=w) (base:=base) F11 T OY (jN _ _ _ _ _ _) jP;have Q8:Mk3 P w K mg base 2 "Strike" Z3 [] (aR Z1 Z2 Z3 Z4 Z5 (ah P w)):=⟨_,_,_,[],[],⟨R_,a11,i11,Sa⟩,KD X G c2a,O11,(.all fun us hl=>by obtain⟨_,_,_,_,rfl⟩:=Ft (us:=us) hl;rfl),.nil,fun _=>RDs.nil⟩
 have O12:=kZ (P:=P) (w:=w) (base:=base) F12 T OY (j7 _ _ _ _ _ _) kh;have Q_:Mk3 P w K mg base 2 "Dress" Z4 [] (aV Z1 Z2 Z3 Z4 Z5 (ah P w)):=⟨_,_,_,[],[],⟨RX,a12,i12,RY⟩,KD X G c3a,O12,(.all fun us hl=>by obtain⟨_,_,_,_,_,rfl⟩:=DB (us:=us) hl;rfl),.nil,fun _=>RDs.nil⟩
 have O13:=mn (P:=P) (w:=w) (base:=base) F13 T OY (kQ _ _ _ _ _ _) lD;have Rg:Mk3 P w K mg base 2 "Move" Z5 [] (aZ Z1 Z2 Z3 Z4 Z5 (ah P w)):=⟨_,_,_,[],[],⟨RL,a13,i13,RM⟩,KD X G c4a,O13,(.all fun us hl=>by obtain⟨_,_,_,_,_,rfl⟩:=DB (us:=us) hl;rfl),.nil,fun _=>RDs.nil⟩
 have O14:=rS (P:=P) (w:=w) (base:=base) F14 T Q_ Rg Rq Q8 (pG _ _ _ _ _ _) pS;have PH:=cF O14 (KD X G a14) k14 (.all fun us hl=>by obtain⟨_,rfl⟩:=iG (us:=us) hl;rfl)
 have O15:=vS (P:=P) (w:=w) (base:=base) F15 T  (tS _ _ _ _ _ _) uy;have Q6:=cF O15 (KD X G a15) k15 (.all fun us hl=>by obtain⟨_,rfl⟩:=iG (us:=us) hl;rfl)
 have O16:=nh (P:=P) (w:=w) (base:=base) F16 T  (l_ _ _ _ _ _ _) mv;have Pa:=iz T.cl_Dress O16 ⟨Qj,i16,k16⟩ (.all fun us hl=>by obtain⟨_,rfl⟩:=iG (us:=us) hl;rfl)
 have O_:=iz T.cl_Strike O16 ⟨P8,i16,k16⟩ (.all fun us hl=>by obtain⟨_,rfl⟩:=iG (us:=us) hl;rfl)
 have OZ:=iz T.cl_Stroke O16 ⟨a16,i16,k16⟩ (.all fun us hl=>by obtain⟨_,rfl⟩:=iG (us:=us) hl;rfl)
 have O17:=rX (P:=P) (w:=w) (base:=base) F17 T Pl (pK _ _ _ _ _ _) pW;have Pi:=iz T.cl_Put O17 ⟨a17,i17,k17⟩ (.all fun us hl=>by obtain⟨_,rfl⟩:=iG (us:=us) hl;rfl)
 have O18:=pO (P:=P) (w:=w) (base:=base) F18 T Pl (nY _ _ _ _ _ _) oK;have Pf:=iz T.cl_Move O18 ⟨a18,i18,k18⟩ (.all fun us hl=>by obtain⟨_,rfl⟩:=iG (us:=us) hl;rfl)
 have O19:=t_ (P:=P) (w:=w) (base:=base) F19 T Q6 PY Qb PJ PH OZ Pi O_ Pa Pf (rq _ _ _ _ _ _) se;have PU:=cF O19 (KD X G a19) k19 (.all fun us hl=>by obtain⟨_,_,rfl⟩:=u_ (us:=us) hl;rfl)
 have O20:=ud (P:=P) (w:=w) (base:=base) F20 T  (rB _ _ _ _ _ _) sh;have QF:=cF O20 (KD X G a20) k20 (.all fun us hl=>by obtain⟨_,_,_,_,rfl⟩:=Ft (us:=us) hl;rfl)
 have O21:=xO (P:=P) (w:=w) (base:=base) F21 T  (vC _ _ _ _ _ _) v3;have Qt:=cF O21 (KD X G a21) k21 (.all fun us hl=>by obtain⟨_,rfl⟩:=iG (us:=us) hl;rfl)
 have O22:=rV (P:=P) (w:=w) (base:=base) F22 T OZ Pi O_ Pa Pf (pI _ _ _ _ _ _) pU;have QB:=cF O22 (KD X G a22) k22 (.all fun us hl=>by obtain⟨_,_,rfl⟩:=u_ (us:=us) hl;rfl)
 have O23:=rW (P:=P) (w:=w) (base:=base) F23 T PY QB Qt PH (pJ _ _ _ _ _ _) pV;have QC:=cF O23 (KD X G a23) k23 (.all fun us hl=>by obtain⟨_,_,_,rfl⟩:=u9 (us:=us) hl;rfl)
 have O24:=ml (P:=P) (w:=w) (base:=base) F24 T PJ OZ Pi O_ Pa Pf (kO _ _ _ _ _ _) lB;have P_:=cF O24 (KD X G a24) k24 (.all fun us hl=>by obtain⟨_,_,rfl⟩:=u_ (us:=us) hl;rfl)
 have O25:=kY (P:=P) (w:=w) (base:=base) F25 T  (j6 _ _ _ _ _ _) kg;have Pg:=iz T.cl_Dress O25 ⟨PR,i25,k25⟩ (.all fun us hl=>by obtain⟨_,rfl⟩:=iG (us:=us) hl;rfl)
 have Pj:=iz T.cl_Move O25 ⟨P9,i25,k25⟩ (.all fun us hl=>by obtain⟨_,rfl⟩:=iG (us:=us) hl;rfl)
 have Pk:=iz T.cl_Put O25 ⟨Qi,i25,k25⟩ (.all fun us hl=>by obtain⟨_,rfl⟩:=iG (us:=us) hl;rfl)
 have Pe:=iz T.cl_Strike O25 ⟨PK,i25,k25⟩ (.all fun us hl=>by obtain⟨_,rfl⟩:=iG (us:=us) hl;rfl)
 have Pc:=iz T.cl_Stroke O25 ⟨a25,i25,k25⟩ (.all fun us hl=>by obtain⟨_,rfl⟩:=iG (us:=us) hl;rfl)
 have O26:=m9 (P:=P) (w:=w) (base:=base) F26 T Pc Pk Pe Pg Pj (lX _ _ _ _ _ _) mq;have Qk:=cF O26 (KD X G a26) k26 (.all fun us hl=>by obtain⟨_,rfl⟩:=iG (us:=us) hl;rfl)
 have O27:=oh (P:=P) (w:=w) (base:=base) F27 T OZ Pi O_ Pa Pf Pc Pk Pe Pg Pj (m7 _ _ _ _ _ _) nq;have Qr:=cF O27 (KD X G a27) k27 (.all fun us hl=>by obtain⟨_,rfl⟩:=iG (us:=us) hl;rfl)
 have O28:=pL (P:=P) (w:=w) (base:=base) F28 T Pc Pk Pe Pg Pj (nV _ _ _ _ _ _) oG;have Qx:=cF O28 (KD X G a28) k28 (.all fun us hl=>by obtain⟨_,rfl⟩:=iG (us:=us) hl;rfl)
 have O29:=xN (P:=P) (w:=w) (base:=base) F29 T QC Qt P_ Qk PU Qr Qx (vB _ _ _ _ _ _) v0;have Qs:=cF O29 (KD X G a29) k29 (.all fun us hl=>by obtain⟨_,_,_,rfl⟩:=u9 (us:=us) hl;rfl)
 have O30:=vR (P:=P) (w:=w) (base:=base) F30 T Qs (tR _ _ _ _ _ _) ux;have Q5:=cF O30 (KD X G a30) k30 (.all fun us hl=>by obtain⟨_,_,_,rfl⟩:=u9 (us:=us) hl;rfl)
 have O31:=vQ (P:=P) (w:=w) (base:=base) F31 T  (tQ _ _ _ _ _ _) uw;have Q4:=cF O31 (KD X G a31) k31 (.all fun us hl=>by obtain⟨_,rfl⟩:=iG (us:=us) hl;rfl)
 exact Et F32 T PL QF Qa Ql Q5 Qs PU Q4 (Bv _ _ _ _ _ _) Cc
end RQ
def PySem.W.Fast.tw6302580630777428724 : Nat := 0
def PySem.W.Fast.tw9879324648551300867 : Nat := 0
def PySem.W.Fast.tw2433576175910757356 : Nat := 0
def PySem.W.Fast.tw13103930116455054462 : Nat := 0
def PySem.W.Fast.tw4276178049031974029 : Nat := 0
def PySem.W.Fast.tw751669247817213294 : Nat := 0
def PySem.W.Fast.tw9176103992014964392 : Nat := 0
def PySem.W.Fast.tw18008358803445225069 : Nat := 0
def PySem.W.Fast.tw2049322398555371209 : Nat := 0
def PySem.W.Fast.tw3148494770343438652 : Nat := 0
def PySem.W.Fast.tw11414418383884634362 : Nat := 0
def PySem.W.Fast.tw6782648559093232322 : Nat := 0
def PySem.W.Fast.tw4150736648824018061 : Nat := 0
def PySem.W.Fast.tw14552772989255765880 : Nat := 0
def PySem.W.Fast.tw15153046287782859911 : Nat := 0
def PySem.W.Fast.tw14897734144391880636 : Nat := 0
def PySem.W.Fast.tw4362847706868858784 : Nat := 0
def PySem.W.Fast.tw9264669408894031839 : Nat := 0
def PySem.W.Fast.tw13296636057568857308 : Nat := 0
def PySem.W.Fast.tw6159362891598154970 : Nat := 0
def PySem.W.Fast.tw10280957983942548087 : Nat := 0
open PySem PySem.W PyProof.Rows
set_option maxRecDepth 100000 in
set_option maxHeartbeats 0 in
theorem PySem.Challenge.cw_redquill_k31_signs_that_are_there_holds : PySem.Challenge.rw_redquill_k31_signs_that_are_there.Holds := by
 w_on;o_law;k_head;(case hw=>w_witness2)
 k_fill
 refine L3.walk3 (l:=PySem.Challenge.rw_redquill_k31_signs_that_are_there) (k:=8) (x:="_law_script") rfl rfl ⟨rfl,by decide,by decide⟩ (fun w h Y=>PySem.W.kIn_of Y) ?F
 case F=>
  intro w mg fa h KX G hmg;refine' RQ.all_mk KX G hmg ?c0a ?c1a ?c2a ?c3a ?c4a ?Pw ?Pu ?Pq ?Pp ?PZ ?Qe ?Qm ?PM ?Qd ?Qc ?Qu ?Qz ?QE ?Qo ?Pt ?Pr ?P0 ?Qf ?Qn ?PN ?PF ?PD ?Qh ?Qq ?Qw ?P7 ?PQ ?PP ?Qp ?Qv ?QA ?Qg ?a0 ?l0 ?c0' ?k0 ?a1 ?l1 ?c1' ?k1 ?a2 ?l2 ?c2' ?k2 ?a3 ?l3 ?c3' ?k3 ?a4 ?l4 ?c4' ?k4 ?a5 ?l5 ?c5' ?k5 ?a6 ?l6 ?c6' ?k6 ?a7 ?l7 ?c7' ?k7 ?a8 ?l8 ?c8' ?k8 ?a9 ?i9 ?l9 ?c9' ?k9 ?a10 ?i10 ?l10 ?SG ?k10 ?a11 ?i11 ?l11 ?SF ?k11 ?a12 ?i12 ?l12 ?SE ?k12 ?a13 ?i13 ?l13 ?SD ?k13 ?a14 ?l14 ?SC ?k14 ?a15 ?l15 ?SB ?k15 ?a16 ?i16 ?l16 ?SA ?k16 ?a17 ?i17 ?l17 ?Sz ?k17 ?a18 ?i18 ?l18 ?Sy ?k18 ?a19 ?l19 ?Sx ?k19 ?a20 ?l20 ?Sm ?k20 ?a21 ?l21 ?Sj ?k21 ?a22 ?l22 ?Si ?k22 ?a23 ?l23 ?Sh ?k23 ?a24 ?l24 ?Sg ?k24 ?a25 ?i25 ?l25 ?Sf ?k25 ?a26 ?l26 ?Se ?k26 ?a27 ?l27 ?Sd ?k27 ?a28 ?l28 ?Sc ?k28 ?a29 ?l29 ?Sb ?k29 ?a30 ?l30 ?R1 ?k30 ?a31 ?l31 ?R0 ?k31 ?a32 ?l32 ?RZ ?k32 ?Q1 ?Q2 ?Q0 ?QZ ?SN ?SO ?SM ?SL ?SK ?SJ ?SI ?SH ?QX ?QY ?QW ?QV ?Sv ?Sw ?Su ?Ss ?Sr ?Sq ?So ?Sn ?QT ?QU ?QS ?QR ?R_ ?Sa ?R9 ?R8 ?R7 ?R6 ?R5 ?R4 ?QP ?QQ ?QO ?QN ?RX ?RY ?RW ?RV ?RU ?RT ?RP ?RN ?QL ?QM ?QK ?QJ ?RL ?RM ?RK ?RJ ?RI ?RH ?RF ?RC ?b_all ?b_dict ?b_isinstance ?b_len ?b_list ?b_range ?b_sorted ?b_tuple ?b_zip ?kn0 ?kl0 ?Qj ?PR ?P9 ?Qi ?P8 ?PK ?Py ?Px ?Pz
  (case c0a=>k_is)
  (case c1a=>k_is)
  (case c2a=>k_is)
  (case c3a=>k_is)
  (case c4a=>k_is)
  (case Pw=>k_is)
  (case Pu=>k_is)
  (case Pq=>k_is)
  (case Pp=>k_is)
  (case PZ=>kernel_rfl)
  (case Qe=>kernel_rfl)
  (case Qm=>kernel_rfl)
  (case PM=>kernel_rfl)
  (case Qd=>k_is)
  (case Qc=>k_is)
  (case Qu=>kernel_rfl)
  (case Qz=>kernel_rfl)
  (case QE=>kernel_rfl)
  (case Qo=>kernel_rfl)
  (case Pt=>k_is)
  (case Pr=>k_is)
  (case P0=>kernel_rfl)
  (case Qf=>kernel_rfl)
  (case Qn=>kernel_rfl)
  (case PN=>kernel_rfl)
  (case PF=>k_is)
  (case PD=>k_is)
  (case Qh=>kernel_rfl)
  (case Qq=>kernel_rfl)
  (case Qw=>kernel_rfl)
  (case P7=>kernel_rfl)
  (case PQ=>k_is)
  (case PP=>k_is)
  (case Qp=>kernel_rfl)
  (case Qv=>kernel_rfl)
  (case QA=>kernel_rfl)
  (case Qg=>kernel_rfl)
  (case a0=>k_is)
  (case l0=>k_is)
  (case c0'=>k_is)
  (case k0=>k_is)
  (case a1=>k_is)
  (case l1=>k_is)
  (case c1'=>k_is)
  (case k1=>k_is)
  (case a2=>k_is)
  (case l2=>k_is)
  (case c2'=>k_is)
  (case k2=>k_is)
  (case a3=>k_is)
  (case l3=>k_is)
  (case c3'=>k_is)
  (case k3=>k_is)
  (case a4=>k_is)
  (case l4=>k_is)
  (case c4'=>k_is)
  (case k4=>k_is)
  (case a5=>k_is)
  (case l5=>k_is)
  (case c5'=>k_is)
  (case k5=>k_is)
  (case a6=>k_is)
  (case l6=>k_is)
  (case c6'=>k_is)
  (case k6=>k_is)
  (case a7=>k_is)
  (case l7=>k_is)
  (case c7'=>k_is)
  (case k7=>k_is)
  (case a8=>k_is)
  (case l8=>k_is)
  (case c8'=>k_is)
  (case k8=>k_is)
  (case a9=>k_is)
  (case i9=>k_is)
  (case l9=>k_is)
  (case c9'=>k_is)
  (case k9=>k_is)
  (case a10=>k_is)
  (case i10=>k_is)
  (case l10=>k_is)
  (case SG=>k_is)
  (case k10=>k_is)
  (case a11=>k_is)
  (case i11=>k_is)
  (case l11=>k_is)
  (case SF=>k_is)
  (case k11=>k_is)
  (case a12=>k_is)
  (case i12=>k_is)
  (case l12=>k_is)
  (case SE=>k_is)
  (case k12=>k_is)
  (case a13=>k_is)
  (case i13=>k_is)
  (case l13=>k_is)
  (case SD=>k_is)
  (case k13=>k_is)
  (case a14=>k_is)
  (case l14=>k_is)
  (case SC=>k_is)
  (case k14=>k_is)
  (case a15=>k_is)
  (case l15=>k_is)
  (case SB=>k_is)
  (case k15=>k_is)
  (case a16=>k_is)
  (case i16=>k_is)
  (case l16=>k_is)
  (case SA=>k_is)
  (case k16=>k_is)
  (case a17=>k_is)
  (case i17=>k_is)
  (case l17=>k_is)
  (case Sz=>k_is)
  (case k17=>k_is)
  (case a18=>k_is)
  (case i18=>k_is)
  (case l18=>k_is)
  (case Sy=>k_is)
  (case k18=>k_is)
  (case a19=>k_is)
  (case l19=>k_is)
  (case Sx=>k_is)
  (case k19=>k_is)
  (case a20=>k_is)
  (case l20=>k_is)
  (case Sm=>k_is)
  (case k20=>k_is)
  (case a21=>k_is)
  (case l21=>k_is)
  (case Sj=>k_is)
  (case k21=>k_is)
  (case a22=>k_is)
  (case l22=>k_is)
  (case Si=>k_is)
  (case k22=>k_is)
  (case a23=>k_is)
  (case l23=>k_is)
  (case Sh=>k_is)
  (case k23=>k_is)
  (case a24=>k_is)
  (case l24=>k_is)
  (case Sg=>k_is)
  (case k24=>k_is)
  (case a25=>k_is)
  (case i25=>k_is)
  (case l25=>k_is)
  (case Sf=>k_is)
  (case k25=>k_is)
  (case a26=>k_is)
  (case l26=>k_is)
  (case Se=>k_is)
  (case k26=>k_is)
  (case a27=>k_is)
  (case l27=>k_is)
  (case Sd=>k_is)
  (case k27=>k_is)
  (case a28=>k_is)
  (case l28=>k_is)
  (case Sc=>k_is)
  (case k28=>k_is)
  (case a29=>k_is)
  (case l29=>k_is)
  (case Sb=>k_is)
  (case k29=>k_is)
  (case a30=>k_is)
  (case l30=>k_is)
  (case R1=>k_is)
  (case k30=>k_is)
  (case a31=>k_is)
  (case l31=>k_is)
  (case R0=>k_is)
  (case k31=>k_is)
  (case a32=>k_is)
  (case l32=>k_is)
  (case RZ=>k_is)
  (case k32=>k_is)
  (case Q1=>k_is)
  (case Q2=>k_is)
  (case Q0=>k_is)
  (case QZ=>k_is)
  (case SN=>k_is)
  (case SO=>k_is)
  (case SM=>k_is)
  (case SL=>k_is)
  (case SK=>k_is)
  (case SJ=>k_is)
  (case SI=>k_is)
  (case SH=>k_is)
  (case QX=>k_is)
  (case QY=>k_is)
  (case QW=>k_is)
  (case QV=>k_is)
  (case Sv=>k_is)
  (case Sw=>k_is)
  (case Su=>k_is)
  (case Ss=>k_is)
  (case Sr=>k_is)
  (case Sq=>k_is)
  (case So=>k_is)
  (case Sn=>k_is)
  (case QT=>k_is)
  (case QU=>k_is)
  (case QS=>k_is)
  (case QR=>k_is)
  (case R_=>k_is)
  (case Sa=>k_is)
  (case R9=>k_is)
  (case R8=>k_is)
  (case R7=>k_is)
  (case R6=>k_is)
  (case R5=>k_is)
  (case R4=>k_is)
  (case QP=>k_is)
  (case QQ=>k_is)
  (case QO=>k_is)
  (case QN=>k_is)
  (case RX=>k_is)
  (case RY=>k_is)
  (case RW=>k_is)
  (case RV=>k_is)
  (case RU=>k_is)
  (case RT=>k_is)
  (case RP=>k_is)
  (case RN=>k_is)
  (case QL=>k_is)
  (case QM=>k_is)
  (case QK=>k_is)
  (case QJ=>k_is)
  (case RL=>k_is)
  (case RM=>k_is)
  (case RK=>k_is)
  (case RJ=>k_is)
  (case RI=>k_is)
  (case RH=>k_is)
  (case RF=>k_is)
  (case RC=>k_is)
  (case b_all=>k_is)
  (case b_dict=>k_is)
  (case b_isinstance=>k_is)
  (case b_len=>k_is)
  (case b_list=>k_is)
  (case b_range=>k_is)
  (case b_sorted=>k_is)
  (case b_tuple=>k_is)
  (case b_zip=>k_is)
  (case kn0=>k_is)
  (case kl0=>k_is)
  (case Qj=>k_is)
  (case PR=>k_is)
  (case P9=>k_is)
  (case Qi=>k_is)
  (case P8=>k_is)
  (case PK=>k_is)
  (case Py=>k_is)
  (case Px=>k_is)
  (case Pz=>k_is)
