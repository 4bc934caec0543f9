import PyProof.Rows.All
import Wide.All
import OpenK.AllK
import Wide.FinOn
import Lean
import PyProof.EqAt
import PyProof.EqKinds
import PyProof.TupleCall
import PySem.Challenge.RW_redquill_k61_outcomes_of_choices
set_option Elab.async false
set_option linter.all false
set_option maxRecDepth 100000
set_option maxHeartbeats 4000000
open PySem renaming wpAny_bind->Mf,Addr->Mg,Value->Mh,Shared->Mi,wpAny_pure->Ml,wpAny->Mo,sizeLine->Mp,FuncData->Mr,model->Mt,starEach->Mu,Program->Mw,mainGlobals->My,Around->MA,World->ME,Heap->MG,Expr->MJ,Stmt->ML,compareOp->MT,wpAny_newObj_type->MX,cLine->M5,wpAny_mono->M7,tupleKind_room_in1->M8,sysModules->M9,binaryOp->Na,wpAny_passesOwn->Nb,wpAny_holding->Nc,behindInMarks->Nf,foldedSetIterable->Nh,wpAny_call_entry->Ni,wpAny_callSpecial?_slot->Nj,bootBuiltins->Nl,sizeLine_eq->Nn,wpAny_setField_rec->No,tupleKind->Np,backTo->Nr,wpAny_field->Nv,wpAny_truthy_bool->NB,attributeBase->ND,wpAny_typeNameOfWhole_valiter->NH,wpAny_typeNameOfWhole_keyiter->NI,sliceBounds->NJ,keywordEach->NK,pyNext->NM,assignEach->NN,swapsWith->NR,wpAny_dictEntries->NT,wpAny_seqItems->NV,rawInt->N0,wpAny_typeNameOf_valiter->N3,wpAny_typeNameOf_keyiter->N4,wpAny_attempt->N5,wpAny_dictEpoch->N9,letOwnedTupleGo->Oa,wpAny_Call_Name_kw->Oc,IsPair->Of,Scope->Oo,backToKw->Ou,atKey->Ov,wpAny_execs_nil->Ow,standAt->Oz,codeAny->OB,getMethod->OC,pyIter->OD,getattributeRaised->OF,Paired->OG,NameKind->OI,wpAny_pyIter_list->OK,strIterType->OL,CmpOp->OS,getItem->OV,codeAny_mono->OY,Keyword->O0,wpAny_notOrdered_dict->O4,wpAny_isOneOf_valiter->O5,builtinLookup_eq_fast->O6,wpAny_updateSeq_pair->O8,wpAny_setField->O9,wpAny_fieldsOf->O_,firstArgMember->Pc,storedH->Pg,callerA->Pi,PassesOwn->Pj,wpAny_standAt->Pl,wpAny_onRaise->Pm,wpAny_rule->Po,typeLookup->Pq,IsPart->Pt,wpAny_pyIter_slot->Pw,valueAt->Px,getAttr?->Py,call_meetsIn->Pz,callWith->PB,BindsTo->PH,wpAny_isInstance->PK,wpAny_letGo->PP,subscripted->PQ,typeLookup_type->PY,relabel->PZ,wpAny_newTuple->P3,isSubtype_stop->P5,SetTable->P6,wpAny_comprehension_free->P9,meetsH_dict_get_default->Qb,bindL->Qe,bindC->Qf,wpAny_typeOf->Qi,wpAny_pyNext_list_item->Qj,isTrue->Qm,concat_meets->Qo,wpAny_pyNext_list_end->Qu,wpAny_isTrue_Compare1->Qv,wpAny_isOneOf_keyiter->Qw,setField->Qy,seqIndex_of->Qz,loadIfAlive->QA,codeAny_forLoop_any->QG,wpAny_setItem_heap->QH,wpAny_getItem_heap->QI,wpAny_dictSet_heap->QJ,wpAny_call->QK,wpAny_Name->QL,typeIs_str->QM,sub_AttributeError->QN,sliceRange->QO,closureFor->QP,call_meets->QQ,builtinsNs->QR,Result->QT,wpAny_pyIter_enum->QV,wpAny_assign_Name->QW,setItem->QX,Draws->Q2
open PySem.Str renaming ofString->Mj,length->OZ
open List renaming length_map->Mm,getElem?_eq_getElem->Ms,size_toArray->Mv,mem_cons_of_mem->Mz,mem_cons_self->MB,mem_of_getElem?->MC,length_cons->MD,map_cons->MF,getElem?_map->MH,getD_eq_getElem?_getD->MI,set_cons_zero->MK,length_append->MP,find?_cons->MQ,take_length->MR,length_nil->MS,take_add_one->MU,mem_cons->MV,mem_append_right->MW,map_map->MY,not_mem_nil->MZ,map_append->M3,getElem?_cons_succ->M4,getElem?_cons_zero->M_,set_cons_succ->Nd,length_filter_le->Ng,length_take->Nk,lookup_cons->Nw,append_nil->Nz,map_congr_left->NF,getElem?_set_ne->NP,filter_append->NS,nodup_cons->NW,getElem?_eq_none->NY,mem_of_mem_take->N_,nil_append->Od,forIn_cons->Oe,cons_append->Oi,zip_cons_cons->Oq,mem_singleton->Os,getElem_mem->Ot,map_nil->OA,mem_append->OE,length_drop->OM,getElem_map->ON,forIn_nil->OR,foldl_cons->OW,countP_cons->Pd,any_cons->Pe,length_zip->Pr,nodup_nil->PL,mem_map->QY
open PySem.Heap renaming get?_push_of_some->Mn,get?_push_size->Mq,lt_size->Mx,size_push->NA,SameBut->NC,get?_update_other->Om,get?_update_self->O7,get?_push_ne->PD
open PySem.PassesOwn renaming never->MM
open Nat renaming lt_of_lt_of_le->MN,ne_of_lt->MO,zero_le->M6,lt_or_ge->N6,lt_succ_self->Oj,ne_of_gt->Pa
open PySem.Builtin.SmallTypes renaming nextOf->M0,ownedTupleIsFree->Nx,ownedTupleHandOut->Pk
open PySem.W renaming kitOne->Nq,mg_none_of->Ny,kas_rev->NU,kia_one->Ob,kas_tail3->Og,emptyDict->Oh,kas_desc->Ol,methodCall_KW->OP,kas_descPart->OT,instObj->OU,kas_place->Ph,callWith_K->Ps,Frag->Pu,keepIn->PM,plainGet_of->PR,kas_bin->P0,plainGet->P4,methodObj->Qa,kitx_list->Qc,kas_count->Qd,takerIn->Qk,findIn->Qn,codeIn->Qp,kas_sort->QB,KasT->QU
open PySem.Builtin.Dict_items renaming ownsTuple->Nt
open PySem.Builtin.Str renaming strSliceIndices->Nu
open PySem.Obj renaming mapSeq->NE,data_mapFields->OH,mapFields->OQ,isFreed_of_fields->Qx,cls_mapFields->QZ
open PySem.F renaming slot_dict_valueiterator_next->NG,slot_dict_keyiterator_next->NQ,slot_zip_next->O3,args_dict_valueiterator_next_1->PF,entry_dict_valueiterator_next->PJ,args_dict_keyiterator_next_1->PN,entry_dict_keyiterator_next->PX,slot_dict_values_iter->Qg,args_zip_next_1->Q1
open PyProof.Rows renaming seqObj->NL,boot_isinstance->Ox,AllBare->OO,envOfC->OX,get?_update_seq->O2,listUpdate_at->Pn,mirror_perm->PU,subscriptTail->P_,subscriptTail_builtinR->Ql,IntsAre->Qq,bubble_size->QC,Call_->QE,Subscript_->QS
open PySem.Calls renaming spliced_cons->NO,spliced_nil->On,callWith_builtin->O1,Name_function_global->P7,evalArgs_plain->QD
open PySem.Builtin.Slice renaming slicePlaces->NZ,sliceAdjust->OJ,sliceApplied->P8
open PySem.Paired renaming length->N7,snoc->PV
open PySem.Builtin.Tuple renaming tupleExact->N8
open PySem.Builtin.Dict renaming showsAll->Op,updateFrom->Qh,pairItems->Qs
open PySem.Heap.SameBut renaming update->Oy,refl->Q0
open PySem.Builtin renaming bitAnd->Pf
open PySem.Code renaming isFrame->Qr
open PySem.Around renaming under->Qt,under_plainId->QF
noncomputable section
open PySem.W (typeIn)
open List (mem_filter mem_range)
open Nat (le_trans le_of_lt le_refl)
local macro_rules | `(tactic| walk_at "j") => `(tactic| exact ⟨rfl, rfl, rfl, by decide +kernel, rfl, by decide +kernel, by decide +kernel⟩)
local macro_rules | `(tactic| walk_at "o") => `(tactic| first | assumption | exact le_trans (by decide) $(Lean.mkIdent `hs) | exact le_of_lt (by assumption) | exact le_trans (by assumption) (by assumption) | exact MN (by assumption) (by assumption) | exact Nat.lt_of_le_of_lt (by assumption) (by assumption) | exact le_trans (by assumption) (le_trans (by decide) $(Lean.mkIdent `hs)) | omega)
namespace L2
open PySem PySem.Spec PyProof.Rows
abbrev aJ:=Sum Int Str
def wj:aJ->Mh->Bool
 | .inl k,v=>Value.isInt k v
 | .inr x,v=>Value.isStrOf x v
def Lu(w:ME):aJ->Int
 | .inl k=>hashInt k
 | .inr x=>hashStr w x
theorem dj:∀ {k:aJ} {v:Mh},wj k v=true->(∃ i t,k=Sum.inl i/\v=Value.int i t)\/(∃ x t,k=Sum.inr x/\v=Value.str x t)
 | .inl i,v,h=>by
  obtain⟨t,e⟩:=Value.isInt_shape (k:=i) (v:=v) h;exact .inl ⟨i,t,rfl,e⟩
 | .inr x,v,h=>by
  obtain⟨t,e⟩:=Value.isStrOf_shape (x:=x) (v:=v) h;exact .inr ⟨x,t,rfl,e⟩
theorem CG(i:Int)(t:Tok):wj (.inl i) (.int i t)=true:=by simp[wj,Value.isInt]
theorem CF(x:Str)(t:Tok):wj (.inr x) (.str x t)=true:=by simp[wj,Value.isStrOf]
theorem IC(a b:Int):decide ((Sum.inl a:aJ)=Sum.inl b)=(a == b):=by
 by_cases e:a=b
 ·subst e;simp
 ·have h:¬ (Sum.inl a:aJ)=Sum.inl b:=fun q=>e (Sum.inl.inj q);rw[decide_eq_false h];exact (beq_eq_false_iff_ne.mpr e).symm
theorem Iy(a b:Str):decide ((Sum.inr a:aJ)=Sum.inr b)=decide (a=b):=by
 by_cases e:a=b
 ·subst e;simp
 ·have h:¬ (Sum.inr a:aJ)=Sum.inr b:=fun q=>e (Sum.inr.inj q);rw[decide_eq_false h,decide_eq_false e]
theorem IB(a:Int)(b:Str):decide ((Sum.inl a:aJ)=Sum.inr b)=false:=decide_eq_false (fun q=>nomatch q)
theorem Iz(a:Str)(b:Int):decide ((Sum.inr a:aJ)=Sum.inl b)=false:=decide_eq_false (fun q=>nomatch q)
def bv(prog:Mw)(w:ME):PySem.KeyKind prog w aJ where
 is:=wj
 hash:=Lu w
 inj:=fun v a b ha hb=>by
  rcases dj ha with ⟨i,t,rfl,rfl⟩|⟨x,t,rfl,rfl⟩
  ·rcases dj hb with ⟨j,u,rfl,e⟩|⟨y,u,rfl,e⟩
   ·injection e with e1 _;rw[e1]
   ·exact nomatch e
  ·rcases dj hb with ⟨j,u,rfl,e⟩|⟨y,u,rfl,e⟩
   ·exact nomatch e
   ·injection e with e1 _;rw[e1]
 byValue:=fun k v h=>by
  rcases dj h with ⟨i,t,rfl,rfl⟩|⟨x,t,rfl,rfl⟩<;>rfl
 pyHash:=fun hv h=>by
  rcases dj hv with ⟨i,t,rfl,rfl⟩|⟨x,t,rfl,rfl⟩
  ·exact wpAny_pyHash_int h
  ·exact wpAny_pyHash_str h
 eqBool:=fun hu hv h=>by
  rcases dj hu with ⟨i,t,rfl,rfl⟩|⟨x,t,rfl,rfl⟩
  ·rcases dj hv with ⟨j,u,rfl,rfl⟩|⟨y,u,rfl,rfl⟩
   ·rw[IC]at h;exact wpAny_eqBool_int h
   ·rw[IB]at h;exact SeqAt.EqAt.int_str i t y u _ _ _ _ h
  ·rcases dj hv with ⟨j,u,rfl,rfl⟩|⟨y,u,rfl,rfl⟩
   ·rw[Iz]at h;exact SeqAt.EqAt.str_int x t j u _ _ _ _ h
   ·rw[Iy]at h;exact wpAny_eqBool_str h
 «strs»:=fun k x t v h=>by
  rcases dj h with ⟨i,u,rfl,e⟩|⟨y,u,rfl,e⟩
  ·exact nomatch e
  ·injection e with e1 _
   subst e1;cases v<;>rfl
theorem zi(prog:Mw)(w:ME)(i:Int)(t:Tok):(bv prog w).is (.inl i) (.int i t)=true:=CG i t
theorem zh(prog:Mw)(w:ME)(x:Str)(t:Tok):(bv prog w).is (.inr x) (.str x t)=true:=CF x t
inductive V where
 | non|bl (b:Bool)|int (i:Int)|str (x:Str)|byt (b:Array UInt8)|flt (b:UInt64)|ref (a:Mg)|ty (n:String)
 deriving DecidableEq
def aI:V->Mh->Prop
 | .non,u=>u=Value.none
 | .bl b,u=>u=Value.bool b
 | .int i,u=>∃ t,u=Value.int i t
 | .str x,u=>∃ t,u=Value.str x t
 | .byt b,u=>∃ t,u=Value.bytes b t
 | .flt b,u=>∃ t,u=Value.float b t
 | .ref a,u=>u=Value.ref a
 | .ty n,u=>u=Value.type n
abbrev Vals:List V->List Mh->Prop:=OG aI
theorem Vals.length{xs:List V}{us:List Mh}(r:Vals xs us):xs.length=us.length:=N7 r
theorem Vals.get:∀ {xs:List V} {us:List Mh} {i:Nat} {x:V},Vals xs us->xs[i]?=some x->∃ u,us[i]?=some u/\aI x u
 | _,_,_,_,.nil,e=>by simp at e
 | _,_,0,_,.cons r _,e=>by simp at e;subst e;exact⟨_,rfl,r⟩
 | _,_,i+1,x,.cons _ t,e=>by
  obtain⟨u,h1,h2⟩:=Vals.get (i:=i) (x:=x) t (by simpa using e)
  exact⟨u,by simpa using h1,h2⟩
theorem Vals.set{x:V}{u:Mh}(r:aI x u):∀ {xs:List V} {us:List Mh} (i:Nat),Vals xs us->Vals (xs.set i x) (us.set i u)
 | _,_,_,.nil=>.nil
 | _,_,0,.cons _ t=>.cons r t
 | _,_,i+1,.cons q t=>.cons q (Vals.set r i t)
theorem Vals.append:∀ {xs ys:List V} {us ws:List Mh},Vals xs us->Vals ys ws->Vals (xs ++ ys) (us ++ ws)
 | _,_,_,_,.nil,s=>s
 | _,_,_,_,.cons r t,s=>.cons r (Vals.append t s)
theorem Vals.take:∀ {xs:List V} {us:List Mh} (n:Nat),Vals xs us->Vals (xs.take n) (us.take n)
 | _,_,0,_=>.nil
 | _,_,_+1,.nil=>.nil
 | _,_,n+1,.cons r t=>.cons r (Vals.take n t)
theorem Vals.drop:∀ {xs:List V} {us:List Mh} (n:Nat),Vals xs us->Vals (xs.drop n) (us.drop n)
 | _,_,0,r=>r
 | _,_,_+1,.nil=>.nil
 | _,_,n+1,.cons _ t=>Vals.drop n t
theorem Vals.none_of:∀ {xs:List V} {us:List Mh} {i:Nat},Vals xs us->xs[i]?=none->us[i]?=none:=fun {xs us i} r e=>by
 have h1:=r.length;have h2:xs.length<=i:=List.getElem?_eq_none_iff.mp e;exact List.getElem?_eq_none_iff.mpr (by walk_at "o")
def kM:Option V->Option Mh->Prop
 | some v,some u=>aI v u
 | none,none=>True
 | _,_=>False
def KV{κ:Type}:List (κ×V)->List (κ×Mh)->Prop:=OG fun (p:κ×V) (q:κ×Mh)=>p.1=q.1/\aI p.2 q.2
def kV:aJ->V
 | .inl i=>.int i
 | .inr x=>.str x
inductive HO where
 | lst (xs:List V)
 | tup (xs:List V)
 | dK (kvs:List (aJ×V))|dT (kvs:List (List aJ×V))
 | set (S:Int->Bool) (n:Nat)
 | ins (C dx:Mg) (fs:List (Str×V))
 | own (x:Mg)
 | xd (fs:List (Str×V))
 | met (f x:Mg)
 | rng (lo hi:Int)
 | frz (o:Obj) (u:HO)
 | tbl (ps:Array Mh)
 | ext (φ:MG->Prop)
abbrev Hp:=Mg->Option HO
def bE(H:Hp)(a:Mg)(o:HO):Hp:=fun b=>if b=a then some o else H b
theorem aZ{H:Hp}{a:Mg}{o:HO}:bE H a o a=some o:=by unfold bE;rw[if_pos rfl]
theorem aA{H:Hp}{a b:Mg}{o:HO}(h:b≠a):bE H a o b=H b:=by unfold bE;rw[if_neg h]
theorem J8{H:Hp}{a b:Mg}{o u:HO}(h:H a=some o)(h':H b=some u)(d:o≠u):a≠b:=by
 intro e;subst e;rw[h]at h';exact d (Option.some.inj h')
theorem b7{H:Hp}{a b:Mg}{o:HO}(h:H a=some o)(h':H b=none):a≠b:=by
 intro e;subst e;rw[h]at h';cases h'
section
variable(P:Mw)(w:ME)
def uz(h:MG)(a:Mg)(items:Array Mh):Prop:=∃ o,h.get? a=some o/\(o.cls=.type "tuple"/\o.dict=none)/\∃ n,o.data=.seq items n
def cg(H:Hp)(h:MG)(a:Mg):HO->Prop
 | .lst xs=>xs.length<=Mp/\∃ (its:List Mh) (n:Nat),Vals xs its/\h.get? a=some { cls:=.type "list",data:=.seq its.toArray n }
 | .tup xs=>xs.length<=Mp/\∃ its:List Mh,Vals xs its/\uz h a its.toArray
 | .dK kvs=>kvs.length<=Mp/\(a == M9)=false/\∃ vs,KV kvs vs/\h.DictOf (bv P w) a vs
 | .dT kvs=>kvs.length<=Mp/\(a == M9)=false/\∃ xs:List (List aJ×Mg×Mh),
   OG (fun (p:List aJ×V) (q:List aJ×Mg×Mh)=>p.1=q.1/\H q.2.1=some (.tup (p.1.map kV))/\aI p.2 q.2.2) kvs xs/\
   ∃ o es ep,h.get? a=some o/\o.ExactDict/\o.data=.dict es ep/\es.toList=xs.map (entryOfKey (Np (bv P w)))/\(xs.map (·.1)).Nodup
 | .set S n=>h.SetOf (intKind P w) a S n
 | .ins C dx fs=>H dx=some (.own a)/\fs.length<=1000/\dx≠a/\h.get? a=some (OU C dx)/\
   ∃ mA,h.Ns1 dx mA/\(∀ f,kM (fs.lookup f) (mA f))/\PySem.Within mA (fs.map (·.1))
 | .own _=>∃ o,h.get? a=some o
 | .xd fs=>∃ mA,h.Ns1 a mA/\∀ f,kM (fs.lookup f) (mA f)
 | .rng lo hi=>∃ t u v,h.get? a=some { cls:=.type "range",data:=.fields #[.int lo t,.int hi u,.int 1 v] }
 | .frz o u=>h.get? a=some o/\cg H h a u
 | .tbl ps=>h.get? a=some { cls:=.none,data:=.fields ps }
 | .met f x=>h.get? a=some (Qa (.ref f) (.ref x))
 | .ext φ=>φ h/\(∃ o,h.get? a=some o)/\∀ h1 h2:MG,φ h1->(∀ o,h1.get? a=some o->h2.get? a=some o)->φ h2
theorem uz.new(h:MG)(items:Array Mh):uz (h.push { cls:=.type "tuple",data:=.seq items }) h.objs.size items:=⟨_,Mq _ rfl,⟨rfl,rfl⟩,_,rfl⟩
theorem uz.tup{h:MG}{a:Mg}{items:Array Mh}(x:uz h a items):IsTup h a items:=let ⟨o,e,c,d⟩:=x;⟨o,e,c.1,d⟩
def mr(H:Hp)(h:MG):Prop:=∀ a o,H a=some o->cg P w H h a o
end
section
variable{P:Mw}{w:ME}{H H':Hp}{h h':MG}{a:Mg}{o:HO}
theorem cg.lt(x:cg P w H h a o):a < h.objs.size:=by
 cases o with
 | lst xs=>obtain⟨_,_,_,_,e⟩:=x;exact Mx e
 | tup xs=>obtain⟨_,_,_,p⟩:=x;exact p.tup.lt
 | dK kvs=>obtain⟨_,_,_,_,o,_,_,e,_⟩:=x;exact Mx e
 | dT kvs=>obtain⟨_,_,_,_,o,_,_,e,_⟩:=x;exact Mx e
 | set S n=>obtain⟨o,_,_,_,e,_⟩:=x;exact Mx e
 | ins C dx fs=>obtain⟨_,_,_,e,_⟩:=x;exact Mx e
 | own y=>obtain⟨_,e⟩:=x;exact Mx e
 | xd fs=>obtain⟨_,⟨_,_,_,e,_⟩,_⟩:=x;exact Mx e
 | rng lo hi=>obtain⟨_,_,_,e⟩:=x;exact Mx e
 | frz ob u=>obtain⟨e,_⟩:=x;exact Mx e
 | tbl ps=>exact Mx (show h.get? a=some _ from x)
 | met f y=>exact Mx (show h.get? a=some _ from x)
 | ext φ=>obtain⟨_,⟨_,e⟩,_⟩:=x;exact Mx e
theorem Paired.mapP{α β:Type}{F G:α->β->Prop}:∀ {l₁:List α} {l₂:List β},OG F l₁ l₂->(∀ a b,F a b->G a b)->OG G l₁ l₂
 | _,_,.nil,_=>.nil
 | _,_,.cons r t,f=>.cons (f _ _ r) (Paired.mapP t f)
theorem cg.stay(x:cg P w H h a o)(k:∀ b u,(b=a\/H b=some (.own a))->h.get? b=some u->h'.get? b=some u)
  (ho:∀ b,H b=some (.own a)->H' b=some (.own a)) (ht:∀ b xs,H b=some (.tup xs)->H' b=some (.tup xs)):cg P w H' h' a o:=by
 induction o with
 | lst xs=>obtain⟨z,its,n,r,e⟩:=x;exact⟨z,its,n,r,k _ _ (.inl rfl) e⟩
 | tup xs=>obtain⟨z,its,r,ob,e,c⟩:=x;exact⟨z,its,r,ob,k _ _ (.inl rfl) e,c⟩
 | dK kvs=>obtain⟨z,y,vs,r,ob,es,ep,e,c⟩:=x;exact⟨z,y,vs,r,ob,es,ep,k _ _ (.inl rfl) e,c⟩
 | dT kvs=>
  obtain⟨z,y,xs,r,ob,es,ep,e,c⟩:=x;exact⟨z,y,xs,Paired.mapP r fun p q z=>⟨z.1,ht _ _ z.2.1,z.2.2⟩,ob,es,ep,k _ _ (.inl rfl) e,c⟩
 | set S n=>obtain⟨ob,es,ep,t,e,c⟩:=x;exact⟨ob,es,ep,t,k _ _ (.inl rfl) e,c⟩
 | ins C dx fs=>
  obtain⟨d,z,ne,e,mA,⟨od,es,ep,e2,c⟩,r⟩:=x;exact⟨ho _ d,z,ne,k _ _ (.inl rfl) e,mA,⟨od,es,ep,k _ _ (.inr d) e2,c⟩,r⟩
 | own y=>obtain⟨ob,e⟩:=x;exact⟨ob,k _ _ (.inl rfl) e⟩
 | xd fs=>obtain⟨mA,⟨od,es,ep,e,c⟩,r⟩:=x;exact⟨mA,⟨od,es,ep,k _ _ (.inl rfl) e,c⟩,r⟩
 | rng lo hi=>obtain⟨t,u,v,e⟩:=x;exact⟨t,u,v,k _ _ (.inl rfl) e⟩
 | frz ob u ih=>obtain⟨e,q⟩:=x;exact⟨k _ _ (.inl rfl) e,ih q⟩
 | tbl ps=>
  have e:h.get? a=some { cls:=.none,data:=.fields ps }:=x;show h'.get? a=some { cls:=.none,data:=.fields ps }
  exact k a _ (.inl rfl) e
 | met f y=>
  have e:h.get? a=some (Qa (.ref f) (.ref y)):=x;show h'.get? a=some (Qa (.ref f) (.ref y))
  exact k a _ (.inl rfl) e
 | ext φ=>obtain⟨p,⟨o,e⟩,st⟩:=x;exact⟨st _ _ p fun o q=>k _ _ (.inl rfl) q,⟨o,k _ _ (.inl rfl) e⟩,st⟩
theorem mr.lt(x:mr P w H h)(e:H a=some o):a < h.objs.size:=(x a o e).lt
theorem mr.fresh(x:mr P w H h)(e:h.objs.size<=a):H a=none:=by
 cases q:H a with
 | none=>rfl
 | some u=>exact absurd (MN (x.lt q) e) (Nat.lt_irrefl _)
theorem mr.kept(x:mr P w H h)(k:∀ b u,h.get? b=some u->h'.get? b=some u):mr P w H h':=fun a o e=>
 (x a o e).stay (fun b u _ q=>k b u q) (fun _ q=>q) fun _ _ q=>q
theorem mr.laid(x:mr P w H h)(k:∀ b u,h.get? b=some u->h'.get? b=some u)(hp:h.objs.size<=a)(new:cg P w (bE H a o) h' a o):mr P w (bE H a o) h':=fun b u e=>by
 have hn:=x.fresh hp
 by_cases hb:b=a
 ·subst hb;rw[aZ]at e;cases e;exact new
 ·rw[aA hb]at e;exact (x b u e).stay (fun c v _ q=>k c v q) (fun c q=>by rw[aA (b7 q hn)];exact q) fun c xs q=>by rw[aA (b7 q hn)];exact q
end
def Rd(H:Hp)(a:Mg)(u:HO):Prop:=H a=some u\/∃ o,H a=some (.frz o u)
theorem Rd.of{H:Hp}{a:Mg}{u:HO}(h:H a=some u):Rd H a u:=.inl h
theorem Rd.ok{P:Mw}{w:ME}{H:Hp}{h:MG}{a:Mg}{u:HO}(r:Rd H a u)(x:mr P w H h):cg P w H h a u:=by
 rcases r with r|⟨o,r⟩
 ·exact x a u r
 ·obtain⟨_,q⟩:=x a _ r;exact q
def Fa:Option HO->Prop
 | some (.lst _)=>True
 | some (.dK _)=>True
 | some (.dT _)=>True
 | some (.set _ _)=>True
 | some (.ins _ _ _)=>True
 | some (.ext _)=>True
 | _=>False
section
variable{P:Mw}{w:ME}{H:Hp}{h h':MG}{x e:Mg}{o':HO}
theorem mr.write(ok:mr P w H h)(mu:Fa (H x))(he:e=x\/H e=some (.own x))(k:∀ b u,b≠e->h.get? b=some u->h'.get? b=some u)(heo:∃ u,h'.get? e=some u)
  (new:cg P w (bE H x o') h' x o'):mr P w (bE H x o') h':=fun b u q=>by
 have UM:∀ c y,H c=some (.own y)->c≠x:=fun c y r z=>by subst z;rw[r]at mu;exact mu
 have U1:∀ c xs,H c=some (.tup xs)->c≠x:=fun c xs r z=>by subst z;rw[r]at mu;exact mu
 by_cases hb:b=x
 ·subst hb;rw[aZ]at q;cases q;exact new
 ·rw[aA hb]at q
  by_cases hbe:b=e
  ·have q':H b=some (.own x):=by
    rcases he with z|z
    ·exact absurd (hbe.trans z) hb
    ·rw[hbe];exact z
   rw[q]at q';cases q';obtain⟨v,hv⟩:=heo;exact⟨v,by rw[hbe];exact hv⟩
  ·refine (ok b u q).stay (fun c v hc r=>k c v ?_ r) (fun c r=>by rw[aA (UM c b r)];exact r) fun c xs r=>by rw[aA (U1 c xs r)];exact r
   rcases hc with rfl|hc
   ·exact hbe
   ·rintro rfl
    rcases he with z|z
    ·exact UM c b hc z
    ·rw[hc]at z;cases z;exact hb rfl
end
structure Un(fs ex:List Mg)(H H':Hp)(h h':MG):Prop where
 keep:∀ b o,h.get? b=some o->H b=none->b∉fs->b∉ex->h'.get? b=some o
 slot:∀ b o,h.get? b=some o->H b=none->b∈fs->b∉ex->∃ sl,h'.get? b=some { o with slots:=sl }
 free:∀ b o,h.get? b=some o->H b=none->b∉ex->H' b=none
 there:∀ b o,h.get? b=some o->b∉ex->∃ o',h'.get? b=some o'
 tups:∀ b xs,H b=some (.tup xs)->H' b=some (.tup xs)
 frzs:∀ b o u,H b=some (.frz o u)->H' b=some (.frz o u)
 tbls:∀ b ps,H b=some (.tbl ps)->∃ more,H' b=some (.tbl (ps ++ more))
section
variable{fs fs' ex ex':List Mg}{H H1 H2:Hp}{h h1 h2 h':MG}{a x e:Mg}{o:HO}
theorem Un.any(u:Un fs ex H H1 h h1){b:Mg}{ob:Obj}(q:h.get? b=some ob)(n:H b=none)(hx:b∉ex):∃ sl,h1.get? b=some { ob with slots:=sl }:=by
 by_cases hb:b∈fs
 ·exact u.slot b ob q n hb hx
 ·exact⟨ob.slots,u.keep b ob q n hb hx⟩
theorem Un.trans(a:Un fs ex H H1 h h1)(b:Un fs ex H1 H2 h1 h2):Un fs ex H H2 h h2 where
 keep:=fun c ob q n hc hx=>b.keep c ob (a.keep c ob q n hc hx) (a.free c ob q n hx) hc hx
 slot:=fun c ob q n hc hx=>by
  obtain⟨sl,e1⟩:=a.slot c ob q n hc hx;obtain⟨sl',e2⟩:=b.slot c _ e1 (a.free c ob q n hx) hc hx;exact⟨sl',e2⟩
 free:=fun c ob q n hx=>by
  obtain⟨o',e1⟩:=a.there c ob q hx;exact b.free c o' e1 (a.free c ob q n hx) hx
 there:=fun c ob q hx=>by
  obtain⟨o',e1⟩:=a.there c ob q hx;exact b.there c o' e1 hx
 tups:=fun c xs q=>b.tups c xs (a.tups c xs q)
 frzs:=fun c ob xs q=>b.frzs c ob xs (a.frzs c ob xs q)
 tbls:=fun c ps q=>by
  obtain⟨m1,e1⟩:=a.tbls c ps q;obtain⟨m2,e2⟩:=b.tbls c _ e1;exact⟨m1 ++ m2,by rw[e2,Array.append_assoc]⟩
theorem Un.kept(k:∀ b u,h.get? b=some u->h'.get? b=some u):Un fs ex H H h h':=
 ⟨fun b ob q _ _ _=>k b ob q,fun b ob q _ _ _=>⟨ob.slots,k b ob q⟩,fun _ _ _ n _=>n,fun b ob q _=>⟨ob,k b ob q⟩,fun _ _ q=>q,fun _ _ _ q=>q,fun _ ps q=>⟨#[],by rw[q];simp⟩⟩
theorem Un.refl:Un fs ex H H h h:=Un.kept fun _ _ q=>q
theorem Un.laid(k:∀ b u,h.get? b=some u->h'.get? b=some u)(hp:h.objs.size<=a)(hn:H a=none):Un fs ex H (bE H a o) h h' where
 keep:=fun b u q _ _ _=>k b u q
 slot:=fun b u q _ _ _=>⟨u.slots,k b u q⟩
 free:=fun b u q n _=>by rw[aA (MO (MN (Mx q) hp))];exact n
 there:=fun b u q _=>⟨u,k b u q⟩
 tups:=fun b xs q=>by rw[aA (b7 q hn)];exact q
 frzs:=fun b u xs q=>by rw[aA (b7 q hn)];exact q
 tbls:=fun b ps q=>⟨#[],by rw[aA (b7 q hn),q];simp⟩
theorem Un.write(mu:Fa (H x))(he:e=x\/H e=some (.own x))(k:∀ b u,b≠e->h.get? b=some u->h'.get? b=some u)(heo:∃ u,h'.get? e=some u):Un fs ex H (bE H x o) h h':=by
 have hx:∀ b,H b=none->b≠x:=fun b n z=>by subst z;rw[n]at mu;exact mu
 have hb:∀ b,H b=none->b≠e:=fun b n z=>by
  subst z;rcases he with r|r
  ·exact hx b n r
  ·rw[n]at r;cases r
 have hm:∀ b u,H b=some u->¬ Fa (some u)->b≠x:=fun b u q nm z=>by subst z;rw[q]at mu;exact nm mu
 refine⟨fun b u q n _ _=>k b u (hb b n) q,fun b u q n _ _=>⟨u.slots,k b u (hb b n) q⟩,fun b u q n _=>by rw[aA (hx b n)];exact n,fun b u q _=>?_,
  fun b xs q=>by rw[aA (hm b _ q fun z=>z)];exact q,fun b u xs q=>by rw[aA (hm b _ q fun z=>z)];exact q,fun b ps q=>⟨#[],by rw[aA (hm b _ q fun z=>z),q];simp⟩⟩
 by_cases hbe:b=e
 ·subst hbe;exact heo
 ·exact⟨u,k b u hbe q⟩
theorem Un.mono(u:Un fs ex H H1 h h1)(hs:∀ b∈fs,b∈fs')(hx:∀ b∈ex,b∈ex'):Un fs' ex' H H1 h h1:=
 ⟨fun b ob q n hb he=>u.keep b ob q n (fun z=>hb (hs b z)) fun z=>he (hx b z),fun _ _ q n _ he=>u.any q n fun z=>he (hx _ z),fun b ob q n he=>u.free b ob q n fun z=>he (hx b z),fun b ob q he=>u.there b ob q fun z=>he (hx b z),u.tups,u.frzs,u.tbls⟩
end
def KR(h:MG)(H:Hp):List Mg:=(List.range h.objs.size).filter fun a=>(H a).isSome
def xX(h:MG)(H:Hp):MG:=PySem.W.hideAll h (KR h H)
theorem CL(h:MG)(H:Hp):(xX h H).objs.size=h.objs.size:=PySem.W.hideAll_size _ _
theorem EA{h:MG}{H:Hp}{b:Mg}{o:Obj}(e:h.get? b=some o)(n:H b=none):(xX h H).get? b=some o:=
 PySem.W.hideAll_get _ e fun hm=>by
  have q:(H b).isSome=true:=(mem_filter.mp hm).2;rw[n]at q;simp at q
theorem F2{h:MG}{H:Hp}{b:Mg}{o:Obj}(e:(xX h H).get? b=some o):h.get? b=some o/\H b=none:=by
 have e':h.get? b=some o:=PySem.W.of_hideAll (KR h H) e;refine⟨e',?_⟩;cases q:H b with
 | none=>rfl
 | some x=>
  have hm:b∈KR h H:=mem_filter.mpr ⟨mem_range.mpr (Mx e'),by simp[q]⟩
  have z:(xX h H).get? b=none:=PySem.W.hideAll_none (KR h H) hm;rw[z]at e;cases e
def GH(g h:MG)(L:Mg):List (Mg×Obj):=(List.range h.objs.size).filterMap fun a=>if a=L\/(g.get? a).isSome=true then none else (h.get? a).map fun o=>(a,o)
def mB(g h:MG)(L d:Mg):List (Mg×Obj):=(GH g h L).filter fun p=>decide (p.1≠d)
structure Mod(K:PySem.W.Frag)(mg:Str->Option Mh)(base:MG):Prop where
 kin:K.In base
 glob:base.Ns My mg
 blt:∃ mb,base.Ns QR mb/\∀ x:Str,x≠"__name__"->mb x=Nl x
 nolimit:base.NoLimit
structure Cx where
 prog:Mw
 w:ME
 K:PySem.W.Frag
 mg:Str->Option Mh
 base:MG
 A:MA
 N:List Str
 s₀:Mi
 H₀:Hp
 env:Env
 outer:List Env
 stack:List Env
 ex:List Mg
 fn:Str->Bool
 calm:Bool
 pn:List (Mg×Obj)
 xe:Mh->Mi->Prop
def C_(l:List Env):List Mg:=l.filterMap (·.frame)
abbrev Cx.fs(X:Cx):List Mg:=C_ X.outer
def Ju(sc:Oo)(x:Str):Prop:=sc.names.lookup x=some .local\/sc.names.lookup x=some .cell\/sc.names.lookup x=some .free
def Jm(sc:Oo)(x:Str):Prop:=sc.names.lookup x=some .local\/sc.names.lookup x=some .cell
def LL(env:Env)(h:MG)(m:Str->Option Mh)(x:Str)(u:Mh):Prop:=
 (env.kindOf x=some .local/\m x=some u)\/((env.kindOf x=some .cell\/env.kindOf x=some .free)/\∃ c,env.cells.lookup x=some c/\h.IsCell c (some u))
structure Cx.Ok(X:Cx):Prop where
 mod:Mod X.K X.mg X.base
 kind:X.env.scope.kind=.function
 glob:X.env.globals=My
 blt:X.env.builtins=QR
 above:X.s₀.heap.objs.size<=X.env.locals
 inj:∀ x y c,X.env.cells.lookup x=some c->X.env.cells.lookup y=some c->x=y
 has:∀ x,(X.env.kindOf x=some .cell\/X.env.kindOf x=some .free)->∃ c,X.env.cells.lookup x=some c
 cab:∀ x c,X.fn x=true->X.env.cells.lookup x=some c->X.s₀.heap.objs.size<=c
 hd:X.calm=true->X.A.handled=none
 frames:X.A.frames=some X.stack
 stk:X.stack=X.outer\/(X.stack=X.env::X.outer/\X.env.frame=some X.env.locals)
 exf:∀ b∈X.ex,b≠X.env.locals/\∀ x c,X.env.cells.lookup x=some c->c≠b
 bs:∀ b o,X.base.get? b=some o->X.s₀.heap.get? b=some o/\X.H₀ b=none
 bsz:X.base.objs.size<=X.s₀.heap.objs.size
 noex:∀ b o,X.base.get? b=some o->b∉X.ex
 exfs:∀ b∈X.ex,b∉X.fs
 funs:X.s₀.heap.FunFrames X.base X.outer
 frf:∀ b∈X.fs,X.H₀ b=none
structure Inv(X:Cx)(pins:List (Mg×Obj))(σ:List (Option V))(H:Hp)(s:Mi):Prop where
 ok:X.Ok
 os:s.os=X.s₀.os
 bare:OO s.gens
 base:Un X.fs X.ex X.H₀ H X.s₀.heap s.heap
 loc:∃ m,s.heap.Ns X.env.locals m/\∀ (i:Nat) (x:Str) (v:V),X.N[i]?=some x->σ[i]?=some (some v)->Ju X.env.scope x->∃ u,aI v u/\LL X.env s.heap m x u
 cell:∀ x c,X.env.cells.lookup x=some c->∃ v,s.heap.IsCell c v
 free:H X.env.locals=none
 freeC:∀ x c,X.env.cells.lookup x=some c->H c=none
 pin:∀ p∈X.pn ++ pins,s.heap.get? p.1=some p.2/\H p.1=none/\p.1≠X.env.locals/\p.1∉X.fs/\∀ v,p.2.data≠.cell v
 hok:mr X.prog X.w H s.heap
 len:σ.length=X.N.length
section
variable{X:Cx}{pins:List (Mg×Obj)}{σ:List (Option V)}{H H':Hp}{s:Mi}{h':MG}
theorem Cx.Ok.nofr(ok:X.Ok){b:Mg}{o:Obj}(e:X.base.get? b=some o):b∉X.fs:=fun hb=>by
 have:=(ok.funs.mem hb).1;rw[e]at this;cases this
theorem Inv.bs(I:Inv X pins σ H s):∀ b o,X.base.get? b=some o->s.heap.get? b=some o/\H b=none:=fun b o e=>
 ⟨I.base.keep b o (I.ok.bs b o e).1 (I.ok.bs b o e).2 (I.ok.nofr e) (I.ok.noex b o e),I.base.free b o (I.ok.bs b o e).1 (I.ok.bs b o e).2 (I.ok.noex b o e)⟩
theorem Inv.bk(I:Inv X pins σ H s):∀ b o,X.base.get? b=some o->s.heap.get? b=some o:=fun b o e=>(I.bs b o e).1
theorem Inv.mod(I:Inv X pins σ H s):Mod X.K X.mg X.base:=I.ok.mod
theorem Inv.kIn(I:Inv X pins σ H s):X.K.In s.heap:=I.ok.mod.kin.keeps I.bk
theorem Inv.nolimit(I:Inv X pins σ H s):s.heap.NoLimit:=I.ok.mod.nolimit.keeps I.bk
theorem Inv.fr(I:Inv X pins σ H s):∃ m,Fr X.base X.env.locals s.heap m:=
 let ⟨m,hn,_⟩:=I.loc
 ⟨m,hn,I.bk,le_trans I.ok.bsz I.ok.above⟩
theorem Inv.lt(I:Inv X pins σ H s):X.env.locals < s.heap.objs.size:=let ⟨_,hn,_⟩:=I.loc;hn.lt
theorem Inv.sz(I:Inv X pins σ H s):X.s₀.heap.objs.size<=s.heap.objs.size:=le_trans I.ok.above (le_of_lt I.lt)
theorem Inv.nofs(I:Inv X pins σ H s){a:Mg}(h:s.heap.objs.size<=a):a∉X.fs:=fun hb=>by
 obtain⟨_,o,ho,_⟩:=I.ok.funs.mem hb;exact absurd (MN (Mx ho) (le_trans I.sz h)) (Nat.lt_irrefl _)
theorem Inv.cne(I:Inv X pins σ H s):∀ x c,X.env.cells.lookup x=some c->c≠X.env.locals:=fun x c e z=>by
 obtain⟨v,o,ho,hd⟩:=I.cell x c e;obtain⟨m,⟨o',es,ep,ho',hd',_⟩,_⟩:=I.loc;rw[z,ho']at ho;cases ho;rw[hd']at hd;cases hd
theorem Inv.funs(I:Inv X pins σ H s):s.heap.FunFrames X.base X.outer:=by
 have all:∀ (l:List Env),(∀ b∈C_ l,b∈X.fs)->X.s₀.heap.FunFrames X.base l->s.heap.FunFrames X.base l:=by
  intro l
  induction l with
  | nil=>intro _ _;trivial
  | cons env r ih=>
   intro hs hl;obtain⟨hk,⟨L,o,hf,hn,ho,hd⟩,hr⟩:=hl;have hL:L∈X.fs:=hs L (by unfold C_;rw[List.filterMap_cons,hf];exact MB)
   obtain⟨sl,e⟩:=I.base.slot L o ho (I.ok.frf L hL) hL fun z=>I.ok.exfs L z hL;exact⟨hk,⟨L,_,hf,hn,e,hd⟩,ih (fun b hb=>hs b (by unfold C_;rw[List.filterMap_cons,hf];exact Mz _ hb)) hr⟩
 exact all X.outer (fun _ hb=>hb) I.ok.funs
theorem Inv.stack(I:Inv X pins σ H s):s.heap.FunFrames X.base X.stack:=by
 rcases I.ok.stk with e|⟨e,hf⟩
 ·rw[e];exact I.funs
 ·rw[e];obtain⟨m,hn,_⟩:=I.loc;refine .cons (by rw[I.ok.kind];decide) hf hn ?_ I.funs
  exact Heap.get?_none_of_le (le_trans I.ok.bsz I.ok.above)
theorem Inv.stkSub(I:Inv X pins σ H s):∀ b∈C_ X.stack,b∈X.env.locals::X.fs:=fun b hb=>by
 rcases I.ok.stk with e|⟨e,hf⟩
 ·rw[e]at hb;exact Mz _ hb
 ·rw[e]at hb;unfold C_ at hb;rw[List.filterMap_cons,hf]at hb;exact hb
theorem Inv.stkFree(I:Inv X pins σ H s):∀ b∈C_ X.stack,H b=none:=fun b hb=>by
 rcases MV.mp (I.stkSub b hb)with e|hb
 ·rw[e];exact I.free
 ·obtain⟨_,o,ho,_⟩:=I.ok.funs.mem hb;exact I.base.free b o ho (I.ok.frf b hb) fun z=>I.ok.exfs b z hb
theorem Inv.step{g':Array GenState}{t':Nat}{d':Drawn}{ch:List Mg}(I:Inv X pins σ H s)
  (hch:∀ b∈ch,(b∈X.ex\/X.s₀.heap.objs.size<=b)/\b≠X.env.locals/\(∀ x c,X.env.cells.lookup x=some c->c≠b)/\∀ p∈X.pn ++ pins,p.1≠b)
  (keep:∀ b o,b≠X.env.locals->b∉X.fs->b∉ch->s.heap.get? b=some o->H b=none->h'.get? b=some o)
  (slot:∀ b o,b≠X.env.locals->b∈X.fs->b∉ch->s.heap.get? b=some o->H b=none->∃ sl,h'.get? b=some { o with slots:=sl }) (free:∀ b o,b∉ch->s.heap.get? b=some o->H b=none->H' b=none)
  (there:∀ b o,b∉ch->s.heap.get? b=some o->∃ o',h'.get? b=some o')
  (tups:∀ b xs,H b=some (.tup xs)->H' b=some (.tup xs)) (frzs:∀ b o u,H b=some (.frz o u)->H' b=some (.frz o u)) (tbls:∀ b ps,H b=some (.tbl ps)->∃ more,H' b=some (.tbl (ps ++ more)))
  (ns:∀ m,s.heap.Ns X.env.locals m->h'.Ns X.env.locals m) (hok:mr X.prog X.w H' h') (hg:OO g'):
  Inv X pins σ H' { s with heap:=h',gens:=g',drawn:=d',toks:=t' }:=by
 have neL:∀ b o,X.s₀.heap.get? b=some o->b≠X.env.locals:=fun b o e=>MO (MN (Mx e) I.ok.above);have neC:∀ b o,X.s₀.heap.get? b=some o->b∉X.ex->b∉ch:=fun b o e hx hb=>by
  rcases (hch b hb).1 with z|z
  ·exact hx z
  ·exact absurd (MN (Mx e) z) (Nat.lt_irrefl _)
 have cellK:∀ x c,X.env.cells.lookup x=some c->∀ v,s.heap.IsCell c v->h'.IsCell c v:=fun x c e v zz=>by
  obtain⟨o,ho,hd⟩:=zz;have nch:c∉ch:=fun z=>(hch c z).2.2.1 x c e rfl
  by_cases hc:c∈X.fs
  ·obtain⟨sl,q⟩:=slot c o (I.cne x c e) hc nch ho (I.freeC x c e);exact⟨_,q,hd⟩
  ·exact⟨o,keep c o (I.cne x c e) hc nch ho (I.freeC x c e),hd⟩
 refine⟨I.ok,I.os,hg,⟨fun b o e n hb hx=>?_,fun b o e n hb hx=>?_,fun b o e n hx=>?_,fun b o e hx=>?_,fun b xs e=>tups b xs (I.base.tups b xs e),fun b o xs e=>frzs b o xs (I.base.frzs b o xs e),fun b ps e=>?_⟩,?_,fun x c e=>?_,?_,fun x c e=>?_,fun p hp=>?_,hok,I.len⟩
 ·exact keep b o (neL b o e) hb (neC b o e hx) (I.base.keep b o e n hb hx) (I.base.free b o e n hx)
 ·obtain⟨sl,e1⟩:=I.base.slot b o e n hb hx;obtain⟨sl',e2⟩:=slot b _ (neL b o e) hb (neC b o e hx) e1 (I.base.free b o e n hx);exact⟨sl',e2⟩
 ·obtain⟨o',e1⟩:=I.base.there b o e hx;exact free b o' (neC b o e hx) e1 (I.base.free b o e n hx)
 ·obtain⟨o',e1⟩:=I.base.there b o e hx;exact there b o' (neC b o e hx) e1
 ·obtain⟨m1,e1⟩:=I.base.tbls b ps e;obtain⟨m2,e2⟩:=tbls b _ e1;exact⟨m1 ++ m2,by rw[e2,Array.append_assoc]⟩
 ·obtain⟨m,hn,hl⟩:=I.loc;refine⟨m,ns m hn,fun i x v e1 e2 e3=>?_⟩;obtain⟨u,r,l⟩:=hl i x v e1 e2 e3;refine⟨u,r,?_⟩;rcases l with l|⟨k,c,e,z⟩
  ·exact .inl l
  ·exact .inr ⟨k,c,e,cellK x c e _ z⟩
 ·obtain⟨v,z⟩:=I.cell x c e;exact⟨v,cellK x c e v z⟩
 ·obtain⟨m,⟨o,_,_,ho,_⟩,_⟩:=I.loc;exact free _ o (fun z=>(hch _ z).2.1 rfl) ho I.free
 ·obtain⟨v,o,ho,hd⟩:=I.cell x c e;exact free c o (fun z=>(hch c z).2.2.1 x c e rfl) ho (I.freeC x c e)
 ·obtain⟨e,n,ne,nf,d⟩:=I.pin p hp;have nch:p.1∉ch:=fun z=>(hch p.1 z).2.2.2 p hp rfl;exact⟨keep p.1 p.2 ne nf nch e n,free p.1 p.2 nch e n,ne,nf,d⟩
theorem Inv.un{t':Nat}(I:Inv X pins σ H s)(u:Un X.fs [] H H' s.heap h')(hok:mr X.prog X.w H' h'):Inv X pins σ H' { s with heap:=h',toks:=t' }:=by
 obtain⟨m,⟨o,es,ep,ho,r⟩,_⟩:=id I.loc;obtain⟨sl,hL⟩:=u.any ho I.free (by simp)
 exact I.step (g':=s.gens) (d':=s.drawn) (ch:=[]) (fun _ z=>nomatch z) (fun b o _ hb _ e n=>u.keep b o e n hb (by simp)) (fun b o _ hb _ e n=>u.slot b o e n hb (by simp)) (fun b o _ e n=>u.free b o e n (by simp)) (fun b o _ e=>u.there b o e (by simp)) u.tups u.frzs u.tbls (fun m' hm=>by
  obtain⟨o',es',ep',ho',r'⟩:=hm;rw[ho]at ho';cases ho';exact⟨_,es',ep',hL,r'⟩) hok I.bare
theorem Inv.call{g':Array GenState}{t':Nat}{d':Drawn}{ch:List Mg}(I:Inv X pins σ H s)(u:Un (C_ X.stack) ch H H' s.heap h')(hok:mr X.prog X.w H' h')(hg:OO g')
  (hch:∀ b∈ch,(b∈X.ex\/X.s₀.heap.objs.size<=b)/\b≠X.env.locals/\(∀ x c,X.env.cells.lookup x=some c->c≠b)/\∀ p∈X.pn ++ pins,p.1≠b):
  Inv X pins σ H' { s with heap:=h',gens:=g',drawn:=d',toks:=t' }:=by
 obtain⟨m,⟨o,es,ep,ho,r⟩,_⟩:=id I.loc;obtain⟨sl,hL⟩:=u.any ho I.free fun z=>(hch _ z).2.1 rfl;exact I.step (ch:=ch) hch (fun b o hL hb hc e n=>u.keep b o e n (fun z=>(MV.mp (I.stkSub b z)).elim hL hb) hc) (fun b o _ _ hc e n=>u.any e n hc) (fun b o hc e n=>u.free b o e n hc) (fun b o hc e=>u.there b o e hc) u.tups u.frzs u.tbls (fun m' hm=>by
  obtain⟨o',es',ep',ho',r'⟩:=hm;rw[ho]at ho';cases ho';exact⟨_,es',ep',hL,r'⟩) hok hg
theorem Inv.turned{t':Nat}{it:Mg}(I:Inv X pins σ H s)(k:∀ b o,b≠it->s.heap.get? b=some o->h'.get? b=some o)(hn:H it=none)(hL:it≠X.env.locals)
  (h1:it∈X.ex\/X.s₀.heap.objs.size<=it) (h2:∀ x c,X.env.cells.lookup x=some c->c≠it) (h3:∀ p∈X.pn ++ pins,p.1≠it):Inv X pins σ H { s with heap:=h',toks:=t' }:=by
 have nit:∀ b u,H b=some u->b≠it:=fun b u e z=>by rw[z,hn]at e;cases e
 refine I.step (g':=s.gens) (d':=s.drawn) (ch:=[it]) (fun b hb=>?_) (fun b o _ _ hc e _=>k b o (fun z=>hc (by simp[z])) e) (fun b o _ _ hc e _=>⟨o.slots,k b o (fun z=>hc (by simp[z])) e⟩) (fun _ _ _ _ n=>n)
  (fun b o hc e=>⟨o,k b o (fun z=>hc (by simp[z])) e⟩) (fun _ _ e=>e) (fun _ _ _ e=>e) (fun b ps e=>⟨#[],by rw[e];simp⟩) (fun m hm=>?_) (fun b u e=>?_) I.bare
 ·have e:b=it:=by simpa using hb
  subst e;exact⟨h1,hL,h2,h3⟩
 ·obtain⟨o,es,ep,ho,r⟩:=hm;exact⟨o,es,ep,k _ o (Ne.symm hL) ho,r⟩
 ·refine (I.hok b u e).stay (fun c v hc q=>k c v ?_ q) (fun _ q=>q) fun _ _ q=>q;rcases hc with z|z
  ·rw[z];exact nit b u e
  ·exact nit c _ z
theorem Inv.tok(I:Inv X pins σ H s)(t:Nat):Inv X pins σ H { s with toks:=t }:=I.un (h':=s.heap) (t':=t) Un.refl I.hok
theorem Inv.kept{t':Nat}(I:Inv X pins σ H s)(k:∀ b u,s.heap.get? b=some u->h'.get? b=some u):Inv X pins σ H { s with heap:=h',toks:=t' }:=I.un (Un.kept k) (I.hok.kept k)
theorem Inv.laid{a:Mg}{o:HO}{t':Nat}(I:Inv X pins σ H s)(k:∀ b u,s.heap.get? b=some u->h'.get? b=some u)(hp:s.heap.objs.size<=a)(new:cg X.prog X.w (bE H a o) h' a o):
  Inv X pins σ (bE H a o) { s with heap:=h',toks:=t' }:=I.un (Un.laid k hp (I.hok.fresh hp)) (I.hok.laid k hp new)
theorem Inv.write{x e:Mg}{o:HO}{t':Nat}(I:Inv X pins σ H s)(mu:Fa (H x))(he:e=x\/H e=some (.own x))(k:∀ b u,b≠e->s.heap.get? b=some u->h'.get? b=some u)(heo:∃ u,h'.get? e=some u)
  (new:cg X.prog X.w (bE H x o) h' x o):Inv X pins σ (bE H x o) { s with heap:=h',toks:=t' }:=I.un (Un.write mu he k heo) (I.hok.write mu he k heo new)
theorem Inv.pins_of{SG:List (Mg×Obj)}(I:Inv X pins σ H s)(h:∀ p∈SG,s.heap.get? p.1=some p.2/\H p.1=none/\p.1≠X.env.locals/\p.1∉X.fs/\∀ v,p.2.data≠.cell v):Inv X SG σ H s:=
 ⟨I.ok,I.os,I.bare,I.base,I.loc,I.cell,I.free,I.freeC,fun p hp=>(OE.mp hp).elim (fun z=>I.pin p (List.mem_append_left _ z)) (h p),I.hok,I.len⟩
theorem zb{N:List Str}(hN:N.Nodup){i j:Nat}{x:Str}(a:N[i]?=some x)(b:N[j]?=some x):i=j:=by
 obtain⟨h1,e1⟩:=List.getElem?_eq_some_iff.mp a;obtain⟨h2,e2⟩:=List.getElem?_eq_some_iff.mp b;exact (List.getElem_inj hN).mp (e1.trans e2.symm)
theorem v0{M:Model}{A:MA}{E:Mh->Mi->Prop}{i:Nat}{x:Str}{v:V}{u:Mh}{Q:Unit->Mi->Prop}(I:Inv X pins σ H s)(hN:X.N.Nodup)(hi:X.N[i]?=some x)(hx:Jm X.env.scope x)(r:aI v u)
  (h:∀ s',Inv X pins (σ.set i (some v)) H s'->(∃ a,NC a s.heap s'.heap/\(a=X.env.locals\/X.env.cells.lookup x=some a))->Q () s') (hf:X.fn x=true\/X.env.scope.names.lookup x=some .local:=by first|exact .inl rfl|exact .inr rfl|assumption):Mo M A (storeName X.env x u) Q E s:=by
 obtain⟨m,hn,hl⟩:=id I.loc;have U7:(X.env.scope.kind == .class || (X.env.scope.kind == .module && X.env.locals != X.env.globals))=false:=by rw[I.ok.kind];rfl
 have hiσ:i < σ.length:=by rw[I.len];exact (List.getElem?_eq_some_iff.mp hi).1
 have cne:=I.cne;have tracked:∀ {a:Mg} {h':MG},(∃ o,s.heap.get? a=some o/\H a=none)->NC a s.heap h'->mr X.prog X.w H h':=fun {a h'} ha hs b ob e=>by
  obtain⟨_,_,T6⟩:=ha;refine (I.hok b ob e).stay (fun c w' hc q=>(hs.2 c ?_).trans q) (fun _ q=>q) fun _ _ q=>q
  rintro rfl
  rcases hc with rfl|hc
  ·rw[T6]at e;cases e
  ·rw[T6]at hc;cases hc
 rcases hx with hk|hk
 ·refine wpAny_storeName_local hk hn (fun h' hn' hs=>?_) U7;obtain⟨oL,_,_,hoL,_⟩:=id hn;refine h _ ⟨I.ok,I.os,I.bare,⟨fun b o e n hb hx=>?_,fun b o e n hb hx=>?_,I.base.free,fun b o e hx=>?_,I.base.tups,I.base.frzs,I.base.tbls⟩,⟨_,hn',fun j y v' e1 e2 e3=>?_⟩,fun y c e=>?_,I.free,I.freeC,fun p hp=>?_,tracked ⟨oL,hoL,I.free⟩ hs,by simpa using I.len⟩ ⟨_,hs,.inl rfl⟩
  ·exact (hs.2 b (MO (MN (Mx e) I.ok.above))).trans (I.base.keep b o e n hb hx)
  ·obtain⟨sl,e1⟩:=I.base.slot b o e n hb hx;exact⟨sl,(hs.2 b (MO (MN (Mx e) I.ok.above))).trans e1⟩
  ·obtain⟨o',e1⟩:=I.base.there b o e hx;exact⟨o',(hs.2 b (MO (MN (Mx e) I.ok.above))).trans e1⟩
  ·by_cases hj:j=i
   ·subst hj;rw[hi]at e1;cases e1;rw[List.getElem?_set_self hiσ]at e2;cases e2;exact⟨u,r,.inl ⟨hk,by simp⟩⟩
   ·rw[NP (Ne.symm hj)]at e2;obtain⟨u',r',q⟩:=hl j y v' e1 e2 e3;refine⟨u',r',?_⟩;rcases q with ⟨k,e⟩|⟨k,c,e,z⟩
    ·refine .inl ⟨k,?_⟩;have:y≠x:=fun e=>hj (zb hN e1 (e ▸ hi));simp[this,e]
    ·exact .inr ⟨k,c,e,z.sameBut hs (cne y c e)⟩
  ·obtain⟨w',z⟩:=I.cell y c e;exact⟨w',z.sameBut hs (cne y c e)⟩
  ·obtain⟨e,n,ne,nf,d⟩:=I.pin p hp;exact⟨(hs.2 p.1 ne).trans e,n,ne,nf,d⟩
 ·have hfn:X.fn x=true:=by
   rcases hf with z|z
   ·exact z
   ·rw[z]at hk;cases hk
  obtain⟨c,hc⟩:=I.ok.has x (.inl hk);obtain⟨w',z⟩:=I.cell x c hc;refine wpAny_storeName_cell I.ok.kind hk hc z (fun h' hc' hs=>?_);obtain⟨oc,hoc,hocd⟩:=id z;refine h { s with heap:=h' } ⟨I.ok,I.os,I.bare,⟨fun b o e n hb hx=>?_,fun b o e n hb hx=>?_,I.base.free,fun b o e hx=>?_,I.base.tups,I.base.frzs,I.base.tbls⟩,⟨m,hn.sameBut hs (Ne.symm (cne x c hc)),fun j y v' e1 e2 e3=>?_⟩,fun y c' e=>?_,I.free,I.freeC,fun p hp=>?_,tracked ⟨oc,hoc,I.freeC x c hc⟩ hs,by simpa using I.len⟩ ⟨c,hs,.inr hc⟩
  ·exact (hs.2 b (MO (MN (Mx e) (I.ok.cab x c hfn hc)))).trans (I.base.keep b o e n hb hx)
  ·obtain⟨sl,e1⟩:=I.base.slot b o e n hb hx;exact⟨sl,(hs.2 b (MO (MN (Mx e) (I.ok.cab x c hfn hc)))).trans e1⟩
  ·obtain⟨o',e1⟩:=I.base.there b o e hx;exact⟨o',(hs.2 b (MO (MN (Mx e) (I.ok.cab x c hfn hc)))).trans e1⟩
  ·by_cases hj:j=i
   ·subst hj;rw[hi]at e1;cases e1;rw[List.getElem?_set_self hiσ]at e2;cases e2;exact⟨u,r,.inr ⟨.inl hk,c,hc,hc'⟩⟩
   ·rw[NP (Ne.symm hj)]at e2;obtain⟨u',r',q⟩:=hl j y v' e1 e2 e3;refine⟨u',r',?_⟩;rcases q with q|⟨k,c',e,z'⟩
    ·exact .inl q
    ·refine .inr ⟨k,c',e,z'.sameBut hs ?_⟩
     rintro rfl
     exact hj (zb hN e1 (I.ok.inj _ _ _ e hc ▸ hi))
  ·by_cases hcc:c'=c
   ·subst hcc;exact⟨_,hc'⟩
   ·obtain⟨w2,z2⟩:=I.cell y c' e;exact⟨w2,z2.sameBut hs hcc⟩
  ·obtain⟨e,n,ne,nf,d⟩:=I.pin p hp;refine⟨(hs.2 p.1 ?_).trans e,n,ne,nf,d⟩;intro q;rw[q,hoc]at e;have q':oc=p.2:=Option.some.inj e;exact d w' (by rw[<- q'];exact hocd)
theorem yH{M:Model}{A:MA}{E:Mh->Mi->Prop}{i:Nat}{x:Str}{v:V}{u:Mh}{Q:Unit->Mi->Prop}(I:Inv X pins σ H s)(hN:X.N.Nodup)(hi:X.N[i]?=some x)(hx:Jm X.env.scope x)(r:aI v u)
  (h:∀ s',Inv X pins (σ.set i (some v)) H s'->Q () s') (hf:X.fn x=true\/X.env.scope.names.lookup x=some .local:=by first|exact .inl rfl|exact .inr rfl|assumption):Mo M A (storeName X.env x u) Q E s:=
 v0 I hN hi hx r (fun s' I' _=>h s' I') hf
theorem Inv.call'{s':Mi}{ch:List Mg}(I:Inv X pins σ H s)(ho:s'.os=s.os)(u:Un (C_ X.stack) ch H H' s.heap s'.heap)(hok:mr X.prog X.w H' s'.heap)(hg:OO s'.gens)
  (hch:∀ b∈ch,(b∈X.ex\/X.s₀.heap.objs.size<=b)/\b≠X.env.locals/\(∀ x c,X.env.cells.lookup x=some c->c≠b)/\∀ p∈X.pn ++ pins,p.1≠b):Inv X pins σ H' s':=by
 obtain⟨h',g',d',t',o'⟩:=s';have e:o'=s.os:=ho;subst e;exact I.call (g':=g') (t':=t') (d':=d') u hok hg hch
end
abbrev XK:=Mh->Option Mg->Hp->Prop
abbrev St:=List (Option V)
abbrev VK:=V->Hp->Prop
abbrev TE:=St->Hp->VK->Prop
abbrev TT:=St->Hp->(Bool->Hp->Prop)->Prop
abbrev TA:=St->Hp->(List V->Hp->Prop)->Prop
structure Ends where
 nx:St->Hp->Prop
 rt:VK
 bk:St->Hp->Prop:=fun _ _=>False
 ct:St->Hp->Prop:=fun _ _=>False
abbrev TS:=Ends->St->Hp->Prop
def EP(X:Cx)(pins:List (Mg×Obj))(σ:St)(Q:VK)(u:Mh)(s':Mi):Prop:=∃ v H',Inv X pins σ H' s'/\aI v u/\Q v H'
def TP(X:Cx)(pins:List (Mg×Obj))(σ:St)(Q:Bool->Hp->Prop)(b:Bool)(s':Mi):Prop:=∃ H',Inv X pins σ H' s'/\Q b H'
def AP(X:Cx)(pins:List (Mg×Obj))(σ:St)(Q:List V->Hp->Prop)(us:List Mh)(s':Mi):Prop:=∃ vs H',Inv X pins σ H' s'/\Vals vs us/\Q vs H'
def SP(X:Cx)(pins:List (Mg×Obj))(D:Ends)(f:Flow)(s':Mi):Prop:=
 match f with
 | .next=>∃ σ' H',Inv X pins σ' H' s'/\D.nx σ' H'
 | .brk=>∃ σ' H',Inv X pins σ' H' s'/\D.bk σ' H'
 | .cont=>∃ σ' H',Inv X pins σ' H' s'/\D.ct σ' H'
 | .ret u=>∃ v σ' H',Inv X pins σ' H' s'/\aI v u/\D.rt v H'
def PE(X:Cx)(e:MJ)(t:TE):Prop:=
 ∀ (pins:List (Mg×Obj)) (s:Mi) (σ:St) (H:Hp) (Q:VK),Inv X pins σ H s->t σ H Q->Mo (Mt X.prog X.w) X.A (eval e X.env) (EP X pins σ Q) X.xe s
def PT(X:Cx)(e:MJ)(t:TT):Prop:=
 ∀ (pins:List (Mg×Obj)) (s:Mi) (σ:St) (H:Hp) (Q:Bool->Hp->Prop),Inv X pins σ H s->t σ H Q->Mo (Mt X.prog X.w) X.A (Qm e X.env (eval e X.env)) (TP X pins σ Q) X.xe s
def PW(X:Cx)(e:MJ)(t:TT):Prop:=
 ∀ (whole:Sem Mh) (pins:List (Mg×Obj)) (s:Mi) (σ:St) (H:Hp) (Q:Bool->Hp->Prop),Inv X pins σ H s->t σ H Q->Mo (Mt X.prog X.w) X.A (Qm e X.env whole) (TP X pins σ Q) X.xe s
theorem PW.pt{X:Cx}{e:MJ}{t:TT}(h:PW X e t):PT X e t:=h _
def PA(X:Cx)(es:List MJ)(t:TA):Prop:=
 ∀ (pos:Pos) (pins:List (Mg×Obj)) (s:Mi) (σ:St) (H:Hp) (Q:List V->Hp->Prop),Inv X pins σ H s->t σ H Q->Mo (Mt X.prog X.w) X.A (spliced (Nr pos (Mu es X.env))) (AP X pins σ Q) X.xe s
def PS(X:Cx)(st:ML)(t:TS):Prop:=
 ∀ (pins:List (Mg×Obj)) (s:Mi) (σ:St) (H:Hp) (D:Ends),Inv X pins σ H s->t D σ H->Mo (Mt X.prog X.w) X.A (exec st X.env) (SP X pins D) X.xe s
def pE(X:Cx)(st:List ML)(t:TS):Prop:=
 ∀ (pins:List (Mg×Obj)) (s:Mi) (σ:St) (H:Hp) (D:Ends),Inv X pins σ H s->t D σ H->Mo (Mt X.prog X.w) X.A (execs st X.env) (SP X pins D) X.xe s
theorem cI{α:Type}{t:Sem α}{Q Q':α->Mi->Prop}{M:Model}{A:MA}{E:Mh->Mi->Prop}{s:Mi}(h:Mo M A t Q E s)(hQ:∀ a s,Q a s->Q' a s):Mo M A t Q' E s:=M7 h hQ fun _ _ x=>x
section
variable{X:Cx}
def Jz(i:Nat):TE:=fun σ H Q=>∃ v,σ[i]?=some (some v)/\Q v H
def tC(v:V):TE:=fun _ H Q=>Q v H
theorem AI{i:Nat}{x:Str}{pos:Pos}(hN:X.N[i]?=some x)(hv:Ju X.env.scope x)(hd:(x == ("__debug__":Str))=false:=by decide)(hcd:(x == ("__classdict__":Str))=false:=by decide):PE X (.Name x pos) (Jz i):=by
 intro pins s σ H Q I h;obtain⟨v,e,h⟩:=h;obtain⟨m,hn,hl⟩:=I.loc;obtain⟨u,r,l⟩:=hl i x v hN e hv;have fin:EP X pins σ Q u s:=⟨v,H,I,r,h⟩;rcases l with ⟨hk,hm⟩|⟨hk,c,hc,T7⟩
 ·exact QL (wpAny_loadName_local I.ok.kind hk hn hm fin) hd
 ·rcases hk with hk|hk
  ·exact QL (wpAny_loadName_cell I.ok.kind hk hc T7 fin) hd
  ·exact QL (wpAny_loadName_free I.ok.kind hk hc T7 fin hcd) hd
theorem HX{i j pos}:PE X (.Constant (.int i) j pos) (tC (.int i)):=fun _ _ _ H _ I h=>wpAny_Constant_int ⟨.int i,H,I.tok _,⟨_,rfl⟩,h⟩
theorem JZ{b j pos}:PE X (.Constant (.bool b) j pos) (tC (.bl b)):=fun _ _ _ H _ I h=>Constant_bool ⟨.bl b,H,I,rfl,h⟩
theorem HU{j pos}:PE X (.Constant .none j pos) (tC .non):=fun _ _ _ H _ I h=>Constant_none ⟨.non,H,I,rfl,h⟩
theorem HR{x j pos}:PE X (.Constant (.str x) j pos) (tC (.str x)):=fun _ _ _ H _ I h=>Calls.Constant_str ⟨.str x,H,I.tok _,⟨_,rfl⟩,h⟩
def Gl(X:Cx)(x:Str):Prop:=X.env.kindOf x=some .globalImplicit
theorem rW{E:Mh->Mi->Prop}{pins:List (Mg×Obj)}{s:Mi}{σ:St}{H:Hp}{x:Str}{u:Mh}{pos:Pos}{Q:Mh->Mi->Prop}(I:Inv X pins σ H s)(hg:Gl X x)(hm:X.mg x=some u)(h:Q u s)
  (hd:(x == ("__debug__":Str))=false:=by decide):Mo (Mt X.prog X.w) X.A (eval (.Name x pos) X.env) Q E s:=
 P7 I.ok.kind hg (Calls.loadGlobal_global (by rw[I.ok.glob];exact I.mod.glob.keeps I.bk) hm h) hd
theorem jc{E:Mh->Mi->Prop}{pins:List (Mg×Obj)}{s:Mi}{σ:St}{H:Hp}{x:Str}{u:Mh}{pos:Pos}{Q:Mh->Mi->Prop}(I:Inv X pins σ H s)(hg:Gl X x)(hm:X.mg x=none)(hv:Nl x=some u)(h:Q u s)
  (hn:x≠"__name__":=by decide) (hd:(x == ("__debug__":Str))=false:=by decide):Mo (Mt X.prog X.w) X.A (eval (.Name x pos) X.env) Q E s:=by
 obtain⟨mb,h1,h2⟩:=I.mod.blt;exact P7 I.ok.kind hg (Calls.loadGlobal_builtin (by rw[I.ok.glob];exact I.mod.glob.keeps I.bk) hm (by rw[I.ok.blt];exact h1.keeps I.bk) ((h2 x hn).trans hv) h) hd
theorem BA{x:Str}{v:V}{u:Mh}{pos:Pos}(hg:Gl X x)(hm:X.mg x=some u)(r:aI v u)(hd:(x == ("__debug__":Str))=false:=by decide):PE X (.Name x pos) (tC v):=
 fun _ _ _ H _ I h=>rW I hg hm ⟨v,H,I,r,h⟩ hd
theorem FT{x:Str}{v:V}{u:Mh}{pos:Pos}(hg:Gl X x)(hm:X.mg x=none)(hv:Nl x=some u)(r:aI v u)(hn:x≠"__name__":=by decide)(hd:(x == ("__debug__":Str))=false:=by decide):PE X (.Name x pos) (tC v):=
 fun _ _ _ H _ I h=>jc I hg hm hv ⟨v,H,I,r,h⟩ hn hd
variable{a b:MJ}{ta tb:TE}{pos:Pos}
def PC(X:Cx)(op:OS)(a b:MJ)(t:TE):Prop:=
 ∀ (pins:List (Mg×Obj)) (s:Mi) (σ:St) (H:Hp) (Q:VK),Inv X pins σ H s->t σ H Q->
  Mo (Mt X.prog X.w) X.A (eval a X.env) (fun v s₁=>Mo (Mt X.prog X.w) X.A (eval b X.env) (fun u s₂=>Mo (Mt X.prog X.w) X.A (MT op v u) (EP X pins σ Q) X.xe s₂) X.xe s₁) X.xe s
theorem zc(b:MJ){op:OS}(h:op≠.In)(h2:op≠.NotIn):Nf op b=false:=by
 have e1:(op == CmpOp.In)=false:=by cases op<;>first|rfl|exact absurd rfl h
 have e2:(op == CmpOp.NotIn)=false:=by cases op<;>first|rfl|exact absurd rfl h2
 cases b<;>simp[Nf,e1,e2]
def tB(t:TE):TT:=fun σ H Q=>t σ H fun x H1=>∃ c,x=.bl c/\Q c H1
theorem HY{op:OS}{t:TE}(h:PC X op a b t)(h1:Nf op b=false:=by first|exact zc _ (by decide) (by decide)|rfl):PE X (.Compare a [op] [b] pos) t:=fun pins s σ H Q I hw=>wpAny_Compare1 (h pins s σ H Q I hw) h1
theorem DS{op:OS}{t:TE}(h:PC X op a b t)(h1:Nf op b=false:=by first|exact zc _ (by decide) (by decide)|rfl):PT X (.Compare a [op] [b] pos) (tB t):=by
 intro pins s σ H Q I hw;refine Qv (cI (h pins s σ H _ I hw) fun v s1 h1=>cI h1 fun u s2 h2=>cI h2 fun c s3 zz=>?_) h1;obtain⟨x,H1,I1,r1,q1⟩:=zz;obtain⟨d,rfl,q⟩:=q1;cases r1;exact NB ⟨H1,I1,q⟩
variable{tA tB':TT}{mB:List MJ}
def Le(t u:TT):TT:=fun σ H Q=>t σ H fun c H1=>if c=true then u σ H1 Q else Q false H1
def LV(t u:TT):TT:=fun σ H Q=>t σ H fun c H1=>if c=true then Q true H1 else u σ H1 Q
def K9(t:TT):TT:=fun σ H Q=>t σ H fun c H1=>Q (!c) H1
theorem FD(ha:PT X a tA):PW X (.BoolOp .And [a] pos) tA:=by
 intro wh pins s σ H Q I h;refine isTrue_and (cI (ha pins s σ H Q I h) fun c s1 e=>?_);cases c with
 | true=>exact isTrue_and_nil e
 | false=>exact e
theorem HH(ha:PT X a tA):PW X (.BoolOp .Or [a] pos) tA:=by
 intro wh pins s σ H Q I h;refine isTrue_or (cI (ha pins s σ H Q I h) fun c s1 e=>?_);cases c with
 | false=>exact isTrue_or_nil e
 | true=>exact e
theorem HI(ha:PT X a tA)(hb:PW X (.BoolOp .And (b::mB) pos) tB'):PW X (.BoolOp .And (a::b::mB) pos) (Le tA tB'):=by
 intro wh pins s σ H Q I h;refine isTrue_and (cI (ha pins s σ H _ I h) fun c s1 zz=>?_);obtain⟨H1,I1,q1⟩:=zz;cases c with
 | true=>exact hb wh pins s1 σ H1 Q I1 q1
 | false=>exact⟨H1,I1,q1⟩
theorem JR(ha:PT X a tA)(hb:PW X (.BoolOp .Or (b::mB) pos) tB'):PW X (.BoolOp .Or (a::b::mB) pos) (LV tA tB'):=by
 intro wh pins s σ H Q I h;refine isTrue_or (cI (ha pins s σ H _ I h) fun c s1 zz=>?_);obtain⟨H1,I1,q1⟩:=zz;cases c with
 | true=>exact⟨H1,I1,q1⟩
 | false=>exact hb wh pins s1 σ H1 Q I1 q1
theorem HK(ha:PT X a tA):PT X (.UnaryOp .Not a pos) (K9 tA):=by
 intro pins s σ H Q I h;exact isTrue_not (ha pins s σ H (fun c H1=>Q (!c) H1) I h)
def JG(ta tb:TE):TE:=fun σ H Q=>ta σ H fun x H1=>∃ c,x=.bl c/\if c=true then tb σ H1 Q else Q (.bl false) H1
theorem HS{op}{t:TE}(h:PE X a t):PE X (.BoolOp op [a] pos) t:=fun pins s σ H Q I hw=>BoolOp_one (h pins s σ H Q I hw)
theorem HZ(ha:PE X a ta)(hb:PE X (.BoolOp .And (b::mB) pos) tb):PE X (.BoolOp .And (a::b::mB) pos) (JG ta tb):=by
 intro pins s σ H Q I h;refine BoolOp_and (cI (ha pins s σ H _ I h) fun v s1 zz=>?_);obtain⟨x,H1,I1,r1,q1⟩:=zz;obtain⟨c,rfl,q1⟩:=q1;cases r1;refine NB ?_;cases c with
 | true=>exact hb pins s1 σ H1 Q I1 q1
 | false=>exact⟨.bl false,H1,I1,rfl,q1⟩
end
def jw(K:PySem.W.Frag)(H:Hp)(a:Mg)(xs:List V):Prop:=
 Rd H a (.lst xs)\/
  ∃ (o:Obj) (its:Array Mh) (n:Nat),K.lookup a=some o/\o.cls=.type "list"/\o.dict=none/\o.data=.seq its n/\its.size<=Mp/\Vals xs its.toList
def kt(K:PySem.W.Frag)(H:Hp)(a:Mg)(xs:List V):Prop:=
 Rd H a (.tup xs)\/
  ∃ (o:Obj) (its:Array Mh) (n:Nat),K.lookup a=some o/\(o.cls=.type "tuple"/\o.dict=none)/\o.data=.seq its n/\its.size<=Mp/\Vals xs its.toList
def LH:Mh->Option V
 | .none=>some .non
 | .bool b=>some (.bl b)
 | .int i _=>some (.int i)
 | .str x _=>some (.str x)
 | .bytes b _=>some (.byt b)
 | .float b _=>some (.flt b)
 | .ref a=>some (.ref a)
 | .type n=>some (.ty n)
 | _=>none
theorem aI.abs{x:V}{u:Mh}(r:aI x u):LH u=some x:=by
 cases x with
 | non=>cases r;rfl
 | bl _=>cases r;rfl
 | int _=>obtain⟨t,rfl⟩:=r;rfl
 | str _=>obtain⟨t,rfl⟩:=r;rfl
 | byt _=>obtain⟨t,rfl⟩:=r;rfl
 | flt _=>obtain⟨t,rfl⟩:=r;rfl
 | ref _=>cases r;rfl
 | ty _=>cases r;rfl
theorem aI.inj{x y:V}{u:Mh}(r:aI x u)(q:aI y u):x=y:=Option.some.inj (r.abs.symm.trans q.abs)
theorem Vals.inj:∀ {xs ys:List V} {us:List Mh},Vals xs us->Vals ys us->xs=ys
 | _,_,_,.nil,.nil=>rfl
 | _,_,_,.cons r t,.cons r' t'=>by rw[r.inj r',Vals.inj t t']
section
variable{X:Cx}{pins:List (Mg×Obj)}{σ:St}{H:Hp}{s:Mi}{a:Mg}{xs ys:List V}
theorem jw.of{K:PySem.W.Frag}(h:H a=some (.lst xs)):jw K H a xs:=.inl (.inl h)
theorem kt.of{K:PySem.W.Frag}(h:H a=some (.tup xs)):kt K H a xs:=.inl (.inl h)
theorem Inv.list(I:Inv X pins σ H s)(h:jw X.K H a xs):∃ its:List Mh,Vals xs its/\PlainL s.heap a its.toArray/\xs.length<=Mp:=by
 rcases h with h|⟨o,its,n,hk,hc,hd,hs,hz,r⟩
 ·obtain⟨z,its,n,r,e⟩:=h.ok I.hok;exact⟨its,r,⟨_,n,e,rfl,rfl,rfl⟩,z⟩
 ·refine⟨its.toList,r,⟨o,n,I.kIn a o hk,hc,hd,by simpa using hs⟩,?_⟩
  have e:=r.length;simp only[Array.length_toList]at e;omega
theorem Inv.tuple(I:Inv X pins σ H s)(h:kt X.K H a xs):∃ its:List Mh,Vals xs its/\IsTup s.heap a its.toArray/\xs.length<=Mp:=by
 rcases h with h|⟨o,its,n,hk,hc,hs,hz,r⟩
 ·obtain⟨z,its,r,p⟩:=h.ok I.hok;exact⟨its,r,p.tup,z⟩
 ·refine⟨its.toList,r,⟨o,I.kIn a o hk,hc.1,n,by simpa using hs⟩,?_⟩
  have e:=r.length;simp only[Array.length_toList]at e;omega
theorem Inv.list_inj(I:Inv X pins σ H s)(h:jw X.K H a xs)(h':jw X.K H a ys):xs=ys:=by
 obtain⟨its,r,⟨o,n,e,_,_,d⟩,_⟩:=I.list h;obtain⟨its',r',⟨o',n',e',_,_,d'⟩,_⟩:=I.list h';rw[e]at e';cases e';rw[d]at d';injection d' with d1 _
 have:its=its':=by simpa using congrArg Array.toList d1
 subst this;exact r.inj r'
theorem Inv.tuple_inj(I:Inv X pins σ H s)(h:kt X.K H a xs)(h':kt X.K H a ys):xs=ys:=by
 obtain⟨its,r,⟨o,e,_,n,d⟩,_⟩:=I.tuple h;obtain⟨its',r',⟨o',e',_,n',d'⟩,_⟩:=I.tuple h';rw[e]at e';cases e';rw[d]at d';injection d' with d1 _
 have:its=its':=by simpa using congrArg Array.toList d1
 subst this;exact r.inj r'
end
abbrev Cx.wish(X:Cx)(E:Mh->Mi->Prop):Cx:={ X with xe:=E }
abbrev Cx.nox(X:Cx):Cx:=X.wish fun _ _=>False
theorem Cx.Ok.wish{X:Cx}(ok:X.Ok)(E:Mh->Mi->Prop):(X.wish E).Ok:=
 ⟨ok.mod,ok.kind,ok.glob,ok.blt,ok.above,ok.inj,ok.has,ok.cab,ok.hd,ok.frames,ok.stk,ok.exf,ok.bs,ok.bsz,ok.noex,ok.exfs,ok.funs,ok.frf⟩
theorem Cx.Ok.unwish{X:Cx}{E:Mh->Mi->Prop}(ok:(X.wish E).Ok):X.Ok:=
 ⟨ok.mod,ok.kind,ok.glob,ok.blt,ok.above,ok.inj,ok.has,ok.cab,ok.hd,ok.frames,ok.stk,ok.exf,ok.bs,ok.bsz,ok.noex,ok.exfs,ok.funs,ok.frf⟩
section
variable{X:Cx}{pins:List (Mg×Obj)}{σ:St}{H:Hp}{s:Mi}{E:Mh->Mi->Prop}
theorem Inv.wish(I:Inv X pins σ H s)(E:Mh->Mi->Prop):Inv (X.wish E) pins σ H s:=⟨I.ok.wish E,I.os,I.bare,I.base,I.loc,I.cell,I.free,I.freeC,I.pin,I.hok,I.len⟩
theorem Inv.unwish(I:Inv (X.wish E) pins σ H s):Inv X pins σ H s:=⟨I.ok.unwish,I.os,I.bare,I.base,I.loc,I.cell,I.free,I.freeC,I.pin,I.hok,I.len⟩
theorem SP.unwish{D:Ends}{f:Flow}{s':Mi}(h:SP (X.wish E) pins D f s'):SP X pins D f s':=by
 cases f with
 | next=>obtain⟨σ',H',I,q⟩:=h;exact⟨σ',H',I.unwish,q⟩
 | brk=>obtain⟨σ',H',I,q⟩:=h;exact⟨σ',H',I.unwish,q⟩
 | cont=>obtain⟨σ',H',I,q⟩:=h;exact⟨σ',H',I.unwish,q⟩
 | ret u=>obtain⟨v,σ',H',I,r,q⟩:=h;exact⟨v,σ',H',I.unwish,r,q⟩
theorem PE.nox{e:MJ}{t:TE}(h:PE X.nox e t):PE X e t:=fun pins s σ H Q I hw=>
 M7 (h pins s σ H Q (I.wish _) hw) (fun _ _ ⟨v,H',I',r,q⟩=>⟨v,H',I'.unwish,r,q⟩) fun _ _ z=>False.elim z
theorem PT.nox{e:MJ}{t:TT}(h:PT X.nox e t):PT X e t:=fun pins s σ H Q I hw=>
 M7 (h pins s σ H Q (I.wish _) hw) (fun _ _ ⟨H',I',q⟩=>⟨H',I'.unwish,q⟩) fun _ _ z=>False.elim z
theorem pE.nox{st:List ML}{t:TS}(h:pE X.nox st t):pE X st t:=fun pins s σ H D I hw=>
 M7 (h pins s σ H D (I.wish _) hw) (fun _ _ q=>q.unwish) fun _ _ z=>False.elim z
end
section
variable{X:Cx}{st:ML}{mB:List ML}{t u:TS}{e:MJ}{te:TE}{pos:Pos}
def JD:TS:=fun D σ H=>D.nx σ H
def K7(t u:TS):TS:=fun D σ H=>t { D with nx:=u D } σ H
theorem FI:pE X [] JD:=fun _ _ σ H _ I h=>Ow ⟨σ,H,I,h⟩
theorem DU(h1:PS X st t)(h2:pE X mB u):pE X (st::mB) (K7 t u):=by
 intro pins s σ H D I h;refine wpAny_execs_cons (cI (h1 pins s σ H { D with nx:=u D } I h) fun f s1 q=>?_)
 cases f with
 | next=>
  obtain⟨σ',H',I',q⟩:=q;exact h2 pins s1 σ' H' D I' q
 | ret v=>exact q
 | brk=>exact q
 | cont=>exact q
theorem FH(h1:PS X st t):pE X [st] t:=by
 intro pins s σ H D I h;refine wpAny_execs_cons (cI (h1 pins s σ H D I h) fun f s1 q=>?_);cases f with
 | next=>exact Ow q
 | ret v=>exact q
 | brk=>exact q
 | cont=>exact q
theorem Inv.quiet{pins:List (Mg×Obj)}{σ:St}{H:Hp}{s:Mi}(I:Inv X pins σ H s):interactive X.env=false:=by simp[interactive,I.ok.kind]
def JE(te:TE):TS:=fun D σ H=>te σ H fun _ H1=>D.nx σ H1
theorem FK(he:PE X e te)(hs:NR e none pos.line X.env=pure false:=by rfl):PS X (.Expr e pos) (JE te):=by
 intro pins s σ H D I h;exact wpAny_Expr_any (cI (he pins s σ H _ I h) fun v s1 ⟨x,H1,I1,r1,q1⟩=>⟨σ,H1,I1,q1⟩) I.quiet hs
def K8(te:TE):TS:=fun D σ H=>te σ H D.rt
theorem DX(he:PE X e te):PS X (.Return (some e) pos) (K8 te):=by
 intro pins s σ H D I h;exact wpAny_Return_some (cI (he pins s σ H _ I h) fun v s1 ⟨x,H1,I1,r1,q1⟩=>⟨x,σ,H1,I1,r1,q1⟩)
def JA:TS:=fun D _ H=>D.rt .non H
theorem FJ:PS X (.Return none pos) JA:=fun _ _ σ H _ I h=>wpAny_Return_none ⟨.non,σ,H,I,rfl,h⟩
def La(c:TT)(t u:TS):TS:=fun D σ H=>c σ H fun b H1=>if b=true then t D σ H1 else u D σ H1
theorem JS{c:MJ}{a b:List ML}{tc:TT}(hc:PT X c tc)(ha:pE X a t)(hb:pE X b u):PS X (.If c a b pos) (La tc t u):=by
 intro pins s σ H D I h;refine wpAny_If (cI (hc pins s σ H _ I h) fun d s1 zz=>?_);obtain⟨H1,I1,q1⟩:=zz;cases d with
 | true=>exact ha pins s1 σ H1 D I1 q1
 | false=>exact hb pins s1 σ H1 D I1 q1
def Ht:TS:=fun _ _ _=>False
theorem DY:PS X st Ht:=fun _ _ _ _ _ _ h=>h.elim
end
abbrev TG:=V->St->Hp->(St->Hp->Prop)->Prop
abbrev GJ:=List V->St->Hp->(St->Hp->Prop)->Prop
def PG(X:Cx)(target:MJ)(t:TG):Prop:=
 ∀ (pins:List (Mg×Obj)) (s:Mi) (σ:St) (H:Hp) (v:V) (u:Mh) (Q:St->Hp->Prop),Inv X pins σ H s->aI v u->t v σ H Q->
  Mo (Mt X.prog X.w) X.A (assign target X.env u) (fun _ s'=>∃ σ' H',Inv X pins σ' H' s'/\Q σ' H') X.xe s
def E9(X:Cx)(ts:List MJ)(t:GJ):Prop:=
 ∀ (pins:List (Mg×Obj)) (s:Mi) (σ:St) (H:Hp) (vs:List V) (us:List Mh) (Q:St->Hp->Prop),Inv X pins σ H s->Vals vs us->t vs σ H Q->
  Mo (Mt X.prog X.w) X.A (assignInOrder ((NN ts X.env).map (·.2)) us) (fun _ s'=>∃ σ' H',Inv X pins σ' H' s'/\Q σ' H') X.xe s
abbrev GI:=V->V->V->Hp->(Hp->Prop)->Prop
def Jl(X:Cx)(t:GI):Prop:=
 ∀ (pins:List (Mg×Obj)) (s:Mi) (σ:St) (H:Hp) (o i v:V) (ov iv u:Mh) (Q:Hp->Prop),Inv X pins σ H s->aI o ov->aI i iv->aI v u->t o i v H Q->
  Mo (Mt X.prog X.w) X.A (QX ov iv u) (fun _ s'=>∃ H',Inv X pins σ H' s'/\Q H') X.xe s
section
variable{X:Cx}{pos:Pos}
def zL(i:Nat):TG:=fun v σ H Q=>Q (σ.set i (some v)) H
theorem FO{i:Nat}{x:Str}(hN:X.N.Nodup)(hi:X.N[i]?=some x)(hx:Jm X.env.scope x)(hf:X.fn x=true\/X.env.scope.names.lookup x=some .local:=by first|exact .inl rfl|exact .inr rfl|assumption):PG X (.Name x pos) (zL i):=by
 intro pins s σ H v u Q I r h;exact QW (yH I hN hi hx r (fun s' I'=>⟨_,H,I',h⟩) hf)
def Ly:GJ:=fun vs σ H Q=>vs=[]/\Q σ H
def Kd(t:TG)(u:GJ):GJ:=fun vs σ H Q=>∃ v r,vs=v::r/\t v σ H fun σ' H'=>u r σ' H' Q
theorem FN:E9 X [] Ly:=by
 intro pins s σ H vs us Q I r h;obtain⟨e,h⟩:=h;subst e;cases r;exact assignInOrder_nil ⟨σ,H,I,h⟩
theorem D7{e:MJ}{es:List MJ}{t:TG}{u:GJ}(h1:PG X e t)(h2:E9 X es u)
  (hs:(NN (e::es) X.env).map (·.2)=assign e X.env::(NN es X.env).map (·.2):=by rfl):E9 X (e::es) (Kd t u):=by
 intro pins s σ H vs us Q I r h;obtain⟨v,vr,e1,h⟩:=h;subst e1;cases r with
 | cons r rr=>
  rw[hs];refine assignInOrder_cons (cI (h1 pins s σ H _ _ _ I r h) fun _ s1 zz=>?_);obtain⟨σ1,H1,I1,q1⟩:=zz;exact h2 pins s1 σ1 H1 _ _ Q I1 rr q1
def Lw(K:PySem.W.Frag)(n:Nat)(t:GJ):TG:=fun v σ H Q=>∃ a xs,v=.ref a/\kt K H a xs/\xs.length=n/\t xs σ H Q
theorem HN{es:List MJ}{k:Nat}{t:GJ}{n:Nat}(hc:X.calm=true)(h:E9 X es t)
  (hn:(NN es X.env).length=n:=by rfl) (hst:(NN es X.env).findIdx? (·.1)=none:=by rfl):PG X (.Tuple es k pos) (Lw X.K n t):=by
 intro pins s σ H v u Q I r hw;obtain⟨a,xs,e1,hq,hl,hw⟩:=hw;subst e1;cases r;obtain⟨its,rv,ht,hz⟩:=I.tuple hq;refine assign_Tuple_tuple (I.ok.hd hc) ht (by simp[hn,<- hl,rv.length]) hst fun h' hx=>?_
 have I1:Inv X pins σ H { s with heap:=h' }:=I.kept (t':=s.toks) fun b o e=>hx b o (MO (Mx e)) e
 exact h pins _ σ H xs _ Q I1 (by simpa using rv) hw
def Lx(to ti:TE)(t:GI):TG:=fun v σ H Q=>to σ H fun o H1=>ti σ H1 fun i H2=>t o i v H2 fun H3=>Q σ H3
theorem HP{o i:MJ}{to ti:TE}{t:GI}(ho:PE X o to)(hi:PE X i ti)(hs:Jl X t)
  (ha:∀ v,assign (.Subscript o i pos) X.env v=(do
   let ov <- holding [v] (eval o X.env)
   let iv <- holding [v,ov] (eval i X.env)
   Oz pos
   holding [v,ov,iv] (QX ov iv v)
   release [v,ov,iv] []):=by intro _;rfl):PG X (.Subscript o i pos) (Lx to ti t):=by
 intro pins s σ H v u Q I r h;rw[ha];refine Mf (Nc (cI (ho pins s σ H _ I h) fun ov s1 zz=>?_));obtain⟨x,H1,I1,r1,q1⟩:=zz;refine Mf (Nc (cI (hi pins s1 σ H1 _ I1 q1) fun iv s2 zz=>?_));obtain⟨y,H2,I2,r2,q2⟩:=zz;refine Mf (Pl (Mf (Nc (cI (hs pins s2 σ H2 x y v ov iv u _ I2 r1 r2 r q2) fun _ s3 zz=>?_))));obtain⟨H3,I3,q3⟩:=zz;exact wpAny_release ⟨σ,H3,I3,q3⟩
def Hv(te:TE)(g:TG):TS:=fun D σ H=>te σ H fun x H1=>g x σ H1 D.nx
theorem HL{tg e:MJ}{te:TE}{g:TG}(he:PE X e te)(hg:PG X tg g)(hs:swapsWithSole [tg] e pos.line X.env=pure false:=by rfl)(hw:swappedStores [tg] e X.env=pure none:=by rfl)
  (h1:(NN [tg] X.env).map (·.2)=[assign tg X.env]:=by rfl):PS X (.Assign [tg] e pos) (Hv te g):=by
 intro pins s σ H D I h;refine wpAny_Assign_stores (cI (he pins s σ H _ I h) fun v s1 zz=>?_) hs hw;obtain⟨x,H1,I1,r1,q1⟩:=zz;rw[h1];exact cI (hg pins s1 σ H1 x v _ I1 r1 q1) fun _ s2 q=>q
theorem DW{i:Nat}{x:Str}{e:MJ}{te:TE}{pos':Pos}(hN:X.N.Nodup)(hi:X.N[i]?=some x)(hx:Jm X.env.scope x)(he:PE X e te)(hs:NR e (some (.Name x pos')) pos.line X.env=pure false:=by rfl)(hf:X.fn x=true\/X.env.scope.names.lookup x=some .local:=by first|exact .inl rfl|exact .inr rfl|assumption):
  PS X (.Assign [.Name x pos'] e pos) (Hv te (zL i)):=by
 intro pins s σ H D I h;refine wpAny_Assign_Name (cI (he pins s σ H _ I h) fun v s1 zz=>?_) hs;obtain⟨y,H1,I1,r1,q1⟩:=zz;exact yH I1 hN hi hx r1 (fun s2 I2=>⟨_,H1,I2,q1⟩) hf
def Hs(c:TT)(tb:TS):TS:=fun D σ H=>∃ W:Nat->St->Hp->Prop,(∃ m,W m σ H)/\∀ m σ H,W m σ H->
 c σ H fun b H1=>if b=true then ∃ N:St->Hp->Prop,(∀ σ' H',N σ' H'->∃ m',m' < m/\W m' σ' H')/\tb { D with nx:=N,ct:=N,bk:=D.nx } σ H1 else D.nx σ H1
theorem DV{c:MJ}{body:List ML}{tc:TT}{tb:TS}(hp:Pj (Mt X.prog X.w) X.A X.env X.xe)(hc:PT X c tc)(hb:pE X body tb):PS X (.While c body [] pos) (Hs tc tb):=by
 intro pins s σ H D I h;obtain⟨W,⟨m0,w0⟩,turn⟩:=h;refine wpAny_While (codeAny_whileLoop (fun n s'=>∃ σ' H',Inv X pins σ' H' s'/\W n σ' H') ?_ m0 ⟨σ,H,I,w0⟩)
 rintro n s1 ⟨σ1,H1,I1,w1⟩
 refine Nb hp (cI (hc pins s1 σ1 H1 _ I1 (turn n σ1 H1 w1)) fun b s2 zz=>?_);obtain⟨H2,I2,q2⟩:=zz;cases b with
 | true=>
  obtain⟨N,hN,q2⟩:=q2;rw[if_pos rfl];refine Nb hp (cI (hb pins s2 σ1 H2 _ I2 q2) fun f s3 q3=>?_);cases f with
  | next=>
   obtain⟨σ3,H3,I3,n3⟩:=q3;obtain⟨m',hm,w3⟩:=hN σ3 H3 n3;exact⟨m',hm,σ3,H3,I3,w3⟩
  | cont=>
   obtain⟨σ3,H3,I3,n3⟩:=q3;obtain⟨m',hm,w3⟩:=hN σ3 H3 n3;exact⟨m',hm,σ3,H3,I3,w3⟩
  | brk=>exact q3
  | ret v=>exact q3
 | false=>
  rw[if_neg Bool.false_ne_true];exact Ow ⟨σ1,H2,I2,q2⟩
end
structure It where
 go:Nat->Hp->Prop
 yld:Nat->Hp->V->Hp->Prop
 stop:Nat->Hp->Prop
def pB(X:Cx)(pins:List (Mg×Obj))(H:Hp)(b:Mg):Prop:=
 H b=none/\b≠X.env.locals/\b∉X.fs/\(b∈X.ex\/X.s₀.heap.objs.size<=b)/\(∀ x c,X.env.cells.lookup x=some c->c≠b)/\∀ p∈X.pn ++ pins,p.1≠b
theorem Inv.fpOk{X:Cx}{pins:List (Mg×Obj)}{σ:St}{H H':Hp}{s:Mi}{b:Mg}(I:Inv X pins σ H s)(hb:s.heap.objs.size<=b)(hn:H' b=none):pB X pins H' b:=by
 refine⟨hn,Pa (MN I.lt hb),I.nofs hb,.inr (le_trans I.sz hb),fun x c e z=>?_,fun p hp z=>?_⟩
 ·obtain⟨v,q⟩:=I.cell x c e;exact absurd (MN q.lt (by rw[z];exact hb)) (Nat.lt_irrefl _)
 ·exact absurd (MN (Mx (I.pin p hp).1) (by rw[z];exact hb)) (Nat.lt_irrefl _)
structure Turn(P:Mw)(w:ME)(K:PySem.W.Frag)(tg:MJ)(J:It)(fp:List Mg)(it:Mg)(tn:Nat->MG->Prop):Prop where
 mem:it∈fp
 obj:∀ i h,tn i h->∀ b∈fp,∃ o,h.get? b=some o/\∀ v,o.data≠.cell v
 keep:∀ i h h',tn i h->(∀ b∈fp,∀ o,h.get? b=some o->h'.get? b=some o)->tn i h'
 item:∀ (X:Cx),X.prog=P->X.w=w->X.K=K->X.calm=true->∀ (i:Nat) (pins:List (Mg×Obj)) (s:Mi) (σ:St) (H:Hp) (E:Mh->Mi->Prop),Inv X pins σ H s->(∀ b∈fp,pB X pins H b)->tn i s.heap->J.go i H->
  Mo (Mt P w) X.A (NM (.ref it)) (fun r s1=>∃ u,r=some u/\
   Mo (Mt P w) X.A (Oa tg (.ref it) u) (fun _ s2=>∃ x H',Inv X pins σ H' s2/\aI x u/\J.yld i H x H'/\tn (i+1) s2.heap/\∀ b∈fp,H' b=none) E s1) E s
 done:∀ (X:Cx),X.prog=P->X.w=w->X.K=K->X.calm=true->∀ (i:Nat) (pins:List (Mg×Obj)) (s:Mi) (σ:St) (H:Hp) (E:Mh->Mi->Prop),Inv X pins σ H s->(∀ b∈fp,pB X pins H b)->tn i s.heap->J.stop i H->
  Mo (Mt P w) X.A (NM (.ref it)) (fun r s1=>r=none/\Inv X pins σ H s1) E s
 self:∀ (A:MA) (i:Nat) (s:Mi) (Q:Mh->Mi->Prop) (E:Mh->Mi->Prop),tn i s.heap->Q (.ref it) s->Mo (Mt P w) A (OD (.ref it)) Q E s
abbrev TI:=St->Hp->(It->Hp->Prop)->Prop
def Hh(X:Cx)(pins:List (Mg×Obj))(σ:St)(tg:MJ)(R:It->Hp->Prop)(itv:Mh)(s2:Mi):Prop:=
 ∃ (it:Mg) (fp:List Mg) (tn:Nat->MG->Prop) (J:It) (H':Hp),itv=.ref it/\Inv X pins σ H' s2/\Turn X.prog X.w X.K tg J fp it tn/\tn 0 s2.heap/\(∀ b∈fp,pB X pins H' b)/\R J H'
def PI(X:Cx)(tg iter:MJ)(wi:TI):Prop:=
 ∀ (pins:List (Mg×Obj)) (s:Mi) (σ:St) (H:Hp) (R:It->Hp->Prop),Inv X pins σ H s->wi σ H R->
  Mo (Mt X.prog X.w) X.A (eval iter X.env) (fun v s1=>Mo (Mt X.prog X.w) X.A (OD v) (Hh X pins σ tg R) X.xe s1) X.xe s
theorem zK{M:Model}{A:MA}{E:Mh->Mi->Prop}{s:Mi}{tg:MJ}{it:Mg}{u:Mh}{o:Obj}{n:String}{vs:Array Mh}{Q:Unit->Mi->Prop}(ho:s.heap.get? it=some o)(hc:o.cls=.type n)(hd:o.data=.fields vs)
  (hn:["enumerate","zip","dict_itemiterator","dict_reverseitemiterator","odict_iterator","itertools.zip_longest","itertools.pairwise"].contains n=false) (hQ:Q () s):Mo M A (Oa tg (.ref it) u) Q E s:=by
 unfold Oa;cases tg<;>first
  | exact Ml hQ
  | (cases u<;>first
    | exact Ml hQ
    | (refine Mf (wpAny_load ho ?_)
       rw[hc,hd];show Mo M A (if (["enumerate","zip","dict_itemiterator","dict_reverseitemiterator","odict_iterator","itertools.zip_longest","itertools.pairwise"].contains n && vs[0]? == some (N0 _))=true then _ else _) Q E s
       rw[if_neg (by intro h;rw[hn,Bool.false_and]at h;cases h)]
       exact Ml hQ))
def KN(K:PySem.W.Frag)(a:Mg):It:=
 ⟨fun i H=>∃ xs x,jw K H a xs/\xs[i]?=some x,fun i H x H'=>H'=H/\∀ xs,jw K H a xs->xs[i]?=some x,fun i H=>∃ xs,jw K H a xs/\xs.length<=i⟩
def LM(K:PySem.W.Frag)(a:Mg):It:=
 ⟨fun i H=>∃ xs x,kt K H a xs/\xs[i]?=some x,fun i H x H'=>H'=H/\∀ xs,kt K H a xs->xs[i]?=some x,fun i H=>∃ xs,kt K H a xs/\xs.length<=i⟩
def KM(lo:Int)(n:Nat):It:=⟨fun i _=>i < n,fun i H x H'=>H'=H/\x=.int (lo+i),fun i _=>n<=i⟩
theorem B5{P:Mw}{w:ME}{K:PySem.W.Frag}{tg:MJ}(a it:Mg):Turn P w K tg (KN K a) [it] it (fun i h=>h.IsListIter it a i) where
 mem:=by simp
 obj:=fun i h st b hb=>by
  have e:b=it:=by simpa using hb
  subst e;obtain⟨o,e,c,d⟩:=st;exact⟨o,e,fun v z=>by rw[d]at z;cases z⟩
 keep:=fun i h h' st k=>st.at fun o e=>k it (by simp) o e
 item:=by
  intro X hP hw hK hc i pins s σ H E I hf st hg;subst hP hw hK;obtain⟨xs,x,hq,hx⟩:=hg;obtain⟨its,rv,p,hz⟩:=I.list hq;obtain⟨u,hu,ru⟩:=rv.get hx;obtain⟨f0,f1,f2,f3,f4,f5⟩:=hf it (by simp)
  refine Qj st p.isList (x:=u) (by simpa using hu) fun h' st' sb=>?_
  have I1:Inv X pins σ H { s with heap:=h' }:=I.turned (t':=s.toks) (fun b o hb e=>(sb.2 b hb).trans e) f0 f1 f3 f4 f5
  obtain⟨o,e,c,d⟩:=id st';exact⟨u,rfl,zK (s:={ s with heap:=h' }) e c d (by decide) ⟨x,H,I1,ru,⟨rfl,fun ys hy=>by rw[I.list_inj hy hq];exact hx⟩,st',fun b hb=>(hf b hb).1⟩⟩
 done:=by
  intro X hP hw hK hc i pins s σ H E I hf st hg;subst hP hw hK;obtain⟨xs,hq,hx⟩:=hg;obtain⟨its,rv,p,hz⟩:=I.list hq;obtain⟨f0,f1,f2,f3,f4,f5⟩:=hf it (by simp)
  have hl:=rv.length;exact Qu (I.ok.hd hc) st p.isList (by simp;omega) fun h' eb=>⟨rfl,I.turned (t':=s.toks) (fun b o hb e=>eb b o hb e) f0 f1 f3 f4 f5⟩
 self:=fun _ _ _ _ _ st h=>wpAny_pyIter_listiter st h
theorem Ah{P:Mw}{w:ME}{K:PySem.W.Frag}{tg:MJ}(a it:Mg):Turn P w K tg (LM K a) [it] it (fun i h=>h.IsTupleIter it a i) where
 mem:=by simp
 obj:=fun i h st b hb=>by
  have e:b=it:=by simpa using hb
  subst e;obtain⟨o,e,c,d⟩:=st;exact⟨o,e,fun v z=>by rw[d]at z;cases z⟩
 keep:=fun i h h' st k=>st.at fun o e=>k it (by simp) o e
 item:=by
  intro X hP hw hK hc i pins s σ H E I hf st hg;subst hP hw hK;obtain⟨xs,x,hq,hx⟩:=hg;obtain⟨its,rv,p,hz⟩:=I.tuple hq;obtain⟨u,hu,ru⟩:=rv.get hx;obtain⟨f0,f1,f2,f3,f4,f5⟩:=hf it (by simp)
  refine wpAny_pyNext_tuple_item st (show s.heap.IsTuple a its.toArray from p) (x:=u) (by simpa using hu) fun h' st' sb=>?_
  have I1:Inv X pins σ H { s with heap:=h' }:=I.turned (t':=s.toks) (fun b o hb e=>(sb.2 b hb).trans e) f0 f1 f3 f4 f5
  obtain⟨o,e,c,d⟩:=id st';exact⟨u,rfl,zK (s:={ s with heap:=h' }) e c d (by decide) ⟨x,H,I1,ru,⟨rfl,fun ys hy=>by rw[I.tuple_inj hy hq];exact hx⟩,st',fun b hb=>(hf b hb).1⟩⟩
 done:=by
  intro X hP hw hK hc i pins s σ H E I hf st hg;subst hP hw hK;obtain⟨xs,hq,hx⟩:=hg;obtain⟨its,rv,p,hz⟩:=I.tuple hq;obtain⟨f0,f1,f2,f3,f4,f5⟩:=hf it (by simp)
  have hl:=rv.length;exact wpAny_pyNext_tuple_end (I.ok.hd hc) st (show s.heap.IsTuple a its.toArray from p) (by simp;omega) fun h' eb=>⟨rfl,I.turned (t':=s.toks) (fun b o hb e=>eb b o hb e) f0 f1 f3 f4 f5⟩
 self:=fun _ _ _ _ _ st h=>wpAny_pyIter_tupleiter st h
theorem Ai{P:Mw}{w:ME}{K:PySem.W.Frag}{tg:MJ}(it:Mg)(lo:Int)(n:Nat):Turn P w K tg (KM lo n) [it] it (fun i h=>IsRangeIter h it (lo+(i:Nat)*1) ((n:Int) - (i:Nat)) 1) where
 mem:=by simp
 obj:=fun i h st b hb=>by
  have e:b=it:=by simpa using hb
  subst e;exact⟨_,st,fun v z=>by
   have z':Data.fields _=Data.cell v:=z;cases z'⟩
 keep:=fun i h h' st k=>k it (by simp) _ st
 item:=by
  intro X hP hw hK hc i pins s σ H E I hf st hg;subst hP hw hK;obtain⟨f0,f1,f2,f3,f4,f5⟩:=hf it (by simp)
  have W:=Walks.range (prog:=X.prog) (w:=X.w) (I.ok.hd hc) it lo 1 n;refine W.item i s _ _ hg st fun v h' tk hv st' kk=>?_;obtain⟨t,rfl⟩:=hv;have I1:Inv X pins σ H { s with heap:=h',toks:=tk }:=I.turned (fun b o hb e=>kk b o (by simpa using hb) e) f0 f1 f3 f4 f5
  refine⟨_,rfl,zK (s:={ s with heap:=h',toks:=tk }) (n:="range_iterator") st' rfl rfl (by decide) ⟨.int (lo+i),H,I1,⟨t,?_⟩,⟨rfl,rfl⟩,st',fun b hb=>(hf b hb).1⟩⟩
  rw[Int.mul_one]
 done:=by
  intro X hP hw hK hc i pins s σ H E I hf st hg;subst hP hw hK;obtain⟨f0,f1,f2,f3,f4,f5⟩:=hf it (by simp)
  exact wpAny_pyNext_range_end (I.ok.hd hc) st (by have:n<=i:=hg;omega) fun h' eb=>⟨rfl,I.turned (t':=s.toks) (fun b o hb e=>eb b o hb e) f0 f1 f3 f4 f5⟩
 self:=fun _ _ _ _ _ st h=>wpAny_pyIter_rangeiter st h
section
variable{X:Cx}{tg:MJ}
theorem yQ{pins:List (Mg×Obj)}{σ:St}{H:Hp}{s:Mi}{R:It->Hp->Prop}{E:Mh->Mi->Prop}{lo hi:Int}{t u v:Tok}{tk:Nat}(I:Inv X pins σ H s)(h1:-(2 ^ 62)<=lo)(h2:lo < 2 ^ 62)(h3:-(2 ^ 62)<=hi)(h4:hi < 2 ^ 62)
  (q:R (KM lo (hi - lo).toNat) H):Mo (Mt X.prog X.w) X.A (OD (.ref s.heap.objs.size)) (Hh X pins σ tg R) E { s with heap:=s.heap.push { cls:=.type "range",data:=.fields #[.int lo t,.int hi u,.int 1 v] },toks:=tk }:=by
 refine wpAny_pyIter_range (IsRange.new ..) (small_one h1 h2 h3 h4) ?_;have I1:Inv X pins σ H { s with heap:=s.heap.push { cls:=.type "range",data:=.fields #[.int lo t,.int hi u,.int 1 v] },toks:=tk }:=I.kept fun b o e=>Mn _ e
 refine⟨(s.heap.push { cls:=.type "range",data:=.fields #[.int lo t,.int hi u,.int 1 v] }).objs.size,[(s.heap.push { cls:=.type "range",data:=.fields #[.int lo t,.int hi u,.int 1 v] }).objs.size],_,_,H,rfl,
  I1.kept (t':=tk) fun b o e=>Mn _ e,Ai _ lo (hi - lo).toNat,?_,fun b hb=>?_,q⟩
 ·have e1:lo+((0:Nat):Int)*1=lo:=by simp
  have e2:(((hi - lo).toNat:Nat):Int) - ((0:Nat):Int)=Builtin.Range.rangeSize lo hi 1:=by rw[rangeSize_one];split<;>omega
  show IsRangeIter _ _ (lo+((0:Nat):Int)*1) ((((hi - lo).toNat:Nat):Int) - ((0:Nat):Int)) 1
  rw[e1,e2];exact Mq _ rfl
 ·have e:b=(s.heap.push { cls:=.type "range",data:=.fields #[.int lo t,.int hi u,.int 1 v] }).objs.size:=by simpa using hb
  subst e;exact I1.fpOk (le_refl _) (I1.hok.fresh (le_refl _))
def Kc(ta:TA):TI:=fun σ H R=>ta σ H fun vs H1=>∃ j:Int,vs=[.int j]/\-(2 ^ 62)<=j/\j < 2 ^ 62/\R (KM 0 j.toNat) H1
def Kb(ta:TA):TI:=fun σ H R=>ta σ H fun vs H1=>∃ i j:Int,vs=[.int i,.int j]/\(-(2 ^ 62)<=i/\i < 2 ^ 62/\-(2 ^ 62)<=j/\j < 2 ^ 62)/\R (KM i (j - i).toNat) H1
theorem Ck{a:MJ}{ta:TA}{p pos:Pos}(hg:Gl X "range")(hm:X.mg "range"=none)(ha:PA X [a] ta)(hs:Mu [a] X.env=[(false,eval a X.env)]:=by rfl):PI X tg (.Call (.Name "range" p) [a] [] pos) (Kc ta):=by
 intro pins s σ H R I h;refine QE (jc I hg hm boot_range (PyProof.Rows.callWith_type1 (cI (ha pos pins s σ H _ I h) fun us s1 ⟨vs,H1,I1,r1,q1⟩=>?_) hs rfl));obtain⟨j,e,q1,q2,q⟩:=q1;subst e;cases r1 with
 | cons r rr=>
  cases rr;obtain⟨t,rfl⟩:=r;exact call_range_1 (yQ I1 (by walk_at "o") (by walk_at "o") q1 q2 (by simpa using q))
theorem Cj{a b:MJ}{ta:TA}{p pos:Pos}(hg:Gl X "range")(hm:X.mg "range"=none)(ha:PA X [a,b] ta)(hs:Mu [a,b] X.env=[(false,eval a X.env),(false,eval b X.env)]:=by rfl)(hs2:Mu [b] X.env=[(false,eval b X.env)]:=by rfl):
  PI X tg (.Call (.Name "range" p) [a,b] [] pos) (Kb ta):=by
 intro pins s σ H R I h;refine QE (jc I hg hm boot_range (PyProof.Rows.callWith_type1 (cI (ha pos pins s σ H _ I h) fun us s1 ⟨vs,H1,I1,r1,q1⟩=>?_) (by rw[hs,hs2]) (by rw[hs2];rfl)))
 obtain⟨i,j,e,⟨q1,q2,q3,q4⟩,q⟩:=q1;subst e;cases r1 with
 | cons r rr=>
  cases rr with
  | cons r' rr=>
   cases rr;obtain⟨t,rfl⟩:=r;obtain⟨t',rfl⟩:=r';exact call_range_2 (yQ I1 q1 q2 q3 q4 q)
def Lb(wi:TI)(g:TG)(tb:TS):TS:=fun D σ H=>wi σ H fun J H1=>∃ W:Nat->Nat->St->Hp->Prop,(∃ m,W 0 m σ H1)/\∀ i m σ H,W i m σ H->
 (J.stop i H/\D.nx σ H)\/(J.go i H/\∃ N:St->Hp->Prop,(∀ σ' H',N σ' H'->∃ m',m' < m/\W (i+1) m' σ' H')/\∀ x H',J.yld i H x H'->g x σ H' fun σ2 H2=>tb { D with nx:=N,ct:=N,bk:=D.nx } σ2 H2)
def p7(fp:List Mg)(h:MG):List (Mg×Obj):=fp.filterMap fun b=>(h.get? b).map fun o=>(b,o)
theorem i_{fp:List Mg}{h:MG}{b:Mg}{o:Obj}(hb:b∈fp)(e:h.get? b=some o):(b,o)∈p7 fp h:=List.mem_filterMap.mpr ⟨b,hb,by rw[e];rfl⟩
theorem Cv{fp:List Mg}{h:MG}{p:Mg×Obj}(hp:p∈p7 fp h):p.1∈fp/\h.get? p.1=some p.2:=by
 obtain⟨b,hb,e⟩:=List.mem_filterMap.mp hp;cases q:h.get? b with
 | none=>rw[q]at e;cases e
 | some o=>
  rw[q]at e;have e':(b,o)=p:=Option.some.inj e;subst e';exact⟨hb,q⟩
theorem Inv.pinned{pins:List (Mg×Obj)}{σ:St}{H:Hp}{s:Mi}{fp:List Mg}(I:Inv X pins σ H s)(hf:∀ b∈fp,pB X pins H b)(ho:∀ b∈fp,∃ o,s.heap.get? b=some o/\∀ v,o.data≠.cell v):Inv X (pins ++ p7 fp s.heap) σ H s:=
 I.pins_of fun p hp=>(OE.mp hp).elim (fun z=>I.pin p (MW _ z)) fun z=>by
  obtain⟨hb,e⟩:=Cv z;obtain⟨f0,f1,f2,_⟩:=hf p.1 hb;obtain⟨o,e',d⟩:=ho p.1 hb;rw[e]at e';cases e';exact⟨e,f0,f1,f2,d⟩
theorem Inv.unpinned{pins pl:List (Mg×Obj)}{σ:St}{H:Hp}{s:Mi}(I:Inv X (pins ++ pl) σ H s):Inv X pins σ H s:=I.pins_of fun p hp=>I.pin p (MW _ (List.mem_append_left _ hp))
theorem D4{iter:MJ}{body:List ML}{wi:TI}{g:TG}{tb:TS}{pos:Pos}(hp:Pj (Mt X.prog X.w) X.A X.env X.xe)(hc:X.calm=true)(hi:PI X tg iter wi)(hg:PG X tg g)(hb:pE X body tb)
  (hs:∀ x,Nh iter X.env x=pure x:=by intro _;rfl):PS X (.For tg iter body [] pos) (Lb wi g tb):=by
 intro pins s σ H D I h;refine wpAny_For (cI (hi pins s σ H _ I h) fun v s1 h1=>cI h1 fun itv s2 h2=>?_) hs;obtain⟨it,fp,tn,J,H2,e,I2,T,st2,f2,W,⟨m0,w0⟩,turn⟩:=h2;subst e;have UE:∀ {H':Hp},(∀ b∈fp,H' b=none)->∀ b∈fp,pB X pins H' b:=fun hn b hb=>⟨hn b hb,(f2 b hb).2⟩;refine QG (fun n s'=>∃ i σ' H',Inv X pins σ' H' s'/\tn i s'.heap/\(∀ b∈fp,H' b=none)/\W i n σ' H') ?_ m0 ⟨0,σ,H2,I2,st2,fun b hb=>(f2 b hb).1,w0⟩
 rintro n s3 ⟨i,σ3,H3,I3,st3,fr3,w3⟩
 rcases turn i n σ3 H3 w3 with ⟨stop,qn⟩|⟨go,N,hN,step⟩
 ·refine Nb hp (cI (T.done X rfl rfl rfl hc i pins s3 σ3 H3 X.xe I3 (UE fr3) st3 stop) fun r s4 zz=>?_);obtain⟨hr,I4⟩:=zz;subst hr;exact Ow ⟨σ3,H3,I4,qn⟩
 ·refine Nb hp (cI (T.item X rfl rfl rfl hc i pins s3 σ3 H3 X.xe I3 (UE fr3) st3 go) fun r s4 zz=>?_);obtain⟨u,hr,h4⟩:=zz;subst hr;refine Nb hp (cI h4 fun _ s5 zz=>?_);obtain⟨x,H5,I5,r5,y5,st5,fr5⟩:=zz;have I5':=I5.pinned (UE fr5) (T.obj _ _ st5);refine Nb hp (cI (hg _ s5 σ3 H5 x u _ I5' r5 (step x H5 y5)) fun _ s6 zz=>?_);obtain⟨σ6,H6,I6,q6⟩:=zz;refine Nb hp (cI (hb _ s6 σ6 H6 _ I6 q6) fun f s7 q7=>?_);have again:∀ {σ7:St} {H7:Hp},Inv X (pins ++ p7 fp s5.heap) σ7 H7 s7->N σ7 H7->∃ m,m < n/\∃ i σ' H',Inv X pins σ' H' s7/\tn i s7.heap/\(∀ b∈fp,H' b=none)/\W i m σ' H':=fun {σ7 H7} I7 n7=>by
   obtain⟨m',hm,w7⟩:=hN σ7 H7 n7;refine⟨m',hm,i+1,σ7,H7,I7.unpinned,T.keep _ _ _ st5 fun b hb o e=>(I7.pin (b,o) (MW _ (MW _ (i_ hb e)))).1,fun b hb=>?_,w7⟩;obtain⟨o,e,d⟩:=T.obj _ _ st5 b hb;exact (I7.pin (b,o) (MW _ (MW _ (i_ hb e)))).2.1
  cases f with
  | next=>obtain⟨σ7,H7,I7,n7⟩:=q7;exact again I7 n7
  | cont=>obtain⟨σ7,H7,I7,n7⟩:=q7;exact again I7 n7
  | brk=>obtain⟨σ7,H7,I7,q7⟩:=q7;exact⟨σ7,H7,I7.unpinned,q7⟩
  | ret v=>obtain⟨x7,σ7,H7,I7,r7,q7⟩:=q7;exact⟨x7,σ7,H7,I7.unpinned,r7,q7⟩
end
abbrev R2:=V->V->Hp->VK->Prop
def gG(X:Cx)(f:Mh->Mh->Sem Mh)(r:R2):Prop:=
 ∀ (pins:List (Mg×Obj)) (s:Mi) (σ:St) (H:Hp) (x y:V) (v u:Mh) (Q:VK),Inv X pins σ H s->aI x v->aI y u->r x y H Q->
  Mo (Mt X.prog X.w) X.A (f v u) (EP X pins σ Q) X.xe s
def d8(X:Cx)(f:Mh)(r:List V->Hp->VK->Prop):Prop:=
 ∀ (pins:List (Mg×Obj)) (s:Mi) (σ:St) (H:Hp) (xs:List V) (us:List Mh) (Q:VK),Inv X pins σ H s->Vals xs us->r xs H Q->
  Mo (Mt X.prog X.w) X.A (call f us) (EP X pins σ Q) X.xe s
def LI(X:Cx)(r:V->Hp->(Bool->Hp->Prop)->Prop):Prop:=
 ∀ (pins:List (Mg×Obj)) (s:Mi) (σ:St) (H:Hp) (x:V) (v:Mh) (Q:Bool->Hp->Prop),Inv X pins σ H s->aI x v->r x H Q->
  Mo (Mt X.prog X.w) X.A (truthy v) (TP X pins σ Q) X.xe s
def Jo(r:R2)(ta tb:TE):TE:=fun σ H Q=>ta σ H fun x H1=>tb σ H1 fun y H2=>r x y H2 Q
def rI(C:Int->Int->Prop)(g:Int->Int->V):R2:=fun x y H Q=>∃ i j,x=.int i/\y=.int j/\C i j/\Q (g i j) H
def GX(g:Int->Int->V):R2:=fun x y H Q=>∃ i j,x=.int i/\y=.int j/\Q (g i j) H
section
variable{X:Cx}{a b c:MJ}{ta tb tc:TE}{pos:Pos}
theorem Jg(ha:PE X a ta)(hb:PE X b tb){pins:List (Mg×Obj)}{s:Mi}{σ:St}{H:Hp}{R:V->V->Hp->Prop}(I:Inv X pins σ H s)
  (h:ta σ H fun x H1=>tb σ H1 fun y H2=>R x y H2) {Q:Mh->Mi->Prop} {f:Mh->Mh->Sem Mh}
  (hf:∀ v u s2 x y H2,Inv X pins σ H2 s2->aI x v->aI y u->R x y H2->Mo (Mt X.prog X.w) X.A (f v u) Q X.xe s2):
  Mo (Mt X.prog X.w) X.A (eval a X.env) (fun v s₁=>Mo (Mt X.prog X.w) X.A (eval b X.env) (fun u s₂=>Mo (Mt X.prog X.w) X.A (f v u) Q X.xe s₂) X.xe s₁) X.xe s:=by
 refine cI (ha pins s σ H _ I h) fun v s1 zz=>?_;obtain⟨x,H1,I1,r1,q1⟩:=zz;refine cI (hb pins s1 σ H1 _ I1 q1) fun u s2 zz=>?_;obtain⟨y,H2,I2,r2,q2⟩:=zz;exact hf v u s2 x y H2 I2 r1 r2 q2
theorem JV{op:Operator}{r:R2}(ho:gG X (Na op) r)(ha:PE X a ta)(hb:PE X b tb):PE X (.BinOp a op b pos) (Jo r ta tb):=by
 intro pins s σ H Q I h;exact wpAny_BinOp (Jg ha hb I h fun v u s2 x y H2 I2 rx ry q=>ho pins s2 σ H2 x y v u Q I2 rx ry q)
theorem Jr{f:Mh->Mh->Sem Mh}{C:Int->Int->Prop}{g:Int->Int->Int}
  (rule:∀ (i j:Int) (t u:Tok) (s:Mi) (Q:Mh->Mi->Prop) (E:Mh->Mi->Prop),C i j->Q (.int (g i j) s.toks) { s with toks:=s.toks+1 }->Mo (Mt X.prog X.w) X.A (f (.int i t) (.int j u)) Q E s):
  gG X f (rI C fun i j=>.int (g i j)):=by
 intro pins s σ H x y v u Q I rx ry h;obtain⟨i,j,rfl,rfl,hc,q⟩:=h;obtain⟨t,rfl⟩:=rx;obtain⟨t',rfl⟩:=ry;exact rule i j t t' s _ _ hc ⟨.int (g i j),H,I.tok _,⟨_,rfl⟩,q⟩
theorem Im{f:Mh->Mh->Sem Mh}{g:Int->Int->Int}
  (rule:∀ (i j:Int) (t u:Tok) (s:Mi) (Q:Mh->Mi->Prop) (E:Mh->Mi->Prop),Q (.int (g i j) s.toks) { s with toks:=s.toks+1 }->Mo (Mt X.prog X.w) X.A (f (.int i t) (.int j u)) Q E s):
  gG X f (GX fun i j=>.int (g i j)):=by
 intro pins s σ H x y v u Q I rx ry h;obtain⟨i,j,rfl,rfl,q⟩:=h;obtain⟨t,rfl⟩:=rx;obtain⟨t',rfl⟩:=ry;exact rule i j t t' s _ _ ⟨.int (g i j),H,I.tok _,⟨_,rfl⟩,q⟩
theorem J6{f:Mh->Mh->Sem Mh}{g:Int->Int->Bool}
  (rule:∀ (i j:Int) (t u:Tok) (s:Mi) (Q:Mh->Mi->Prop) (E:Mh->Mi->Prop),Q (.bool (g i j)) s->Mo (Mt X.prog X.w) X.A (f (.int i t) (.int j u)) Q E s):
  gG X f (GX fun i j=>.bl (g i j)):=by
 intro pins s σ H x y v u Q I rx ry h;obtain⟨i,j,rfl,rfl,q⟩:=h;obtain⟨t,rfl⟩:=rx;obtain⟨t',rfl⟩:=ry;exact rule i j t t' s _ _ ⟨.bl (g i j),H,I,rfl,q⟩
def KQ(i j:Int):Prop:=0 < j/\j < 1073741824
def GN(i j:Int):Prop:=0<=j/\j<=1000000/\i.natAbs < 2 ^ 64
def GP(i j:Int):Prop:=(-(2 ^ 64) < i/\i < 2 ^ 64)\/(-(2 ^ 64) < j/\j < 2 ^ 64)
theorem GP.ok{i j:Int}(h:GP i j):IntMulOk i j:=by
 rcases h with ⟨h1,h2⟩|⟨h1,h2⟩
 ·exact .of_left (intBits_le_64 h1 h2)
 ·exact .of_right (intBits_le_64 h1 h2)
theorem Ag(k:Nat):(0:Int)<=2 ^ k:=by
 rw[two_pow_cast];exact Int.natCast_nonneg _
theorem Il:gG X (Na .Add) (GX fun i j=>.int (i+j)):=Im fun _ _ _ _ _ _ _ q=>add_int q
theorem Ic:gG X (Na .Sub) (GX fun i j=>.int (i - j)):=Im fun _ _ _ _ _ _ _ q=>sub_int q
theorem Ii:gG X (Na .Mult) (rI GP fun i j=>.int (i*j)):=Jr fun _ _ _ _ _ _ _ hc q=>mul_int q hc.ok
theorem FZ:gG X (Na .FloorDiv) (rI KQ fun i j=>.int (i / j)):=Jr fun i j _ _ _ _ _ hc q=>by
 have h1:(0:Int) < j:=hc.1;have h2:j < 1073741824:=hc.2;exact floordiv_int (by walk_at "o") (by rw[Int.fdiv_eq_ediv_of_nonneg i (by walk_at "o")];exact q) (.inl (PyProof.noPylong_small (by walk_at "o")))
theorem Ij:gG X (Na .Mod) (rI (fun _ j=>0 < j) fun i j=>.int (i % j)):=Jr fun i j _ _ _ _ _ hc q=>by
 have h1:(0:Int) < j:=hc;exact mod_int' (by walk_at "o") (by rw[Int.fmod_eq_emod_of_nonneg i (by walk_at "o")];exact q)
theorem Ih:gG X (Na .Pow) (rI GN fun i j=>.int (i ^ j.toNat)):=Jr fun _ _ _ _ _ _ _ hc q=>pow_int_small hc.1 hc.2.1 hc.2.2 q
theorem Ig:gG X (Na .LShift) (rI GN fun i j=>.int (i*2 ^ j.toNat)):=Jr fun _ _ _ _ _ _ _ hc q=>lshift_int_small hc.1 hc.2.1 hc.2.2 q
theorem Ie:gG X (Na .RShift) (rI (fun _ j=>0<=j) fun i j=>.int (i / 2 ^ j.toNat)):=Jr fun i j _ _ _ _ _ hc q=>
 rshift_int hc (by rw[Int.fdiv_eq_ediv_of_nonneg i (Ag _)];exact q)
theorem Ik:gG X (Na .BitAnd) (GX fun i j=>.int (Pf i j)):=Im fun _ _ _ _ _ _ _ q=>and_int q
theorem J4:gG X (MT .Lt) (GX fun i j=>.bl (decide (i < j))):=J6 fun _ _ _ _ _ _ _ q=>lt_int q
theorem J5:gG X (MT .LtE) (GX fun i j=>.bl (decide (i<=j))):=J6 fun _ _ _ _ _ _ _ q=>le_int q
theorem gG.or{f:Mh->Mh->Sem Mh}{r r':R2}(h:gG X f r)(h':gG X f r'):gG X f (fun x y H Q=>r x y H Q\/r' x y H Q):=by
 intro pins s σ H x y v u Q I rx ry q;rcases q with q|q
 ·exact h pins s σ H x y v u Q I rx ry q
 ·exact h' pins s σ H x y v u Q I rx ry q
theorem bP(b:MJ){op:OS}(h:op≠.In:=by decide)(h2:op≠.NotIn:=by decide):Nf op b=false:=by
 have e1:(op == CmpOp.In)=false:=by cases op<;>first|rfl|exact absurd rfl h
 have e2:(op == CmpOp.NotIn)=false:=by cases op<;>first|rfl|exact absurd rfl h2
 cases b<;>simp[Nf,e1,e2]
theorem FR{op:OS}{r:R2}(ho:gG X (MT op) r)(ha:PE X a ta)(hb:PE X b tb)(hm:Nf op b=false):PE X (.Compare a [op] [b] pos) (Jo r ta tb):=by
 intro pins s σ H Q I h;exact wpAny_Compare1 (Jg ha hb I h fun v u s2 x y H2 I2 rx ry q=>ho pins s2 σ H2 x y v u Q I2 rx ry q) hm
def Dr(t:TE):TT:=fun σ H Q=>t σ H fun x H'=>∃ k,x=.bl k/\Q k H'
theorem Bw{op:OS}{r:R2}(ho:gG X (MT op) r)(ha:PE X a ta)(hb:PE X b tb)(hm:Nf op b=false):PT X (.Compare a [op] [b] pos) (Dr (Jo r ta tb)):=by
 intro pins s σ H Q I h;refine Qv (cI (ha pins s σ H _ I h) fun v s1 zz=>?_) hm;obtain⟨x,H1,I1,r1,q1⟩:=zz;refine cI (hb pins s1 σ H1 _ I1 q1) fun u s2 zz=>?_;obtain⟨y,H2,I2,r2,q2⟩:=zz;refine cI (ho pins s2 σ H2 x y v u _ I2 r1 r2 q2) fun c s3 zz=>?_;obtain⟨z,H3,I3,r3,k,e,q3⟩:=zz;subst e;cases r3;exact NB ⟨H3,I3,q3⟩
def Dt(r r':R2)(ta tb tc:TE):TE:=fun σ H Q=>ta σ H fun x H1=>tb σ H1 fun y H2=>r x y H2 fun z H3=>∃ k,z=.bl k/\
 (if k=true then tc σ H3 fun w' H4=>r' y w' H4 Q else Q (.bl false) H3)
theorem DT{op op':OS}{r r':R2}(ho:gG X (MT op) r)(ho':gG X (MT op') r')(ha:PE X a ta)(hb:PE X b tb)(hc:PE X c tc)
  (hm:lastMarks [op,op'] [b,c]=false:=by with_unfolding_all rfl):PT X (.Compare a [op,op'] [b,c] pos) (Dr (Dt r r' ta tb tc)):=by
 intro pins s σ H Q I h;refine isTrue_chain (cI (ha pins s σ H _ I h) fun v s1 ⟨x,H1,I1,r1,q1⟩=>test_link (cI (hb pins s1 σ H1 _ I1 q1) fun u s2 zz=>?_)) hm;obtain⟨y,H2,I2,r2,q2⟩:=zz;refine cI (ho pins s2 σ H2 x y v u _ I2 r1 r2 q2) fun d s3 zz=>?_;obtain⟨z,H3,I3,r3,k,e,q3⟩:=zz;subst e;cases r3;refine NB ?_;cases k with
 | false=>
  obtain⟨k',e',q'⟩:=q3;cases e';exact ite_ff ⟨H3,I3,q'⟩
 | true=>
  refine ite_tt (test_last (cI (hc pins s3 σ H3 _ I3 q3) fun w' s4 zz=>?_));obtain⟨z',H4,I4,r4,q4⟩:=zz;refine cI (ho' pins s4 σ H4 y z' u w' _ I4 r2 r4 q4) fun d' s5 zz=>?_;obtain⟨z2,H5,I5,r5,k2,e2,q5⟩:=zz;subst e2;cases r5;exact NB ⟨H5,I5,q5⟩
def KH(K:PySem.W.Frag)(x:V)(H:Hp)(k:Bool):Prop:=
 match x with
 | .non=>k=false
 | .bl b=>k=b
 | .int i=>k=(i != 0)
 | .str y=>y.length<=Mp/\k=((y.length:Int) != 0)
 | .byt y=>y.size<=Mp/\k=((y.size:Int) != 0)
 | .ref p=>(∃ xs,jw K H p xs/\k=!xs.isEmpty)\/(∃ xs,kt K H p xs/\k=!xs.isEmpty)\/∃ kvs,H p=some (.dK kvs)/\k=!kvs.isEmpty
 | _=>False
theorem A6{κ:Type}{kvs:List (κ×V)}{vs:List (κ×Mh)}(r:KV kvs vs):(!vs.isEmpty)=!kvs.isEmpty:=by
 cases r<;>rfl
theorem t_{xs:List V}{its:List Mh}(r:Vals xs its):(!its.toArray.isEmpty)=!xs.isEmpty:=by
 cases r<;>simp
theorem lL:(Mp:Nat) < 2 ^ 63:=by rw[Nn];decide
theorem Hq:LI X (fun x H Q=>∃ k,KH X.K x H k/\Q k H):=by
 intro pins s σ H x v Q I rx h;obtain⟨k,e,q⟩:=h;have hl:=lL;have hs:Mp=16777216:=Nn;cases x with
 | non=>
  cases rx;have e':k=false:=e;subst e';exact truthy_none ⟨H,I,q⟩
 | bl b=>
  cases rx;have e':k=b:=e;subst e';exact NB ⟨H,I,q⟩
 | int i=>
  obtain⟨t,rfl⟩:=rx;have e':k=(i != 0):=e;subst e';exact PySem.P.truthy_int ⟨H,I,q⟩
 | str y=>
  obtain⟨t,rfl⟩:=rx;obtain⟨hy,e'⟩:y.length<=Mp/\k=((y.length:Int) != 0):=e;subst e';exact PySem.P.truthy_str (by walk_at "o") ⟨H,I.tok _,q⟩
 | byt y=>
  obtain⟨t,rfl⟩:=rx;obtain⟨hy,e'⟩:y.size<=Mp/\k=((y.size:Int) != 0):=e;subst e';exact PySem.W.truthy_bytes (by walk_at "o") ⟨H,I.tok _,q⟩
 | ref p=>
  cases rx;have e':(∃ xs,jw X.K H p xs/\k=!xs.isEmpty)\/(∃ xs,kt X.K H p xs/\k=!xs.isEmpty)\/∃ kvs,H p=some (.dK kvs)/\k=!kvs.isEmpty:=e;rcases e' with ⟨xs,hx,e'⟩|⟨xs,hx,e'⟩|⟨kvs,hx,e'⟩
  ·subst e';obtain⟨its,r,pl,hz⟩:=I.list hx;have hlen:=r.length;exact wpAny_truthy_list pl.isList (by simp only[Mv];omega) ⟨H,I.tok _,by rw[t_ r];exact q⟩
  ·subst e';obtain⟨its,r,pl,hz⟩:=I.tuple hx;have hlen:=r.length;exact truthy_tuple pl (by simp only[Mv];omega) ⟨H,I.tok _,by rw[t_ r];exact q⟩
  ·subst e';obtain⟨hz,hS,vs,r,m⟩:kvs.length<=Mp/\(p == M9)=false/\∃ vs,KV kvs vs/\s.heap.DictOf (bv X.prog X.w) p vs:=I.hok p _ hx;have hlen:kvs.length=vs.length:=N7 r;exact wpAny_truthy_dict hS m (by walk_at "o") ⟨H,I.tok _,by rw[A6 r];exact q⟩
 | _=>exact (show False from e).elim
theorem DR(ha:PE X a ta)(he:∀ whole,Qm a X.env whole=(do let v <- whole;Oz a.pos;holding [v] (truthy v))):
  PT X a (fun σ H Q=>ta σ H fun x H'=>∃ k,KH X.K x H' k/\Q k H'):=by
 intro pins s σ H Q I h;exact isTrue_plain (cI (ha pins s σ H _ I h) fun v s1 ⟨x,H1,I1,r1,q1⟩=>Hq pins s1 σ H1 x v Q I1 r1 q1) (he _)
theorem AO:gG X (Na .Add) (fun x y H Q=>∃ i j,x=.str i/\y=.str j/\i.length+j.length<=Mp/\Q (.str (i ++ j)) H):=by
 intro pins s σ H x y v u Q I rx ry h;obtain⟨i,j,rfl,rfl,hz,q⟩:=h;obtain⟨t,rfl⟩:=rx;obtain⟨t',rfl⟩:=ry;exact add_str (fun t' tk=>⟨.str (i ++ j),H,I.tok _,⟨_,rfl⟩,q⟩) hz
theorem sd{x:V}{us:List Mh}(r:Vals [x] us):∃ u,us=[u]/\aI x u:=by
 cases r with
 | cons r1 r2=>cases r2;exact⟨_,rfl,r1⟩
theorem Dl{x y:V}{us:List Mh}(r:Vals [x,y] us):∃ u w',us=[u,w']/\aI x u/\aI y w':=by
 cases r with
 | cons r1 r2=>
  cases r2 with
  | cons r3 r4=>cases r4;exact⟨_,_,rfl,r1,r3⟩
theorem C0(hc:X.calm=true):d8 X (.builtin "min") (fun xs H Q=>∃ i j,xs=[.int i,.int j]/\Q (.int (if j < i then j else i)) H):=by
 intro pins s σ H xs us Q I r h;obtain⟨i,j,rfl,q⟩:=h;obtain⟨u,w',rfl,⟨t,rfl⟩,⟨t',rfl⟩⟩:=Dl r;refine min_two_ints (I.ok.hd hc) fun h' tk k=>⟨_,H,I.kept k,?_,q⟩
 by_cases hj:j < i
 ·rw[if_pos hj,if_pos hj];exact⟨_,rfl⟩
 ·rw[if_neg hj,if_neg hj];exact⟨_,rfl⟩
end
structure ObjM(h:MG)(x dx C:Mg)(mA:Str->Option Mh):Prop where
 obj:h.get? x=some (OU C dx)
 ns:h.Ns1 dx mA
 ne:dx≠x
theorem CB{h:MG}{dx:Mg}{mA:Str->Option Mh}(n:h.Ns1 dx mA):∃ od,h.get? dx=some od/\∀ name,PySem.W.lookIn name od=some (mA name):=by
 obtain⟨o,es,ep,ho,hd,hk,_,hm⟩:=n;refine⟨o,ho,fun name=>?_⟩;have e:=hm name;unfold nsFind findBy at e;rw[<- Array.find?_toList]at e;unfold PySem.W.lookIn;rw[hd];dsimp only;split
 ·rename_i y q;rw[q]at e;exact congrArg some e
 ·rename_i q;rw[q]at e;have a:es.toList.any (·.refKey)=false:=by
   rw[List.any_eq_false];intro y hy;obtain⟨z,t,hkey⟩:=hk y (Array.mem_toList_iff.mp hy);simp[DictEntry.refKey,hkey]
  have a':¬ es.toList.any (·.refKey)=true:=by rw[a];exact Bool.false_ne_true
  rw[if_neg a'];exact congrArg some e
theorem ObjM.look{h:MG}{x dx C:Mg}{mA:Str->Option Mh}(I:ObjM h x dx C mA):∃ od,PySem.W.InstAt h x (OU C dx) C (some od)/\∀ name,PySem.W.lookIn name od=some (mA name):=
 let ⟨od,ho,hl⟩:=CB I.ns
 ⟨od,⟨I.obj,rfl,rfl,ho⟩,hl⟩
section
variable{prog:Mw}{w:ME}{A:MA}{E:Mh->Mi->Prop}{s:Mi}{K:PySem.W.Frag}{x dx C f:Mg}{mA:Str->Option Mh}{name:Str}{v:Mh}
theorem Gn{expr:Bool}{Q:Mh->Mi->Prop}(X:K.In s.heap)(I:ObjM s.heap x dx C mA)(hg:P4 K C name=true)(hh:PySem.W.hasDictIn K C=true)
  (ha:PySem.W.findIn K (.ref C) name=some none) (hv:mA name=some v) (hv':PySem.W.handedIn v=true) (h:Q v { s with toks:=s.toks+1 }):
  Mo (Mt prog w) A (getAttr (.ref x) name expr) Q E s:=by
 obtain⟨od,J,hl⟩:=I.look;exact PySem.W.get_value X J (PR hg).1 (PySem.W.findObj_own hh ha rfl (by rw[hl,hv])) hv' h
theorem EC{pl:Sem Bool}{Q:Mh×List Mh->Mi->Prop}(X:K.In s.heap)(I:ObjM s.heap x dx C mA)(hg:P4 K C name=true)
  (hf:PySem.W.findIn K (.ref C) name=some (some (.ref f))) (ht:PySem.W.isFn K (.ref f)=true) (hv:mA name=none) (h:Q (.ref f,[.ref x]) s):
  Mo (Mt prog w) A (OC (.ref x) name pl) Q E s:=by
 obtain⟨od,J,hl⟩:=I.look;exact PySem.W.method_fn X J (PR hg).1 (PR hg).2 hf (beq_iff_eq.mp ht) (by show (PySem.W.lookIn name od).map (·.isSome)=some false;rw[hl,hv];rfl) h
theorem Fv{ns:List Str}{Q:Unit->Mi->Prop}(X:K.In s.heap)(I:ObjM s.heap x dx C mA)
  (hs:PySem.W.findIn K (.ref C) "__setattr__"=some (some (.builtin "object.__setattr__"))) (hp:PySem.W.plainOver K C=true) (ht:Qk K C name=some none) (hh:PySem.W.hasDictIn K C=true)
  (hw:PySem.Within mA ns) (hsz:ns.length<=Mp)
  (h:∀ h',ObjM h' x dx C (fun y=>if y=name then some v else mA y)->NC dx s.heap h'->Q () { s with heap:=h',toks:=s.toks+2 }):
  Mo (Mt prog w) A (setAttr (.ref x) name v) Q E s:=by
 obtain⟨od,J,hl⟩:=I.look;refine PySem.W.set_plain X J hs (PySem.W.osa_open (s:={ s with toks:=s.toks+1 }) (r:=none) X J hp ht fun b=>?_)
 obtain⟨cd,hc,hd'⟩:=PySem.W.any_some hh;have hx:s.heap.get? x=some ⟨.ref C,some dx,.plain,#[]⟩:=I.obj;refine Mf (Ml (Mf (Mf (wpAny_loadPart hx (Mf (PySem.W.Looks.here (s:={ s with toks:=s.toks+1 }) (PySem.W.looks_clsIn X hc) ?_))))))
 rw[hd'];refine Ml (a:=some dx) (Mf (Ml (Mf ?_)));refine wpAny_nsSet1 (s:={ s with toks:=s.toks+1 }) I.ns fun h' hn2 hs2=>?_
 obtain⟨oD,esD,epD,hoD,hdD,hcD⟩:=hn2.count (PySem.Within.cons name v hw);refine Mf (wpAny_lookBehind hoD (by rw[hdD];exact pastItsLine_dict (le_trans hcD (by rw[MD];omega))) ?_)
 exact Ml (h _ ⟨(hs2.2 _ (Ne.symm I.ne)).trans I.obj,hn2,I.ne⟩ hs2)
theorem En{R:QT->Mi->Prop}{vs:List Mh}{kw:List (Str×Mh)}(X:K.In s.heap)(hm:PySem.W.makesIn K C=true)
  (hi:PySem.W.findIn K (.ref C) "__init__"=some (some (.ref f))) (hf:typeIn K (.ref f)=some (.type "function"))
  (h:OB (Mt prog w) (A.under (.builtin "type.__call__" ⟨.ref C::vs,kw⟩)) (.call (.ref f) ⟨.ref (s.heap.objs.size+1)::vs,kw⟩) (PySem.W.InitBack (s.heap.objs.size+1) R)
   { s with heap:=(s.heap.push Oh).push (OU C s.heap.objs.size) }):
  OB (Mt prog w) A (.call (.ref C) ⟨vs,kw⟩) R s:=by
 obtain⟨hh,g,d,t,os⟩:=s;exact PySem.W.make_core (PySem.W.makes_of X hm) (PySem.W.looks_findIn X hi) (fun self=>PySem.W.bind_fn X self hf) (.inl rfl) h
end
def fU(f:Str)(v:V):List (Str×V)->List (Str×V)
 | []=>[(f,v)]
 | (g,x)::r=>if g=f then (g,v)::r else (g,x)::fU f v r
theorem qP(f g:Str)(v:V):∀ fs:List (Str×V),(fU f v fs).lookup g=if g=f then some v else fs.lookup g
 | []=>by
  show List.lookup g [(f,v)]=_
  by_cases h:g=f
  ·have hb:(g == f)=true:=beq_iff_eq.mpr h;simp only[List.lookup,hb,if_pos h]
  ·have hb:(g == f)=false:=beq_eq_false_iff_ne.mpr h;simp only[List.lookup,hb,if_neg h]
 | (k,x)::r=>by
  have ih:=qP f g v r;rw[show fU f v ((k,x)::r)=(if k=f then (k,v)::r else (k,x)::fU f v r)from rfl]
  by_cases hk:k=f
  ·rw[if_pos hk]
   by_cases h:g=k
   ·have hb:(g == k)=true:=beq_iff_eq.mpr h;simp only[List.lookup,hb,if_pos (h.trans hk)]
   ·have hb:(g == k)=false:=beq_eq_false_iff_ne.mpr h;simp only[List.lookup,hb,if_neg (fun e:g=f=>h (e.trans hk.symm))]
  ·rw[if_neg hk]
   by_cases h:g=k
   ·have hb:(g == k)=true:=beq_iff_eq.mpr h;simp only[List.lookup,hb,if_neg (fun e:g=f=>hk (h.symm.trans e))]
   ·have hb:(g == k)=false:=beq_eq_false_iff_ne.mpr h;simp only[List.lookup,hb];exact ih
theorem qu(f:Str)(v:V):∀ fs:List (Str×V),f∈(fU f v fs).map (·.1)/\∀ g,g∈fs.map (·.1)->g∈(fU f v fs).map (·.1)
 | []=>⟨by simp[fU],fun g h=>by simp at h⟩
 | (k,x)::r=>by
  obtain⟨i1,i2⟩:=qu f v r;rw[show fU f v ((k,x)::r)=(if k=f then (k,v)::r else (k,x)::fU f v r)from rfl]
  by_cases hk:k=f
  ·rw[if_pos hk];subst hk;exact⟨by simp,fun g h=>by simpa using h⟩
  ·rw[if_neg hk];refine⟨?_,fun g h=>?_⟩
   ·rw[MF];exact Mz _ i1
   ·rw[MF]at h ⊢;rcases MV.mp h with e|e
    ·exact MV.mpr (.inl e)
    ·exact Mz _ (i2 g e)
theorem qR(f:Str)(v:V):∀ fs:List (Str×V),(fU f v fs).length<=fs.length+1
 | []=>by simp[fU]
 | (k,x)::r=>by
  have ih:=qR f v r;rw[show fU f v ((k,x)::r)=(if k=f then (k,v)::r else (k,x)::fU f v r)from rfl]
  by_cases hk:k=f
  ·rw[if_pos hk,MD,MD];omega
  ·rw[if_neg hk,MD,MD];omega
theorem kM.some_of{v:V}{o:Option Mh}(r:kM (some v) o):∃ u,o=some u/\aI v u:=by
 cases o with
 | none=>exact (show False from r).elim
 | some u=>exact⟨u,rfl,r⟩
theorem kM.none_of{o:Option Mh}(r:kM none o):o=none:=by
 cases o with
 | none=>rfl
 | some u=>exact (show False from r).elim
theorem CN{v:V}{u:Mh}(r:aI v u):PySem.W.handedIn u=true:=by
 cases v with
 | non=>cases (show u=Value.none from r);rfl
 | bl b=>cases (show u=Value.bool b from r);rfl
 | int i=>obtain⟨t,e⟩:=(show ∃ t,u=Value.int i t from r);cases e;rfl
 | str x=>obtain⟨t,e⟩:=(show ∃ t,u=Value.str x t from r);cases e;rfl
 | byt b=>obtain⟨t,e⟩:=(show ∃ t,u=Value.bytes b t from r);cases e;rfl
 | flt b=>obtain⟨t,e⟩:=(show ∃ t,u=Value.float b t from r);cases e;rfl
 | ref a=>cases (show u=Value.ref a from r);rfl
 | ty n=>cases (show u=Value.type n from r);rfl
section
variable{P:Mw}{w:ME}{H H':Hp}{h h':MG}{a C dx:Mg}{fs fs':List (Str×V)}
theorem rY(hok:mr P w H h)(e:H a=some (.ins C dx fs)):∃ mA,ObjM h a dx C mA/\(∀ f,kM (fs.lookup f) (mA f))/\PySem.Within mA (fs.map (·.1))/\fs.length<=1000/\H dx=some (.own a):=by
 obtain⟨d,z,ne,ob,mA,n,r,q⟩:=(show cg P w H h a (.ins C dx fs)from hok a _ e)
 exact⟨mA,⟨ob,n,ne⟩,r,q,z,d⟩
end
structure Cls(K:PySem.W.Frag)(C:Mg):Prop where
 pg:P4 K C Str.empty=true
 hd:PySem.W.hasDictIn K C=true
 po:PySem.W.plainOver K C=true
 sa:PySem.W.findIn K (.ref C) "__setattr__"=some (some (.builtin "object.__setattr__"))
theorem Cls.get{K:PySem.W.Frag}{C:Mg}(c:Cls K C)(f:Str):P4 K C f=true:=c.pg
def cX(K:PySem.W.Frag)(C:Mg)(f:Str):Prop:=PySem.W.findIn K (.ref C) f=some none
theorem cX.taker{K:PySem.W.Frag}{C:Mg}{f:Str}(n:cX K C f):Qk K C f=some none:=by
 unfold Qk;rw[show PySem.W.findIn K (.ref C) f=some none from n]
 rfl
structure Con(K:PySem.W.Frag)(C:Mg)(f:Str)(v:V)(u:Mh):Prop where
 at_:PySem.W.findIn K (.ref C) f=some (some u)
 rel:aI v u
 get:PySem.W.specialIn K u "__get__"=some none
 cp:PySem.W.copiedNames.contains f=false
structure Meth(K:PySem.W.Frag)(C:Mg)(m:Str)(f:Mg):Prop where
 at_:PySem.W.findIn K (.ref C) m=some (some (.ref f))
 fn:PySem.W.isFn K (.ref f)=true
 kp:PySem.W.keepIn K (.ref f)=true
section
variable{X:Cx}{pins:List (Mg×Obj)}{σ:St}{H:Hp}{s:Mi}{a C dx:Mg}{fs:List (Str×V)}{f:Str}{v:V}{A:MA}{E:Mh->Mi->Prop}
theorem A_{b:Bool}{Q:Mh->Mi->Prop}(I:Inv X pins σ H s)(e:H a=some (.ins C dx fs))(c:Cls X.K C)(n:cX X.K C f)(l:fs.lookup f=some v)
  (h:∀ u s',Inv X pins σ H s'->aI v u->Q u s'):Mo (Mt X.prog X.w) A (getAttr (.ref a) f b) Q E s:=by
 obtain⟨mA,O,r,_,_,_⟩:=rY I.hok e;obtain⟨u,hu,ru⟩:=kM.some_of (v:=v) (o:=mA f) (by rw[<- l];exact r f)
 exact Gn I.kIn O (c.get f) c.hd n hu (CN ru) (h u _ (I.tok _) ru)
theorem nO{m:Str}{g:Mg}{pl:Sem Bool}{Q:Mh×List Mh->Mi->Prop}(I:Inv X pins σ H s)(e:H a=some (.ins C dx fs))(c:Cls X.K C)(k:Meth X.K C m g)(l:fs.lookup m=none)
  (h:Q (.ref g,[.ref a]) s):Mo (Mt X.prog X.w) A (OC (.ref a) m pl) Q E s:=by
 obtain⟨mA,O,r,_,_,_⟩:=rY I.hok e;have hn:mA m=none:=kM.none_of (by rw[<- l];exact r m)
 exact EC I.kIn O (c.get m) k.at_ k.fn hn h
theorem An{y:V}{u:Mh}{Q:Unit->Mi->Prop}(I:Inv X pins σ H s)(e:H a=some (.ins C dx fs))(c:Cls X.K C)(n:cX X.K C f)(hl:fs.length < 1000)(ry:aI y u)
  (h:∀ s',Inv X pins σ (bE H a (.ins C dx (fU f y fs))) s'->Q () s'):Mo (Mt X.prog X.w) A (setAttr (.ref a) f u) Q E s:=by
 obtain⟨mA,O,r,wi,_,ho⟩:=rY I.hok e;have hz:(fs.map (·.1)).length<=Mp:=by rw[Mm,Nn];omega
 refine Fv I.kIn O c.sa c.po n.taker c.hd wi hz fun h' O' sb=>h _ ?_;have hd:∃ o,h'.get? dx=some o:=let ⟨o,_,_,e',_⟩:=O'.ns;⟨o,e'⟩;refine I.write (x:=a) (e:=dx) (by rw[e];exact True.intro) (.inr ho) (fun b q hb z=>(sb.2 b hb).trans z) hd ?_
 refine⟨by rw[aA O.ne];exact ho,?_,O.ne,O'.obj,_,O'.ns,fun g=>?_,fun g hg=>?_⟩
 ·have:=qR f y fs;omega
 ·show kM ((fU f y fs).lookup g) (if g=f then some u else mA g)
  rw[qP]
  by_cases q:g=f
  ·rw[if_pos q,if_pos q];exact ry
  ·rw[if_neg q,if_neg q];exact r g
 ·by_cases q:g=f
  ·rw[q];exact (qu f y fs).1
  ·refine (qu f y fs).2 g (wi g fun z=>hg ?_);show (if g=f then some u else mA g)=none
   rw[if_neg q];exact z
theorem Inv.made(I:Inv X pins σ H s):Inv X pins σ (bE (bE H s.heap.objs.size (.own (s.heap.objs.size+1))) (s.heap.objs.size+1) (.ins C s.heap.objs.size []))
  { s with heap:=(s.heap.push Oh).push (OU C s.heap.objs.size) }:=by
 have e1:(s.heap.push Oh).get? s.heap.objs.size=some Oh:=Mq s.heap rfl;have e2:((s.heap.push Oh).push (OU C s.heap.objs.size)).get? (s.heap.objs.size+1)=some (OU C s.heap.objs.size):=by
  have:=Mq (s.heap.push Oh) (o:=OU C s.heap.objs.size) rfl;rwa[NA]at this
 have e3:(s.heap.push Oh).Ns s.heap.objs.size (fun _=>none):=⟨Oh,#[],_,e1,rfl,(fun e he=>absurd he (by simp)),fun _=>rfl⟩
 have I1:=I.laid (a:=s.heap.objs.size) (o:=.own (s.heap.objs.size+1)) (h':=s.heap.push Oh) (t':=s.toks) (fun b u q=>Mn _ q) (le_refl _) ⟨_,e1⟩;refine I1.laid (a:=s.heap.objs.size+1) (o:=.ins C s.heap.objs.size []) (t':=s.toks) (fun b u q=>Mn _ q) (Nat.le_of_eq (NA _ _)) ?_;have ne:s.heap.objs.size≠s.heap.objs.size+1:=MO (Oj _);refine⟨by rw[aA ne,aZ],M6 _,ne,e2,fun _=>none,(Heap.Ns1.of_empty e3).at fun o q=>Mn _ q,fun _=>True.intro,fun y hy=>absurd rfl hy⟩
theorem GC{prog:Mw}{w:ME}{env:Env}{e:MJ}{f:Str}{pos:Pos}{s:Mi}{Q:Mh->Mi->Prop}(hb:ND e f env (eval e env)=eval e env)
  (h:Mo (Mt prog w) A (eval e env) (fun o s₁=>Mo (Mt prog w) A (getAttr o f true) Q E s₁) E s):Mo (Mt prog w) A (eval (.Attribute e f pos) env) Q E s:=
 Attribute_any_ h (by rw[arm_eval_Attribute,hb])
end
def Lc(K:PySem.W.Frag)(ta:TE)(f:Str):TE:=fun σ H Q=>ta σ H fun x H1=>∃ a C dx fs v,x=.ref a/\H1 a=some (.ins C dx fs)/\Cls K C/\cX K C f/\fs.lookup f=some v/\Q v H1
def Lg(K:PySem.W.Frag)(ta tv:TE)(f:Str):TS:=fun D σ H=>tv σ H fun y H1=>ta σ H1 fun x H2=>∃ a C dx fs,x=.ref a/\H2 a=some (.ins C dx fs)/\Cls K C/\cX K C f/\fs.length < 1000/\
 D.nx σ (bE H2 a (.ins C dx (fU f y fs)))
section
variable{X:Cx}{o e value:MJ}{f:Str}{pos pos' tpos:Pos}{ta tv:TE}
theorem D_(he:PE X e ta)(hb:ND e f X.env (eval e X.env)=eval e X.env):PE X (.Attribute e f pos) (Lc X.K ta f):=by
 intro pins s σ H Q I h;refine GC hb (cI (he pins s σ H _ I h) fun u s1 zz=>?_);obtain⟨x,H1,I1,rx,a,C,dx,fs,v,ex,ea,c,n,l,q⟩:=zz;subst ex;obtain rfl:u=Value.ref a:=rx;exact A_ I1 ea c n l fun u' s2 I2 ru=>⟨v,H1,I2,ru,q⟩
theorem AC(ha:PE X o ta)(hv:PE X value tv)(hs:NR value (some (.Attribute o f pos')) pos.line X.env=pure false):PS X (.Assign [.Attribute o f pos'] value pos) (Lg X.K ta tv f):=by
 intro pins s σ H D I h;refine plainObj_wpAny_Assign_Attribute (cI (hv pins s σ H _ I h) fun u s1 zz=>?_) hs;obtain⟨y,H1,I1,ry,q⟩:=zz;refine cI (ha pins s1 σ H1 _ I1 q) fun ov s2 zz=>?_;obtain⟨x,H2,I2,rx,a,C,dx,fs,ex,ea,c,n,l,q2⟩:=zz;subst ex;obtain rfl:ov=Value.ref a:=rx;exact An I2 ea c n l ry fun s3 I3=>⟨σ,_,I3,q2⟩
end
section
variable{X:Cx}{pins:List (Mg×Obj)}{σ:St}{H:Hp}{s:Mi}{A:MA}{E:Mh->Mi->Prop}{Q:Mh->Mi->Prop}{c:Mh}{b:Bool}
inductive TyOf(K:PySem.W.Frag)(H:Hp):V->Mh->Prop where
 | non:TyOf K H .non (.type "NoneType")
 | bl (x:Bool):TyOf K H (.bl x) (.type "bool")
 | int (i:Int):TyOf K H (.int i) (.type "int")
 | str (x:Str):TyOf K H (.str x) (.type "str")
 | flt (x:UInt64):TyOf K H (.flt x) (.type "float")
 | lst {a:Mg} {xs:List V} (e:H a=some (.lst xs)):TyOf K H (.ref a) (.type "list")
 | frz {a:Mg} {o:Obj} {xs:List V} (e:H a=some (.frz o (.lst xs))):TyOf K H (.ref a) (.type "list")
 | tup {a:Mg} {xs:List V} (e:H a=some (.tup xs)):TyOf K H (.ref a) (.type "tuple")
 | dK {a:Mg} {kvs:List (aJ×V)} (e:H a=some (.dK kvs)):TyOf K H (.ref a) (.type "dict")
 | dT {a:Mg} {kvs:List (List aJ×V)} (e:H a=some (.dT kvs)):TyOf K H (.ref a) (.type "dict")
 | ins {a C dx:Mg} {fs:List (Str×V)} (e:H a=some (.ins C dx fs)) (cl:Cls K C) (ha:PySem.W.findIn K (.ref C) "__class__"=some (some (.builtin "object.__class__")))
   (hn:PySem.W.specialIn K (.builtin "object.__class__") "__get__"=some (some (.builtin "getset_descriptor.__get__"))) (htk:PySem.W.takesIn K (.builtin "object.__class__")=some true)
   (hm:PySem.W.mroIn K C (.type "object")=some true):TyOf K H (.ref a) (.ref C)
theorem me{x:V}{u t:Mh}(I:Inv X pins σ H s)(rx:aI x u)(ty:TyOf X.K H x t)(e:Nq X.K t c=some b)(h:∀ tk,Q (.bool b) { s with toks:=tk }):
  Mo (Mt X.prog X.w) A (call (.builtin "isinstance") [u,c]) Q E s:=by
 cases ty with
 | non=>cases (show u=Value.none from rx);exact Ob PySem.W.kitx_none I.kIn True.intro e (fun z=>nomatch z) h
 | bl y=>cases (show u=Value.bool y from rx);exact Ob PySem.W.kitx_bool I.kIn True.intro e (fun z=>nomatch z) h
 | int i=>obtain⟨t,q⟩:=(show ∃ t,u=Value.int i t from rx);cases q;exact Ob PySem.W.kitx_int I.kIn True.intro e (fun z=>nomatch z) h
 | str y=>obtain⟨t,q⟩:=(show ∃ t,u=Value.str y t from rx);cases q;exact Ob PySem.W.kitx_str I.kIn True.intro e (fun z=>nomatch z) h
 | flt y=>obtain⟨t,q⟩:=(show ∃ t,u=Value.float y t from rx);cases q;exact Ob PySem.W.kitx_float I.kIn True.intro e (fun z=>nomatch z) h
 | @lst a xs ea=>
  cases (show u=Value.ref a from rx)
  obtain⟨_,_,n,_,h1⟩:=(show cg X.prog X.w H s.heap a (.lst xs)from I.hok a _ ea)
  exact Ob Qc I.kIn ⟨_,h1,rfl⟩ e (fun z=>nomatch z) h
 | @frz a ob xs ea=>
  cases (show u=Value.ref a from rx)
  obtain⟨_,_,_,n,_,h1⟩:=(show cg X.prog X.w H s.heap a (.frz ob (.lst xs))from I.hok a _ ea)
  exact Ob Qc I.kIn ⟨_,h1,rfl⟩ e (fun z=>nomatch z) h
 | @tup a xs ea=>
  cases (show u=Value.ref a from rx)
  obtain⟨_,_,_,p⟩:=(show cg X.prog X.w H s.heap a (.tup xs)from I.hok a _ ea)
  obtain⟨o,h1,h2,_⟩:=p;exact Ob PySem.W.kitx_tuple I.kIn ⟨o,h1,h2.1⟩ e (fun z=>nomatch z) h
 | @dK a kvs ea=>
  cases (show u=Value.ref a from rx)
  obtain⟨_,_,vs,_,p⟩:=(show cg X.prog X.w H s.heap a (.dK kvs)from I.hok a _ ea)
  obtain⟨o,es,ep,h1,h2,_⟩:=p;exact Ob PySem.W.kitx_dict I.kIn ⟨o,h1,h2.1⟩ e (fun z=>nomatch z) h
 | @dT a kvs ea=>
  cases (show u=Value.ref a from rx)
  obtain⟨_,_,xs,_,o,es,ep,h1,h2,_⟩:=(show cg X.prog X.w H s.heap a (.dT kvs)from I.hok a _ ea)
  exact Ob PySem.W.kitx_dict I.kIn ⟨o,h1,h2.1⟩ e (fun z=>nomatch z) h
 | @ins a C dx fs ea cl ha hn htk hm=>
  cases (show u=Value.ref a from rx)
  obtain⟨mA,O,_⟩:=rY I.hok ea;obtain⟨od,J,_⟩:=O.look;exact Ob (PySem.W.kitx_own (cl.get _) cl.hd ha hn htk hm) I.kIn J e (fun z=>nomatch z) h
end
structure Room(k:Nat)(A:MA):Prop where
 hd:A.handled=none
 dp:A.depth+3*k+5 < recursionLimit
 un:A.units+16*k+200 < M5
theorem Room.mono{j k:Nat}{A:MA}(r:Room k A)(h:j<=k):Room j A:=⟨r.hd,by have:=r.dp;omega,by have:=r.un;omega⟩
theorem Room.deeper{k:Nat}{A:MA}(r:Room (k+1) A)(env:Env):Room k (A.deeper env):=
 ⟨r.hd,by have:=r.dp;show A.depth+1+3*k+5 < _;omega,by have:=r.un;show A.units+3+16*k+200 < _;omega⟩
theorem Room.in1{k:Nat}{A:MA}(r:Room (k+1) A):Room k A.in1:=
 ⟨r.hd,by have:=r.dp;show A.depth+3*k+5 < _;omega,by have:=r.un;show A.units+1+16*k+200 < _;omega⟩
theorem A1{A:MA}{C:Mg}{us:List Mh}{kw:List (Str×Mh)}:(A.under (.builtin "type.__call__" ⟨.ref C::us,kw⟩)).depth=A.depth+1:=by
 first|rfl|simp[Qt,Code.weight,Code.isCreation,Code.isGuard,Code.isCaller,Code.frames,Qr,guardIds]
theorem AZ{A:MA}{C:Mg}{us:List Mh}{kw:List (Str×Mh)}:(A.under (.builtin "type.__call__" ⟨.ref C::us,kw⟩)).units=A.units+1:=by
 first|rfl|simp[Qt,Code.cUnits,Code.frames,Qr]
theorem Room.make{k:Nat}{A:MA}(r:Room (k+1) A)(C:Mg)(us:List Mh)(kw:List (Str×Mh)):Room k (A.under (.builtin "type.__call__" ⟨.ref C::us,kw⟩)):=
 ⟨r.hd,by have:=r.dp;rw[A1];omega,by have:=r.un;rw[AZ];omega⟩
theorem Room.depth{k:Nat}{A:MA}(r:Room k A):A.depth < recursionLimit:=by have:=r.dp;omega
theorem Room.units{k:Nat}{A:MA}(r:Room k A):A.units+64 < M5:=by have:=r.un;omega
def JC:TA:=fun _ H Q=>Q [] H
def JF(ta:TE)(tr:TA):TA:=fun σ H Q=>ta σ H fun x H1=>tr σ H1 fun xs H2=>Q (x::xs) H2
section
variable{X:Cx}{e:MJ}{es:List MJ}{te:TE}{t:TA}{pos:Pos}
theorem H_:PA X [] JC:=fun _ _ _ _ H Q I h=>On ⟨[],H,I,.nil,h⟩
theorem FU(ha:PE X e te)(hr:PA X es t)(hs:Mu (e::es) X.env=(false,eval e X.env)::Mu es X.env:=by rfl):PA X (e::es) (JF te t):=by
 intro pos pins s σ H Q I h;rw[hs];show Mo _ _ (spliced ((false,eval e X.env)::Nr pos (Mu es X.env))) _ _ s
 refine NO (cI (ha pins s σ H _ I h) fun u s1 zz=>?_);obtain⟨x,H1,I1,r1,q1⟩:=zz;exact cI (hr pos pins s1 σ H1 _ I1 q1) fun us s2 ⟨xs,H2,I2,r2,q2⟩=>⟨x::xs,H2,I2,.cons r1 r2,q2⟩
def K6(t:TA):TE:=fun σ H Q=>t σ H fun xs H1=>xs.length<=Mp/\∀ p,H1 p=none->Q (.ref p) (bE H1 p (.tup xs))
def K_(t:TA):TE:=fun σ H Q=>t σ H fun xs H1=>xs.length<=Mp/\∀ p,H1 p=none->Q (.ref p) (bE H1 p (.lst xs))
theorem HQ{x1}(h:PA X es t):PE X (.Tuple es x1 pos) (K6 t):=by
 intro pins s σ H Q I hq;refine wpAny_Tuple_spliced (cI (h pos pins s σ H _ I hq) fun us s1 ⟨xs,H1,I1,r,z,q⟩=>⟨by rw[<- r.length];exact z,?_⟩)
 have hf:H1 s1.heap.objs.size=none:=I1.hok.fresh (le_refl _);refine⟨.ref s1.heap.objs.size,bE H1 s1.heap.objs.size (.tup xs),I1.laid (t':=s1.toks) (fun b u e=>Mn _ e) (le_refl _) ?_,rfl,q _ hf⟩;exact⟨z,us,r,uz.new _ _⟩
theorem HV(h:PA X es t):PE X (.List es pos) (K_ t):=by
 intro pins s σ H Q I hq;refine wpAny_List_spliced (cI (h pos pins s σ H _ I hq) fun us s1 ⟨xs,H1,I1,r,z,q⟩=>⟨by rw[<- r.length];exact z,?_⟩)
 have hf:H1 s1.heap.objs.size=none:=I1.hok.fresh (le_refl _);refine⟨.ref s1.heap.objs.size,bE H1 s1.heap.objs.size (.lst xs),I1.laid (t':=s1.toks) (fun b u e=>Mn _ e) (le_refl _) ?_,rfl,q _ hf⟩;exact⟨z,us,0,r,Mq _ rfl⟩
end
abbrev Sp:=List V->Hp->VK->XK->Prop
abbrev B2:=List Env->Hp->Mi->XK->Mh->Mi->Prop
structure Env0(P:Mw)(w:ME)(K:PySem.W.Frag)(mg:Str->Option Mh)(base:MG)(A:MA)(outer:List Env)(s:Mi)(H:Hp):Prop where
 frames:A.frames=some outer
 mod:Mod K mg base
 bs:∀ b o,base.get? b=some o->s.heap.get? b=some o/\H b=none
 bsz:base.objs.size<=s.heap.objs.size
 funs:s.heap.FunFrames base outer
 frf:∀ b∈C_ outer,H b=none
 hok:mr P w H s.heap
 bare:OO s.gens
def CE(outer:List Env)(P:Mw)(w:ME)(H:Hp)(s:Mi)(Q:VK)(u:Mh)(s':Mi):Prop:=
 ∃ v H',s'.os=s.os/\OO s'.gens/\Un (C_ outer) [] H H' s.heap s'.heap/\mr P w H' s'.heap/\aI v u/\Q v H'
def CR(CX:B2)(outer:List Env)(P:Mw)(w:ME)(H:Hp)(s:Mi)(Q:VK)(E:XK)(r:QT)(s':Mi):Prop:=
 match r with
 | .ok (.ret u)=>CE outer P w H s Q u s'
 | .ok _=>False
 | .error e=>CX outer H s E e s'
structure FnOk(P:Mw)(w:ME)(K:PySem.W.Frag)(mg:Str->Option Mh)(base:MG)(CX:B2)(k:Nat)(f:Mg)(fd:Mr)(ps:List Str)(sp:Sp):Prop where
 len:∀ vs H Q E,sp vs H Q E->vs.length=ps.length
 run:∀ (A:MA) (outer:List Env) (s:Mi) (H:Hp) (args:Args) (us:List Mh) (vs:List V) (Q:VK) (E:XK),Room k A->Env0 P w K mg base A outer s H->PH s fd args (ps.zip us)->Vals vs us->sp vs H Q E->
  OB (Mt P w) A (.call (.ref f) args) (CR CX outer P w H s Q E) s
theorem FnOk.mono{P:Mw}{w:ME}{K:PySem.W.Frag}{mg:Str->Option Mh}{base:MG}{CX:B2}{j k:Nat}{f:Mg}{fd:Mr}{ps:List Str}{sp:Sp}(F:FnOk P w K mg base CX j f fd ps sp)(h:j<=k):
  FnOk P w K mg base CX k f fd ps sp:=⟨F.len,fun A outer s H args us vs Q E hr=>F.run A outer s H args us vs Q E (hr.mono h)⟩
theorem FnOk.imp{P:Mw}{w:ME}{K:PySem.W.Frag}{mg:Str->Option Mh}{base:MG}{CX:B2}{k:Nat}{f:Mg}{fd:Mr}{ps:List Str}{sp sp':Sp}(F:FnOk P w K mg base CX k f fd ps sp)
  (h:∀ vs H Q E,sp' vs H Q E->sp vs H Q E):FnOk P w K mg base CX k f fd ps sp':=
 ⟨fun vs H Q E q=>F.len vs H Q E (h _ _ _ _ q),fun A outer s H args us vs Q E hr he hb hv hs=>F.run A outer s H args us vs Q E hr he hb hv (h _ _ _ _ hs)⟩
theorem Env0.make{P:Mw}{w:ME}{K:PySem.W.Frag}{mg:Str->Option Mh}{base:MG}{A:MA}{outer:List Env}{s:Mi}{H:Hp}(e:Env0 P w K mg base A outer s H)(C:Mg)(us:List Mh)(kw:List (Str×Mh)):
  Env0 P w K mg base (A.under (.builtin "type.__call__" ⟨.ref C::us,kw⟩)) outer s H:=⟨by first|exact e.frames|(simpa[Qt,Code.envs,Qr,pushEnvs]using e.frames),e.mod,e.bs,e.bsz,e.funs,e.frf,e.hok,e.bare⟩
theorem Env0.in1{P:Mw}{w:ME}{K:PySem.W.Frag}{mg:Str->Option Mh}{base:MG}{A:MA}{outer:List Env}{s:Mi}{H:Hp}(e:Env0 P w K mg base A outer s H):
  Env0 P w K mg base A.in1 outer s H:=⟨e.frames,e.mod,e.bs,e.bsz,e.funs,e.frf,e.hok,e.bare⟩
section
variable{X:Cx}{pins:List (Mg×Obj)}{σ:St}{H:Hp}{s s':Mi}
theorem Inv.env0(I:Inv X pins σ H s):Env0 X.prog X.w X.K X.mg X.base X.A X.stack s H:=
 ⟨I.ok.frames,I.ok.mod,I.bs,le_trans I.ok.bsz I.sz,I.stack,I.stkFree,I.hok,I.bare⟩
theorem Inv.after{Q:VK}{u:Mh}(I:Inv X pins σ H s)(h:CE X.stack X.prog X.w H s Q u s'):EP X pins σ Q u s':=by
 obtain⟨v,H',os,bare,un,hok,r,q⟩:=h;obtain⟨hh,g,d,t,os'⟩:=s';obtain rfl:os'=s.os:=os;exact⟨v,H',I.call (h':=hh) (g':=g) (d':=d) (t':=t) (ch:=[]) un hok bare (fun b z=>absurd z (by simp)),r,q⟩
end
def GV(sp:Sp)(dvs:List V)(E:XK)(t:TA):TE:=fun σ H Q=>t σ H fun vs H1=>sp (vs ++ dvs) H1 Q E
def Ds(C:Mg)(m:Str)(sp:Sp)(dvs:List V)(E:XK)(ta:TE)(t:TA):TE:=fun σ H Q=>ta σ H fun x H1=>∃ a dx fs,x=.ref a/\H1 a=some (.ins C dx fs)/\fs.lookup m=none/\
 t σ H1 fun vs H2=>sp (x::(vs ++ dvs)) H2 Q E
def GU(C:Mg)(sp:Sp)(dvs:List V)(E:XK)(t:TA):TE:=fun σ H Q=>t σ H fun vs H1=>∀ x dx,H1 x=none->H1 dx=none->dx≠x->
 sp (.ref x::(vs ++ dvs)) (bE (bE H1 dx (.own x)) x (.ins C dx [])) (fun v H2=>v=.non/\Q (.ref x) H2) E
def eF(K:PySem.W.Frag)(fd:Mr)(ps:List Str)(ds:List Mh):Prop:=
 ∀ (s:Mi) (us:List Mh),K.In s.heap->(us ++ ds).length=ps.length->PH s fd ⟨us,[]⟩ (ps.zip (us ++ ds))
theorem eF.all{K:PySem.W.Frag}{fd:Mr}{ps:List Str}(h:∀ us:List Mh,us.length=ps.length->bindArgs fd ⟨us,[]⟩=pure (ps.zip us)):eF K fd ps []:=fun s us _ hl=>by
 rw[Nz]at hl ⊢;exact .of_eq (h us hl)
def nP(CX:B2)(X:Cx)(E:XK):Prop:=∀ (pins:List (Mg×Obj)) (σ:St) (H:Hp) (s:Mi) (e:Mh) (s':Mi),Inv X pins σ H s->CX X.stack H s E e s'->X.xe e s'
section
variable{X:Cx}{CX:B2}{k:Nat}{f C:Mg}{fd:Mr}{ps:List Str}{sp:Sp}{dvs:List V}{ds:List Mh}{E:XK}{x m:Str}{p pos apos:Pos}{e o:MJ}{es:List MJ}{ta:TE}{t:TA}
theorem sI{pins:List (Mg×Obj)}{σ:St}{H:Hp}{s:Mi}{Q:VK}{us:List Mh}{vs:List V}(F:FnOk X.prog X.w X.K X.mg X.base CX k f fd ps sp)(hr:Room k X.A)(hb:eF X.K fd ps ds)(hd:Vals dvs ds)(hx:nP CX X E)
  (I:Inv X pins σ H s) (r:Vals vs us) (h:sp (vs ++ dvs) H Q E):Mo (Mt X.prog X.w) X.A (call (.ref f) us) (EP X pins σ Q) X.xe s:=by
 have r2:Vals (vs ++ dvs) (us ++ ds):=r.append hd;have hl:(us ++ ds).length=ps.length:=by rw[<- r2.length];exact F.len _ _ _ _ h
 refine QK (OY (F.run X.A X.stack s H ⟨us,[]⟩ (us ++ ds) (vs ++ dvs) Q E hr I.env0 (hb s us I.kIn hl) r2 h) fun r s' hq=>?_);cases r with
 | error e=>exact hx pins σ H s e s' I hq
 | ok fl=>
  cases fl with
  | ret u=>exact I.after hq
  | next=>exact False.elim hq
  | brk=>exact False.elim hq
  | cont=>exact False.elim hq
theorem FS(F:FnOk X.prog X.w X.K X.mg X.base CX k f fd ps sp)(hr:Room k X.A)(hg:Gl X x)(hm:X.mg x=some (.ref f))(hk:PySem.W.keepIn X.K (.ref f)=true)(hb:eF X.K fd ps ds)(hd:Vals dvs ds)(hx:nP CX X E)
  (ha:PA X (e::es) t) (hdb:(x == ("__debug__":Str))=false:=by decide) (he:Mu (e::es) X.env=(false,eval e X.env)::Mu es X.env:=by rfl) (hpl:(Nr pos (Mu es X.env)).any (·.1)=false:=by rfl):
  PE X (.Call (.Name x p) (e::es) [] pos) (GV sp dvs E t):=by
 intro pins s σ H Q I h;refine Oc (rW I hg hm ?_ hdb);refine Ps (h₀:=X.base) I.ok.mod.kin hk (cI (ha pos pins s σ H _ I h) fun us s1 ⟨vs,H1,I1,r,q⟩=>⟨I1.kIn,?_⟩) he hpl;exact sI F hr hb hd hx I1 r q
theorem FP{pl:Sem Bool}(he:PE X o ta)(c:Cls X.K C)(hm:Meth X.K C m f)(F:FnOk X.prog X.w X.K X.mg X.base CX k f fd ps sp)(hr:Room k X.A)(hb:eF X.K fd ps ds)(hd:Vals dvs ds)(hx:nP CX X E)(ha:PA X (e::es) t)
  (hst:Mu (e::es) X.env=(false,eval e X.env)::Mu es X.env:=by rfl) (hpl:(Nr pos (Mu es X.env)).any (·.1)=false:=by rfl)
  (ht:eval (.Call (.Attribute o m apos) (e::es) [] pos) X.env=(do
   let ov <- eval o X.env
   Oz apos.atName
   let (f,first) <- holding [ov] (OC ov m pl)
   PB pos f first (Nr pos (Mu (e::es) X.env)) (Ou pos (NK [] X.env))):=by rfl):
  PE X (.Call (.Attribute o m apos) (e::es) [] pos) (Ds C m sp dvs E ta t):=by
 intro pins s σ H Q I h;refine OP (pl:=pl) (cI (he pins s σ H _ I h) fun u s1 zz=>?_) ht;obtain⟨x,H1,I1,rx,a,dx,fs,ex,ea,l,q⟩:=zz;subst ex;obtain rfl:u=Value.ref a:=rx;refine nO I1 ea c hm l ?_;refine Ps (first:=[.ref a]) (h₀:=X.base) I.ok.mod.kin hm.kp (cI (ha pos pins s1 σ H1 _ I1 q) fun us s2 ⟨vs,H2,I2,r,q2⟩=>⟨I2.kIn,?_⟩) hst hpl
 exact sI (us:=.ref a::us) (vs:=.ref a::vs) F hr hb hd hx I2 (.cons rfl r) q2
theorem D9{pl:Sem Bool}(he:PE X o ta)(c:Cls X.K C)(hm:Meth X.K C m f)(F:FnOk X.prog X.w X.K X.mg X.base CX k f fd ps sp)(hr:Room k X.A)(hb:eF X.K fd ps ds)(hd:Vals dvs ds)(hx:nP CX X E)
  (ht:eval (.Call (.Attribute o m apos) [] [] pos) X.env=(do
   let ov <- eval o X.env
   Oz apos.atName
   let (f,first) <- holding [ov] (OC ov m pl)
   PB pos f first (Nr pos (Mu [] X.env)) (Ou pos (NK [] X.env))):=by rfl):
  PE X (.Call (.Attribute o m apos) [] [] pos) (Ds C m sp dvs E ta JC):=by
 intro pins s σ H Q I h;refine OP (pl:=pl) (cI (he pins s σ H _ I h) fun u s1 zz=>?_) ht;obtain⟨x,H1,I1,rx,a,dx,fs,ex,ea,l,q⟩:=zz;subst ex;obtain rfl:u=Value.ref a:=rx;refine nO I1 ea c hm l ?_;exact PySem.W.callWith_K0 (first:=[.ref a]) I1.kIn hm.kp (sI (us:=[.ref a]) (vs:=[.ref a]) F hr hb hd hx I1 (.cons rfl .nil) q)
structure Mk(K:PySem.W.Frag)(C f:Mg):Prop where
 makes:PySem.W.makesIn K C=true
 init:PySem.W.findIn K (.ref C) "__init__"=some (some (.ref f))
 fn:PySem.W.isFn K (.ref f)=true
 kp:PySem.W.keepIn K (.ref C)=true
theorem DC{pins:List (Mg×Obj)}{σ:St}{H:Hp}{s:Mi}{Q:VK}{us:List Mh}{vs:List V}(M:Mk X.K C f)(F:FnOk X.prog X.w X.K X.mg X.base CX k f fd ps sp)(hr:Room (k+1) X.A)(hb:eF X.K fd ps ds)(hd:Vals dvs ds)
  (hx:nP CX X E) (I:Inv X pins σ H s) (r:Vals vs us)
  (h:∀ x dx,H x=none->H dx=none->dx≠x->sp (.ref x::(vs ++ dvs)) (bE (bE H dx (.own x)) x (.ins C dx [])) (fun v H2=>v=.non/\Q (.ref x) H2) E):
  Mo (Mt X.prog X.w) X.A (call (.ref C) us) (EP X pins σ Q) X.xe s:=by
 have hq:=h (s.heap.objs.size+1) s.heap.objs.size (I.hok.fresh (Nat.le_succ _)) (I.hok.fresh (le_refl _)) (MO (Oj _));have I2:=Inv.made (C:=C) I;have r2:Vals (V.ref (s.heap.objs.size+1)::(vs ++ dvs)) (Value.ref (s.heap.objs.size+1)::(us ++ ds)):=.cons rfl (r.append hd);have hl:(Value.ref (s.heap.objs.size+1)::us ++ ds).length=ps.length:=by
  have e:=r2.length;rw[F.len _ _ _ _ hq]at e;exact e.symm
 refine QK (En (f:=f) I.kIn M.makes M.init (beq_iff_eq.mp M.fn) (OY (F.run _ X.stack _ _ ⟨Value.ref (s.heap.objs.size+1)::us,[]⟩ (Value.ref (s.heap.objs.size+1)::(us ++ ds)) _ _ E (hr.make C us [])
  (I2.env0.make C us []) (hb _ (Value.ref (s.heap.objs.size+1)::us) I2.kIn hl) r2 hq) fun r s' hq'=>?_))
 cases r with
 | error e=>exact hx pins σ _ _ e s' I2 hq'
 | ok fl=>
  cases fl with
  | ret u=>
   obtain⟨v,H',I3,rv,ev,q3⟩:=I2.after hq';subst ev;exact⟨rv,⟨V.ref (s.heap.objs.size+1),H',I3,rfl,q3⟩⟩
  | next=>exact False.elim hq'
  | brk=>exact False.elim hq'
  | cont=>exact False.elim hq'
theorem FQ(M:Mk X.K C f)(F:FnOk X.prog X.w X.K X.mg X.base CX k f fd ps sp)(hr:Room (k+1) X.A)(hg:Gl X x)(hm:X.mg x=some (.ref C))(hb:eF X.K fd ps ds)(hd:Vals dvs ds)(hx:nP CX X E)
  (ha:PA X (e::es) t) (hdb:(x == ("__debug__":Str))=false:=by decide) (he:Mu (e::es) X.env=(false,eval e X.env)::Mu es X.env:=by rfl) (hpl:(Nr pos (Mu es X.env)).any (·.1)=false:=by rfl):
  PE X (.Call (.Name x p) (e::es) [] pos) (GU C sp dvs E t):=by
 intro pins s σ H Q I h;refine Oc (rW I hg hm ?_ hdb);refine Ps (h₀:=X.base) I.ok.mod.kin M.kp (cI (ha pos pins s σ H _ I h) fun us s1 ⟨vs,H1,I1,r,q⟩=>⟨I1.kIn,?_⟩) he hpl;exact DC M F hr hb hd hx I1 r q
end
section
variable{X:Cx}{CX:B2}{k:Nat}{f C:Mg}{fd:Mr}{ps ks:List Str}{sp:Sp}{E:XK}{x m:Str}{p pos apos UQ:Pos}{e o:MJ}{es:List MJ}{kws:List O0}{te ta:TE}{t tk:TA}{nm:Option Str}
structure KBinds(K:PySem.W.Frag)(fd:Mr)(ps ks:List Str)(g:List Mh->List Mh->List Mh)(gV:List V->List V->List V):Prop where
 to:∀ (s:Mi) (us ws:List Mh),K.In s.heap->(g us ws).length=ps.length->PH s fd ⟨us,ks.zip ws⟩ (ps.zip (g us ws))
 rel:∀ {vs:List V} {us:List Mh} {zs:List V} {ws:List Mh},Vals vs us->Vals zs ws->Vals (gV vs zs) (g us ws)
variable{g:List Mh->List Mh->List Mh}{gV:List V->List V->List V}
end
structure FnScope(N P:List Str)(sc:Oo):Prop where
 kind:sc.kind=.function
 co:sc.isCoroutine=false
 gen:sc.isGenerator=false
 nd:N.Nodup
 pre:N.take P.length=P
 par:∀ x∈P,sc.names.lookup x=some .local\/sc.names.lookup x=some .cell
 nofree:∀ y∈sc.names,y.2≠.free
theorem wz{kindOf:Str->Option OI}{x:Str}:∀ {binds:List (Str×Mh)} {m:Str->Option Mh},(∀ v,(x,v)∉binds)->Qe kindOf binds m x=m x
 | [],_,_=>rfl
 | (n,v)::r,m,h=>by
  unfold Qe;rw[wz fun w hw=>h w (Mz _ hw)];split
  ·have:x≠n:=by rintro rfl;exact h v MB
   simp[this]
  ·rfl
theorem wB{kindOf:Str->Option OI}{x:Str}:∀ {binds:List (Str×Mh)} {m:Str->Option Mh},(∀ v,(x,v)∉binds)->Qf kindOf binds m x=m x
 | [],_,_=>rfl
 | (n,v)::r,m,h=>by
  unfold Qf;rw[wB fun w hw=>h w (Mz _ hw)];split
  ·rfl
  ·have:x≠n:=by rintro rfl;exact h v MB
   simp[this]
theorem wA{kindOf:Str->Option OI}{x:Str}{v:Mh}:∀ {P:List Str} {vs:List Mh} {i:Nat} {m:Str->Option Mh},P.Nodup->P[i]?=some x->vs[i]?=some v->kindOf x=some .local->
  Qe kindOf (P.zip vs) m x=some v
 | [],_,_,_,_,h,_,_=>by simp at h
 | _::_,[],_,_,_,_,h,_=>by simp at h
 | p::P,w::vs,0,m,nd,h1,h2,hk=>by
  simp at h1 h2;subst h1;subst h2;show Qe kindOf ((p,w)::P.zip vs) m p=_
  unfold Qe;rw[wz fun v hv=>(NW.mp nd).1 (List.of_mem_zip hv).1,if_pos hk];simp
 | p::P,w::vs,i+1,m,nd,h1,h2,hk=>by
  show Qe kindOf ((p,w)::P.zip vs) m x=_
  unfold Qe;exact wA (i:=i) (NW.mp nd).2 (by simpa using h1) (by simpa using h2) hk
theorem wC{kindOf:Str->Option OI}{x:Str}{v:Mh}:∀ {P:List Str} {vs:List Mh} {i:Nat} {m:Str->Option Mh},P.Nodup->P[i]?=some x->vs[i]?=some v->kindOf x≠some .local->
  Qf kindOf (P.zip vs) m x=some v
 | [],_,_,_,_,h,_,_=>by simp at h
 | _::_,[],_,_,_,_,h,_=>by simp at h
 | p::P,w::vs,0,m,nd,h1,h2,hk=>by
  simp at h1 h2;subst h1;subst h2;show Qf kindOf ((p,w)::P.zip vs) m p=_
  unfold Qf;rw[wB fun v hv=>(NW.mp nd).1 (List.of_mem_zip hv).1,if_neg hk];simp
 | p::P,w::vs,i+1,m,nd,h1,h2,hk=>by
  show Qf kindOf ((p,w)::P.zip vs) m x=_
  unfold Qf;exact wC (i:=i) (NW.mp nd).2 (by simpa using h1) (by simpa using h2) hk
def start(N:List Str)(vs:List V):St:=vs.map some ++ List.replicate (N.length - vs.length) none
def zS(CX:B2)(P:Mw)(w:ME)(K:PySem.W.Frag)(mg:Str->Option Mh)(base:MG)(N:List Str)(qual:Str)(scope:Oo)(f:Mg)(cd:Mh)(A:MA)(outer:List Env)(s:Mi)(H:Hp)(E:XK):Cx where
 prog:=P
 w:=w
 K:=K
 mg:=mg
 base:=base
 A:=A.deeper (OX qual scope s.heap.objs.size f cd)
 N:=N
 s₀:=s
 H₀:=H
 env:=OX qual scope s.heap.objs.size f cd
 outer:=outer
 stack:=OX qual scope s.heap.objs.size f cd::outer
 ex:=[]
 calm:=true
 fn:=fun _=>true
 pn:=[]
 xe:=fun e s'=>Mo (Mt P w) (A.deeper (OX qual scope s.heap.objs.size f cd)) (leaving (OX qual scope s.heap.objs.size f cd) e) (fun _ s''=>CX outer H s E e s'') (fun e' s''=>CX outer H s E e' s'') s'
theorem zY{sc:Oo}{n:Nat}{x:Str}(h:sc.names.lookup x=some .cell):∃ c,(cellsFrom n sc.names []).lookup x=some c:=by
 have q:=PySem.W.cellsFrom_some sc.names n [] (.inl h);exact Option.isSome_iff_exists.mp q
theorem CJ{CX:B2}{P:Mw}{w:ME}{K:PySem.W.Frag}{mg:Str->Option Mh}{base:MG}{N ps:List Str}{qual:Str}{scope:Oo}{f:Mg}{cd:Mh}{A:MA}{outer:List Env}{s s1:Mi}{H:Hp}{E:XK}{us:List Mh}{vs:List V}
  (S:FnScope N ps scope) (hd:A.handled=none) (e0:Env0 P w K mg base A outer s H) (hl:vs.length=ps.length) (r:Vals vs us)
  (x:InCallC s s.heap.objs.size (Qe (OX qual scope s.heap.objs.size f cd).kindOf (ps.zip us) fun _=>none) (cellsFrom (s.heap.objs.size+1) scope.names []) (Qf (OX qual scope s.heap.objs.size f cd).kindOf (ps.zip us) fun _=>none) s1):
  Inv (zS CX P w K mg base N qual scope f cd A outer s H E) [] (start N vs) H s1:=by
 have hpl:ps.length<=N.length:=by have:=congrArg List.length S.pre;rw[Nk]at this;omega
 obtain⟨h1,tk,rfl,hk⟩:=x.done;have noA:∀ b:Mg,b∉(zS CX P w K mg base N qual scope f cd A outer s H E).ex:=fun b z=>absurd (show b∈([]:List Mg)from z) (by simp)
 refine⟨⟨e0.mod,S.kind,rfl,rfl,le_refl _,fun y z c h1 h2=>?_,fun y hy=>?_,fun y c _ h=>?_,fun _=>hd,Around.frames_deeper e0.frames,.inr ⟨rfl,rfl⟩,fun b z=>absurd z (noA b),e0.bs,e0.bsz,fun b _ _=>noA b,fun b z=>absurd z (noA b),e0.funs,e0.frf⟩,
  rfl,e0.bare,Un.kept hk,⟨_,x.toInCall.ns,fun i y v h1 h2 h3=>?_⟩,fun y c h=>⟨_,x.cell y c h⟩,e0.hok.fresh (le_refl _),fun y c h=>?_,fun p hp=>absurd (show p∈([]:List (Mg×Obj))from hp) (by simp),e0.hok.kept hk,?_⟩
 ·exact name_of_addr x.apart (PySem.mem_of_lookup h1) (PySem.mem_of_lookup h2)
 ·have hy:scope.names.lookup y=some .cell\/scope.names.lookup y=some .free:=hy;rcases hy with hy|hy
  ·exact zY hy
  ·exact absurd rfl (S.nofree _ (PySem.mem_of_lookup hy))
 ·exact le_of_lt (x.above y c (PySem.mem_of_lookup h))
 ·have hi:i < vs.length:=by
   unfold start at h2
   by_cases hi:i < vs.length
   ·exact hi
   ·rw[List.getElem?_append_right (by simpa using hi)]at h2
    rw[List.getElem?_replicate]at h2;split at h2<;>cases h2
  have ha:vs[i]?=some v:=by
   unfold start at h2;rw[List.getElem?_append_left (by simpa using hi),MH]at h2
   cases e:vs[i]? with
   | none=>rw[e]at h2;cases h2
   | some a=>rw[e]at h2;cases h2;rfl
  obtain⟨u,hu,rv⟩:=r.get ha;have hp:ps[i]?=some y:=by
   rw[<- S.pre,List.getElem?_take_of_lt (by walk_at "o")];exact h1
  have ndP:ps.Nodup:=by rw[<- S.pre];exact S.nd.sublist (List.take_sublist _ _)
  refine⟨u,rv,?_⟩;rcases S.par y (MC hp)with k|k
  ·exact .inl ⟨k,wA ndP hp hu k⟩
  ·obtain⟨c,e⟩:=zY (n:=s.heap.objs.size+1) k;refine .inr ⟨.inl k,c,e,?_⟩;have q:=x.cell y c e;rw[wC ndP hp hu (by show scope.names.lookup y≠_;rw[k];decide)]at q
   exact q
 ·exact e0.hok.fresh (le_of_lt (x.above y c (PySem.mem_of_lookup h)))
 ·unfold start;show _=N.length
  rw[MP,Mm,List.length_replicate];omega
theorem Hd{CX:B2}{P:Mw}{w:ME}{K:PySem.W.Frag}{mg:Str->Option Mh}{base:MG}{k:Nat}{f:Mg}{name qual:Str}{params:Arguments}{body:List ML}{scope:Oo}{dV kV doc pm cdv ct oc:Mh}{an od:Option Mg}
  {osl:Array (Option Mh)} {N ps:List Str} {sp:Sp} (lk:K.lookup f=some ⟨oc,od,.func (PySem.W.fnOf name qual params body scope dV kV doc pm an cdv ct),osl⟩) (hcd:PySem.W.codeIn K cdv qual=true) (S:FnScope N ps scope)
  (len:∀ vs H Q E,sp vs H Q E->vs.length=ps.length)
  (Td:∀ (A:MA) (outer:List Env) (s:Mi) (H:Hp) (vs:List V) (Q:VK) (E:XK),Room k (A.deeper (OX qual scope s.heap.objs.size f cdv))->sp vs H Q E->
   ∃ t,pE (zS CX P w K mg base N qual scope f cdv A outer s H E) body t/\t { nx:=fun _ H'=>Q .non H',rt:=Q } (start N vs) H):
  FnOk P w K mg base CX (k+1) f (PySem.W.fnOf name qual params body scope dV kV doc pm an cdv ct) ps sp:=by
 refine⟨len,fun A outer s H args us vs Q E hr e0 hb r hsp=>?_⟩;have hl:=len _ _ _ _ hsp;have KX:K.In s.heap:=e0.mod.kin.keeps fun b o e=>(e0.bs b o e).1;have lim:s.heap.NoLimit:=e0.mod.nolimit.keeps fun b o e=>(e0.bs b o e).1;have US:∀ y∈ps.zip us,scope.names.lookup y.1=some .local\/(scope.names.lookup y.1=some .cell/\((cellsFrom (s.heap.objs.size+1) scope.names []).lookup y.1).isSome=true):=fun⟨n,v⟩ hy=>by
  rcases S.par n (List.of_mem_zip hy).1 with q|q
  ·exact .inl q
  ·exact .inr ⟨q,PySem.W.cellsFrom_some _ _ _ (.inl q)⟩
 refine codeAny_call_function hr.depth (KX _ _ lk) rfl S.co S.gen rfl (PySem.W.codeRec_of KX hcd) (hb _ _ _ _ ?_);refine wpAny_newFunctionEnv_cells S.kind US fun env he s1 x=>?_;subst he;refine⟨lim.keeps x.toInCall.keep,codeAny_func ?_⟩;obtain⟨t,ht,hq⟩:=Td A outer s H vs Q E (hr.deeper _) hsp;have I:Inv (zS CX P w K mg base N qual scope f cdv A outer s H E) [] (start N vs) H s1:=CJ S hr.hd e0 hl r x;refine M7 (ht [] s1 (start N vs) H _ I hq) (fun fl s' hs=>?_) fun e s' hs=>hs;have fin:∀ {σ':St} {H':Hp} {v:V} {u:Mh},Inv (zS CX P w K mg base N qual scope f cdv A outer s H E) [] σ' H' s'->aI v u->Q v H'->CE outer P w H s Q u s':=
  fun {σ' H' v u} J rv q=>⟨v,H',J.os,J.bare,J.base,J.hok,rv,q⟩
 cases fl with
 | ret u=>
  obtain⟨v,σ',H',J,rv,q⟩:=hs;exact fin J rv q
 | next=>
  obtain⟨σ',H',J,q⟩:=hs;exact fin (v:=V.non) (u:=Value.none) J rfl q
 | brk=>
  obtain⟨_,_,_,q⟩:=hs;exact False.elim q
 | cont=>
  obtain⟨_,_,_,q⟩:=hs;exact False.elim q
section
variable{X:Cx}{x:Str}{p pos:Pos}{e:MJ}{es:List MJ}{t:TA}{id T:String}{r:List V->Hp->VK->Prop}
def Ld(r:List V->Hp->VK->Prop)(t:TA):TE:=fun σ H Q=>t σ H fun vs H1=>r vs H1 Q
theorem Eb(hc:d8 X (.builtin id) r)(hg:Gl X x)(hm:X.mg x=none)(hv:Nl x=some (.builtin id))(ha:PA X (e::es) t)(hn:x≠"__name__":=by decide)(hdb:(x == ("__debug__":Str))=false:=by decide)
  (he:Mu (e::es) X.env=(false,eval e X.env)::Mu es X.env:=by rfl) (hpl:(Nr pos (Mu es X.env)).any (·.1)=false:=by rfl):PE X (.Call (.Name x p) (e::es) [] pos) (Ld r t):=by
 intro pins s σ H Q I h;refine Oc (jc I hg hm hv ?_ hn hdb);exact PyProof.Rows.callWith_builtin1 (cI (ha pos pins s σ H _ I h) fun us s1 ⟨vs,H1,I1,r1,q1⟩=>hc pins s1 σ H1 vs us Q I1 r1 q1) he hpl
theorem Cq(hc:d8 X (.type T) r)(hg:Gl X x)(hm:X.mg x=none)(hv:Nl x=some (.type T))(ha:PA X (e::es) t)(hn:x≠"__name__":=by decide)(hdb:(x == ("__debug__":Str))=false:=by decide)
  (he:Mu (e::es) X.env=(false,eval e X.env)::Mu es X.env:=by rfl) (hpl:(Nr pos (Mu es X.env)).any (·.1)=false:=by rfl):PE X (.Call (.Name x p) (e::es) [] pos) (Ld r t):=by
 intro pins s σ H Q I h;refine Oc (jc I hg hm hv ?_ hn hdb);exact PyProof.Rows.callWith_type1 (cI (ha pos pins s σ H _ I h) fun us s1 ⟨vs,H1,I1,r1,q1⟩=>hc pins s1 σ H1 vs us Q I1 r1 q1) he hpl
end
end L2
namespace HT
open PySem PyProof.Rows
section
open PySem.SeqAt
open PySem.AutoSeq1 (wpAny_loadPart')
open PySem.MeetsSeq PySem.MeetsSeq2 PySem.MeetsSeq3
end
section
variable{prog:Mw}{w:ME}{A:MA}{E:Mh->Mi->Prop}{s:Mi}
theorem cat_tup{t b:Mg}{vs ws:List Mh}{Q:Mh->Mi->Prop}(ht:IsTup s.heap t vs.toArray)(hb:IsTup s.heap b ws.toArray)(hv:vs≠[])
  (h1:ws=[]->Q (.ref t) s) (h2:ws≠[]->Q (.ref s.heap.objs.size) { s with heap:=s.heap.push { cls:=.type "tuple",data:=.seq (vs ++ ws).toArray } })
  (hsz:vs.length+ws.length<=Mp):Mo (Mt prog w) A (Na .Add (.ref t) (.ref b)) Q E s:=by
 obtain⟨⟨cls,dd,data,sl⟩,ho,hc,n,hd⟩:=id ht;obtain⟨⟨cls2,dd2,data2,sl2⟩,ho2,hc2,n2,hd2⟩:=id hb;simp only at hc hd hc2 hd2;subst hc hd hc2 hd2;have e:vs.toArray ++ ws.toArray=(vs ++ ws).toArray:=by simp
 by_cases hw:ws=[]
 ·exact Qo ⟨_,ho,rfl⟩ ⟨_,ho2,rfl⟩ noFill_tuple_add seq_tuple_add PySem.F.slot_tuple_add PySem.F.entry_tuple_add (PySem.F.args_tuple_add_2 _ _)
   (tuple_addW1 t b vs.toArray ws.toArray n n2 dd dd2 sl sl2 (by simpa using hv) (by simp[hw])) ⟨ho,ho2,h1 hw⟩
 ·refine Qo ⟨_,ho,rfl⟩ ⟨_,ho2,rfl⟩ noFill_tuple_add seq_tuple_add PySem.F.slot_tuple_add PySem.F.entry_tuple_add (PySem.F.args_tuple_add_2 _ _)
   (tuple_addW2 t b vs.toArray ws.toArray n n2 dd dd2 sl sl2 (by simpa using hv) (by simpa using hw) (by rw[Mv,Mv];exact hsz)) ⟨ho,ho2,?_⟩
  rw[e];exact h2 hw
def sIx(n d:Nat):Option Int->Nat
 | none=>d
 | some v=>if v < 0 then (v+(n:Int)).toNat else min v.toNat n
theorem sIx_le(n d:Nat)(hd:d<=n)(o:Option Int):sIx n d o<=n:=by
 cases o with
 | none=>exact hd
 | some v=>
  show (if v < 0 then (v+(n:Int)).toNat else min v.toNat n)<=n
  by_cases hv:v < 0
  ·rw[if_pos hv];omega
  ·rw[if_neg hv];exact Nat.min_le_right _ _
theorem BS(v:Int)(n d:Nat):(if v < 0 then max (v+(n:Int)) 0 else min v (n:Int))=((sIx n d (some v):Nat):Int):=by
 show (if v < 0 then max (v+(n:Int)) 0 else min v (n:Int))=(((if v < 0 then (v+(n:Int)).toNat else min v.toNat n):Nat):Int)
 by_cases hv:v < 0
 ·simp only[if_pos hv];omega
 ·simp only[if_neg hv];omega
theorem Bk(lo hi:Option Int)(n:Nat):OJ lo hi 1 (n:Int)=(((sIx n 0 lo:Nat):Int),((sIx n n hi:Nat):Int)):=by
 have h1:¬ ((1:Int) < 0):=by walk_at "o"
 unfold OJ;simp only[h1,if_false];refine Prod.ext ?_ ?_
 ·cases lo with
  | none=>rfl
  | some v=>exact BS v n 0
 ·cases hi with
  | none=>rfl
  | some v=>exact BS v n n
theorem AD(i j:Nat):NZ (i:Int) (j:Int) 1=j - i:=by
 unfold NZ;have h1:(1:Int) > 0:=by walk_at "o"
 simp only[h1,if_true,Int.ediv_one];split<;>omega
theorem sr{v:Mh}{o:Option Int}{Q:Option Int->Mi->Prop}(p:Pt v o)(h:Q o s):Mo (Mt prog w) A (Builtin.Slice.slicePartIndex v) Q E s:=by
 cases p with
 | none=>exact slicePart_none h
 | int i t=>exact slicePart_int h
theorem pJ{sl:Mg}{vl vu:Mh}{lo hi:Option Int}{n:Nat}{Q:Int×Int×Nat->Mi->Prop}(hs:s.heap.IsSliceOf sl vl vu .none)(pl:Pt vl lo)(pu:Pt vu hi)
  (h:Q (((sIx n 0 lo:Nat):Int),1,sIx n n hi - sIx n 0 lo) s):Mo (Mt prog w) A (P8 (.ref sl) (pure (n:Int))) Q E s:=by
 obtain⟨os,hos,hcs,hds⟩:=id hs;unfold P8 Builtin.Slice.sliceFields;refine Mf (Mf (Nv hos hds (x:=vl) rfl (Mf (Nv hos hds (x:=vu) rfl (Mf (Nv hos hds (x:=.none) rfl (Ml ?_)))))));refine Mf (slicePart_none ?_);show Mo _ _ (if ((1:Int) == 0)=true then _ else _) _ _ s
 rw[if_neg (by decide)]
 refine Mf (sr pl (Mf (sr pu (Mf (Ml ?_)))));show Mo _ _ (match OJ lo hi 1 (n:Int) with|(lo,hi)=>pure (lo,(1:Int),NZ lo hi 1)) _ _ s
 rw[Bk lo hi n];show Mo _ _ (pure (((sIx n 0 lo:Nat):Int),(1:Int),NZ ((sIx n 0 lo:Nat):Int) ((sIx n n hi:Nat):Int) 1)) _ _ s
 rw[AD];exact Ml h
theorem D5(xs:Array Mh)(i k:Nat):((List.range k).filterMap fun (m:Nat)=>xs[((i:Int)+(m:Int)*1).toNat]?).toArray=((xs.toList.drop i).take k).toArray:=by
 have e:(fun (m:Nat)=>xs[((i:Int)+(m:Int)*1).toNat]?)=fun m=>xs[i+m]?:=by
  funext m;have:((i:Int)+(m:Int)*1).toNat=i+m:=by walk_at "o"
  rw[this]
 rw[e];have:=pick_run xs i k;rw[List.filterMap_map]at this;have e2:((fun x=>xs[x]?) ∘ fun x=>i+x)=fun m=>xs[i+m]?:=rfl;rw[e2]at this;rw[this]
theorem getItem_tuple_cut{t sl:Mg}{items:Array Mh}{vl vu:Mh}{lo hi:Option Int}{Q:Mh->Mi->Prop}(ht:IsTup s.heap t items)(hs:s.heap.IsSliceOf sl vl vu .none)(pl:Pt vl lo)(pu:Pt vu hi)
  (hw:¬ (sIx items.size 0 lo=0/\sIx items.size items.size hi=items.size))
  (h:Q (.ref s.heap.objs.size) { s with heap:=s.heap.push { cls:=.type "tuple",data:=.seq ((items.toList.drop (sIx items.size 0 lo)).take (sIx items.size items.size hi - sIx items.size 0 lo)).toArray } })
  (hsz:items.size<=Mp):Mo (Mt prog w) A (OV (.ref t) (.ref sl)) Q E s:=by
 have Ur:sizeOk (.seq ((items.toList.drop (sIx items.size 0 lo)).take (sIx items.size items.size hi - sIx items.size 0 lo)).toArray):=by
  show ((items.toList.drop (sIx items.size 0 lo)).take (sIx items.size items.size hi - sIx items.size 0 lo)).toArray.size<=Mp
  rw[Mv,Nk,OM,Array.length_toList];omega
 have hj:sIx items.size items.size hi<=items.size:=sIx_le _ _ (le_refl _) hi;obtain⟨os,hos,hcs,hds⟩:=id hs;have hTs:s.TypeIs (.ref sl) "slice":=⟨os,hos,hcs⟩;unfold OV
 try with_reducible refine Nc ?_
 first|refine Mf (Ml ?_)|skip
 refine Mf (wpAny_sequenceKey ht.typeIs (by decide) ?_)
 refine Mf (Nj (name:=Mj "__getitem__") ht.typeIs PyProof.Rows.slot_tuple_getitem
  (Ni PyProof.Rows.slot_tuple_getitem ht.typeIs entry_tuple_getitem ?_ (args_tuple_getitem _ _)))
 show Mo _ _ (Builtin.Tuple.tupleItemsOf (.ref t) >>= _) _ _ s
 refine Mf (tupleItemsOf_ ht ?_);refine Mf (Qi hTs ?_);rw[if_pos (by decide)]
 refine Mf (pJ hs pl pu ?_);have hno:¬ ((((sIx items.size 0 lo:Nat):Int) == 0 && (1:Int) == 1 && (sIx items.size items.size hi - sIx items.size 0 lo) == items.size)=true):=by
  intro q;rw[Bool.and_eq_true,Bool.and_eq_true]at q;have q1:((sIx items.size 0 lo:Nat):Int)=0:=eq_of_beq q.1.1;have q2:sIx items.size items.size hi - sIx items.size 0 lo=items.size:=eq_of_beq q.2;exact hw ⟨by walk_at "o",by walk_at "o"⟩
 show Mo _ _ (if (((sIx items.size 0 lo:Nat):Int) == 0 && (1:Int) == 1 && (sIx items.size items.size hi - sIx items.size 0 lo) == items.size)=true then _ else _) _ _ s
 rw[if_neg hno,D5]
 first
  | exact Mf (m:=N8 _) (MX (Ml ⟨_,rfl,Ml h⟩) Ur)
  | exact Mf (m:=N8 _) (MX (Mf (Ml (Ml ⟨_,rfl,Ml h⟩))) Ur)
  | exact Mf (Mf (m:=N8 _) (MX (Ml (Ml ⟨_,rfl,Ml h⟩)) Ur))
  | exact Mf (Mf (m:=N8 _) (MX (Ml ⟨_,rfl,Ml h⟩) Ur))
end
end HT
namespace L2
open PySem PySem.Spec PyProof.Rows
abbrev TO:=St->Hp->(Option Int->Hp->Prop)->Prop
def PO(X:Cx)(e:Option MJ)(t:TO):Prop:=
 ∀ (pins:List (Mg×Obj)) (s:Mi) (σ:St) (H:Hp) (Q:Option Int->Hp->Prop),Inv X pins σ H s->t σ H Q->
  Mo (Mt X.prog X.w) X.A (evalPart e X.env) (fun u s'=>∃ o H',Inv X pins σ H' s'/\Pt u o/\Q o H') X.xe s
def Fm:TO:=fun _ H Q=>Q none H
def JB(t:TE):TO:=fun σ H Q=>t σ H fun x H1=>∃ i,x=.int i/\Q (some i) H1
section
variable{X:Cx}{e:MJ}{te:TE}{lo hi:Option MJ}{tl th:TO}{pos p2:Pos}
theorem FM:PO X none Fm:=by
 intro pins s σ H Q I h;rw[evalPart_none];exact Ml ⟨none,H,I,.none,h⟩
theorem FL(h:PE X e te):PO X (some e) (JB te):=by
 intro pins s σ H Q I hw;rw[evalPart_some];refine cI (h pins s σ H _ I hw) fun u s1 zz=>?_;obtain⟨x,H1,I1,r1,q1⟩:=zz;obtain⟨i,rfl,q⟩:=q1;obtain⟨t,rfl⟩:=r1;exact⟨some i,H1,I1,.int i t,q⟩
def C5(X:Cx)(r:V->Option Int->Option Int->Hp->VK->Prop):Prop:=
 ∀ (pins:List (Mg×Obj)) (s:Mi) (σ:St) (H:Hp) (x:V) (v vl vu:Mh) (lo hi:Option Int) (sl:Mg) (Q:VK),Inv X pins σ H s->aI x v->s.heap.IsSliceOf sl vl vu .none->Pt vl lo->Pt vu hi->r x lo hi H Q->
  ∃ T id,Pq (.type T) "__getitem__"=pure (some (.builtin id))/\s.TypeIs v T/\Mo (Mt X.prog X.w) X.A (OV v (.ref sl)) (EP X pins σ Q) X.xe s
theorem C5.or{r r':V->Option Int->Option Int->Hp->VK->Prop}(h:C5 X r)(h':C5 X r'):C5 X (fun x lo hi H Q=>r x lo hi H Q\/r' x lo hi H Q):=by
 intro pins s σ H x v vl vu lo hi sl Q I rx hs pl pu q;rcases q with q|q
 ·exact h pins s σ H x v vl vu lo hi sl Q I rx hs pl pu q
 ·exact h' pins s σ H x v vl vu lo hi sl Q I rx hs pl pu q
def LU(r:V->Option Int->Option Int->Hp->VK->Prop)(te:TE)(tl th:TO):TE:=fun σ H Q=>te σ H fun x H1=>tl σ H1 fun l H2=>th σ H2 fun u H3=>r x l u H3 Q
theorem D8{r:V->Option Int->Option Int->Hp->VK->Prop}(hr:C5 X r)(he:PE X e te)(hl:PO X lo tl)(hu:PO X hi th):PE X (.Subscript e (.Slice lo hi none p2) pos) (LU r te tl th):=by
 intro pins s σ H Q I h;refine QS (cI (he pins s σ H _ I h) fun v s1 zz=>?_);obtain⟨x,H1,I1,r1,q1⟩:=zz;refine wpAny_Slice (cI (hl pins s1 σ H1 _ I1 q1) fun vl s2 zz=>?_);obtain⟨l,H2,I2,pl,q2⟩:=zz;refine cI (hu pins s2 σ H2 _ I2 q2) fun vu s3 zz=>?_;obtain⟨u,H3,I3,pu,q3⟩:=zz;rw[evalPart_none];refine Ml ?_;have I4:Inv X pins σ H3 { s3 with heap:=s3.heap.push { cls:=.type "slice",data:=.fields #[vl,vu,.none] } }:=I3.kept (t':=s3.toks) fun b ob q=>Mn _ q
 obtain⟨T,id,hT,ht,hg⟩:=hr pins { s3 with heap:=s3.heap.push { cls:=.type "slice",data:=.fields #[vl,vu,.none] } } σ H3 x v vl vu l u s3.heap.objs.size Q I4 r1 (Heap.IsSliceOf.new ..) pl pu q3
 show Mo (Mt X.prog X.w) X.A (P_ e (.Slice lo hi none p2) v (.ref s3.heap.objs.size)) (EP X pins σ Q) X.xe { s3 with heap:=s3.heap.push { cls:=.type "slice",data:=.fields #[vl,vu,.none] } }
 exact tail_any (ops:=[.ref s3.heap.objs.size,v]) ht hT hg (by with_unfolding_all rfl)
def zT(xs:List V)(lo hi:Option Int):List V:=(xs.drop (HT.sIx xs.length 0 lo)).take (HT.sIx xs.length xs.length hi - HT.sIx xs.length 0 lo)
theorem qX(xs:List V)(lo hi:Option Int):(zT xs lo hi).length<=xs.length:=by
 unfold zT;rw[Nk,OM];omega
def Li(K:PySem.W.Frag):V->Option Int->Option Int->Hp->VK->Prop:=fun x lo hi H Q=>∃ a xs,x=.ref a/\kt K H a xs/\
 ¬ (HT.sIx xs.length 0 lo=0/\HT.sIx xs.length xs.length hi=xs.length)/\∀ p,H p=none->Q (.ref p) (bE H p (.tup (zT xs lo hi)))
theorem Hy:C5 X (Li X.K):=by
 intro pins s σ H x v vl vu lo hi sl Q I rx hs pl pu h;obtain⟨a,xs,rfl,hx,hw,q⟩:=h;cases rx;obtain⟨its,r,ht,hz⟩:=I.tuple hx;have hlen:its.toArray.size=xs.length:=by rw[Mv];exact r.length.symm
 refine⟨"tuple",_,PyProof.Rows.slot_tuple_getitem.lookup,ht.typeIs,?_⟩;refine HT.getItem_tuple_cut ht hs pl pu (by rw[hlen];exact hw) ?_ (by rw[hlen];exact hz)
 rw[hlen];refine⟨.ref s.heap.objs.size,_,I.laid (t':=s.toks) (o:=.tup (zT xs lo hi)) (fun b ob q=>Mn _ q) (le_refl _) ?_,rfl,q _ (I.hok.fresh (le_refl _))⟩;exact⟨le_trans (qX xs lo hi) hz,_,(r.drop (HT.sIx xs.length 0 lo)).take (HT.sIx xs.length xs.length hi - HT.sIx xs.length 0 lo),uz.new _ _⟩
def JO(K:PySem.W.Frag):R2:=fun x y H Q=>∃ a b xs ys,x=.ref a/\y=.ref b/\kt K H a xs/\kt K H b ys/\xs≠[]/\xs.length+ys.length<=Mp/\
 (ys=[]->Q (.ref a) H)/\(ys≠[]->∀ p,H p=none->Q (.ref p) (bE H p (.tup (xs ++ ys))))
theorem Vals.nil_iff{xs:List V}{us:List Mh}(r:Vals xs us):us=[]↔xs=[]:=by
 cases r with
 | nil=>simp
 | cons _ _=>simp
theorem F0:gG X (Na .Add) (JO X.K):=by
 intro pins s σ H x y v u Q I rx ry h;obtain⟨a,b,xs,ys,rfl,rfl,ha,hb,hx,hz,q1,q2⟩:=h;cases rx;cases ry;obtain⟨its,r1,p1,_⟩:=I.tuple ha;obtain⟨its2,r2,p2,_⟩:=I.tuple hb;refine HT.cat_tup p1 p2 (fun z=>hx (r1.nil_iff.mp z)) (fun z=>⟨.ref a,H,I,rfl,q1 (r2.nil_iff.mp z)⟩) (fun z=>?_) (by rw[<- r1.length,<- r2.length];exact hz)
 refine⟨.ref s.heap.objs.size,_,I.laid (t':=s.toks) (o:=.tup (xs ++ ys)) (fun b ob q=>Mn _ q) (le_refl _) ?_,rfl,q2 (fun w=>z (r2.nil_iff.mpr w)) _ (I.hok.fresh (le_refl _))⟩;exact⟨by rw[MP];exact hz,_,r1.append r2,uz.new _ _⟩
end
def Gi(n:Nat)(i:Int):Option Nat:=if 0<=i then (if i < n then some i.toNat else none)else if -(n:Int)<=i then some (i+n).toNat else none
def kN{α:Type}(xs:List α)(i:Int):Option α:=(Gi xs.length i).bind fun j=>xs[j]?
theorem BK{n:Nat}{i:Int}{j:Nat}(h:Gi n i=some j):seqIndex? i n=some j/\j < n/\-(n:Int)<=i/\i < n:=by
 unfold Gi at h
 by_cases h0:0<=i
 ·rw[if_pos h0]at h
  by_cases h1:i < n
  ·rw[if_pos h1]at h;have e:i.toNat=j:=Option.some.inj h;exact⟨by rw[Qz h0 h1,e],by walk_at "o",by walk_at "o",h1⟩
  ·rw[if_neg h1]at h;cases h
 ·rw[if_neg h0]at h
  by_cases h1:-(n:Int)<=i
  ·rw[if_pos h1]at h;have e:(i+n).toNat=j:=Option.some.inj h;exact⟨by rw[seqIndex_neg (by walk_at "o") h1,e],by walk_at "o",h1,by walk_at "o"⟩
  ·rw[if_neg h1]at h;cases h
theorem yp{α:Type}{xs:List α}{i:Int}{v:α}(h:kN xs i=some v):∃ j,seqIndex? i xs.length=some j/\xs[j]?=some v/\j < xs.length/\-(xs.length:Int)<=i/\i < xs.length:=by
 unfold kN at h;cases e:Gi xs.length i with
 | none=>rw[e]at h;cases h
 | some j=>
  rw[e]at h;obtain⟨h1,h2,h3,h4⟩:=BK e;exact⟨j,h1,h,h2,h3,h4⟩
def B1(b:MJ):Prop:=∀ o i,PQ b false o i=operate [o,i] (OV o i)
def C6(X:Cx)(r:R2):Prop:=
 ∀ (value slice:MJ) (pins:List (Mg×Obj)) (s:Mi) (σ:St) (H:Hp) (x y:V) (v u:Mh) (Q:VK),Inv X pins σ H s->aI x v->aI y u->r x y H Q->
  PQ slice false v u=operate [v,u] (OV v u)->Mo (Mt X.prog X.w) X.A (P_ value slice v u) (EP X pins σ Q) X.xe s
def KL(X:Cx)(id:String)(r:V->List V->Hp->VK->Prop):Prop:=
 ∀ (pins:List (Mg×Obj)) (s:Mi) (σ:St) (H:Hp) (x:V) (xs:List V) (v:Mh) (us:List Mh) (Q:VK),Inv X pins σ H s->aI x v->Vals xs us->r x xs H Q->
  Mo (Mt X.prog X.w) X.A (call (.builtin id) (v::us)) (EP X pins σ Q) X.xe s
section
variable{X:Cx}{a b:MJ}{ta tb:TE}{pos:Pos}
theorem C6.or{r r':R2}(h:C6 X r)(h':C6 X r'):C6 X (fun x y H Q=>r x y H Q\/r' x y H Q):=by
 intro value slice pins s σ H x y v u Q I rx ry q hs;rcases q with q|q
 ·exact h value slice pins s σ H x y v u Q I rx ry q hs
 ·exact h' value slice pins s σ H x y v u Q I rx ry q hs
theorem KL.or{id:String}{r r':V->List V->Hp->VK->Prop}(h:KL X id r)(h':KL X id r'):KL X id (fun x xs H Q=>r x xs H Q\/r' x xs H Q):=by
 intro pins s σ H x xs v us Q I rx rs q;rcases q with q|q
 ·exact h pins s σ H x xs v us Q I rx rs q
 ·exact h' pins s σ H x xs v us Q I rx rs q
theorem JW{r:R2}(hr:C6 X r)(ha:PE X a ta)(hb:PE X b tb)(hs:B1 b):PE X (.Subscript a b pos) (Jo r ta tb):=by
 intro pins s σ H Q I h;exact QS (Jg ha hb I h fun v u s2 x y H2 I2 rx ry q=>hr a b pins s2 σ H2 x y v u Q I2 rx ry q (hs _ _))
def JN(K:PySem.W.Frag):R2:=fun x y H Q=>∃ p xs i v,x=.ref p/\y=.int i/\jw K H p xs/\kN xs i=some v/\Q v H
def JL(K:PySem.W.Frag):R2:=fun x y H Q=>∃ p xs i v,x=.ref p/\y=.int i/\kt K H p xs/\kN xs i=some v/\Q v H
def JM:R2:=fun x y H Q=>∃ z i c,x=.str z/\y=.int i/\z.length<=Mp/\kN z.cps.toList i=some c/\Q (.str ⟨#[c]⟩) H
theorem Gh:C6 X (JN X.K):=by
 intro value slice pins s σ H x y v u Q I rx ry h hs;obtain⟨p,xs,i,z,rfl,rfl,hq,he,q⟩:=h;cases rx;obtain⟨t,rfl⟩:=ry;obtain⟨its,r,pl,hz⟩:=I.list hq;obtain⟨j,h1,h2,h3,h4,h5⟩:=yp he;obtain⟨w,ew,rw'⟩:=r.get h2;have hl:=r.length;have hn:=lL;have fin:EP X pins σ Q w s:=⟨z,H,I,rw',q⟩
 by_cases h0:0<=i
 ·have hj:i.toNat=j:=by
   rw[Qz h0 h5]at h1;exact Option.some.inj h1
  exact item_listR pl.isList h0 (by walk_at "o") (by rw[hj];simpa using ew) fin hs
 ·have hj:(i+(its.toArray.size:Int)).toNat=j:=by
   rw[seqIndex_neg (by walk_at "o") h4]at h1
   rw[Mv,<- hl];exact Option.some.inj h1
  exact Ql (x:=w) pl.isList.typeIs slot_list_getitem.lookup
   (wpAny_getItem_list_neg (Q:=fun r s'=>r=w/\EP X pins σ Q r s') pl.isList (by walk_at "o") (by rw[Mv]<;>omega) (by walk_at "o") (by rw[hj];simpa using ew) ⟨rfl,fin⟩) hs
theorem IH:C6 X (JL X.K):=by
 intro value slice pins s σ H x y v u Q I rx ry h hs;obtain⟨p,xs,i,z,rfl,rfl,hq,he,q⟩:=h;cases rx;obtain⟨t,rfl⟩:=ry;obtain⟨its,r,pl,hz⟩:=I.tuple hq;obtain⟨j,h1,h2,h3,h4,h5⟩:=yp he;obtain⟨w,ew,rw'⟩:=r.get h2;have hl:=r.length;have hn:=lL;have fin:EP X pins σ Q w s:=⟨z,H,I,rw',q⟩;exact Ql (x:=w) pl.typeIs slot_tuple_getitem.lookup
  (getItem_tuple (j:=j) (Q:=fun r s'=>r=w/\EP X pins σ Q r s') pl (by walk_at "o") (by walk_at "o") (by rw[Mv,<- hl];exact h1) (by simpa using ew) ⟨rfl,fin⟩) hs
theorem II:C6 X JM:=by
 intro value slice pins s σ H x y v u Q I rx ry h hs;obtain⟨z,i,c,rfl,rfl,hz,he,q⟩:=h;obtain⟨t,rfl⟩:=rx;obtain⟨t',rfl⟩:=ry;obtain⟨j,h1,h2,h3,h4,h5⟩:=yp he;have hl:z.cps.toList.length=z.length:=by simp[OZ]
 rw[hl]at h1 h4 h5;have hn:=lL;exact tail_any (QM s z t) slot_str_getitem.lookup (getItem_str (c:=c) (by
  have e1:decide (i < -(2 ^ 63:Int))=false:=decide_eq_false (by walk_at "o")
  have e2:decide (i>=2 ^ 63)=false:=decide_eq_false (by walk_at "o")
  rw[e1,e2,Bool.or_false]) (by rw[h1];simpa using h2) ⟨.str ⟨#[c]⟩,H,I.tok _,⟨_,rfl⟩,q⟩) hs
def LY(K:PySem.W.Frag):R2:=fun x y H Q=>JN K x y H Q\/JL K x y H Q\/JM x y H Q
theorem IJ:C6 X (LY X.K):=Gh.or (IH.or II)
theorem AY(its:List Mh)(n j:Nat)(u:Mh):NE (·.setIfInBounds j u) { cls:=.type "list",data:=.seq its.toArray n }={ cls:=.type "list",data:=.seq (its.set j u).toArray n }:=by
 simp[NE]
theorem Inv.lst{pins:List (Mg×Obj)}{σ:St}{H:Hp}{s:Mi}{p:Mg}{xs:List V}(I:Inv X pins σ H s)(h:H p=some (.lst xs)):
  ∃ (its:List Mh) (n:Nat),Vals xs its/\s.heap.get? p=some { cls:=.type "list",data:=.seq its.toArray n }/\xs.length<=Mp:=by
 obtain⟨z,its,n,r,e⟩:=I.hok p _ h;exact⟨its,n,r,e,z⟩
theorem Inv.lstUpd{pins:List (Mg×Obj)}{σ:St}{H:Hp}{s:Mi}{p:Mg}{xs ys:List V}{its its':List Mh}{n n':Nat}{f:Obj->Obj}(I:Inv X pins σ H s)(h:H p=some (.lst xs))
  (ho:s.heap.get? p=some { cls:=.type "list",data:=.seq its.toArray n }) (hf:f { cls:=.type "list",data:=.seq its.toArray n }={ cls:=.type "list",data:=.seq its'.toArray n' }) (r:Vals ys its') (hz:ys.length<=Mp) (t:Nat):
  Inv X pins σ (bE H p (.lst ys)) { s with heap:=s.heap.update p f,toks:=t }:=by
 have e:(s.heap.update p f).get? p=some { cls:=.type "list",data:=.seq its'.toArray n' }:=by
  rw[O7 f ho (by rw[hf]<;>rfl),hf]
 refine I.write (x:=p) (e:=p) (by rw[h];trivial) (.inl rfl) (fun b u hb q=>(Om _ _ (Ne.symm hb)).trans q) ⟨_,e⟩ ?_
 exact⟨hz,its',n',r,e⟩
def JK:V->V->V->Hp->(Hp->Prop)->Prop:=fun o i v H Q=>∃ p xs k j,o=.ref p/\i=.int k/\H p=some (.lst xs)/\Gi xs.length k=some j/\Q (bE H p (.lst (xs.set j v)))
theorem Dx:Jl X JK:=by
 intro pins s σ H o i v ov iv u Q I ro ri rv h;obtain⟨p,xs,k,j,rfl,rfl,hp,hj,q⟩:=h;cases ro;obtain⟨t,rfl⟩:=ri;obtain⟨its,n,r,ho,hz⟩:=I.lst hp;obtain⟨h1,h2,h3,h4⟩:=BK hj;have hl:=r.length;have hn:=lL;have I':Inv X pins σ (bE H p (.lst (xs.set j v))) { s with heap:=s.heap.update p (NE (·.setIfInBounds j u)) }:=
  I.lstUpd hp ho (AY its n j u) (r.set rv j) (by rw[List.length_set];exact hz) s.toks
 by_cases h0:0<=k
 ·have hk:k.toNat=j:=by
   rw[Qz h0 h4]at h1;exact Option.some.inj h1
  exact PySem.W.ki_setAt ho h0 (by walk_at "o") (by rw[Mv,<- hl];exact h4) (by rw[hk];exact⟨_,I',q⟩)
 ·have hk:(k+(its.toArray.size:Int)).toNat=j:=by
   rw[seqIndex_neg (by walk_at "o") h3]at h1
   rw[Mv,<- hl];exact Option.some.inj h1
  exact PySem.W.ki_setBack ho (by walk_at "o") (by rw[Mv,<- hl];exact h3) (by walk_at "o") (by rw[hk];exact⟨_,I',q⟩)
theorem wM(lo hi:Option Int)(n:Nat):(NJ lo hi none n).1=((HT.sIx n 0 lo:Nat):Int)/\(NJ lo hi none n).2.1=((HT.sIx n n hi:Nat):Int)/\(NJ lo hi none n).2.2=1:=by
 refine⟨?_,?_,rfl⟩
 ·cases lo with
  | none=>simp[NJ,HT.sIx]
  | some i=>
   simp only[NJ,HT.sIx,Option.getD_none,show (1:Int) > 0 by decide,if_true]
   by_cases h:i < 0
   ·simp only[h,if_true]<;>omega
   ·simp only[h,if_false]<;>omega
 ·cases hi with
  | none=>simp[NJ,HT.sIx]
  | some i=>
   simp only[NJ,HT.sIx,Option.getD_none,show (1:Int) > 0 by decide,if_true]
   by_cases h:i < 0
   ·simp only[h,if_true]<;>omega
   ·simp only[h,if_false]<;>omega
theorem uG(its:List Mh)(lo hi:Option Int):slicePick its.toArray lo hi none=((its.drop (HT.sIx its.length 0 lo)).take (HT.sIx its.length its.length hi - HT.sIx its.length 0 lo)).toArray:=by
 obtain⟨h1,h2,h3⟩:=wM lo hi its.toArray.size;unfold slicePick;rw[h1,h2,h3];simp only[sliceRange_one,pick_run,Mv]<;>rfl
def Lj(K:PySem.W.Frag):V->Option Int->Option Int->Hp->VK->Prop:=fun x lo hi H Q=>∃ a xs,x=.ref a/\jw K H a xs/\∀ p,H p=none->Q (.ref p) (bE H p (.lst (zT xs lo hi)))
theorem Fu:C5 X (Lj X.K):=by
 intro pins s σ H x v vl vu lo hi sl Q I rx hs pl pu h;obtain⟨a,xs,rfl,hx,q⟩:=h;cases rx;obtain⟨its,r,ht,hz⟩:=I.list hx;have hlen:=r.length;refine⟨"list",_,slot_list_getitem.lookup,ht.isList.typeIs,?_⟩;refine wpAny_getItem_list_slice ht.isList hs pl pu .none (by simp) ?_ (by rw[Mv]<;>omega)
 rw[uG,<- hlen];refine⟨.ref s.heap.objs.size,_,I.laid (t':=s.toks) (o:=.lst (zT xs lo hi)) (fun b ob q=>Mn _ q) (le_refl _) ?_,rfl,q _ (I.hok.fresh (le_refl _))⟩;exact⟨le_trans (qX xs lo hi) hz,_,0,(r.drop (HT.sIx xs.length 0 lo)).take (HT.sIx xs.length xs.length hi - HT.sIx xs.length 0 lo),Mq _ rfl⟩
theorem yl:d8 X (.builtin "len") (fun xs H Q=>∃ p ys,xs=[.ref p]/\(jw X.K H p ys\/kt X.K H p ys)/\Q (.int ys.length) H):=by
 intro pins s σ H xs us Q I r h;obtain⟨p,ys,rfl,hq,q⟩:=h;obtain⟨u,rfl,rx⟩:=sd r;cases rx;have hn:=lL;rcases hq with hq|hq
 ·obtain⟨its,r',pl,hz⟩:=I.list hq;have hlen:=r'.length;exact Calls.call_len_list pl.isList (by simp only[Mv]<;>omega) ⟨.int ys.length,H,I.tok _,⟨s.toks+1,by rw[Mv,hlen]⟩,q⟩
 ·obtain⟨its,r',pl,hz⟩:=I.tuple hq;have hlen:=r'.length;exact len_tuple pl (by simp only[Mv]<;>omega) ⟨.int ys.length,H,I.tok _,⟨s.toks+1,by rw[Mv,hlen]⟩,q⟩
theorem yk:d8 X (.builtin "len") (fun xs H Q=>∃ z,xs=[.str z]/\z.length<=Mp/\Q (.int z.length) H):=by
 intro pins s σ H xs us Q I r h;obtain⟨z,rfl,hz,q⟩:=h;obtain⟨u,rfl,t,rfl⟩:=sd r;have hn:=lL;exact len_str (by walk_at "o") ⟨.int z.length,H,I.tok _,⟨_,rfl⟩,q⟩
theorem d8.or{f:Mh}{r r':List V->Hp->VK->Prop}(h:d8 X f r)(h':d8 X f r'):d8 X f (fun xs H Q=>r xs H Q\/r' xs H Q):=by
 intro pins s σ H xs us Q I rs q;rcases q with q|q
 ·exact h pins s σ H xs us Q I rs q
 ·exact h' pins s σ H xs us Q I rs q
theorem yj:d8 X (.type "list") (fun xs H Q=>∃ p ys,xs=[.ref p]/\(jw X.K H p ys\/kt X.K H p ys)/\∀ l,H l=none->Q (.ref l) (bE H l (.lst ys))):=by
 intro pins s σ H xs us Q I r h;obtain⟨p,ys,rfl,hq,q⟩:=h;obtain⟨u,rfl,rx⟩:=sd r;cases rx;have fin:∀ (its:List Mh),Vals ys its->ys.length<=Mp->∀ (h':MG) (c':Nat),(∀ b o',s.heap.get? b=some o'->h'.get? b=some o')->
   h'.get? s.heap.objs.size=some { cls:=.type "list",dict:=none,data:=.seq its.toArray c',slots:=#[] }->EP X pins σ Q (.ref s.heap.objs.size) { s with heap:=h' }:=fun its r' hz h' c' kp e=>
  ⟨.ref s.heap.objs.size,_,I.laid (t':=s.toks) kp (le_refl _) (show cg X.prog X.w _ h' _ (.lst ys)from ⟨hz,its,c',r',e⟩),rfl,q _ (I.hok.fresh (le_refl _))⟩
 rcases hq with hq|hq
 ·obtain⟨its,r',pl,hz⟩:=I.list hq;have hlen:=r'.length;obtain⟨o,ho,hc,n,hd⟩:=pl.isList;exact call_list_seq p (.inl rfl) ho hc hd (fun h' c' kp e=>fin its r' hz h' c' kp e) (by simp only[Mv]<;>omega)
 ·obtain⟨its,r',pl,hz⟩:=I.tuple hq;have hlen:=r'.length;obtain⟨o,ho,hc,n,hd⟩:=pl;exact call_list_seq p (.inr rfl) ho hc hd (fun h' c' kp e=>fin its r' hz h' c' kp e) (by simp only[Mv]<;>omega)
theorem vV:d8 X (.type "tuple") (fun xs H Q=>∃ p ys,xs=[.ref p]/\((jw X.K H p ys/\∀ l,H l=none->Q (.ref l) (bE H l (.tup ys)))\/(kt X.K H p ys/\Q (.ref p) H))):=by
 intro pins s σ H xs us Q I r h;obtain⟨p,ys,rfl,h⟩:=h;obtain⟨u,rfl,rx⟩:=sd r;cases rx;rcases h with ⟨hq,q⟩|⟨hq,q⟩
 ·obtain⟨its,r',pl,hz⟩:=I.list hq;have hlen:=r'.length;refine call_tuple_list pl.isList (fun h' kp=>?_) (by simp only[Mv]<;>omega)
  have I1:Inv X pins σ H { s with heap:=h' }:=I.kept (t':=s.toks) kp
  have I2:Inv X pins σ (bE H h'.objs.size (.tup ys)) { s with heap:=h'.push { cls:=.type "tuple",data:=.seq its.toArray } }:=
   I1.laid (t':=s.toks) (fun b o e=>Mn _ e) (le_refl _) (show cg X.prog X.w _ _ _ (.tup ys)from ⟨hz,its,r',uz.new _ _⟩)
  exact⟨.ref h'.objs.size,_,I2,rfl,q _ (I1.hok.fresh (le_refl _))⟩
 ·obtain⟨its,r',pl,hz⟩:=I.tuple hq;exact call_tuple_same pl ⟨.ref p,H,I,rfl,q⟩
def LO(K:PySem.W.Frag)(T:String)(x:V)(H:Hp):Prop:=match x with
 | .str _=>T="str"
 | .int _=>T="int"
 | .ref p=>(T="list"/\∃ xs,jw K H p xs)\/(T="tuple"/\∃ o,K.lookup p=some o/\o.cls=.type "tuple"/\o.dict=none)\/
   (T="dict"/\((∃ kvs,H p=some (.dK kvs))\/∃ kvs,H p=some (.dT kvs)))\/(T="set"/\∃ S n,H p=some (.set S n))
 | _=>False
theorem Ho{pins:List (Mg×Obj)}{σ:St}{H:Hp}{s:Mi}{T:String}{x:V}{v:Mh}(I:Inv X pins σ H s)(r:aI x v)(ty:LO X.K T x H):
  s.TypeIs v T/\∀ a,v=.ref a->∃ ob,s.heap.get? a=some ob/\ob.dict=none:=by
 cases x with
 | str z=>
  obtain⟨t,rfl⟩:=r;cases (show T="str" from ty)
  exact⟨QM s z t,fun _ e=>nomatch e⟩
 | int i=>
  obtain⟨t,rfl⟩:=r;cases (show T="int" from ty)
  exact⟨typeIs_int s i t,fun _ e=>nomatch e⟩
 | ref p=>
  cases r;rcases ty with ⟨rfl,xs,hq⟩|⟨rfl,o,hk,hc,hd⟩|⟨rfl,hk⟩|⟨rfl,S,n,hk⟩
  ·obtain⟨its,_,pl,_⟩:=I.list hq;refine⟨pl.isList.typeIs,fun a e=>?_⟩;cases e;obtain⟨o,n,e,c,hd,_⟩:=pl;exact⟨o,e,hd⟩
  ·refine⟨⟨o,I.kIn p o hk,hc⟩,fun a e=>?_⟩;cases e;exact⟨o,I.kIn _ o hk,hd⟩
  ·have z:∃ o,s.heap.get? p=some o/\o.ExactDict:=by
    rcases hk with ⟨kvs,hk⟩|⟨kvs,hk⟩
    ·obtain⟨_,_,_,_,o,_,_,e,ex,_⟩:=I.hok p _ hk;exact⟨o,e,ex⟩
    ·obtain⟨_,_,_,_,o,_,_,e,ex,_⟩:=I.hok p _ hk;exact⟨o,e,ex⟩
   obtain⟨o,e,ex⟩:=z;refine⟨⟨o,e,ex.1⟩,fun a e2=>?_⟩;cases e2;exact⟨o,e,ex.2.1⟩
  ·obtain⟨o,_,_,_,e,ex,_⟩:=I.hok p _ hk;refine⟨⟨o,e,ex.1⟩,fun a e2=>?_⟩;cases e2;exact⟨o,e,ex.2.1⟩
 | _=>exact False.elim ty
def LW(K:PySem.W.Frag)(T:String)(r:V->List V->Hp->VK->Prop)(to:TE)(t:TA):TE:=fun σ H Q=>to σ H fun x H1=>LO K T x H1/\t σ H1 fun xs H2=>r x xs H2 Q
variable{o e:MJ}{es:List MJ}{to:TE}{t:TA}{name:Str}{apos cpos:Pos}{T id:String}{r:V->List V->Hp->VK->Prop}
theorem JY(pa:PlainAttrs T)(slot:Slot T name id)(hty:typeOf (.builtin id)=pure (.type "method_descriptor"))(hm:KL X id r)(ho:PE X o to)(ha:PA X (e::es) t)
  (T8:ND o name X.env (eval o X.env)=eval o X.env:=by rfl)
  (UJ:((Nr cpos (Mu (e::es) X.env)).all (fun x=>!x.1) && (Ou cpos (NK [] X.env)).all (fun x=>x.1.isSome)
   && decide ((e::es).length+([]:List O0).length+(if ([]:List O0).isEmpty then 0 else 1) < 30))=true:=by rfl)
  (T5:(apos.endLine == cpos.line)=true:=by rfl) (hs:Mu (e::es) X.env=(false,eval e X.env)::Mu es X.env:=by rfl) (Ul:(Nr cpos (Mu es X.env)).any (·.1)=false:=by rfl):
  PE X (.Call (.Attribute o name apos) (e::es) [] cpos) (LW X.K T r to t):=by
 intro pins s σ H Q I h;refine wpAny_Call_method_late T8 UJ T5 rfl (cI (ho pins s σ H _ I h) fun v s1 zz=>?_);obtain⟨x,H1,I1,r1,ty,q1⟩:=zz;obtain⟨h1,h2⟩:=Ho I1 r1 ty;refine⟨T,id,pa,slot,hty,h1,h2,?_⟩;have hA:=ha cpos pins s1 σ H1 _ I1 q1;rw[hs]at hA ⊢;refine O1 (by show (false || (Nr cpos (Mu es X.env)).any (·.1))=false;rw[Ul]<;>rfl) (QD ?_)
 exact cI hA fun us s2 ⟨vs,H2,I2,r2,q2⟩=>hm pins s2 σ H2 x vs v us Q I2 r1 r2 q2
end
def Ma(X:Cx)(id:String)(r:V->List V->Hp->VK->Prop):Prop:=
 ∀ (pins:List (Mg×Obj)) (s:Mi) (σ:St) (H:Hp) (x:V) (xs:List V) (v:Mh) (us:List Mh) (Q:VK),Inv X pins σ H s->aI x v->Vals xs us->r x xs H Q->
  Mo (Mt X.prog X.w) X.A (call (.builtin id) (v::us)) (EP X pins σ Q) X.xe s
theorem Vals.one:∀ {x:V} {us:List Mh},Vals [x] us->∃ u,us=[u]/\aI x u
 | _,_,.cons r .nil=>⟨_,rfl,r⟩
theorem Vals.two:∀ {x y:V} {us:List Mh},Vals [x,y] us->∃ u v,us=[u,v]/\aI x u/\aI y v
 | _,_,_,.cons r (.cons q .nil)=>⟨_,_,rfl,r,q⟩
theorem Vals.reverse{xs:List V}{us:List Mh}(h:Vals xs us):Vals xs.reverse us.reverse:=by
 induction h with
 | nil=>exact .nil
 | cons r t ih=>rw[List.reverse_cons,List.reverse_cons];exact Vals.append ih (.cons r .nil)
section
variable{X:Cx}{pins:List (Mg×Obj)}{σ:St}{H:Hp}{s:Mi}{l b:Mg}{xs ys zs:List V}
theorem Inv.lset{its its':List Mh}{n:Nat}{f:Array Mh->Array Mh}{t':Nat}(I:Inv X pins σ H s)(hH:H l=some (.lst xs))
  (e:s.heap.get? l=some { cls:=.type "list",data:=.seq its.toArray n }) (hf:f its.toArray=its'.toArray) (hv:Vals ys its') (hz:ys.length<=Mp):
  Inv X pins σ (bE H l (.lst ys)) { s with heap:=s.heap.update l (NE f),toks:=t' }:=by
 have q:=PySem.IsL.update e f;rw[hf]at q;refine I.write (x:=l) (e:=l) (by rw[hH];exact trivial) (.inl rfl) (fun b' u hb hu=>(Om s.heap (NE f) (Ne.symm hb)).trans hu) ⟨_,q⟩ ?_
 exact⟨hz,its',_,hv,q⟩
theorem Inv.lnew{its:List Mh}{t':Nat}(I:Inv X pins σ H s)(hv:Vals ys its)(hz:ys.length<=Mp):
  Inv X pins σ (bE H s.heap.objs.size (.lst ys)) { s with heap:=s.heap.push { cls:=.type "list",data:=.seq its.toArray },toks:=t' }:=
 I.laid (fun _ _ q=>Mn _ q) (le_refl _) ⟨hz,its,0,hv,Mq _ rfl⟩
theorem Inv.fresh(I:Inv X pins σ H s):H s.heap.objs.size=none:=I.hok.fresh (le_refl _)
theorem Inv.lstM(I:Inv X pins σ H s)(hH:H l=some (.lst xs)):xs.length<=Mp/\∃ (its:List Mh) (n:Nat),Vals xs its/\xs.length=its.length/\s.heap.get? l=some { cls:=.type "list",data:=.seq its.toArray n }:=by
 obtain⟨z,its,n,r,e⟩:=I.hok l _ hH;exact⟨z,its,n,r,r.length,e⟩
end
section
variable{X:Cx}
def rAppend:V->List V->Hp->VK->Prop:=fun x vs H Q=>∃ l xs y,x=.ref l/\vs=[y]/\H l=some (.lst xs)/\xs.length < Mp/\Q .non (bE H l (.lst (xs ++ [y])))
theorem we:Ma X "list.append" rAppend:=by
 intro pins s σ H x vs v us Q I rx rv h;obtain⟨l,xs,y,rfl,rfl,hH,hz,q⟩:=h;cases rx;obtain⟨u,rfl,ru⟩:=rv.one;obtain⟨z,its,n,r,hl,e⟩:=I.lstM hH;refine QQ F.slot_list_append ⟨_,e,rfl⟩ F.entry_list_append (F.args_list_append_2 _ _) (PySem.list_append l its.toArray n u (by rw[Mv];omega)) ⟨e,?_⟩
 refine⟨.non,_,I.lset (its':=its ++ [u]) hH e (by simp) (r.append (.cons ru .nil)) ?_,rfl,q⟩
 rw[MP,List.length_singleton];omega
theorem BI{α:Type}(xs:List α)(k:Nat):(List.replicate k xs).flatten.length=k*xs.length:=by
 induction k with
 | zero=>simp
 | succ k ih=>rw[List.replicate_succ,List.flatten_cons,MP,ih,Nat.succ_mul,Nat.add_comm]
end
end L2
namespace Att
open PySem PySem.W PySem.Calls PyProof.Rows
theorem rP{P:Params}{h:MG}:∀ (ns:List Int) (vs:List Mh),WellAll P h vs (ns.map WData.int)->Qq vs ns:=by
 intro ns
 induction ns with
 | nil=>
  intro vs w;rw[OA]at w;cases w;exact .nil
 | cons n ns ih=>
  intro vs w;rw[MF]at w;cases w with
  | cons a b=>
   cases a;exact .cons _ _ (ih _ b)
theorem Cc{l:OpenLaw}{n:Nat}(hn:l.most=some n){P:Params}{h:MG}{args:List WData}{vals:List Mh}
  (UD:l.row.toRowW.claim.pre args=true) (hwl:WellAll P h vals args):
  ∃ a vs ns,vals=[Value.ref a]/\args=[WData.list (ns.map WData.int)]/\h.get? a=some { cls:=.type "list",data:=.seq vs.toArray }/\Qq vs ns/\ns.length<=n:=by
 have hsh:WShape.hasAll [] args [.list .int]=true:=(pre_splitW UD).1;have hc:l.pre.holds [] { args:=args }=true:=(pre_splitW UD).2;obtain⟨d,r,rfl,h1,h2⟩:=hasAllW_cons hsh;obtain rfl:=hasAllW_nil h2;obtain⟨xs,rfl,h3⟩:=hasW_list h1;obtain⟨ns,rfl⟩:=items_int h3;have hlen:ns.length<=n:=by
  unfold OpenLaw.pre at hc;have h4:(WTm.not (.lt (.lit (.int (n:Int))) (.len (.arg 0)))).holds [] { args:=[.list (ns.map .int)] }=true:=by
   have h4:=(holds_andW hc).1;rw[hn]at h4;exact h4
  have h5:=condW_of h4 (w_not (w_lt w_lit (w_len_list (w_arg rfl))));rw[Mm]at h5;refine Nat.le_of_not_lt fun q=>?_;have q':(n:Int) < ((ns.length:Nat):Int):=by walk_at "o"
  first
   | (rw[decide_eq_true q']at h5;exact absurd h5 (by decide))
   | (simp at h5;omega)
 cases hwl with
 | cons w1 w2=>
  cases w2;cases w1 with
  | list ho hall=>exact⟨_,_,ns,rfl,rfl,ho,rP ns _ hall,hlen⟩
theorem Ci(l:OpenLaw)(args:List WData):l.row.toRowW.claim.post args (.bool true) args=true:=
 postW_of (r:=l.row.toRowW) (X:=(true == true))
  (show WShape.has [] (.bool true) .bool=true by first|rfl|decide|simp[WShape.has,WShape.arms,WShape.armsAll])
  (show (WTm.eq .res (.lit (.bool true))).value [] { args:=args,res:=some (.bool true),after:=args }=some (.bool (true == true))from w_eq_bool (w_res rfl) w_lit) rfl
theorem attach_call{l:OpenLaw}{n:Nat}{q:Mw}{loose:List Str}{XP:(Str->Option Mh)->MG->Prop}{YP:ME->MG->Prop}{d:DefRec}
  (hn:l.most=some n) (hdf:d.params.defaults=[])
  (call:∀ (w:ME) (s₀ s₁:Mi) (mg mb:Str->Option Mh) (fa:Mg) (o:Obj) (pm cd doc:Mh) (a:Mg) (vs:List Mh) (ns:List Int),
   Ground q loose [] XP w s₀ mg mb s₁.heap->YP w s₁.heap->
   s₁.heap.get? fa=some o->o.data=.func (docDef d.name d.params d.body d.scope pm cd doc)->s₁.heap.CodeRec cd d.name->mg d.name=some (.ref fa)->
   s₁.heap.get? a=some { cls:=.type "list",data:=.seq vs.toArray }->Qq vs ns->ns.length<=n->s₁.gens=#[]->
   OB (Mt l.prog w) Pi (.call (.ref fa) ⟨[.ref a],[]⟩) (fun r s'=>r=.ok (.ret (.bool true))/\OldK s₁.heap s'.heap/\s'.os=s₁.os/\OO s'.gens) s₁):
  WalkO q loose XP YP l.row.toRowW d [] (fun f vs=>PySem.call f vs):=by
 intro w s₀ s₁ mg mb G Y fa o pm cd doc dV kV ho hd hcd hD hmg hg args vals as UD hlay hrd hwl hlo;obtain rfl:dV=.none:=Dflts.none hD hdf;obtain rfl:kV=.none:=Dflts.noKw hD;obtain⟨a,vs,ns,rfl,rfl,TJ,hints,hlen⟩:=Cc hn UD hwl;refine enter_call (OY (call w s₀ s₁ mg mb fa o pm cd doc a vs ns G Y ho (fd_plain hd) hcd hmg TJ hints hlen hg) fun r s' hq=>?_);obtain⟨rfl,h2,h3,h4⟩:=hq;exact⟨.inl ⟨.bool true,.bool true,[],rfl,fun _=>rfl,.bool true,Ci l _,fun _=>⟨List.Pairwise.nil,fun _ hm=>(nomatch hm)⟩⟩,h2,h3,h4⟩
end Att
namespace L2
open PySem PySem.Spec PyProof.Rows
theorem vZ:∀ {vs:List Mh} {ns:List Int},Qq vs ns->Vals (ns.map V.int) vs
 | _,_,.nil=>.nil
 | _,_,.cons n t h=>.cons ⟨t,rfl⟩ (vZ h)
def GL(H:Hp):Prop:=∀ b,H b=none\/∃ o xs,H b=some (.frz o (.lst xs))
theorem Et{P:Mw}{w:ME}{K:PySem.W.Frag}{mg mb:Str->Option Mh}{CX:B2}{k:Nat}{fa a:Mg}{fd:Mr}{x:Str}{sp:Sp}{s₁:Mi}{vs:List Mh}{ns:List Int}
  (KX:K.In s₁.heap) (hns:s₁.heap.Ns My mg) (hb:s₁.heap.Ns QR mb) (hbb:∀ x:Str,x≠"__name__"->mb x=Nl x) (U6:s₁.heap.NoLimit) (hg:s₁.gens=#[])
  (ha:s₁.heap.get? a=some { cls:=.type "list",data:=.seq vs.toArray }) (hi:Qq vs ns) (hl:ns.length<=Mp) (hr:Room k Pi)
  (F:∀ base:MG,K.In base->base.Ns My mg->FnOk P w K mg base CX k fa fd [x] sp) (UV:∀ (s:Mi) (u:Mh),PH s fd ⟨[u],[]⟩ [(x,u)])
  (hsp:∀ H:Hp,GL H->jw K H a (ns.map V.int)->sp [.ref a] H (fun v _=>v=.bl true) fun _ _ _=>False)
  (hCX:∀ H e s',CX [] H s₁ (fun _ _ _=>False) e s'->False):
  OB (Mt P w) Pi (.call (.ref fa) ⟨[.ref a],[]⟩) (fun r s'=>r=.ok (.ret (.bool true))/\OldK s₁.heap s'.heap/\s'.os=s₁.os/\OO s'.gens) s₁:=by
 have rv:=vZ hi;have U2:=hi.length;have core:∀ H:Hp,GL H->jw K H a (ns.map V.int)->mr P w H s₁.heap->(∀ b,H b≠none->b=a)->(H a≠none->K.lookup a=none)->
   OB (Mt P w) Pi (.call (.ref fa) ⟨[.ref a],[]⟩) (fun r s'=>r=.ok (.ret (.bool true))/\OldK s₁.heap s'.heap/\s'.os=s₁.os/\OO s'.gens) s₁:=by
  intro H hO hS hok hA hK;have Us:∀ {b:Mg} {o:Obj},s₁.heap.get? b=some o->H b=none->(xX s₁.heap H).get? b=some o:=fun e n=>EA e n;have noA:∀ {b:Mg} {o:Obj} {es:Array DictEntry} {ep:Nat},s₁.heap.get? b=some o->o.data=.dict es ep->H b=none:=fun {b o es ep} e d=>by
   cases q:H b with
   | none=>rfl
   | some u=>
    have e':b=a:=hA b (by rw[q];simp)
    subst e';rw[ha]at e;cases e;have d':Data.seq vs.toArray _=Data.dict es ep:=d;cases d'
  have nsK:∀ {b:Mg} {m:Str->Option Mh},s₁.heap.Ns b m->(xX s₁.heap H).Ns b m:=fun {b m} ⟨o,es,ep,e,d,r⟩=>⟨o,es,ep,Us e (noA e d),d,r⟩;have hKb:K.In (xX s₁.heap H):=fun b o e=>Us (KX b o e) (by
   cases q:H b with
   | none=>rfl
   | some u=>
    have e':b=a:=hA b (by rw[q];simp)
    subst e';rw[hK (by rw[q];simp)]at e;cases e)
  have hM:Mod K mg (xX s₁.heap H):=⟨hKb,nsK hns,⟨mb,nsK hb,hbb⟩,let ⟨mc,h1,h2⟩:=U6;⟨mc,nsK h1,h2⟩⟩;have e0:Env0 P w K mg (xX s₁.heap H) Pi [] s₁ H:=⟨rfl,hM,fun b o e=>F2 e,Nat.le_of_eq (CL _ _),trivial,fun b hb=>absurd (show b∈([]:List Mg)from hb) (by simp),hok,.of_eq hg⟩
  refine OY ((F _ hKb (nsK hns)).run Pi [] s₁ H ⟨[.ref a],[]⟩ [.ref a] [.ref a] _ _ hr e0 (UV s₁ (.ref a)) (.cons rfl .nil) (hsp H hO hS)) fun r s' h=>?_;cases r with
  | error e=>exact (hCX H e s' h).elim
  | ok fl=>
   cases fl with
   | next=>exact False.elim h
   | brk=>exact False.elim h
   | cont=>exact False.elim h
   | ret u=>
    obtain⟨v,H',os,bare,un,hok',r',q⟩:=h;have q':v=.bl true:=q;subst q';obtain rfl:u=Value.bool true:=r';refine⟨rfl,OldK.of_keep fun b o e=>?_,os,bare⟩;cases q:H b with
    | none=>exact un.keep b o e q (by intro z;exact absurd (show b∈([]:List Mg)from z) (by simp)) (by simp)
    | some u=>
     rcases hO b with z|⟨ob,xs,z⟩
     ·rw[q]at z;cases z
     ·have z2:=un.frzs b ob _ z;obtain⟨e1,_⟩:=hok b _ z;obtain⟨e2,_⟩:=hok' b _ z2;rw[e]at e1;cases e1;exact e2
 cases hk:K.lookup a with
 | some o=>
  have e:=KX a o hk;rw[ha]at e;cases e;refine core (fun _=>none) (fun _=>.inl rfl) (.inr ⟨_,vs.toArray,_,hk,rfl,rfl,rfl,by rw[Mv,U2];exact hl,by simpa using rv⟩) (fun b u z=>by have z':(none:Option HO)=some u:=z;cases z') (fun b z=>absurd rfl z) fun z=>absurd rfl z
 | none=>
  refine core (fun b=>if b=a then some (.frz { cls:=.type "list",data:=.seq vs.toArray } (.lst (ns.map V.int)))else none) (fun b=>?_) (.inl (.inr ⟨{ cls:=.type "list",data:=.seq vs.toArray },if_pos rfl⟩)) (fun b u z=>?_) (fun b z=>?_) fun _=>hk
  ·by_cases hb:b=a
   ·exact .inr ⟨_,_,if_pos hb⟩
   ·exact .inl (if_neg hb)
  ·by_cases hb:b=a
   ·have z':=(if_pos hb).symm.trans z;cases z';subst hb;exact⟨ha,by rw[Mm];exact hl,vs,_,rv,ha⟩
   ·have z':=(if_neg hb).symm.trans z;cases z'
  ·by_cases hb:b=a
   ·exact hb
   ·exact absurd (if_neg hb) z
abbrev Me{K:PySem.W.Frag}{h:MG}(_:K.In h):PySem.W.Frag:=K
theorem walk_of{l:PySem.W.OpenLaw}{n k:Nat}{q:Mw}{loose:List Str}{XP:(Str->Option Mh)->MG->Prop}{YP:ME->MG->Prop}{d:DefRec}{K:Params->PySem.W.Frag}{CX:ME->B2}{sp:ME->Sp}{x:Str}
  (hn:l.most=some n) (hn2:n<=Mp) (hdf:d.params.defaults=[]) (hr:Room k Pi)
  (hY:∀ (w:ME) (h:MG),YP w h->(K w.params).In h)
  (F:∀ (w:ME) (mg:Str->Option Mh) (fa:Mg) (h:MG),(K w.params).In h->h.Ns My mg->mg d.name=some (.ref fa)->
   ∃ fd:Mr,(∀ (s:Mi) (u:Mh),PH s fd ⟨[u],[]⟩ [(x,u)])/\
    ∀ base:MG,(K w.params).In base->base.Ns My mg->FnOk l.prog w (K w.params) mg base (CX w) k fa fd [x] (sp w))
  (hsp:∀ (w:ME) (H:Hp) (a:Mg) (ns:List Int),ns.length<=n->GL H->jw (K w.params) H a (ns.map V.int)->sp w [.ref a] H (fun v _=>v=.bl true) fun _ _ _=>False)
  (hCX:∀ (w:ME) (H:Hp) (s:Mi) (e:Mh) (s':Mi),CX w [] H s (fun _ _ _=>False) e s'->False):
  PySem.W.WalkO q loose XP YP l.row.toRowW d [] (fun f vs=>PySem.call f vs):=by
 refine Att.attach_call hn hdf fun w s₀ s₁ mg mb fa o pm cd doc a vs ns G Y ho hd hcd hmg TJ hints hlen hg=>?_;have KX:=hY w _ Y;obtain⟨fd,hb,hF⟩:=F w mg fa _ KX G.T.g hmg;exact Et KX G.T.g G.T.b G.T.builtins G.T.nolimit hg TJ hints (le_trans hlen hn2) hr hF hb (fun H hO hS=>hsp w H a ns hlen hO hS) fun H e s'=>hCX w H s₁ e s'
def aW(s:ML)(j:Nat):ML:=match s with
 | .ClassDef _ _ _ body _ _ _ _ _ _ _=>body.getD j (.Pass ⟨0,0,0,0⟩)
 | _=>.Pass ⟨0,0,0,0⟩
def eX(s:ML):Arguments:=match s with
 | .FunctionDef _ a _ _ _ _ _ _ _ _=>a
 | _=>{ posonlyargs:=[],args:=[],vararg:=none,kwonlyargs:=[],kw_defaults:=[],kwarg:=none,defaults:=[] }
def dB(s:ML):List ML:=match s with
 | .FunctionDef _ _ b _ _ _ _ _ _ _=>b
 | _=>[]
def ak(s:ML):Oo:=match s with
 | .FunctionDef _ _ _ _ _ _ sc _ _ _=>sc
 | _=>{ kind:=.function,names:=[],isGenerator:=false,isCoroutine:=false }
abbrev cU:B2:=fun _ _ _ _ _ _=>False
abbrev E0:XK:=fun _ _ _=>False
theorem v9{X:Cx}:nP cU X E0:=fun _ _ _ _ _ _ _ h=>h.elim
structure Fun(K:PySem.W.Frag)(x qual:Str)(st:ML)(f:Mg)(fd:Mr):Prop where
 ex:∃ (oc:Mh) (od:Option Mg) (kV doc pm:Mh) (an:Option Mg) (cdv ct:Mh) (osl:Array (Option Mh)),
  fd=PySem.W.fnOf x qual (eX st) (dB st) (ak st) .none kV doc pm an cdv ct/\K.lookup f=some ⟨oc,od,.func fd,osl⟩/\PySem.W.codeIn K cdv qual=true
 kp:PySem.W.keepIn K (.ref f)=true
section
variable{P:Mw}{w:ME}{K:PySem.W.Frag}{mg:Str->Option Mh}{base:MG}
theorem Fun.ok{x qual:Str}{st:ML}{f:Mg}{fd:Mr}{N ps:List Str}{k:Nat}{sp:Sp}(F:Fun K x qual st f fd)(S:FnScope N ps (ak st))(len:∀ vs H Q E,sp vs H Q E->vs.length=ps.length)
  (Td:∀ (cdv:Mh) (A:MA) (outer:List Env) (s:Mi) (H:Hp) (vs:List V) (Q:VK) (E:XK),Room k (A.deeper (OX qual (ak st) s.heap.objs.size f cdv))->sp vs H Q E->
   ∃ t,pE (zS cU P w K mg base N qual (ak st) f cdv A outer s H E).nox (dB st) t/\t { nx:=fun _ H'=>Q .non H',rt:=Q } (start N vs) H):FnOk P w K mg base cU (k+1) f fd ps sp:=by
 obtain⟨oc,od,kV,doc,pm,an,cdv,ct,osl,rfl,lk,hcd⟩:=F.ex;refine Hd lk hcd S len fun A outer s H vs Q E hr hsp=>?_;obtain⟨t,h,q⟩:=Td cdv A outer s H vs Q E hr hsp;exact⟨t,h.nox,q⟩
end
section
variable{X:Cx}
theorem pv(i:Nat){x:Str}{pos:Pos}(hN:X.N[i]?=some x:=by rfl)(hv:Ju X.env.scope x:=by first|exact Or.inl rfl|exact Or.inr (Or.inl rfl)|exact Or.inr (Or.inr rfl))(hd:(x == ("__debug__":Str))=false:=by decide)
  (hcd:(x == ("__classdict__":Str))=false:=by decide):PE X (.Name x pos) (Jz i):=AI hN hv hd hcd
end
theorem iteF{A B:Prop}(h:B):if false=true then A else B:=by
 rw[if_neg Bool.false_ne_true];exact h
theorem iteT{A B:Prop}(h:A):if true=true then A else B:=by
 rw[if_pos rfl];exact h
theorem ite2{c A B:Prop}[Decidable c](h1:c->A)(h2:¬ c->B):if c then A else B:=by
 by_cases h:c
 ·rw[if_pos h];exact h1 h
 ·rw[if_neg h];exact h2 h
def vW(H H':Hp):Prop:=∀ b o,H b=some o->H' b=some o
theorem vW.refl(H:Hp):vW H H:=fun _ _ h=>h
theorem vW.trans{H H1 H2:Hp}(a:vW H H1)(b:vW H1 H2):vW H H2:=fun c o h=>b c o (a c o h)
theorem vW.free{H H':Hp}(e:vW H H'){l:Mg}(h:H' l=Option.none):H l=Option.none:=by
 cases q:H l with
 | none=>rfl
 | some o=>
  rw[e l o q]at h;cases h
theorem vW.seq{K:PySem.W.Frag}{H H':Hp}{a:Mg}{xs:List V}(e:vW H H')(h:jw K H a xs):jw K H' a xs:=by
 rcases h with (h|⟨o,h⟩)|h
 ·exact .inl (.inl (e _ _ h))
 ·exact .inl (.inr ⟨o,e _ _ h⟩)
 ·exact .inr h
section
variable{κ:Type}[DecidableEq κ]
def ms(kvs:List (κ×V))(k:κ):Option V:=(kvs.find? fun kv=>decide (kv.1=k)).map (·.2)
def nv(kvs:List (κ×V))(k:κ)(v:V):List (κ×V):=
 if (kvs.any fun kv=>decide (kv.1=k))=true then kvs.map (fun kv=>if kv.1=k then (kv.1,v)else kv)else kvs ++ [(k,v)]
def He(kvs:List (κ×V))(k:κ):List (κ×V):=kvs.filter fun kv=>decide (kv.1≠k)
theorem nV{p:κ×V}{r:List (κ×V)}{k:κ}(e:p.1=k):ms (p::r) k=some p.2:=by simp[ms,MQ,e]
theorem nW{p:κ×V}{r:List (κ×V)}{k:κ}(e:¬ p.1=k):ms (p::r) k=ms r k:=by simp[ms,MQ,e]
theorem se(k:κ):∀ kvs:List (κ×V),(kvs.any fun kv=>decide (kv.1=k))=(ms kvs k).isSome
 | []=>rfl
 | p::r=>by
  rw[Pe]
  by_cases e:p.1=k
  ·simp only[nV e,decide_eq_true e,Bool.true_or,Option.isSome_some]
  ·rw[nW e,decide_eq_false e,Bool.false_or];exact se k r
theorem qQ(kvs:List (κ×V))(k:κ)(v:V):(nv kvs k v).length<=kvs.length+1:=by
 unfold nv;split
 ·rw[Mm];omega
 ·rw[MP,MD,MS];omega
theorem kM.isSome_eq{o:Option V}{u:Option Mh}(r:kM o u):o.isSome=u.isSome:=by
 cases o with
 | none=>cases u with
  | none=>rfl
  | some _=>exact (show False from r).elim
 | some _=>cases u with
  | none=>exact (show False from r).elim
  | some _=>rfl
theorem kM.getD{o:Option V}{u:Option Mh}{d:V}{d':Mh}(r:kM o u)(rd:aI d d'):aI (o.getD d) (u.getD d'):=by
 cases o with
 | none=>cases u with
  | none=>exact rd
  | some _=>exact (show False from r).elim
 | some _=>cases u with
  | none=>exact (show False from r).elim
  | some _=>exact r
theorem KV.val{kvs:List (κ×V)}{vs:List (κ×Mh)}(r:KV kvs vs)(k:κ):kM (ms kvs k) (Px vs k):=by
 unfold KV at r
 induction r with
 | nil=>exact True.intro
 | @cons p q ps qs h t ih=>
  obtain⟨h1,h2⟩:=h
  by_cases e:p.1=k
  ·have e':q.1=k:=h1.symm.trans e;have b:Px (q::qs) k=some q.2:=by simp[Px,MQ,e']
   rw[nV e,b];exact h2
  ·have e':¬ q.1=k:=fun z=>e (h1.trans z);have b:Px (q::qs) k=Px qs k:=by simp[Px,MQ,e']
   rw[nW e,b];exact ih
theorem KV.any{kvs:List (κ×V)}{vs:List (κ×Mh)}(r:KV kvs vs)(k:κ):(kvs.any fun kv=>decide (kv.1=k))=vs.any fun kv=>decide (kv.1=k):=by
 unfold KV at r
 induction r with
 | nil=>rfl
 | cons h t ih=>rw[Pe,Pe,ih,h.1]
theorem KV.repl{kvs:List (κ×V)}{vs:List (κ×Mh)}(r:KV kvs vs)(k:κ){y:V}{u:Mh}(ry:aI y u):
  KV (kvs.map fun kv=>if kv.1=k then (kv.1,y)else kv) (vs.map fun kv=>if kv.1=k then (kv.1,u)else kv):=by
 unfold KV at r ⊢
 induction r with
 | nil=>exact .nil
 | @cons p q ps qs h t ih=>
  rw[MF,MF];refine .cons ?_ ih;obtain⟨h1,h2⟩:=h
  by_cases e:p.1=k
  ·rw[if_pos e,if_pos (h1.symm.trans e)];exact⟨h1,ry⟩
  ·rw[if_neg e,if_neg (fun z=>e (h1.trans z))];exact⟨h1,h2⟩
theorem KV.put{kvs:List (κ×V)}{vs:List (κ×Mh)}(r:KV kvs vs)(k:κ){y:V}{u:Mh}(ry:aI y u):KV (nv kvs k y) (stored vs k u):=by
 unfold nv stored;rw[r.any k]
 by_cases e:(vs.any fun kv=>decide (kv.1=k))=true
 ·rw[if_pos e,if_pos e];exact r.repl k ry
 ·rw[if_neg e,if_neg e];exact PV r ⟨rfl,ry⟩
theorem KV.drop{kvs:List (κ×V)}{vs:List (κ×Mh)}(r:KV kvs vs)(k:κ):KV (He kvs k) (without vs k):=by
 unfold KV at r ⊢;unfold He without
 induction r with
 | nil=>exact .nil
 | @cons p q ps qs h t ih=>
  obtain⟨h1,h2⟩:=h;rw[List.filter_cons,List.filter_cons]
  by_cases e:p.1=k
  ·have a:¬ decide (p.1≠k)=true:=by simp[e]
   have b:¬ decide (q.1≠k)=true:=by simp[h1.symm.trans e]
   rw[if_neg a,if_neg b];exact ih
  ·have e':¬ q.1=k:=fun z=>e (h1.trans z);have a:decide (p.1≠k)=true:=by simp[e]
   have b:decide (q.1≠k)=true:=by simp[e']
   rw[if_pos a,if_pos b];exact .cons ⟨h1,h2⟩ ih
theorem KV.keys{kvs:List (κ×V)}{vs:List (κ×Mh)}(r:KV kvs vs):kvs.map (·.1)=vs.map (·.1):=by
 unfold KV at r
 induction r with
 | nil=>rfl
 | cons h t ih=>rw[MF,MF,ih,h.1]
theorem KV.length{kvs:List (κ×V)}{vs:List (κ×Mh)}(r:KV kvs vs):kvs.length=vs.length:=N7 r
end
theorem wm{P:Mw}{w:ME}{k:aJ}{u:Mh}(r:aI (kV k) u):(bv P w).is k u=true:=by
 cases k with
 | inl i=>obtain⟨t,e⟩:=(show ∃ t,u=Value.int i t from r);subst e;exact zi P w i t
 | inr x=>obtain⟨t,e⟩:=(show ∃ t,u=Value.str x t from r);subst e;exact zh P w x t
theorem qx{P:Mw}{w:ME}:∀ {ks:List aJ} {us:List Mh},Vals (ks.map kV) us->ItemsAre (bv P w) ks us
 | [],_,r=>by rw[OA]at r;cases r;exact .nil
 | k::ks,_,r=>by
  rw[MF]at r;cases r with
  | cons h t=>exact .cons (wm h) (qx t)
abbrev KT(H:Hp):List (List aJ×V)->List (List aJ×Mg×Mh)->Prop:=OG fun p q=>p.1=q.1/\H q.2.1=some (.tup (p.1.map kV))/\aI p.2 q.2.2
theorem KT.val{H:Hp}{kvs:List (List aJ×V)}{xs:List (List aJ×Mg×Mh)}(r:KT H kvs xs)(k:List aJ):kM (ms kvs k) ((Ov xs k).map (·.2)):=by
 induction r with
 | nil=>exact True.intro
 | @cons p q ps qs h t ih=>
  obtain⟨h1,_,h2⟩:=h
  by_cases e:p.1=k
  ·have e':q.1=k:=h1.symm.trans e;have b:Ov (q::qs) k=some q.2:=by simp[Ov,MQ,e']
   rw[nV e,b];exact h2
  ·have e':¬ q.1=k:=fun z=>e (h1.trans z);have b:Ov (q::qs) k=Ov qs k:=by simp[Ov,MQ,e']
   rw[nW e,b];exact ih
theorem KT.repl{H:Hp}{kvs:List (List aJ×V)}{xs:List (List aJ×Mg×Mh)}(r:KT H kvs xs)(k:List aJ){y:V}{u:Mh}(ry:aI y u):
  KT H (kvs.map fun kv=>if kv.1=k then (kv.1,y)else kv) (xs.map (putAt k u)):=by
 induction r with
 | nil=>exact .nil
 | @cons p q ps qs h t ih=>
  rw[MF,MF];refine .cons ?_ ih;obtain⟨h1,h2,h3⟩:=h;unfold putAt
  by_cases e:p.1=k
  ·rw[if_pos e,if_pos (h1.symm.trans e)];exact⟨h1,h2,ry⟩
  ·rw[if_neg e,if_neg (fun z=>e (h1.trans z))];exact⟨h1,h2,h3⟩
theorem KT.put{H:Hp}{kvs:List (List aJ×V)}{xs:List (List aJ×Mg×Mh)}(r:KT H kvs xs)(k:List aJ){b:Mg}{y:V}{u:Mh}(hb:H b=some (.tup (k.map kV)))(ry:aI y u):
  KT H (nv kvs k y) (Pg xs k b u):=by
 have e:(kvs.any fun kv=>decide (kv.1=k))=(Ov xs k).isSome:=by
  rw[se,(r.val k).isSome_eq,Option.isSome_map]
 unfold nv Pg;rw[e]
 by_cases q:(Ov xs k).isSome=true
 ·rw[if_pos q,if_pos q];exact r.repl k ry
 ·rw[if_neg q,if_neg q];exact PV r ⟨rfl,hb,ry⟩
theorem KT.keeps{H H':Hp}{kvs:List (List aJ×V)}{xs:List (List aJ×Mg×Mh)}(r:KT H kvs xs)(ht:∀ b ys,H b=some (.tup ys)->H' b=some (.tup ys)):KT H' kvs xs:=
 Paired.mapP r fun _ _ z=>⟨z.1,ht _ _ z.2.1,z.2.2⟩
section
variable{P:Mw}{w:ME}{H:Hp}{h:MG}{a:Mg}
theorem GW{u:HO}(ok:mr P w H h)(e:Rd H a u):cg P w H h a u:=e.ok ok
theorem wq{kvs:List (aJ×V)}(ok:mr P w H h)(e:Rd H a (.dK kvs)):kvs.length<=Mp/\(a == M9)=false/\∃ vs,KV kvs vs/\h.DictOf (bv P w) a vs:=
 show cg P w H h a (.dK kvs)from GW ok e
theorem Km{kvs:List (aJ×V)}(ok:mr P w H h)(e:H a=some (.dK kvs)):kvs.length<=Mp/\(a == M9)=false/\∃ vs,KV kvs vs/\h.DictOf (bv P w) a vs:=wq ok (.inl e)
theorem qv{ks:List aJ}(ok:mr P w H h)(e:H a=some (.tup (ks.map kV))):(Np (bv P w)).is h ks a:=by
 obtain⟨_,its,r,o,h1,h2,n,h3⟩:=(show cg P w H h a (.tup (ks.map kV))from ok a _ e)
 exact⟨o,its.toArray,n,h1,h2.1,h3,by simpa using qx r⟩
theorem wp{kvs:List (List aJ×V)}(ok:mr P w H h)(e:Rd H a (.dT kvs)):kvs.length<=Mp/\(a == M9)=false/\
  ∃ xs,KT H kvs xs/\h.DictOfH (Np (bv P w)) a xs:=by
 obtain⟨z,y,xs,r,o,es,ep,h1,h2,h3,h4,h5⟩:=(show cg P w H h a (.dT kvs)from GW ok e)
 refine⟨z,y,xs,r,o,es,ep,h1,h2,h3,h4,fun x hx=>?_,h5⟩;have all:∀ {l:List (List aJ×V)} {m:List (List aJ×Mg×Mh)},KT H l m->∀ x∈m,(Np (bv P w)).is h x.1 x.2.1:=by
  intro l m q
  induction q with
  | nil=>intro x hx;exact nomatch hx
  | @cons p q ps qs hq t ih=>
   intro x hx;rcases MV.mp hx with e|hx
   ·subst e;exact qv ok (by rw[<- hq.1];exact hq.2.1)
   ·exact ih x hx
 exact all r x hx
theorem Kl{kvs:List (List aJ×V)}(ok:mr P w H h)(e:H a=some (.dT kvs)):kvs.length<=Mp/\(a == M9)=false/\
  ∃ xs,KT H kvs xs/\h.DictOfH (Np (bv P w)) a xs:=wp ok (.inl e)
end
def uE(H:Hp)(a:Mg)(y:V)(r:Option V):Prop:=
 (∃ kvs k,Rd H a (.dK kvs)/\y=kV k/\r=ms kvs k)\/∃ kvs k b,Rd H a (.dT kvs)/\y=.ref b/\H b=some (.tup (k.map kV))/\r=ms kvs k
def C8(H:Hp)(a:Mg)(y v:V)(H':Hp):Prop:=
 (∃ kvs k,H a=some (.dK kvs)/\y=kV k/\kvs.length < Mp/\H'=bE H a (.dK (nv kvs k v)))\/
 ∃ kvs k b,H a=some (.dT kvs)/\y=.ref b/\H b=some (.tup (k.map kV))/\kvs.length < Mp/\H'=bE H a (.dT (nv kvs k v))
theorem uE.k{H:Hp}{a:Mg}{kvs:List (aJ×V)}{k:aJ}(e:H a=some (.dK kvs)):uE H a (kV k) (ms kvs k):=.inl ⟨kvs,k,.inl e,rfl,rfl⟩
theorem uE.t{H:Hp}{a b:Mg}{kvs:List (List aJ×V)}{k:List aJ}(e:H a=some (.dT kvs))(eb:H b=some (.tup (k.map kV))):uE H a (.ref b) (ms kvs k):=.inr ⟨kvs,k,b,.inl e,rfl,eb,rfl⟩
theorem C8.k{H:Hp}{a:Mg}{kvs:List (aJ×V)}{k:aJ}{v:V}(e:H a=some (.dK kvs))(hl:kvs.length < Mp):C8 H a (kV k) v (bE H a (.dK (nv kvs k v))):=.inl ⟨kvs,k,e,rfl,hl,rfl⟩
theorem C8.t{H:Hp}{a b:Mg}{kvs:List (List aJ×V)}{k:List aJ}{v:V}(e:H a=some (.dT kvs))(eb:H b=some (.tup (k.map kV)))(hl:kvs.length < Mp):
  C8 H a (.ref b) v (bE H a (.dT (nv kvs k v))):=.inr ⟨kvs,k,b,e,rfl,eb,hl,rfl⟩
section
variable{X:Cx}{pins:List (Mg×Obj)}{σ:St}{H:Hp}{s:Mi}{a:Mg}{y v:V}{u r:Mh}{o:Option V}{A:MA}{E:Mh->Mi->Prop}
theorem Inv.big(I:Inv X pins σ H s):M9 < s.heap.objs.size:=by
 have h:My < s.heap.objs.size:=(I.mod.glob.keeps I.bk).lt;exact Nat.lt_trans (by decide) h
theorem CV{Q:Mh->Mi->Prop}(hu:A.units+1 < M5)(I:Inv X pins σ H s)(g:uE H a y (some v))(ry:aI y u)(h:∀ w' s',Inv X pins σ H s'->aI v w'->Q w' s'):
  Mo (Mt X.prog X.w) A (OV (.ref a) u) Q E s:=by
 rcases g with ⟨kvs,k,e,ey,l⟩|⟨kvs,k,b,e,ey,eb,l⟩
 ·subst ey;obtain⟨z,hd,vs,rel,dd⟩:=wq I.hok e;obtain⟨w',hw,rw'⟩:=kM.some_of (v:=v) (o:=Px vs k) (by rw[l];exact rel.val k)
  exact wpAny_getItem_of (wm ry) dd.mapOf hw (h w' _ (I.tok _) rw')
 ·subst ey;cases (show u=Value.ref b from ry)
  obtain⟨z,hd,xs,rel,dd⟩:=wp I.hok e;obtain⟨w',hw,rw'⟩:=kM.some_of (v:=v) (o:=(Ov xs k).map (·.2)) (by rw[l];exact rel.val k)
  obtain⟨p,hp,hp2⟩:=Option.map_eq_some_iff.mp hw;refine QI (M8 hu) (qv I.hok eb) dd hp ?_;rw[hp2];exact h w' _ (I.tok _) rw'
theorem LC{Q:Mh->Mi->Prop}(hu:A.units+1 < M5)(I:Inv X pins σ H s)(g:uE H a y o)(ry:aI y u)(h:∀ s',Inv X pins σ H s'->Q (.bool o.isSome) s'):
  Mo (Mt X.prog X.w) A (MT .In u (.ref a)) Q E s:=by
 rcases g with ⟨kvs,k,e,ey,l⟩|⟨kvs,k,b,e,ey,eb,l⟩
 ·subst ey;obtain⟨z,hd,vs,rel,dd⟩:=wq I.hok e;refine wpAny_in_of (wm ry) hd dd.mapOf ?_;rw[<- (rel.val k).isSome_eq,<- l];exact h _ (I.tok _)
 ·subst ey;cases (show u=Value.ref b from ry)
  obtain⟨z,hd,xs,rel,dd⟩:=wp I.hok e;refine wpAny_in_heap (M8 hu) (qv I.hok eb) hd dd ?_;have q:=(rel.val k).isSome_eq;rw[Option.isSome_map]at q;rw[<- q,<- l];exact h _ (I.tok _)
theorem Gu{Q:Mh->Mi->Prop}(hu:A.units+1 < M5)(I:Inv X pins σ H s)(g:uE H a y o)(ry:aI y u)(h:∀ s',Inv X pins σ H s'->Q (.bool (!o.isSome)) s'):
  Mo (Mt X.prog X.w) A (MT .NotIn u (.ref a)) Q E s:=by
 rcases g with ⟨kvs,k,e,ey,l⟩|⟨kvs,k,b,e,ey,eb,l⟩
 ·subst ey;obtain⟨z,hd,vs,rel,dd⟩:=wq I.hok e;refine wpAny_notIn_of (wm ry) hd dd.mapOf ?_;rw[<- (rel.val k).isSome_eq,<- l];exact h _ (I.tok _)
 ·subst ey;cases (show u=Value.ref b from ry)
  obtain⟨z,hd,xs,rel,dd⟩:=wp I.hok e;refine wpAny_notIn_heap (M8 hu) (qv I.hok eb) hd dd ?_;have q:=(rel.val k).isSome_eq;rw[Option.isSome_map]at q;rw[<- q,<- l];exact h _ (I.tok _)
theorem r8{h':MG}{t':Nat}{ob:HO}(I:Inv X pins σ H s)(mu:Fa (H a))(hs:NC a s.heap h')(he:∃ q,h'.get? a=some q)(new:cg X.prog X.w (bE H a ob) h' a ob):
  Inv X pins σ (bE H a ob) { s with heap:=h',toks:=t' }:=
 I.write (x:=a) (e:=a) mu (.inl rfl) (fun b q hb z=>(hs.2 b hb).trans z) he new
theorem IT{P:Mw}{w:ME}{H':Hp}{h':MG}{kvs:List (aJ×V)}{vs:List (aJ×Mh)}(z:kvs.length<=Mp)(hd:(a == M9)=false)(rel:KV kvs vs)(dd:h'.DictOf (bv P w) a vs):
  cg P w H' h' a (.dK kvs):=⟨z,hd,vs,rel,dd⟩
theorem CU{H':Hp}{Q:Unit->Mi->Prop}(hu:A.units+1 < M5)(I:Inv X pins σ H s)(g:C8 H a y v H')(ry:aI y u)(rv:aI v r)(h:∀ s',Inv X pins σ H' s'->Q () s'):
  Mo (Mt X.prog X.w) A (QX (.ref a) u r) Q E s:=by
 rcases g with ⟨kvs,k,e,ey,l,eH⟩|⟨kvs,k,b,e,ey,eb,l,eH⟩
 ·subst ey eH;obtain⟨z,hd,vs,rel,dd⟩:=Km I.hok e;have hz:vs.length<=Mp:=by rw[<- rel.length];exact z
  have hl:(nv kvs k v).length<=Mp:=by have:=qQ kvs k v;omega
  refine wpAny_setItem_pairs (hsz:=hz) (wm ry) dd fun h' dd' hs=>h _ ?_;have he:∃ q,h'.get? a=some q:=let ⟨q,_,_,hq,_⟩:=dd';⟨q,hq⟩;exact r8 I (by rw[e];exact True.intro) hs he (IT hl hd (rel.put k rv) dd')
 ·subst ey eH;cases (show u=Value.ref b from ry)
  obtain⟨z,hd,xs,rel,dd⟩:=Kl I.hok e;have hz:xs.length<=Mp:=by rw[<- N7 rel];exact z
  have hl:(nv kvs k v).length<=Mp:=by have:=qQ kvs k v;omega
  refine QH (hsz:=hz) (M8 hu) (qv I.hok eb) dd fun h' dd' hs=>h _ ?_;obtain⟨q,es,ep,hq,h2,h3,h4,_,h5⟩:=dd';refine r8 I (by rw[e];exact True.intro) hs ⟨q,hq⟩ ⟨hl,hd,_,(rel.put k eb rv).keeps fun c ys ec=>?_,q,es,ep,hq,h2,h3,h4,h5⟩
  rw[aA (J8 ec e (fun z=>nomatch z))];exact ec
end
def KJ(i:MJ):Prop:=∀ ov iv,PQ i false ov iv=operate [ov,iv] (OV ov iv)
theorem Fn{prog:Mw}{w:ME}{A:MA}{E:Mh->Mi->Prop}{s:Mi}{env:Env}{value slice:MJ}{pos:Pos}{T id:String}{Q:Mh->Mi->Prop}
  (hl:Pq (.type T) "__getitem__"=pure (some (.builtin id))) (hs:KJ slice)
  (h:Mo (Mt prog w) A (eval value env) (fun o s₁=>Mo (Mt prog w) A (eval slice env) (fun i s₂=>s₂.TypeIs o T/\Mo (Mt prog w) A (OV o i) Q E s₂) E s₁) E s):
  Mo (Mt prog w) A (eval (.Subscript value slice pos) env) Q E s:=by
 refine QS (M7 h (fun o s₁ h₁=>M7 h₁ (fun i s₂ h₂=>?_) fun _ _ x=>x) fun _ _ x=>x);obtain⟨hT,h₂⟩:=h₂;unfold P_;refine Mf ?_;rw[getitemInPython_of_ne hT.not_modules];refine Mf (wpAny_specialOf hT hl ?_);have fin:Mo (Mt prog w) A (PQ slice false o i) (fun r s₃=>Mo (Mt prog w) A (letTemporaryGo value o r >>= fun _=>pure r) Q E s₃) E s₂:=by
  rw[hs o i];exact wpAny_operating (M7 h₂ (fun r s₃ h₃=>Mf (wpAny_letTemporaryGo (Ml h₃))) fun _ _ x=>x)
 first
  | exact Ml (Mf fin)
  | exact Mf (Ml (Mf fin))
  | exact Mf fin
theorem EK{P:Mw}{w:ME}{H:Hp}(h:MG)(hb:M9 < h.objs.size):cg P w H (h.push { cls:=.type "dict",data:=.dict #[] }) h.objs.size (.dK []):=
 ⟨M6 _,beq_eq_false_iff_ne.mpr (Ne.symm (MO hb)),[],.nil,Heap.DictOf.new h⟩
def Hu:TE:=fun _ H Q=>∀ p,H p=none->Q (.ref p) (bE H p (.dK []))
section
variable{X:Cx}{pos:Pos}
theorem Ea:PE X (.Dict [] [] pos) Hu:=fun pins s σ H Q I h=>
 wpAny_Dict_empty ⟨.ref s.heap.objs.size,_,I.laid (a:=s.heap.objs.size) (o:=.dK []) (t':=s.toks) (fun _ _ q=>Mn _ q) (le_refl _) (EK s.heap I.big),rfl,h _ (I.hok.fresh (le_refl _))⟩
end
structure M1(X:Cx)(o:MJ)(m:Str)(apos:Pos)(e:MJ)(cpos:Pos):Prop where
 base:ND o m X.env (eval o X.env)=eval o X.env
 few:((Nr cpos (Mu [e] X.env)).all (fun x=>!x.1) && (Ou cpos (NK [] X.env)).all (fun x=>x.1.isSome)
  && decide (([e]:List MJ).length+([]:List O0).length+(if ([]:List O0).isEmpty then 0 else 1) < 30))=true
 line:(apos.endLine == cpos.line)=true
 trees:Nr cpos (Mu [e] X.env)=[(false,eval e X.env)]
structure M2(X:Cx)(o:MJ)(m:Str)(apos:Pos)(e f:MJ)(cpos:Pos):Prop where
 base:ND o m X.env (eval o X.env)=eval o X.env
 few:((Nr cpos (Mu [e,f] X.env)).all (fun x=>!x.1) && (Ou cpos (NK [] X.env)).all (fun x=>x.1.isSome)
  && decide (([e,f]:List MJ).length+([]:List O0).length+(if ([]:List O0).isEmpty then 0 else 1) < 30))=true
 line:(apos.endLine == cpos.line)=true
 trees:Nr cpos (Mu [e,f] X.env)=[(false,eval e X.env),(false,eval f X.env)]
def Mb(H:Hp)(a:Mg):Prop:=(∃ kvs,Rd H a (.dK kvs))\/∃ kvs,Rd H a (.dT kvs)
theorem IL{X:Cx}{pins:List (Mg×Obj)}{σ:St}{H:Hp}{s:Mi}{a:Mg}(I:Inv X pins σ H s)(d:Mb H a):
  s.TypeIs (.ref a) "dict"/\(∀ b,Value.ref a=.ref b->∃ ob,s.heap.get? b=some ob/\ob.dict=none)/\(a == M9)=false:=by
 rcases d with ⟨kvs,e⟩|⟨kvs,e⟩
 ·obtain⟨_,hd,vs,_,dd⟩:=wq I.hok e;refine⟨dd.typeIs,fun b q=>?_,hd⟩;cases q;obtain⟨ob,_,_,h1,h2,_⟩:=dd;exact⟨ob,h1,h2.2.1⟩
 ·obtain⟨_,hd,xs,_,dd⟩:=wp I.hok e;refine⟨dd.typeIs,fun b q=>?_,hd⟩;cases q;obtain⟨ob,_,_,h1,h2,_⟩:=dd;exact⟨ob,h1,h2.2.1⟩
section
variable{X:Cx}{pins:List (Mg×Obj)}{σ:St}{H:Hp}{s:Mi}{a:Mg}{y d:V}{u r:Mh}{o:Option V}{A:MA}{E:Mh->Mi->Prop}
theorem IV{Q:Mh->Mi->Prop}(hu:A.units+1 < M5)(I:Inv X pins σ H s)(g:uE H a y o)(ry:aI y u)(rd:aI d r)(h:∀ w' s',Inv X pins σ H s'->aI (o.getD d) w'->Q w' s'):
  Mo (Mt X.prog X.w) A (call (.builtin "dict.get") [.ref a,u,r]) Q E s:=by
 rcases g with ⟨kvs,k,e,ey,l⟩|⟨kvs,k,b,e,ey,eb,l⟩
 ·subst ey;obtain⟨z,hd,vs,rel,dd⟩:=wq I.hok e;refine Pz PySem.F.slot_dict_get dd.typeIs PySem.F.entry_dict_get (PySem.F.args_dict_get_3 _ _ _) (meets_dict_get_default (bv X.prog X.w) a (wm ry) hd r) ⟨_,dd.mapOf,h _ _ (I.tok _) ?_⟩;rw[l];exact (rel.val k).getD rd
 ·subst ey;cases (show u=Value.ref b from ry)
  obtain⟨z,hd,xs,rel,dd⟩:=wp I.hok e;refine Pz PySem.F.slot_dict_get dd.typeIs PySem.F.entry_dict_get (PySem.F.args_dict_get_3 _ _ _) (Qb (Np (bv X.prog X.w)) a b hd r) ⟨M8 hu,k,xs,qv I.hok eb,dd,h _ _ (I.tok _) ?_⟩;rw[l];exact (rel.val k).getD rd
end
end L2
namespace L3
open PySem PySem.Spec PyProof.Rows L2
abbrev St:=L2.St
inductive D where
 | non|bl (b:Bool)|int (i:Int)|str (x:Str)|tup (ds:List D)|lst (ds:List D)|fl (ds:List D)|ref (a:Mg)|ty (n:String)
inductive GO where
 | lst (ds:List D)
 | ins (C:Mg) (L:List Str) (ds:List D)
 | dK (kvs:List (aJ×D))
 | dT (hw:List aJ->Int) (kvs:List (List aJ×D))
abbrev Gp:=Mg->Option GO
def gset(G:Gp)(a:Mg)(o:GO):Gp:=fun b=>if b=a then some o else G b
def gC(G:Gp)(a:Mg):Gp:=fun b=>if b=a then none else G b
theorem az{G:Gp}{a:Mg}{o:GO}:gset G a o a=some o:=by unfold gset;rw[if_pos rfl]
theorem ao{G:Gp}{a b:Mg}{o:GO}(h:b≠a):gset G a o b=G b:=by unfold gset;rw[if_neg h]
theorem eT{G:Gp}{a:Mg}{o u:GO}:gset (gset G a o) a u=gset G a u:=by
 funext b;unfold gset;split<;>rfl
theorem eU{G:Gp}{a:Mg}:gC G a a=none:=by unfold gC;rw[if_pos rfl]
theorem eV{G:Gp}{a b:Mg}(h:b≠a):gC G a b=G b:=by unfold gC;rw[if_neg h]
def Dc(K:PySem.W.Frag)(H:Hp)(a:Mg)(xs:List V):Prop:=
 (∃ o,H a=some (.frz o (.lst xs)))\/
  ∃ (o:Obj) (its:Array Mh) (n:Nat),K.lookup a=some o/\o.cls=.type "list"/\o.dict=none/\o.data=.seq its n/\its.size<=Mp/\Vals xs its.toList
theorem Dc.sq{K:PySem.W.Frag}{H:Hp}{a:Mg}{xs:List V}(h:Dc K H a xs):jw K H a xs:=by
 rcases h with ⟨o,e⟩|h
 ·exact .inl (.inr ⟨o,e⟩)
 ·exact .inr h
mutual
def RD(K:PySem.W.Frag)(H:Hp):D->V->Prop
 | .non,v=>v=.non
 | .bl b,v=>v=.bl b
 | .int i,v=>v=.int i
 | .str x,v=>v=.str x
 | .ref a,v=>v=.ref a
 | .ty n,v=>v=.ty n
 | .fl _,_=>False
 | .tup ds,v=>∃ a xs,v=.ref a/\kt K H a xs/\RDs K H ds xs
 | .lst ds,v=>∃ a xs,v=.ref a/\Dc K H a xs/\RDs K H ds xs
def RDs(K:PySem.W.Frag)(H:Hp):List D->List V->Prop
 | [],xs=>xs=[]
 | d::ds,xs=>∃ x r,xs=x::r/\RD K H d x/\RDs K H ds r
end
structure Stb(K:PySem.W.Frag)(H H':Hp):Prop where
 t:∀ a xs,kt K H a xs->kt K H' a xs
 l:∀ a xs,Dc K H a xs->Dc K H' a xs
mutual
theorem RD.mono{K:PySem.W.Frag}{H H':Hp}(s:Stb K H H'):∀ (d:D) (v:V),RD K H d v->RD K H' d v
 | .non,v,h=>by simp only[RD]at h ⊢;exact h
 | .bl b,v,h=>by simp only[RD]at h ⊢;exact h
 | .int i,v,h=>by simp only[RD]at h ⊢;exact h
 | .str x,v,h=>by simp only[RD]at h ⊢;exact h
 | .ref a,v,h=>by simp only[RD]at h ⊢;exact h
 | .ty n,v,h=>by simp only[RD]at h ⊢;exact h
 | .fl _,v,h=>by simp only[RD]at h
 | .tup ds,v,h=>by
  simp only[RD]at h ⊢;obtain⟨a,xs,e,q,r⟩:=h;exact⟨a,xs,e,s.t _ _ q,RDs.mono s ds xs r⟩
 | .lst ds,v,h=>by
  simp only[RD]at h ⊢;obtain⟨a,xs,e,q,r⟩:=h;exact⟨a,xs,e,s.l _ _ q,RDs.mono s ds xs r⟩
theorem RDs.mono{K:PySem.W.Frag}{H H':Hp}(s:Stb K H H'):∀ (ds:List D) (xs:List V),RDs K H ds xs->RDs K H' ds xs
 | [],xs,h=>by simp only[RDs]at h ⊢;exact h
 | d::ds,xs,h=>by
  simp only[RDs]at h ⊢;obtain⟨x,r,e,h1,h2⟩:=h;exact⟨x,r,e,RD.mono s d x h1,RDs.mono s ds r h2⟩
end
section
variable{K:PySem.W.Frag}{H:Hp}
theorem RDs.nil:RDs K H [] []:=by simp only[RDs]
theorem RDs.cons{d:D}{x:V}{ds:List D}{xs:List V}(h:RD K H d x)(t:RDs K H ds xs):RDs K H (d::ds) (x::xs):=by
 simp only[RDs];exact⟨x,xs,rfl,h,t⟩
theorem RDs.inv_nil{xs:List V}(h:RDs K H [] xs):xs=[]:=by simpa only[RDs]using h
theorem RDs.inv_cons{d:D}{ds:List D}{xs:List V}(h:RDs K H (d::ds) xs):∃ x r,xs=x::r/\RD K H d x/\RDs K H ds r:=by simpa only[RDs]using h
theorem RDs.length:∀ {ds:List D} {xs:List V},RDs K H ds xs->ds.length=xs.length
 | [],xs,h=>by rw[h.inv_nil];rfl
 | d::ds,xs,h=>by
  obtain⟨x,r,e,_,h2⟩:=h.inv_cons;subst e;simp[RDs.length h2]
theorem RDs.get:∀ {ds:List D} {xs:List V} {i:Nat} {d:D},RDs K H ds xs->ds[i]?=some d->∃ x,xs[i]?=some x/\RD K H d x
 | [],xs,i,d,h,e=>by simp at e
 | c::ds,xs,0,d,h,e=>by
  obtain⟨x,r,e1,h1,h2⟩:=h.inv_cons;subst e1;simp at e;subst e;exact⟨x,rfl,h1⟩
 | c::ds,xs,i+1,d,h,e=>by
  obtain⟨x,r,e1,h1,h2⟩:=h.inv_cons;subst e1;obtain⟨y,q1,q2⟩:=RDs.get (i:=i) (d:=d) h2 (by simpa using e)
  exact⟨y,by simpa using q1,q2⟩
theorem RDs.append:∀ {ds es:List D} {xs ys:List V},RDs K H ds xs->RDs K H es ys->RDs K H (ds ++ es) (xs ++ ys)
 | [],es,xs,ys,h,h'=>by rw[h.inv_nil];exact h'
 | d::ds,es,xs,ys,h,h'=>by
  obtain⟨x,r,e,h1,h2⟩:=h.inv_cons;subst e;exact RDs.cons h1 (RDs.append h2 h')
theorem RDs.take:∀ {ds:List D} {xs:List V} (n:Nat),RDs K H ds xs->RDs K H (ds.take n) (xs.take n)
 | _,_,0,_=>by simp only[List.take_zero];exact RDs.nil
 | [],xs,n+1,h=>by rw[h.inv_nil];simp only[List.take_nil];exact RDs.nil
 | d::ds,xs,n+1,h=>by
  obtain⟨x,r,e,h1,h2⟩:=h.inv_cons;subst e;exact RDs.cons h1 (RDs.take n h2)
theorem RDs.drop:∀ {ds:List D} {xs:List V} (n:Nat),RDs K H ds xs->RDs K H (ds.drop n) (xs.drop n)
 | _,_,0,h=>by simpa only[List.drop_zero]using h
 | [],xs,n+1,h=>by rw[h.inv_nil];simp only[List.drop_nil];exact RDs.nil
 | d::ds,xs,n+1,h=>by
  obtain⟨x,r,e,h1,h2⟩:=h.inv_cons;subst e;exact RDs.drop n h2
theorem RDs.set:∀ {ds:List D} {xs:List V} {d:D} {x:V} (n:Nat),RDs K H ds xs->RD K H d x->RDs K H (ds.set n d) (xs.set n x)
 | [],xs,d,x,n,h,_=>by rw[h.inv_nil];simp only[List.set_nil];exact RDs.nil
 | c::ds,xs,d,x,0,h,h'=>by
  obtain⟨y,r,e,h1,h2⟩:=h.inv_cons;subst e;exact RDs.cons h' h2
 | c::ds,xs,d,x,n+1,h,h'=>by
  obtain⟨y,r,e,h1,h2⟩:=h.inv_cons;subst e;exact RDs.cons h1 (RDs.set n h2 h')
theorem RDs.reverse:∀ {ds:List D} {xs:List V},RDs K H ds xs->RDs K H ds.reverse xs.reverse
 | [],xs,h=>by rw[h.inv_nil];exact RDs.nil
 | d::ds,xs,h=>by
  obtain⟨x,r,e,h1,h2⟩:=h.inv_cons;subst e;rw[List.reverse_cons,List.reverse_cons];exact RDs.append (RDs.reverse h2) (RDs.cons h1 RDs.nil)
theorem RDs.ints:∀ ns:List Int,RDs K H (ns.map D.int) (ns.map V.int)
 | []=>RDs.nil
 | n::r=>RDs.cons (by simp only[RD]) (RDs.ints r)
theorem RDs.strs:∀ ns:List Str,RDs K H (ns.map D.str) (ns.map V.str)
 | []=>RDs.nil
 | n::r=>RDs.cons (by simp only[RD]) (RDs.strs r)
end
def yw(hw:List aJ->Int)(a:Mg)(xs:List (List aJ×Mg×Mh)):MG->Prop:=fun h=>(a == M9)=false/\∃ o es ep,h.get? a=some o/\o.ExactDict/\o.data=.dict es ep/\es.toList=xs.map fun x=>(⟨hw x.1,.ref x.2.1,x.2.2⟩:DictEntry)
def pD(K:PySem.W.Frag)(H:Hp):List (List aJ×D)->List (List aJ×Mg×Mh)->Prop:=OG fun p q=>p.1=q.1/\kt K H q.2.1 (p.1.map kV)/\∃ v,RD K H p.2 v/\aI v q.2.2
def Ab(K:PySem.W.Frag)(H:Hp):List (aJ×D)->List (aJ×V)->Prop:=OG fun p q=>p.1=q.1/\RD K H p.2 q.2
def RO(K:PySem.W.Frag)(H:Hp)(a:Mg):GO->HO->Prop
 | .lst ds,.lst xs=>RDs K H ds xs
 | .ins C L ds,.ins C' _ gs=>C'=C/\gs.map (·.1)=L/\RDs K H ds (gs.map (·.2))
 | .dK kvs,.dK hs=>Ab K H kvs hs
 | .dT hw kvs,.ext φ=>∃ xs,φ=yw hw a xs/\pD K H kvs xs/\(kvs.map (·.1)).Nodup/\kvs.length<=Mp
 | _,_=>False
def RG(K:PySem.W.Frag)(H:Hp)(G:Gp):Prop:=∀ a o,G a=some o->∃ h,H a=some h/\RO K H a o h
def Kp(G:Gp)(H:Hp)(G':Gp)(H':Hp):Prop:=∀ a h,H a=some h->G a=none->H' a=some h/\G' a=none
def Jn(G:Gp)(H:Hp)(p:Mg):Prop:=∀ h,H p=some h->G p≠none
section
variable{K:PySem.W.Frag}{H H' H1 H2:Hp}{G G' G1 G2:Gp}{p:Mg}
theorem pD.mono(s:Stb K H H'){kvs:List (List aJ×D)}{xs:List (List aJ×Mg×Mh)}(r:pD K H kvs xs):pD K H' kvs xs:=Paired.mapP r fun _ _ zz=>by
 obtain⟨a,b,v,c,d⟩:=zz;exact (
  ⟨a,s.t _ _ b,v,RD.mono s _ _ c,d⟩)
theorem Ab.mono(s:Stb K H H'){kvs:List (aJ×D)}{xs:List (aJ×V)}(r:Ab K H kvs xs):Ab K H' kvs xs:=Paired.mapP r fun _ _ zz=>by
 obtain⟨a,b⟩:=zz;exact (
  ⟨a,RD.mono s _ _ b⟩)
theorem RO.mono(s:Stb K H H'){a:Mg}{o:GO}{h:HO}(r:RO K H a o h):RO K H' a o h:=by
 cases o<;>cases h<;>first
  | exact r.elim
  | exact RDs.mono s _ _ r
  | exact⟨r.1,r.2.1,RDs.mono s _ _ r.2.2⟩
  | exact Ab.mono s r
  | (obtain⟨xs,e,q,n⟩:=r;exact⟨xs,e,q.mono s,n⟩)
theorem RG.none_of(rg:RG K H G){a:Mg}{h:HO}(e:H a=some h)(n:∀ o,¬ RO K H a o h):G a=none:=by
 cases q:G a with
 | none=>rfl
 | some o=>
  obtain⟨h',e',r⟩:=rg a o q;rw[e]at e';cases e';exact absurd r (n o)
theorem RG.free(rg:RG K H G)(e:H p=none):G p=none:=by
 cases q:G p with
 | none=>rfl
 | some o=>
  obtain⟨h',e',r⟩:=rg p o q;rw[e]at e';cases e'
theorem Iv{a:Mg}(o:GO)(xs:List V):¬ RO K H a o (.tup xs):=by cases o<;>exact id
theorem Ek{a:Mg}(o:GO)(ob:Obj)(u:HO):¬ RO K H a o (.frz ob u):=by cases o<;>exact id
theorem Kp.refl:Kp G H G H:=fun _ _ e n=>⟨e,n⟩
theorem Kp.trans(a:Kp G H G1 H1)(b:Kp G1 H1 G2 H2):Kp G H G2 H2:=fun x h e n=>b x h (a x h e n).1 (a x h e n).2
theorem Kp.stb(k:Kp G H G' H')(rg:RG K H G):Stb K H H' where
 t:=fun a xs q=>by
  rcases q with (q|⟨o,q⟩)|q
  ·exact .inl (.inl (k a _ q (rg.none_of q fun o=>Iv o xs)).1)
  ·exact .inl (.inr ⟨o,(k a _ q (rg.none_of q fun o'=>Ek o' o _)).1⟩)
  ·exact .inr q
 l:=fun a xs q=>by
  rcases q with ⟨o,q⟩|q
  ·exact .inl ⟨o,(k a _ q (rg.none_of q fun o'=>Ek o' o _)).1⟩
  ·exact .inr q
theorem Kp.fr(k:Kp G H G1 H1)(f:Jn G1 H1 p):Jn G H p:=fun h e n=>f h (k p h e n).1 (k p h e n).2
theorem rZ(e:H p=none):Jn G H p:=fun h q=>by rw[e]at q;cases q
theorem Kp.laid{o:HO}(e:H p=none):Kp G H G (bE H p o):=fun a h q n=>⟨by rw[aA (b7 q e)];exact q,n⟩
theorem RG.laid{o:HO}(rg:RG K H G)(e:H p=none):RG K (bE H p o) G:=fun a o' q=>by
 obtain⟨h,e1,r⟩:=rg a o' q;exact⟨h,by rw[aA (b7 e1 e)];exact e1,r.mono ((Kp.laid (G:=G) e).stb rg)⟩
end
abbrev fH:=List (Option D)
def Db(K:PySem.W.Frag)(H:Hp):Option D->Option V->Prop
 | some d,some v=>RD K H d v
 | none,_=>True
 | some _,none=>False
def RS(K:PySem.W.Frag)(H:Hp)(σ:fH)(τ:St):Prop:=OG (Db K H) σ τ
section
variable{K:PySem.W.Frag}{H H':Hp}
theorem Db.mono(s:Stb K H H'):∀ {a:Option D} {b:Option V},Db K H a b->Db K H' a b
 | some d,some v,r=>RD.mono s d v r
 | none,_,_=>trivial
 | some _,none,r=>r.elim
theorem RS.mono(s:Stb K H H'){σ:fH}{τ:St}(r:RS K H σ τ):RS K H' σ τ:=Paired.mapP r fun _ _ q=>q.mono s
theorem RS.get:∀ {σ:fH} {τ:St} {i:Nat} {d:D},RS K H σ τ->σ[i]?=some (some d)->∃ v,τ[i]?=some (some v)/\RD K H d v
 | _,_,_,_,.nil,e=>by simp at e
 | _,_,0,d,.cons (b:=b) r _,e=>by
  simp at e;subst e;cases b with
  | none=>exact r.elim
  | some v=>exact⟨v,rfl,r⟩
 | _,_,i+1,d,.cons _ t,e=>by
  obtain⟨v,h1,h2⟩:=RS.get (i:=i) (d:=d) t (by simpa using e)
  exact⟨v,by simpa using h1,h2⟩
theorem RS.set{d:D}{v:V}(r:RD K H d v):∀ {σ:fH} {τ:St} (i:Nat),RS K H σ τ->RS K H (σ.set i (some d)) (τ.set i (some v))
 | _,_,_,.nil=>.nil
 | _,_,0,.cons _ t=>.cons (show Db K H (some d) (some v)from r) t
 | _,_,i+1,.cons q t=>.cons q (RS.set r i t)
theorem RS.length{σ:fH}{τ:St}(r:RS K H σ τ):σ.length=τ.length:=N7 r
end
def RE(K:PySem.W.Frag)(G:Gp)(H:Hp)(G':Gp)(H':Hp)(d:D)(v:V):Prop:=
 (∃ ds p xs,d=.fl ds/\v=.ref p/\H' p=some (.lst xs)/\G' p=none/\RDs K H' ds xs/\Jn G H p)\/RD K H' d v
section
variable{K:PySem.W.Frag}{H H' H1 H2:Hp}{G G' G1 G2:Gp}{d:D}{v:V}
theorem RE.of(r:RD K H' d v):RE K G H G' H' d v:=.inr r
theorem RE.wait(r:RE K G H G1 H1 d v)(k:Kp G1 H1 G2 H2)(rg:RG K H1 G1):RE K G H G2 H2 d v:=by
 rcases r with ⟨ds,p,xs,e1,e2,e3,e4,e5,e6⟩|r
 ·exact .inl ⟨ds,p,xs,e1,e2,(k p _ e3 e4).1,(k p _ e3 e4).2,RDs.mono (k.stb rg) _ _ e5,e6⟩
 ·exact .inr (RD.mono (k.stb rg) _ _ r)
theorem RE.base(r:RE K G1 H1 G2 H2 d v)(k:Kp G H G1 H1):RE K G H G2 H2 d v:=by
 rcases r with ⟨ds,p,xs,e1,e2,e3,e4,e5,e6⟩|r
 ·exact .inl ⟨ds,p,xs,e1,e2,e3,e4,e5,k.fr e6⟩
 ·exact .inr r
theorem RE.rd(r:RE K G H G' H' d v)(h:∀ ds,d≠.fl ds):RD K H' d v:=by
 rcases r with ⟨ds,p,xs,e1,_⟩|r
 ·exact absurd e1 (h ds)
 ·exact r
theorem RE.int{i:Int}(r:RE K G H G' H' (.int i) v):v=.int i:=by
 have:=r.rd (by intro ds h;cases h);simpa only[RD]using this
theorem RE.str{i:Str}(r:RE K G H G' H' (.str i) v):v=.str i:=by
 have:=r.rd (by intro ds h;cases h);simpa only[RD]using this
theorem RE.bl{i:Bool}(r:RE K G H G' H' (.bl i) v):v=.bl i:=by
 have:=r.rd (by intro ds h;cases h);simpa only[RD]using this
theorem RE.non(r:RE K G H G' H' .non v):v=.non:=by
 have:=r.rd (by intro ds h;cases h);simpa only[RD]using this
theorem RE.ref{a:Mg}(r:RE K G H G' H' (.ref a) v):v=.ref a:=by
 have:=r.rd (by intro ds h;cases h);simpa only[RD]using this
theorem RE.tup{ds:List D}(r:RE K G H G' H' (.tup ds) v):∃ a xs,v=.ref a/\kt K H' a xs/\RDs K H' ds xs:=by
 have:=r.rd (by intro ds h;cases h);simpa only[RD]using this
theorem RE.lst{ds:List D}(r:RE K G H G' H' (.lst ds) v):∃ a xs,v=.ref a/\Dc K H' a xs/\RDs K H' ds xs:=by
 have:=r.rd (by intro ds h;cases h);simpa only[RD]using this
theorem RE.fl{ds:List D}(r:RE K G H G' H' (.fl ds) v):∃ p xs,v=.ref p/\H' p=some (.lst xs)/\G' p=none/\RDs K H' ds xs/\Jn G H p:=by
 rcases r with ⟨ds',p,xs,e1,e2,e3,e4,e5,e6⟩|r
 ·cases e1;exact⟨p,xs,e2,e3,e4,e5,e6⟩
 ·simp only[RD]at r
theorem dw{i:Int}:RD K H (.int i) (.int i):=by simp only[RD]
theorem lC{i:Str}:RD K H (.str i) (.str i):=by simp only[RD]
theorem hV{i:Bool}:RD K H (.bl i) (.bl i):=by simp only[RD]
theorem sW:RD K H .non .non:=by simp only[RD]
theorem iu{a:Mg}:RD K H (.ref a) (.ref a):=by simp only[RD]
theorem p5{ds:List D}{xs:List V}{a:Mg}(h:kt K H a xs)(r:RDs K H ds xs):RD K H (.tup ds) (.ref a):=by
 simp only[RD];exact⟨a,xs,rfl,h,r⟩
theorem p6{ds:List D}{xs:List V}{a:Mg}(h:Dc K H a xs)(r:RDs K H ds xs):RD K H (.lst ds) (.ref a):=by
 simp only[RD];exact⟨a,xs,rfl,h,r⟩
end
def rU(G:Gp):D->Option (List D)
 | .lst ds=>some ds
 | .fl ds=>some ds
 | .ref a=>match G a with
  | some (.lst ds)=>some ds
  | _=>none
 | _=>none
def Fc(G:Gp):D->Option (List D)
 | .tup ds=>some ds
 | d=>rU G d
section
variable{K:PySem.W.Frag}{H H':Hp}{G G':Gp}{d:D}{v:V}{ds:List D}
theorem kh(h:rU G' d=some ds)(r:RE K G H G' H' d v)(rg:RG K H' G'):∃ a xs,v=.ref a/\jw K H' a xs/\RDs K H' ds xs:=by
 cases d with
 | lst es=>
  obtain⟨a,xs,e,f,q⟩:=r.lst;simp only[rU,Option.some.injEq]at h;subst h;exact⟨a,xs,e,f.sq,q⟩
 | fl es=>
  obtain⟨a,xs,e,f,_,q,_⟩:=r.fl;simp only[rU,Option.some.injEq]at h;subst h;exact⟨a,xs,e,jw.of f,q⟩
 | ref a=>
  have e:=r.ref;simp only[rU]at h;cases q:G' a with
  | none=>rw[q]at h;cases h
  | some o=>
   rw[q]at h;cases o with
   | ins _ _ _=>cases h
   | dK _=>cases h
   | dT _ _=>cases h
   | lst es=>
    simp only[Option.some.injEq]at h;subst h;obtain⟨ho,e1,e2⟩:=rg a _ q;cases ho with
    | lst xs=>exact⟨a,xs,e,jw.of e1,e2⟩
    | _=>exact e2.elim
 | _=>simp[rU]at h
theorem uy(h:Fc G' d=some ds)(r:RE K G H G' H' d v)(rg:RG K H' G'):∃ a xs,v=.ref a/\(jw K H' a xs\/kt K H' a xs)/\RDs K H' ds xs:=by
 cases d with
 | tup es=>
  obtain⟨a,xs,e,f,q⟩:=r.tup;simp only[Fc,Option.some.injEq]at h;subst h;exact⟨a,xs,e,.inr f,q⟩
 | _=>
  obtain⟨a,xs,e,f,q⟩:=kh (by simpa only[Fc]using h) r rg
  exact⟨a,xs,e,.inl f,q⟩
theorem yb{xs:List V}{p:Mg}(rg:RG K H G)(e:H p=none)(r:RDs K H ds xs):RE K G H G (bE H p (.lst xs)) (.fl ds) (.ref p):=
 .inl ⟨ds,p,xs,rfl,rfl,aZ,rg.free e,RDs.mono ((Kp.laid (G:=G) e).stb rg) _ _ r,rZ e⟩
theorem lY{xs:List V}{p:Mg}(rg:RG K H G)(e:H p=none)(r:RDs K H ds xs):RD K (bE H p (.tup xs)) (.tup ds) (.ref p):=
 p5 (kt.of aZ) (RDs.mono ((Kp.laid (G:=G) e).stb rg) _ _ r)
end
end L3
namespace L2
open PySem PySem.Spec PyProof.Rows
section
variable{X:Cx}
theorem PE.imp{e:MJ}{t t':TE}(h:PE X e t)(i:∀ σ H Q,t' σ H Q->t σ H Q):PE X e t':=fun pins s σ H Q I q=>h pins s σ H Q I (i σ H Q q)
theorem PT.imp{e:MJ}{t t':TT}(h:PT X e t)(i:∀ σ H Q,t' σ H Q->t σ H Q):PT X e t':=fun pins s σ H Q I q=>h pins s σ H Q I (i σ H Q q)
theorem PW.imp{e:MJ}{t t':TT}(h:PW X e t)(i:∀ σ H Q,t' σ H Q->t σ H Q):PW X e t':=fun wh pins s σ H Q I q=>h wh pins s σ H Q I (i σ H Q q)
theorem PA.imp{es:List MJ}{t t':TA}(h:PA X es t)(i:∀ σ H Q,t' σ H Q->t σ H Q):PA X es t':=fun pos pins s σ H Q I q=>h pos pins s σ H Q I (i σ H Q q)
theorem PS.imp{e:ML}{t t':TS}(h:PS X e t)(i:∀ D σ H,t' D σ H->t D σ H):PS X e t':=fun pins s σ H D I q=>h pins s σ H D I (i D σ H q)
theorem pE.imp{e:List ML}{t t':TS}(h:pE X e t)(i:∀ D σ H,t' D σ H->t D σ H):pE X e t':=fun pins s σ H D I q=>h pins s σ H D I (i D σ H q)
theorem gG.imp{f:Mh->Mh->Sem Mh}{r r':R2}(h:gG X f r)(i:∀ x y H Q,r' x y H Q->r x y H Q):gG X f r':=fun pins s σ H x y v u Q I rx ry q=>h pins s σ H x y v u Q I rx ry (i x y H Q q)
theorem d8.imp{f:Mh}{r r':List V->Hp->VK->Prop}(h:d8 X f r)(i:∀ xs H Q,r' xs H Q->r xs H Q):d8 X f r':=fun pins s σ H xs us Q I r q=>h pins s σ H xs us Q I r (i xs H Q q)
theorem C5.imp{r r':V->Option Int->Option Int->Hp->VK->Prop}(h:C5 X r)(i:∀ x lo hi H Q,r' x lo hi H Q->r x lo hi H Q):C5 X r':=fun pins s σ H x v vl vu lo hi sl Q I rx hs pl pu q=>h pins s σ H x v vl vu lo hi sl Q I rx hs pl pu (i x lo hi H Q q)
theorem C6.imp{r r':R2}(h:C6 X r)(i:∀ x y H Q,r' x y H Q->r x y H Q):C6 X r':=fun value slice pins s σ H x y v u Q I rx ry q hs=>h value slice pins s σ H x y v u Q I rx ry (i x y H Q q) hs
theorem Inv.freeze{pins:List (Mg×Obj)}{σ:St}{H:Hp}{s:Mi}{p:Mg}{xs:List V}(I:Inv X pins σ H s)(e:H p=some (.lst xs)):∃ o,Inv X pins σ (bE H p (.frz o (.lst xs))) s:=by
 obtain⟨its,n,rv,ho,hz⟩:=I.lst e;have stay:∀ b,H b=none->(bE H p (.frz { cls:=.type "list",data:=.seq its.toArray n } (.lst xs))) b=none:=fun b hb=>by
  rw[aA (fun z=>by subst z;rw[hb]at e;cases e)];exact hb
 refine⟨{ cls:=.type "list",data:=.seq its.toArray n },⟨I.ok,I.os,I.bare,⟨I.base.keep,I.base.slot,fun b o h1 h2 h3=>stay b (I.base.free b o h1 h2 h3),I.base.there,fun b ys q=>?_,fun b o u q=>?_,fun b ps q=>?_⟩,I.loc,I.cell,stay _ I.free,fun x c hc=>stay c (I.freeC x c hc),fun q hq=>?_,fun b u q=>?_,I.len⟩⟩
 ·have q':=I.base.tups b ys q;rw[aA (fun z=>by subst z;rw[e]at q';cases q')];exact q'
 ·have q':=I.base.frzs b o u q;rw[aA (fun z=>by subst z;rw[e]at q';cases q')];exact q'
 ·obtain⟨more,q'⟩:=I.base.tbls b ps q;exact⟨more,by rw[aA (fun z=>by subst z;rw[e]at q';cases q')];exact q'⟩
 ·obtain⟨h1,h2,h3⟩:=I.pin q hq;exact⟨h1,stay _ h2,h3⟩
 ·by_cases hb:b=p
  ·subst hb;rw[aZ]at q;cases q;exact⟨ho,hz,its,n,rv,ho⟩
  ·rw[aA hb]at q;refine (I.hok b u q).stay (fun _ _ _ z=>z) (fun c z=>?_) fun c ys z=>?_
   ·rw[aA (fun y=>by subst y;rw[e]at z;cases z)];exact z
   ·rw[aA (fun y=>by subst y;rw[e]at z;cases z)];exact z
def gh(t:TE):TE:=fun σ H Q=>t σ H fun v H1=>Q v H1\/∃ p xs,v=.ref p/\H1 p=some (.lst xs)/\∀ o,Q v (bE H1 p (.frz o (.lst xs)))
theorem JX{e:MJ}{t:TE}(h:PE X e t):PE X e (gh t):=fun pins s σ H Q I q=>
 cI (h pins s σ H _ I q) fun u s' zz=>by
  obtain⟨v,H',I',r,q'⟩:=zz;rcases q' with q'|⟨p,xs,rfl,e,q'⟩
  ·exact⟨v,H',I',r,q'⟩
  ·obtain⟨o,I2⟩:=I'.freeze e;exact⟨.ref p,_,I2,r,q' o⟩
end
end L2
namespace L3
open PySem PySem.Spec PyProof.Rows L2
abbrev mT:=D->Gp->Prop
abbrev bR:=fH->Gp->mT->Prop
abbrev pC:=fH->Gp->(Bool->Gp->Prop)->Prop
abbrev nR:=fH->Gp->(List D->Gp->Prop)->Prop
structure Ends3 where
 nx:fH->Gp->Prop
 rt:mT
 bk:fH->Gp->Prop:=fun _ _=>False
 ct:fH->Gp->Prop:=fun _ _=>False
abbrev cj:=Ends3->fH->Gp->Prop
def uC(K:PySem.W.Frag)(G:Gp)(H:Hp)(Q3:mT)(Q:VK):Prop:=∀ d G' v H',Q3 d G'->Kp G H G' H'->RG K H' G'->RE K G H G' H' d v->Q v H'
def aE(K:PySem.W.Frag)(t:bR):TE:=fun τ H Q=>∃ σ G Q3,RS K H σ τ/\RG K H G/\t σ G Q3/\uC K G H Q3 Q
def cS(K:PySem.W.Frag)(t:pC):TT:=fun τ H Q=>∃ σ G Q3,RS K H σ τ/\RG K H G/\t σ G Q3/\∀ b G' H',Q3 b G'->Kp G H G' H'->RG K H' G'->Q b H'
def fi(K:PySem.W.Frag)(t:nR):TA:=fun τ H Q=>∃ σ G Q3,RS K H σ τ/\RG K H G/\t σ G Q3/\∀ ds G' vs H',Q3 ds G'->Kp G H G' H'->RG K H' G'->RDs K H' ds vs->Q vs H'
structure EndsOk(K:PySem.W.Frag)(G:Gp)(H:Hp)(D3:Ends3)(D:Ends):Prop where
 nx:∀ σ G' τ H',D3.nx σ G'->Kp G H G' H'->RG K H' G'->RS K H' σ τ->D.nx τ H'
 rt:uC K G H D3.rt D.rt
 bk:∀ σ G' τ H',D3.bk σ G'->Kp G H G' H'->RG K H' G'->RS K H' σ τ->D.bk τ H'
 ct:∀ σ G' τ H',D3.ct σ G'->Kp G H G' H'->RG K H' G'->RS K H' σ τ->D.ct τ H'
def cm(K:PySem.W.Frag)(t:cj):TS:=fun D τ H=>∃ σ G D3,RS K H σ τ/\RG K H G/\t D3 σ G/\EndsOk K G H D3 D
theorem uC.base{K:PySem.W.Frag}{G G1:Gp}{H H1:Hp}{Q3:mT}{Q:VK}(f:uC K G H Q3 Q)(k:Kp G H G1 H1):uC K G1 H1 Q3 Q:=
 fun d G' v H' q k' rg re=>f d G' v H' q (k.trans k') rg (re.base k)
theorem EndsOk.base{K:PySem.W.Frag}{G G1:Gp}{H H1:Hp}{D3:Ends3}{D:Ends}(f:EndsOk K G H D3 D)(k:Kp G H G1 H1):EndsOk K G1 H1 D3 D:=
 ⟨fun σ G' τ H' q k'=>f.nx σ G' τ H' q (k.trans k'),f.rt.base k,fun σ G' τ H' q k'=>f.bk σ G' τ H' q (k.trans k'),fun σ G' τ H' q k'=>f.ct σ G' τ H' q (k.trans k')⟩
def val:D->D
 | .fl ds=>.lst ds
 | d=>d
def wg(K:PySem.W.Frag)(t:bR):TE:=fun τ H Q=>∃ σ G Q3,RS K H σ τ/\RG K H G/\t σ G Q3/\∀ d G' v H',Q3 d G'->Kp G H G' H'->RG K H' G'->RD K H' (val d) v->Q v H'
section
variable{X:Cx}{e:MJ}{t:bR}
theorem Bb{K:PySem.W.Frag}{G G':Gp}{H H':Hp}{p:Mg}{o:HO}(k:Kp G H G' H')(f:Jn G H p):Kp G H G' (bE H' p o):=fun a h e n=>by
 have:a≠p:=fun z=>by subst z;exact f h e n
 exact⟨by rw[aA this];exact (k a h e n).1,(k a h e n).2⟩
theorem Ba{K:PySem.W.Frag}{G':Gp}{H':Hp}{p:Mg}{xs:List V}{o:Obj}(rg:RG K H' G')(e:H' p=some (.lst xs))(n:G' p=none):RG K (bE H' p (.frz o (.lst xs))) G'/\Stb K H' (bE H' p (.frz o (.lst xs))):=by
 have st:Stb K H' (bE H' p (.frz o (.lst xs))):=by
  constructor
  ·intro a ys q;rcases q with (q|⟨ob,q⟩)|q
   ·exact .inl (.inl (by rw[aA (fun z=>by subst z;rw[e]at q;cases q)];exact q))
   ·exact .inl (.inr ⟨ob,by rw[aA (fun z=>by subst z;rw[e]at q;cases q)];exact q⟩)
   ·exact .inr q
  ·intro a ys q;rcases q with ⟨ob,q⟩|q
   ·exact .inl ⟨ob,by rw[aA (fun z=>by subst z;rw[e]at q;cases q)];exact q⟩
   ·exact .inr q
 refine⟨fun a o' q=>?_,st⟩;obtain⟨h,e1,r⟩:=rg a o' q;exact⟨h,by rw[aA (fun z=>by subst z;rw[n]at q;cases q)];exact e1,r.mono st⟩
theorem dP(h:PE X e (aE X.K t)):PE X e (wg X.K t):=(JX h).imp fun τ H Q zz=>by
 obtain⟨σ,G,Q3,rs,rg,ht,hk⟩:=zz;refine⟨σ,G,Q3,rs,rg,ht,fun d G' v H' q k rg' re=>?_⟩;cases d with
 | fl ds=>
  obtain⟨p,xs,rfl,e1,e2,e3,e4⟩:=re.fl;refine .inr ⟨p,xs,rfl,e1,fun o=>?_⟩;obtain⟨rg2,st⟩:=Ba (o:=o) rg' e1 e2;exact hk _ G' _ _ q (Bb (K:=X.K) k e4) rg2 (p6 (.inl ⟨o,aZ⟩) (RDs.mono st _ _ e3))
 | _=>exact .inl (hk _ G' v H' q k rg' (re.rd (by intro ds z;cases z)))
end
def d9:cj:=fun D σ G=>D.nx σ G
def sSeq(t u:cj):cj:=fun D σ G=>t { D with nx:=u D } σ G
section
variable{X:Cx}{st:ML}{mB:List ML}{t u:cj}{e:MJ}{te:bR}{pos:Pos}
theorem eu:pE X [] (cm X.K d9):=FI.imp fun D τ H zz=>by
 obtain⟨σ,G,D3,rs,rg,h,k⟩:=zz;exact (
  k.nx σ G τ H h Kp.refl rg rs)
theorem au(h1:PS X st (cm X.K t))(h2:pE X mB (cm X.K u)):pE X (st::mB) (cm X.K (sSeq t u)):=(DU h1 h2).imp fun D τ H zz=>by
 obtain⟨σ,G,D3,rs,rg,h,k⟩:=zz;exact (
   ⟨σ,G,{ D3 with nx:=u D3 },rs,rg,h,⟨fun σ' G' τ' H' q k' rg' rs'=>⟨σ',G',D3,rs',rg',q,k.base k'⟩,k.rt,k.bk,k.ct⟩⟩)
theorem ay(h1:PS X st (cm X.K t)):pE X [st] (cm X.K t):=FH h1
def cH(te:bR):cj:=fun D σ G=>te σ G fun _ G'=>D.nx σ G'
theorem b_(he:PE X e (aE X.K te))(hs:NR e none pos.line X.env=pure false:=by rfl):PS X (.Expr e pos) (cm X.K (cH te)):=(FK he hs).imp fun D τ H zz=>by
 obtain⟨σ,G,D3,rs,rg,h,k⟩:=zz;exact (
   ⟨σ,G,fun _ G'=>D3.nx σ G',rs,rg,h,fun d G' v H' q k' rg' _=>k.nx σ G' τ H' q k' rg' (rs.mono (k'.stb rg))⟩)
def bL(te:bR):cj:=fun D σ G=>te σ G D.rt
theorem aV(he:PE X e (aE X.K te)):PS X (.Return (some e) pos) (cm X.K (bL te)):=(DX he).imp fun D τ H zz=>by
 obtain⟨σ,G,D3,rs,rg,h,k⟩:=zz;exact (
  ⟨σ,G,D3.rt,rs,rg,h,k.rt⟩)
def Dy:cj:=fun D _ G=>D.rt .non G
theorem HE:PS X (.Return none pos) (cm X.K Dy):=FJ.imp fun D τ H zz=>by
 obtain⟨σ,G,D3,rs,rg,h,k⟩:=zz;exact (
  k.rt _ G _ H h Kp.refl rg (.of sW))
def HC:cj:=fun D σ G=>D.bk σ G
def JJ:cj:=fun D σ G=>D.ct σ G
def mM(c:pC)(t u:cj):cj:=fun D σ G=>c σ G fun b G'=>if b=true then t D σ G' else u D σ G'
theorem f_{c:MJ}{a b:List ML}{tc:pC}(hc:PT X c (cS X.K tc))(ha:pE X a (cm X.K t))(hb:pE X b (cm X.K u)):PS X (.If c a b pos) (cm X.K (mM tc t u)):=
 (JS hc ha hb).imp fun D τ H zz=>by
 obtain⟨σ,G,D3,rs,rg,h,k⟩:=zz;exact (
  ⟨σ,G,_,rs,rg,h,fun b G' H' q k' rg'=>by
    cases b with
    | true=>exact⟨σ,G',D3,rs.mono (k'.stb rg),rg',q,k.base k'⟩
    | false=>exact⟨σ,G',D3,rs.mono (k'.stb rg),rg',q,k.base k'⟩⟩)
def m_:cj:=fun _ _ _=>False
theorem oE:PS X st (cm X.K m_):=DY.imp fun D τ H zz=>by
 obtain⟨σ,G,D3,rs,rg,h,k⟩:=zz;exact (
  h)
def bN(i:Nat)(te:bR):cj:=fun D σ G=>te σ G fun d G'=>D.nx (σ.set i (some (val d))) G'
theorem bb{i:Nat}{x:Str}{pos':Pos}(hN:X.N.Nodup)(hi:X.N[i]?=some x)(hx:Jm X.env.scope x)(he:PE X e (aE X.K te))(hs:NR e (some (.Name x pos')) pos.line X.env=pure false:=by rfl)
  (hf:X.fn x=true\/X.env.scope.names.lookup x=some .local:=by first|exact .inl rfl|exact .inr rfl|assumption):PS X (.Assign [.Name x pos'] e pos) (cm X.K (bN i te)):=
 (DW hN hi hx (dP he) hs hf).imp fun D τ H zz=>by
 obtain⟨σ,G,D3,rs,rg,h,k⟩:=zz;exact (
  ⟨σ,G,_,rs,rg,h,fun d G' v H' q k' rg' rd=>k.nx _ G' _ H' q k' rg' ((rs.mono (k'.stb rg)).set rd i)⟩)
def At(i:Nat)(te:bR):cj:=fun D σ G=>te σ G fun d G'=>∃ ds,d=.fl ds/\∀ p,G' p=none->D.nx (σ.set i (some (.ref p))) (gset G' p (.lst ds))
theorem Ee{K:PySem.W.Frag}{G:Gp}{H:Hp}{p:Mg}{xs:List V}{ds:List D}(rg:RG K H G)(e:H p=some (.lst xs))(r:RDs K H ds xs):RG K H (gset G p (.lst ds)):=fun a o q=>by
 by_cases ha:a=p
 ·subst ha;rw[az]at q;cases q;exact⟨_,e,r⟩
 ·rw[ao ha]at q;exact rg a o q
theorem Ef{G G':Gp}{H H':Hp}{p:Mg}{o:GO}(k:Kp G H G' H')(f:Jn G H p):Kp G H (gset G' p o) H':=fun a h e n=>by
 have:a≠p:=fun z=>by subst z;exact f h e n
 exact⟨(k a h e n).1,by rw[ao this];exact (k a h e n).2⟩
theorem yR{i:Nat}{x:Str}{pos':Pos}(hN:X.N.Nodup)(hi:X.N[i]?=some x)(hx:Jm X.env.scope x)(he:PE X e (aE X.K te))(hs:NR e (some (.Name x pos')) pos.line X.env=pure false:=by rfl)
  (hf:X.fn x=true\/X.env.scope.names.lookup x=some .local:=by first|exact .inl rfl|exact .inr rfl|assumption):PS X (.Assign [.Name x pos'] e pos) (cm X.K (At i te)):=
 (DW hN hi hx he hs hf).imp fun D τ H zz=>by
 obtain⟨σ,G,D3,rs,rg,h,k⟩:=zz;exact (
  ⟨σ,G,_,rs,rg,h,fun d G' v H' q k' rg' re=>by
    obtain⟨ds,rfl,q⟩:=q;obtain⟨p,xs,rfl,e1,e2,e3,e4⟩:=re.fl;exact k.nx _ _ _ H' (q p e2) (Ef k' e4) (Ee rg' e1 e3) ((rs.mono (k'.stb rg)).set iu i)⟩)
def jf(i:Nat):cj:=fun D σ G=>match σ[i]? with
 | some (some (.ref p))=>match G p with
  | some (.lst ds)=>D.rt (.fl ds) (gC G p)
  | _=>False
 | _=>False
theorem sX{i:Nat}{x:Str}{pos':Pos}(hN:X.N[i]?=some x)(hv:Ju X.env.scope x)(hd:(x == ("__debug__":Str))=false:=by decide)(hcd:(x == ("__classdict__":Str))=false:=by decide):
  PS X (.Return (some (.Name x pos')) pos) (cm X.K (jf i)):=(DX (AI hN hv hd hcd)).imp fun D τ H zz=>by
 obtain⟨σ,G,D3,rs,rg,h,k⟩:=zz;unfold jf at h;split at h
 ·rename_i p hp;split at h
  ·rename_i ds hg;obtain⟨v,e1,r⟩:=rs.get hp;simp only[RD]at r;subst r;obtain⟨ho,e2,ro⟩:=rg p _ hg;refine⟨_,e1,?_⟩;cases ho with
   | lst xs=>
    have rg2:RG X.K H (gC G p):=fun a o q=>by
     by_cases ha:a=p
     ·subst ha;rw[eU]at q;cases q
     ·rw[eV ha]at q;exact rg a o q
    refine k.rt _ _ _ H h (fun a ha e n=>⟨e,?_⟩) rg2 (.inl ⟨ds,p,xs,rfl,rfl,e2,eU,ro,fun h' _=>by rw[hg];exact fun z=>nomatch z⟩)
    by_cases hap:a=p
    ·subst hap;exact eU
    ·rw[eV hap];exact n
   | _=>exact ro.elim
  ·exact h.elim
 ·exact h.elim
end
def ae(i:Nat):bR:=fun σ G Q=>match σ[i]? with
 | some (some d)=>Q d G
 | _=>False
def eC(d:D):bR:=fun _ G Q=>Q d G
section
variable{X:Cx}{pos:Pos}{j:Nat}
theorem J0{i:Nat}{x:Str}(hN:X.N[i]?=some x)(hv:Ju X.env.scope x)(hd:(x == ("__debug__":Str))=false:=by decide)(hcd:(x == ("__classdict__":Str))=false:=by decide):PE X (.Name x pos) (aE X.K (ae i)):=
 (AI hN hv hd hcd).imp fun τ H Q zz=>by
  obtain⟨σ,G,Q3,rs,rg,h,k⟩:=zz;unfold ae at h;split at h
  ·rename_i d hp;obtain⟨v,e1,r⟩:=rs.get hp;exact⟨v,e1,k d G v H h Kp.refl rg (.of r)⟩
  ·exact h.elim
theorem aq(i:Nat){x:Str}(hN:X.N[i]?=some x:=by rfl)(hv:Ju X.env.scope x:=by first|exact Or.inl rfl|exact Or.inr (Or.inl rfl)|exact Or.inr (Or.inr rfl))(hd:(x == ("__debug__":Str))=false:=by decide)
  (hcd:(x == ("__classdict__":Str))=false:=by decide):PE X (.Name x pos) (aE X.K (ae i)):=J0 hN hv hd hcd
theorem Jq{e:MJ}{d:D}{v:V}(h:PE X e (tC v))(r:∀ H,RD X.K H d v):PE X e (aE X.K (eC d)):=h.imp fun τ H Q zz=>by
 obtain⟨σ,G,Q3,rs,rg,hq,k⟩:=zz;exact (
  k d G v H hq Kp.refl rg (.of (r H)))
theorem aw{i:Int}:PE X (.Constant (.int i) j pos) (aE X.K (eC (.int i))):=Jq HX fun _=>dw
theorem Cr{b:Bool}:PE X (.Constant (.bool b) j pos) (aE X.K (eC (.bl b))):=Jq JZ fun _=>hV
theorem Ed:PE X (.Constant .none j pos) (aE X.K (eC .non)):=Jq HU fun _=>sW
theorem e_{x:Str}:PE X (.Constant (.str x) j pos) (aE X.K (eC (.str x))):=Jq HR fun _=>lC
end
abbrev R3:=D->D->Gp->mT->Prop
def cW(K:PySem.W.Frag)(r3:R3):R2:=fun v u H Q=>∃ x y G0 H0 G Q3,RE K G0 H0 G H x v/\RE K G0 H0 G H y u/\RG K H G/\r3 x y G Q3/\uC K G H Q3 Q
def bA(r:R3)(ta tb:bR):bR:=fun σ G Q=>ta σ G fun x G1=>tb σ G1 fun y G2=>r x y G2 Q
section
variable{X:Cx}{a b c:MJ}{ta tb tc:bR}{pos:Pos}{r r':R3}
theorem two{K:PySem.W.Frag}{r2:R2}{Q:VK}{τ:St}{H:Hp}(hr:r2=cW K r)(h:aE K (bA r ta tb) τ H Q):Jo r2 (aE K ta) (aE K tb) τ H Q:=by
 subst hr;obtain⟨σ,G,Q3,rs,rg,h,k⟩:=h;refine⟨σ,G,fun x G1=>tb σ G1 fun y G2=>r x y G2 Q3,rs,rg,h,fun x G1 v H1 h1 k1 rg1 re1=>⟨σ,G1,fun y G2=>r x y G2 Q3,rs.mono (k1.stb rg),rg1,h1,fun y G2 u H2 h2 k2 rg2 re2=>?_⟩⟩;exact⟨x,y,G,H,G2,Q3,re1.wait k2 rg1,re2.base k1,rg2,h2,k.base (k1.trans k2)⟩
theorem aY{op:Operator}(ho:gG X (Na op) (cW X.K r))(ha:PE X a (aE X.K ta))(hb:PE X b (aE X.K tb)):PE X (.BinOp a op b pos) (aE X.K (bA r ta tb)):=
 (JV ho ha hb).imp fun _ _ _ h=>two rfl h
def cV(t:bR):pC:=fun σ G Q=>t σ G fun d G'=>match d with
 | .bl b=>Q b G'
 | _=>False
theorem wI{K:PySem.W.Frag}{t:bR}{τ:St}{H:Hp}{Q:Bool->Hp->Prop}(h:cS K (cV t) τ H Q):Dr (aE K t) τ H Q:=by
 obtain⟨σ,G,Q3,rs,rg,h,k⟩:=h;refine⟨σ,G,_,rs,rg,h,fun d G' v H' q k' rg' re=>?_⟩;cases d with
 | bl b=>exact⟨b,re.bl,k b G' H' q k' rg'⟩
 | _=>exact q.elim
theorem AL{op:OS}(ho:gG X (MT op) (cW X.K r))(ha:PE X a (aE X.K ta))(hb:PE X b (aE X.K tb))(hm:Nf op b=false):PT X (.Compare a [op] [b] pos) (cS X.K (cV (bA r ta tb))):=
 (Bw ho ha hb hm).imp fun _ _ _ h=>two rfl (wI h)
def qE(r r':R3)(ta tb tc:bR):bR:=fun σ G Q=>ta σ G fun x G1=>tb σ G1 fun y G2=>r x y G2 fun z G3=>match z with
 | .bl k=>if k=true then tc σ G3 fun w G4=>r' y w G4 Q else Q (.bl false) G3
 | _=>False
theorem Ko{K:PySem.W.Frag}{Q:VK}{τ:St}{H:Hp}(h:aE K (qE r r' ta tb tc) τ H Q):Dt (cW K r) (cW K r') (aE K ta) (aE K tb) (aE K tc) τ H Q:=by
 obtain⟨σ,G,Q3,rs,rg,h,k⟩:=h;refine⟨σ,G,_,rs,rg,h,fun x G1 v H1 h1 k1 rg1 re1=>⟨σ,G1,_,rs.mono (k1.stb rg),rg1,h1,fun y G2 u H2 h2 k2 rg2 re2=>?_⟩⟩;refine⟨x,y,G,H,G2,_,re1.wait k2 rg1,re2.base k1,rg2,h2,fun z G3 w H3 h3 k3 rg3 re3=>?_⟩;have k13:=k1.trans (k2.trans k3);cases z with
 | bl kk=>
  refine⟨kk,re3.bl,?_⟩;cases kk with
  | true=>
   refine iteT ?_;refine⟨σ,G3,_,rs.mono (k13.stb rg),rg3,h3,fun w' G4 w4 H4 h4 k4 rg4 re4=>?_⟩;exact⟨y,w',G,H,G4,Q3,(re2.base k1).wait (k3.trans k4) rg2,re4.base k13,rg4,h4,k.base (k13.trans k4)⟩
  | false=>exact iteF (k _ G3 _ H3 h3 k13 rg3 (.of hV))
 | _=>exact h3.elim
theorem tj{op op':OS}(ho:gG X (MT op) (cW X.K r))(ho':gG X (MT op') (cW X.K r'))(ha:PE X a (aE X.K ta))(hb:PE X b (aE X.K tb))(hc:PE X c (aE X.K tc))
  (hm:lastMarks [op,op'] [b,c]=false:=by with_unfolding_all rfl):PT X (.Compare a [op,op'] [b,c] pos) (cS X.K (cV (qE r r' ta tb tc))):=
 (DT ho ho' ha hb hc hm).imp fun τ H Q h=>by
  obtain⟨σ,G,Q3,rs,rg,h,k⟩:=h;refine Ko (Q:=fun x H'=>∃ k,x=.bl k/\Q k H') ⟨σ,G,_,rs,rg,h,fun d G' v H' q k' rg' re=>?_⟩;cases d with
  | bl b=>exact⟨b,re.bl,k b G' H' q k' rg'⟩
  | _=>exact q.elim
def si(t u:pC):pC:=fun σ G Q=>t σ G fun c G1=>if c=true then u σ G1 Q else Q false G1
def wJ(t u:pC):pC:=fun σ G Q=>t σ G fun c G1=>if c=true then Q true G1 else u σ G1 Q
def sg(t:pC):pC:=fun σ G Q=>t σ G fun c G1=>Q (!c) G1
variable{tA tB:pC}{es:List MJ}
theorem Af(ha:PT X a (cS X.K tA)):PW X (.BoolOp .And [a] pos) (cS X.K tA):=FD ha
theorem yA(ha:PT X a (cS X.K tA)):PW X (.BoolOp .Or [a] pos) (cS X.K tA):=HH ha
theorem Dk(ha:PT X a (cS X.K tA))(hb:PW X (.BoolOp .And (b::es) pos) (cS X.K tB)):PW X (.BoolOp .And (a::b::es) pos) (cS X.K (si tA tB)):=(HI ha hb).imp fun τ H Q zz=>by
 obtain⟨σ,G,Q3,rs,rg,h,k⟩:=zz;exact (
   ⟨σ,G,_,rs,rg,h,fun c G1 H1 q k1 rg1=>by
    cases c with
    | true=>exact iteT ⟨σ,G1,Q3,rs.mono (k1.stb rg),rg1,q,fun b' G' H' q' k' rg'=>k b' G' H' q' (k1.trans k') rg'⟩
    | false=>exact iteF (k false G1 H1 q k1 rg1)⟩)
theorem Dj(ha:PT X a (cS X.K tA))(hb:PW X (.BoolOp .Or (b::es) pos) (cS X.K tB)):PW X (.BoolOp .Or (a::b::es) pos) (cS X.K (wJ tA tB)):=(JR ha hb).imp fun τ H Q zz=>by
 obtain⟨σ,G,Q3,rs,rg,h,k⟩:=zz;exact (
   ⟨σ,G,_,rs,rg,h,fun c G1 H1 q k1 rg1=>by
    cases c with
    | false=>exact iteF ⟨σ,G1,Q3,rs.mono (k1.stb rg),rg1,q,fun b' G' H' q' k' rg'=>k b' G' H' q' (k1.trans k') rg'⟩
    | true=>exact iteT (k true G1 H1 q k1 rg1)⟩)
theorem tf(ha:PT X a (cS X.K tA)):PT X (.UnaryOp .Not a pos) (cS X.K (sg tA)):=(HK ha).imp fun τ H Q zz=>by
 obtain⟨σ,G,Q3,rs,rg,h,k⟩:=zz;exact (
  ⟨σ,G,_,rs,rg,h,fun c G1 H1 q k1 rg1=>k (!c) G1 H1 q k1 rg1⟩)
def IS(ta tb:bR):bR:=fun σ G Q=>ta σ G fun x G1=>match x with
 | .bl c=>if c=true then tb σ G1 Q else Q (.bl false) G1
 | _=>False
def L8(ta tb:bR):bR:=fun σ G Q=>ta σ G fun x G1=>match x with
 | .bl c=>if c=true then Q (.bl true) G1 else tb σ G1 Q
 | _=>False
theorem J1{op}(h:PE X a (aE X.K ta)):PE X (.BoolOp op [a] pos) (aE X.K ta):=HS h
theorem J3(ha:PE X a (aE X.K ta))(hb:PE X (.BoolOp .And (b::es) pos) (aE X.K tb)):PE X (.BoolOp .And (a::b::es) pos) (aE X.K (IS ta tb)):=(HZ ha hb).imp fun τ H Q zz=>by
 obtain⟨σ,G,Q3,rs,rg,h,k⟩:=zz;exact (
   ⟨σ,G,_,rs,rg,h,fun x G1 v H1 q k1 rg1 re=>by
    cases x with
    | bl c=>
     refine⟨c,re.bl,?_⟩;cases c with
     | true=>exact iteT ⟨σ,G1,Q3,rs.mono (k1.stb rg),rg1,q,k.base k1⟩
     | false=>exact iteF (k _ G1 _ H1 q k1 rg1 (.of hV))
    | _=>exact q.elim⟩)
def Ki(ta:bR):bR:=fun σ G Q=>ta σ G fun x G1=>match x with
 | .bl c=>Q (.bl (!c)) G1
 | _=>False
def L9(c:pC)(ta tb:bR):bR:=fun σ G Q=>c σ G fun b G1=>if b=true then ta σ G1 Q else tb σ G1 Q
def Hr(G:Gp):D->Option Bool
 | .non=>some false
 | .bl b=>some b
 | .int i=>some (i != 0)
 | .str y=>some ((y.length:Int) != 0)
 | d=>(Fc G d).map fun ds=>!ds.isEmpty
def sh(t:bR):pC:=fun σ G Q=>t σ G fun d G'=>match Hr G' d with
 | some b=>(match d with|.str y=>y.length<=Mp|_=>True)/\Q b G'
 | none=>False
theorem i7(ha:PE X a (aE X.K ta))(he:∀ whole,Qm a X.env whole=(do let v <- whole;Oz a.pos;holding [v] (truthy v)):=by intro _;rfl):PT X a (cS X.K (sh ta)):=
 (DR ha he).imp fun τ H Q zz=>by
 obtain⟨σ,G,Q3,rs,rg,h,k⟩:=zz;exact (
  ⟨σ,G,_,rs,rg,h,fun d G' v H' q k' rg' re=>by
    cases d with
    | non=>rw[re.non];exact⟨false,rfl,k _ G' H' q.2 k' rg'⟩
    | bl b=>rw[re.bl];exact⟨b,rfl,k _ G' H' q.2 k' rg'⟩
    | int i=>rw[re.int];exact⟨_,rfl,k _ G' H' q.2 k' rg'⟩
    | str y=>rw[re.str];exact⟨_,⟨q.1,rfl⟩,k _ G' H' q.2 k' rg'⟩
    | ty n=>exact q.elim
    | _=>
     split at q
     ·rename_i b hb;simp only[Hr,Option.map_eq_some_iff]at hb;obtain⟨ds,hq,rfl⟩:=hb;obtain⟨a,xs,rfl,s,r⟩:=uy hq re rg';have el:(!ds.isEmpty)=!xs.isEmpty:=by
       have:=r.length;cases ds<;>cases xs<;>simp_all
      refine⟨!xs.isEmpty,?_,k _ G' H' (by rw[<- el];exact q.2) k' rg'⟩
      rcases s with s|s
      ·exact .inl ⟨xs,s,rfl⟩
      ·exact .inr (.inl ⟨xs,s,rfl⟩)
     ·exact q.elim⟩)
end
end L3
namespace L2
open PySem PySem.Spec PyProof.Rows
section
variable{X:Cx}
def JP(K:PySem.W.Frag):R2:=fun x y H Q=>∃ l b xs zs,x=.ref l/\y=.ref b/\jw K H l xs/\jw K H b zs/\xs.length+zs.length<=Mp/\∀ p,H p=none->Q (.ref p) (bE H p (.lst (xs ++ zs)))
theorem F1:gG X (Na .Add) (JP X.K):=by
 intro pins s σ H x y v u Q I rx ry h;obtain⟨l,b,xs,zs,rfl,rfl,hH,hB,hz,q⟩:=h;cases rx;cases ry;obtain⟨its,r,pl,z⟩:=I.list hH;obtain⟨its2,r2,pl2,z2⟩:=I.list hB;obtain⟨⟨cls,dd,data,sl⟩,ho,hc,n,hd⟩:=pl.isList;obtain⟨⟨cls2,dd2,data2,sl2⟩,ho2,hc2,n2,hd2⟩:=pl2.isList;simp only at hc hd hc2 hd2;subst hc hd hc2 hd2;have hl:=r.length;have hl2:=r2.length;have e:its.toArray ++ its2.toArray=(its ++ its2).toArray:=by simp
 refine Qo ⟨_,ho,rfl⟩ ⟨_,ho2,rfl⟩ noFill_list_add seq_list_add PySem.F.slot_list_add PySem.F.entry_list_add (PySem.F.args_list_add_2 _ _) (list_addW l b its.toArray its2.toArray n n2 dd dd2 sl sl2 (by simp only[Mv];omega)) ⟨ho,ho2,?_⟩
 rw[e];exact⟨.ref _,_,I.lnew (t':=s.toks) (r.append r2) (by rw[MP];omega),rfl,q _ I.fresh⟩
end
end L2
namespace L3
open PySem PySem.Spec PyProof.Rows L2
section
variable{X:Cx}
def gA:R3:=fun x y G Q=>match x,y with
 | .int i,.int j=>Q (.int (i+j)) G
 | .str i,.str j=>i.length+j.length<=Mp/\Q (.str (i ++ j)) G
 | .tup xs,.tup ys=>xs≠[]/\xs.length+ys.length<=Mp/\Q (.tup (xs ++ ys)) G
 | x,y=>match rU G x,rU G y with
  | some xs,some ys=>xs.length+ys.length<=Mp/\Q (.fl (xs ++ ys)) G
  | _,_=>False
theorem dU:gG X (Na .Add) (cW X.K gA):=by
 refine ((Il (X:=X)).or ((AO (X:=X)).or ((F0 (X:=X)).or (F1 (X:=X))))).imp fun v u H Q zz=>?_;obtain⟨x,y,G0,H0,G,Q3,rx,ry,rg,h,k⟩:=zz;unfold gA at h;split at h
 ·rename_i i j;exact .inl ⟨i,j,rx.int,ry.int,k _ G _ H h Kp.refl rg (.of dw)⟩
 ·rename_i i j;exact .inr (.inl ⟨i,j,rx.str,ry.str,h.1,k _ G _ H h.2 Kp.refl rg (.of lC)⟩)
 ·rename_i ds es;obtain⟨a,xs,rfl,s1,r1⟩:=rx.tup;obtain⟨b,ys,rfl,s2,r2⟩:=ry.tup;have l1:=r1.length;have l2:=r2.length;refine .inr (.inr (.inl ⟨a,b,xs,ys,rfl,rfl,s1,s2,fun z=>h.1 ?_,by have:=h.2.1;omega,fun z=>?_,fun _ p hp=>?_⟩))
  ·subst z;exact List.length_eq_zero_iff.mp l1
  ·subst z;have:es=[]:=List.length_eq_zero_iff.mp l2;subst this;have hh:=h.2.2;rw[Nz]at hh;exact k _ G _ H hh Kp.refl rg (.of (p5 s1 r1))
  ·exact k _ G _ _ h.2.2 (Kp.laid hp) (rg.laid hp) (.of (lY rg hp (r1.append r2)))
 ·split at h
  ·rename_i ds es hx hy;obtain⟨a,xs,rfl,s1,r1⟩:=kh hx rx rg;obtain⟨b,ys,rfl,s2,r2⟩:=kh hy ry rg;have l1:=r1.length;have l2:=r2.length;exact .inr (.inr (.inr ⟨a,b,xs,ys,rfl,rfl,s1,s2,by have:=h.1;omega,fun p hp=>k _ G _ _ h.2 (Kp.laid hp) (rg.laid hp) (yb rg hp (r1.append r2))⟩))
  ·exact h.elim
def oI(C:Int->Int->Prop)(g:Int->Int->D):R3:=fun x y G Q=>match x,y with
 | .int i,.int j=>C i j/\Q (g i j) G
 | _,_=>False
def F6(g:Int->Int->D):R3:=fun x y G Q=>match x,y with
 | .int i,.int j=>Q (g i j) G
 | _,_=>False
theorem Jw{f:Mh->Mh->Sem Mh}{C:Int->Int->Prop}{g:Int->Int->V}{g3:Int->Int->D}(h:gG X f (rI C g))(r:∀ i j H,RD X.K H (g3 i j) (g i j)):gG X f (cW X.K (oI C g3)):=
 h.imp fun v u H Q zz=>by
  obtain⟨x,y,G0,H0,G,Q3,rx,ry,rg,h,k⟩:=zz;unfold oI at h;split at h
  ·rename_i i j;exact⟨i,j,rx.int,ry.int,h.1,k _ G _ H h.2 Kp.refl rg (.of (r i j H))⟩
  ·exact h.elim
theorem Fj{f:Mh->Mh->Sem Mh}{g:Int->Int->V}{g3:Int->Int->D}(h:gG X f (GX g))(r:∀ i j H,RD X.K H (g3 i j) (g i j)):gG X f (cW X.K (F6 g3)):=
 h.imp fun v u H Q zz=>by
  obtain⟨x,y,G0,H0,G,Q3,rx,ry,rg,h,k⟩:=zz;unfold F6 at h;split at h
  ·rename_i i j;exact⟨i,j,rx.int,ry.int,k _ G _ H h Kp.refl rg (.of (r i j H))⟩
  ·exact h.elim
def AV:R3:=F6 fun i j=>.int (i - j)
theorem yz:gG X (Na .Sub) (cW X.K AV):=Fj Ic fun _ _ _=>dw
def fI:R3:=oI (fun _ j=>0 < j) fun i j=>.int (i % j)
theorem dy:gG X (Na .Mod) (cW X.K fI):=Jw Ij fun _ _ _=>dw
def kE:R3:=oI KQ fun i j=>.int (i / j)
theorem iB:gG X (Na .FloorDiv) (cW X.K kE):=Jw FZ fun _ _ _=>dw
def Iq:R3:=oI GN fun i j=>.int (i ^ j.toNat)
theorem Jv:gG X (Na .Pow) (cW X.K Iq):=Jw Ih fun _ _ _=>dw
def Js:R3:=F6 fun i j=>.bl (decide (i < j))
theorem Fh:gG X (MT .Lt) (cW X.K Js):=Fj J4 fun _ _ _=>hV
def Jt:R3:=F6 fun i j=>.bl (decide (i<=j))
theorem Fi:gG X (MT .LtE) (cW X.K Jt):=Fj J5 fun _ _ _=>hV
def LQ:R3:=F6 fun i j=>.bl (decide (j < i))
def L6:R3:=F6 fun i j=>.bl (decide (j<=i))
def av:nR:=fun _ G Q=>Q [] G
def af(ta:bR)(tr:nR):nR:=fun σ G Q=>ta σ G fun x G1=>tr σ G1 fun xs G2=>Q (val x::xs) G2
variable{e:MJ}{es:List MJ}{te:bR}{t:nR}{pos:Pos}
theorem al:PA X [] (fi X.K av):=H_.imp fun τ H Q zz=>by
 obtain⟨σ,G,Q3,rs,rg,h,k⟩:=zz;exact (
  k [] G [] H h Kp.refl rg RDs.nil)
theorem aa(ha:PE X e (aE X.K te))(hr:PA X es (fi X.K t))(hs:Mu (e::es) X.env=(false,eval e X.env)::Mu es X.env:=by rfl):PA X (e::es) (fi X.K (af te t)):=
 (FU (dP ha) hr hs).imp fun τ H Q zz=>by
 obtain⟨σ,G,Q3,rs,rg,h,k⟩:=zz;exact (
  ⟨σ,G,_,rs,rg,h,fun x G1 v H1 q k1 rg1 rd=>⟨σ,G1,_,rs.mono (k1.stb rg),rg1,q,fun ds G2 vs H2 q2 k2 rg2 rds=>
    k _ G2 _ H2 q2 (k1.trans k2) rg2 (RDs.cons (RD.mono (k2.stb rg1) _ _ rd) rds)⟩⟩)
def lT(t:nR):bR:=fun σ G Q=>t σ G fun ds G1=>ds.length<=Mp/\Q (.tup ds) G1
def rT(t:nR):bR:=fun σ G Q=>t σ G fun ds G1=>ds.length<=Mp/\Q (.fl ds) G1
theorem i6{x1}(h:PA X es (fi X.K t)):PE X (.Tuple es x1 pos) (aE X.K (lT t)):=(HQ h).imp fun τ H Q zz=>by
 obtain⟨σ,G,Q3,rs,rg,h,k⟩:=zz;exact (
  ⟨σ,G,_,rs,rg,h,fun ds G1 vs H1 q k1 rg1 rds=>
   ⟨by rw[<- rds.length];exact q.1,fun p hp=>k _ G1 _ _ q.2 (k1.trans (Kp.laid hp)) (rg1.laid hp) (.of (lY rg1 hp rds))⟩⟩)
theorem mO(h:PA X es (fi X.K t)):PE X (.List es pos) (aE X.K (rT t)):=(HV h).imp fun τ H Q zz=>by
 obtain⟨σ,G,Q3,rs,rg,h,k⟩:=zz;exact (
  ⟨σ,G,_,rs,rg,h,fun ds G1 vs H1 q k1 rg1 rds=>
   ⟨by rw[<- rds.length];exact q.1,fun p hp=>k _ G1 _ _ q.2 (k1.trans (Kp.laid hp)) (rg1.laid hp) ((yb rg1 hp rds).base k1)⟩⟩)
def strAt(x:Str)(i:Int):Option D:=(kN x.cps.toList i).map fun c=>.str ⟨#[c]⟩
def i8:R3:=fun x y G Q=>match x,y with
 | .str z,.int i=>z.length<=Mp/\match strAt z i with
  | some d=>Q d G
  | none=>False
 | x,.int i=>match Fc G x with
  | some ds=>match kN ds i with
   | some d=>Q d G
   | none=>False
  | none=>False
 | _,_=>False
theorem GE{K:PySem.W.Frag}{H:Hp}{ds:List D}{xs:List V}{i:Int}{d:D}(r:RDs K H ds xs)(h:kN ds i=some d):∃ v,kN xs i=some v/\RD K H d v:=by
 unfold kN at h ⊢;rw[<- r.length];cases e:Gi ds.length i with
 | none=>rw[e]at h;cases h
 | some j=>
  rw[e]at h;exact r.get h
theorem K0:C6 X (cW X.K i8):=(IJ (X:=X)).imp fun v u H Q zz=>by
 obtain⟨x,y,G0,H0,G,Q3,rx,ry,rg,h,k⟩:=zz;unfold i8 at h;split at h
 ·rename_i z i;obtain⟨h1,h2⟩:=h;split at h2
  ·rename_i d hd;unfold strAt at hd;rw[Option.map_eq_some_iff]at hd;obtain⟨c,hc,rfl⟩:=hd;exact .inr (.inr ⟨z,i,c,rx.str,ry.int,h1,hc,k _ G _ H h2 Kp.refl rg (.of lC)⟩)
  ·exact h2.elim
 ·rename_i i _;split at h
  ·rename_i ds hds;split at h
   ·rename_i d hd;obtain⟨a,xs,rfl,s,r⟩:=uy hds rx rg;obtain⟨w,hw,rd⟩:=GE r hd;have fin:=k _ G _ H h Kp.refl rg (.of rd);rcases s with s|s
    ·exact .inl ⟨a,xs,i,w,rfl,ry.int,s,hw,fin⟩
    ·exact .inr (.inl ⟨a,xs,i,w,rfl,ry.int,s,hw,fin⟩)
   ·exact h.elim
  ·exact h.elim
 ·exact h.elim
variable{a b:MJ}{ta tb:bR}
theorem dD(ha:PE X a (aE X.K ta))(hb:PE X b (aE X.K tb))(hs:B1 b:=by exact fun _ _=>rfl):PE X (.Subscript a b pos) (aE X.K (bA i8 ta tb)):=(JW K0 ha hb hs).imp fun _ _ _ h=>two rfl h
abbrev Jk:=fH->Gp->(Option Int->Gp->Prop)->Prop
def BH(K:PySem.W.Frag)(t:Jk):TO:=fun τ H Q=>∃ σ G Q3,RS K H σ τ/\RG K H G/\t σ G Q3/\∀ o G' H',Q3 o G'->Kp G H G' H'->RG K H' G'->Q o H'
theorem PO.imp{e:Option MJ}{t t':TO}(h:PO X e t)(i:∀ σ H Q,t' σ H Q->t σ H Q):PO X e t':=fun pins s σ H Q I q=>h pins s σ H Q I (i σ H Q q)
def KS:Jk:=fun _ G Q=>Q none G
def wa(t:bR):Jk:=fun σ G Q=>t σ G fun x G1=>match x with
 | .int i=>Q (some i) G1
 | _=>False
theorem Eh:PO X none (BH X.K KS):=PO.imp FM fun τ H Q zz=>by
 obtain⟨σ,G,Q3,rs,rg,h,k⟩:=zz;exact (
  k none G H h Kp.refl rg)
theorem xz(h:PE X e (aE X.K te)):PO X (some e) (BH X.K (wa te)):=PO.imp (FL h) fun τ H Q ⟨σ,G,Q3,rs,rg,h,k⟩=>⟨σ,G,_,rs,rg,h,fun d G1 v H1 q k1 rg1 re=>by
 cases d with
 | int i=>exact⟨i,re.int,k _ G1 H1 q k1 rg1⟩
 | _=>exact q.elim⟩
abbrev KI:=D->Option Int->Option Int->Gp->mT->Prop
def Es(K:PySem.W.Frag)(r:KI):V->Option Int->Option Int->Hp->VK->Prop:=fun v lo hi H Q=>∃ x G0 H0 G Q3,RE K G0 H0 G H x v/\RG K H G/\r x lo hi G Q3/\uC K G H Q3 Q
def Kh(r:KI)(te:bR)(tl th:Jk):bR:=fun σ G Q=>te σ G fun x G1=>tl σ G1 fun l G2=>th σ G2 fun u G3=>r x l u G3 Q
theorem xi{r:KI}{lo hi:Option MJ}{tl th:Jk}{p2:Pos}(hr:C5 X (Es X.K r))(he:PE X e (aE X.K te))(hl:PO X lo (BH X.K tl))(hu:PO X hi (BH X.K th)):PE X (.Subscript e (.Slice lo hi none p2) pos) (aE X.K (Kh r te tl th)):=
 (D8 hr he hl hu).imp fun τ H Q zz=>by
 obtain⟨σ,G,Q3,rs,rg,h,k⟩:=zz;exact (
  ⟨σ,G,_,rs,rg,h,fun x G1 v H1 q1 k1 rg1 re=>⟨σ,G1,_,rs.mono (k1.stb rg),rg1,q1,fun l G2 H2 q2 k2 rg2=>
    ⟨σ,G2,_,rs.mono ((k1.trans k2).stb rg),rg2,q2,fun u G3 H3 q3 k3 rg3=>⟨x,G,H,G3,Q3,re.wait (k2.trans k3) rg1,rg3,q3,k.base (k1.trans (k2.trans k3))⟩⟩⟩⟩)
def cutD(ds:List D)(lo hi:Option Int):List D:=(ds.drop (HT.sIx ds.length 0 lo)).take (HT.sIx ds.length ds.length hi - HT.sIx ds.length 0 lo)
theorem BP{K:PySem.W.Frag}{H:Hp}{ds:List D}{xs:List V}(r:RDs K H ds xs)(lo hi:Option Int):RDs K H (cutD ds lo hi) (zT xs lo hi):=by
 unfold cutD zT;rw[r.length];exact (r.drop _).take _
end
end L3
namespace L2
open PySem PySem.Spec PyProof.Rows
def LN(xs:List V):It:=⟨fun i _=>i < xs.length,fun i H x H'=>H'=H/\xs[i]?=some x,fun i _=>i=xs.length⟩
def dL(x:Str):List V:=x.cps.toList.map fun c=>V.str ⟨#[c]⟩
theorem mK(x:Str):(dL x).length=x.cps.size:=by simp[dL]
theorem Do{P:Mw}{w:ME}{K:PySem.W.Frag}{tg:MJ}(it:Mg)(x:Str)(t:Tok)(ty:String)(hty:ty="str_ascii_iterator"\/ty="str_iterator"):
  Turn P w K tg (LN (dL x)) [it] it (fun i h=>h.IsStrIter it ty x t i) where
 mem:=by simp
 obj:=fun i h st b hb=>by
  have e:b=it:=by simpa using hb
  subst e;obtain⟨o,e,c,d⟩:=st;exact⟨o,e,fun v z=>by rw[d]at z;cases z⟩
 keep:=fun i h h' st k=>let ⟨o,ho,r⟩:=st;⟨o,k it (by simp) o ho,r⟩
 item:=by
  intro X hP hw hK hc i pins s σ H E I hf st hg;subst hP hw hK;obtain⟨f0,f1,f2,f3,f4,f5⟩:=hf it (by simp)
  have W:Walks X.prog X.w X.A it [it] [it] x.cps.size (SignAt x) (fun i h=>h.IsStrIter it ty x t i):=by
   rcases hty with rfl|rfl
   ·exact Walks.strAscii (I.ok.hd hc) it x t
   ·exact Walks.strWide (I.ok.hd hc) it x t
  refine W.item i s _ _ (by have:i < (dL x).length:=hg;rw[mK]at this;exact this) st fun v h' tk hv st' kk=>?_
  obtain⟨c,u,hc',rfl⟩:=hv;have I1:Inv X pins σ H { s with heap:=h',toks:=tk }:=I.turned (fun b o hb e=>kk b o (by simpa using hb) e) f0 f1 f3 f4 f5
  obtain⟨o,e,c1,d⟩:=id st';refine⟨_,rfl,zK (s:={ s with heap:=h',toks:=tk }) e c1 d (by rcases hty with rfl|rfl<;>decide) ⟨.str ⟨#[c]⟩,H,I1,⟨u,rfl⟩,⟨rfl,?_⟩,st',fun b hb=>(hf b hb).1⟩⟩
  simp only[dL,MH,Array.getElem?_toList,hc',Option.map_some]
 done:=by
  intro X hP hw hK hc i pins s σ H E I hf st hg;subst hP hw hK;obtain⟨f0,f1,f2,f3,f4,f5⟩:=hf it (by simp)
  have W:Walks X.prog X.w X.A it [it] [it] x.cps.size (SignAt x) (fun i h=>h.IsStrIter it ty x t i):=by
   rcases hty with rfl|rfl
   ·exact Walks.strAscii (I.ok.hd hc) it x t
   ·exact Walks.strWide (I.ok.hd hc) it x t
  have e:i=x.cps.size:=by have:i=(dL x).length:=hg;rw[mK]at this;exact this
  subst e;exact W.done s _ _ st fun h' tk kk=>⟨rfl,I.turned (fun b o hb e=>kk b o (by simpa using hb) e) f0 f1 f3 f4 f5⟩
 self:=fun A i s Q E st h=>by
  rcases hty with rfl|rfl
  ·exact wpAny_pyIter_striter_ascii st h
  ·exact wpAny_pyIter_striter_wide st h
section
variable{X:Cx}{tg:MJ}
theorem Bh{env:Env}:∀ (names:List (Str×OI)) (sc:Oo),sc.names=names->(∀ x∈names,x.2=.free->∃ c,env.cells.lookup x.1=some c)->
  ∃ cl,QP sc env=pure cl/\(∀ x c,cl.lookup x=some c->env.cells.lookup x=some c)/\(∀ x∈names,x.2=.free->∃ c,cl.lookup x.1=some c):=by
 have loop:∀ (names:List (Str×OI)) (cs:List (Str×Mg)),(∀ x∈names,x.2=.free->∃ c,env.cells.lookup x.1=some c)->(∀ x c,cs.lookup x=some c->env.cells.lookup x=some c)->
   ∃ cl,(forIn names cs fun (x:Str×OI) (r:List (Str×Mg))=>(match x with
    | (name,kind)=>if (kind == NameKind.free)=true then (do let a <- cellOf env name;pure (ForInStep.yield ((name,a)::r)))else pure (ForInStep.yield r):Sem (ForInStep (List (Str×Mg)))))=(pure cl:Sem (List (Str×Mg)))/\
    (∀ x c,cl.lookup x=some c->env.cells.lookup x=some c)/\(∀ x,(∃ c,cs.lookup x=some c)->∃ c,cl.lookup x=some c)/\(∀ x∈names,x.2=.free->∃ c,cl.lookup x.1=some c):=by
  intro names
  induction names with
  | nil=>intro cs _ h2;exact⟨cs,rfl,h2,fun _ z=>z,fun _ z=>nomatch z⟩
  | cons y r ih=>
   obtain⟨name,kind⟩:=y;intro cs h1 h2;cases hk:(kind == NameKind.free) with
   | false=>
    obtain⟨cl,e,a,b,c⟩:=ih cs (fun x hx=>h1 x (Mz _ hx)) h2;refine⟨cl,?_,a,b,fun x hx hf=>?_⟩
    ·rw[Oe];simp only[hk,Bool.false_eq_true,if_false];exact e
    ·rcases MV.mp hx with rfl|hx
     ·rw[show kind=NameKind.free from hf]at hk;cases hk
     ·exact c x hx hf
   | true=>
    have hkf:kind=NameKind.free:=by simpa using hk
    obtain⟨ca,hca⟩:=h1 (name,kind) MB hkf;have UU:env.cells.lookup name=some ca:=hca;have nx:∀ x c,((name,ca)::cs).lookup x=some c->env.cells.lookup x=some c:=fun x c hx=>by
     rw[Nw]at hx;split at hx
     ·rename_i hb;have:x=name:=by simpa using hb
      cases hx;rw[this];exact UU
     ·exact h2 x c hx
    obtain⟨cl,e,a,b,c⟩:=ih ((name,ca)::cs) (fun x hx=>h1 x (Mz _ hx)) nx;refine⟨cl,?_,a,fun x ⟨c',hx⟩=>?_,fun x hx hf=>?_⟩
    ·rw[Oe];simp only[hk,if_true];unfold cellOf;rw[UU];exact e
    ·by_cases hxn:x=name
     ·exact b x ⟨ca,by rw[Nw,hxn,beq_self_eq_true]⟩
     ·exact b x ⟨c',by rw[Nw,show (x == name)=false by simpa using hxn];exact hx⟩
    ·rcases MV.mp hx with rfl|hx
     ·exact b name ⟨ca,by rw[Nw,beq_self_eq_true]⟩
     ·exact c x hx hf
 intro names sc hsc h;subst hsc;obtain⟨cl,e,a,_,c⟩:=loop sc.names [] h (fun x c z=>by simp at z)
 refine⟨cl,?_,a,c⟩;unfold QP;show (forIn sc.names [] _ >>= fun r=>pure r)=_
 refine Eq.trans ?_ (congrArg (fun m=>m >>= fun r=>(pure r:Sem (List (Str×Mg)))) e);rfl
def bF(X:Cx)(N':List Str)(scope:Oo)(cl:List (Str×Mg))(C:Mg)(s₀:Mi)(H₀:Hp)(fp:List Mg):Cx:=
 { X with N:=N',s₀:=s₀,H₀:=H₀,env:=compEnvC scope cl C X.env,outer:=X.stack,ex:=fp,fn:=fun _=>false,pn:=[],xe:=fun _ _=>False }
end
section
variable{prog:Mw}{w:ME}{A:MA}{R:QT->Mi->Prop}{s:Mi}
theorem lV{elt target iter:MJ}{ifs:List MJ}{scope:Oo}{pos:Pos}{it acc:Mh}{env:Env}(J:Nat->Mi->Prop)
  (turn:∀ n s,J n s->Mo (Mt prog w) A (NM it) (fun r s₁=>match r with
   | none=>R (.ok .next) s₁
   | some v=>Mo (Mt prog w) A (Oa target it v) (fun _ s₁'=>Mo (Mt prog w) A (assign target env v) (fun _ s₂=>
     Mo (Mt prog w) A (forIn ifs true fun c r=>if r=true then do let ok <- Qm c env (eval c env);pure (ForInStep.yield ok)else pure (ForInStep.yield r)) (fun ok s₃=>
      if ok=true then Mo (Mt prog w) A (eval elt env) (fun x s₄=>
       Mo (Mt prog w) A (call (.builtin "list.append") [acc,x]) (fun _ s₅=>∃ m,m < n/\J m s₅) (fun _ _=>False) s₄) (fun _ _=>False) s₃
      else ∃ m,m < n/\J m s₃) (fun _ _=>False) s₂) (fun _ _=>False) s₁') (fun _ _=>False) s₁) (fun _ _=>False) s)
  (n:Nat) (h:J n s):OB (Mt prog w) A (.compLoop (.ListComp elt [⟨target,iter,ifs,0⟩] scope pos) 0 it acc env) R s:=by
 refine codeAny_loop rfl J (fun n s hI=>?_) n h;show Mo _ A ((compTurn (.ListComp elt [⟨target,iter,ifs,0⟩] scope pos) 0 it acc env).onRaise (fun x=>do noteFrame x env;theTreesLotGoes x)) _ _ s
 refine wpAny_noted ?_;rw[compTurn_list];refine Mf (Pl (Mf (M7 (turn n s hI) (fun r s₁ h₁=>?_) fun _ _ h'=>h'.elim)));cases r with
 | none=>exact Ml h₁
 | some v=>
  refine Mf (M7 h₁ (fun _ s₁' h₁'=>?_) fun _ _ h'=>h'.elim);refine Mf (M7 h₁' (fun _ s₂ h₂=>Mf (M7 h₂ (fun ok s₃ h₃=>?_) fun _ _ h'=>h'.elim)) fun _ _ h'=>h'.elim);cases ok with
  | false=>exact Ml ⟨rfl,h₃⟩
  | true=>exact Mf (Mf (M7 h₃ (fun x s₄ h₄=>Mf (M7 h₄ (fun _ s₅ h₅=>Ml (Ml ⟨rfl,h₅⟩)) fun _ _ h'=>h'.elim)) fun _ _ h'=>h'.elim))
end
def E8(X:Cx)(ifs:List MJ)(tt:TT):Prop:=
 ∀ (pins:List (Mg×Obj)) (s:Mi) (σ:St) (H:Hp) (Q:Bool->Hp->Prop),Inv X pins σ H s->tt σ H Q->
  Mo (Mt X.prog X.w) X.A (forIn ifs true fun c r=>if r=true then do let ok <- Qm c X.env (eval c X.env);pure (ForInStep.yield ok)else pure (ForInStep.yield r)) (TP X pins σ Q) X.xe s
theorem FG{X:Cx}:E8 X [] (fun _ H Q=>Q true H):=fun pins s σ H Q I h=>wpAny_tests_nil ⟨H,I,h⟩
theorem FF{X:Cx}{c:MJ}{tt:TT}(h:PT X c tt):E8 X [c] tt:=fun pins s σ H Q I q=>wpAny_tests_one (h pins s σ H Q I q)
def Bp(ent:St->St)(wi:TI)(g:TG)(tt:TT)(te:TE):TE:=fun σ H Q=>wi σ H fun J H1=>∀ D,H1 D=none->∃ W:Nat->Nat->List V->St->Hp->Prop,(∃ m,W 0 m [] (ent σ) (bE H1 D (.lst [])))/\
 ∀ i m ys σ1 H2,W i m ys σ1 H2->H2 D=some (.lst ys)/\((J.stop i H2/\Q (.ref D) H2)\/(J.go i H2/\∃ N:List V->St->Hp->Prop,(∀ ys' σ' H',N ys' σ' H'->∃ m',m' < m/\W (i+1) m' ys' σ' H')/\
  ∀ x H',J.yld i H2 x H'->g x σ1 H' fun σ2 H3=>tt σ2 H3 fun b H4=>if b=true then te σ2 H4 fun y H5=>H5 D=some (.lst ys)/\ys.length < Mp/\N (ys ++ [y]) σ2 (bE H5 D (.lst (ys ++ [y])))else N ys σ2 H4))
theorem iH{scope:Oo}{env:Env}(T7:∀ y∈scope.names,y.2≠.cell){x:Str}(h:(PZ scope env).names.lookup x=some .cell\/(PZ scope env).names.lookup x=some .free):∃ y∈scope.names,y.1=x/\y.2=.free:=by
 have go:∀ (names:List (Str×OI)),(∀ y∈names,y.2≠.cell)->∀ k,(names.map fun (n,k)=>if (k == .free && env.scope.kind == .function && env.kindOf n == some .cell)then (n,NameKind.cell)else (n,k)).lookup x=some k->(k=.cell\/k=.free)->∃ y∈names,y.1=x/\y.2=.free:=by
  intro names
  induction names with
  | nil=>intro _ k e _;simp at e
  | cons y r ih=>
   obtain⟨n,kd⟩:=y;intro hc k e hk;rw[MF,Nw]at e;split at e
   ·rename_i hb;cases e;have nc:kd≠.cell:=hc (n,kd) MB;refine⟨(n,kd),MB,?_,?_⟩
    ·split at hb
     ·simpa using (eq_of_beq hb).symm
     ·simpa using (eq_of_beq hb).symm
    ·split at hk
     ·rename_i hq;simp only[Bool.and_eq_true]at hq
      simpa using hq.1.1
     ·rcases hk with hk|hk
      ·exact absurd hk nc
      ·exact hk
   ·obtain⟨y,hy,q⟩:=ih (fun y hy=>hc y (Mz _ hy)) k e hk;exact⟨y,Mz _ hy,q⟩
 rcases h with h|h
 ·exact go scope.names T7 _ h (.inl rfl)
 ·exact go scope.names T7 _ h (.inr rfl)
theorem mN{scope:Oo}{env:Env}{x:Str}(h:(PZ scope env).names.lookup x=some .local):∃ y∈scope.names,y.1=x/\y.2=.local:=by
 have go:∀ (names:List (Str×OI)),(names.map fun (n,k)=>if (k == .free && env.scope.kind == .function && env.kindOf n == some .cell)then (n,NameKind.cell)else (n,k)).lookup x=some .local->∃ y∈names,y.1=x/\y.2=.local:=by
  intro names
  induction names with
  | nil=>intro e;simp at e
  | cons y r ih=>
   obtain⟨n,kd⟩:=y;intro e;rw[MF,Nw]at e;split at e
   ·rename_i hb;refine⟨(n,kd),MB,?_,?_⟩
    ·split at hb
     ·simpa using (eq_of_beq hb).symm
     ·simpa using (eq_of_beq hb).symm
    ·split at e
     ·cases e
     ·simpa using e
   ·obtain⟨y,hy,q⟩:=ih e;exact⟨y,Mz _ hy,q⟩
 exact go scope.names h
structure CompOk(X:Cx)(scope:Oo)(T M:List Str):Prop where
 calm:X.calm=true
 kind:scope.kind=.function
 cell:∀ y∈scope.names,y.2≠.cell
 names:∀ y∈scope.names,y.2=.local->scope.names.lookup y.1=some .local
 loc:∀ y∈scope.names,y.2=.local->y.1∈((".0":Str)::T)
 len:M.length=X.N.length
 sub:∀ (i:Nat) x,M[i]?=some x->X.N[i]?=some x\/∀ y∈scope.names,y.1≠x
 off:∀ x∈M,x∉((".0":Str)::T)
 free:∀ y∈scope.names,y.2=.free->X.env.kindOf y.1=some .cell\/X.env.kindOf y.1=some .free
def ent(T:List Str)(σ:St):St:=T.map (fun _=>none) ++ σ
section
variable{X:Cx}{pins:List (Mg×Obj)}{σ:St}{H:Hp}{s:Mi}
theorem Inv.block{scope:Oo}{T M:List Str}{fp:List Mg}{h₁:MG}{tk:Nat}{cl:List (Str×Mg)}(I:Inv X pins σ H s)(ok:CompOk X scope T M)(hf:∀ b∈fp,pB X pins H b)(ho:∀ b∈fp,∃ o,s.heap.get? b=some o)
  (hc1:∀ x c,cl.lookup x=some c->X.env.cells.lookup x=some c) (hc2:∀ x∈scope.names,x.2=.free->∃ c,cl.lookup x.1=some c)
  (hns:h₁.Ns s.heap.objs.size fun _=>none) (kp:∀ b o,s.heap.get? b=some o->h₁.get? b=some o):
  Inv (bF X (T ++ M) scope cl s.heap.objs.size s H fp) [] (ent T σ) H { s with heap:=h₁,toks:=tk }:=by
 have fpC:∀ b∈fp,b≠s.heap.objs.size:=fun b hb z=>by
  obtain⟨o,e⟩:=ho b hb;exact absurd (Mx e) (by rw[z];exact Nat.lt_irrefl _)
 have cellsOk:∀ x c,(bF X (T ++ M) scope cl s.heap.objs.size s H fp).env.cells.lookup x=some c->X.env.cells.lookup x=some c:=hc1;refine⟨⟨I.ok.mod,ok.kind,I.ok.glob,I.ok.blt,le_refl _,fun x y c h1 h2=>I.ok.inj x y c (hc1 x c h1) (hc1 y c h2),fun x hx=>?_,(fun x c h=>absurd h (by show ¬ (false=true);decide)),I.ok.hd,I.ok.frames,.inl rfl,fun b hb=>⟨fpC b hb,fun x c e=>(hf b hb).2.2.2.2.1 x c (hc1 x c e)⟩,I.bs,le_trans I.ok.bsz I.sz,fun b o e hb=>?_,fun b hb hs=>?_,I.stack,I.stkFree⟩,
  rfl,I.bare,Un.kept kp,⟨_,hns,fun i x v e1 e2 e3=>?_⟩,fun x c e=>?_,I.hok.fresh (le_refl _),fun x c e=>I.freeC x c (hc1 x c e),fun p hp=>absurd (show p∈([]:List (Mg×Obj))from hp) (by simp),I.hok.kept kp,?_⟩
 ·obtain⟨y,hy,e,hfr⟩:=iH ok.cell hx;rw[<- e];exact hc2 y hy hfr
 ·rcases (hf b hb).2.2.2.1 with z|z
  ·exact I.ok.noex b o e z
  ·exact absurd (MN (Mx e) (le_trans I.ok.bsz z)) (Nat.lt_irrefl _)
 ·rcases MV.mp (I.stkSub b hs)with z|z
  ·exact (hf b hb).2.1 z
  ·exact (hf b hb).2.2.1 z
 ·-- a name that is known: it is drawn from around
  have hi:T.length<=i:=by
   refine Nat.le_of_not_lt fun hlt=>?_;unfold ent at e2;rw[List.getElem?_append_left (by simpa using hlt),MH]at e2
   cases q:T[i]? with
   | none=>rw[q]at e2;cases e2
   | some z=>rw[q]at e2;cases e2
  have e0':M[i - T.length]?=some x:=by
   have:=e1;show M[i - T.length]?=some x
   rw[<- List.getElem?_append_right hi];exact this
  have e1':X.N[i - T.length]?=some x:=by
   rcases ok.sub _ x e0' with z|z
   ·exact z
   ·exfalso;rcases e3 with e3|e3|e3
    ·obtain⟨y,hy,e,hl⟩:=mN e3;exact z y hy e
    ·obtain⟨y,hy,e,_⟩:=iH ok.cell (.inl e3);exact z y hy e
    ·obtain⟨y,hy,e,_⟩:=iH ok.cell (.inr e3);exact z y hy e
  have e2':σ[i - T.length]?=some (some v):=by
   unfold ent at e2;rw[List.getElem?_append_right (by simpa using hi),Mm]at e2
   exact e2
  have T6:(PZ scope X.env).names.lookup x=some .cell\/(PZ scope X.env).names.lookup x=some .free:=by
   rcases e3 with e3|e3|e3
   ·obtain⟨y,hy,e,hl⟩:=mN e3;exact absurd (by rw[<- e];exact ok.loc y hy hl) (ok.off x (MC e0'))
   ·exact .inl e3
   ·exact .inr e3
  obtain⟨y,hy,e,hfr⟩:=iH ok.cell T6;subst e;have hk:=ok.free y hy hfr;obtain⟨m,hn,hl⟩:=I.loc;obtain⟨u,r,l⟩:=hl _ _ v e1' e2' (by rcases hk with hk|hk;exact .inr (.inl hk);exact .inr (.inr hk))
  refine⟨u,r,.inr ⟨T6,?_⟩⟩;rcases l with ⟨l1,_⟩|⟨_,c,ec,z⟩
  ·rcases hk with hk|hk
   ·rw[hk]at l1;cases l1
   ·rw[hk]at l1;cases l1
  ·obtain⟨c',ec'⟩:=hc2 y hy hfr;have:=hc1 _ _ ec';rw[ec]at this;cases this;obtain⟨o,ho',hd⟩:=z;exact⟨c,ec',o,kp _ _ ho',hd⟩
 ·obtain⟨v,o,ho',hd⟩:=I.cell x c (hc1 x c e);exact⟨v,o,kp _ _ ho',hd⟩
 ·show (ent T σ).length=(T ++ M).length;unfold ent;rw[MP,MP,Mm,I.len,ok.len]
end
theorem mr.sameBut{P:Mw}{w:ME}{H:Hp}{h h':MG}{C:Mg}(ok:mr P w H h)(hn:H C=none)(sb:NC C h h'):mr P w H h':=fun b ob e=>by
 refine (ok b ob e).stay (fun c u hc q=>(sb.2 c ?_).trans q) (fun _ q=>q) fun _ _ q=>q
 rintro rfl
 rcases hc with rfl|hc
 ·rw[hn]at e;cases e
 ·rw[hn]at hc;cases hc
section
variable{X:Cx}{elt tg iter:MJ}{ifs:List MJ}{scope:Oo}{T M:List Str}{pos:Pos}{wi:TI}{g:TG}{tt:TT}{te:TE}
theorem zU{pins:List (Mg×Obj)}{s2:Mi}{σ:St}{H1:Hp}{Q:VK}{J:It}{it:Mg}{fp:List Mg}{tn:Nat->MG->Prop}{cl:List (Str×Mg)}{RR:Mh->Mg->QT->Mi->Prop}{E:Mh->Mi->Prop}(ok:CompOk X scope T M)
  (hin:∀ cl C s₀ H₀ fp,PG (bF X (T ++ M) scope cl C s₀ H₀ fp) tg g/\E8 (bF X (T ++ M) scope cl C s₀ H₀ fp) ifs tt/\PE (bF X (T ++ M) scope cl C s₀ H₀ fp) elt te)
  (hc1:∀ x c,cl.lookup x=some c->X.env.cells.lookup x=some c) (hc2:∀ x∈scope.names,x.2=.free->∃ c,cl.lookup x.1=some c)
  (I2:Inv X pins σ H1 s2) (Tn:Turn X.prog X.w X.K tg J fp it tn) (st2:tn 0 s2.heap) (f2:∀ b∈fp,pB X pins H1 b)
  (h:∀ D,H1 D=none->∃ W:Nat->Nat->List V->St->Hp->Prop,(∃ m,W 0 m [] (ent T σ) (bE H1 D (.lst [])))/\
   ∀ i m ys σ1 H2,W i m ys σ1 H2->H2 D=some (.lst ys)/\((J.stop i H2/\Q (.ref D) H2)\/(J.go i H2/\∃ N:List V->St->Hp->Prop,(∀ ys' σ' H',N ys' σ' H'->∃ m',m' < m/\W (i+1) m' ys' σ' H')/\
    ∀ x H',J.yld i H2 x H'->g x σ1 H' fun σ2 H3=>tt σ2 H3 fun b H4=>if b=true then te σ2 H4 fun y H5=>H5 D=some (.lst ys)/\ys.length < Mp/\N (ys ++ [y]) σ2 (bE H5 D (.lst (ys ++ [y])))else N ys σ2 H4)))
  (hRR:∀ D C H' s',Inv X pins σ H' s'->(∃ m,s'.heap.Ns C m)->H' C=none->C≠X.env.locals->X.s₀.heap.objs.size<=C->(∀ x c,X.env.cells.lookup x=some c->c≠C)->(∀ p∈X.pn ++ pins,p.1≠C)->Q (.ref D) H'->RR (.ref D) C (.ok .next) s'):
  Mo (Mt X.prog X.w) X.A (newList []) (fun acc s₃=>Mo (Mt X.prog X.w) X.A (newFunctionEnv scope X.env.globals cl [] X.env.qual none .none (some X.env)) (fun cenv s₄=>
   OB (Mt X.prog X.w) X.A (.compStart (.ListComp elt [⟨tg,iter,ifs,0⟩] scope pos) 0 (.ref it) acc { cenv with scope:=PZ scope X.env }) (RR acc cenv.locals) s₄) E s₃) E s2:=by
 refine MX ?_;have hD:H1 s2.heap.objs.size=none:=I2.hok.fresh (le_refl _);obtain⟨W,⟨m0,w0⟩,turn⟩:=h _ hD;have I3:Inv X pins σ (bE H1 s2.heap.objs.size (.lst [])) { s2 with heap:=s2.heap.push { cls:=.type "list",data:=.seq ([]:List Mh).toArray } }:=I2.lnew (t':=s2.toks) .nil (M6 _)
 have f3:∀ b∈fp,pB X pins (bE H1 s2.heap.objs.size (.lst [])) b:=fun b hb=>by
  have q:=f2 b hb;obtain⟨o,e,_⟩:=Tn.obj 0 _ st2 b hb;exact⟨by rw[aA (MO (Mx e))];exact q.1,q.2⟩
 have st3:tn 0 (s2.heap.push { cls:=.type "list",data:=.seq ([]:List Mh).toArray }):=Tn.keep _ _ _ st2 fun b _ o e=>Mn _ e;generalize hs3:({ s2 with heap:=s2.heap.push { cls:=.type "list",data:=.seq ([]:List Mh).toArray } }:Mi)=s3 at I3 ⊢
 have UK:tn 0 s3.heap:=by rw[<- hs3];exact st3
 generalize hH3:bE H1 s2.heap.objs.size (.lst [])=H3 at I3 f3 w0;generalize hDD:s2.heap.objs.size=D at *
 refine wpAny_newFunctionEnv ok.cell (by intro y hy;simp at hy) (fun h₁ U5 hsb₁=>?_) ok.kind
 have kp:∀ b o,s3.heap.get? b=some o->h₁.get? b=some o:=fun b o e=>hsb₁.extBut b o (MO (Mx e)) (Mn _ e);have hns:h₁.Ns s3.heap.objs.size fun _=>none:=by simpa using U5
 have I4:Inv (bF X (T ++ M) scope cl s3.heap.objs.size s3 H3 fp) [] (ent T σ) H3 { s3 with heap:=h₁,toks:=s3.toks+([]:List (Str×Mh)).length }:=
  I3.block ok f3 (fun b hb=>let ⟨o,e,_⟩:=Tn.obj 0 _ UK b hb;⟨o,e⟩) hc1 hc2 hns kp
 have st4:tn 0 h₁:=Tn.keep _ _ _ UK fun b _ o e=>kp b o e;obtain⟨hG,hT,hE⟩:=hin cl s3.heap.objs.size s3 H3 fp;have back:∀ {SG:List (Mg×Obj)} {σ':St} {H':Hp} {s':Mi},Inv (bF X (T ++ M) scope cl s3.heap.objs.size s3 H3 fp) SG σ' H' s'->Inv X pins σ H' s':=fun {SG σ' H' s'} I'=>
  I3.call' (ch:=fp) I'.os I'.base I'.hok I'.bare fun b hb=>let q:=f3 b hb;⟨q.2.2.2.1,q.2.1,q.2.2.2.2.1,q.2.2.2.2.2⟩
 have loop:∀ s4:Mi,Inv (bF X (T ++ M) scope cl s3.heap.objs.size s3 H3 fp) [] (ent T σ) H3 s4->tn 0 s4.heap->
   OB (Mt X.prog X.w) X.A (.compLoop (.ListComp elt [⟨tg,iter,ifs,0⟩] scope pos) 0 (.ref it) (.ref D) (compEnvC scope cl s3.heap.objs.size X.env)) (RR (.ref D) s3.heap.objs.size) s4:=by
  intro s4 I4 st4;have fpX:∀ {SG:List (Mg×Obj)} {H':Hp},SG=[]->(∀ b∈fp,H' b=none)->∀ b∈fp,pB (bF X (T ++ M) scope cl s3.heap.objs.size s3 H3 fp) SG H' b:=fun {SG H'} ep hn b hb=>by
   subst ep;refine⟨hn b hb,(I4.ok.exf b hb).1,I4.ok.exfs b hb,.inl hb,(I4.ok.exf b hb).2,fun p hp=>absurd (show p∈([]:List (Mg×Obj))from hp) (by simp)⟩
  refine lV (fun n s'=>∃ i ys σ' H',Inv (bF X (T ++ M) scope cl s3.heap.objs.size s3 H3 fp) [] σ' H' s'/\tn i s'.heap/\(∀ b∈fp,H' b=none)/\W i n ys σ' H') ?_ m0 ⟨0,[],ent T σ,H3,I4,st4,fun b hb=>(f3 b hb).1,w0⟩
  rintro n s5 ⟨i,ys,σ5,H5,I5,st5,fr5,w5⟩
  obtain⟨hDl,hstep⟩:=turn i n ys σ5 H5 w5;rcases hstep with ⟨stop,qn⟩|⟨go,N,hN,step⟩
  ·refine cI (Tn.done (bF X (T ++ M) scope cl s3.heap.objs.size s3 H3 fp) rfl rfl rfl ok.calm i [] s5 _ H5 _ I5 (fpX rfl fr5) st5 stop) fun r s6 zz=>?_;obtain⟨hr,I6⟩:=zz;subst hr;have I7:=back I6;obtain⟨m,hm,_⟩:=I6.loc;refine hRR D s3.heap.objs.size H5 s6 I7 ⟨m,hm⟩ I6.free ?_ ?_ ?_ ?_ qn
   ·exact Pa I3.lt
   ·exact I3.sz
   ·intro x c e z;obtain⟨v,q⟩:=I3.cell x c e;exact absurd q.lt (by rw[z];exact Nat.lt_irrefl _)
   ·intro p hp z;exact absurd (Mx (I3.pin p hp).1) (by rw[z];exact Nat.lt_irrefl _)
  ·refine cI (Tn.item (bF X (T ++ M) scope cl s3.heap.objs.size s3 H3 fp) rfl rfl rfl ok.calm i [] s5 _ H5 _ I5 (fpX rfl fr5) st5 go) fun r s6 zz=>?_;obtain⟨u,hr,h6⟩:=zz;subst hr;refine cI h6 fun _ s7 zz=>?_;obtain⟨x,H7,I7,r7,y7,st7,fr7⟩:=zz;have I7':=I7.pinned (fpX rfl fr7) (Tn.obj _ _ st7);refine cI (hG _ s7 _ H7 x u _ I7' r7 (step x H7 y7)) fun _ s8 zz=>?_;obtain⟨σ8,H8,I8,q8⟩:=zz;have again:∀ {s9:Mi} {H9:Hp} {ys':List V},Inv (bF X (T ++ M) scope cl s3.heap.objs.size s3 H3 fp) ([] ++ p7 fp s7.heap) σ8 H9 s9->N ys' σ8 H9->
     ∃ m,m < n/\∃ i ys σ' H',Inv (bF X (T ++ M) scope cl s3.heap.objs.size s3 H3 fp) [] σ' H' s9/\tn i s9.heap/\(∀ b∈fp,H' b=none)/\W i m ys σ' H':=fun {s9 H9 ys'} I9 n9=>by
    obtain⟨m',hm,w9⟩:=hN ys' σ8 H9 n9;refine⟨m',hm,i+1,ys',σ8,H9,I9.unpinned,Tn.keep _ _ _ st7 fun b hb o e=>(I9.pin (b,o) (MW _ (MW _ (i_ hb e)))).1,fun b hb=>?_,w9⟩;obtain⟨o,e,d⟩:=Tn.obj _ _ st7 b hb;exact (I9.pin (b,o) (MW _ (MW _ (i_ hb e)))).2.1
   refine cI (hT _ s8 σ8 H8 _ I8 q8) fun b s9 zz=>?_;obtain⟨H9,I9,q9⟩:=zz;cases b with
   | false=>exact again I9 q9
   | true=>
    refine cI (hE _ s9 σ8 H9 _ I9 q9) fun u10 s10 zz=>?_;obtain⟨y,H10,I10,r10,e10,l10,n10⟩:=zz;refine cI (we (X:=bF X (T ++ M) scope cl s3.heap.objs.size s3 H3 fp) _ s10 σ8 H10 (.ref D) [y] (.ref D) [u10] (fun v H'=>v=.non/\H'=bE H10 D (.lst (ys ++ [y]))) I10 rfl (.cons r10 .nil) ⟨D,ys,y,rfl,rfl,e10,l10,rfl,rfl⟩) fun u11 s11 zz=>?_;obtain⟨z,H11,I11,r11,_,e11⟩:=zz;subst e11;exact again I11 n10
 exact codeAny_compStart_list (loop _ I4 st4) (Tn.self _ 0 _ _ _ st4 (loop _ I4 st4))
theorem BR(ok:CompOk X scope T M){pins:List (Mg×Obj)}{σ:St}{H:Hp}{s:Mi}(I:Inv X pins σ H s):∃ cl,QP scope X.env=pure cl/\(∀ x c,cl.lookup x=some c->X.env.cells.lookup x=some c)/\(∀ x∈scope.names,x.2=.free->∃ c,cl.lookup x.1=some c):=
 Bh scope.names scope rfl fun x hx hf=>I.ok.has x.1 (ok.free x hx hf)
theorem BB(ok:CompOk X scope T M)
  (hin:∀ cl C s₀ H₀ fp,PG (bF X (T ++ M) scope cl C s₀ H₀ fp) tg g/\E8 (bF X (T ++ M) scope cl C s₀ H₀ fp) ifs tt/\PE (bF X (T ++ M) scope cl C s₀ H₀ fp) elt te)
  (hi:PI X tg iter wi) (hs:∀ x,Nh iter X.env x=pure x:=by intro _;rfl):PE X (.ListComp elt [⟨tg,iter,ifs,0⟩] scope pos) (Bp (ent T) wi g tt te):=by
 intro pins s σ H Q I h;obtain⟨cl,hcl,hc1,hc2⟩:=BR ok I;rw[eval_ListComp];refine P9 (use:=none) rfl hs hcl ok.kind ok.names (cI (hi pins s σ H _ I h) fun v s1 h1=>cI h1 fun itv s2 h2=>?_);obtain⟨it,fp,tn,J,H2,e,I2,Tn,st2,f2,hh⟩:=h2;subst e;refine zU (Q:=Q) (RR:=fun acc C=>compPost (Mt X.prog X.w) X.A X.xe none (EP X pins σ Q) acc C) ok hin hc1 hc2 I2 Tn st2 f2 hh ?_;intro D C H' s' I' hm hn n1 n2 n3 n4 q;obtain⟨m,hm⟩:=hm;exact⟨m,hm,fun h' sb=>⟨.ref D,H',I'.turned (t':=s'.toks) (fun b o hb e=>(sb.2 b hb).trans e) hn (Ne.symm (Ne.symm n1)) (.inr n2) n3 n4,rfl,q⟩⟩
theorem Bx{i:Nat}{x:Str}{px spos:Pos}(ok:CompOk X scope T M)(hN:X.N.Nodup)(hix:X.N[i]?=some x)(hx:X.env.scope.names.lookup x=some .local)
  (hin:∀ cl C s₀ H₀ fp,PG (bF X (T ++ M) scope cl C s₀ H₀ fp) tg g/\E8 (bF X (T ++ M) scope cl C s₀ H₀ fp) ifs tt/\PE (bF X (T ++ M) scope cl C s₀ H₀ fp) elt te)
  (hi:PI X tg iter wi) (hsw:NR (.ListComp elt [⟨tg,iter,ifs,0⟩] scope pos) (some (.Name x px)) spos.line X.env=pure true:=by rfl) (hs:∀ x,Nh iter X.env x=pure x:=by intro _;rfl):
  PS X (.Assign [.Name x px] (.ListComp elt [⟨tg,iter,ifs,0⟩] scope pos) spos) (Hv (gh (Bp (ent T) wi g tt te)) (zL i)):=by
 intro pins s σ H D3 I h;obtain⟨cl,hcl,hc1,hc2⟩:=BR ok I;rw[exec_Assign_Name_used _ _ _ _ hsw];refine Mf (Pl (Mf ?_));show Mo _ X.A (do let _ <- comprehension (.ListComp elt [⟨tg,iter,ifs,0⟩] scope pos) scope X.env _ (newList []) false (eval iter X.env) (some (assign (.Name x px) X.env))) _ _ s
 refine Mf (M7 (P9 (use:=some (assign (.Name x px) X.env)) (Q:=fun _ s'=>SP X pins D3 .next s') rfl hs hcl ok.kind ok.names
  (cI (hi pins s σ H _ I h) fun v s1 h1=>cI h1 fun itv s2 h2=>?_)) (fun _ s' hq=>Ml (Ml hq)) fun _ _ e=>e)
 obtain⟨it,fp,tn,J,H2,e,I2,Tn,st2,f2,hh⟩:=h2;subst e;refine zU (Q:=fun v H1=>zL i v σ H1 D3.nx\/∃ p xs,v=.ref p/\H1 p=some (.lst xs)/\∀ o,zL i v σ (bE H1 p (.frz o (.lst xs))) D3.nx) (RR:=fun acc C=>compPost (Mt X.prog X.w) X.A X.xe (some (assign (.Name x px) X.env)) (fun _ s'=>SP X pins D3 .next s') acc C) ok hin hc1 hc2 I2 Tn st2 f2 hh ?_;intro D C H' s' I' hm hn n1 n2 n3 n4 q;obtain⟨m,hm⟩:=hm;have fin:∀ {H'':Hp},Inv X pins σ H'' s'->H'' C=none->D3.nx (σ.set i (some (.ref D))) H''->
   Mo (Mt X.prog X.w) X.A (assign (.Name x px) X.env (.ref D)) (fun _ s''=>∃ m,s''.heap.Ns C m/\∀ h',NC C s''.heap h'->SP X pins D3 .next { s'' with heap:=h' }) X.xe s':=fun {H''} J' hn' q'=>by
  refine QW (v0 (v:=V.ref D) J' hN hix (.inl hx) rfl (fun s'' I'' ⟨a,sb,ha⟩=>?_) (.inr hx));have aC:C≠a:=by
   rcases ha with z|z
   ·rw[z];exact n1
   ·exact fun y=>n3 _ _ z y.symm
  refine⟨m,hm.sameBut sb aC,fun h' sb'=>⟨_,H'',I''.turned (t':=s''.toks) (fun b o hb e=>(sb'.2 b hb).trans e) hn' n1 (.inr n2) n3 n4,q'⟩⟩
 rcases q with q|⟨p,xs,ep,e1,q⟩
 ·exact fin I' hn q
 ·obtain⟨o,I''⟩:=I'.freeze e1;refine fin I'' ?_ (q o);rw[aA (fun z=>by subst z;rw[hn]at e1;cases e1)];exact hn
end
section
variable{X:Cx}{tg:MJ}
theorem PG.imp{e:MJ}{t t':TG}(h:PG X e t)(i:∀ v σ H Q,t' v σ H Q->t v σ H Q):PG X e t':=fun pins s σ H v u Q I r q=>h pins s σ H v u Q I r (i v σ H Q q)
theorem E9.imp{es:List MJ}{t t':GJ}(h:E9 X es t)(i:∀ vs σ H Q,t' vs σ H Q->t vs σ H Q):E9 X es t':=fun pins s σ H v u Q I r q=>h pins s σ H v u Q I r (i v σ H Q q)
theorem PI.imp{e:MJ}{t t':TI}(h:PI X tg e t)(i:∀ σ H R,t' σ H R->t σ H R):PI X tg e t':=fun pins s σ H R I q=>h pins s σ H R I (i σ H R q)
variable{pins:List (Mg×Obj)}{σ:St}{H:Hp}{s:Mi}{R:It->Hp->Prop}{E:Mh->Mi->Prop}{a:Mg}{xs:List V}
theorem qw(I:Inv X pins σ H s)(hq:jw X.K H a xs)(q:R (KN X.K a) H):Mo (Mt X.prog X.w) X.A (OD (.ref a)) (Hh X pins σ tg R) E s:=by
 obtain⟨its,rv,p,hz⟩:=I.list hq;refine OK p.isList ?_;refine⟨s.heap.objs.size,[s.heap.objs.size],_,_,H,rfl,I.kept (t':=s.toks) fun b o e=>Mn _ e,B5 a _,⟨_,Mq _ rfl,rfl,rfl⟩,fun b hb=>?_,q⟩;have e:b=s.heap.objs.size:=by simpa using hb
 subst e;exact I.fpOk (le_refl _) (I.hok.fresh (le_refl _))
theorem zA(I:Inv X pins σ H s)(hq:kt X.K H a xs)(q:R (LM X.K a) H):Mo (Mt X.prog X.w) X.A (OD (.ref a)) (Hh X pins σ tg R) E s:=by
 obtain⟨its,rv,p,hz⟩:=I.tuple hq;refine wpAny_pyIter_tuple (show s.heap.IsTuple a its.toArray from p) ?_
 refine⟨s.heap.objs.size,[s.heap.objs.size],_,_,H,rfl,I.kept (t':=s.toks) fun b o e=>Mn _ e,Ah a _,⟨_,Mq _ rfl,rfl,rfl⟩,fun b hb=>?_,q⟩;have e:b=s.heap.objs.size:=by simpa using hb
 subst e;exact I.fpOk (le_refl _) (I.hok.fresh (le_refl _))
theorem zB{z:Str}{t:Tok}(I:Inv X pins σ H s)(q:R (LN (dL z)) H):Mo (Mt X.prog X.w) X.A (OD (.str z t)) (Hh X pins σ tg R) E s:=by
 have fin:∀ (ty:String),(ty="str_ascii_iterator"\/ty="str_iterator")->Hh X pins σ tg R (.ref s.heap.objs.size) { s with heap:=s.heap.push { cls:=.type ty,data:=.fields #[.str z t,.int 0 0] } }:=fun ty hty=>by
  refine⟨s.heap.objs.size,[s.heap.objs.size],_,_,H,rfl,I.kept (t':=s.toks) fun b o e=>Mn _ e,Do _ z t ty hty,⟨_,Mq _ rfl,rfl,rfl⟩,fun b hb=>?_,q⟩;have e:b=s.heap.objs.size:=by simpa using hb
  subst e;exact I.fpOk (le_refl _) (I.hok.fresh (le_refl _))
 cases ha:z.cps.all (· < 128)
 ·exact wpAny_pyIter_wide ha (fin _ (.inr rfl))
 ·exact wpAny_pyIter_ascii ha (fin _ (.inl rfl))
end
end L2
namespace L3
open PySem PySem.Spec PyProof.Rows L2
abbrev uF:=D->fH->Gp->(fH->Gp->Prop)->Prop
abbrev C4:=List D->fH->Gp->(fH->Gp->Prop)->Prop
def jm(K:PySem.W.Frag)(g:uF):TG:=fun v τ H Q=>∃ d σ G Q3,RD K H d v/\RS K H σ τ/\RG K H G/\g d σ G Q3/\∀ σ' G' τ' H',Q3 σ' G'->Kp G H G' H'->RG K H' G'->RS K H' σ' τ'->Q τ' H'
def xI(K:PySem.W.Frag)(g:C4):GJ:=fun vs τ H Q=>∃ ds σ G Q3,RDs K H ds vs/\RS K H σ τ/\RG K H G/\g ds σ G Q3/\∀ σ' G' τ' H',Q3 σ' G'->Kp G H G' H'->RG K H' G'->RS K H' σ' τ'->Q τ' H'
def gN(i:Nat):uF:=fun d σ G Q=>Q (σ.set i (some d)) G
def qT:C4:=fun ds σ G Q=>match ds with
 | []=>Q σ G
 | _=>False
def gF(t:uF)(u:C4):C4:=fun ds σ G Q=>match ds with
 | d::r=>t d σ G fun σ' G'=>u r σ' G' Q
 | []=>False
def qS(n:Nat)(t:C4):uF:=fun d σ G Q=>match d with
 | .tup ds=>ds.length=n/\t ds σ G Q
 | _=>False
section
variable{X:Cx}{pos:Pos}{e:MJ}{es:List MJ}{t:uF}{u:C4}
theorem bo{i:Nat}{x:Str}(hN:X.N.Nodup)(hi:X.N[i]?=some x)(hx:Jm X.env.scope x)(hf:X.fn x=true\/X.env.scope.names.lookup x=some .local:=by first|exact .inl rfl|exact .inr rfl|assumption):PG X (.Name x pos) (jm X.K (gN i)):=
 (FO hN hi hx hf).imp fun v τ H Q zz=>by
 obtain⟨d,σ,G,Q3,rd,rs,rg,h,k⟩:=zz;exact (
  k _ G _ H h Kp.refl rg (rs.set rd i))
theorem BO:E9 X [] (xI X.K qT):=FN.imp fun vs τ H Q zz=>by
 obtain⟨ds,σ,G,Q3,rd,rs,rg,h,k⟩:=zz;cases ds with
 | nil=>exact⟨rd.inv_nil,k _ G _ H h Kp.refl rg rs⟩
 | cons _ _=>exact h.elim
theorem lQ(h1:PG X e (jm X.K t))(h2:E9 X es (xI X.K u))(hs:(NN (e::es) X.env).map (·.2)=assign e X.env::(NN es X.env).map (·.2):=by rfl):E9 X (e::es) (xI X.K (gF t u)):=
 (D7 h1 h2 hs).imp fun vs τ H Q zz=>by
  obtain⟨ds,σ,G,Q3,rd,rs,rg,h,k⟩:=zz;cases ds with
  | nil=>exact h.elim
  | cons d r=>
   obtain⟨x,xs,e1,r1,r2⟩:=rd.inv_cons;refine⟨x,xs,e1,d,σ,G,_,r1,rs,rg,h,fun σ' G' τ' H' q k' rg' rs'=>⟨r,σ',G',Q3,RDs.mono (k'.stb rg) _ _ r2,rs',rg',q,fun σ2 G2 τ2 H2 q2 k2=>k σ2 G2 τ2 H2 q2 (k'.trans k2)⟩⟩
theorem BN{k:Nat}{n:Nat}(hc:X.calm=true)(h:E9 X es (xI X.K u))(hn:(NN es X.env).length=n:=by rfl)(hst:(NN es X.env).findIdx? (·.1)=none:=by rfl):PG X (.Tuple es k pos) (jm X.K (qS n u)):=
 (HN hc h hn hst).imp fun v τ H Q zz=>by
  obtain⟨d,σ,G,Q3,rd,rs,rg,h,k⟩:=zz;cases d with
  | tup ds=>
   simp only[RD]at rd;obtain⟨a,xs,e1,q,r⟩:=rd;exact⟨a,xs,e1,q,by rw[<- r.length];exact h.1,ds,σ,G,Q3,r,rs,rg,h.2,k⟩
  | _=>exact h.elim
end
abbrev E7:=fH->Gp->(List D->Gp->Prop)->Prop
def vX(K:PySem.W.Frag)(G0:Gp)(H0:Hp)(ds:List D)(J:It):Prop:=∀ i G H,Kp G0 H0 G H->RG K H G->
 (i < ds.length->J.go i H/\∀ x H',J.yld i H x H'->Kp G H G H'/\RG K H' G/\∃ d,ds[i]?=some d/\RD K H' d x)/\(i=ds.length->J.stop i H)
def oR(K:PySem.W.Frag)(ti:E7):TI:=fun τ H R=>∃ σ G Q3,RS K H σ τ/\RG K H G/\ti σ G Q3/\∀ ds G' J H',Q3 ds G'->Kp G H G' H'->RG K H' G'->vX K G' H' ds J->R J H'
def signs(x:Str):List D:=x.cps.toList.map fun c=>D.str ⟨#[c]⟩
theorem BL{K:PySem.W.Frag}{G0:Gp}{H0:Hp}{ds:List D}{xs:List V}(r:∀ H,RDs K H ds xs):vX K G0 H0 ds (LN xs):=fun i G H _ rg=>by
 have hl:=(r H).length;refine⟨fun hi=>⟨(show i < xs.length by walk_at "o"),fun x H' y=>?_⟩,fun e=>(show i=xs.length by walk_at "o")⟩
 obtain⟨rfl,hx⟩:=y;refine⟨Kp.refl,rg,ds[i],by simp[hi],?_⟩
 obtain⟨y,e,q⟩:=(r H').get (i:=i) (d:=ds[i]) (by simp[hi])
 rw[hx]at e;cases e;exact q
theorem BM{K:PySem.W.Frag}{G0:Gp}{H0:Hp}{ds:List D}{xs:List V}{a:Mg}(rg0:RG K H0 G0)(f:Dc K H0 a xs)(r:RDs K H0 ds xs):vX K G0 H0 ds (KN K a):=fun i G H k rg=>by
 have hl:=r.length;have f':=(k.stb rg0).l _ _ f;have r':=RDs.mono (k.stb rg0) _ _ r;refine⟨fun hi=>⟨⟨xs,xs[i]'(by walk_at "o"),f'.sq,by simp[show i < xs.length by walk_at "o"]⟩,fun x H' y=>?_⟩,fun e=>⟨xs,f'.sq,by walk_at "o"⟩⟩
 obtain⟨rfl,hx⟩:=y;refine⟨Kp.refl,rg,ds[i],by simp[hi],?_⟩
 obtain⟨y,e,q⟩:=r'.get (i:=i) (d:=ds[i]) (by simp[hi])
 rw[hx xs f'.sq]at e;cases e;exact q
theorem Ew{K:PySem.W.Frag}{G0:Gp}{H0:Hp}{ds:List D}{xs:List V}{a:Mg}(rg0:RG K H0 G0)(f:kt K H0 a xs)(r:RDs K H0 ds xs):vX K G0 H0 ds (LM K a):=fun i G H k rg=>by
 have hl:=r.length;have f':=(k.stb rg0).t _ _ f;have r':=RDs.mono (k.stb rg0) _ _ r;refine⟨fun hi=>⟨⟨xs,xs[i]'(by walk_at "o"),f',by simp[show i < xs.length by walk_at "o"]⟩,fun x H' y=>?_⟩,fun e=>⟨xs,f',by walk_at "o"⟩⟩
 obtain⟨rfl,hx⟩:=y;refine⟨Kp.refl,rg,ds[i],by simp[hi],?_⟩
 obtain⟨y,e,q⟩:=r'.get (i:=i) (d:=ds[i]) (by simp[hi])
 rw[hx xs f']at e;cases e;exact q
def fA:D->Option (List D)
 | .lst ds=>some ds
 | .fl ds=>some ds
 | .tup ds=>some ds
 | .str x=>some (signs x)
 | _=>none
def gc(te:bR):E7:=fun σ G Q=>te σ G fun d G'=>match fA d with
 | some ds=>Q ds G'
 | none=>False
def gw(lo:Int)(n:Nat):List D:=(List.range n).map fun k=>D.int (lo+(k:Nat))
theorem zC{K:PySem.W.Frag}{G0:Gp}{H0:Hp}{lo:Int}{n:Nat}:vX K G0 H0 (gw lo n) (KM lo n):=fun i G H _ rg=>by
 have hl:(gw lo n).length=n:=by simp[gw]
 rw[hl];refine⟨fun hi=>⟨hi,fun x H' y=>?_⟩,fun e=>(show n<=i by walk_at "o")⟩
 obtain⟨rfl,rfl⟩:=y;exact⟨Kp.refl,rg,.int (lo+(i:Nat)),by simp[gw,hi],dw⟩
def KW(ta:nR):E7:=fun σ G Q=>ta σ G fun ds G'=>match ds with
 | [.int j]=>(-(2 ^ 62)<=j/\j < 2 ^ 62)/\Q (gw 0 j.toNat) G'
 | _=>False
def KU(ta:nR):E7:=fun σ G Q=>ta σ G fun ds G'=>match ds with
 | [.int i,.int j]=>(-(2 ^ 62)<=i/\i < 2 ^ 62/\-(2 ^ 62)<=j/\j < 2 ^ 62)/\Q (gw i (j - i).toNat) G'
 | _=>False
section
variable{X:Cx}{tg e:MJ}{te:bR}
theorem fj(h:PE X e (aE X.K te)):PI X tg e (oR X.K (gc te)):=by
 intro pins s τ H R I hq;obtain⟨σ,G,Q3,rs,rg,hq,k⟩:=hq;refine cI (dP h pins s τ H (fun v H1=>∃ d G1,Kp G H G1 H1/\RG X.K H1 G1/\RD X.K H1 (val d) v/\(match fA d with|some ds=>Q3 ds G1|none=>False)) I ⟨σ,G,_,rs,rg,hq,fun d G' v H' q k' rg' rd=>⟨d,G',k',rg',rd,q⟩⟩) fun u s1 zz=>?_
 obtain⟨v,H1,I1,r1,d,G1,k1,rg1,rd,q⟩:=zz;have seq:∀ {a:Mg} {xs:List V} {ds:List D},Dc X.K H1 a xs->RDs X.K H1 ds xs->Q3 ds G1->Mo (Mt X.prog X.w) X.A (OD (.ref a)) (Hh X pins τ tg R) X.xe s1:=fun f r q=>qw I1 f.sq (k _ G1 _ H1 q k1 rg1 (BM rg1 f r));cases d with
 | lst ds=>
  simp only[val,RD]at rd;obtain⟨a,xs,rfl,f,r⟩:=rd;cases r1;exact seq f r q
 | fl ds=>
  simp only[val,RD]at rd;obtain⟨a,xs,rfl,f,r⟩:=rd;cases r1;exact seq f r q
 | tup ds=>
  simp only[val,RD]at rd;obtain⟨a,xs,rfl,f,r⟩:=rd;cases r1;exact zA I1 f (k _ G1 _ H1 q k1 rg1 (Ew rg1 f r))
 | str z=>
  simp only[val,RD]at rd;subst rd;obtain⟨t,rfl⟩:=r1;refine zB I1 (k _ G1 _ H1 q k1 rg1 (BL fun H'=>?_));have:signs z=(z.cps.toList.map fun c=>(⟨#[c]⟩:Str)).map D.str:=by simp[signs]
  rw[this];have e2:dL z=(z.cps.toList.map fun c=>(⟨#[c]⟩:Str)).map V.str:=by simp[dL]
  rw[e2];exact RDs.strs _
 | _=>exact q.elim
theorem zI{a:MJ}{ta:nR}{p pos:Pos}(hg:Gl X "range")(hm:X.mg "range"=none)(ha:PA X [a] (fi X.K ta))(hs:Mu [a] X.env=[(false,eval a X.env)]:=by rfl):PI X tg (.Call (.Name "range" p) [a] [] pos) (oR X.K (KW ta)):=
 (Ck hg hm ha hs).imp fun τ H R zz=>by
 obtain⟨σ,G,Q3,rs,rg,h,k⟩:=zz;exact (
  ⟨σ,G,_,rs,rg,h,fun ds G1 vs H1 q k1 rg1 rds=>by
    split at q
    ·rename_i j;obtain⟨x,r,e1,r1,r2⟩:=rds.inv_cons;have:=r2.inv_nil;simp only[RD]at r1;subst e1 this r1;exact⟨j,rfl,q.1.1,q.1.2,k _ G1 _ H1 q.2 k1 rg1 zC⟩
    ·exact q.elim⟩)
theorem zH{a b:MJ}{ta:nR}{p pos:Pos}(hg:Gl X "range")(hm:X.mg "range"=none)(ha:PA X [a,b] (fi X.K ta))(hs:Mu [a,b] X.env=[(false,eval a X.env),(false,eval b X.env)]:=by rfl)(hs2:Mu [b] X.env=[(false,eval b X.env)]:=by rfl):
  PI X tg (.Call (.Name "range" p) [a,b] [] pos) (oR X.K (KU ta)):=
 (Cj hg hm ha hs hs2).imp fun τ H R zz=>by
 obtain⟨σ,G,Q3,rs,rg,h,k⟩:=zz;exact (
  ⟨σ,G,_,rs,rg,h,fun ds G1 vs H1 q k1 rg1 rds=>by
    split at q
    ·rename_i i j;obtain⟨x,r,e1,r1,r2⟩:=rds.inv_cons;obtain⟨x',r',e1',r1',r2'⟩:=r2.inv_cons;have:=r2'.inv_nil;simp only[RD]at r1 r1';subst e1 e1' this r1 r1';exact⟨i,j,rfl,q.1,k _ G1 _ H1 q.2 k1 rg1 zC⟩
    ·exact q.elim⟩)
end
def ForIn(g:uF)(tb:cj)(E:Ends3)(σ:fH)(ds:List D)(G1:Gp):Prop:=∃ Pv:Nat->fH->Gp->Prop,Pv 0 σ G1/\
 (∀ (i:Nat) d σ' G',ds[i]?=some d->Pv i σ' G'->g d σ' G' fun σ2 G2=>tb { E with nx:=Pv (i+1),ct:=Pv (i+1),bk:=E.nx } σ2 G2)/\∀ σ' G',Pv ds.length σ' G'->E.nx σ' G'
def jA(ti:E7)(g:uF)(tb:cj):cj:=fun D σ G=>ti σ G fun ds G1=>ForIn g tb D σ ds G1
theorem jl{X:Cx}{tg iter:MJ}{body:List ML}{ti:E7}{g:uF}{tb:cj}{pos:Pos}(hp:Pj (Mt X.prog X.w) X.A X.env X.xe)(hc:X.calm=true)(hi:PI X tg iter (oR X.K ti))(hg:PG X tg (jm X.K g))(hb:pE X body (cm X.K tb))
  (hs:∀ x,Nh iter X.env x=pure x:=by intro _;rfl):PS X (.For tg iter body [] pos) (cm X.K (jA ti g tb)):=
 (D4 hp hc hi hg hb hs).imp fun D τ H zz=>by
 obtain⟨σ,G,D3,rs,rg,h,k⟩:=zz;exact (
  ⟨σ,G,_,rs,rg,h,fun ds G1 J H1 q k1 rg1 it=>by
    obtain⟨Pv,p0,step,fin⟩:=q;refine⟨fun i m τ' H'=>m=ds.length - i/\i<=ds.length/\∃ σ' G',RS X.K H' σ' τ'/\RG X.K H' G'/\Pv i σ' G'/\Kp G1 H1 G' H',⟨ds.length,rfl,M6 _,σ,G1,rs.mono (k1.stb rg),rg1,p0,Kp.refl⟩,?_⟩
    rintro i m τ' H' ⟨rfl,hi',σ',G',rs',rg',pv,k'⟩
    obtain⟨hgo,hstop⟩:=it i G' H' k' rg'
    by_cases hlt:i < ds.length
    ·obtain⟨go,yld⟩:=hgo hlt;refine .inr ⟨go,fun τ2 H2=>∃ σ2 G2,RS X.K H2 σ2 τ2/\RG X.K H2 G2/\Pv (i+1) σ2 G2/\Kp G1 H1 G2 H2,fun τ2 H2 ⟨σ2,G2,a,b,c,d⟩=>⟨ds.length - (i+1),by walk_at "o",rfl,hlt,σ2,G2,a,b,c,d⟩,fun x H2 y=>?_⟩
     obtain⟨ky,rgy,d,hd,rd⟩:=yld x H2 y;refine⟨d,σ',G',_,rd,rs'.mono (ky.stb rg'),rgy,step i d σ' G' hd pv,fun σ3 G3 τ3 H3 q3 k3 rg3 rs3=>?_⟩;have kk:Kp G1 H1 G3 H3:=k'.trans (ky.trans k3);have kG:Kp G H G3 H3:=k1.trans kk;refine⟨σ3,G3,_,rs3,rg3,q3,⟨fun σ4 G4 τ4 H4 q4 k4 rg4 rs4=>⟨σ4,G4,rs4,rg4,q4,kk.trans k4⟩,k.rt.base kG,fun σ4 G4 τ4 H4 q4 k4=>k.nx σ4 G4 τ4 H4 q4 (kG.trans k4),fun σ4 G4 τ4 H4 q4 k4 rg4 rs4=>⟨σ4,G4,rs4,rg4,q4,kk.trans k4⟩⟩⟩
    ·have e:i=ds.length:=by walk_at "o"
     refine .inl ⟨hstop e,k.nx σ' G' τ' H' (fin σ' G' (by rw[<- e];exact pv)) (k1.trans k') rg' rs'⟩⟩)
def iC:pC:=fun _ G Q=>Q true G
def yt(k:Nat)(g:uF)(tt:pC)(te:bR)(σ:fH)(ds:List D)(G1:Gp)(Q:mT):Prop:=ds.length<=Mp/\∃ Pv:Nat->List D->Gp->Prop,Pv 0 [] G1/\
 (∀ (i:Nat) d acc G',ds[i]?=some d->Pv i acc G'->g d (List.replicate k none ++ σ) G' fun σ2 G2=>(k<=σ2.length/\σ2.drop k=σ)/\tt σ2 G2 fun b G3=>if b=true then te σ2 G3 fun y G4=>Pv (i+1) (acc ++ [val y]) G4 else Pv (i+1) acc G3)/\
 ∀ acc G',Pv ds.length acc G'->Q (.fl acc) G'
def fm(k:Nat)(ti:E7)(g:uF)(tt:pC)(te:bR):bR:=fun σ G Q=>ti σ G fun ds G1=>yt k g tt te σ ds G1 Q
theorem f9{k:Nat}{g:uF}{te:bR}{σ:fH}{ds:List D}{G1:Gp}{Q:mT}(f:D->D)(hl:ds.length<=Mp)
  (he:∀ d∈ds,∀ P:mT,(∀ y,val y=f d->P y G1)->g d (List.replicate k none ++ σ) G1 fun σ2 G2=>(k<=σ2.length/\σ2.drop k=σ)/\te σ2 G2 P) (hq:Q (.fl (ds.map f)) G1):yt k g iC te σ ds G1 Q:=by
 refine⟨hl,fun i acc G'=>acc=(ds.take i).map f/\G'=G1,⟨by simp,rfl⟩,fun i d acc G' hd ⟨ha,hG⟩=>?_,fun acc G' ⟨ha,hG⟩=>?_⟩
 ·subst hG;exact he d (MC hd) (fun y G4=>acc ++ [val y]=(ds.take (i+1)).map f/\G4=G') fun y hy=>⟨by rw[ha,hy,MU,hd];simp,rfl⟩
 ·subst hG;rw[ha,MR];exact hq
theorem zV{k:Nat}{g:uF}{tt:pC}{te:bR}{σ:fH}{ds:List D}{G1:Gp}{Q:mT}(p:D->Bool)(f:D->D)(hl:ds.length<=Mp)
  (he:∀ d∈ds,∀ (P:mT) (R:Gp->Prop),(p d=true->∀ y,val y=f d->P y G1)->(p d=false->R G1)->g d (List.replicate k none ++ σ) G1 fun σ2 G2=>(k<=σ2.length/\σ2.drop k=σ)/\tt σ2 G2 fun b G3=>if b=true then te σ2 G3 P else R G3)
  (hq:Q (.fl ((ds.filter p).map f)) G1):yt k g tt te σ ds G1 Q:=by
 refine⟨hl,fun i acc G'=>acc=((ds.take i).filter p).map f/\G'=G1,⟨by simp,rfl⟩,fun i d acc G' hd ⟨ha,hG⟩=>?_,fun acc G' ⟨ha,hG⟩=>?_⟩
 ·subst hG;have e:(ds.take (i+1)).filter p=(ds.take i).filter p ++ (if p d=true then [d]else []):=by
   rw[MU,hd,NS];cases hp:p d<;>simp[hp]
  refine he d (MC hd) (fun y G4=>acc ++ [val y]=((ds.take (i+1)).filter p).map f/\G4=G') (fun G4=>acc=((ds.take (i+1)).filter p).map f/\G4=G') (fun hp y hy=>⟨?_,rfl⟩) fun hp=>⟨?_,rfl⟩
  ·rw[e,hp,ha,hy];simp
  ·rw[e,hp,ha];simp
 ·subst hG;rw[ha,MR];exact hq
section
variable{X:Cx}{elt tg iter:MJ}{ifs:List MJ}{scope:Oo}{T M:List Str}{pos:Pos}{ti:E7}{g:uF}{tt:pC}{te:bR}
theorem DE{K:PySem.W.Frag}{H:Hp}{σ:fH}{τ:St}(T:List Str)(r:RS K H σ τ):RS K H (List.replicate T.length none ++ σ) (ent T τ):=by
 unfold ent
 induction T with
 | nil=>exact r
 | cons a t ih=>exact .cons (show Db K H none none from trivial) ih
theorem pW{K:PySem.W.Frag}{H:Hp}:∀ (k:Nat) {σ:fH} {τ:St},k<=σ.length->RS K H σ τ->RS K H (List.replicate k none ++ σ.drop k) τ
 | 0,_,_,_,r=>r
 | k+1,[],_,h,_=>absurd h (by simp)
 | k+1,a::t,_,h,.cons _ r=>.cons (show Db K H none _ from trivial) (pW k (by simpa using h) r)
theorem wu{K:PySem.W.Frag}{τ:St}{H:Hp}{Q:VK}(h:aE K (fm T.length ti g tt te) τ H Q):
  Bp (ent T) (oR K ti) (jm K g) (cS K tt) (wg K te) τ H Q:=by
 obtain⟨σ,G,Q3,rs,rg,h,k⟩:=h;refine⟨σ,G,_,rs,rg,h,fun ds G1 J H1 q k1 rg1 it Da hD=>?_⟩;obtain⟨hsz,Pv,p0,step,fin⟩:=q;have kD:Kp G1 H1 G1 (bE H1 Da (.lst [])):=Kp.laid hD;have rgD:RG K (bE H1 Da (.lst [])) G1:=rg1.laid hD;have gD:G1 Da=none:=rg1.free hD;refine⟨fun i m ys τ2 H2=>m=ds.length - i/\i<=ds.length/\∃ acc G2,H2 Da=some (.lst ys)/\G2 Da=none/\RG K H2 G2/\RS K H2 (List.replicate T.length none ++ σ) τ2/\RDs K H2 acc ys/\acc.length<=i/\Pv i acc G2/\(∀ a h,a≠Da->H1 a=some h->G1 a=none->H2 a=some h/\G2 a=none),
  ⟨ds.length,rfl,M6 _,[],G1,aZ,gD,rgD,DE T (rs.mono ((k1.trans kD).stb rg)),RDs.nil,le_refl _,p0,fun a h ha e n=>⟨by rw[aA ha];exact e,n⟩⟩,?_⟩
 rintro i m ys τ2 H2 ⟨rfl,hi',acc,G2,eD,nD,rg2,rs2,ra,la,pv,k2⟩
 have k2':Kp G1 H1 G2 H2:=fun a h e n=>k2 a h (b7 e hD) e n;refine⟨eD,?_⟩;obtain⟨hgo,hstop⟩:=it i G2 H2 k2' rg2
 by_cases hlt:i < ds.length
 ·obtain⟨go,yld⟩:=hgo hlt;refine .inr ⟨go,fun ys' τ' H'=>∃ acc G',H' Da=some (.lst ys')/\G' Da=none/\RG K H' G'/\RS K H' (List.replicate T.length none ++ σ) τ'/\RDs K H' acc ys'/\acc.length<=i+1/\Pv (i+1) acc G'/\(∀ a h,a≠Da->H1 a=some h->G1 a=none->H' a=some h/\G' a=none),
   fun ys' τ' H' q'=>⟨ds.length - (i+1),by walk_at "o",rfl,hlt,q'⟩,fun x H3 y=>?_⟩
  obtain⟨ky,rgy,d,hd,rd⟩:=yld x H3 y;refine⟨d,List.replicate T.length none ++ σ,G2,_,rd,rs2.mono (ky.stb rg2),rgy,step i d acc G2 hd pv,fun σ4 G4 τ4 H4 q4 k4 rg4 rs4=>?_⟩;obtain⟨⟨hlen,hdrop⟩,q4⟩:=q4;have rs4':RS K H4 (List.replicate T.length none ++ σ) τ4:=by
   have:=pW T.length hlen rs4;rw[hdrop]at this;exact this
  refine⟨σ4,G4,_,rs4,rg4,q4,fun b G5 H5 q5 k5 rg5=>?_⟩;have e3:H3 Da=some (.lst ys):=(ky Da _ eD nD).1;have e4:=k4 Da _ e3 nD;have e5:=k5 Da _ e4.1 e4.2;have kk:∀ {G6:Gp} {H6:Hp},Kp G5 H5 G6 H6->∀ a h,a≠Da->H1 a=some h->G1 a=none->H6 a=some h/\G6 a=none:=fun k6 a h ha e n=>((((Kp.trans k2' ky).trans k4).trans k5).trans k6) a h e n;cases b with
  | false=>
   refine iteF ⟨acc,G5,e5.1,e5.2,rg5,rs4'.mono (k5.stb rg4),RDs.mono (((ky.trans k4).trans k5).stb rg2) _ _ ra,by walk_at "o",q5,kk Kp.refl⟩
  | true=>
   refine iteT ⟨σ4,G5,_,rs4.mono (k5.stb rg4),rg5,q5,fun yv G6 v H6 q6 k6 rg6 rd6=>?_⟩;have e6:=k6 Da _ e5.1 e5.2;have la':=ra.length;have st:Stb K H6 (bE H6 Da (.lst (ys ++ [v]))):=by
    constructor
    ·intro a zs q;rcases q with (q|⟨o,q⟩)|q
     ·exact .inl (.inl (by rw[aA (fun z=>by subst z;rw[e6.1]at q;cases q)];exact q))
     ·exact .inl (.inr ⟨o,by rw[aA (fun z=>by subst z;rw[e6.1]at q;cases q)];exact q⟩)
     ·exact .inr q
    ·intro a zs q;rcases q with ⟨o,q⟩|q
     ·exact .inl ⟨o,by rw[aA (fun z=>by subst z;rw[e6.1]at q;cases q)];exact q⟩
     ·exact .inr q
   refine⟨e6.1,by walk_at "o",acc ++ [val yv],G6,aZ,e6.2,fun a o q=>?_,(rs4'.mono ((k5.trans k6).stb rg4)).mono st,?_,by simp;omega,q6,fun a h ha e n=>?_⟩
   ·obtain⟨h',q1,q2⟩:=rg6 a o q;exact⟨h',by rw[aA (fun z=>by subst z;rw[e6.2]at q;cases q)];exact q1,q2.mono st⟩
   ·exact RDs.append (RDs.mono st _ _ (RDs.mono ((((ky.trans k4).trans k5).trans k6).stb rg2) _ _ ra)) (RDs.cons (RD.mono st _ _ rd6) RDs.nil)
   ·rw[aA ha];exact kk k6 a h ha e n
 ·have e:i=ds.length:=by walk_at "o"
  refine .inl ⟨hstop e,k _ G2 _ H2 (fin acc G2 (by rw[<- e];exact pv)) (k1.trans k2') rg2 (.inl ⟨acc,Da,ys,rfl,rfl,eD,nD,ra,?_⟩)⟩
  exact k1.fr (rZ hD)
theorem ic:E8 X [] (cS X.K iC):=fun pins s τ H Q I h=>by
 obtain⟨σ,G,Q3,rs,rg,h,k⟩:=h;exact FG pins s τ H Q I (k true G H h Kp.refl rg)
theorem pH{c:MJ}{tc:pC}(h:PT X c (cS X.K tc)):E8 X [c] (cS X.K tc):=FF h
theorem ix(ok:CompOk X scope T M)
  (hin:∀ cl C s₀ H₀ fp,PG (bF X (T ++ M) scope cl C s₀ H₀ fp) tg (jm X.K g)/\E8 (bF X (T ++ M) scope cl C s₀ H₀ fp) ifs (cS X.K tt)/\PE (bF X (T ++ M) scope cl C s₀ H₀ fp) elt (aE X.K te))
  (hi:PI X tg iter (oR X.K ti)) (hs:∀ x,Nh iter X.env x=pure x:=by intro _;rfl):PE X (.ListComp elt [⟨tg,iter,ifs,0⟩] scope pos) (aE X.K (fm T.length ti g tt te)):=
 (BB ok (fun cl C s₀ H₀ fp=>let ⟨a,b,c⟩:=hin cl C s₀ H₀ fp;⟨a,b,dP c⟩) hi hs).imp fun _ _ _ h=>wu h
theorem DN{i:Nat}{x:Str}{px spos:Pos}(ok:CompOk X scope T M)(hN:X.N.Nodup)(hix:X.N[i]?=some x)(hx:X.env.scope.names.lookup x=some .local)
  (hin:∀ cl C s₀ H₀ fp,PG (bF X (T ++ M) scope cl C s₀ H₀ fp) tg (jm X.K g)/\E8 (bF X (T ++ M) scope cl C s₀ H₀ fp) ifs (cS X.K tt)/\PE (bF X (T ++ M) scope cl C s₀ H₀ fp) elt (aE X.K te))
  (hi:PI X tg iter (oR X.K ti)) (hsw:NR (.ListComp elt [⟨tg,iter,ifs,0⟩] scope pos) (some (.Name x px)) spos.line X.env=pure true:=by rfl) (hs:∀ x,Nh iter X.env x=pure x:=by intro _;rfl):
  PS X (.Assign [.Name x px] (.ListComp elt [⟨tg,iter,ifs,0⟩] scope pos) spos) (cm X.K (bN i (fm T.length ti g tt te))):=
 (Bx ok hN hix hx (fun cl C s₀ H₀ fp=>let ⟨a,b,c⟩:=hin cl C s₀ H₀ fp;⟨a,b,dP c⟩) hi hsw hs).imp fun D τ H zz=>by
  obtain⟨σ,G,D3,rs,rg,h,k⟩:=zz;refine wu (Q:=fun v H1=>D.nx (τ.set i (some v)) H1\/∃ p xs,v=.ref p/\H1 p=some (.lst xs)/\∀ o,D.nx (τ.set i (some v)) (bE H1 p (.frz o (.lst xs)))) ⟨σ,G,_,rs,rg,h,fun d G' v H' q k' rg' re=>?_⟩;cases d with
  | fl ds=>
   obtain⟨p,xs,rfl,e1,e2,e3,e4⟩:=re.fl;refine .inr ⟨p,xs,rfl,e1,fun o=>?_⟩;obtain⟨rg2,st⟩:=Ba (o:=o) rg' e1 e2;exact k.nx _ G' _ _ q (Bb (K:=X.K) k' e4) rg2 (((rs.mono (k'.stb rg)).mono st).set (p6 (.inl ⟨o,aZ⟩) (RDs.mono st _ _ e3)) i)
  | _=>exact .inl (k.nx _ G' _ H' q k' rg' ((rs.mono (k'.stb rg)).set (re.rd (by intro ds z;cases z)) i))
end
open PySem.SeqAt
def dG(x y:D):Bool:=@decide (x=y) (Classical.propDecidable _)
theorem ke{x y:D}:dG x y=true↔x=y:=by unfold dG;exact @decide_eq_true_iff _ (Classical.propDecidable _)
theorem bu(x:D):dG x x=true:=ke.mpr rfl
theorem EI{x y:D}(h:x=y):dG x y=true:=ke.mpr h
theorem bQ{x y:D}(h:x≠y):dG x y=false:=by
 cases e:dG x y with
 | false=>rfl
 | true=>exact absurd (ke.mp e) h
theorem pj{x y:D}{b:Bool}(h:(b=true)↔x=y):dG x y=b:=by
 cases b with
 | true=>exact EI (h.mp rfl)
 | false=>exact bQ fun e=>nomatch h.mpr e
def pl:Nat->D->Prop
 | _,.non=>True
 | _,.int _=>True
 | _,.str _=>True
 | n+1,.tup ds=>∀ d∈ds,pl n d
 | n+1,.lst ds=>∀ d∈ds,pl n d
 | _,_=>False
section
variable{X:Cx}{pins:List (Mg×Obj)}{σ:St}{H:Hp}{s:Mi}
theorem BD(I:Inv X pins σ H s){a:Mg}{xs ys:List V}(h1:kt X.K H a xs)(h2:jw X.K H a ys):False:=by
 obtain⟨_,_,⟨o,e,c,_⟩,_⟩:=I.tuple h1;obtain⟨_,_,p,_⟩:=I.list h2;obtain⟨o',e',c',_⟩:=p.isList;rw[e]at e';cases e';rw[c]at c';injection c' with z
 exact absurd z (by decide)
theorem DI(I:Inv X pins σ H s):∀ (n:Nat) {x y:D} {v:V},pl n x->pl n y->RD X.K H x v->RD X.K H y v->x=y:=by
 intro n
 induction n with
 | zero=>
  intro x y v px py rx ry;cases x<;>first|exact px.elim|(cases y<;>first|exact py.elim|(simp only[RD]at rx ry;subst rx;first|rfl|(cases ry;rfl)|cases ry))
 | succ n ih=>
  have seq:∀ {ds es:List D} {xs:List V},(∀ d∈ds,pl n d)->(∀ d∈es,pl n d)->RDs X.K H ds xs->RDs X.K H es xs->ds=es:=by
   intro ds
   induction ds with
   | nil=>
    intro es xs _ _ r1 r2;have:=r1.inv_nil;subst this;cases es with
    | nil=>rfl
    | cons e t=>have:=r2.length;simp at this
   | cons d t ihd=>
    intro es xs p1 p2 r1 r2;obtain⟨v,vs,e1,a1,b1⟩:=r1.inv_cons;subst e1;cases es with
    | nil=>have:=r2.length;simp at this
    | cons e u=>
     obtain⟨v',vs',e2,a2,b2⟩:=r2.inv_cons;cases e2;rw[ih (p1 d MB) (p2 e MB) a1 a2,ihd (fun z hz=>p1 z (Mz _ hz)) (fun z hz=>p2 z (Mz _ hz)) b1 b2]
  intro x y v px py rx ry;cases x with
  | tup ds=>
   simp only[RD]at rx;obtain⟨a,xs,rfl,s1,r1⟩:=rx;cases y with
   | tup es=>
    simp only[RD]at ry;obtain⟨b,ys,e,s2,r2⟩:=ry;cases e;have:=I.tuple_inj s1 s2;subst this;rw[seq px py r1 r2]
   | lst es=>
    simp only[RD]at ry;obtain⟨b,ys,e,s2,r2⟩:=ry;cases e;exact (BD I s1 s2.sq).elim
   | _=>first|exact py.elim|(simp only[RD]at ry;cases ry)
  | lst ds=>
   simp only[RD]at rx;obtain⟨a,xs,rfl,s1,r1⟩:=rx;cases y with
   | lst es=>
    simp only[RD]at ry;obtain⟨b,ys,e,s2,r2⟩:=ry;cases e;have:=I.list_inj s1.sq s2.sq;subst this;rw[seq px py r1 r2]
   | tup es=>
    simp only[RD]at ry;obtain⟨b,ys,e,s2,r2⟩:=ry;cases e;exact (BD I s2 s1.sq).elim
   | _=>first|exact py.elim|(simp only[RD]at ry;cases ry)
  | _=>first|exact px.elim|(cases y with
   | tup es=>simp only[RD]at rx ry;obtain⟨b,ys,e,_⟩:=ry;rw[rx]at e;cases e
   | lst es=>simp only[RD]at rx ry;obtain⟨b,ys,e,_⟩:=ry;rw[rx]at e;cases e
   | _=>first|exact py.elim|(simp only[RD]at rx ry;subst rx;first|rfl|(cases ry;rfl)|cases ry))
structure Cmp3(A:MA)(s:Mi)(v u:Mh)(b:Bool):Prop where
 eq:EqAt A s v u b
 rc:RcAt A s v u b
 ne:RcNeAt A s v u (!b)
theorem yq{ds es:List D}(n:Nat)(hn:n=min ds.length es.length):((List.range n).all (fun j=>dG (ds.getD j .non) (es.getD j .non)) && ds.length == es.length)=dG (.tup ds) (.tup es):=by
 symm;refine pj ?_;rw[Bool.and_eq_true,List.all_eq_true,beq_iff_eq];constructor
 ·rintro⟨h1,h2⟩
  congr 1;refine List.ext_getElem h2 fun i hi hj=>?_;have:=ke.mp (h1 i (mem_range.mpr (by walk_at "o")))
  rw[MI,MI,Ms hi,Ms hj]at this
  simpa using this
 ·intro h;cases h;exact⟨fun i _=>bu _,rfl⟩
theorem Gr{ds es:List D}:dG (.lst ds) (.lst es)=dG (.tup ds) (.tup es):=pj (by rw[ke];constructor<;>(intro h;cases h;rfl))
theorem Vals.getV:∀ {xs:List V} {us:List Mh} {i:Nat} {u:Mh},Vals xs us->us[i]?=some u->∃ x,xs[i]?=some x/\aI x u
 | _,_,_,_,.nil,e=>by simp at e
 | _,_,0,_,.cons r _,e=>by simp at e;subst e;exact⟨_,rfl,r⟩
 | _,_,i+1,u,.cons _ t,e=>by
  obtain⟨x,h1,h2⟩:=Vals.getV (i:=i) (u:=u) t (by simpa using e)
  exact⟨x,by simpa using h1,h2⟩
theorem RDs.getV{K:PySem.W.Frag}{H:Hp}:∀ {ds:List D} {xs:List V} {i:Nat} {x:V},RDs K H ds xs->xs[i]?=some x->∃ d,ds[i]?=some d/\RD K H d x
 | [],xs,i,x,h,e=>by rw[h.inv_nil]at e;simp at e
 | d::ds,xs,i,x,h,e=>by
  obtain⟨y,r,e1,h1,h2⟩:=h.inv_cons;subst e1;cases i with
  | zero=>simp at e;subst e;exact⟨d,rfl,h1⟩
  | succ i=>
   obtain⟨z,q1,q2⟩:=RDs.getV (i:=i) (x:=x) h2 (by simpa using e)
   exact⟨z,by simpa using q1,q2⟩
def sc:D->Prop
 | .non=>True
 | .int _=>True
 | .str _=>True
 | _=>False
theorem Ja{j:Int}{t:Tok}{A:MA}:Cmp3 A s .none (.int j t) (dG .non (.int j)):=by rw[bQ (by intro z;cases z)];exact⟨EqAt.none_int _ _,RcAt.none_int _ _,RcNeAt.none_int _ _⟩
theorem IZ{j:Str}{t:Tok}{A:MA}:Cmp3 A s .none (.str j t) (dG .non (.str j)):=by rw[bQ (by intro z;cases z)];exact⟨EqAt.none_str _ _,RcAt.none_str _ _,RcNeAt.none_str _ _⟩
theorem Jc{j:Int}{t:Tok}{A:MA}:Cmp3 A s (.int j t) .none (dG (.int j) .non):=by rw[bQ (by intro z;cases z)];exact⟨EqAt.int_none _ _,RcAt.int_none _ _,RcNeAt.int_none _ _⟩
theorem IX{j:Str}{t:Tok}{A:MA}:Cmp3 A s (.str j t) .none (dG (.str j) .non):=by rw[bQ (by intro z;cases z)];exact⟨EqAt.str_none _ _,RcAt.str_none _ _,RcNeAt.str_none _ _⟩
theorem Jb{i:Int}{j:Str}{t u:Tok}{A:MA}:Cmp3 A s (.int i t) (.str j u) (dG (.int i) (.str j)):=by rw[bQ (by intro z;cases z)];exact⟨EqAt.int_str _ _ _ _,RcAt.int_str _ _ _ _,RcNeAt.int_str _ _ _ _⟩
theorem IY{i:Str}{j:Int}{t u:Tok}{A:MA}:Cmp3 A s (.str i t) (.int j u) (dG (.str i) (.int j)):=by rw[bQ (by intro z;cases z)];exact⟨EqAt.str_int _ _ _ _,RcAt.str_int _ _ _ _,RcNeAt.str_int _ _ _ _⟩
theorem Jd{i j:Int}{t u:Tok}{A:MA}:Cmp3 A s (.int i t) (.int j u) (dG (.int i) (.int j)):=by
 have e:dG (.int i) (.int j)=(i == j):=pj (by rw[beq_iff_eq];exact⟨fun z=>by rw[z],fun z=>by cases z;rfl⟩)
 rw[e];exact⟨EqAt.int_int _ _ _ _,RcAt.int_int _ _ _ _,RcNeAt.int_int _ _ _ _⟩
theorem IW{i j:Str}{t u:Tok}{A:MA}:Cmp3 A s (.str i t) (.str j u) (dG (.str i) (.str j)):=by
 have e:dG (.str i) (.str j)=(i == j):=pj (by rw[beq_iff_eq];exact⟨fun z=>by rw[z],fun z=>by cases z;rfl⟩)
 rw[e];exact⟨EqAt.str_str _ _ _ _,RcAt.str_str _ _ _ _,RcNeAt.str_str _ _ _ _⟩
theorem I_{A:MA}:Cmp3 A s .none .none (dG .non .non):=by rw[bu];exact⟨EqAt.same _,RcAt.none_none,RcNeAt.none_none⟩
theorem pK{K:PySem.W.Frag}{x:D}{v:V}{v':Mh}(h:sc x)(r:RD K H x v)(l:aI v v'):(x=.non/\v'=.none)\/(∃ i t,x=.int i/\v'=.int i t)\/(∃ i t,x=.str i/\v'=.str i t):=by
 cases x with
 | non=>simp only[RD]at r;subst r;exact .inl ⟨rfl,l⟩
 | int i=>simp only[RD]at r;subst r;obtain⟨t,e⟩:=l;exact .inr (.inl ⟨i,t,rfl,e⟩)
 | str i=>simp only[RD]at r;subst r;obtain⟨t,e⟩:=l;exact .inr (.inr ⟨i,t,rfl,e⟩)
 | _=>exact h.elim
theorem EU{K:PySem.W.Frag}{A:MA}{x y:D}{v u:V}{v' u':Mh}(h1:sc x)(h2:sc y)(rx:RD K H x v)(ry:RD K H y u)(lx:aI v v')(ly:aI u u'):Cmp3 A s v' u' (dG x y):=by
 rcases pK h1 rx lx with ⟨rfl,rfl⟩|⟨i,t,rfl,rfl⟩|⟨i,t,rfl,rfl⟩
 ·rcases pK h2 ry ly with ⟨rfl,rfl⟩|⟨j,u,rfl,rfl⟩|⟨j,u,rfl,rfl⟩
  ·exact I_
  ·exact Ja
  ·exact IZ
 ·rcases pK h2 ry ly with ⟨rfl,rfl⟩|⟨j,u,rfl,rfl⟩|⟨j,u,rfl,rfl⟩
  ·exact Jc
  ·exact Jd
  ·exact Jb
 ·rcases pK h2 ry ly with ⟨rfl,rfl⟩|⟨j,u,rfl,rfl⟩|⟨j,u,rfl,rfl⟩
  ·exact IX
  ·exact IY
  ·exact IW
theorem v6{n:Nat}{x:D}(p:pl n x):sc x\/(∃ m ds,n=m+1/\x=.tup ds/\∀ d∈ds,pl m d)\/(∃ m ds,n=m+1/\x=.lst ds/\∀ d∈ds,pl m d):=by
 cases x with
 | non=>exact .inl trivial
 | int _=>exact .inl trivial
 | str _=>exact .inl trivial
 | tup ds=>cases n with
  | zero=>exact p.elim
  | succ m=>exact .inr (.inl ⟨m,ds,rfl,rfl,p⟩)
 | lst ds=>cases n with
  | zero=>exact p.elim
  | succ m=>exact .inr (.inr ⟨m,ds,rfl,rfl,p⟩)
 | bl _=>cases n<;>exact p.elim
 | fl _=>cases n<;>exact p.elim
 | ref _=>cases n<;>exact p.elim
 | ty _=>cases n<;>exact p.elim
theorem ES{K:PySem.W.Frag}{A:MA}{b:Mg}{its:Array Mh}{es:List D}(hu0:A.units < M5)(t2:s.heap.IsTuple b its){x:D}{v:V}{v':Mh}(h:sc x)(rx:RD K H x v)(lx:aI v v'):Cmp3 A s v' (.ref b) (dG x (.tup es))/\Cmp3 A s (.ref b) v' (dG (.tup es) x):=by
 rcases pK h rx lx with ⟨rfl,rfl⟩|⟨i,t,rfl,rfl⟩|⟨i,t,rfl,rfl⟩
 ·rw[bQ (by intro z;cases z),bQ (by intro z;cases z)]
  exact⟨⟨EqAt.none_tuple t2 hu0,RcAt.none_tuple t2 hu0,RcNeAt.none_tuple t2 hu0⟩,⟨EqAt.tuple_none t2 hu0,RcAt.tuple_none t2 hu0,RcNeAt.tuple_none t2 hu0⟩⟩
 ·rw[bQ (by intro z;cases z),bQ (by intro z;cases z)]
  exact⟨⟨EqAt.int_tuple _ _ t2 hu0,RcAt.int_tuple _ _ t2 hu0,RcNeAt.int_tuple _ _ t2 hu0⟩,⟨EqAt.tuple_int _ _ t2 hu0,RcAt.tuple_int _ _ t2 hu0,RcNeAt.tuple_int _ _ t2 hu0⟩⟩
 ·rw[bQ (by intro z;cases z),bQ (by intro z;cases z)]
  exact⟨⟨EqAt.str_tuple _ _ t2 hu0,RcAt.str_tuple _ _ t2 hu0,RcNeAt.str_tuple _ _ t2 hu0⟩,⟨EqAt.tuple_str _ _ t2 hu0,RcAt.tuple_str _ _ t2 hu0,RcNeAt.tuple_str _ _ t2 hu0⟩⟩
theorem ET{K:PySem.W.Frag}{A:MA}{b:Mg}{its:Array Mh}{es:List D}(hu0:A.units < M5)(t2:s.heap.IsList b its){x:D}{v:V}{v':Mh}(h:sc x)(rx:RD K H x v)(lx:aI v v'):Cmp3 A s v' (.ref b) (dG x (.lst es))/\Cmp3 A s (.ref b) v' (dG (.lst es) x):=by
 rcases pK h rx lx with ⟨rfl,rfl⟩|⟨i,t,rfl,rfl⟩|⟨i,t,rfl,rfl⟩
 ·rw[bQ (by intro z;cases z),bQ (by intro z;cases z)]
  exact⟨⟨EqAt.none_list t2 hu0,RcAt.none_list t2 hu0,RcNeAt.none_list t2 hu0⟩,⟨EqAt.list_none t2 hu0,RcAt.list_none t2 hu0,RcNeAt.list_none t2 hu0⟩⟩
 ·rw[bQ (by intro z;cases z),bQ (by intro z;cases z)]
  exact⟨⟨EqAt.int_list _ _ t2 hu0,RcAt.int_list _ _ t2 hu0,RcNeAt.int_list _ _ t2 hu0⟩,⟨EqAt.list_int _ _ t2 hu0,RcAt.list_int _ _ t2 hu0,RcNeAt.list_int _ _ t2 hu0⟩⟩
 ·rw[bQ (by intro z;cases z),bQ (by intro z;cases z)]
  exact⟨⟨EqAt.str_list _ _ t2 hu0,RcAt.str_list _ _ t2 hu0,RcNeAt.str_list _ _ t2 hu0⟩,⟨EqAt.list_str _ _ t2 hu0,RcAt.list_str _ _ t2 hu0,RcNeAt.list_str _ _ t2 hu0⟩⟩
theorem ww(I:Inv X pins σ H s):∀ (n:Nat) {x y:D} {v u:V} {v' u':Mh} {A:MA},pl n x->pl n y->RD X.K H x v->RD X.K H y u->aI v v'->aI u u'->A.units+n < M5->Cmp3 A s v' u' (dG x y):=by
 intro n
 induction n with
 | zero=>
  intro x y v u v' u' A px py rx ry lx ly hu;rcases v6 px with h1|⟨m,_,e,_⟩|⟨m,_,e,_⟩
  ·rcases v6 py with h2|⟨m,_,e,_⟩|⟨m,_,e,_⟩
   ·exact EU h1 h2 rx ry lx ly
   ·cases e
   ·cases e
  ·cases e
  ·cases e
 | succ n ih=>
  intro x y v u v' u' A px py rx ry lx ly hu;have hu0:A.units < M5:=by walk_at "o"
  have hu1:A.in1.units+n < M5:=by show A.units+1+n < M5;omega
  have items:∀ {ds es:List D} {xs ys:List V} {its its2:List Mh},(∀ d∈ds,pl n d)->(∀ d∈es,pl n d)->RDs X.K H ds xs->RDs X.K H es ys->Vals xs its->Vals ys its2->
    ∀ j (h1:j < its.toArray.size) (h2:j < its2.toArray.size),EqAt A.in1 s its.toArray[j] its2.toArray[j] (dG (ds.getD j .non) (es.getD j .non)):=by
   intro ds es xs ys its its2 p1 p2 r1 r2 w1 w2 j h1 h2;obtain⟨x1,e1,q1⟩:=Vals.getV (i:=j) (u:=its.toArray[j]) w1 (by simp at h1;simp[h1])
   obtain⟨x2,e2,q2⟩:=Vals.getV (i:=j) (u:=its2.toArray[j]) w2 (by simp at h2;simp[h2])
   obtain⟨d1,f1,g1⟩:=RDs.getV r1 e1;obtain⟨d2,f2,g2⟩:=RDs.getV r2 e2;have:=(ih (A:=A.in1) (p1 d1 (MC f1)) (p2 d2 (MC f2)) g1 g2 q1 q2 hu1).eq;rw[MI,MI,f1,f2];exact this
  rcases v6 px with h1|⟨m,ds,e1,rfl,p1⟩|⟨m,ds,e1,rfl,p1⟩
  ·rcases v6 py with h2|⟨m,es,e2,rfl,p2⟩|⟨m,es,e2,rfl,p2⟩
   ·exact EU h1 h2 rx ry lx ly
   ·simp only[RD]at ry;obtain⟨b,ys,rfl,s2,r2⟩:=ry;cases ly;obtain⟨its2,w2,t2,z2⟩:=I.tuple s2;exact (ES hu0 t2 h1 rx lx).1
   ·simp only[RD]at ry;obtain⟨b,ys,rfl,s2,r2⟩:=ry;cases ly;obtain⟨its2,w2,t2,z2⟩:=I.list s2.sq;exact (ET hu0 t2.isList h1 rx lx).1
  ·cases e1;simp only[RD]at rx;obtain⟨a,xs,rfl,s1,r1⟩:=rx;cases lx;obtain⟨its,w1,t1,z1⟩:=I.tuple s1;have l1:=w1.length;have l1':=r1.length;rcases v6 py with h2|⟨m,es,e2,rfl,p2⟩|⟨m,es,e2,rfl,p2⟩
   ·exact (ES hu0 t1 h2 ry ly).2
   ·cases e2;simp only[RD]at ry;obtain⟨b,ys,rfl,s2,r2⟩:=ry;cases ly;obtain⟨its2,w2,t2,z2⟩:=I.tuple s2;have l2:=w2.length;have l2':=r2.length;have he:=items p1 p2 r1 r2 w1 w2;have hsz:its.toArray.size=ds.length:=by simp only[Mv];omega
    have Uz:its2.toArray.size=es.length:=by simp only[Mv];omega
    have rc:=RcAt.tuples (A:=A) t1 t2 hu0 he;have rn:=RcNeAt.tuples (A:=A) t1 t2 hu0 he;rw[hsz,Uz,yq _ rfl]at rc;rw[hsz,Uz,yq _ rfl]at rn;refine⟨?_,rc,rn⟩
    by_cases hab:a=b
    ·subst hab;have:D.tup ds=D.tup es:=DI I (n+1) (v:=.ref a) px py (p5 s1 r1) (p5 s2 r2);rw[this,bu];exact EqAt.same _
    ·exact EqAt.of_refs hab rc
   ·simp only[RD]at ry;obtain⟨b,ys,rfl,s2,r2⟩:=ry;cases ly;obtain⟨its2,w2,t2,z2⟩:=I.list s2.sq;rw[bQ (by intro z;cases z)]
    exact⟨EqAt.tuple_list t1 t2.isList hu0,RcAt.tuple_list t1 t2.isList hu0,RcNeAt.tuple_list t1 t2.isList hu0⟩
  ·cases e1;simp only[RD]at rx;obtain⟨a,xs,rfl,s1,r1⟩:=rx;cases lx;obtain⟨its,w1,t1,z1⟩:=I.list s1.sq;have l1:=w1.length;have l1':=r1.length;rcases v6 py with h2|⟨m,es,e2,rfl,p2⟩|⟨m,es,e2,rfl,p2⟩
   ·exact (ET hu0 t1.isList h2 ry ly).2
   ·simp only[RD]at ry;obtain⟨b,ys,rfl,s2,r2⟩:=ry;cases ly;obtain⟨its2,w2,t2,z2⟩:=I.tuple s2;rw[bQ (by intro z;cases z)]
    exact⟨EqAt.list_tuple t1.isList t2 hu0,RcAt.list_tuple t1.isList t2 hu0,RcNeAt.list_tuple t1.isList t2 hu0⟩
   ·cases e2;simp only[RD]at ry;obtain⟨b,ys,rfl,s2,r2⟩:=ry;cases ly;obtain⟨its2,w2,t2,z2⟩:=I.list s2.sq;have l2:=w2.length;have l2':=r2.length;have he:=items p1 p2 r1 r2 w1 w2;have hsz:its.toArray.size=ds.length:=by simp only[Mv];omega
    have Uz:its2.toArray.size=es.length:=by simp only[Mv];omega
    have rc:RcAt A s (.ref a) (.ref b) (dG (.lst ds) (.lst es))/\RcNeAt A s (.ref a) (.ref b) (!dG (.lst ds) (.lst es)):=by
     rw[Gr]
     by_cases hl:ds.length=es.length
     ·have rc:=RcAt.lists (A:=A) t1.isList t2.isList (by walk_at "o") hu0 he
      have rn:=RcNeAt.lists (A:=A) t1.isList t2.isList (by walk_at "o") hu0 he
      have e:=yq (ds:=ds) (es:=es) its.toArray.size (by walk_at "o")
      rw[hl,beq_self_eq_true,Bool.and_true]at e;rw[e]at rc rn;exact⟨rc,rn⟩
     ·rw[bQ (by intro z;cases z;exact hl rfl)]
      exact⟨RcAt.lists_lengths t1.isList t2.isList (by rw[hsz,Uz];simpa using hl) hu0,RcNeAt.lists_lengths t1.isList t2.isList (by rw[hsz,Uz];simpa using hl) hu0⟩
    refine⟨?_,rc.1,rc.2⟩
    by_cases hab:a=b
    ·subst hab;have:D.lst ds=D.lst es:=DI I (n+1) (v:=.ref a) px py (p6 s1 r1) (p6 s2 r2);rw[this,bu];exact EqAt.same _
    ·exact EqAt.of_refs hab rc.1
end
end L3
namespace L2
open PySem PySem.Spec PyProof.Rows
def ut(cs:List Nat)(lo hi:Option Int):List Nat:=(cs.drop (HT.sIx cs.length 0 lo)).take (HT.sIx cs.length cs.length hi - HT.sIx cs.length 0 lo)
theorem D6(cs:Array Nat)(i k:Nat):(List.range k).filterMap (fun m=>cs[i+m]?)=(cs.toList.drop i).take k:=by
 induction k generalizing i with
 | zero=>simp
 | succ k ih=>
  rw[List.range_succ_eq_map,List.filterMap_cons,List.filterMap_map];have e:(fun m=>cs[i+m]?) ∘ Nat.succ=fun m=>cs[(i+1)+m]?:=by funext m;simp[Nat.succ_eq_add_one];congr 1;omega
  rw[e,ih (i+1)];cases h:cs.toList.drop i with
  | nil=>
   have hl:cs.toList.length<=i:=List.drop_eq_nil_iff.mp h;have h1:cs[i+0]?=none:=by simp at hl;simp[hl]
   have h2:cs.toList.drop (i+1)=[]:=List.drop_eq_nil_iff.mpr (by walk_at "o")
   rw[h1,h2];simp
  | cons c r=>
   have hlt:i < cs.toList.length:=by
    refine Nat.lt_of_not_le fun hle=>?_;rw[List.drop_eq_nil_iff.mpr hle]at h;cases h
   have h0:=List.drop_eq_getElem_cons hlt;rw[h]at h0;cases h0;have h1:cs[i+0]?=some cs.toList[i]:=by simp at hlt;simp[hlt]
   rw[h1,List.take_succ_cons]
theorem zW(n:Nat)(o:Option Int)(d:Nat)(hd:d<=n):(match o with
  | none=>(d:Int)
  | some i=>max 0 (min (if i < 0 then i+(n:Int)else i) (n:Int)))=((HT.sIx n d o:Nat):Int):=by
 cases o with
 | none=>rfl
 | some i=>
  simp only[HT.sIx]
  by_cases h:i < 0
  ·simp only[h,if_true];omega
  ·simp only[h,if_false];omega
theorem ud(lo hi:Option Int)(n:Nat):Nu lo hi 1 n=(List.range (HT.sIx n n hi - HT.sIx n 0 lo)).map fun m=>HT.sIx n 0 lo+m:=by
 have h1:=zW n lo 0 (M6 _);have h2:=zW n hi n (le_refl _);have e:Nu lo hi 1 n=QO ((HT.sIx n 0 lo:Nat):Int) ((HT.sIx n n hi:Nat):Int) 1:=by
  rw[<- h1,<- h2];unfold Nu;cases lo<;>cases hi<;>simp
 rw[e];unfold QO;simp only[show (1:Int) > 0 by decide,if_true]
 have c:(if ((HT.sIx n 0 lo:Nat):Int) < ((HT.sIx n n hi:Nat):Int)then (((HT.sIx n n hi:Nat):Int) - ((HT.sIx n 0 lo:Nat):Int)+1 - 1) / 1 else 0).toNat=HT.sIx n n hi - HT.sIx n 0 lo:=by
  rw[Int.ediv_one];split<;>omega
 rw[c];refine NF fun k _=>?_;omega
theorem ur(cs:List Nat)(lo hi:Option Int):(ut cs lo hi).length<=cs.length:=by
 unfold ut;rw[Nk,OM];omega
theorem B9(x:Str)(lo hi:Option Int):Txt.slice x lo hi=⟨(ut x.cps.toList lo hi).toArray⟩:=by
 have hn:x.length=x.cps.toList.length:=by simp[OZ]
 have key:(Nu lo hi 1 x.length).filterMap (x.cps[·]?)=ut x.cps.toList lo hi:=by
  rw[ud,List.filterMap_map];unfold ut;rw[<- hn,<- D6];rfl
 unfold Txt.slice;split
 ·rename_i h;rw[Bool.and_eq_true]at h;have hl:(Nu lo hi 1 x.length).length=x.length:=by simpa using h.2
  rw[ud,Mm,List.length_range]at hl;have b1:HT.sIx x.length x.length hi<=x.length:=HT.sIx_le _ _ (le_refl _) _;have h0:HT.sIx x.length 0 lo=0\/x.length=0:=by walk_at "o"
  have e:ut x.cps.toList lo hi=x.cps.toList:=by
   unfold ut;rw[<- hn];rcases h0 with h0|h0
   ·have h3:HT.sIx x.length x.length hi=x.length:=by walk_at "o"
    rw[h0,h3,List.drop_zero,Nat.sub_zero,hn,MR]
   ·have:x.cps.toList=[]:=List.length_eq_zero_iff.mp (by walk_at "o")
    rw[this];simp
  rw[e]
 ·rw[key]
section
variable{X:Cx}
def uZ(x:Str)(k:Nat):Str:=⟨(List.replicate k x.cps.toList).flatten.toArray⟩
theorem qA(x:Array Nat):∀ (k:Nat) (acc:List Nat),(List.replicate k x).foldl (· ++ ·) acc.toArray=(acc ++ (List.replicate k x.toList).flatten).toArray
 | 0,acc=>by simp
 | k+1,acc=>by
  rw[List.replicate_succ,OW,List.replicate_succ,List.flatten_cons];have:acc.toArray ++ x=(acc ++ x.toList).toArray:=by simp
  rw[this,qA x k];simp
theorem AN:gG X (Na .Mult) (fun x y H Q=>∃ z n,x=.str z/\y=.int n/\-(2 ^ 63)<=n/\n < 2 ^ 63/\z.length*n.toNat<=Mp/\Q (.str (uZ z n.toNat)) H):=by
 intro pins s σ H x y v u Q I rx ry h;obtain⟨z,n,rfl,rfl,h1,h2,hl,q⟩:=h;obtain⟨t,rfl⟩:=rx;obtain⟨t',rfl⟩:=ry;have hn:=lL;have BI:(uZ z n.toNat).length=z.length*n.toNat:=by
  simp[uZ,OZ,Nat.mul_comm]
 have bound:¬ n < 1->(z.length:Int)<=(2 ^ 63 - 1) / n:=fun h=>by
  rw[Int.le_ediv_iff_mul_le (by walk_at "o")]
  have e:(z.length:Int)*n=((z.length*n.toNat:Nat):Int):=by
   rw[Int.natCast_mul,Int.toNat_of_nonneg (by walk_at "o")]
  rw[e];omega
 refine PySem.P.mul_str (by rw[decide_eq_false (by walk_at "o"),decide_eq_false (by walk_at "o")];rfl) (fun h _=>by have:=bound h;omega) (fun h _=>?_) ?_
 ·unfold Builtin.Str.tooLong;exact decide_eq_false (by walk_at "o")
 ·have fin:∀ tk s',Inv X pins σ H s'->∀ w,w=uZ z n.toNat->EP X pins σ Q (.str w tk) s':=fun tk s' I' w e=>⟨.str (uZ z n.toNat),H,I',⟨tk,by rw[e]⟩,q⟩
  split
  ·rename_i hlt;have:n.toNat=0:=by walk_at "o"
   exact⟨by decide,fin _ _ (I.tok _) _ (by rw[this];rfl)⟩
  ·split
   ·rename_i hlt he;refine fin _ _ I _ ?_;rw[Bool.or_eq_true]at he;rcases he with he|he
    ·have:n=1:=by simpa using he
     subst this;simp[uZ]
    ·have hz:z.length=0:=by simpa using he
     have hz':z.cps=#[]:=Array.eq_empty_of_size_eq_zero hz;cases z;simp only at hz';subst hz';simp[uZ]
   ·refine⟨?_,fin _ _ (I.tok _) _ ?_⟩
    ·show (⟨_⟩:Str).length<=Mp;have e:=qA z.cps n.toNat [];simp only[Od]at e;rw[show (#[]:Array Nat)=[].toArray from rfl,e]
     exact le_trans (Nat.le_of_eq BI) hl
    ·have e:=qA z.cps n.toNat [];simp only[Od]at e;rw[show (#[]:Array Nat)=[].toArray from rfl,e]
     rfl
theorem Hz:C5 X (fun x lo hi H Q=>∃ z,x=.str z/\z.length<=Mp/\Q (.str ⟨(ut z.cps.toList lo hi).toArray⟩) H):=by
 intro pins s σ H x v vl vu lo hi sl Q I rx hs pl pu h;obtain⟨z,rfl,hz,q⟩:=h;obtain⟨t,rfl⟩:=rx;refine⟨"str",_,PySem.F.slot_str_getitem.lookup,QM _ _ _,?_⟩;have part:∀ {v:Mh} {o:Option Int},Pt v o->∃ p:Option (Int×Tok),v=partValue p/\p.map (·.1)=o:=by
  intro v o h;cases h with
  | none=>exact⟨none,rfl,rfl⟩
  | int i t=>exact⟨some (i,t),rfl,rfl⟩
 obtain⟨pl',e1,f1⟩:=part pl;obtain⟨pu',e2,f2⟩:=part pu;subst e1 e2;refine wpAny_getItem_str_slice (l:=pl') (u:=pu') (st:=none) ?_ rfl ?_
 ·obtain⟨o,a,b,c⟩:=hs;exact⟨o,a,b,c⟩
 ·unfold sliceMade;subst f1 f2;have e:(if (((none:Option (Int×Tok)).map (·.1)).getD 1 == 1 && (slicePicked z pl' pu' none).length == z.length)=true then z else ⟨((slicePicked z pl' pu' none).filterMap (z.cps[·]?)).toArray⟩)=(⟨(ut z.cps.toList (pl'.map (·.1)) (pu'.map (·.1))).toArray⟩:Str):=by
   rw[<- B9];rfl
  refine post_val_or_str ⟨?_,fun t' k=>?_⟩
  ·rw[e];show (ut z.cps.toList (pl'.map (·.1)) (pu'.map (·.1))).toArray.size<=Mp
   rw[Mv];refine le_trans (ur _ _ _) ?_
   simpa[OZ]using hz
  ·rw[e];exact⟨.str _,H,I.tok k,⟨t',rfl⟩,q⟩
end
end L2
namespace L3
open PySem PySem.Spec PyProof.Rows L2
def l_(K:PySem.W.Frag)(r3:R3):R2:=fun v u H Q=>∃ x y G Q3,RD K H x v/\RD K H y u/\RG K H G/\r3 x y G Q3/\uC K G H Q3 Q
def fk(r:R3)(ta tb:bR):bR:=fun σ G Q=>ta σ G fun x G1=>tb σ G1 fun y G2=>r (val x) (val y) G2 Q
section
variable{X:Cx}{a b c:MJ}{ta tb tc:bR}{pos:Pos}{r:R3}
theorem Jy{K:PySem.W.Frag}{Q:VK}{τ:St}{H:Hp}(h:aE K (fk r ta tb) τ H Q):Jo (l_ K r) (wg K ta) (wg K tb) τ H Q:=by
 obtain⟨σ,G,Q3,rs,rg,h,k⟩:=h;refine⟨σ,G,_,rs,rg,h,fun x G1 v H1 h1 k1 rg1 re1=>⟨σ,G1,_,rs.mono (k1.stb rg),rg1,h1,fun y G2 u H2 h2 k2 rg2 re2=>?_⟩⟩;exact⟨val x,val y,G2,Q3,RD.mono (k2.stb rg1) _ _ re1,re2,rg2,h2,k.base (k1.trans k2)⟩
theorem AM{op:OS}(ho:gG X (MT op) (l_ X.K r))(ha:PE X a (aE X.K ta))(hb:PE X b (aE X.K tb))(hm:Nf op b=false):PE X (.Compare a [op] [b] pos) (aE X.K (fk r ta tb)):=
 (FR ho (dP ha) (dP hb) hm).imp fun _ _ _ h=>Jy h
theorem bO{op:OS}(ho:gG X (MT op) (l_ X.K r))(ha:PE X a (aE X.K ta))(hb:PE X b (aE X.K tb))(hm:Nf op b=false):PT X (.Compare a [op] [b] pos) (cS X.K (cV (fk r ta tb))):=
 (Bw ho (dP ha) (dP hb) hm).imp fun _ _ _ h=>Jy (wI h)
def tD:R3:=fun x y G Q=>match x,y with
 | .bl a,.bl b=>Q (.bl (a == b)) G
 | x,y=>pl 8 x/\pl 8 y/\Q (.bl (dG x y)) G
def F5:R3:=fun x y G Q=>match x,y with
 | .bl a,.bl b=>Q (.bl (!(a == b))) G
 | x,y=>pl 8 x/\pl 8 y/\Q (.bl (!dG x y)) G
theorem jy(hu:X.A.units+8 < M5):gG X (MT .Eq) (l_ X.K tD):=by
 rintro pins s σ H v u v' u' Q I rv ru ⟨x,y,G,Q3,rx,ry,rg,h,k⟩
 unfold tD at h;split at h
 ·rename_i a b;simp only[RD]at rx ry;subst rx ry;cases rv;cases ru;exact SeqAt.RcAt.bool_bool a b X.prog X.w X.xe _ ⟨.bl (a == b),H,I,rfl,k _ G _ H h Kp.refl rg (.of hV)⟩
 ·obtain⟨p1,p2,q⟩:=h;exact (ww I 8 p1 p2 rx ry rv ru hu).rc X.prog X.w X.xe _ ⟨.bl _,H,I,rfl,k _ G _ H q Kp.refl rg (.of hV)⟩
theorem B3(hu:X.A.units+8 < M5):gG X (MT .NotEq) (l_ X.K F5):=by
 rintro pins s σ H v u v' u' Q I rv ru ⟨x,y,G,Q3,rx,ry,rg,h,k⟩
 unfold F5 at h;split at h
 ·rename_i a b;simp only[RD]at rx ry;subst rx ry;cases rv;cases ru;exact SeqAt.RcNeAt.bool_bool a b X.prog X.w X.xe _ ⟨.bl (!(a == b)),H,I,rfl,k _ G _ H h Kp.refl rg (.of hV)⟩
 ·obtain⟨p1,p2,q⟩:=h;exact (ww I 8 p1 p2 rx ry rv ru hu).ne X.prog X.w X.xe _ ⟨.bl _,H,I,rfl,k _ G _ H q Kp.refl rg (.of hV)⟩
abbrev cR:=List D->Gp->mT->Prop
def ax(K:PySem.W.Frag)(sp:cR):Sp:=fun vs H Q _=>∃ ds G Q3,RDs K H ds vs/\RG K H G/\sp ds G Q3/\uC K G H Q3 Q
def ie(N:List Str)(ds:List D):fH:=ds.map some ++ List.replicate (N.length - ds.length) none
theorem yJ{K:PySem.W.Frag}{H:Hp}{N:List Str}{ds:List D}{vs:List V}(r:RDs K H ds vs):RS K H (ie N ds) (L2.start N vs):=by
 unfold ie L2.start;have hl:=r.length;rw[hl];have rep:∀ n:Nat,OG (Db K H) (List.replicate n none) (List.replicate n none):=fun n=>by
  induction n with
  | zero=>exact .nil
  | succ n ih=>exact .cons (show Db K H none none from trivial) ih
 have go:∀ {ds:List D} {vs:List V} {σ:fH} {τ:St},RDs K H ds vs->OG (Db K H) σ τ->OG (Db K H) (ds.map some ++ σ) (vs.map some ++ τ):=by
  intro ds
  induction ds with
  | nil=>intro vs σ τ r q;rw[r.inv_nil];exact q
  | cons d t ih=>
   intro vs σ τ r q;obtain⟨x,xs,e,h1,h2⟩:=r.inv_cons;subst e;exact .cons (show Db K H (some d) (some x)from h1) (ih h2 q)
 exact go r (rep _)
variable{P:Mw}{w:ME}{K:PySem.W.Frag}{mg:Str->Option Mh}{base:MG}
theorem Fun.ok3{x qual:Str}{st:ML}{f:Mg}{fd:Mr}{N ps:List Str}{k:Nat}{sp:cR}(F:Fun K x qual st f fd)(S:FnScope N ps (ak st))(len:∀ ds G Q,sp ds G Q->ds.length=ps.length)
  (Td:∀ (cdv:Mh) (A:MA) (outer:List Env) (s:Mi) (H:Hp) (E:XK),Room k (A.deeper (OX qual (ak st) s.heap.objs.size f cdv))->
   ∃ t:cj,pE (zS cU P w K mg base N qual (ak st) f cdv A outer s H E).nox (dB st) (cm K t)/\∀ ds G Q,sp ds G Q->t { nx:=fun _ G'=>Q .non G',rt:=Q } (ie N ds) G):FnOk P w K mg base cU (k+1) f fd ps (ax K sp):=by
 refine F.ok S (fun vs H Q E ⟨ds,G,Q3,rds,rg,h,kk⟩=>by rw[<- rds.length];exact len ds G Q3 h) (fun cdv A outer s H vs Q E hr zz=>?_)
 obtain⟨ds,G,Q3,rds,rg,h,kk⟩:=zz;obtain⟨t,ht,hq⟩:=Td cdv A outer s H E hr;refine⟨cm K t,ht,ie N ds,G,{ nx:=fun _ G'=>Q3 .non G',rt:=Q3 },yJ rds,rg,hq ds G Q3 h,⟨fun σ' G' τ' H' q k' rg' rs'=>kk _ G' _ H' q k' rg' (.of sW),kk,fun _ _ _ _ q=>q.elim,fun _ _ _ _ q=>q.elim⟩⟩
structure Fn3(P:Mw)(w:ME)(K:PySem.W.Frag)(mg:Str->Option Mh)(base:MG)(k:Nat)(x:Str)(dds:List D)(sp:cR):Prop where
 ex:∃ f fd ps ds dvs,FnOk P w K mg base cU k f fd ps (ax K sp)/\mg x=some (.ref f)/\PySem.W.keepIn K (.ref f)=true/\eF K fd ps ds/\Vals dvs ds/\∀ H,RDs K H dds dvs
structure Mt3(P:Mw)(w:ME)(K:PySem.W.Frag)(mg:Str->Option Mh)(base:MG)(k:Nat)(C:Mg)(m:Str)(dds:List D)(sp:cR):Prop where
 cl:Cls K C
 ex:∃ f fd ps ds dvs,FnOk P w K mg base cU k f fd ps (ax K sp)/\Meth K C m f/\eF K fd ps ds/\Vals dvs ds/\∀ H,RDs K H dds dvs
structure Mk3(P:Mw)(w:ME)(K:PySem.W.Frag)(mg:Str->Option Mh)(base:MG)(k:Nat)(x:Str)(C:Mg)(dds:List D)(sp:cR):Prop where
 ex:∃ f fd ps ds dvs,Mk K C f/\mg x=some (.ref C)/\FnOk P w K mg base cU k f fd ps (ax K sp)/\eF K fd ps ds/\Vals dvs ds/\∀ H,RDs K H dds dvs
def aL(sp:cR)(dds:List D)(ta:nR):bR:=fun σ G Q=>ta σ G fun ds G1=>sp (ds ++ dds) G1 Q
def bn(C:Mg)(L:List Str)(sp:cR)(dds:List D)(to:bR)(ta:nR):bR:=fun σ G Q=>to σ G fun x G1=>match x with
 | .ref a=>match G1 a with
  | some (.ins C' L' _)=>(C'=C/\L'=L)/\ta σ G1 fun ds G2=>sp (.ref a::(ds ++ dds)) G2 Q
  | _=>False
 | _=>False
def kq(C:Mg)(sp:cR)(dds:List D)(ta:nR):bR:=fun σ G Q=>ta σ G fun ds G1=>∀ a,G1 a=none->sp (.ref a::(ds ++ dds)) (gset G1 a (.ins C [] [])) fun d G2=>d=.non/\Q (.ref a) G2
variable{e o:MJ}{es:List MJ}{t:nR}{te to:bR}{k:Nat}{x m:Str}{p apos:Pos}{dds:List D}{sp:cR}{C:Mg}
theorem CZ{Q:VK}{τ:St}{H:Hp}{dvs:List V}(hd:∀ H,RDs K H dds dvs)(h:aE K (aL sp dds t) τ H Q)(E:XK):GV (ax K sp) dvs E (fi K t) τ H Q:=by
 obtain⟨σ,G,Q3,rs,rg,h,kk⟩:=h;exact⟨σ,G,_,rs,rg,h,fun ds G1 vs H1 q k1 rg1 rds=>⟨ds ++ dds,G1,Q3,rds.append (hd H1),rg1,q,kk.base k1⟩⟩
theorem aH(F:Fn3 X.prog X.w X.K X.mg X.base k x dds sp)(hr:Room k X.A)(hg:Gl X x)(ha:PA X (e::es) (fi X.K t))(hdb:(x == ("__debug__":Str))=false:=by decide)(he:Mu (e::es) X.env=(false,eval e X.env)::Mu es X.env:=by rfl)
  (hpl:(Nr pos (Mu es X.env)).any (·.1)=false:=by rfl):PE X (.Call (.Name x p) (e::es) [] pos) (aE X.K (aL sp dds t)):=by
 obtain⟨f,fd,ps,ds,dvs,ok,hm,hk,hb,hv,hd⟩:=F.ex;exact (FS ok hr hg hm hk hb hv v9 ha hdb he hpl).imp fun _ _ _ h=>CZ hd h E0
theorem qk{K:PySem.W.Frag}{gs:List (Str×V)}{L:List Str}{m:Str}(h:gs.map (·.1)=L)(n:m∉L):gs.lookup m=none:=by
 subst h
 induction gs with
 | nil=>rfl
 | cons g r ih=>
  obtain⟨y,v⟩:=g;rw[MF,MV,not_or]at n;rw[Nw,show (m == y)=false by simpa using n.1]
  exact ih n.2
theorem Cz{Q:VK}{τ:St}{H:Hp}{dvs:List V}{L:List Str}(hL:m∉L)(hd:∀ H,RDs K H dds dvs)(h:aE K (bn C L sp dds to t) τ H Q)(E:XK):Ds C m (ax K sp) dvs E (aE K to) (fi K t) τ H Q:=by
 obtain⟨σ,G,Q3,rs,rg,h,kk⟩:=h;refine⟨σ,G,_,rs,rg,h,fun d G1 v H1 q k1 rg1 re=>?_⟩;cases d with
 | ref a=>
  dsimp only at q;split at q
  ·rename_i C' L' ds hg;obtain⟨⟨rfl,rfl⟩,q⟩:=q;obtain⟨ho,e1,ro⟩:=rg1 a _ hg;cases ho with
   | ins C2 dx gs=>
    obtain⟨rfl,r2,r3⟩:=ro;refine⟨a,dx,gs,re.ref,e1,qk (K:=K) r2 hL,σ,G1,_,rs.mono (k1.stb rg),rg1,q,fun ds' G2 vs H2 q2 k2 rg2 rds=>?_⟩;rw[re.ref];exact⟨.ref a::(ds' ++ dds),G2,Q3,RDs.cons iu (rds.append (hd H2)),rg2,q2,kk.base (k1.trans k2)⟩
   | _=>exact ro.elim
  ·exact q.elim
 | _=>exact q.elim
theorem cE{pl:Sem Bool}{L:List Str}(F:Mt3 X.prog X.w X.K X.mg X.base k C m dds sp)(hL:m∉L)(hr:Room k X.A)(ho:PE X o (aE X.K to))(ha:PA X (e::es) (fi X.K t))
  (hst:Mu (e::es) X.env=(false,eval e X.env)::Mu es X.env:=by rfl) (hpl:(Nr pos (Mu es X.env)).any (·.1)=false:=by rfl)
  (ht:eval (.Call (.Attribute o m apos) (e::es) [] pos) X.env=(do
   let ov <- eval o X.env
   Oz apos.atName
   let (f,first) <- holding [ov] (OC ov m pl)
   PB pos f first (Nr pos (Mu (e::es) X.env)) (Ou pos (NK [] X.env))):=by rfl):
  PE X (.Call (.Attribute o m apos) (e::es) [] pos) (aE X.K (bn C L sp dds to t)):=by
 obtain⟨f,fd,ps,ds,dvs,ok,hm,hb,hv,hd⟩:=F.ex;exact (FP ho F.cl hm ok hr hb hv v9 ha hst hpl ht).imp fun _ _ _ h=>Cz hL hd h E0
theorem ce{pl:Sem Bool}{L:List Str}(F:Mt3 X.prog X.w X.K X.mg X.base k C m dds sp)(hL:m∉L)(hr:Room k X.A)(ho:PE X o (aE X.K to))
  (ht:eval (.Call (.Attribute o m apos) [] [] pos) X.env=(do
   let ov <- eval o X.env
   Oz apos.atName
   let (f,first) <- holding [ov] (OC ov m pl)
   PB pos f first (Nr pos (Mu [] X.env)) (Ou pos (NK [] X.env))):=by rfl):
  PE X (.Call (.Attribute o m apos) [] [] pos) (aE X.K (bn C L sp dds to av)):=by
 obtain⟨f,fd,ps,ds,dvs,ok,hm,hb,hv,hd⟩:=F.ex;refine (D9 ho F.cl hm ok hr hb hv v9 ht).imp fun τ H Q h=>?_;obtain⟨σ,G,Q3,rs,rg,h,kk⟩:=h;refine⟨σ,G,_,rs,rg,h,fun d G1 v H1 q k1 rg1 re=>?_⟩;cases d with
 | ref a=>
  dsimp only at q;split at q
  ·rename_i C' L' ds hg;obtain⟨⟨rfl,rfl⟩,q⟩:=q;obtain⟨ho,e1,ro⟩:=rg1 a _ hg;cases ho with
   | ins C2 dx gs=>
    obtain⟨rfl,r2,r3⟩:=ro;refine⟨a,dx,gs,re.ref,e1,qk (K:=X.K) r2 hL,?_⟩;rw[re.ref];exact⟨.ref a::([] ++ dds),G1,Q3,RDs.cons iu (hd H1),rg1,q,kk.base k1⟩
   | _=>exact ro.elim
  ·exact q.elim
 | _=>exact q.elim
theorem CA{Q:VK}{τ:St}{H:Hp}{dvs:List V}(hd:∀ H,RDs K H dds dvs)(h:aE K (kq C sp dds t) τ H Q)(E:XK):GU C (ax K sp) dvs E (fi K t) τ H Q:=by
 obtain⟨σ,G,Q3,rs,rg,h,kk⟩:=h;refine⟨σ,G,_,rs,rg,h,fun ds G1 vs H1 q k1 rg1 rds a dx na nd ne=>?_⟩;have kd:Kp G1 H1 G1 (bE H1 dx (.own a)):=Kp.laid nd;have rgd:RG K (bE H1 dx (.own a)) G1:=rg1.laid nd;have na':bE H1 dx (.own a) a=none:=by rw[aA (Ne.symm ne)];exact na
 have ka:Kp G1 H1 (gset G1 a (.ins C [] [])) (bE (bE H1 dx (.own a)) a (.ins C dx [])):=fun b h' e n=>by
  have:b≠a:=b7 e na;exact⟨by rw[aA this,aA (b7 e nd)];exact e,by rw[ao this];exact n⟩
 have st:Stb K H1 (bE (bE H1 dx (.own a)) a (.ins C dx [])):=ka.stb rg1;have rga:RG K (bE (bE H1 dx (.own a)) a (.ins C dx [])) (gset G1 a (.ins C [] [])):=fun b o q=>by
  by_cases hb:b=a
  ·subst hb;rw[az]at q;cases q;exact⟨_,aZ,rfl,rfl,RDs.nil⟩
  ·rw[ao hb]at q;obtain⟨h',e1,r⟩:=rg1 b o q;exact⟨h',by rw[aA hb,aA (b7 e1 nd)];exact e1,r.mono st⟩
 refine⟨.ref a::(ds ++ dds),_,_,RDs.cons iu (RDs.append (RDs.mono st _ _ rds) (hd _)),rga,q a (rg1.free na),fun d G2 v H2 q2 k2 rg2 re=>?_⟩;obtain⟨rfl,q2⟩:=q2;exact⟨re.non,kk _ G2 _ H2 q2 (k1.trans (ka.trans k2)) rg2 (.of iu)⟩
theorem j6(F:Mk3 X.prog X.w X.K X.mg X.base k x C dds sp)(hr:Room (k+1) X.A)(hg:Gl X x)(ha:PA X (e::es) (fi X.K t))(hdb:(x == ("__debug__":Str))=false:=by decide)(he:Mu (e::es) X.env=(false,eval e X.env)::Mu es X.env:=by rfl)
  (hpl:(Nr pos (Mu es X.env)).any (·.1)=false:=by rfl):PE X (.Call (.Name x p) (e::es) [] pos) (aE X.K (kq C sp dds t)):=by
 obtain⟨f,fd,ps,ds,dvs,M,hm,ok,hb,hv,hd⟩:=F.ex;exact (FQ M ok hr hg hm hb hv v9 ha hdb he hpl).imp fun _ _ _ h=>CA hd h E0
def je(C:Mg)(L:List Str)(i:Nat)(to:bR):bR:=fun σ G Q=>to σ G fun x G1=>match x with
 | .ref a=>match G1 a with
  | some (.ins C' L' ds)=>(C'=C/\L'=L)/\match ds[i]? with
   | some d=>Q d G1
   | none=>False
  | _=>False
 | _=>False
def vY(L:List Str)(f:Str)(i:Nat):Prop:=L[i]?=some f/\∀ j,j < i->L[j]?≠some f
theorem BF:∀ {gs:List (Str×V)} {f:Str} {i:Nat} {v:V},vY (gs.map (·.1)) f i->(gs.map (·.2))[i]?=some v->gs.lookup f=some v
 | [],f,i,v,h,e=>by simp at e
 | (g,u)::r,f,0,v,h,e=>by
  have:g=f:=by simpa using h.1
  subst this;simp at e;subst e;rw[Nw,beq_self_eq_true]
 | (g,u)::r,f,i+1,v,h,e=>by
  have ne:g≠f:=fun z=>h.2 0 (Nat.succ_pos _) (by simp[z])
  rw[Nw,show (f == g)=false by simpa using Ne.symm ne]
  exact BF (i:=i) ⟨by simpa using h.1,fun j hj z=>h.2 (j+1) (Nat.succ_lt_succ hj) (by simpa using z)⟩ (by simpa using e)
theorem DO:∀ {gs:List (Str×V)} {f:Str} {i:Nat} (v:V),vY (gs.map (·.1)) f i->(fU f v gs).map (·.1)=gs.map (·.1)/\(fU f v gs).map (·.2)=(gs.map (·.2)).set i v
 | [],f,i,v,h=>by have:=h.1;simp at this
 | (g,u)::r,f,0,v,h=>by
  have:g=f:=by simpa using h.1
  subst this;simp[fU]
 | (g,u)::r,f,i+1,v,h=>by
  have ne:g≠f:=fun z=>h.2 0 (Nat.succ_pos _) (by simp[z])
  have ih:=DO (gs:=r) (i:=i) v ⟨by simpa using h.1,fun j hj z=>h.2 (j+1) (Nat.succ_lt_succ hj) (by simpa using z)⟩
  simp only[fU,if_neg ne,MF,Nd,ih.1,ih.2,and_self]
theorem put_new:∀ {gs:List (Str×V)} {f:Str} (v:V),f∉gs.map (·.1)->fU f v gs=gs ++ [(f,v)]
 | [],f,v,h=>rfl
 | (g,u)::r,f,v,h=>by
  rw[MF,MV,not_or]at h;simp only[fU,if_neg (Ne.symm h.1),put_new v h.2,Oi]
theorem fY{f:Str}{L:List Str}{i:Nat}(cl:Cls X.K C)(na:cX X.K C f)(hi:vY L f i)(ho:PE X o (aE X.K to))(hb:ND o f X.env (eval o X.env)=eval o X.env:=by rfl):PE X (.Attribute o f pos) (aE X.K (je C L i to)):=
 (D_ ho hb).imp fun τ H Q zz=>by
 obtain⟨σ,G,Q3,rs,rg,h,kk⟩:=zz;exact (
  ⟨σ,G,_,rs,rg,h,fun d G1 v H1 q k1 rg1 re=>by
    cases d with
    | ref a=>
     dsimp only at q;split at q
     ·rename_i C' L' ds hg;obtain⟨⟨rfl,rfl⟩,q⟩:=q;split at q
      ·rename_i d hd;obtain⟨ho,e1,ro⟩:=rg1 a _ hg;cases ho with
       | ins C2 dx gs=>
        obtain⟨rfl,r2,r3⟩:=ro;subst r2;obtain⟨w,hw,rd⟩:=r3.get hd;exact⟨a,_,dx,gs,w,re.ref,e1,cl,na,BF hi hw,kk _ G1 _ H1 q k1 rg1 (.of rd)⟩
       | _=>exact ro.elim
      ·exact q.elim
     ·exact q.elim
    | _=>exact q.elim⟩)
def Bu(C:Mg)(L:List Str)(i:Nat)(to tv:bR):cj:=fun D σ G=>tv σ G fun d G1=>to σ G1 fun x G2=>match x with
 | .ref a=>match G2 a with
  | some (.ins C' L' ds)=>(C'=C/\L'=L)/\D.nx σ (gset G2 a (.ins C L (ds.set i (val d))))
  | _=>False
 | _=>False
def sH(C:Mg)(L:List Str)(f:Str)(to tv:bR):cj:=fun D σ G=>tv σ G fun d G1=>to σ G1 fun x G2=>match x with
 | .ref a=>match G2 a with
  | some (.ins C' L' ds)=>(C'=C/\L'=L)/\D.nx σ (gset G2 a (.ins C (L ++ [f]) (ds ++ [val d])))
  | _=>False
 | _=>False
theorem AB{H:Hp}{G:Gp}{a:Mg}{C2 dx:Mg}{gs gs':List (Str×V)}{L':List Str}{ds':List D}(rg:RG K H G)(e1:H a=some (.ins C2 dx gs))(r1:gs'.map (·.1)=L')(r2:RDs K H ds' (gs'.map (·.2)))(hg:G a≠none):
  Kp G H (gset G a (.ins C2 L' ds')) (bE H a (.ins C2 dx gs'))/\RG K (bE H a (.ins C2 dx gs')) (gset G a (.ins C2 L' ds')):=by
 have kp:Kp G H (gset G a (.ins C2 L' ds')) (bE H a (.ins C2 dx gs')):=fun b h e n=>by
  have:b≠a:=fun z=>by subst z;exact hg n
  exact⟨by rw[aA this];exact e,by rw[ao this];exact n⟩
 have st:=kp.stb rg;refine⟨kp,fun b o q=>?_⟩
 by_cases hb:b=a
 ·subst hb;rw[az]at q;cases q;exact⟨_,aZ,rfl,r1,RDs.mono st _ _ r2⟩
 ·rw[ao hb]at q;obtain⟨h',e2,r⟩:=rg b o q;exact⟨h',by rw[aA hb];exact e2,r.mono st⟩
theorem JQ{f:Str}{L:List Str}{i:Nat}{pos':Pos}(cl:Cls X.K C)(na:cX X.K C f)(hi:vY L f i)(hl:L.length < 1000)(ho:PE X o (aE X.K to))(hv:PE X e (aE X.K te))(hs:NR e (some (.Attribute o f pos')) pos.line X.env=pure false:=by rfl):
  PS X (.Assign [.Attribute o f pos'] e pos) (cm X.K (Bu C L i to te)):=
 (AC ho (dP hv) hs).imp fun D τ H zz=>by
 obtain⟨σ,G,D3,rs,rg,h,kk⟩:=zz;exact (
  ⟨σ,G,_,rs,rg,h,fun d G1 v H1 q1 k1 rg1 rd=>⟨σ,G1,_,rs.mono (k1.stb rg),rg1,q1,fun x G2 u H2 q2 k2 rg2 re=>by
    cases x with
    | ref a=>
     dsimp only at q2;split at q2
     ·rename_i C' L' ds hg;obtain⟨⟨rfl,rfl⟩,q2⟩:=q2;obtain⟨ho,e1,ro⟩:=rg2 a _ hg;cases ho with
      | ins C2 dx gs=>
       obtain⟨rfl,r2,r3⟩:=ro;subst r2;obtain⟨p1,p2⟩:=DO (gs:=gs) v hi;have rd2:=RD.mono (k2.stb rg1) _ _ rd;obtain⟨kp,rg3⟩:=AB (gs':=fU f v gs) (L':=gs.map (·.1)) (ds':=ds.set i (val d)) rg2 e1 p1 (by rw[p2];exact r3.set i rd2) (by rw[hg];exact fun z=>nomatch z)
       exact⟨a,_,dx,gs,re.ref,e1,cl,na,by simpa using hl,kk.nx _ _ _ _ q2 ((k1.trans k2).trans kp) rg3 (rs.mono ((((k1.trans k2).trans kp)).stb rg))⟩
      | _=>exact ro.elim
     ·exact q2.elim
    | _=>exact q2.elim⟩⟩)
theorem sY{f:Str}{L:List Str}{pos':Pos}(cl:Cls X.K C)(na:cX X.K C f)(hi:f∉L)(hl:L.length < 1000)(ho:PE X o (aE X.K to))(hv:PE X e (aE X.K te))(hs:NR e (some (.Attribute o f pos')) pos.line X.env=pure false:=by rfl):
  PS X (.Assign [.Attribute o f pos'] e pos) (cm X.K (sH C L f to te)):=
 (AC ho (dP hv) hs).imp fun D τ H zz=>by
 obtain⟨σ,G,D3,rs,rg,h,kk⟩:=zz;exact (
  ⟨σ,G,_,rs,rg,h,fun d G1 v H1 q1 k1 rg1 rd=>⟨σ,G1,_,rs.mono (k1.stb rg),rg1,q1,fun x G2 u H2 q2 k2 rg2 re=>by
    cases x with
    | ref a=>
     dsimp only at q2;split at q2
     ·rename_i C' L' ds hg;obtain⟨⟨rfl,rfl⟩,q2⟩:=q2;obtain⟨ho,e1,ro⟩:=rg2 a _ hg;cases ho with
      | ins C2 dx gs=>
       obtain⟨rfl,r2,r3⟩:=ro;subst r2;have rd2:=RD.mono (k2.stb rg1) _ _ rd;obtain⟨kp,rg3⟩:=AB (gs':=fU f v gs) (L':=gs.map (·.1) ++ [f]) (ds':=ds ++ [val d]) rg2 e1 (by rw[put_new v hi];simp) (by rw[put_new v hi,M3];exact r3.append (RDs.cons rd2 RDs.nil)) (by rw[hg];exact fun z=>nomatch z)
       exact⟨a,_,dx,gs,re.ref,e1,cl,na,by simpa using hl,kk.nx _ _ _ _ q2 ((k1.trans k2).trans kp) rg3 (rs.mono ((((k1.trans k2).trans kp)).stb rg))⟩
      | _=>exact ro.elim
     ·exact q2.elim
    | _=>exact q2.elim⟩⟩)
def Lh(te:bR)(g:uF):cj:=fun D σ G=>te σ G fun d G'=>g (val d) σ G' D.nx
abbrev B0:=List D->Gp->mT->Prop
def lM(K:PySem.W.Frag)(r3:B0):List V->Hp->VK->Prop:=fun vs H Q=>∃ ds G Q3,RDs K H ds vs/\RG K H G/\r3 ds G Q3/\uC K G H Q3 Q
def eB(r:B0)(ta:nR):bR:=fun σ G Q=>ta σ G fun ds G1=>r ds G1 Q
variable{id T:String}{r3:B0}
theorem Hg{Q:VK}{τ:St}{H:Hp}(h:aE K (eB r3 t) τ H Q):Ld (lM K r3) (fi K t) τ H Q:=by
 obtain⟨σ,G,Q3,rs,rg,h,kk⟩:=h;exact⟨σ,G,_,rs,rg,h,fun ds G1 vs H1 q k1 rg1 rds=>⟨ds,G1,Q3,rds,rg1,q,kk.base k1⟩⟩
theorem bZ(hc:d8 X (.builtin id) (lM X.K r3))(hg:Gl X x)(hm:X.mg x=none)(hv:Nl x=some (.builtin id))(ha:PA X (e::es) (fi X.K t))(hn:x≠"__name__":=by decide)(hdb:(x == ("__debug__":Str))=false:=by decide)
  (he:Mu (e::es) X.env=(false,eval e X.env)::Mu es X.env:=by rfl) (hpl:(Nr pos (Mu es X.env)).any (·.1)=false:=by rfl):PE X (.Call (.Name x p) (e::es) [] pos) (aE X.K (eB r3 t)):=
 (Eb hc hg hm hv ha hn hdb he hpl).imp fun _ _ _ h=>Hg h
theorem jC(hc:d8 X (.type T) (lM X.K r3))(hg:Gl X x)(hm:X.mg x=none)(hv:Nl x=some (.type T))(ha:PA X (e::es) (fi X.K t))(hn:x≠"__name__":=by decide)(hdb:(x == ("__debug__":Str))=false:=by decide)
  (he:Mu (e::es) X.env=(false,eval e X.env)::Mu es X.env:=by rfl) (hpl:(Nr pos (Mu es X.env)).any (·.1)=false:=by rfl):PE X (.Call (.Name x p) (e::es) [] pos) (aE X.K (eB r3 t)):=
 (Cq hc hg hm hv ha hn hdb he hpl).imp fun _ _ _ h=>Hg h
def lW:B0:=fun ds G Q=>match ds with
 | [.str z]=>z.length<=Mp/\Q (.int z.length) G
 | [d]=>match Fc G d with
  | some es=>Q (.int es.length) G
  | none=>False
 | _=>False
theorem fy{H:Hp}{d:D}{vs:List V}(r:RDs K H [d] vs):∃ v,vs=[v]/\RD K H d v:=by
 obtain⟨v,t,e,h1,h2⟩:=r.inv_cons;have:=h2.inv_nil;subst this;exact⟨v,e,h1⟩
theorem b_len:d8 X (.builtin "len") (lM X.K lW):=((yk (X:=X)).or (yl (X:=X))).imp fun vs H Q zz=>by
 obtain⟨ds,G,Q3,rds,rg,h,kk⟩:=zz;unfold lW at h;split at h
 ·rename_i z;obtain⟨v,rfl,rd⟩:=fy rds;simp only[RD]at rd;subst rd;exact .inl ⟨z,rfl,h.1,kk _ G _ H h.2 Kp.refl rg (.of dw)⟩
 ·rename_i d _;obtain⟨v,rfl,rd⟩:=fy rds;split at h
  ·rename_i es he;obtain⟨a,xs,rfl,s,r⟩:=uy (G:=G) (H:=H) he (.of rd) rg;exact .inr ⟨a,xs,rfl,s,by rw[<- r.length];exact kk _ G _ H h Kp.refl rg (.of dw)⟩
  ·exact h.elim
 ·exact h.elim
def ux:B0:=fun ds G Q=>match ds with
 | [d]=>match Fc G d with
  | some es=>Q (.fl es) G
  | none=>False
 | _=>False
theorem b_list:d8 X (.type "list") (lM X.K ux):=(yj (X:=X)).imp fun vs H Q zz=>by
 obtain⟨ds,G,Q3,rds,rg,h,kk⟩:=zz;unfold ux at h;split at h
 ·rename_i d;obtain⟨v,rfl,rd⟩:=fy rds;split at h
  ·rename_i es he;obtain⟨a,xs,rfl,s,r⟩:=uy (G:=G) (H:=H) he (.of rd) rg;exact⟨a,xs,rfl,s,fun p hp=>kk _ G _ _ h (Kp.laid hp) (rg.laid hp) (yb rg hp r)⟩
  ·exact h.elim
 ·exact h.elim
def yn:B0:=fun ds G Q=>match ds with
 | [d]=>match Fc G d with
  | some es=>Q (.tup es) G
  | none=>False
 | _=>False
theorem b_tuple:d8 X (.type "tuple") (lM X.K yn):=(vV (X:=X)).imp fun vs H Q zz=>by
 obtain⟨ds,G,Q3,rds,rg,h,kk⟩:=zz;unfold yn at h;split at h
 ·rename_i d;obtain⟨v,rfl,rd⟩:=fy rds;split at h
  ·rename_i es he;obtain⟨a,xs,rfl,s,r⟩:=uy (G:=G) (H:=H) he (.of rd) rg;refine⟨a,xs,rfl,?_⟩;rcases s with s|s
   ·exact .inl ⟨s,fun p hp=>kk _ G _ _ h (Kp.laid hp) (rg.laid hp) (.of (lY rg hp r))⟩
   ·exact .inr ⟨s,kk _ G _ H h Kp.refl rg (.of (p5 s r))⟩
  ·exact h.elim
 ·exact h.elim
def LD:B0:=fun ds G Q=>match ds with
 | [d]=>∃ ns:List Int,rU G d=some (ns.map D.int)/\Q (.int ns.sum) G
 | _=>False
def C3:B0:=fun ds G Q=>match ds with
 | [.int i,.int j]=>Q (.int (if j < i then j else i)) G
 | _=>False
def LF:B0:=fun ds G Q=>match ds with
 | [.int i,.int j]=>Q (.int (if j > i then j else i)) G
 | _=>False
theorem Dn{H:Hp}{i j:Int}{vs:List V}(r:RDs K H [.int i,.int j] vs):vs=[.int i,.int j]:=by
 obtain⟨v,t,e,h1,h2⟩:=r.inv_cons;obtain⟨u,e2,h3⟩:=fy h2;simp only[RD]at h1 h3;subst e e2 h1 h3;rfl
theorem b_min(hc:X.calm=true):d8 X (.builtin "min") (lM X.K C3):=(C0 (X:=X) hc).imp fun vs H Q zz=>by
 obtain⟨ds,G,Q3,rds,rg,h,kk⟩:=zz;unfold C3 at h;split at h
 ·rename_i i j;exact⟨i,j,Dn rds,kk _ G _ H h Kp.refl rg (.of dw)⟩
 ·exact h.elim
end
section
variable{X:Cx}
def vi:R3:=fun x y G Q=>match x,y with
 | .int i,.int j=>GP i j/\Q (.int (i*j)) G
 | .str z,.int n=>(-(2 ^ 63)<=n/\n < 2 ^ 63/\z.length*n.toNat<=Mp)/\Q (.str (uZ z n.toNat)) G
 | _,_=>False
theorem r_:gG X (Na .Mult) (cW X.K vi):=((Ii (X:=X)).or (AN (X:=X))).imp fun v u H Q zz=>by
 obtain⟨x,y,G0,H0,G,Q3,rx,ry,rg,h,k⟩:=zz;unfold vi at h;split at h
 ·rename_i i j;exact .inl ⟨i,j,rx.int,ry.int,h.1,k _ G _ H h.2 Kp.refl rg (.of dw)⟩
 ·rename_i z n;exact .inr ⟨z,n,rx.str,ry.int,h.1.1,h.1.2.1,h.1.2.2,k _ G _ H h.2 Kp.refl rg (.of lC)⟩
 ·exact h.elim
def Jp:KI:=fun x lo hi G Q=>match x with
 | .str z=>z.length<=Mp/\Q (.str ⟨(ut z.cps.toList lo hi).toArray⟩) G
 | .tup ds=>¬ (HT.sIx ds.length 0 lo=0/\HT.sIx ds.length ds.length hi=ds.length)/\Q (.tup (cutD ds lo hi)) G
 | x=>match rU G x with
  | some ds=>Q (.fl (cutD ds lo hi)) G
  | none=>False
theorem Hj:C5 X (Es X.K Jp):=((Hz (X:=X)).or ((Hy (X:=X)).or (Fu (X:=X)))).imp fun v lo hi H Q zz=>by
 obtain⟨x,G0,H0,G,Q3,rx,rg,h,k⟩:=zz;unfold Jp at h;split at h
 ·rename_i z;exact .inl ⟨z,rx.str,h.1,k _ G _ H h.2 Kp.refl rg (.of lC)⟩
 ·rename_i ds;obtain⟨a,xs,rfl,s,r⟩:=rx.tup;refine .inr (.inl ⟨a,xs,rfl,s,by rw[<- r.length];exact h.1,fun p hp=>k _ G _ _ h.2 (Kp.laid hp) (rg.laid hp) (.of (lY rg hp (BP r lo hi)))⟩)
 ·split at h
  ·rename_i ds hds;obtain⟨a,xs,rfl,s,r⟩:=kh hds rx rg;exact .inr (.inr ⟨a,xs,rfl,s,fun p hp=>k _ G _ _ h (Kp.laid hp) (rg.laid hp) (yb rg hp (BP r lo hi))⟩)
  ·exact h.elim
def Kk(to:bR)(ta:nR):bR:=fun σ G Q=>to σ G fun x G1=>match x with
 | .str z=>ta σ G1 fun ds G2=>match ds with
  | [d]=>∃ ys:List Str,rU G2 d=some (ys.map D.str)/\(ys.map (·.length)).sum+ys.length*z.length<=16777216/\Q (.str (Txt.join z ys)) G2
  | _=>False
 | _=>False
variable{o e:MJ}{es:List MJ}{to te:bR}{t:nR}{apos cpos pos p:Pos}
def iT(to:bR)(ta:nR):bR:=fun σ G Q=>to σ G fun x G1=>match x with
 | .ref a=>(∃ ds,G1 a=some (.lst ds))/\ta σ G1 fun es G2=>match es with
  | [d]=>match G2 a with
   | some (.lst ds)=>ds.length < Mp/\Q .non (gset G2 a (.lst (ds ++ [d])))
   | _=>False
  | _=>False
 | _=>False
theorem Ga{K:PySem.W.Frag}{H:Hp}{G:Gp}{a:Mg}{xs ys:List V}{ds':List D}(rg:RG K H G)(e1:H a=some (.lst xs))(r2:RDs K H ds' ys)(hg:G a≠none):
  Kp G H (gset G a (.lst ds')) (bE H a (.lst ys))/\RG K (bE H a (.lst ys)) (gset G a (.lst ds')):=by
 have kp:Kp G H (gset G a (.lst ds')) (bE H a (.lst ys)):=fun b h e n=>by
  have:b≠a:=fun z=>by subst z;exact hg n
  exact⟨by rw[aA this];exact e,by rw[ao this];exact n⟩
 have st:=kp.stb rg;refine⟨kp,fun b o q=>?_⟩
 by_cases hb:b=a
 ·subst hb;rw[az]at q;cases q;exact⟨_,aZ,RDs.mono st _ _ r2⟩
 ·rw[ao hb]at q;obtain⟨h',e2,r⟩:=rg b o q;exact⟨h',by rw[aA hb];exact e2,r.mono st⟩
theorem tL{K:PySem.W.Frag}{H:Hp}{G:Gp}{a:Mg}{ds:List D}(rg:RG K H G)(e:G a=some (.lst ds)):∃ xs,H a=some (.lst xs)/\RDs K H ds xs:=by
 obtain⟨ho,e1,ro⟩:=rg a _ e;cases ho with
 | lst xs=>exact⟨xs,e1,ro⟩
 | _=>exact ro.elim
theorem lD(ho:PE X o (aE X.K to))(ha:PA X [e] (fi X.K t))(T8:ND o "append" X.env (eval o X.env)=eval o X.env:=by rfl)
  (UJ:((Nr cpos (Mu [e] X.env)).all (fun x=>!x.1) && (Ou cpos (NK [] X.env)).all (fun x=>x.1.isSome)
   && decide (([e]:List MJ).length+([]:List O0).length+(if ([]:List O0).isEmpty then 0 else 1) < 30))=true:=by rfl)
  (T5:(apos.endLine == cpos.line)=true:=by rfl) (hs:Mu [e] X.env=(false,eval e X.env)::Mu [] X.env:=by rfl) (Ul:(Nr cpos (Mu [] X.env)).any (·.1)=false:=by rfl):
  PE X (.Call (.Attribute o "append" apos) [e] [] cpos) (aE X.K (iT to t)):=
 (JY PySem.F.plainAttrs_list PySem.F.slot_list_append PySem.F.type_list_append we ho ha T8 UJ T5 hs Ul).imp fun τ H Q zz=>by
 obtain⟨σ,G,Q3,rs,rg,h,k⟩:=zz;exact (
  ⟨σ,G,_,rs,rg,h,fun d G1 v H1 q k1 rg1 re=>by
    cases d with
    | ref a=>
     rw[re.ref];obtain⟨⟨ds,hg⟩,q⟩:=q;obtain⟨xs,e1,r1⟩:=tL rg1 hg;refine⟨.inl ⟨rfl,xs,jw.of e1⟩,σ,G1,_,rs.mono (k1.stb rg),rg1,q,fun es G2 vs H2 q2 k2 rg2 rds=>?_⟩;split at q2
     ·rename_i d;obtain⟨v2,rfl,rd⟩:=fy rds;split at q2
      ·rename_i ds2 hg2;obtain⟨xs2,e2,r2⟩:=tL rg2 hg2;have rr:RDs X.K H2 (ds2 ++ [d]) (xs2 ++ [v2]):=r2.append (RDs.cons rd RDs.nil);obtain⟨kp,rg3⟩:=Ga rg2 e2 rr (by rw[hg2];exact fun z=>nomatch z)
       exact⟨a,xs2,v2,rfl,rfl,e2,by rw[<- r2.length];exact q2.1,k _ _ _ _ q2.2 ((k1.trans k2).trans kp) rg3 (.of sW)⟩
      ·exact q2.elim
     ·exact q2.elim
    | _=>exact q.elim⟩)
def iS(G:Gp):D->Option String
 | .int _=>some "int"
 | .str _=>some "str"
 | .bl _=>some "bool"
 | .tup _=>some "tuple"
 | d=>(rU G d).map fun _=>"list"
def E4:B0:=fun ds G Q=>match ds with
 | [d,.ty T]=>iS G d=some T/\Q (.bl true) G
 | _=>False
theorem Kq:d8 X (.builtin "isinstance") (lM X.K E4):=by
 rintro pins s σ H vs us Q I rv ⟨ds,G,Q3,rds,rg,h,kk⟩
 unfold E4 at h;split at h
 ·rename_i d T;obtain⟨v,t,e,h1,h2⟩:=rds.inv_cons;obtain⟨u2,e2,h3⟩:=fy h2;simp only[RD]at h3;subst e e2 h3;obtain⟨u,w',rfl,ru,rw'⟩:=Dl rv;cases rw';have fin:∀ tk,EP X pins σ Q (.bool true) { s with toks:=tk }:=fun tk=>⟨.bl true,H,I.tok tk,rfl,kk _ G _ H h.2 Kp.refl rg (.of hV)⟩
  have one:∀ T':String,Nq X.K (.type T') (.type T')=some true:=fun T'=>by
   unfold Nq;rw[if_pos (beq_self_eq_true _)]
  have hk:=h.1;cases d with
  | int i=>
   simp only[iS,Option.some.injEq]at hk;subst hk;simp only[RD]at h1;subst h1;obtain⟨t,rfl⟩:=ru;exact me (x:=V.int i) I ⟨t,rfl⟩ (TyOf.int i) (one _) fin
  | str i=>
   simp only[iS,Option.some.injEq]at hk;subst hk;simp only[RD]at h1;subst h1;obtain⟨t,rfl⟩:=ru;exact me (x:=V.str i) I ⟨t,rfl⟩ (TyOf.str i) (one _) fin
  | bl i=>
   simp only[iS,Option.some.injEq]at hk;subst hk;simp only[RD]at h1;subst h1;cases ru;exact me (x:=V.bl i) I rfl (TyOf.bl i) (one _) fin
  | tup es=>
   simp only[iS,Option.some.injEq]at hk;subst hk;simp only[RD]at h1;obtain⟨a,xs,rfl,sq,r⟩:=h1;cases ru;obtain⟨_,_,⟨o,e1,c,_⟩,_⟩:=I.tuple sq;exact Ob PySem.W.kitx_tuple I.kIn ⟨o,e1,c⟩ (one _) (fun z=>nomatch z) fin
  | _=>
   simp only[iS,Option.map_eq_some_iff]at hk;obtain⟨es,he,rfl⟩:=hk;obtain⟨a,xs,rfl,sq,r⟩:=kh (G:=G) (H:=H) he (.of h1) rg;cases ru;obtain⟨_,_,p,_⟩:=I.list sq;obtain⟨o,e1,c,_⟩:=p.isList;exact Ob Qc I.kIn ⟨o,e1,c⟩ (one _) (fun z=>nomatch z) fin
 ·exact h.elim
theorem Lk{x:Str}{T:String}(hg:Gl X x)(hm:X.mg x=none)(hv:Nl x=some (.type T))(hn:x≠"__name__":=by decide)(hd:(x == ("__debug__":Str))=false:=by decide):PE X (.Name x pos) (aE X.K (eC (.ty T))):=
 Jq (FT (v:=.ty T) hg hm hv rfl hn hd) fun _=>by simp only[RD]
theorem BC{x:Str}{d:D}{v:V}{u:Mh}(hg:Gl X x)(hm:X.mg x=some u)(r:aI v u)(rd:∀ H,RD X.K H d v)(hd:(x == ("__debug__":Str))=false:=by decide):PE X (.Name x pos) (aE X.K (eC d)):=Jq (BA hg hm r hd) rd
def LB(te:bR):bR:=fun σ G Q=>te σ G fun x G1=>match x with
 | .int i=>Q (.int (-i)) G1
 | _=>False
end
theorem pd{L:List Str}{f:Str}{i:Nat}(h:L.findIdx? (· == f)=some i):vY L f i:=by
 rw[List.findIdx?_eq_some_iff_getElem]at h;obtain⟨hi,h1,h2⟩:=h;refine⟨?_,fun j hj e=>?_⟩
 ·rw[Ms hi]
  simpa using h1
 ·have hj':j < L.length:=Nat.lt_trans hj hi;have:=h2 j hj;rw[Ms hj']at e;simp only[Option.some.injEq]at e;rw[e]at this;simp at this
def BQ(N:List Str)(osc scope:Oo)(T M:List Str):Bool:=
 decide (scope.kind=.function) && scope.names.all (fun y=>decide (y.2≠.cell) && (decide (y.2≠.local) || (decide (scope.names.lookup y.1=some .local) && ((".0":Str)::T).contains y.1)) &&
  (decide (y.2≠.free) || (decide (osc.names.lookup y.1=some .cell) || decide (osc.names.lookup y.1=some .free)))) && (M.all fun x=>!((".0":Str)::T).contains x) && decide (M.length=N.length) &&
  ((M.zip N).all fun p=>decide (p.1=p.2) || scope.names.all fun y=>decide (y.1≠p.1))
theorem bJ{X:Cx}{scope:Oo}{T M:List Str}(hc:X.calm=true)(h:BQ X.N X.env.scope scope T M=true):CompOk X scope T M:=by
 unfold BQ at h;rw[Bool.and_eq_true,Bool.and_eq_true,Bool.and_eq_true]at h;obtain⟨⟨⟨h12,h3⟩,h4⟩,h5⟩:=h;have hlen:M.length=X.N.length:=of_decide_eq_true h4;simp only[Bool.and_eq_true,List.all_eq_true,Bool.or_eq_true,decide_eq_true_eq,Bool.not_eq_true',List.contains_eq_mem]at h12 h3 h5;obtain⟨h1,h2⟩:=h12;refine⟨hc,h1,fun y hy=>(h2 y hy).1.1,fun y hy hl=>?_,fun y hy hl=>?_,hlen,fun i x hx=>?_,fun x hx=>?_,fun y hy hf=>?_⟩
 ·rcases (h2 y hy).1.2 with z|z
  ·exact absurd hl z
  ·exact z.1
 ·rcases (h2 y hy).1.2 with z|z
  ·exact absurd hl z
  ·simpa using z.2
 ·have hi:i < M.length:=(List.getElem?_eq_some_iff.mp hx).1;have hi2:i < X.N.length:=by walk_at "o"
  have hm:(x,X.N[i])∈M.zip X.N:=by
   refine MC (i:=i) ?_;rw[List.getElem?_zip_eq_some];exact⟨hx,Ms hi2⟩
  rcases h5 _ hm with z|z
  ·left;rw[Ms hi2];exact congrArg some (show x=X.N[i]from z).symm
  ·exact .inr fun y hy=>z y hy
 ·simpa using h3 x hx
 ·rcases (h2 y hy).2 with z|z
  ·exact absurd hf z
  ·exact z
structure Fun3(K:PySem.W.Frag)(x qual:Str)(st:ML)(f:Mg)(fd:Mr):Prop where
 ex:∃ (oc:Mh) (od:Option Mg) (dV kV doc pm:Mh) (an:Option Mg) (cdv ct:Mh) (osl:Array (Option Mh)),
  fd=PySem.W.fnOf x qual (eX st) (dB st) (ak st) dV kV doc pm an cdv ct/\K.lookup f=some ⟨oc,od,.func fd,osl⟩/\PySem.W.codeIn K cdv qual=true
section
variable{P:Mw}{w:ME}{K:PySem.W.Frag}{mg:Str->Option Mh}{base:MG}
theorem Fun3.ok3{x qual:Str}{st:ML}{f:Mg}{fd:Mr}{N ps:List Str}{k:Nat}{sp:cR}(F:Fun3 K x qual st f fd)(S:FnScope N ps (ak st))(len:∀ ds G Q,sp ds G Q->ds.length=ps.length)
  (Td:∀ (cdv:Mh) (A:MA) (outer:List Env) (s:Mi) (H:Hp) (E:XK),Room k (A.deeper (OX qual (ak st) s.heap.objs.size f cdv))->
   ∃ t:cj,pE (zS cU P w K mg base N qual (ak st) f cdv A outer s H E).nox (dB st) (cm K t)/\∀ ds G Q,sp ds G Q->t { nx:=fun _ G'=>Q .non G',rt:=Q } (ie N ds) G):FnOk P w K mg base cU (k+1) f fd ps (ax K sp):=by
 obtain⟨oc,od,dV,kV,doc,pm,an,cdv,ct,osl,rfl,lk,hcd⟩:=F.ex;refine Hd lk hcd S (fun vs H Q E ⟨ds,G,Q3,rds,rg,h,kk⟩=>by rw[<- rds.length];exact len ds G Q3 h) fun A outer s H vs Q E hr hsp=>?_
 obtain⟨ds,G,Q3,rds,rg,h,kk⟩:=hsp;obtain⟨t,ht,hq⟩:=Td cdv A outer s H E hr;refine⟨cm K t,ht.nox,ie N ds,G,{ nx:=fun _ G'=>Q3 .non G',rt:=Q3 },yJ rds,rg,hq ds G Q3 h,⟨fun σ' G' τ' H' q k' rg' rs'=>kk _ G' _ H' q k' rg' (.of sW),kk,fun _ _ _ _ q=>q.elim,fun _ _ _ _ q=>q.elim⟩⟩
theorem mh{x qual:Str}{st:ML}{f:Mg}{oc:Mh}{od an:Option Mg}{osl:Array (Option Mh)}{dV kV doc pm cdv ct:Mh}(l:K.lookup f=some ⟨oc,od,.func (PySem.W.fnOf x qual (eX st) (dB st) (ak st) dV kV doc pm an cdv ct),osl⟩)
  (c:PySem.W.codeIn K cdv qual=true):Fun3 K x qual st f (PySem.W.fnOf x qual (eX st) (dB st) (ak st) dV kV doc pm an cdv ct):=⟨⟨oc,od,dV,kV,doc,pm,an,cdv,ct,osl,rfl,l,c⟩⟩
end
theorem ag{t u:cj}{D:Ends3}{σ:fH}{G:Gp}:sSeq t u D σ G=t { D with nx:=u D } σ G:=rfl
theorem Gx{ds:List D}{i:Int}(h:0<=i):cutD ds none (some i)=ds.take i.toNat:=by
 have:HT.sIx ds.length ds.length (some i)=min i.toNat ds.length:=by simp only[HT.sIx];rw[if_neg (by walk_at "o")]
 unfold cutD;rw[this];simp only[HT.sIx,List.drop_zero,Nat.sub_zero];rw[List.take_eq_take_iff];omega
theorem EM{ds:List D}{i j:Int}(h:0<=i)(h2:0<=j):cutD ds (some i) (some j)=(ds.drop i.toNat).take (j.toNat - i.toNat):=by
 have e1:HT.sIx ds.length 0 (some i)=min i.toNat ds.length:=by simp only[HT.sIx];rw[if_neg (by walk_at "o")]
 have e2:HT.sIx ds.length ds.length (some j)=min j.toNat ds.length:=by simp only[HT.sIx];rw[if_neg (by walk_at "o")]
 unfold cutD;rw[e1,e2]
 by_cases hi:i.toNat<=ds.length
 ·rw[Nat.min_eq_left hi,List.take_eq_take_iff,OM]
  by_cases hj:j.toNat<=ds.length
  ·rw[Nat.min_eq_left hj]
  ·have hj':=Nat.le_of_not_le hj;rw[Nat.min_eq_right hj',Nat.min_self,Nat.min_eq_right (Nat.sub_le_sub_right hj' _)]
 ·rw[Nat.min_eq_right (Nat.le_of_not_le hi),List.drop_length,List.drop_eq_nil_of_le (le_of_lt (Nat.lt_of_not_le hi))];simp
def S(cs:List Nat):Str:=⟨cs.toArray⟩
theorem lB(x:Str)(k:Nat):(uZ x k).length=k*x.length:=by
 simp[uZ,OZ]
theorem pr{ds:List D}{i:Int}(h0:0<=i)(h:i < ds.length):kN ds i=some (ds[i.toNat]'(by walk_at "o")):=by
 unfold kN Gi;rw[if_pos h0,if_pos h];simp[show i.toNat < ds.length by walk_at "o"]
theorem aj:1000000<=Mp:=by decide
theorem fh(lo:Int)(n:Nat):(gw lo n).length=n:=by simp[gw]
theorem nr{lo:Int}{n i:Nat}{d:D}(h:(gw lo n)[i]?=some d):i < n/\d=.int (lo+(i:Nat)):=by
 have hl:i < (gw lo n).length:=(List.getElem?_eq_some_iff.mp h).1;rw[fh]at hl;refine⟨hl,?_⟩;rw[gw,MH,List.getElem?_range hl]at h
 simpa using h.symm
def wL:cR:=fun vs _ Q=>match vs with
 | [.lst ds]=>∃ ns:List Int,ds=ns.map D.int/\ns.length<=63/\∀ G',Q (.bl true) G'
 | _=>False
theorem CD{K:PySem.W.Frag}{H:Hp}{a:Mg}{ns:List Int}(hl:ns.length<=63)(hO:GL H)(hS:jw K H a (ns.map V.int))(E:XK):ax K wL [.ref a] H (fun v _=>v=.bl true) E:=by
 have hF:Dc K H a (ns.map V.int):=by
  rcases hS with (h|⟨o,h⟩)|h
  ·rcases hO a with e|⟨o,xs,e⟩
   ·rw[h]at e;cases e
   ·rw[h]at e;cases e
  ·exact .inl ⟨o,h⟩
  ·exact .inr h
 refine⟨[.lst (ns.map D.int)],fun _=>none,fun d _=>d=.bl true,RDs.cons (p6 hF (RDs.ints ns)) RDs.nil,(fun b o q=>nomatch q),⟨ns,rfl,hl,fun _=>rfl⟩,fun d G' v H' q _ _ re=>?_⟩;subst q;exact re.bl
theorem walk3{l:PySem.W.OpenLaw}{q:Mw}{loose:List Str}{XP:(Str->Option Mh)->MG->Prop}{YP:ME->MG->Prop}{d:DefRec}{K:Params->PySem.W.Frag}{k:Nat}{x:Str}(hn:l.most=some 63)(hdf:d.params.defaults=[])(hr:Room k Pi)
  (hY:∀ (w:ME) (h:MG),YP w h->(K w.params).In h)
  (F:∀ (w:ME) (mg:Str->Option Mh) (fa:Mg) (h:MG),(K w.params).In h->h.Ns My mg->mg d.name=some (.ref fa)->
   ∃ fd:Mr,(∀ (s:Mi) (u:Mh),PH s fd ⟨[u],[]⟩ [(x,u)])/\∀ base:MG,(K w.params).In base->base.Ns My mg->FnOk l.prog w (K w.params) mg base cU k fa fd [x] (ax (K w.params) wL)):
  PySem.W.WalkO q loose XP YP l.row.toRowW d [] (fun f vs=>PySem.call f vs):=
 L2.walk_of (n:=63) (k:=k) (x:=x) (CX:=fun _=>cU) (sp:=fun w=>ax (K w.params) wL) hn (by decide) hdf hr hY F (fun _ _ _ _ hl hO hS=>CD hl hO hS _) fun _ _ _ _ _ z=>z
end L3
namespace L2
open PySem PySem.Spec PyProof.Rows
section
variable{X:Cx}
theorem PS.or{st:ML}{t t':TS}(h:PS X st t)(h':PS X st t'):PS X st (fun D σ H=>t D σ H\/t' D σ H):=fun pins s σ H D I q=>by
 rcases q with q|q
 ·exact h pins s σ H D I q
 ·exact h' pins s σ H D I q
end
end L2
namespace L3
open PySem PySem.Spec PyProof.Rows L2
def Lf(i:Nat)(t:cj):cj:=fun D σ G=>match σ[i]? with
 | some (some (.ref p))=>match G p with
  | some (.lst ds)=>t D (σ.set i (some (.lst ds))) (gC G p)
  | _=>False
 | some (some (.lst _))=>t D σ G
 | _=>False
def Lv(ta:nR):E7:=fun σ G Q=>ta σ G fun ds G'=>match ds with
 | [.lst es]=>Q es.reverse G'
 | _=>False
theorem KF{a:D}:kN [a] 0=some a:=rfl
theorem KE{a b:D}:kN [a,b] 0=some a:=rfl
theorem KD{a b:D}:kN [a,b] 1=some b:=rfl
theorem KC{a b c:D}:kN [a,b,c] 0=some a:=rfl
theorem KB{a b c:D}:kN [a,b,c] 1=some b:=rfl
theorem KA{a b c:D}:kN [a,b,c] 2=some c:=rfl
theorem Kz{a b c d:D}:kN [a,b,c,d] 0=some a:=rfl
theorem Ky{a b c d:D}:kN [a,b,c,d] 1=some b:=rfl
theorem Kx{a b c d:D}:kN [a,b,c,d] 2=some c:=rfl
theorem Kw{a b c d:D}:kN [a,b,c,d] 3=some d:=rfl
theorem Kv{a b c d e:D}:kN [a,b,c,d,e] 0=some a:=rfl
theorem Ku{a b c d e:D}:kN [a,b,c,d,e] 1=some b:=rfl
theorem Kt{a b c d e:D}:kN [a,b,c,d,e] 2=some c:=rfl
theorem Ks{a b c d e:D}:kN [a,b,c,d,e] 3=some d:=rfl
theorem Kr{a b c d e:D}:kN [a,b,c,d,e] 4=some e:=rfl
theorem cJ{c:pC}{t u:cj}{E:Ends3}{σ:fH}{G:Gp}(b:Bool)(hc:∀ K:Bool->Gp->Prop,K b G->c σ G K)(h:if b=true then t E σ G else u E σ G):mM c t u E σ G:=hc _ h
theorem Ao{t u:cj}{E:Ends3}{σ:fH}{G:Gp}{NX:fH->Gp->Prop}(h2:∀ σ' G',NX σ' G'->u E σ' G')(h1:∀ NX':fH->Gp->Prop,(∀ σ' G',NX σ' G'->NX' σ' G')->t { E with nx:=NX' } σ G):sSeq t u E σ G:=h1 (u E) h2
open PySem.SeqAt
def Lr(x:D)(ds:List D):Bool:=ds.any fun d=>dG d x
def Ir:R3:=fun x y G Q=>match Fc G y with
 | some ds=>(pl 7 x/\∀ d∈ds,pl 7 d)/\Q (.bl (!Lr x ds)) G
 | none=>False
section
variable{κ:Type}[DecidableEq κ]
def cB(kvs:List (κ×D))(k:κ):Option D:=(kvs.find? fun kv=>decide (kv.1=k)).map (·.2)
def bB(kvs:List (κ×D))(k:κ)(v:D):List (κ×D):=
 if (kvs.any fun kv=>decide (kv.1=k))=true then kvs.map (fun kv=>if kv.1=k then (kv.1,v)else kv)else kvs ++ [(k,v)]
theorem pz(k:κ):∀ kvs:List (κ×D),(kvs.any fun kv=>decide (kv.1=k))=(cB kvs k).isSome
 | []=>rfl
 | p::r=>by
  by_cases e:p.1=k
  ·simp[cB,MQ,e]
  ·have ih:=pz k r;simp only[Pe,e,decide_false,Bool.false_or,ih];simp[cB,MQ,e]
theorem fF(kvs:List (κ×D))(k:κ)(v:D):(bB kvs k v).length<=kvs.length+1:=by
 unfold bB;split<;>simp
theorem Cg(kvs:List (κ×D))(k:κ)(v:D):(bB kvs k v).map (·.1)=if k∈kvs.map (·.1)then kvs.map (·.1)else kvs.map (·.1) ++ [k]:=by
 unfold bB;have e:((kvs.any fun kv=>decide (kv.1=k))=true)↔k∈kvs.map (·.1):=by
  rw[List.any_eq_true,QY];constructor
  ·rintro⟨p,hp,q⟩;exact⟨p,hp,of_decide_eq_true q⟩
  ·rintro⟨p,hp,rfl⟩;exact⟨p,hp,decide_eq_true rfl⟩
 by_cases h:k∈kvs.map (·.1)
 ·rw[if_pos (e.mpr h),if_pos h,MY];refine NF fun p _=>?_;simp only[Function.comp_apply];split<;>rfl
 ·rw[if_neg (fun z=>h (e.mp z)),if_neg h];simp
theorem nw{kvs:List (κ×D)}(k:κ)(v:D)(h:(kvs.map (·.1)).Nodup):((bB kvs k v).map (·.1)).Nodup:=by
 rw[Cg];split
 ·exact h
 ·rename_i hk;rw[List.nodup_append];refine⟨h,by simp,fun a ha b hb=>?_⟩
  have:b=k:=by simpa using hb
  subst this;exact fun z=>hk (z ▸ ha)
end
def Gg:D->Option aJ
 | .int i=>some (.inl i)
 | .str x=>some (.inr x)
 | _=>none
def kD:aJ->D
 | .inl i=>.int i
 | .inr x=>.str x
def zw:List D->Option (List aJ)
 | []=>some []
 | d::r=>match Gg d,zw r with
  | some k,some ks=>some (k::ks)
  | _,_=>none
def pc:D->Option (List aJ)
 | .tup ds=>zw ds
 | _=>none
theorem IG(k:aJ):Gg (kD k)=some k:=by cases k<;>rfl
theorem BJ:∀ ks:List aJ,zw (ks.map kD)=some ks
 | []=>rfl
 | k::r=>by simp only[MF,zw,IG,BJ r]
section
variable{K:PySem.W.Frag}{H:Hp}
theorem A5{d:D}{k:aJ}{v:V}(h:Gg d=some k)(r:RD K H d v):v=kV k:=by
 cases d with
 | int i=>simp only[Gg,Option.some.injEq]at h;subst h;simp only[RD]at r;exact r
 | str i=>simp only[Gg,Option.some.injEq]at h;subst h;simp only[RD]at r;exact r
 | _=>simp[Gg]at h
theorem zt:∀ {ds:List D} {ks:List aJ} {vs:List V},zw ds=some ks->RDs K H ds vs->vs=ks.map kV
 | [],ks,vs,h,r=>by
  simp only[zw,Option.some.injEq]at h;subst h;exact r.inv_nil
 | d::t,ks,vs,h,r=>by
  obtain⟨x,u,e,h1,h2⟩:=r.inv_cons;subst e;simp only[zw]at h;split at h
  ·rename_i k kr e1 e2;simp only[Option.some.injEq]at h;subst h;rw[A5 e1 h1,zt e2 h2];rfl
  ·cases h
theorem rX{d:D}{ks:List aJ}{v:V}(h:pc d=some ks)(r:RD K H d v):∃ b,v=.ref b/\kt K H b (ks.map kV):=by
 cases d with
 | tup ds=>
  simp only[RD]at r;obtain⟨a,xs,e,q,rr⟩:=r;exact⟨a,e,by rw[<- zt h rr];exact q⟩
 | _=>simp[pc]at h
theorem pD.keys{kvs:List (List aJ×D)}{xs:List (List aJ×Mg×Mh)}(r:pD K H kvs xs):kvs.map (·.1)=xs.map (·.1):=by
 unfold pD at r
 induction r with
 | nil=>rfl
 | cons h _ ih=>rw[MF,MF,h.1,ih]
theorem pD.val{kvs:List (List aJ×D)}{xs:List (List aJ×Mg×Mh)}(r:pD K H kvs xs)(k:List aJ):
  (cB kvs k=none/\Ov xs k=none)\/∃ d b u v,cB kvs k=some d/\Ov xs k=some (b,u)/\RD K H d v/\aI v u:=by
 unfold pD at r
 induction r with
 | nil=>exact .inl ⟨rfl,rfl⟩
 | @cons p q ps qs h t ih=>
  obtain⟨h1,_,v,h2,h3⟩:=h
  by_cases e:p.1=k
  ·have e':q.1=k:=h1.symm.trans e;exact .inr ⟨p.2,q.2.1,q.2.2,v,by simp[cB,MQ,e],by simp[Ov,MQ,e'],h2,h3⟩
  ·have e':¬ q.1=k:=fun z=>e (h1.trans z);have a1:cB (p::ps) k=cB ps k:=by simp[cB,MQ,e]
   have a2:Ov (q::qs) k=Ov qs k:=by simp[Ov,MQ,e']
   rw[a1,a2];exact ih
theorem pD.put{kvs:List (List aJ×D)}{xs:List (List aJ×Mg×Mh)}(r:pD K H kvs xs)(k:List aJ){b:Mg}{d:D}{v:V}{u:Mh}(hb:kt K H b (k.map kV))(hd:RD K H d v)(hu:aI v u):pD K H (bB kvs k d) (Pg xs k b u):=by
 have e:(kvs.any fun kv=>decide (kv.1=k))=(Ov xs k).isSome:=by
  rw[pz];rcases r.val k with ⟨a,b⟩|⟨_,_,_,_,a,b,_⟩<;>rw[a,b]<;>rfl
 unfold bB Pg;rw[e]
 by_cases q:(Ov xs k).isSome=true
 ·rw[if_pos q,if_pos q];unfold pD at r ⊢;clear e q
  induction r with
  | nil=>exact .nil
  | @cons p q ps qs h t ih=>
   rw[MF,MF];refine .cons ?_ ih;obtain⟨h1,h2,v',h3,h4⟩:=h;unfold putAt
   by_cases e:p.1=k
   ·rw[if_pos e,if_pos (h1.symm.trans e)];exact⟨h1,h2,v,hd,hu⟩
   ·rw[if_neg e,if_neg (fun z=>e (h1.trans z))];exact⟨h1,h2,v',h3,h4⟩
 ·rw[if_neg q,if_neg q];exact PV r ⟨rfl,hb,v,hd,hu⟩
theorem Ab.val{kvs:List (aJ×D)}{xs:List (aJ×V)}(r:Ab K H kvs xs)(k:aJ):(cB kvs k=none/\ms xs k=none)\/∃ d v,cB kvs k=some d/\ms xs k=some v/\RD K H d v:=by
 unfold Ab at r
 induction r with
 | nil=>exact .inl ⟨rfl,rfl⟩
 | @cons p q ps qs h t ih=>
  obtain⟨h1,h2⟩:=h
  by_cases e:p.1=k
  ·have e':q.1=k:=h1.symm.trans e;exact .inr ⟨p.2,q.2,by simp[cB,MQ,e],nV e',h2⟩
  ·have e':¬ q.1=k:=fun z=>e (h1.trans z);have a1:cB (p::ps) k=cB ps k:=by simp[cB,MQ,e]
   rw[a1,nW e'];exact ih
theorem Ab.put{kvs:List (aJ×D)}{xs:List (aJ×V)}(r:Ab K H kvs xs)(k:aJ){d:D}{v:V}(hd:RD K H d v):Ab K H (bB kvs k d) (nv xs k v):=by
 have e:(kvs.any fun kv=>decide (kv.1=k))=(xs.any fun kv=>decide (kv.1=k)):=by
  rw[pz,se];rcases r.val k with ⟨a,b⟩|⟨_,_,a,b,_⟩<;>rw[a,b]<;>rfl
 unfold bB nv;rw[e]
 by_cases q:(xs.any fun kv=>decide (kv.1=k))=true
 ·rw[if_pos q,if_pos q];unfold Ab at r ⊢;clear e q
  induction r with
  | nil=>exact .nil
  | @cons p q ps qs h t ih=>
   rw[MF,MF];refine .cons ?_ ih;obtain⟨h1,h2⟩:=h
   by_cases e:p.1=k
   ·rw[if_pos e,if_pos (h1.symm.trans e)];exact⟨h1,hd⟩
   ·rw[if_neg e,if_neg (fun z=>e (h1.trans z))];exact⟨h1,h2⟩
 ·rw[if_neg q,if_neg q];exact PV r ⟨rfl,hd⟩
theorem Ab.length{kvs:List (aJ×D)}{xs:List (aJ×V)}(r:Ab K H kvs xs):kvs.length=xs.length:=N7 r
theorem pD.length{kvs:List (List aJ×D)}{xs:List (List aJ×Mg×Mh)}(r:pD K H kvs xs):kvs.length=xs.length:=N7 r
end
def ai(P:Mw)(w:ME):List aJ->Int:=tupleKeyHash (bv P w)
section
variable{X:Cx}{pins:List (Mg×Obj)}{σ:St}{H:Hp}{s:Mi}{a:Mg}
theorem key_at(I:Inv X pins σ H s){b:Mg}{ks:List aJ}(h:kt X.K H b (ks.map kV)):(Np (bv X.prog X.w)).is s.heap ks b:=by
 obtain⟨its,r,⟨o,h1,h2,n,h3⟩,_⟩:=I.tuple h;exact⟨o,its.toArray,n,h1,h2,h3,by simpa using qx r⟩
theorem yf(I:Inv X pins σ H s){kvs:List (List aJ×D)}{xs:List (List aJ×Mg×Mh)}(e:H a=some (.ext (yw (ai X.prog X.w) a xs)))(r:pD X.K H kvs xs)(nd:(kvs.map (·.1)).Nodup):
  (a == M9)=false/\s.heap.DictOfH (Np (bv X.prog X.w)) a xs:=by
 obtain⟨hd,o,es,ep,h1,h2,h3,h4⟩:=(show cg X.prog X.w H s.heap a (.ext (yw (ai X.prog X.w) a xs))from I.hok a _ e).1
 refine⟨hd,o,es,ep,h1,h2,h3,h4,?_,by rw[<- r.keys];exact nd⟩
 unfold pD at r;clear h4 e nd
 induction r with
 | nil=>intro x hx;exact nomatch hx
 | @cons p q ps qs hq t ih=>
  intro x hx;rcases MV.mp hx with e|hx
  ·subst e;exact key_at I (by rw[<- hq.1];exact hq.2.1)
  ·exact ih x hx
theorem qF{P:Mw}{w:ME}{H':Hp}{h:MG}{hw:List aJ->Int}{xs:List (List aJ×Mg×Mh)}(h1:yw hw a xs h):cg P w H' h a (.ext (yw hw a xs)):=by
 obtain⟨hd,o,es,ep,e,r⟩:=h1;exact⟨⟨hd,o,es,ep,e,r⟩,⟨o,e⟩,fun h1 h2 ⟨hd,o,es,ep,e,r⟩ k=>⟨hd,o,es,ep,k o e,r⟩⟩
end
section
variable{K:PySem.W.Frag}{H:Hp}{G:Gp}
theorem Gm{p:Mg}{o:GO}{ho:HO}(rg:RG K H G)(e:H p=none)(ro:∀ H':Hp,Stb K H H'->RO K H' p o ho):Kp G H (gset G p o) (bE H p ho)/\RG K (bE H p ho) (gset G p o):=by
 have kp:Kp G H (gset G p o) (bE H p ho):=fun b h q n=>by
  have:b≠p:=b7 q e;exact⟨by rw[aA this];exact q,by rw[ao this];exact n⟩
 refine⟨kp,fun b u q=>?_⟩
 by_cases hb:b=p
 ·subst hb;rw[az]at q;cases q;exact⟨_,aZ,ro _ (kp.stb rg)⟩
 ·rw[ao hb]at q;obtain⟨h,q1,q2⟩:=rg b u q;exact⟨h,by rw[aA hb];exact q1,q2.mono (kp.stb rg)⟩
theorem xY{a:Mg}{o:GO}{ho:HO}(rg:RG K H G)(hg:G a≠none)(ro:∀ H':Hp,Stb K H H'->RO K H' a o ho):Kp G H (gset G a o) (bE H a ho)/\RG K (bE H a ho) (gset G a o):=by
 have kp:Kp G H (gset G a o) (bE H a ho):=fun b h e n=>by
  have:b≠a:=fun z=>by subst z;exact hg n
  exact⟨by rw[aA this];exact e,by rw[ao this];exact n⟩
 refine⟨kp,fun b u q=>?_⟩
 by_cases hb:b=a
 ·subst hb;rw[az]at q;cases q;exact⟨_,aZ,ro _ (kp.stb rg)⟩
 ·rw[ao hb]at q;obtain⟨h,q1,q2⟩:=rg b u q;exact⟨h,by rw[aA hb];exact q1,q2.mono (kp.stb rg)⟩
end
def qU(hw:List aJ->Int):bR:=fun _ G Q=>∀ p,G p=none->Q (.ref p) (gset G p (.dT hw []))
def EJ:bR:=fun _ G Q=>∀ p,G p=none->Q (.ref p) (gset G p (.dK []))
section
variable{X:Cx}{pos:Pos}
theorem p8:PE X (.Dict [] [] pos) (aE X.K (qU (ai X.prog X.w))):=fun pins s τ H Q I zz=>by
 obtain⟨σ,G,Q3,rs,rg,h,k⟩:=zz;have hf:H s.heap.objs.size=none:=I.hok.fresh (le_refl _);obtain⟨kp,rg2⟩:=Gm (o:=.dT (ai X.prog X.w) []) (ho:=.ext (yw (ai X.prog X.w) s.heap.objs.size [])) rg hf fun H' _=>⟨[],rfl,.nil,PL,M6 _⟩;have hd:(s.heap.objs.size == M9)=false:=beq_eq_false_iff_ne.mpr (Ne.symm (MO I.big));exact wpAny_Dict_empty ⟨.ref s.heap.objs.size,_,I.laid (a:=s.heap.objs.size) (t':=s.toks) (fun _ _ q=>Mn _ q) (le_refl _) (qF ⟨hd,_,#[],0,Mq _ rfl,⟨rfl,rfl,rfl⟩,rfl,rfl⟩),rfl,
  k _ _ _ _ (h _ (rg.free hf)) kp rg2 (.of iu)⟩
theorem Ia:PE X (.Dict [] [] pos) (aE X.K EJ):=Ea.imp fun τ H Q ⟨σ,G,Q3,rs,rg,h,k⟩ p hp=>by
 obtain⟨kp,rg2⟩:=Gm (o:=.dK []) (ho:=.dK []) rg hp fun H' _=>(show Ab X.K H' [] []from .nil)
 exact k _ _ _ _ (h _ (rg.free hp)) kp rg2 (.of iu)
end
def lJ(hw:List aJ->Int):D->D->D->Gp->(Gp->Prop)->Prop:=fun o i v G Q=>match o with
 | .ref a=>match G a with
  | some (.dT hw' kvs)=>hw'=hw/\∃ ks,pc i=some ks/\kvs.length < Mp/\Q (gset G a (.dT hw (bB kvs ks v)))
  | some (.dK kvs)=>∃ k,Gg i=some k/\kvs.length < Mp/\Q (gset G a (.dK (bB kvs k v)))
  | some (.lst ds)=>match i with
   | .int j=>∃ m,Gi ds.length j=some m/\Q (gset G a (.lst (ds.set m v)))
   | _=>False
  | _=>False
 | _=>False
def Gb(K:PySem.W.Frag)(r:D->D->D->Gp->(Gp->Prop)->Prop):GI:=fun o i v H Q=>∃ x y z G Q3,RD K H x o/\RD K H y i/\RD K H z v/\RG K H G/\r x y z G Q3/\∀ G' H',Q3 G'->Kp G H G' H'->RG K H' G'->Q H'
def e9(hw:List aJ->Int)(to ti te:bR):cj:=fun E σ G=>te σ G fun v G1=>to σ G1 fun o G2=>ti σ G2 fun i G3=>lJ hw (val o) (val i) (val v) G3 fun G4=>E.nx σ G4
section
variable{X:Cx}
theorem Hk(hu:X.A.units+8 < M5):Jl X (Gb X.K (lJ (ai X.prog X.w))):=by
 rintro pins s σ H o i v ov iv u Q I ro ri rv ⟨x,y,z,G,Q3,rx,ry,rz,rg,h,k⟩
 unfold lJ at h;split at h
 ·rename_i a;simp only[RD]at rx;subst rx;cases ro;split at h
  ·rename_i hw' kvs hg;obtain⟨rfl,ks,hk,hl,h⟩:=h;obtain⟨b,rfl,sq⟩:=rX hk ry;cases ri;obtain⟨ho,e,r⟩:=rg a _ hg;cases ho with
   | ext φ=>
    obtain⟨xs,rfl,rt,nd,_⟩:=r;obtain⟨hd,dd⟩:=yf I e rt nd;have hz:xs.length<=Mp:=by rw[<- rt.length];omega
    refine QH (hsz:=hz) (M8 (show X.A.units+1 < M5 by walk_at "o")) (key_at I sq) dd fun h' dd' hs=>?_
    obtain⟨q,es,ep,hq,h2,h3,h4,_,h5⟩:=dd';obtain⟨kp,rg2⟩:=xY (a:=a) (o:=.dT (ai X.prog X.w) (bB kvs ks z)) (ho:=.ext (yw (ai X.prog X.w) a (Pg xs ks b u))) rg (by rw[hg];exact fun z=>nomatch z)
     fun H' st=>⟨_,rfl,(rt.put ks sq rz rv).mono st,nw ks z nd,by have:=fF kvs ks z;omega⟩
    exact⟨_,r8 I (by rw[e];exact True.intro) hs ⟨q,hq⟩ (qF ⟨hd,q,es,ep,hq,h2,h3,h4⟩),k _ _ h kp rg2⟩
   | _=>exact r.elim
  ·rename_i kvs hg;obtain⟨kk,hk,hl,h⟩:=h;have ei:=A5 hk ry;subst ei;obtain⟨ho,e,r⟩:=rg a _ hg;cases ho with
   | dK xs=>
    have r':Ab X.K H kvs xs:=r;obtain⟨kp,rg2⟩:=xY (a:=a) (o:=.dK (bB kvs kk z)) (ho:=.dK (nv xs kk v)) rg (by rw[hg];exact fun z=>nomatch z) fun H' st=>(r'.put kk rz).mono st
    exact CU (by walk_at "o") I (C8.k e (by rw[<- r'.length];exact hl)) ri rv fun s' I'=>⟨_,I',k _ _ h kp rg2⟩
   | _=>exact r.elim
  ·rename_i ds hg;split at h
   ·rename_i j;obtain⟨m,hm,h⟩:=h;simp only[RD]at ry;subst ry;obtain⟨ho,e,r⟩:=rg a _ hg;cases ho with
    | lst xs=>
     have r':RDs X.K H ds xs:=r;obtain⟨kp,rg2⟩:=xY (a:=a) (o:=.lst (ds.set m z)) (ho:=.lst (xs.set m v)) rg (by rw[hg];exact fun z=>nomatch z) fun H' st=>RDs.mono st _ _ (r'.set m rz)
     exact Dx pins s σ H (.ref a) _ _ _ _ _ _ I rfl ri rv ⟨a,xs,j,m,rfl,rfl,e,by rw[<- r'.length];exact hm,k _ _ h kp rg2⟩
    | _=>exact r.elim
   ·exact h.elim
  ·exact h.elim
 ·exact h.elim
theorem iw{o i e:MJ}{to ti te:bR}{pos pos':Pos}(hu:X.A.units+8 < M5)(ho:PE X o (aE X.K to))(hi:PE X i (aE X.K ti))(he:PE X e (aE X.K te))
  (hs:swapsWithSole [.Subscript o i pos'] e pos.line X.env=pure false:=by rfl) (hw:swappedStores [.Subscript o i pos'] e X.env=pure none:=by rfl) (h1:(NN [.Subscript o i pos'] X.env).map (·.2)=[assign (.Subscript o i pos') X.env]:=by rfl)
  (ha:∀ v,assign (.Subscript o i pos') X.env v=(do
   let ov <- holding [v] (eval o X.env)
   let iv <- holding [v,ov] (eval i X.env)
   Oz pos'
   holding [v,ov,iv] (QX ov iv v)
   release [v,ov,iv] []):=by intro _;rfl):PS X (.Assign [.Subscript o i pos'] e pos) (cm X.K (e9 (ai X.prog X.w) to ti te)):=
 (HL (dP he) (HP (dP ho) (dP hi) (Hk hu) ha) hs hw h1).imp fun E τ H zz=>by
 obtain⟨σ,G,E3,rs,rg,h,k⟩:=zz;exact (
  ⟨σ,G,_,rs,rg,h,fun v G1 u H1 q1 k1 rg1 rd1=>
    ⟨σ,G1,_,rs.mono (k1.stb rg),rg1,q1,fun o G2 u2 H2 q2 k2 rg2 rd2=>⟨σ,G2,_,rs.mono ((k1.trans k2).stb rg),rg2,q2,fun i G3 u3 H3 q3 k3 rg3 rd3=>
     ⟨val o,val i,val v,G3,_,RD.mono (k3.stb rg2) _ _ rd2,rd3,RD.mono ((k2.trans k3).stb rg1) _ _ rd1,rg3,q3,fun G4 H4 q4 k4 rg4=>k.nx σ G4 τ H4 q4 (k1.trans (k2.trans (k3.trans k4))) rg4 (rs.mono ((k1.trans (k2.trans (k3.trans k4))).stb rg))⟩⟩⟩⟩)
end
def cT(hw:List aJ->Int)(G:Gp)(o i:D)(r:Option D):Prop:=match o with
 | .ref a=>match G a with
  | some (.dT hw' kvs)=>hw'=hw/\∃ ks,pc i=some ks/\r=cB kvs ks
  | some (.dK kvs)=>∃ k,Gg i=some k/\r=cB kvs k
  | _=>False
 | _=>False
def ko(G:Gp)(o:D):Prop:=match o with
 | .ref a=>match G a with
  | some (.dT _ _)=>True
  | some (.dK _)=>True
  | _=>False
 | _=>False
section
variable{X:Cx}{pins:List (Mg×Obj)}{σ:St}{H:Hp}{s:Mi}{G:Gp}{A:MA}{E:Mh->Mi->Prop}{x y d z:D}{o i zv:V}{ov iv zu:Mh}{r:Option D}
theorem cT.split(h:cT (ai X.prog X.w) G x y r)(I:Inv X pins σ H s)(rg:RG X.K H G)(rx:RD X.K H x o)(ro:aI o ov)(ry:RD X.K H y i)(ri:aI i iv):
  ∃ a,ov=.ref a/\((∃ hs k,H a=some (.dK hs)/\i=kV k/\((r=none/\ms hs k=none)\/∃ d v,r=some d/\ms hs k=some v/\RD X.K H d v))\/
   ∃ xs ks b,(a == M9)=false/\s.heap.DictOfH (Np (bv X.prog X.w)) a xs/\iv=.ref b/\(Np (bv X.prog X.w)).is s.heap ks b/\
    ((r=none/\Ov xs ks=none)\/∃ d b' u v,r=some d/\Ov xs ks=some (b',u)/\RD X.K H d v/\aI v u)):=by
 unfold cT at h;split at h
 ·rename_i a;simp only[RD]at rx;subst rx;cases ro;refine⟨a,rfl,?_⟩;split at h
  ·rename_i hw' kvs hg;obtain⟨rfl,ks,hk,rfl⟩:=h;obtain⟨b,rfl,sq⟩:=rX hk ry;cases ri;obtain⟨ho,e,q⟩:=rg a _ hg;cases ho with
   | ext φ=>
    obtain⟨xs,rfl,rt,nd,_⟩:=q;obtain⟨hd,dd⟩:=yf I e rt nd;exact .inr ⟨xs,ks,b,hd,dd,rfl,key_at I sq,rt.val ks⟩
   | _=>exact q.elim
  ·rename_i kvs hg;obtain⟨k,hk,rfl⟩:=h;obtain⟨ho,e,q⟩:=rg a _ hg;cases ho with
   | dK hs=>
    have q':Ab X.K H kvs hs:=q;exact .inl ⟨hs,k,e,A5 hk ry,q'.val k⟩
   | _=>exact q.elim
  ·exact h.elim
 ·exact h.elim
theorem ko.at(h:ko G x)(I:Inv X pins σ H s)(rg:RG X.K H G)(rx:RD X.K H x o)(ro:aI o ov):
  s.TypeIs ov "dict"/\(∀ b,ov=.ref b->∃ ob,s.heap.get? b=some ob/\ob.dict=none):=by
 unfold ko at h;split at h
 ·rename_i a;simp only[RD]at rx;subst rx;cases ro;split at h
  ·rename_i hw' kvs hg;obtain⟨ho,e,q⟩:=rg a _ hg;cases ho with
   | ext φ=>
    obtain⟨xs,rfl,rt,nd,_⟩:=q;obtain⟨hd,ob,es,ep,h1,h2,h3,h4⟩:=(show cg X.prog X.w H s.heap a (.ext (yw hw' a xs))from I.hok a _ e).1
    refine⟨⟨ob,h1,h2.1⟩,fun b hb=>?_⟩;cases hb;exact⟨ob,h1,h2.2.1⟩
   | _=>exact q.elim
  ·rename_i kvs hg;obtain⟨ho,e,q⟩:=rg a _ hg;cases ho with
   | dK hs=>
    obtain⟨t1,t2,_⟩:=IL I (.inl ⟨hs,.inl e⟩);exact⟨t1,t2⟩
   | _=>exact q.elim
  ·exact h.elim
 ·exact h.elim
theorem cT.dct{hw:List aJ->Int}(h:cT hw G x y r):ko G x:=by
 unfold cT at h;unfold ko;split at h
 ·split at h
  ·rename_i e;simp only[e]
  ·rename_i e;simp only[e]
  ·exact h.elim
 ·exact h.elim
theorem Gv{Q:Mh->Mi->Prop}(hu:A.units+1 < M5)(I:Inv X pins σ H s)(rg:RG X.K H G)(h:cT (ai X.prog X.w) G x y (some d))(rx:RD X.K H x o)(ro:aI o ov)(ry:RD X.K H y i)(ri:aI i iv)
  (q:∀ v u s',Inv X pins σ H s'->RD X.K H d v->aI v u->Q u s'):Mo (Mt X.prog X.w) A (OV ov iv) Q E s:=by
 obtain⟨a,rfl,⟨hs,k,e,rfl,r⟩|⟨xs,ks,b,hd,dd,rfl,hk,r⟩⟩:=h.split I rg rx ro ry ri
 ·rcases r with ⟨z,_⟩|⟨d',v,e1,e2,rd⟩
  ·cases z
  ·cases e1;exact CV hu I (.inl ⟨hs,k,.inl e,rfl,e2.symm⟩) ri fun u s' I' rv=>q v u s' I' rd rv
 ·rcases r with ⟨z,_⟩|⟨d',b',u,v,e1,e2,rd,rv⟩
  ·cases z
  ·cases e1;exact QI (M8 hu) hk dd e2 (q v u _ (I.tok _) rd rv)
theorem Hf{Q:Mh->Mi->Prop}(hu:A.units+1 < M5)(I:Inv X pins σ H s)(rg:RG X.K H G)(h:cT (ai X.prog X.w) G x y r)(rx:RD X.K H x o)(ro:aI o ov)(ry:RD X.K H y i)(ri:aI i iv)
  (q:∀ s',Inv X pins σ H s'->Q (.bool r.isSome) s'):Mo (Mt X.prog X.w) A (MT .In iv ov) Q E s:=by
 obtain⟨a,rfl,⟨hs,k,e,rfl,l⟩|⟨xs,ks,b,hd,dd,rfl,hk,l⟩⟩:=h.split I rg rx ro ry ri
 ·refine LC hu I (uE.k e) ri fun s' I'=>?_;rcases l with ⟨rfl,e2⟩|⟨d,v,rfl,e2,_⟩<;>rw[e2]<;>exact q s' I'
 ·refine wpAny_in_heap (M8 hu) hk hd dd ?_;rcases l with ⟨rfl,e2⟩|⟨d,b',u,v,rfl,e2,_⟩<;>rw[e2]<;>exact q _ (I.tok _)
theorem EL{Q:Mh->Mi->Prop}(hu:A.units+1 < M5)(I:Inv X pins σ H s)(rg:RG X.K H G)(h:cT (ai X.prog X.w) G x y r)(rx:RD X.K H x o)(ro:aI o ov)(ry:RD X.K H y i)(ri:aI i iv)
  (q:∀ s',Inv X pins σ H s'->Q (.bool (!r.isSome)) s'):Mo (Mt X.prog X.w) A (MT .NotIn iv ov) Q E s:=by
 obtain⟨a,rfl,⟨hs,k,e,rfl,l⟩|⟨xs,ks,b,hd,dd,rfl,hk,l⟩⟩:=h.split I rg rx ro ry ri
 ·refine Gu hu I (uE.k e) ri fun s' I'=>?_;rcases l with ⟨rfl,e2⟩|⟨d,v,rfl,e2,_⟩<;>rw[e2]<;>exact q s' I'
 ·refine wpAny_notIn_heap (M8 hu) hk hd dd ?_;rcases l with ⟨rfl,e2⟩|⟨d,b',u,v,rfl,e2,_⟩<;>rw[e2]<;>exact q _ (I.tok _)
theorem Gw{Q:Mh->Mi->Prop}(hu:A.units+1 < M5)(I:Inv X pins σ H s)(rg:RG X.K H G)(h:cT (ai X.prog X.w) G x y r)(rx:RD X.K H x o)(ro:aI o ov)(ry:RD X.K H y i)(ri:aI i iv)(rz:RD X.K H z zv)(rzu:aI zv zu)
  (q:∀ v u s',Inv X pins σ H s'->RD X.K H (r.getD z) v->aI v u->Q u s'):Mo (Mt X.prog X.w) A (call (.builtin "dict.get") [ov,iv,zu]) Q E s:=by
 obtain⟨a,rfl,⟨hs,k,e,rfl,l⟩|⟨xs,ks,b,hd,dd,rfl,hk,l⟩⟩:=h.split I rg rx ro ry ri
 ·refine IV hu I (uE.k e) ri rzu fun u s' I' rv=>?_;rcases l with ⟨rfl,e2⟩|⟨d,v,rfl,e2,rd⟩<;>rw[e2]at rv
  ·exact q _ u s' I' rz rv
  ·exact q _ u s' I' rd rv
 ·refine Pz PySem.F.slot_dict_get dd.typeIs PySem.F.entry_dict_get (PySem.F.args_dict_get_3 _ _ _) (Qb (Np (bv X.prog X.w)) a b hd zu) ⟨M8 hu,ks,xs,hk,dd,?_⟩;rcases l with ⟨rfl,e2⟩|⟨d,b',u,v,rfl,e2,rd,rv⟩<;>rw[e2]
  ·exact q zv _ _ (I.tok _) rz rzu
  ·exact q v _ _ (I.tok _) rd rv
end
def vU(hw:List aJ->Int)(to ti:bR):bR:=fun σ G Q=>to σ G fun x G1=>ti σ G1 fun y G2=>∃ d,cT hw G2 (val x) (val y) (some d)/\Q d G2
def ye(hw:List aJ->Int)(ti to:bR):bR:=fun σ G Q=>ti σ G fun y G1=>to σ G1 fun x G2=>∃ r,cT hw G2 (val x) (val y) r/\Q (.bl r.isSome) G2
def mj(hw:List aJ->Int)(ti to:bR):bR:=fun σ G Q=>ti σ G fun y G1=>to σ G1 fun x G2=>∃ r,cT hw G2 (val x) (val y) r/\Q (.bl (!r.isSome)) G2
def qD(hw:List aJ->Int)(to ti tz:bR):bR:=fun σ G Q=>to σ G fun x G1=>ko G1 (val x)/\ti σ G1 fun y G2=>tz σ G2 fun z G3=>∃ r,cT hw G3 (val x) (val y) r/\Q (r.getD (val z)) G3
section
variable{X:Cx}{o i e f:MJ}{to ti tz:bR}{pos apos cpos:Pos}
theorem eA{t:bR}{e:MJ}(h:PE X e (aE X.K t)){pins:List (Mg×Obj)}{s:Mi}{τ:St}{H:Hp}{σ:fH}{G:Gp}{Q3:mT}(I:Inv X pins τ H s)(rs:RS X.K H σ τ)(rg:RG X.K H G)(ht:t σ G Q3):
  Mo (Mt X.prog X.w) X.A (eval e X.env) (EP X pins τ fun v H1=>∃ d G1,Q3 d G1/\Kp G H G1 H1/\RG X.K H1 G1/\RD X.K H1 (val d) v) X.xe s:=
 dP h pins s τ H _ I ⟨σ,G,Q3,rs,rg,ht,fun d G' v H' q k rg' rd=>⟨d,G',q,k,rg',rd⟩⟩
theorem qL(hu:X.A.units+8 < M5)(ho:PE X o (aE X.K to))(hi:PE X i (aE X.K ti))(hs:KJ i:=by exact fun _ _=>rfl):PE X (.Subscript o i pos) (aE X.K (vU (ai X.prog X.w) to ti)):=by
 rintro pins s τ H Q I ⟨σ,G,Q3,rs,rg,h,k⟩
 refine Fn PySem.F.slot_dict_getitem.lookup hs (cI (eA ho I rs rg h) fun ov s1 zz=>?_);obtain⟨ox,H1,I1,rox,x,G1,q1,k1,rg1,rd1⟩:=zz;refine cI (eA hi I1 (rs.mono (k1.stb rg)) rg1 q1) fun iv s2 zz=>?_;obtain⟨iy,H2,I2,riy,y,G2,q2,k2,rg2,rd2⟩:=zz;obtain⟨d,l,q2⟩:=q2;have rx:=RD.mono (k2.stb rg1) _ _ rd1;exact⟨(l.dct.at I2 rg2 rx rox).1,Gv (by walk_at "o") I2 rg2 l rx rox rd2 riy fun v u s3 I3 rd rv=>⟨v,H2,I3,rv,k _ G2 _ H2 q2 (k1.trans k2) rg2 (.of rd)⟩⟩
theorem J2(hu:X.A.units+8 < M5)(hi:PE X i (aE X.K ti))(ho:PE X o (aE X.K to))(hm:Nf .In o=false:=by rfl):PE X (.Compare i [.In] [o] pos) (aE X.K (ye (ai X.prog X.w) ti to)):=by
 refine HY (op:=.In) (fun pins s τ H Q I zz=>?_) hm;obtain⟨σ,G,Q3,rs,rg,h,k⟩:=zz;refine cI (eA hi I rs rg h) fun iv s1 zz=>?_;obtain⟨iy,H1,I1,riy,y,G1,q1,k1,rg1,rd1⟩:=zz;refine cI (eA ho I1 (rs.mono (k1.stb rg)) rg1 q1) fun ov s2 zz=>?_;obtain⟨ox,H2,I2,rox,x,G2,q2,k2,rg2,rd2⟩:=zz;obtain⟨r,l,q2⟩:=q2;exact Hf (by walk_at "o") I2 rg2 l rd2 rox (RD.mono (k2.stb rg1) _ _ rd1) riy fun s3 I3=>⟨.bl r.isSome,H2,I3,rfl,k _ G2 _ H2 q2 (k1.trans k2) rg2 (.of hV)⟩
theorem xj(hu:X.A.units+8 < M5)(ho:PE X o (aE X.K to))(he:PE X e (aE X.K ti))(hf:PE X f (aE X.K tz))(m:M2 X o "get" apos e f cpos:=by exact⟨rfl,rfl,rfl,rfl⟩):PE X (.Call (.Attribute o "get" apos) [e,f] [] cpos) (aE X.K (qD (ai X.prog X.w) to ti tz)):=by
 rintro pins s τ H Q I ⟨σ,G,Q3,rs,rg,h,k⟩
 refine wpAny_Call_method m.base m.few m.line PySem.F.plainAttrs_dict PySem.F.slot_dict_get PySem.F.type_dict_get (cI (eA ho I rs rg h) fun ov s1 zz=>?_);obtain⟨ox,H1,I1,rox,x,G1,q1,k1,rg1,rd1⟩:=zz;obtain⟨t1,t2⟩:=q1.1.at I1 rg1 rd1 rox;refine⟨t1,t2,?_⟩;rw[m.trees];refine O1 rfl (QD (NO (cI (eA he I1 (rs.mono (k1.stb rg)) rg1 q1.2) fun iv s2 ⟨iy,H2,I2,riy,y,G2,q2,k2,rg2,rd2⟩=>NO (cI (eA hf I2 (rs.mono ((k1.trans k2).stb rg)) rg2 q2) fun fv s3 zz=>?_))));obtain⟨fz,H3,I3,rfz,z,G3,q3,k3,rg3,rd3⟩:=zz;refine On ?_;obtain⟨r,l,q3⟩:=q3;exact Gw (by walk_at "o") I3 rg3 l (RD.mono ((k2.trans k3).stb rg1) _ _ rd1) rox (RD.mono (k3.stb rg2) _ _ rd2) riy rd3 rfz fun v u s4 I4 rd rv=>⟨v,H3,I4,rv,k _ G3 _ H3 q3 (k1.trans (k2.trans k3)) rg3 (.of rd)⟩
end
end L3
namespace PySem.W
open PySem PyProof.Rows
def KasT.run{α:Type}(lt:Nat->Nat->Bool):QU α->α
 | .ret a=>a
 | .ask i j k=>(k (lt i j)).run lt
theorem KasT.run_bind{α β:Type}(lt:Nat->Nat->Bool)(f:α->QU β):∀ t:QU α,(t.bind f).run lt=(f (t.run lt)).run lt
 | .ret _=>rfl
 | .ask i j k=>by
  show ((k (lt i j)).bind f).run lt=_
  rw[KasT.run_bind lt f (k (lt i j))];rfl
section
variable(r:Nat->Nat)
def mJ(i j:Nat):Bool:=decide (r i < r j)
def RR(p:Array Nat)(i:Nat):Nat:=r (p.getD i 0)
def mU(p:Array Nat)(n:Nat):Prop:=∀ i,i+1 < n->RR r p i<=RR r p (i+1)
def uD(p:Array Nat)(n:Nat):Prop:=∀ i,i+1 < n->RR r p (i+1)<=RR r p i
end
section
variable{r:Nat->Nat}{p:Array Nat}
theorem mU.le{n:Nat}(h:mU r p n){i j:Nat}(hij:i<=j)(hj:j < n):RR r p i<=RR r p j:=by
 induction j with
 | zero=>
      have:i=0:=by walk_at "o"
      subst this;exact le_refl _
 | succ j ih=>
  rcases N6 i (j+1)with h1|h1
  ·exact le_trans (ih (by walk_at "o") (by walk_at "o")) (h j hj)
  ·have:i=j+1:=by walk_at "o"
   subst this;exact le_refl _
theorem uD.le{n:Nat}(h:uD r p n){i j:Nat}(hij:i<=j)(hj:j < n):RR r p j<=RR r p i:=by
 induction j with
 | zero=>
      have:i=0:=by walk_at "o"
      subst this;exact le_refl _
 | succ j ih=>
  rcases N6 i (j+1)with h1|h1
  ·exact le_trans (h j hj) (ih (by walk_at "o") (by walk_at "o"))
  ·have:i=j+1:=by walk_at "o"
   subst this;exact le_refl _
theorem Aa{p q:Array Nat}{i j:Nat}(h:p[i]?=q[j]?):RR r p i=RR r q j:=by
 unfold RR;rw[Array.getD_eq_getD_getElem?,Array.getD_eq_getD_getElem?,h]
theorem yr{i j:Nat}(hj:j<=p.size)(k:Nat):RR r (NU p i j) k=if i<=k/\k < j then RR r p (i+j - 1 - k)else RR r p k:=by
 have e:=getElem?_mirror_all (xs:=p) (i:=i) hj k;unfold NU;split
 ·rename_i h;rw[if_pos h]at e;exact Aa e
 ·rename_i h;rw[if_neg h]at e;exact Aa e
theorem i0(i j:Nat):(NU p i j).size=p.size:=mirror_size _ _ _ _
theorem qI{i j:Nat}(hj:j<=p.size)(he:∀ k,i<=k->k < j->RR r p k=RR r p (j - 1))(k:Nat):RR r (NU p i j) k=RR r p k:=by
 rw[yr hj];split
 ·rename_i h;rw[he _ (by walk_at "o") (by walk_at "o"),he k h.1 h.2]
 ·rfl
theorem uv{i j:Nat}:mJ r i j=true↔r i < r j:=by unfold mJ;exact decide_eq_true_iff
theorem jF{i j:Nat}:mJ r i j=false↔r j<=r i:=by unfold mJ;rw[decide_eq_false_iff_not];omega
theorem Bi:∀ (f n:Nat),1<=n->∃ m,(kas_asc p f n).run (mJ r)=m/\n<=m/\m<=n+f/\(∀ i,n<=i->i < m->RR r p (i - 1)<=RR r p i)/\(m < n+f->RR r p m < RR r p (m - 1))
 | 0,n,_=>⟨n,rfl,le_refl _,le_refl _,fun i h1 h2=>absurd h1 (by walk_at "o"),fun h=>absurd h (by walk_at "o")⟩
 | f+1,n,hn=>by
  show ∃ m,((fun c=>if c=true then KasT.ret n else kas_asc p f (n+1)) (mJ r (p.getD n 0) (p.getD (n - 1) 0))).run (mJ r)=m/\_
  cases e:mJ r (p.getD n 0) (p.getD (n - 1) 0) with
  | true=>exact⟨n,rfl,le_refl _,by walk_at "o",fun i h1 h2=>absurd h1 (by walk_at "o"),fun _=>uv.mp e⟩
  | false=>
   obtain⟨m,e1,h1,h2,h3,h4⟩:=Bi f (n+1) (by walk_at "o")
   refine⟨m,e1,by walk_at "o",by walk_at "o",fun i h5 h6=>?_,fun h=>h4 (by walk_at "o")⟩
   rcases N6 n i with h7|h7
   ·exact h3 i h7 h6
   ·have:i=n:=by walk_at "o"
    subst this;exact jF.mp e
structure DSt(r:Nat->Nat)(p:Array Nat)(n q:Nat):Prop where
 hq:q+1<=n
 hn:n<=p.size
 dec:uD r p n
 eq:∀ k,n - (q+1)<=k->k < n->RR r p k=RR r p (n - 1)
theorem Eg{n:Nat}:∀ k,n+1 - (0+1)<=k->k < n+1->RR r p k=RR r p (n+1 - 1):=fun k h1 h2=>by
 have:k=n+1 - 1:=by walk_at "o"
 subst this;rfl
theorem yh:∀ (f:Nat) (p:Array Nat) (n q:Nat),DSt r p n q->n+f<=p.size->∃ p' n' q',(Ol f p n q).run (mJ r)=(p',n',q')/\DSt r p' n' q'/\n<=n'/\n'<=n+f/\p'.size=p.size/\p'.Perm p
 | 0,p,n,q,h,_=>⟨p,n,q,rfl,h,le_refl _,le_refl _,rfl,Array.Perm.refl _⟩
 | f+1,p,n,q,h,hf=>by
  have hq:=h.hq;show ∃ p' n' q',((fun c=>if c=true then (if q > 0 then Ol f (NU p (n - (q+1)) n) (n+1) 0 else Ol f p (n+1) 0)
   else .ask (p.getD (n - 1) 0) (p.getD n 0) fun d=>if d=true then .ret (p,n,q)else Ol f p (n+1) (q+1)) (mJ r (p.getD n 0) (p.getD (n - 1) 0))).run (mJ r)=(p',n',q')/\_
  cases e:mJ r (p.getD n 0) (p.getD (n - 1) 0) with
  | true=>
   have lt:RR r p n < RR r p (n - 1):=uv.mp e;have next:∀ p1:Array Nat,p1.size=p.size->p1.Perm p->(∀ k,RR r p1 k=RR r p k)->∃ p' n' q',(Ol f p1 (n+1) 0).run (mJ r)=(p',n',q')/\DSt r p' n' q'/\n<=n'/\n'<=n+(f+1)/\p'.size=p.size/\p'.Perm p:=fun p1 hz hp hR=>by
    have hn:=h.hn;have dc:uD r p1 (n+1):=fun i hi=>by
     rw[hR,hR];rcases N6 (i+1) n with h7|h7
     ·exact h.dec i h7
     ·have e2:n=i+1:=by walk_at "o"
      have e3:i=n - 1:=by walk_at "o"
      rw[<- e2,e3];exact le_of_lt lt
    obtain⟨p',n',q',e1,h1,h2,h3,h4,h5⟩:=yh f p1 (n+1) 0 ⟨by walk_at "o",by walk_at "o",dc,Eg⟩ (by walk_at "o")
    exact⟨p',n',q',e1,h1,by walk_at "o",by walk_at "o",by walk_at "o",h5.trans hp⟩
   show ∃ p' n' q',(if q > 0 then Ol f (NU p (n - (q+1)) n) (n+1) 0 else Ol f p (n+1) 0).run (mJ r)=(p',n',q')/\_
   by_cases hq0:q > 0
   ·rw[if_pos hq0];exact next _ (i0 _ _) (PU _ _ _ _) (qI (by walk_at "o") h.eq)
   ·rw[if_neg hq0];exact next p rfl (Array.Perm.refl _) fun _=>rfl
  | false=>
   have ge:RR r p (n - 1)<=RR r p n:=jF.mp e;show ∃ p' n' q',((fun d=>if d=true then KasT.ret (p,n,q)else Ol f p (n+1) (q+1)) (mJ r (p.getD (n - 1) 0) (p.getD n 0))).run (mJ r)=(p',n',q')/\_
   cases e2:mJ r (p.getD (n - 1) 0) (p.getD n 0) with
   | true=>exact⟨p,n,q,rfl,h,le_refl _,by walk_at "o",rfl,Array.Perm.refl _⟩
   | false=>
    have le:RR r p n<=RR r p (n - 1):=jF.mp e2;have dc:uD r p (n+1):=fun i hi=>by
     rcases N6 (i+1) n with h7|h7
     ·exact h.dec i h7
     ·have e2:n=i+1:=by walk_at "o"
      have e3:i=n - 1:=by walk_at "o"
      rw[<- e2,e3];exact le
    have eqq:∀ k,n+1 - (q+1+1)<=k->k < n+1->RR r p k=RR r p (n+1 - 1):=fun k h1 h2=>by
     show RR r p k=RR r p n
     rcases N6 k n with h7|h7
     ·rw[h.eq k (by walk_at "o") h7];omega
     ·have:k=n:=by walk_at "o"
      subst this;rfl
    obtain⟨p',n',q',e1,h1,h2,h3,h4,h5⟩:=yh f p (n+1) (q+1) ⟨by walk_at "o",by walk_at "o",dc,eqq⟩ (by walk_at "o")
    exact⟨p',n',q',e1,h1,by walk_at "o",by walk_at "o",h4,h5⟩
theorem yD{n nrem:Nat}(h1:1<=n)(hn:n<=nrem)(hz:nrem<=p.size)(hd:uD r p n):∃ m p',(Og n nrem p).run (mJ r)=(m,p')/\1<=m/\m<=nrem/\p'.size=p.size/\p'.Perm p/\mU r p' m:=by
 unfold Og;rw[KasT.run_bind];obtain⟨m,e,a1,a2,a3,_⟩:=Bi (r:=r) (p:=NU p 0 n) (nrem - n) n h1;rw[e];refine⟨m,_,rfl,by walk_at "o",by walk_at "o",i0 _ _,PU _ _ _ _,fun i hi=>?_⟩
 rcases N6 (i+1) n with h7|h7
 ·rw[yr (by walk_at "o"),yr (by walk_at "o"),if_pos (by walk_at "o"),if_pos (by walk_at "o")]
  exact hd.le (by walk_at "o") (by walk_at "o")
 ·exact a3 (i+1) h7 hi
theorem qV{n nrem:Nat}(h1:1<=n)(hn:n+1<=nrem)(hz:nrem<=p.size)(hd:uD r p (n+1)):∃ m p',(OT n nrem p).run (mJ r)=(m,p')/\1<=m/\m<=nrem/\p'.size=p.size/\p'.Perm p/\mU r p' m:=by
 unfold OT;rw[KasT.run_bind];obtain⟨p1,n1,q1,e,d,a1,a2,a3,a4⟩:=yh (r:=r) (nrem - (n+1)) p (n+1) 0 ⟨by walk_at "o",by walk_at "o",hd,Eg⟩ (by walk_at "o")
 rw[e];have hq:=d.hq
 by_cases hq0:q1 > 0
 ·show ∃ m p',(if q1 > 0 then Og n1 nrem (NU p1 (n1 - (q1+1)) n1)else Og n1 nrem p1).run (mJ r)=(m,p')/\_
  rw[if_pos hq0];have hR:=qI (r:=r) (p:=p1) (i:=n1 - (q1+1)) (j:=n1) d.hn d.eq;obtain⟨m,p',b1,b2,b3,b4,b5,b6⟩:=yD (r:=r) (p:=NU p1 (n1 - (q1+1)) n1) (n:=n1) (nrem:=nrem) (by walk_at "o") (by walk_at "o") (by rw[i0];omega) (fun i hi=>by rw[hR,hR];exact d.dec i hi)
  exact⟨m,p',b1,b2,b3,by rw[b4,i0,a3],(b5.trans (PU _ _ _ _)).trans a4,b6⟩
 ·show ∃ m p',(if q1 > 0 then Og n1 nrem (NU p1 (n1 - (q1+1)) n1)else Og n1 nrem p1).run (mJ r)=(m,p')/\_
  rw[if_neg hq0];obtain⟨m,p',b1,b2,b3,b4,b5,b6⟩:=yD (r:=r) (p:=p1) (n:=n1) (nrem:=nrem) (by walk_at "o") (by walk_at "o") (by walk_at "o") d.dec
  exact⟨m,p',b1,b2,b3,by rw[b4,a3],b5.trans a4,b6⟩
theorem EO{nrem:Nat}(h1:1<=nrem)(hz:nrem<=p.size):∃ m p',(Qd nrem p).run (mJ r)=(m,p')/\1<=m/\m<=nrem/\p'.size=p.size/\p'.Perm p/\mU r p' m:=by
 unfold Qd;rw[KasT.run_bind];obtain⟨n,e,a1,a2,a3,a4⟩:=Bi (r:=r) (p:=p) (nrem - 1) 1 (le_refl _);rw[e];have adj:mU r p n:=fun i hi=>a3 (i+1) (by walk_at "o") hi
 by_cases h2:n=nrem
 ·rw[if_pos (by simpa using h2)]
  exact⟨n,p,rfl,by walk_at "o",by walk_at "o",rfl,Array.Perm.refl _,adj⟩
 ·rw[if_neg (by simpa using h2)]
  have dn:RR r p n < RR r p (n - 1):=a4 (by walk_at "o")
  by_cases h3:n > 1
  ·rw[if_pos h3];show ∃ m p',((fun c=>if c=true then KasT.ret (n,p)else OT n nrem (NU p 0 n)) (mJ r (p.getD 0 0) (p.getD (n - 1) 0))).run (mJ r)=(m,p')/\_
   cases e2:mJ r (p.getD 0 0) (p.getD (n - 1) 0) with
   | true=>exact⟨n,p,rfl,by walk_at "o",by walk_at "o",rfl,Array.Perm.refl _,adj⟩
   | false=>
    have ge:RR r p (n - 1)<=RR r p 0:=jF.mp e2;have eq:∀ k,0<=k->k < n->RR r p k=RR r p (n - 1):=fun k _ hk=>by
     have:=adj.le (M6 k) hk;have:=adj.le (show k<=n - 1 by walk_at "o") (by walk_at "o")
     omega
    have hR:=qI (r:=r) (p:=p) (i:=0) (j:=n) (by walk_at "o") eq
    obtain⟨m,p',b1,b2,b3,b4,b5,b6⟩:=qV (r:=r) (p:=NU p 0 n) (n:=n) (nrem:=nrem) (by walk_at "o") (by walk_at "o") (by rw[i0];omega) (fun i hi=>by
     rw[hR,hR];rcases N6 (i+1) n with h7|h7
     ·rw[eq i (by walk_at "o") (by walk_at "o"),eq (i+1) (by walk_at "o") h7];exact le_refl _
     ·have e3:n=i+1:=by walk_at "o"
      have e4:i=n - 1:=by walk_at "o"
      rw[<- e3,e4];exact le_of_lt dn)
    exact⟨m,p',b1,b2,b3,by rw[b4,i0],b5.trans (PU _ _ _ _),b6⟩
  ·rw[if_neg h3];have e1:n=1:=by walk_at "o"
   subst e1;exact qV (by walk_at "o") (by walk_at "o") hz (fun i hi=>by
    have:i=0:=by walk_at "o"
    subst this;exact le_of_lt dn)
theorem s_{k:Nat}(hs:mU r p k):∀ (f l u:Nat),l<=u->u<=k->u - l<=f->(∀ i,i < l->RR r p i<=RR r p k)->(∀ i,u<=i->i < k->RR r p k < RR r p i)->
  ∃ m,(Ph p k f l u).run (mJ r)=m/\m<=k/\(∀ i,i < m->RR r p i<=RR r p k)/\(∀ i,m<=i->i < k->RR r p k < RR r p i)
 | 0,l,u,h1,h2,h3,h4,h5=>⟨l,rfl,by walk_at "o",h4,fun i a b=>h5 i (by walk_at "o") b⟩
 | f+1,l,u,h1,h2,h3,h4,h5=>by
  unfold Ph
  by_cases hlu:l>=u
  ·rw[if_pos hlu];exact⟨l,rfl,by walk_at "o",h4,fun i a b=>h5 i (by walk_at "o") b⟩
  ·rw[if_neg hlu];show ∃ m,((fun c=>if c=true then Ph p k f l ((l+u) / 2)else Ph p k f ((l+u) / 2+1) u) (mJ r (p.getD k 0) (p.getD ((l+u) / 2) 0))).run (mJ r)=m/\_
   cases e:mJ r (p.getD k 0) (p.getD ((l+u) / 2) 0) with
   | true=>
    have lt:RR r p k < RR r p ((l+u) / 2):=uv.mp e;exact s_ hs f l ((l+u) / 2) (by walk_at "o") (by walk_at "o") (by walk_at "o") h4 fun i a b=>MN lt (hs.le a b)
   | false=>
    have ge:RR r p ((l+u) / 2)<=RR r p k:=jF.mp e;exact s_ hs f ((l+u) / 2+1) u (by walk_at "o") h2 (by walk_at "o") (fun i a=>le_trans (hs.le (show i<=(l+u) / 2 by walk_at "o") (by walk_at "o")) ge) h5
theorem qJ{src d:Nat}(hs:src < p.size)(hd:d<=src)(k:Nat):RR r (bubble p src d) k=if k=src - d then RR r p src else if src - d < k/\k<=src then RR r p (k - 1)else RR r p k:=by
 have e:=getElem?_bubble hs d hd k;split
 ·rename_i h;rw[if_pos h]at e;exact Aa e
 ·rename_i h;rw[if_neg h]at e;split
  ·rename_i h2;rw[if_pos h2]at e;exact Aa e
  ·rename_i h2;rw[if_neg h2]at e;exact Aa e
theorem EZ:∀ (f:Nat) (p:Array Nat) (k:Nat),k+f=p.size->mU r p k->∃ p',(P0 f p k).run (mJ r)=p'/\p'.size=p.size/\p'.Perm p/\mU r p' p.size
 | 0,p,k,h,a=>⟨p,rfl,rfl,Array.Perm.refl _,by rw[<- h];exact a⟩
 | f+1,p,k,h,a=>by
  unfold P0;rw[KasT.run_bind];obtain⟨l,e,b1,b2,b3⟩:=s_ (r:=r) a k 0 k (by walk_at "o") (le_refl _) (by walk_at "o") (fun i z=>absurd z (by walk_at "o")) (fun i x y=>absurd x (by walk_at "o"))
  rw[e];have hk:k < p.size:=by walk_at "o"
  obtain⟨p',c1,c2,c3,c4⟩:=EZ f (bubble p k (k - l)) (k+1) (by rw[QC];omega) (fun i hi=>by
   have e1:=qJ (r:=r) hk (show k - l<=k by walk_at "o") i
   have e2:=qJ (r:=r) hk (show k - l<=k by walk_at "o") (i+1)
   have ek:k - (k - l)=l:=by walk_at "o"
   rw[ek]at e1 e2;rw[e1,e2];rcases Nat.lt_trichotomy i l with hil|hil|hil
   ·rw[if_neg (by walk_at "o"),if_neg (by walk_at "o")]
    by_cases h2:i+1=l
    ·rw[if_pos h2];exact b2 i hil
    ·rw[if_neg h2,if_neg (by walk_at "o")];exact a i (by walk_at "o")
   ·rw[if_pos hil,if_neg (by walk_at "o"),if_pos (by walk_at "o")]
    have:i+1 - 1=i:=by walk_at "o"
    rw[this];exact le_of_lt (b3 i (by walk_at "o") (by walk_at "o"))
   ·rw[if_neg (by walk_at "o"),if_pos (by walk_at "o"),if_neg (by walk_at "o"),if_pos (by walk_at "o")]
    have:i+1 - 1=(i - 1)+1:=by walk_at "o"
    rw[this];exact a (i - 1) (by walk_at "o"))
  rw[QC]at c2 c4;exact⟨p',c1,c2,c3.trans (bubble_perm _ _ _),c4⟩
theorem Fp(r:Nat->Nat)(n:Nat)(hn:1<=n):∃ p,(QB n).run (mJ r)=p/\p.toList.Perm (List.range n)/\mU r p n:=by
 unfold QB;rw[KasT.run_bind];have hz:(List.toArray (List.range n)).size=n:=by simp
 obtain⟨m,p1,e,a1,a2,a3,a4,a5⟩:=EO (r:=r) (p:=List.toArray (List.range n)) (nrem:=n) hn (by rw[hz];exact le_refl _)
 rw[e];have toL:∀ {p:Array Nat},p.Perm (List.toArray (List.range n))->p.toList.Perm (List.range n):=fun h=>by simpa using Array.perm_iff_toList_perm.mp h
 show ∃ p,(if m < n then P0 (n - max m 1) p1 (max m 1)else KasT.ret p1).run (mJ r)=p/\_
 by_cases h:m < n
 ·rw[if_pos h];obtain⟨p',b1,b2,b3,b4⟩:=EZ (r:=r) (n - max m 1) p1 (max m 1) (by rw[a3,hz];omega) (by rw[show max m 1=m by walk_at "o"];exact a5)
  exact⟨p',b1,toL (b3.trans a4),by rw[a3,hz]at b4;exact b4⟩
 ·rw[if_neg h];have:m=n:=by walk_at "o"
  subst this;exact⟨p1,rfl,toL a4,a5⟩
end
section
variable{κ:Type}(blt:κ->κ->Bool)
structure SWO:Prop where
 irrefl:∀ a,blt a a=false
 trans:∀ a b c,blt a b=true->blt b c=true->blt a c=true
 neg:∀ a b c,blt a c=true->blt a b=true\/blt b c=true
def rankIn(ks:List κ)(a:κ):Nat:=ks.countP fun k=>blt k a
end
section
variable{κ:Type}{blt:κ->κ->Bool}
theorem wt{p q:κ->Bool}(ks:List κ)(h:∀ x,p x=true->q x=true):ks.countP p<=ks.countP q:=by
 induction ks with
 | nil=>exact le_refl _
 | cons x r ih=>
  rw[Pd,Pd];cases hp:p x with
  | false=>simp;split<;>omega
  | true=>rw[h x hp];simp;omega
theorem CW{p q:κ->Bool}{ks:List κ}(h:∀ x,p x=true->q x=true){y:κ}(hy:y∈ks)(h1:p y=false)(h2:q y=true):ks.countP p < ks.countP q:=by
 induction ks with
 | nil=>simp at hy
 | cons x r ih=>
  rw[Pd,Pd];rcases MV.mp hy with rfl|hy
  ·have:=wt r h;rw[h1,h2];simp;omega
  ·have:=ih hy;cases hp:p x with
   | false=>simp;split<;>omega
   | true=>rw[h x hp];simp;omega
theorem rank_lt(o:SWO blt){ks:List κ}{a b:κ}(ha:a∈ks):blt a b=decide (rankIn blt ks a < rankIn blt ks b):=by
 cases e:blt a b with
 | true=>
  symm;rw[decide_eq_true_iff];exact CW (fun x hx=>o.trans _ _ _ hx e) ha (o.irrefl a) e
 | false=>
  symm;rw[decide_eq_false_iff_not,Nat.not_lt];refine wt ks fun x hx=>?_;rcases o.neg x a b hx with h|h
  ·exact h
  ·rw[e]at h;cases h
end
def KasT.allR{α:Type}(n:Nat)(P:α->Prop):QU α->Prop
 | .ret a=>P a
 | .ask i j k=>i < n/\j < n/\∀ b,(k b).allR n P
theorem KasT.allR_mono{α:Type}{n:Nat}{P P':α->Prop}(h:∀ a,P a->P' a):∀ {t:QU α},t.allR n P->t.allR n P'
 | .ret a,q=>h a q
 | .ask i j k,q=>⟨q.1,q.2.1,fun b=>KasT.allR_mono h (q.2.2 b)⟩
theorem KasT.allR_bind{α β:Type}{n:Nat}{P:α->Prop}{P':β->Prop}{f:α->QU β}(h:∀ a,P a->(f a).allR n P'):∀ {t:QU α},t.allR n P->(t.bind f).allR n P'
 | .ret a,q=>h a q
 | .ask i j k,q=>⟨q.1,q.2.1,fun b=>KasT.allR_bind h (q.2.2 b)⟩
theorem KasT.walked{α:Type}{n:Nat}{P:α->Prop}{lt:Nat->Nat->Bool}{J:Mi->Prop}{cmp:Nat->Nat->(Bool->Mi->Prop)->Mi->Prop}{Q:α->Mi->Prop}
  (hc:∀ i j C s,i < n->j < n->J s->(∀ s',J s'->C (lt i j) s')->cmp i j C s):∀ (t:QU α) (s:Mi),t.allR n P->J s->(∀ s',J s'->P (t.run lt)->Q (t.run lt) s')->t.kasWp cmp Q s
 | .ret a,s,q,j,h=>h s j q
 | .ask i j k,s,q,hj,h=>hc i j _ s q.1 q.2.1 hj fun s' hj'=>KasT.walked hc (k (lt i j)) s' (q.2.2 _) hj' h
structure EntN(n:Nat)(p:Array Nat):Prop where
 size:p.size=n
 ent:∀ i,p.getD i 0 < n
section
variable{N:Nat}{p:Array Nat}
theorem EntN.rev(e:EntN N p){i j:Nat}(hj:j<=N):EntN N (NU p i j):=by
 refine⟨by rw[i0];exact e.size,fun k=>?_⟩
 have h:=yr (r:=id) (p:=p) (i:=i) (j:=j) (by rw[e.size];exact hj) k
 unfold RR at h;simp only[id]at h;rw[h];split<;>exact e.ent _
theorem EntN.bub(e:EntN N p){src d:Nat}(hs:src < N)(hd:d<=src):EntN N (bubble p src d):=by
 refine⟨by rw[QC];exact e.size,fun k=>?_⟩
 have h:=qJ (r:=id) (p:=p) (src:=src) (d:=d) (by rw[e.size];exact hs) hd k
 unfold RR at h;simp only[id]at h;rw[h];split
 ·exact e.ent _
 ·split<;>exact e.ent _
theorem Bj(e:EntN N p):∀ (f n:Nat),(kas_asc p f n).allR N fun m=>n<=m/\m<=n+f
 | 0,n=>⟨le_refl _,le_refl _⟩
 | f+1,n=>⟨e.ent _,e.ent _,fun b=>by
   cases b with
   | true=>exact⟨le_refl _,by walk_at "o"⟩
   | false=>exact KasT.allR_mono (fun m h=>⟨by walk_at "o",by walk_at "o"⟩) (Bj e f (n+1))⟩
theorem r0:∀ (f:Nat) (p:Array Nat) (n q:Nat),EntN N p->n+f<=N->(Ol f p n q).allR N fun r=>EntN N r.1/\n<=r.2.1/\r.2.1<=n+f
 | 0,p,n,q,e,_=>⟨e,le_refl _,le_refl _⟩
 | f+1,p,n,q,e,h=>⟨e.ent _,e.ent _,fun b=>by
   have mono:∀ {t:QU (Array Nat×Nat×Nat)},(t.allR N fun r=>EntN N r.1/\n+1<=r.2.1/\r.2.1<=n+1+f)->t.allR N fun r=>EntN N r.1/\n<=r.2.1/\r.2.1<=n+(f+1):=fun h=>KasT.allR_mono (fun r z=>⟨z.1,by walk_at "o",by walk_at "o"⟩) h
   cases b with
   | true=>
    show KasT.allR N _ (if q > 0 then Ol f (NU p (n - (q+1)) n) (n+1) 0 else Ol f p (n+1) 0)
    split
    ·exact mono (r0 f _ (n+1) 0 (e.rev (by walk_at "o")) (by walk_at "o"))
    ·exact mono (r0 f _ (n+1) 0 e (by walk_at "o"))
   | false=>exact⟨e.ent _,e.ent _,fun d=>by
     cases d with
     | true=>exact⟨e,le_refl _,show n<=n+(f+1)by walk_at "o"⟩
     | false=>exact mono (r0 f p (n+1) (q+1) e (by walk_at "o"))⟩⟩
theorem yE(e:EntN N p){n nrem:Nat}(hn:n<=N):(Og n nrem p).allR N fun r=>EntN N r.2:=by
 unfold Og;refine KasT.allR_bind (fun m _=>?_) (Bj (e.rev (i:=0) hn) (nrem - n) n);exact (e.rev hn:EntN N (NU p 0 n))
theorem qW(e:EntN N p){n nrem:Nat}(hn:n+1<=nrem)(hz:nrem<=N):(OT n nrem p).allR N fun r=>EntN N r.2:=by
 unfold OT;refine KasT.allR_bind (fun r h=>?_) (r0 (nrem - (n+1)) p (n+1) 0 e (by walk_at "o"))
 obtain⟨p1,n1,q1⟩:=r;obtain⟨h1,h2,h3⟩:=h;show KasT.allR N _ (if q1 > 0 then Og n1 nrem (NU p1 (n1 - (q1+1)) n1)else Og n1 nrem p1)
 have hn1:n1<=N:=by simp only at h3;omega
 split
 ·exact yE (h1.rev hn1) hn1
 ·exact yE h1 hn1
theorem ER(e:EntN N p){nrem:Nat}(h1:1<=nrem)(hz:nrem<=N):(Qd nrem p).allR N fun r=>EntN N r.2:=by
 unfold Qd;refine KasT.allR_bind (fun n h=>?_) (Bj e _ _)
 by_cases h2:n=nrem
 ·rw[if_pos (by simpa using h2)];exact e
 ·rw[if_neg (by simpa using h2)]
  by_cases h3:n > 1
  ·rw[if_pos h3];refine⟨e.ent _,e.ent _,fun b=>?_⟩;cases b with
   | true=>exact e
   | false=>exact qW (e.rev (by walk_at "o")) (by walk_at "o") hz
  ·rw[if_neg h3];exact qW e (by walk_at "o") hz
theorem td(e:EntN N p)(k:Nat):∀ (f l u:Nat),(Ph p k f l u).allR N fun _=>True
 | 0,l,u=>trivial
 | f+1,l,u=>by
  unfold Ph;split
  ·exact trivial
  ·exact⟨e.ent _,e.ent _,fun b=>by
    cases b with
    | true=>exact td e k f _ _
    | false=>exact td e k f _ _⟩
theorem E1:∀ (f:Nat) (p:Array Nat) (k:Nat),EntN N p->k+f<=N->(P0 f p k).allR N (EntN N)
 | 0,p,k,e,_=>e
 | f+1,p,k,e,h=>by
  unfold P0;refine KasT.allR_bind (fun l _=>?_) (td e k k 0 k);exact E1 f _ (k+1) (e.bub (by walk_at "o") (by walk_at "o")) (by walk_at "o")
theorem Fq{n:Nat}(hn:1<=n):(QB n).allR n (EntN n):=by
 have e:EntN n (List.toArray (List.range n)):=⟨by simp,fun i=>by
  rw[Array.getD_eq_getD_getElem?,List.getElem?_toArray];cases h:(List.range n)[i]? with
  | none=>exact hn
  | some x=>exact mem_range.mp (MC h)⟩
 unfold QB;refine KasT.allR_bind (fun r h=>?_) (ER e hn (le_refl _));obtain⟨m,p⟩:=r;show KasT.allR n _ (if m < n then P0 (n - max m 1) p (max m 1)else KasT.ret p)
 split
 ·exact E1 _ _ _ h (by walk_at "o")
 ·exact h
end
section
variable{α:Type}(blt:α->α->Bool)
structure STO:Prop where
 irrefl:∀ a,blt a a=false
 trans:∀ a b c,blt a b=true->blt b c=true->blt a c=true
 tot:∀ a b,blt a b=false->blt b a=false->a=b
def tM[DecidableEq α]:List α->List α->Bool
 | [],[]=>false
 | [],_::_=>true
 | _::_,[]=>false
 | a::r,b::t=>if a=b then tM r t else blt a b
end
section
variable{α:Type}{blt:α->α->Bool}
theorem STO.neg(o:STO blt)(a b c:α)(h:blt a c=true):blt a b=true\/blt b c=true:=by
 cases e:blt a b with
 | true=>exact .inl rfl
 | false=>
  cases e2:blt b c with
  | true=>exact .inr rfl
  | false=>
   cases e3:blt b a with
   | true=>have:=o.trans _ _ _ e3 h;rw[e2]at this;cases this
   | false=>
    have:=o.tot _ _ e e3;subst this;rw[h]at e2;cases e2
variable[DecidableEq α]
theorem ma(a b:α)(r t:List α):tM blt (a::r) (b::t)=if a=b then tM blt r t else blt a b:=rfl
theorem xJ(o:STO blt):STO (tM blt) where
 irrefl:=by
  intro a
  induction a with
  | nil=>rfl
  | cons x r ih=>rw[ma,if_pos rfl,ih]
 trans:=by
  intro a
  induction a with
  | nil=>
   intro b c h1 h2;cases c with
   | nil=>cases b<;>cases h2
   | cons _ _=>rfl
  | cons x r ih=>
   intro b c h1 h2;cases b with
   | nil=>cases h1
   | cons y t=>
    cases c with
    | nil=>cases h2
    | cons z u=>
     rw[ma]at h1 h2 ⊢
     by_cases e1:x=y
     ·subst e1;rw[if_pos rfl]at h1
      by_cases e2:x=z
      ·subst e2;rw[if_pos rfl]at h2 ⊢;exact ih t u h1 h2
      ·rw[if_neg e2]at h2 ⊢;exact h2
     ·rw[if_neg e1]at h1
      by_cases e2:y=z
      ·subst e2;rw[if_neg e1];exact h1
      ·rw[if_neg e2]at h2;have h3:=o.trans _ _ _ h1 h2;rw[if_neg (fun e=>by subst e;rw[o.irrefl]at h3;cases h3)]
       exact h3
 tot:=by
  intro a
  induction a with
  | nil=>
   intro b h1 h2;cases b with
   | nil=>rfl
   | cons _ _=>cases h1
  | cons x r ih=>
   intro b h1 h2;cases b with
   | nil=>cases h2
   | cons y t=>
    rw[ma]at h1 h2
    by_cases e1:x=y
    ·subst e1;rw[if_pos rfl]at h1 h2;rw[ih t h1 h2]
    ·rw[if_neg e1]at h1;rw[if_neg (Ne.symm e1)]at h2;exact absurd (o.tot _ _ h1 h2) e1
end
def xG(a b:Nat):Bool:=decide (a < b)
theorem xF:STO xG:=⟨fun a=>by simp[xG],fun a b c h1 h2=>by simp only[xG,decide_eq_true_eq]at *;omega,fun a b h1 h2=>by simp only[xG,decide_eq_false_iff_not]at *;omega⟩
theorem oU:∀ a b:List Nat,tM xG a b=decide (a < b)
 | [],[]=>by simp[tM]
 | [],b::t=>by simp[tM]
 | a::r,[]=>by simp[tM]
 | a::r,b::t=>by
  rw[ma]
  by_cases e:a=b
  ·subst e;rw[if_pos rfl,oU r t];simp
  ·rw[if_neg e];simp[xG,List.cons_lt_cons_iff,e]
end PySem.W
namespace L3
open PySem PySem.Spec PyProof.Rows L2 PySem.SeqAt
open PySem.AutoSeq1 (wpAny_loadPart')
open PySem.MeetsSeq PySem.MeetsSeq2 PySem.MeetsSeq3
def d_(blt:D->D->Bool):List D->List D->Bool
 | [],[]=>false
 | [],_::_=>true
 | _::_,[]=>false
 | a::r,b::t=>if dG a b=true then d_ blt r t else blt a b
def mF:Nat->D->D->Bool
 | _,.int a,.int b=>decide (a < b)
 | _,.str x,.str y=>decide (x.cps.toList < y.cps.toList)
 | n+1,.tup xs,.tup ys=>d_ (mF n) xs ys
 | _,_,_=>false
def Kn(n:Nat)(P:D->D->Prop):List D->List D->Prop
 | a::r,b::t=>(pl n a/\pl n b)/\(a≠b->P a b)/\Kn n P r t
 | _,_=>True
def EN:Nat->D->D->Prop
 | _,.int _,.int _=>True
 | _,.str _,.str _=>True
 | n+1,.tup xs,.tup ys=>Kn n (EN n) xs ys
 | _,_,_=>False
def GK(op:OS)(A:MA)(s:Mi)(v u:Mh)(b:Bool):Prop:=
 ∀ (prog:Mw) (w:ME) (E:Mh->Mi->Prop) (Q:Mh->Mi->Prop),Q (.bool b) s->Mo (Mt prog w) A (richCompare op v u) Q E s
def wF(op:OS)(fin:Bool)(A:MA)(s:Mi):List Mh->List Mh->Bool->Prop
 | v::vs,u::us,out=>∃ e,EqAt A s v u e/\(e=true->wF op fin A s vs us out)/\(e=false->GK op A s v u out)
 | _,_,out=>out=fin
theorem CC{op:OS}{fin out:Bool}{A:MA}{s:Mi}:∀ {vs us:List Mh},wF op fin A s vs us out->vs.zip us=[]->out=fin
 | [],_,h,_=>h
 | _::_,[],h,_=>h
 | _::_,_::_,_,e=>by rw[Oq]at e;cases e
theorem Aj(l b:Mg)(items items2:Array Mh)(n n2:Nat)(dd dd2:Option Mg)(sl sl2:Array (Option Mh))(out:Bool):
  Meets (Builtin.«tuple.__lt__» ⟨[.ref l,.ref b],[]⟩)
   (fun A R s=>s.heap.get? l=some { cls:=.type "tuple",dict:=dd,data:=.seq items n,slots:=sl }/\s.heap.get? b=some { cls:=.type "tuple",dict:=dd2,data:=.seq items2 n2,slots:=sl2 }/\
    wF .Lt (decide (items.size < items2.size)) A.in1 s items.toList items2.toList out/\R (.ok (.ret (.bool out))) s):=
 .of_wp fun prog w A R s h=>by
  obtain⟨hp,g,d,tk,os⟩:=s;obtain⟨hl,hb,hx,h⟩:=h;have f2:=AutoSeq1.sub_tuple_tuple
  wp_walk using wpAny_loadPart' hl,wpAny_loadPart' hb,wpAny_forIn_list _ (fun mB b s'=>b.1=none/\s'=⟨hp,g,d,tk,os⟩/\∃ vs ws,mB=vs.zip ws/\wF .Lt (decide (items.size < items2.size)) A.in1 ⟨hp,g,d,tk,os⟩ vs ws out) _
  case turn=>
   rintro⟨y,x⟩ mB b s' ⟨hb',rfl,vs,ws,hz,lx⟩
   cases vs with
   | nil=>rw[List.zip_nil_left]at hz;cases hz
   | cons v vs=>
    cases ws with
    | nil=>rw[List.zip_nil_right]at hz;cases hz
    | cons u ws=>
     rw[Oq]at hz;injection hz with hyx hrest
     injection hyx with hy hx'
     subst hy hx';obtain⟨e,he,l1,l2⟩:=lx;refine Mf (he prog w _ _ ?_);cases e with
     | true=>
      wp_walk
      exact⟨rfl,rfl,_,_,hrest,l1 rfl⟩
     | false=>
      have hri:=l2 rfl prog w
      wp_walk using hri
      exact⟨_,rfl,by simpa using h⟩
  case fin=>
   rintro⟨b1,b2⟩ s' ⟨hb',rfl,vs,ws,hz,lx⟩
   simp only at hb';subst hb';have hv:=CC lx hz.symm;rw[hv]at h
   wp_walk
   exact⟨_,rfl,by simpa[Builtin.Tuple.tupleCompareSizes]using h⟩
  case h=>
   exact⟨rfl,rfl,items.toList,items2.toList,rfl,hx⟩
theorem Eo{A:MA}{s:Mi}{l b:Mg}{items items2:Array Mh}{out:Bool}(hl:s.heap.IsTuple l items)(hb:s.heap.IsTuple b items2)(hu:A.units < M5)
  (hx:wF .Lt (decide (items.size < items2.size)) A.in1 s items.toList items2.toList out):GK .Lt A s (.ref l) (.ref b) out:=fun prog w E Q h=>by
 obtain⟨⟨cls,dd,data,sl⟩,ho,hc,n,hd⟩:=id hl;obtain⟨⟨cls2,dd2,data2,sl2⟩,ho2,hc2,n2,hd2⟩:=id hb;simp only at hc hd hc2 hd2;subst hc hd hc2 hd2;exact richCompare_meets_room (op:=.Lt) ⟨_,ho,rfl⟩ ⟨_,ho2,rfl⟩ PySem.F.slot_tuple_lt PySem.F.entry_tuple_lt (PySem.F.args_tuple_lt_2 _ _) (Aj l b items items2 n n2 dd dd2 sl sl2 out)
  ⟨ho,ho2,hx,show Value.bool out≠Value.notImplemented/\Q (.bool out) s from ⟨(fun x=>nomatch x),h⟩⟩ hu
section
variable{X:Cx}{pins:List (Mg×Obj)}{σ:St}{H:Hp}{s:Mi}
theorem zm(I:Inv X pins σ H s){n:Nat}{A:MA}(hu:A.units+n < M5){N1 N2:Nat}
  (ih:∀ {x y:D} {v u:V} {v' u':Mh},EN n x y->RD X.K H x v->RD X.K H y u->aI v v'->aI u u'->GK .Lt A s v' u' ( mF n x y)):
  ∀ {ds es:List D} {xs ys:List V} {us ws:List Mh},Kn n (EN n) ds es->RDs X.K H ds xs->RDs X.K H es ys->Vals xs us->Vals ys ws->ds.length+N2=es.length+N1->wF .Lt (decide (N1 < N2)) A s us ws ( d_ (mF n) ds es)
 | [],es,xs,ys,us,ws,_,r1,r2,w1,w2,hl=>by
  rw[r1.inv_nil]at w1;cases w1;show ( d_ (mF n) [] es)=decide (N1 < N2)
  cases es with
  | nil=>
   simp only[MS]at hl;have e1:N2=N1:=by walk_at "o"
   subst e1;simp[d_]
  | cons b t=>
   simp only[MS,MD]at hl;have:N1 < N2:=by walk_at "o"
   simp[d_];omega
 | a::r,[],xs,ys,us,ws,_,r1,r2,w1,w2,hl=>by
  rw[r2.inv_nil]at w2;cases w2;obtain⟨x1,t1,e1,_,_⟩:=r1.inv_cons;subst e1;cases w1;show ( d_ (mF n) (a::r) [])=decide (N1 < N2)
  simp only[MS,MD]at hl;have:N2 < N1:=by walk_at "o"
  simp[d_];omega
 | a::r,b::t,xs,ys,us,ws,⟨p,c,q⟩,r1,r2,w1,w2,hl=>by
  obtain⟨x1,t1,e1,g1,g2⟩:=r1.inv_cons;subst e1;obtain⟨x2,t2,e2,f1,f2⟩:=r2.inv_cons;subst e2;cases w1 with
  | cons k1 w1=>
  cases w2 with
  | cons k2 w2=>
   refine⟨dG a b,(ww I n p.1 p.2 g1 f1 k1 k2 hu).eq,fun e=>?_,fun e=>?_⟩
   ·rw[show d_ (mF n) (a::r) (b::t)=d_ (mF n) r t by simp[d_,e]]
    simp only[MD]at hl;exact zm I hu ih q g2 f2 w1 w2 (by walk_at "o")
   ·rw[show d_ (mF n) (a::r) (b::t)=mF n a b by simp[d_,e]]
    exact ih (c fun z=>by rw[z,bu]at e;cases e) g1 f1 k1 k2
theorem Ib(I:Inv X pins σ H s):∀ (n:Nat) {x y:D} {v u:V} {v' u':Mh} {A:MA},EN n x y->RD X.K H x v->RD X.K H y u->aI v v'->aI u u'->A.units+n < M5->GK .Lt A s v' u' ( mF n x y):=by
 intro n
 induction n with
 | zero=>
  intro x y v u v' u' A c rx ry lx ly hu;cases x<;>cases y<;>first|exact c.elim|skip
  ·simp only[RD]at rx ry;subst rx ry;obtain⟨t,rfl⟩:=lx;obtain⟨t',rfl⟩:=ly;intro prog w E Q h;exact (PyProof.Rows.lt_int h:Mo (Mt prog w) A (MT .Lt (.int _ t) (.int _ t')) Q E s)
  ·simp only[RD]at rx ry;subst rx ry;obtain⟨t,rfl⟩:=lx;obtain⟨t',rfl⟩:=ly;intro prog w E Q h;exact (PySem.P.lt_str h:Mo (Mt prog w) A (MT .Lt (.str _ t) (.str _ t')) Q E s)
 | succ n ih=>
  intro x y v u v' u' A c rx ry lx ly hu;cases x<;>cases y<;>first|exact c.elim|skip
  ·simp only[RD]at rx ry;subst rx ry;obtain⟨t,rfl⟩:=lx;obtain⟨t',rfl⟩:=ly;intro prog w E Q h;exact (PyProof.Rows.lt_int h:Mo (Mt prog w) A (MT .Lt (.int _ t) (.int _ t')) Q E s)
  ·simp only[RD]at rx ry;subst rx ry;obtain⟨t,rfl⟩:=lx;obtain⟨t',rfl⟩:=ly;intro prog w E Q h;exact (PySem.P.lt_str h:Mo (Mt prog w) A (MT .Lt (.str _ t) (.str _ t')) Q E s)
  ·rename_i ds es;simp only[RD]at rx ry;obtain⟨a,xs,rfl,s1,r1⟩:=rx;obtain⟨b,ys,rfl,s2,r2⟩:=ry;cases lx;cases ly;obtain⟨its,w1,t1,z1⟩:=I.tuple s1;obtain⟨its2,w2,t2,z2⟩:=I.tuple s2;have l1:=w1.length;have l1':=r1.length;have l2:=w2.length;have l2':=r2.length;refine Eo t1 t2 (by walk_at "o") ?_
   exact zm I (A:=A.in1) (by show A.units+1+n < M5;omega) (fun c rx ry lx ly=>ih c rx ry lx ly (by show A.units+1+n < M5;omega)) c r1 r2 w1 w2 (by simp only[Mv];omega)
end
def Lm:R3:=fun x y G Q=>EN 4 x y/\Q (.bl (! mF 4 x y)) G
open PySem.W
def nQ(h:MG)(d:Mg)(vs:List Mh)(ep:Nat):Prop:=∃ o es,h.get? d=some o/\o.ExactDict/\o.data=.dict es ep/\es.toList.map (·.val)=vs
section
variable{prog:Mw}{w:ME}{A:MA}{E:Mh->Mi->Prop}{s:Mi}{d r it:Mg}{vs:List Mh}{ep i:Nat}
theorem nQ.ty(x:nQ s.heap d vs ep):s.TypeIs (.ref d) "dict":=let ⟨o,_,e,z,_⟩:=x;⟨o,e,z.1⟩
theorem nQ.there{h:MG}(x:nQ h d vs ep):d < h.objs.size:=let ⟨_,_,e,_⟩:=x;Mx e
theorem nQ.stay{h h':MG}(x:nQ h d vs ep)(k:∀ o,h.get? d=some o->h'.get? d=some o):nQ h' d vs ep:=let ⟨o,es,e,z⟩:=x;⟨o,es,k o e,z⟩
theorem Az(hs:(d == M9)=false):MeetsIn prog w (Builtin.«dict.values» ⟨[.ref d],[]⟩) (fun _ R s=>(∃ vs ep,nQ s.heap d vs ep)/\
  R (.ok (.ret (.ref s.heap.objs.size))) { s with heap:=s.heap.push { cls:=.type "dict_values",data:=.fields #[.ref d] } }):=
 .of_wp fun A R s zz=>by
  obtain⟨⟨vs,ep,x⟩,q⟩:=zz;refine Mf ?_;unfold Builtin.Dict.noArgs;refine Mf (O4 x.ty ?_);show Mo _ _ (pure d) _ _ s;refine Ml ?_
  show Mo _ _ (Op d >>= _) _ _ s;unfold Op
  rw[if_neg (fun z=>by rw[hs]at z;cases z)];refine Mf (Ml ?_)
  exact Mf (MX (Ml ⟨_,rfl,q⟩))
theorem DK{Q:Mh->Mi->Prop}(hr:s.heap.IsValuesView r d)(x:nQ s.heap d vs ep)
  (q:Q (.ref s.heap.objs.size) { s with heap:=s.heap.push { cls:=.type "dict_valueiterator",data:=.fields #[.ref d,.int 0 0,.int vs.length 0,.int ep 0] } }):Mo (Mt prog w) A (OD (.ref r)) Q E s:=by
 obtain⟨ov,e1,c1,d1⟩:=id hr;obtain⟨o,es,e2,c2,d2,rfl⟩:=x;refine Pw hr.typeIs Qg (Ni Qg hr.typeIs F.entry_dict_values_iter ?_ (F.args_dict_values_iter_1 _));unfold Builtin.«dict_values.__iter__»;refine Mf (Ml ?_);refine Mf ?_;unfold Builtin.Dict_items.dictOf;refine Mf (Nv e1 d1 (x:=.ref d) rfl (Ml ?_));refine Mf ?_;unfold Builtin.Dict_items.newIterator;refine Mf (NT e2 d2 ?_);refine Mf (N9 e2 d2 ?_);have own:Nt "dict_valueiterator"=false:=by decide
 simp only[own,Bool.false_eq_true,if_false];refine MX (Ml ⟨_,rfl,"dict_valueiterator",_,⟨_,Mq _ rfl,rfl⟩,NG.lookup,?_⟩)
 simpa[N0]using q
theorem DL{v:Mh}{Q:Option Mh->Mi->Prop}(hi:s.heap.IsValIter it d i vs.length ep)(x:nQ s.heap d vs ep)(hv:vs[i]?=some v)
  (q:∀ h',h'.IsValIter it d (i+1) vs.length ep->NC it s.heap h'->Q (some v) { s with heap:=h' }):Mo (Mt prog w) A (NM (.ref it)) Q E s:=by
 obtain⟨o,e1,c1,d1⟩:=id hi;obtain⟨od,es,e2,c2,d2,rfl⟩:=x;unfold NM;refine Mf (N5 (Nj (name:=Mj "__next__") hi.typeIs NG (Ni NG hi.typeIs PJ ?_ (PF _))));refine Mf (Ml ?_);refine Mf ?_;refine Mf ?_
 first|refine Mf (NH hi.typeIs (Ml ?_))|refine Mf (N3 hi.typeIs (Ml ?_))
 refine Mf (O_ e1 d1 ?_);have own:Nt "dict_valueiterator"=false:=by decide
 simp only[own,Bool.false_eq_true,if_false];show Mo _ _ (if (Value.ref d == Value.none)=true then _ else _) _ _ s;rw[if_neg (show ¬ ((Value.ref d == Value.none)=true)from Bool.false_ne_true)]
 refine Mf (Ml ?_);refine Mf (NT e2 d2 ?_);have z:es.size=(es.toList.map (·.val)).length:=by simp
 rw[if_neg (by rw[z];simp)];refine Mf (Ml ?_);refine Mf (N9 e2 d2 ?_)
 rw[if_neg (by simp)];refine Ml ?_
 have lt:i < es.size:=by
  rw[z];rcases N6 i (es.toList.map (·.val)).length with h|h
  ·exact h
  ·rw[NY h]at hv;cases hv
 have val:es[i].val=v:=by
  rw[MH]at hv
  simpa[lt]using hv
 simp only[show ¬ ((i:Int) < 0)from by walk_at "o",if_false,Int.toNat_natCast,Array.getElem?_eq_getElem lt];refine Mf ?_
 first|refine Mf (NH hi.typeIs (Ml ?_))|refine Mf (N3 hi.typeIs (Ml ?_))
 refine Mf (O5 hi.typeIs ?_);show Mo _ _ (Qy (.ref it) 1 (N0 ((i:Int)+1)) >>= _) _ _ s;refine Mf (O9 e1 d1 (by simp) ?_)
 have hi':(s.heap.update it (OQ (·.setIfInBounds 1 (N0 ((i:Int)+1))))).IsValIter it d (i+1) (es.toList.map (·.val)).length ep:=
  ⟨_,O7 _ e1 (Qx (OH d1 _)),(QZ ..).trans c1,by rw[OH d1];simp[N0]⟩
 refine Mf (Nc ?_);refine Mf (O5 (s:={ s with heap:=s.heap.update it (OQ (·.setIfInBounds 1 (N0 ((i:Int)+1)))) }) hi'.typeIs ?_)
 refine Mf (O5 (s:={ s with heap:=s.heap.update it (OQ (·.setIfInBounds 1 (N0 ((i:Int)+1)))) }) hi'.typeIs ?_);show Mo _ _ (pure es[i].val) _ _ _
 exact Ml (Ml ⟨_,rfl,Ml (val ▸ q _ hi' (Oy ..))⟩)
theorem Fz{Q:Option Mh->Mi->Prop}(hh:A.handled=none)(hi:s.heap.IsValIter it d i vs.length ep)(x:nQ s.heap d vs ep)(hv:vs[i]?=none)
  (q:∀ h',Heap.ExtBut it s.heap h'->Q none { s with heap:=h' }):Mo (Mt prog w) A (NM (.ref it)) Q E s:=by
 obtain⟨o,e1,c1,d1⟩:=id hi;obtain⟨od,es,e2,c2,d2,rfl⟩:=x;unfold NM;refine Mf (N5 (Nj (name:=Mj "__next__") hi.typeIs NG (Ni NG hi.typeIs PJ ?_ (PF _))));refine Mf (Ml ?_);refine Mf ?_;refine Mf ?_
 first|refine Mf (NH hi.typeIs (Ml ?_))|refine Mf (N3 hi.typeIs (Ml ?_))
 refine Mf (O_ e1 d1 ?_);have own:Nt "dict_valueiterator"=false:=by decide
 simp only[own,Bool.false_eq_true,if_false];show Mo _ _ (if (Value.ref d == Value.none)=true then _ else _) _ _ s;rw[if_neg (show ¬ ((Value.ref d == Value.none)=true)from Bool.false_ne_true)]
 refine Mf (Ml ?_);refine Mf (NT e2 d2 ?_);have z:es.size=(es.toList.map (·.val)).length:=by simp
 rw[if_neg (by rw[z];simp)];refine Mf (Ml ?_);refine Mf (N9 e2 d2 ?_)
 rw[if_neg (by simp)];refine Ml ?_
 have ge:es.size<=i:=by rw[z];simpa using hv
 simp only[show ¬ ((i:Int) < 0)from by walk_at "o",if_false,Int.toNat_natCast,Array.getElem?_eq_none ge];refine Mf ?_
 first|refine Mf (NH hi.typeIs (Ml ?_))|refine Mf (N3 hi.typeIs (Ml ?_))
 show Mo _ _ (Qy (.ref it) 0 .none >>= _) _ _ s;refine Mf (O9 e1 d1 (by simp) ?_)
 show Mo _ _ (newExc (.type "StopIteration") [] >>= _) _ _ _;refine Mf ?_
 simp only[newExc,newTuple];refine Mf (MX ?_ (by size_fits))
 refine Mf (m:=Pc _ _) (wpAny_of_eq (a:=Value.none) (by first|rfl|(simp only[Pc];rfl)) ?_);refine MX ?_ (by size_fits)
 simp only[raiseNew];refine Mf (wpAny_handled ?_);rw[show A.in1.handled=none from hh]
 refine Mf (Ml (wpAny_throw ?_));refine Mf (PK (T:="StopIteration") (b:=true) ⟨_,Mq _ rfl,rfl⟩ P5 ?_);exact Ml (q _ (((Oy ..).extBut.push _).push _))
theorem DJ(hh:A.handled=none)(hne:d≠it):Walks prog w A it [it,d] [it] vs.length (fun i v=>vs[i]?=some v) (fun i h=>h.IsValIter it d i vs.length ep/\nQ h d vs ep) where
 sub:=fun b hb=>by rw[Os.mp hb];exact MB
 frame:=fun _ _ _ t k=>⟨t.1.at fun o e=>k it MB o e,t.2.stay fun o e=>k d (Mz _ MB) o e⟩
 item:=fun i s Q E hi t q=>by
  obtain⟨v,hv⟩:∃ v,vs[i]?=some v:=⟨vs[i],by simp[hi]⟩
  refine DL t.1 t.2 hv fun h' a b=>?_;exact q v h' s.toks hv ⟨a,t.2.stay fun o e=>b.extBut d o hne e⟩ fun c o hc e=>b.extBut c o (fun z=>hc (by rw[z];exact MB)) e
 done:=fun s Q E t q=>Fz hh t.1 t.2 (by simp) fun h' b=>q h' s.toks fun c o hc e=>b c o (fun z=>hc (by rw[z];exact MB)) e
 self:=fun _ _ _ _ t q=>wpAny_pyIter_valiter t.1 q
theorem Fy:KdlSrc prog w "dict_values" r d vs.length (fun i v=>vs[i]?=some v) (fun h=>h.IsValuesView r d/\nQ h d vs ep) where
 type:=fun _ x=>x.1.typeIs
 there:=fun _ x=>⟨let ⟨_,e,_⟩:=x.1;Mx e,x.2.there⟩
 keep:=fun _ _ x k=>⟨let ⟨o,e,z⟩:=x.1;⟨o,k r (.inl rfl) o e,z⟩,x.2.stay fun o e=>k d (.inr rfl) o e⟩
 notList:=by decide
 notTuple:=by decide
 hint:=fun _ _ _ _ x q=>kdl_hint_values x.1.typeIs q
 iter:=fun _ _ hh x=>⟨_,_,(fun _ _ q=>DK x.1 x.2 q),DJ hh (MO x.2.there),⟨⟨_,Mq _ rfl,rfl,rfl⟩,x.2.stay fun o e=>Mn _ e⟩⟩
end
def XO(a:Mg)(o:Obj):HO:=.ext fun h=>h.get? a=some o
theorem GQ{P:Mw}{w:ME}{H:Hp}{h:MG}{a:Mg}{o:Obj}(e:h.get? a=some o):cg P w H h a (XO a o):=⟨e,⟨o,e⟩,fun _ _ p k=>k _ p⟩
section
variable{X:Cx}{pins:List (Mg×Obj)}{τ:St}{H H0:Hp}{s:Mi}{G:Gp}{a:Mg}{o:Obj}{u:HO}
theorem qy(I:Inv X pins τ H s)(e:H a=some (XO a o)):s.heap.get? a=some o:=(show cg X.prog X.w H s.heap a (XO a o)from I.hok a _ e).1
theorem wn{t':Nat}{h':MG}(I:Inv X pins τ H s)(ha:s.heap.objs.size=a)(hh:h'=s.heap.push o)(hf:o.isFreed=false:=by rfl):Inv X pins τ (bE H a (XO a o)) { s with heap:=h',toks:=t' }:=by
 subst ha hh;exact I.laid (fun _ _ e=>Mn _ e) (le_refl _) (GQ (Mq _ hf))
theorem ub{t':Nat}{o':Obj}{f:Obj->Obj}(I:Inv X pins τ H s)(e:H a=some (XO a o))(e':(s.heap.update a f).get? a=some o'):Inv X pins τ (bE H a (XO a o')) { s with heap:=s.heap.update a f,toks:=t' }:=
 I.write (x:=a) (e:=a) (by rw[e];exact trivial) (.inl rfl) (fun b u hb hu=>(Om s.heap f (Ne.symm hb)).trans hu) ⟨_,e'⟩ (GQ e')
theorem mX{K:PySem.W.Frag}(mu:Fa (H a)):Stb K H (bE H a u) where
 t:=fun b xs q=>by
  rcases q with (q|⟨z,q⟩)|q
  ·exact .inl (.inl (by rw[aA (fun e=>by subst e;rw[q]at mu;exact mu)];exact q))
  ·exact .inl (.inr ⟨z,by rw[aA (fun e=>by subst e;rw[q]at mu;exact mu)];exact q⟩)
  ·exact .inr q
 l:=fun b xs q=>by
  rcases q with ⟨z,q⟩|q
  ·exact .inl ⟨z,by rw[aA (fun e=>by subst e;rw[q]at mu;exact mu)];exact q⟩
  ·exact .inr q
theorem Bv{K:PySem.W.Frag}(rg:RG K H G)(g:G a=none)(mu:Fa (H a)):RG K (bE H a u) G:=fun b z q=>by
 obtain⟨h,e1,r⟩:=rg b z q;have hb:b≠a:=fun e=>by subst e;rw[q]at g;cases g
 exact⟨h,by rw[aA hb];exact e1,r.mono (mX mu)⟩
theorem zx(k:Kp G H0 G H)(n:H0 a=none):Kp G H0 G (bE H a u):=fun b h e g=>⟨by rw[aA (b7 e n)];exact (k b h e g).1,g⟩
theorem Gd{k:Nat}{f:Mg}{fd:Mr}{ps:List Str}{sp:cR}{d kd:D}{v:V}{x:Mh}{A:MA}{E:Mh->Mi->Prop}(F:FnOk X.prog X.w X.K X.mg X.base cU k f fd ps (ax X.K sp))(hb:eF X.K fd ps [])(hr:Room k A)(hA:Env0 X.prog X.w X.K X.mg X.base A X.stack s H)
  (I:Inv X pins τ H s) (rg:RG X.K H G) (rd:RD X.K H d v) (rv:aI v x) (hs:sp [d] G fun z G'=>z=kd/\G'=G) (nf:∀ l,kd≠.fl l) {Q:Mh->Mi->Prop}
  (q:∀ u v' H' s',Inv X pins τ H' s'->Kp G H G H'->RG X.K H' G->RD X.K H' kd v'->aI v' u->Q u s'):Mo (Mt X.prog X.w) A (call (.ref f) [x]) Q E s:=by
 have sp1:ax X.K sp [v] H (fun v' H'=>Kp G H G H'/\RG X.K H' G/\RD X.K H' kd v') (fun _ _ _=>False):=
  ⟨[d],G,_,RDs.cons rd RDs.nil,rg,hs,fun z G' v' H' e k1 rg1 re=>by obtain⟨rfl,rfl⟩:=e;exact⟨k1,rg1,re.rd nf⟩⟩
 have r2:Vals [v] [x]:=.cons rv .nil;have hl:([x] ++ ([]:List Mh)).length=ps.length:=by
  have:=F.len _ _ _ _ sp1
  simpa using this
 refine QK (OY (F.run A X.stack s H ⟨[x],[]⟩ ([x] ++ []) [v] _ _ hr hA (hb s [x] I.kIn hl) (by simpa using r2) sp1) fun r s' hq=>?_)
 cases r with
 | error e=>exact False.elim hq
 | ok fl=>
  cases fl with
  | ret u=>
   obtain⟨v',H',I',rv',k1,rg1,rd1⟩:=I.after hq;exact q u v' H' s' I' k1 rg1 rd1 rv'
  | next=>exact False.elim hq
  | brk=>exact False.elim hq
  | cont=>exact False.elim hq
end
theorem zy{X:Cx}{pins:List (Mg×Obj)}{τ:St}{H0:Hp}{G:Gp}{k:Nat}{f:Mg}{fd:Mr}{ps:List Str}{sp:cR}{A:MA}{E:Mh->Mi->Prop}(F:FnOk X.prog X.w X.K X.mg X.base cU k f fd ps (ax X.K sp))(hb:eF X.K fd ps [])(hr:Room k A)
  (hA:∀ {s H},Inv X pins τ H s->Env0 X.prog X.w X.K X.mg X.base A X.stack s H) {S D0:Mg} {oD:Obj} (nS:H0 S=none) (nD:H0 D0=none) (gS:G S=none) (gD:G D0=none) (hne:S≠D0)
  {body:Mh->PUnit->Sem (ForInStep PUnit)}
  (hbd:∀ x s Q,Mo (Mt X.prog X.w) A (call (.ref f) [x]) (fun u s'=>Mo (Mt X.prog X.w) A (Builtin.List.listUpdate (.ref S) (·.push u)) (fun _=>Q (.yield ⟨⟩)) E s') (fun _ _=>False) s->Mo (Mt X.prog X.w) A (body x ⟨⟩) Q E s):
  ∀ {ds ks:List D} {vs:List V} {us:List Mh},ks.length=ds.length->(∀ (i:Nat) d kd,ds[i]?=some d->ks[i]?=some kd->(sp [d] G fun z G'=>z=kd/\G'=G)/\∀ l,kd≠.fl l)->
   ∀ {H:Hp} {s:Mi} {done:List D} {kv:List V} {ku:List Mh} {n:Nat},Inv X pins τ H s->Kp G H0 G H->RG X.K H G->RDs X.K H ds vs->Vals vs us->H D0=some (XO D0 oD)->H S=some (XO S (NL "list" ku.toArray n))->RDs X.K H done kv->Vals kv ku->ku.length+us.length < 64->
   ∀ {Q:PUnit->Mi->Prop},(∀ H' s' kv' ku' n',Inv X pins τ H' s'->Kp G H0 G H'->RG X.K H' G->H' D0=some (XO D0 oD)->H' S=some (XO S (NL "list" ku'.toArray n'))->RDs X.K H' (done ++ ks) kv'->Vals kv' ku'->Stb X.K H H'->Q ⟨⟩ s')->
   Mo (Mt X.prog X.w) A (forIn us PUnit.unit body) Q E s
 | [],ks,vs,us,hl,hk,H,s,done,kv,ku,n,I,kp,rg,rds,rv,eD,eS,rdk,rvk,hz,Q,q=>by
  rw[rds.inv_nil]at rv;cases rv;rw[OR];have:ks=[]:=List.length_eq_zero_iff.mp (by simpa using hl)
  subst this;exact Ml (q H s kv ku n I kp rg eD eS (by rw[Nz];exact rdk) rvk ⟨fun _ _ z=>z,fun _ _ z=>z⟩)
 | d::ds,[],vs,us,hl,_,_,_,_,_,_,_,_,_,_,_,_,_,_,_,_,_,_,_=>by simp at hl
 | d::ds,kd::ks,vs,us,hl,hk,H,s,done,kv,ku,n,I,kp,rg,rds,rv,eD,eS,rdk,rvk,hz,Q,q=>by
  obtain⟨v,t,e,h1,h2⟩:=rds.inv_cons;subst e;cases rv with
  | @cons _ x _ us l rv=>
   rw[Oe];obtain⟨hs,nf⟩:=hk 0 d kd rfl rfl;refine Mf (hbd x s _ (Gd F hb hr (hA I) I rg h1 l hs nf fun u v' H' s' I' k1 rg1 rd1 rv1=>?_));have eS':=(k1 S _ eS gS).1;have eD':=(k1 D0 _ eD gD).1;have st1:=k1.stb rg;have oS:=qy I' eS';simp only[MD]at hz;refine Pn oS rfl ?_ (by rw[Mv,Nn];omega) (by rw[Array.size_push,Mv,Nn];omega)
   have ea:ku.toArray.push u=(ku ++ [u]).toArray:=by simp
   have e2:=O2 oS (·.push u);rw[ea]at e2;generalize (if ((ku ++ [u]).toArray.size == ku.toArray.size)=true then n else n+1)=n2 at e2
   have mu:Fa (H' S):=by rw[eS'];exact trivial
   have I2:=ub (t':=s'.toks) I' eS' e2;have st2:Stb X.K H' (bE H' S (XO S (NL "list" (ku ++ [u]).toArray n2))):=mX mu;refine zy F hb hr hA nS nD gS gD hne hbd (ds:=ds) (ks:=ks) (by simpa using hl) (fun i d' kd' a b=>hk (i+1) d' kd' (by simpa using a) (by simpa using b)) I2 (zx (kp.trans k1) nS) (Bv rg1 gS mu)
    (RDs.mono st2 _ _ (RDs.mono st1 _ _ h2)) rv (by rw[aA hne.symm];exact eD') aZ (done:=done ++ [kd]) (kv:=kv ++ [v']) (RDs.append (RDs.mono st2 _ _ (RDs.mono st1 _ _ rdk)) (RDs.cons (RD.mono st2 _ _ rd1) RDs.nil)) (rvk.append (.cons rv1 .nil)) (by simp;omega)
    fun H3 s3 kv3 ku3 n3 I3 kp3 rg3 eD3 eS3 rd3 rv3 st3=>q H3 s3 kv3 ku3 n3 I3 kp3 rg3 eD3 eS3 (by simpa using rd3) rv3 ⟨fun b xs z=>st3.t _ _ (st2.t _ _ (st1.t _ _ z)),fun b xs z=>st3.l _ _ (st2.l _ _ (st1.l _ _ z))⟩
section
variable{X:Cx}{pins:List (Mg×Obj)}{τ:St}{H H0:Hp}{s:Mi}{G:Gp}
theorem Ha(I:L2.Inv X pins τ H s){n:Nat}{A:MA}(hu:A.units+n < M5){b:Bool}{N1 N2:Nat}{Q:Bool->Mi->Prop}:
  ∀ {ds es:List D} {xs ys:List V} {us ws:List Mh} {i:Nat},(b && i == 0)=false->Kn n (EN n) ds es->RDs X.K H ds xs->RDs X.K H es ys->Vals xs us->Vals ys ws->ds.length+N2=es.length+N1->Q (d_ (mF n) ds es) s->
   KatLex X.prog X.w A b (decide (N1 < N2)) Q (us.zip ws) i s
 | [],es,xs,ys,us,ws,i,hb,c,r1,r2,w1,w2,hl,q=>by
  rw[r1.inv_nil]at w1;cases w1;rw[List.zip_nil_left];refine kat_nil ?_;cases es with
  | nil=>
   simp only[MS]at hl;rw[decide_eq_false (by walk_at "o")]
   exact q
  | cons b t=>
   simp only[MS,MD]at hl;rw[decide_eq_true (by walk_at "o")]
   exact q
 | a::r,[],xs,ys,us,ws,i,hb,c,r1,r2,w1,w2,hl,q=>by
  rw[r2.inv_nil]at w2;cases w2;rw[List.zip_nil_right];refine kat_nil ?_;simp only[MS,MD]at hl;rw[decide_eq_false (by walk_at "o")]
  exact q
 | a::r,b'::t,xs,ys,us,ws,i,hb,⟨p,c,z⟩,r1,r2,w1,w2,hl,q=>by
  obtain⟨x1,t1,e1,g1,g2⟩:=r1.inv_cons;subst e1;obtain⟨x2,t2,e2,f1,f2⟩:=r2.inv_cons;subst e2;cases w1 with
  | cons k1 w1=>
  cases w2 with
  | cons k2 w2=>
   rw[Oq];refine kat_cons ((ww I n p.1 p.2 g1 f1 k1 k2 hu).eq X.prog X.w _ _ (kat_go (fun e=>kat_yes ?_) fun e=>kat_no ?_))
   ·rw[show d_ (mF n) (a::r) (b'::t)=d_ (mF n) r t by simp[d_,e]]at q
    simp only[MD]at hl;exact Ha I hu (by simp) z g2 f2 w1 w2 (by walk_at "o") q
   ·rw[show d_ (mF n) (a::r) (b'::t)=mF n a b' by simp[d_,e]]at q
    rw[hb];refine kat_one _ _ ?_;exact (Ib I n (c fun y=>by rw[y,bu]at e;cases e) g1 f1 k1 k2 hu) X.prog X.w _ _ q
def CH(d:D):Prop:=∃ t r,d=.tup (.int t::r)
theorem KG(I:L2.Inv X pins τ H s){A:MA}(hu:A.units+4 < M5){kx ky:D}{v u:V}{v' u':Mh}(cp:EN 4 kx ky)(hx:CH kx)(hy:CH ky)(rx:RD X.K H kx v)(ry:RD X.K H ky u)(lx:aI v v')(ly:aI u u'){C:Bool->Mi->Prop}{E:Mh->Mi->Prop}
  (q:C (mF 4 kx ky) s):Mo (Mt X.prog X.w) A (keyLt' (tuples' true) v' u') C E s:=by
 obtain⟨i,r,rfl⟩:=hx;obtain⟨j,t,rfl⟩:=hy;simp only[RD]at rx ry;obtain⟨a,xs,rfl,s1,r1⟩:=rx;obtain⟨b,ys,rfl,s2,r2⟩:=ry;cases lx;cases ly;obtain⟨its,w1,⟨o1,h1,c1,n1,d1⟩,z1⟩:=I.tuple s1;obtain⟨its2,w2,⟨o2,h2,c2,n2,d2⟩,z2⟩:=I.tuple s2;refine kat_lt h1 d1 h2 d2 ?_;have l1:=w1.length;have l1':=r1.length;have l2:=w2.length;have l2':=r2.length;obtain⟨x1,t1,e1,g1,g2⟩:=RDs.inv_cons (d:=.int i) (ds:=r) r1;subst e1;obtain⟨x2,t2,e2,f1,f2⟩:=RDs.inv_cons (d:=.int j) (ds:=t) r2;subst e2;simp only[RD]at g1 f1;subst g1 f1;cases w1 with
 | @cons _ u1 _ m1 k1 w1=>
 cases w2 with
 | @cons _ u2 _ m2 k2 w2=>
  obtain⟨tk,rfl⟩:=k1;obtain⟨tk',rfl⟩:=k2;obtain⟨p,c,z⟩:=(show Kn 3 (EN 3) (.int i::r) (.int j::t)from cp)
  have q':C (d_ (mF 3) (.int i::r) (.int j::t)) s:=q;show KatLex _ _ _ _ _ _ ((_::m1).zip (_::m2)) 0 s
  rw[Oq];refine kat_cons ((ww I 3 (x:=.int i) (y:=.int j) (v:=.int i) (u:=.int j) p.1 p.2 dw dw ⟨tk,rfl⟩ ⟨tk',rfl⟩ (by walk_at "o")).eq X.prog X.w _ _ (kat_go (fun e=>kat_yes ?_) fun e=>kat_no ?_))
  ·rw[show d_ (mF 3) (.int i::r) (.int j::t)=d_ (mF 3) r t by simp[d_,e]]at q'
   simp only[MD]at l1 l1' l2 l2';exact Ha I (by walk_at "o") (by simp) z g2 f2 w1 w2 (by simp only[Mv,MD];omega) q'
  ·rw[show d_ (mF 3) (.int i::r) (.int j::t)=mF 3 (.int i) (.int j)by simp[d_,e]]at q'
   show Mo _ _ (oneLt' true _ _) _ _ _
   exact oneLt_int q'
theorem Ix(I:L2.Inv X pins τ H s){A:MA}{E:Mh->Mi->Prop}{Q:SortKind->Mi->Prop}{ks:List D}{kv:List V}{ku:List Mh}(hk:∀ d∈ks,CH d)(r:RDs X.K H ks kv)(w:Vals kv ku)(hn:0 < ks.length)(q:Q (tuples' true) s):
  Mo (Mt X.prog X.w) A (keyKind' ku.toArray) Q E s:=by
 have go:∀ {ks:List D} {kv:List V} {ku:List Mh},(∀ d∈ks,CH d)->RDs X.K H ks kv->Vals kv ku->∃ fs,KatTups s.heap ku fs/\fs.length=ks.length/\∀ v∈fs,∃ i t,v=Value.int i t:=by
  intro ks
  induction ks with
  | nil=>
   intro kv ku _ r w;rw[r.inv_nil]at w;cases w;exact⟨[],KatTups.nil,rfl,fun v hv=>by simp at hv⟩
  | cons d t ih=>
   intro kv ku hk r w;obtain⟨x1,t1,e1,g1,g2⟩:=r.inv_cons;subst e1;cases w with
   | cons k1 w=>
    obtain⟨fs,h1,h2,h3⟩:=ih (fun d hd=>hk d (Mz _ hd)) g2 w;obtain⟨i,rr,rfl⟩:=hk d MB;simp only[RD]at g1;obtain⟨a,xs,rfl,s1,r1⟩:=g1;cases k1;obtain⟨its,w1,⟨o1,e1,c1,n1,d1⟩,z1⟩:=I.tuple s1;obtain⟨y1,u1,e2,g3,_⟩:=RDs.inv_cons (d:=.int i) (ds:=rr) r1;subst e2;simp only[RD]at g3;subst g3;cases w1 with
    | cons k2 w1=>
     obtain⟨tk,rfl⟩:=k2;refine⟨.int i tk::fs,KatTups.cons e1 c1 d1 (by simp) h1,by simp[h2],fun v hv=>?_⟩
     rcases MV.mp hv with rfl|hv
     ·exact⟨i,tk,rfl⟩
     ·exact h3 v hv
 obtain⟨fs,h1,h2,h3⟩:=go hk r w;refine kat_kind (T:=.type "int") h1 (by walk_at "o") (fun v hv=>?_) (by decide) ?_
 ·obtain⟨i,t,rfl⟩:=h3 v hv;exact Looks.of_pure rfl
 ·rw[show (Value.type "int" != Value.type "tuple")=true by decide]
  exact q
end
section
variable{X:Cx}{pins:List (Mg×Obj)}{τ:St}{H H0:Hp}{s:Mi}{G:Gp}{S D0:Mg}{A:MA}{E:Mh->Mi->Prop}{P:PySem.Fin->Mi->Prop}
theorem yC(I:L2.Inv X pins τ H s)(rg:RG X.K H G)(kp:Kp G H0 G H)(nS:H0 S=none)(nD:H0 D0=none)(gS:G S=none)(gD:G D0=none)(hne:S≠D0){e1 n:Nat}{ku out:List Mh}{ov:List V}{st:SortSt}
  (eD:H D0=some (XO D0 (NL "list" #[] e1))) (eS:H S=some (XO S (NL "list" ku.toArray n))) (hz:ku.length < 64) (ho:(arrOf st).map (·.2)=out.toArray) (hf:failedOf st=none) (hv:Vals ov out) (hl:out.length < 64)
  (q:∀ H' s',L2.Inv X pins τ H' s'->Kp G H0 G H'->RG X.K H' G->H' D0=some (.lst ov)->Stb X.K H H'->P (.done (.ret .none)) s'):Mo (Mt X.prog X.w) A (ksk_tail D0 false e1 (.ref S) st) P E s:=by
 unfold ksk_tail;dsimp only;rw[ho];simp only[Bool.false_eq_true,if_false];have oS:=qy I eS;have e2:=O2 oS (fun _=>(#[]:Array Mh));have mu:Fa (H S):=by rw[eS];exact trivial
 have I1:=ub (t':=s.toks) I eS e2;have eD1:(bE H S (XO S (NL "list" #[] (if ((#[]:Array Mh).size == ku.toArray.size)=true then n else n+1)))) D0=some (XO D0 (NL "list" #[] e1)):=by rw[aA hne.symm];exact eD
 have oD:=qy I1 eD1;have mu2:Fa ((bE H S (XO S (NL "list" #[] (if ((#[]:Array Mh).size == ku.toArray.size)=true then n else n+1)))) D0):=by rw[eD1];exact trivial
 have e3:=O2 oD (fun _=>out.toArray);refine Mf (Pn oS rfl ?_ (by rw[Mv,Nn];omega) (M6 _))
 refine Mf (PP ?_);refine Mf (seqEpoch_at oD rfl ?_);refine Mf (Pn oD rfl ?_ (M6 _) (by rw[Mv,Nn];omega))
 rw[hf];simp only[bne_self_eq_false,Bool.false_eq_true,if_false];have I2:=I1.write (x:=D0) (e:=D0) (o:=.lst ov) (t':=s.toks) mu2 (.inl rfl) (fun b u hb hu=>(Om _ (NE fun _=>out.toArray) (Ne.symm hb)).trans hu) ⟨_,e3⟩ ⟨by rw[hv.length,Nn];omega,out,_,hv,e3⟩
 refine Ml (q _ _ I2 (zx (zx kp nS) nD) (Bv (Bv rg gS mu) gD mu2) aZ ?_);exact⟨fun b xs z=>(mX mu2).t _ _ ((mX mu).t _ _ z),fun b xs z=>(mX mu2).l _ _ ((mX mu).l _ _ z)⟩
theorem CO{vs:List V}{us:List Mh}(w:Vals vs us)(i:Nat)(hi:i < vs.length):aI (vs.getD i .non) (us.getD i .none):=by
 have hl:=w.length;obtain⟨v,e,r⟩:=Vals.getV (i:=i) (u:=us[i]'(by walk_at "o")) w (by simp)
 rw[MI,MI,e,Ms (by walk_at "o")]
 exact r
theorem zk{vs:List V}{us:List Mh}(w:Vals vs us):∀ {p:List Nat},(∀ i∈p,i < vs.length)->Vals (p.map fun i=>vs.getD i .non) (p.map fun i=>us.getD i .none)
 | [],_=>.nil
 | i::r,h=>.cons (CO w i (h i MB)) (zk w fun j hj=>h j (Mz _ hj))
theorem ED{K:PySem.W.Frag}{ds:List D}{vs:List V}(r:RDs K H ds vs)(i:Nat)(hi:i < vs.length):RD K H (ds.getD i .non) (vs.getD i .non):=by
 obtain⟨d,e,q⟩:=RDs.getV (i:=i) r (Ms hi);rw[MI,MI,e,Ms hi];exact q
theorem BE{K:PySem.W.Frag}{ds:List D}{vs:List V}(r:RDs K H ds vs):∀ {p:List Nat},(∀ i∈p,i < vs.length)->RDs K H (p.map fun i=>ds.getD i .non) (p.map fun i=>vs.getD i .non)
 | [],_=>RDs.nil
 | i::t,h=>RDs.cons (ED r i (h i MB)) (BE r fun j hj=>h j (Mz _ hj))
theorem range_getD{α:Type}(l:List α)(d:α):(List.range l.length).map (fun i=>l.getD i d)=l:=by
 refine List.ext_getElem (by simp) fun i h1 h2=>?_
 simp[h2]
theorem Gs(I:L2.Inv X pins τ H s)(rg:RG X.K H G)(kp:Kp G H0 G H)(nS:H0 S=none)(nD:H0 D0=none)(gS:G S=none)(gD:G D0=none)(hne:S≠D0){e1 n:Nat}{ks:List D}{kv vs:List V}{ku us:List Mh}
  (eD:H D0=some (XO D0 (NL "list" #[] e1))) (eS:H S=some (XO S (NL "list" ku.toArray n))) (rk:RDs X.K H ks kv) (wk:Vals kv ku) (wv:Vals vs us) (hl:ku.length=us.length) (hz:us.length < 64) (hu:A.units+4 < M5)
  (hk:∀ d∈ks,CH d) (hc:∀ a∈ks,∀ b∈ks,EN 4 a b) (r:Nat->Nat) (hr:∀ i j a b,ks[i]?=some a->ks[j]?=some b->mF 4 a b=decide (r i < r j))
  (q:∀ (p:List Nat) H' s',p.Perm (List.range us.length)->(p.map r).Pairwise (·<=·)->L2.Inv X pins τ H' s'->Kp G H0 G H'->RG X.K H' G->H' D0=some (.lst (p.map fun i=>vs.getD i .non))->Stb X.K H H'->P (.done (.ret .none)) s'):
  Mo (Mt X.prog X.w) A (ksk_end D0 false us.toArray e1 (.ref S) ku.toArray) P E s:=by
 have lk:=wk.length;have lk':=rk.length;have lv:=wv.length;unfold ksk_end;dsimp only;simp only[Bool.false_eq_true,if_false]
 by_cases h2:us.length < 2
 ·have hs:us.toArray.size < 2:=by rw[Mv];exact h2
  rw[if_pos hs,if_pos hs];refine Mf (Ml ?_);refine Mf (Ml ?_);refine yC I rg kp nS nD gS gD hne eD eS (by walk_at "o") (out:=us) (ov:=vs) (st:=SortSt.mk' general' (ku.toArray.zip us.toArray) #[] 7 none) ?_ rfl wv hz fun H' s' I' kp' rg' e' st'=>?_
  ·apply Array.toList_inj.mp;show ((ku.toArray.zip us.toArray).map (·.2)).toList=_
   rw[Array.toList_map,ksk_zip];simp[List.map_snd_zip,hl]
  ·refine q (List.range us.length) H' s' (List.Perm.refl _) ?_ I' kp' rg' (by rw[<- lv,range_getD];exact e') st'
   have:us.length=0\/us.length=1:=by walk_at "o"
   rcases this with e|e<;>rw[e]<;>simp[List.range_succ]
 ·have hs:¬ us.toArray.size < 2:=by rw[Mv];exact h2
  rw[if_neg hs,if_neg hs];obtain⟨p,ep,hp,adj⟩:=Fp r us.length (by walk_at "o")
  refine Mf (Ix I hk rk wk (by walk_at "o") ?_)
  refine Mf (M7 (kat_run (Q:=fun st' s'=>∃ p':Array Nat,arrOf st'=p'.map (kas_item (ku.toArray.zip us.toArray))/\failedOf st'=none/\s'=s/\p'=p) hl (by walk_at "o") hz (G:=fun p' s'=>s'=s/\p'=p)
   (fun p' st' s' a1 a2 a3 a4=>⟨p',a2,a3,a4.1,a4.2⟩) ?_) ?_ fun _ _ x=>x)
  ·refine KasT.walked (lt:=mJ r) (J:=fun s'=>s'=s) (fun i j C s' hi hj e c=>?_) _ s (Fq (by walk_at "o")) rfl fun s' e _=>⟨e,ep⟩
   subst e;unfold kas_ask;obtain⟨v1,f1,g1⟩:=Vals.getV (i:=i) (u:=ku[i]'(by walk_at "o")) wk (by simp)
   obtain⟨v2,f2,g2⟩:=Vals.getV (i:=j) (u:=ku[j]'(by walk_at "o")) wk (by simp)
   obtain⟨d1,b1,c1⟩:=RDs.getV rk f1;obtain⟨d2,b2,c2⟩:=RDs.getV rk f2;have m1:=MC b1;have m2:=MC b2;rw[show ku.getD i Value.none=ku[i]'(by walk_at "o")by simp[show i < ku.length by walk_at "o"],show ku.getD j Value.none=ku[j]'(by walk_at "o")by simp[show j < ku.length by walk_at "o"]]
   refine KG I hu (hc _ m1 _ m2) (hk _ m1) (hk _ m2) c1 c2 g1 g2 ?_;rw[hr i j d1 d2 b1 b2];exact c _ rfl
  ·rintro⟨⟨⟩,st'⟩ s' ⟨p',har,hf,rfl,rfl⟩
   dsimp only;have lp:p'.toList.length=us.length:=by rw[hp.length_eq,List.length_range]
   have inr:∀ i∈p'.toList,i < us.length:=fun i hi=>mem_range.mp (hp.mem_iff.mp hi);refine yC I rg kp nS nD gS gD hne eD eS (by walk_at "o") (out:=p'.toList.map fun i=>us.getD i Value.none) (ov:=p'.toList.map fun i=>vs.getD i .non) (kat_snds hl har) hf (zk wv fun i hi=>by rw[lv];exact inr i hi) (by rw[Mm,lp];exact hz) fun H' s' I' kp' rg' e' st'=>?_
   refine q p'.toList H' s' hp ?_ I' kp' rg' e' st';rw[List.pairwise_map,List.pairwise_iff_getElem];intro i j hi hj hij;have h:=adj.le (le_of_lt hij) (by walk_at "o")
   unfold RR at h;have gi:p'.getD i 0=p'.toList[i]:=by
    have:i < p'.size:=by simpa using hi
    simp[Array.getD,this]
   have gj:p'.getD j 0=p'.toList[j]:=by
    have:j < p'.size:=by simpa using hj
    simp[Array.getD,this]
   rw[gi,gj]at h;exact h
end
structure SortBy(sp:cR)(G:Gp)(ds:List D)(ks:List D)(r:Nat->Nat):Prop where
 few:ds.length < 64
 len:ks.length=ds.length
 key:∀ (i:Nat) d kd,ds[i]?=some d->ks[i]?=some kd->sp [d] G fun z G'=>z=kd/\G'=G
 ki:∀ d∈ks,CH d
 cp:∀ a∈ks,∀ b∈ks,EN 4 a b
 lt:∀ i j a b,ks[i]?=some a->ks[j]?=some b->mF 4 a b=decide (r i < r j)
section
variable{X:Cx}{pins:List (Mg×Obj)}{τ:St}{H H0:Hp}{s:Mi}{G:Gp}{S D0:Mg}{A:MA}{E:Mh->Mi->Prop}{P:PySem.Fin->Mi->Prop}
 {k:Nat} {f:Mg} {fd:Mr} {ps:List Str} {sp:cR} {ds ks:List D} {r:Nat->Nat} {vs:List V} {us:List Mh}
theorem DG(F:FnOk X.prog X.w X.K X.mg X.base cU k f fd ps (ax X.K sp))(hb:eF X.K fd ps [])(hr:Room k A)(hA:∀ {s H},L2.Inv X pins τ H s->Env0 X.prog X.w X.K X.mg X.base A X.stack s H)(sb:SortBy sp G ds ks r)(hu:A.units+4 < M5)
  (I:L2.Inv X pins τ H s) (rg:RG X.K H G) (kp:Kp G H0 G H) (nS:H0 S=none) (nD:H0 D0=none) (gS:G S=none) (gD:G D0=none) (hne:S≠D0) {e1:Nat}
  (eD:H D0=some (XO D0 (NL "list" #[] e1))) (eS:H S=some (XO S (NL "list" #[] 0))) (rd:RDs X.K H ds vs) (wv:Vals vs us)
  (q:∀ (p:List Nat) H' s',p.Perm (List.range ds.length)->(p.map r).Pairwise (·<=·)->L2.Inv X pins τ H' s'->Kp G H0 G H'->RG X.K H' G->H' D0=some (.lst (p.map fun i=>vs.getD i .non))->Stb X.K H H'->P (.done (.ret .none)) s'):
  Mo (Mt X.prog X.w) A (ksk_rest D0 (.ref f) false us.toArray e1 (.ref S)) P E s:=by
 have l1:=rd.length;have l2:=wv.length;have few:=sb.few;unfold ksk_rest;refine Mf (Po ?_)
 first
  | rw[List.forIn_toArray]
  | (rw[<- Array.forIn_toList];simp only[List.toList_toArray])
  | rw[<- Array.forIn_toList]
 refine Mf (zy F hb hr hA nS nD gS gD hne (fun x s' Q' h=>?_) sb.len (fun i d kd a b=>⟨sb.key i d kd a b,fun l e=>?_⟩) I kp rg rd wv eD (ku:=[]) (n:=0) (done:=[]) (kv:=[]) eS RDs.nil .nil (by simp only[MS];omega)
  fun H' s' kv' ku' n' I' kp' rg' eD' eS' rk wk st=>?_)
 ·refine Mf (N5 (M7 h (fun u s'' hu'=>?_) fun _ _ hF=>hF.elim));dsimp only;exact Mf (M7 hu' (fun _ s3 hq=>Ml hq) fun _ _ x=>x)
 ·obtain⟨t,rr,e2⟩:=sb.ki kd (MC b);rw[e2]at e;cases e
 ·have l3:=rk.length;have l4:=wk.length;have sl:=sb.len;simp only[Od]at rk l3;refine Mf (listItems_at (qy I' eS') rfl ?_);refine Gs I' rg' kp' nS nD gS gD hne eD' eS' rk wk wv (by walk_at "o") (by walk_at "o") hu sb.ki sb.cp r sb.lt fun p H'' s'' hp hs I'' U3 UY e'' st''=>?_
  refine q p H'' s'' (by rw[show ds.length=us.length by walk_at "o"];exact hp) hs I'' U3 UY e'' ⟨fun b xs z=>st''.t _ _ (st.t _ _ z),fun b xs z=>st''.l _ _ (st.l _ _ z)⟩
theorem Dp(F:FnOk X.prog X.w X.K X.mg X.base cU k f fd ps (ax X.K sp))(hb:eF X.K fd ps [])(hr:Room k A)(hA:∀ {s H},L2.Inv X pins τ H s->Env0 X.prog X.w X.K X.mg X.base A X.stack s H)(sb:SortBy sp G ds ks r)(hu:A.units+4 < M5)
  (I:L2.Inv X pins τ H s) (rg:RG X.K H G) (kp:Kp G H0 G H) (h0:∀ a,H a=none->H0 a=none) (nD:H0 D0=none) (gD:G D0=none) {n:Nat}
  (eD:H D0=some (XO D0 (NL "list" us.toArray n))) (rd:RDs X.K H ds vs) (wv:Vals vs us)
  (q:∀ (p:List Nat) H' s',p.Perm (List.range ds.length)->(p.map r).Pairwise (·<=·)->L2.Inv X pins τ H' s'->Kp G H0 G H'->RG X.K H' G->H' D0=some (.lst (p.map fun i=>vs.getD i .non))->Stb X.K H H'->P (.done (.ret .none)) s'):
  Mo (Mt X.prog X.w) A (ksk_tree D0 (.ref f) false) P E s:=by
 have l1:=rd.length;have l2:=wv.length;have few:=sb.few;have oD:=qy I eD;have mu:Fa (H D0):=by rw[eD];exact trivial
 have e2:=O2 oD (fun _=>(#[]:Array Mh));generalize (if ((#[]:Array Mh).size == us.toArray.size)=true then n else n+1)=e1 at e2
 have I1:=ub (t':=s.toks) I eD e2;unfold ksk_tree;refine Mf (listItems_at oD rfl ?_);refine Mf (Pn oD rfl ?_ (by rw[Mv,Nn];omega) (M6 _))
 refine Mf (seqEpoch_at e2 rfl ?_);refine Mf (P3 ?_ (by show us.length<=_;rw[Nn];omega))
 refine Mf (wpAny_newList ?_ (M6 _));refine Nc ?_;have I2:L2.Inv X pins τ _ { s with heap:=(s.heap.update D0 (NE fun _=>#[])).push { cls:=.type "tuple",data:=.seq us.toArray } }:=I1.kept (t':=s.toks) fun b u e=>Mn _ e
 have fS:=I2.fresh;have I3:=wn (t':=s.toks) (o:=NL "list" #[] 0) I2 rfl rfl;have hS0:H ((s.heap.update D0 (NE fun _=>(#[]:Array Mh))).push { cls:=.type "tuple",data:=.seq us.toArray }).objs.size=none:=by
  by_cases e:((s.heap.update D0 (NE fun _=>(#[]:Array Mh))).push { cls:=.type "tuple",data:=.seq us.toArray }).objs.size=D0
  ·rw[e]at fS;rw[aZ]at fS;cases fS
  ·rw[aA e]at fS;exact fS
 have hne:((s.heap.update D0 (NE fun _=>(#[]:Array Mh))).push { cls:=.type "tuple",data:=.seq us.toArray }).objs.size≠D0:=fun e=>by rw[e,eD]at hS0;cases hS0
 have rg1:RG X.K (bE H D0 (XO D0 (NL "list" #[] e1))) G:=Bv rg gD mu;have st1:Stb X.K H (bE H D0 (XO D0 (NL "list" #[] e1))):=mX mu;have st2:Stb X.K (bE H D0 (XO D0 (NL "list" #[] e1))) (bE (bE H D0 (XO D0 (NL "list" #[] e1))) ((s.heap.update D0 (NE fun _=>(#[]:Array Mh))).push { cls:=.type "tuple",data:=.seq us.toArray }).objs.size (XO ((s.heap.update D0 (NE fun _=>(#[]:Array Mh))).push { cls:=.type "tuple",data:=.seq us.toArray }).objs.size (NL "list" #[] 0))):=(Kp.laid (G:=G) fS).stb rg1;refine DG F hb hr hA sb hu I3 (rg1.laid fS) (zx (zx kp nD) (h0 _ hS0)) (h0 _ hS0) nD (rg.free hS0) gD hne (by rw[aA hne.symm,aZ]) aZ (RDs.mono st2 _ _ (RDs.mono st1 _ _ rd)) wv fun p H' s' hp hs I' kp' rg' e' st'=>?_
 exact q p H' s' hp hs I' kp' rg' e' ⟨fun b xs z=>st'.t _ _ (st2.t _ _ (st1.t _ _ z)),fun b xs z=>st'.l _ _ (st2.l _ _ (st1.l _ _ z))⟩
theorem Am{d vw:Mg}{Q:Mh->Mi->Prop}(F:FnOk X.prog X.w X.K X.mg X.base cU k f fd ps (ax X.K sp))(hb:eF X.K fd ps [])(hr:Room (k+2) X.A)(sb:SortBy sp G ds ks r)(hu:X.A.units+8 < M5)(hh:X.A.handled=none)
  (I:L2.Inv X pins τ H s) (rg:RG X.K H G) {ep:Nat} (hv:s.heap.IsValuesView vw d) (dr:nQ s.heap d us ep) (rd:RDs X.K H ds vs) (wv:Vals vs us)
  (q:∀ (p:List Nat) D0 H' s',p.Perm (List.range ds.length)->(p.map r).Pairwise (·<=·)->L2.Inv X pins τ H' s'->Kp G H G H'->RG X.K H' G->H D0=none->H' D0=some (.lst (p.map fun i=>vs.getD i .non))->RDs X.K H' (p.map fun i=>ds.getD i .non) (p.map fun i=>vs.getD i .non)->Q (.ref D0) s'):
  Mo (Mt X.prog X.w) X.A (call (.builtin "sorted") [.ref vw] [(Mj "key",.ref f)]) Q E s:=by
 have l1:=rd.length;have l2:=wv.length;have few:=sb.few;refine call_function_entry_kw kind_sorted plain_sorted entry_sorted (ksk_s1 _ _) ?_;unfold Builtin.«sorted»;refine Mf (m:=checkCount "sorted" 1 1 _) (Ml ?_);refine Mf (kdu_collect (A:=X.A.in1) (Fy (r:=vw) (d:=d) (vs:=us) (ep:=ep)) hh ⟨hv,dr⟩ (by rw[Nn];omega) fun h' tk acc hk hacc=>?_)
 have ea:acc.toList=us:=by
  refine List.ext_getElem? fun i=>?_;rcases N6 i acc.size with h|h
  ·have e:acc[i]?=some acc[i]:=by simp[h]
   have:=hacc.2 i _ e;rw[this];simp[h]
  ·rw[NY (by simpa using h),NY (by rw[<- hacc.1];exact h)]
 rw[ea];have I1:L2.Inv X pins τ H { s with heap:=h',toks:=tk }:=I.kept hk
 refine Mf (wpAny_newList ?_ (by rw[Nn];omega))
 have fD:=I1.fresh;have I2:=wn (t':=tk) (o:=NL "list" us.toArray 0) I1 rfl rfl;have st:Stb X.K H (bE H h'.objs.size (XO h'.objs.size (NL "list" us.toArray 0))):=(Kp.laid (G:=G) fD).stb rg;refine Mf (Nc (wpAny_call_entry_kw slot_list_sort ⟨_,qy I2 aZ,rfl⟩ entry_list_sort ?_ (ksk_l1 _ _)));rw[ksk_t1];refine Dp F hb (hr.in1.in1) (fun J=>J.env0.in1.in1) sb (by show X.A.units+1+1+4 < M5;omega) I2 (rg.laid fD) (Kp.laid fD) (fun a e=>?_) fD (rg.free fD) aZ (RDs.mono st _ _ rd) wv fun p H' s' hp hs I' kp' rg' e' st'=>⟨_,rfl,?_⟩
 ·by_cases h:a=h'.objs.size
  ·subst h;exact fD
  ·rw[aA h]at e;exact e
 ·refine Ml ⟨_,rfl,q p _ H' s' hp hs I' kp' rg' fD e' (BE (RDs.mono st' _ _ (RDs.mono st _ _ rd)) fun i hi=>?_)⟩;rw[<- l1];exact mem_range.mp (hp.mem_iff.mp hi)
end
def Bd(sp:cR)(to:bR):bR:=fun σ G Q=>to σ G fun x G1=>match val x with
 | .ref a=>match G1 a with
  | some (.dT _ kvs)=>∃ ks r,SortBy sp G1 (kvs.map (·.2)) ks r/\∀ p:List Nat,p.Perm (List.range (kvs.map (·.2)).length)->(p.map r).Pairwise (·<=·)->Q (.fl (p.map fun i=>(kvs.map (·.2)).getD i .non)) G1
  | _=>False
 | _=>False
theorem DD{K:PySem.W.Frag}{H:Hp}{kvs:List (List aJ×D)}{xs:List (List aJ×Mg×Mh)}(r:pD K H kvs xs):∃ vs,RDs K H (kvs.map (·.2)) vs/\Vals vs (xs.map (·.2.2)):=by
 unfold pD at r
 induction r with
 | nil=>exact⟨[],RDs.nil,.nil⟩
 | cons h _ ih=>
  obtain⟨_,_,v,h1,h2⟩:=h;obtain⟨vs,a,b⟩:=ih;exact⟨v::vs,RDs.cons h1 a,.cons h2 b⟩
theorem FV{X:Cx}{k:Nat}{f:Str}{sp:cR}{o:MJ}{to:bR}{p0 apos cpos np UQ pos:Pos}(F:Fn3 X.prog X.w X.K X.mg X.base k f [] sp)(hr:Room (k+2) X.A)(hc:X.calm=true)(hgf:Gl X f)(hg:Gl X "sorted")(hm:X.mg "sorted"=none)(ho:PE X o (aE X.K to))
  (T8:ND o "values" X.env (eval o X.env)=eval o X.env:=by rfl) (T5:(apos.endLine == cpos.line)=true:=by rfl) (hdf:(f == ("__debug__":Str))=false:=by decide):
  PE X (.Call (.Name "sorted" p0) [.Call (.Attribute o "values" apos) [] [] cpos] [⟨some "key",.Name f np,UQ⟩] pos) (aE X.K (Bd sp to)):=by
 obtain⟨fa,fd,ps,dv,dvs,ok,hmf,_,hb,hv0,hd0⟩:=F.ex;have e0:dvs=[]:=(hd0 (fun _=>none)).inv_nil;subst e0;cases hv0;have hu:=hr.units
 rintro pins s τ H Q I ⟨σ,G,Q3,rs,rg,h,kf⟩
 refine Oc (jc I hg hm (u:=.builtin "sorted") (by decide +kernel) ?_ (by decide) (by decide))
 refine callWith_kw (id:="sorted") ?_;show Mo _ _ (spliced [(false,eval (.Call (.Attribute o "values" apos) [] [] cpos) X.env)]) _ _ _
 refine NO (wpAny_Call_method0_late T8 T5 (cI (eA ho I rs rg h) fun ov s1 zz=>?_));obtain⟨ox,H1,I1,rox,x,G1,q1,k1,rg1,rd1⟩:=zz;split at q1
 ·rename_i a hx;rw[hx]at rd1;simp only[RD]at rd1;subst rd1;cases rox;split at q1
  ·rename_i hw kvs hga;obtain⟨ks,r,sb,q1⟩:=q1;obtain⟨hob,eo,ro⟩:=rg1 a _ hga;cases hob with
   | ext φ=>
    obtain⟨xs,rfl,rt,nd,hz⟩:=ro;obtain⟨hsm,o1,es,ep,g1,g2,g3,g4⟩:=(show cg X.prog X.w H1 s1.heap a (.ext (yw hw a xs))from I1.hok a _ eo).1
    obtain⟨vs,rv,wv⟩:=DD rt;have dr:nQ s1.heap a (xs.map (·.2.2)) ep:=⟨o1,es,g1,g2,g3,by rw[g4,MY];rfl⟩
    refine⟨"dict","dict.values",PySem.F.plainAttrs_dict,PySem.F.slot_dict_values,PySem.F.type_dict_values,dr.ty,fun b e=>?_,?_⟩
    ·cases e;exact⟨o1,g1,g2.2.1⟩
    ·refine O1 rfl (PySem.evalArgs_none (Pz PySem.F.slot_dict_values dr.ty PySem.F.entry_dict_values (PySem.F.args_dict_values_1 _) (Az hsm) ⟨⟨_,ep,dr⟩,?_⟩));refine On ?_;have I2:L2.Inv X pins τ H1 { s1 with heap:=s1.heap.push { cls:=.type "dict_values",data:=.fields #[.ref a] } }:=I1.kept (t':=s1.toks) fun b u e=>Mn _ e
     show Mo _ _ (evalAll [(do let v <- eval (.Name f np) X.env;Oz pos;pure v)]) _ _ _
     refine wpAny_evalAll_cons (Mf (rW I2 hgf hmf (Mf (Pl (Ml (wpAny_evalAll_nil ?_)))) hdf));show Mo _ _ (call (.builtin "sorted") [.ref s1.heap.objs.size] [(Mj "key",.ref fa)]) _ _ _
     refine Am ok hb hr sb (by walk_at "o") (I.ok.hd hc) I2 rg1 (ep:=ep) ⟨_,Mq _ rfl,rfl,rfl⟩ (dr.stay fun b e=>Mn _ e) rv wv fun p D0 H' s' hp hs I' kp' rg' n0 e' rd'=>?_
     exact⟨.ref D0,H',I',rfl,kf _ G1 _ H' (q1 p hp hs) (k1.trans kp') rg' (.inl ⟨_,D0,_,rfl,rfl,e',rg1.free n0,rd',k1.fr (rZ n0)⟩)⟩
   | _=>exact ro.elim
  ·exact q1.elim
 ·exact q1.elim
def Kj(te:bR):bR:=fun σ G Q=>te σ G fun x G1=>match rU G1 (val x) with
 | some ds=>Q (.fl ds.reverse) G1
 | none=>False
def IR(to:bR):bR:=fun σ G Q=>to σ G fun x G1=>match x with
 | .ref a=>match G1 a with
  | some (.lst _)=>Q .non (gset G1 a (.lst []))
  | _=>False
 | _=>False
def JU{α:Type}(xs:List α)(lo hi st:Option Int):List α:=
 (QO (NJ lo hi st xs.length).1 (NJ lo hi st xs.length).2.1 (NJ lo hi st xs.length).2.2).filterMap (xs[·]?)
def Kg(te:bR)(tl th ts:Jk):bR:=fun σ G Q=>te σ G fun x G1=>tl σ G1 fun l G2=>th σ G2 fun u G3=>ts σ G3 fun st G4=>st≠some 0/\match rU G4 (val x) with
 | some ds=>Q (.fl (JU ds l u st)) G4
 | none=>False
def kj(K:PySem.W.Frag)(mg:Str->Option Mh)(x:Str)(d:D):Prop:=∃ u v,mg x=some u/\aI v u/\∀ H,RD K H d v
theorem dE{X:Cx}{x:Str}{d:D}{pos:Pos}(hg:Gl X x)(h:kj X.K X.mg x d)(hd:(x == ("__debug__":Str))=false:=by decide):PE X (.Name x pos) (aE X.K (eC d)):=by
 obtain⟨u,v,hm,r,rd⟩:=h;exact BC hg hm r rd hd
theorem CY{K:PySem.W.Frag}{mg:Str->Option Mh}{x:Str}{ds:List D}{vs:List V}{its:Array Mh}{a:Mg}{n:Nat}{sl:Array (Option Mh)}(hm:mg x=some (.ref a))(hl:K.lookup a=some ⟨.type "tuple",none,.seq its n,sl⟩)
  (hz:its.size<=Mp) (w:Vals vs its.toList) (r:∀ H,RDs K H ds vs):kj K mg x (.tup ds):=
 ⟨.ref a,.ref a,hm,rfl,fun H=>p5 (.inr ⟨_,its,n,hl,⟨rfl,rfl⟩,rfl,hz,w⟩) (r H)⟩
end L3
namespace L2
open PySem PySem.Spec PyProof.Rows
theorem Inv.turnedL{X:Cx}{pins:List (Mg×Obj)}{σ:St}{H:Hp}{s:Mi}{h':MG}{t':Nat}{fp:List Mg}(I:Inv X pins σ H s)(k:∀ b o,b∉fp->s.heap.get? b=some o->h'.get? b=some o)(hf:∀ b∈fp,pB X pins H b):
  Inv X pins σ H { s with heap:=h',toks:=t' }:=by
 have nit:∀ b u,H b=some u->b∉fp:=fun b u e z=>by rw[(hf b z).1]at e;cases e
 have hL:X.env.locals∉fp:=fun z=>(hf _ z).2.1 rfl;refine I.step (g':=s.gens) (d':=s.drawn) (ch:=fp) (fun b hb=>⟨(hf b hb).2.2.2.1,(hf b hb).2.1,(hf b hb).2.2.2.2.1,(hf b hb).2.2.2.2.2⟩) (fun b o _ _ hc e _=>k b o hc e) (fun b o _ _ hc e _=>⟨o.slots,k b o hc e⟩) (fun _ _ _ _ n=>n)
  (fun b o hc e=>⟨o,k b o hc e⟩) (fun _ _ e=>e) (fun _ _ _ e=>e) (fun b ps e=>⟨#[],by rw[e];simp⟩) (fun m hm=>?_) (fun b u e=>?_) I.bare
 ·obtain⟨o,es,ep,ho,r⟩:=hm;exact⟨o,es,ep,k _ o hL ho,r⟩
 ·refine (I.hok b u e).stay (fun c v hc q=>k c v ?_ q) (fun _ q=>q) fun _ _ q=>q;rcases hc with z|z
  ·rw[z];exact nit b u e
  ·exact nit c _ z
def LS(K:PySem.W.Frag)(a:Mg):It:=
 ⟨fun i H=>∃ xs x,jw K H a xs/\xs[i]?=some x,fun i H x H'=>∃ p y,H p=none/\x=.ref p/\H'=bE H p (.tup [.int i,y])/\∀ xs,jw K H a xs->xs[i]?=some y,fun i H=>∃ xs,jw K H a xs/\xs.length<=i⟩
theorem B6{P:Mw}{w:ME}{K:PySem.W.Frag}{elts:List MJ}{x1}{tp:Pos}(a e it:Mg)(hne:e≠it):Turn P w K (.Tuple elts x1 tp) (LS K a) [e,it] e (fun i h=>(∃ old,IsEnum h e it i old)/\h.IsListIter it a i) where
 mem:=by simp
 obj:=fun i h st b hb=>by
  have hb':b=e\/b=it:=by simpa using hb
  obtain⟨⟨old,he⟩,o,e1,c,d⟩:=st;rcases hb' with rfl|rfl
  ·exact⟨_,he,fun v z=>by cases z⟩
  ·exact⟨o,e1,fun v z=>by rw[d]at z;cases z⟩
 keep:=fun i h h' ⟨⟨old,he⟩,st⟩ k=>⟨⟨old,k e (by simp) _ he⟩,st.at fun o q=>k it (by simp) o q⟩
 item:=by
  intro X hP hw hK hc i pins s σ H E I hf st hg;subst hP hw hK;obtain⟨xs,x,hq,hx⟩:=hg;obtain⟨its,rv,p,hz⟩:=I.list hq;obtain⟨u,hu,ru⟩:=rv.get hx;obtain⟨⟨old,he⟩,hit⟩:=st;have hel:e < s.heap.objs.size:=Mx he;have hil:it < s.heap.objs.size:=by obtain⟨_,z,_⟩:=hit;exact Mx z
  refine wpAny_pyNext_enum_item he hit p.isList (x:=u) (by simpa using hu) hne fun h' ho hit' hT hsz hk=>?_
  refine⟨_,rfl,wpAny_letOwnedTupleGo_enum ho fun h2 he2 hs2=>?_⟩;have hT2:h2.get? s.heap.objs.size=some { cls:=.type "tuple",data:=.seq #[.int i s.toks,u] }:=(hs2.2 _ (Pa hel)).trans hT;have hn:H s.heap.objs.size=none:=I.hok.fresh (le_refl _);have nu:∀ b∈[e,it],b≠s.heap.objs.size:=fun b hb=>by
   have hb':b=e\/b=it:=by simpa using hb
   rcases hb' with rfl|rfl
   ·exact MO hel
   ·exact MO hil
  have I0:Inv X pins σ (bE H s.heap.objs.size (.tup [.int i,x])) { s with heap:=s.heap.push { cls:=.type "tuple",data:=.seq #[.int i s.toks,u] },toks:=s.toks }:=by
   refine I.laid (t':=s.toks) (fun b v q=>Mn _ q) (le_refl _) ?_;exact⟨by show 2<=Mp;decide,[.int i s.toks,u],.cons ⟨_,rfl⟩ (.cons ru .nil),uz.new _ _⟩
  have I1:Inv X pins σ (bE H s.heap.objs.size (.tup [.int i,x])) { s with heap:=h2,toks:=s.toks+1 }:=by
   have:=Inv.turnedL (s:={ s with heap:=s.heap.push { cls:=.type "tuple",data:=.seq #[.int i s.toks,u] },toks:=s.toks }) (h':=h2) (t':=s.toks+1) (fp:=[e,it]) I0 (fun b o hb q=>?_) fun b hb=>?_
   ·exact this
   ·have hbe:b≠e:=fun z=>hb (by simp[z])
    have hbi:b≠it:=fun z=>hb (by simp[z])
    have q':(s.heap.push { cls:=.type "tuple",data:=.seq #[.int i s.toks,u] }).get? b=some o:=q
    by_cases hbs:b=s.heap.objs.size
    ·subst hbs;rw[Mq _ rfl]at q';cases q';exact hT2
    ·have q2:s.heap.get? b=some o:=by
      rwa[PD _ _ _ hbs]at q'
     exact (hs2.2 b hbe).trans (hk b o hbe hbi q2)
   ·obtain⟨f0,f1,f2,f3,f4,f5⟩:=hf b hb;exact⟨by rw[aA (nu b hb)];exact f0,f1,f2,f3,f4,f5⟩
  refine⟨.ref s.heap.objs.size,_,I1,rfl,⟨_,x,hn,rfl,rfl,fun ys hy=>by rw[I.list_inj hy hq];exact hx⟩,⟨⟨_,by simpa using he2⟩,hit'.at fun o q=>(hs2.2 it hne.symm).trans q⟩,fun b hb=>?_⟩
  rw[aA (nu b hb)];exact (hf b hb).1
 done:=by
  intro X hP hw hK hc i pins s σ H E I hf st hg;subst hP hw hK;obtain⟨xs,hq,hx⟩:=hg;obtain⟨its,rv,p,hz⟩:=I.list hq;obtain⟨⟨old,he⟩,hit⟩:=st;have hl:=rv.length;exact wpAny_pyNext_enum_end (I.ok.hd hc) he hit p.isList (by simp;omega) fun h' eb=>⟨rfl,I.turnedL (t':=s.toks) (fp:=[e,it]) (fun b o hb q=>eb b o (fun z=>hb (by simp[z])) q) hf⟩
 self:=fun _ _ _ _ _ st h=>by
  obtain⟨⟨old,he⟩,_⟩:=st;exact QV he h
end L2
namespace L3
open PySem PySem.Spec PyProof.Rows L2
def enumFrom3:Nat->List D->List D
 | _,[]=>[]
 | n,d::r=>.tup [.int n,d]::enumFrom3 (n+1) r
abbrev wo(ds:List D):List D:=enumFrom3 0 ds
theorem eW:∀ (n:Nat) (ds:List D),(enumFrom3 n ds).length=ds.length
 | _,[]=>rfl
 | n,_::r=>by simp[enumFrom3,eW (n+1) r]
theorem mR:∀ (n:Nat) (ds:List D) (i:Nat) (d:D),ds[i]?=some d->(enumFrom3 n ds)[i]?=some (.tup [.int (n+i:Nat),d])
 | n,d::r,0,d',h=>by simp at h;subst h;simp[enumFrom3]
 | n,d::r,i+1,d',h=>by
  have:=mR (n+1) r i d' (by simpa using h)
  simp only[enumFrom3,M4];rw[this];simp only[Option.some.injEq,D.tup.injEq,List.cons.injEq,D.int.injEq,and_true];omega
theorem Gj{K:PySem.W.Frag}{G0:Gp}{H0:Hp}{ds:List D}{xs:List V}{a:Mg}(rg0:RG K H0 G0)(f:Dc K H0 a xs)(r:RDs K H0 ds xs):vX K G0 H0 (wo ds) (LS K a):=fun i G H k rg=>by
 have hl:=r.length;have f':=(k.stb rg0).l _ _ f;have r':=RDs.mono (k.stb rg0) _ _ r;rw[wo,eW];refine⟨fun hi=>⟨⟨xs,xs[i],f'.sq,Ms (by walk_at "o")⟩,fun x H' y=>?_⟩,fun e=>⟨xs,f'.sq,by walk_at "o"⟩⟩
 obtain⟨p,y,hn,rfl,rfl,hx⟩:=y;have e0:ds[i]?=some ds[i]:=Ms hi;obtain⟨z,e,q⟩:=r'.get e0;have e2:=hx xs f'.sq;rw[e2]at e;cases e;refine⟨Kp.laid hn,rg.laid hn,.tup [.int i,ds[i]],?_,lY rg hn (RDs.cons dw (RDs.cons q RDs.nil))⟩;have:=mR 0 ds i _ e0;rw[this,Nat.zero_add]
def Ez(ta:nR):E7:=fun σ G Q=>ta σ G fun ds G'=>match ds with
 | [.lst es]=>Q (wo es) G'
 | _=>False
theorem uw:Nl "enumerate"=some (.type "enumerate"):=by kernel_rfl
theorem IM{X:Cx}{elts:List MJ}{x1}{tp:Pos}{a:MJ}{ta:nR}{p pos:Pos}(hg:Gl X "enumerate")(hm:X.mg "enumerate"=none)(ha:PA X [a] (fi X.K ta))(hs:Mu [a] X.env=[(false,eval a X.env)]:=by rfl):PI X (.Tuple elts x1 tp) (.Call (.Name "enumerate" p) [a] [] pos) (oR X.K (Ez ta)):=by
 intro pins s τ H R I h;obtain⟨σ,G,Q3,rs,rg,hq,k⟩:=h;refine QE (jc I hg hm uw (PyProof.Rows.callWith_type1 (cI (ha pos pins s τ H (fun vs H1=>∃ ds G1,(match ds with|[.lst es]=>Q3 (wo es) G1|_=>False)/\Kp G H G1 H1/\RG X.K H1 G1/\RDs X.K H1 ds vs) I
  ⟨σ,G,_,rs,rg,hq,fun ds G1 vs H1 q k1 rg1 rds=>⟨ds,G1,q,k1,rg1,rds⟩⟩) fun us s1 ⟨vs,H1,I1,r1,q1⟩=>?_) hs rfl))
 obtain⟨ds,G1,q,k1,rg1,rds⟩:=q1;split at q
 ·rename_i es;obtain⟨v,rfl,rd⟩:=fy rds;simp only[RD]at rd;obtain⟨b,xs,rfl,f,r⟩:=rd;obtain⟨u,rfl,ru⟩:=sd r1;cases ru;obtain⟨its,rv,pl,hz⟩:=I1.list f.sq;refine call_enumerate_list pl.isList fun h' hE hI hsz hk=>QV hE ?_;refine⟨s1.heap.objs.size+1,[s1.heap.objs.size+1,s1.heap.objs.size],_,_,H1,rfl,I1.kept (t':=s1.toks) hk,B6 b _ _ (Nat.succ_ne_self _),⟨⟨_,hE⟩,hI⟩,fun c hc=>?_,k _ G1 _ H1 q k1 rg1 (Gj rg1 f r)⟩;have e:c=s1.heap.objs.size+1\/c=s1.heap.objs.size:=by simpa using hc
  have hc':s1.heap.objs.size<=c:=by rcases e with e|e<;>(rw[e];first|exact le_refl _|exact Nat.le_succ _)
  exact I1.fpOk hc' (I1.hok.fresh hc')
 ·exact q.elim
def h_(a b:String):Bool:=(a == b) || ((a == "bool") && (b == "int"))
def jd(b:String):Prop:=b="int"\/b="bool"\/b="str"\/b="tuple"\/b="list"
def LG:B0:=fun ds G Q=>match ds with
 | [d,.ty T]=>jd T/\∃ T',iS G d=some T'/\Q (.bl (h_ T' T)) G
 | _=>False
def BW:B0:=fun ds G Q=>match ds with
 | [.bl b]=>Q (.int (if b then 1 else 0)) G
 | _=>False
theorem Jh{X:Cx}:d8 X (.type "int") (lM X.K BW):=by
 rintro pins s σ H vs us Q I rv ⟨ds,G,Q3,rds,rg,h,kk⟩
 unfold BW at h;split at h
 ·rename_i b;obtain⟨v,rfl,h1⟩:=fy rds;simp only[RD]at h1;subst h1;obtain⟨u,rfl,ru⟩:=sd rv;cases ru;exact call_int_bool ⟨.int _,H,I.tok _,⟨_,rfl⟩,kk _ G _ H h Kp.refl rg (.of dw)⟩
 ·exact h.elim
theorem C1:Nl "int"=some (.type "int"):=by kernel_rfl
theorem qG{K:PySem.W.Frag}{mg:Str->Option Mh}{x z:Str}{t:Tok}(hm:mg x=some (.str z t)):kj K mg x (.str z):=⟨.str z t,.str z,hm,⟨t,rfl⟩,fun _=>lC⟩
end L3
namespace L2
open PySem PySem.Spec PyProof.Rows
end L2
namespace L3
open PySem PySem.Spec PyProof.Rows L2
def KO(a:Mg)(g:uF)(tb:cj)(E:Ends3)(σ:fH)(ds:List D)(G1:Gp):Prop:=∃ Pv:Nat->fH->Gp->Prop,Pv 0 σ G1/\(∀ i σ' G',Pv i σ' G'->G' a=some (.lst ds))/\
 (∀ (i:Nat) d σ' G',ds[i]?=some d->Pv i σ' G'->g d σ' G' fun σ2 G2=>tb { E with nx:=Pv (i+1),ct:=Pv (i+1),bk:=E.nx } σ2 G2)/\∀ σ' G',Pv ds.length σ' G'->E.nx σ' G'
def Dz(te:bR)(g:uF)(tb:cj):cj:=fun E σ G=>te σ G fun d G1=>match d with
 | .ref a=>∃ ds,G1 a=some (.lst ds)/\KO a g tb E σ ds G1
 | d=>match fA d with
  | some ds=>ForIn g tb E σ ds G1
  | none=>False
section
variable{X:Cx}{tg e:MJ}{te:bR}
theorem By(h:PE X e (aE X.K te)):PI X tg e (fun τ H R=>∃ σ G Q3,RS X.K H σ τ/\RG X.K H G/\te σ G Q3/\∀ d G1 H1,Q3 d G1->Kp G H G1 H1->RG X.K H1 G1->match d with
  | .ref a=>(∃ ds,G1 a=some (.lst ds))/\R (KN X.K a) H1
  | d=>∃ ds,fA d=some ds/\∀ J,vX X.K G1 H1 ds J->R J H1):=by
 intro pins s τ H R I hq;obtain⟨σ,G,Q3,rs,rg,hq,k⟩:=hq;refine cI (dP h pins s τ H (fun v H1=>∃ d G1,Kp G H G1 H1/\RG X.K H1 G1/\RD X.K H1 (val d) v/\Q3 d G1) I ⟨σ,G,_,rs,rg,hq,fun d G' v H' q k' rg' rd=>⟨d,G',k',rg',rd,q⟩⟩) fun u s1 zz=>?_;obtain⟨v,H1,I1,r1,d,G1,k1,rg1,rd,q⟩:=zz;have kk:=k d G1 H1 q k1 rg1;have seq:∀ {a:Mg} {xs:List V} {ds:List D},Dc X.K H1 a xs->RDs X.K H1 ds xs->(∀ J,vX X.K G1 H1 ds J->R J H1)->Mo (Mt X.prog X.w) X.A (OD (.ref a)) (Hh X pins τ tg R) X.xe s1:=fun f r q=>qw I1 f.sq (q _ (BM rg1 f r));cases d with
 | ref a=>
  simp only[val,RD]at rd;subst rd;cases r1;obtain⟨⟨ds,hg⟩,kr⟩:=kk;obtain⟨xs,e1,r⟩:=tL rg1 hg;exact qw I1 (jw.of e1) kr
 | lst ds=>
  simp only[val,RD]at rd;obtain⟨a,xs,rfl,f,r⟩:=rd;cases r1;obtain⟨ds',e,kr⟩:=kk;cases e;exact seq f r kr
 | fl ds=>
  simp only[val,RD]at rd;obtain⟨a,xs,rfl,f,r⟩:=rd;cases r1;obtain⟨ds',e,kr⟩:=kk;cases e;exact seq f r kr
 | tup ds=>
  simp only[val,RD]at rd;obtain⟨a,xs,rfl,f,r⟩:=rd;cases r1;obtain⟨ds',e,kr⟩:=kk;cases e;exact zA I1 f (kr _ (Ew rg1 f r))
 | str z=>
  simp only[val,RD]at rd;subst rd;obtain⟨t,rfl⟩:=r1;obtain⟨ds',e,kr⟩:=kk;cases e;refine zB I1 (kr _ (BL fun H'=>?_));have:signs z=(z.cps.toList.map fun c=>(⟨#[c]⟩:Str)).map D.str:=by simp[signs]
  rw[this];have e2:dL z=(z.cps.toList.map fun c=>(⟨#[c]⟩:Str)).map V.str:=by simp[dL]
  rw[e2];exact RDs.strs _
 | _=>
  obtain⟨ds',e,_⟩:=kk;cases e
end
theorem HF{X:Cx}{tg iter:MJ}{body:List ML}{te:bR}{g:uF}{tb:cj}{pos:Pos}(hp:Pj (Mt X.prog X.w) X.A X.env X.xe)(hc:X.calm=true)(hi:PE X iter (aE X.K te))(hg:PG X tg (jm X.K g))(hb:pE X body (cm X.K tb))
  (hs:∀ x,Nh iter X.env x=pure x:=by intro _;rfl):PS X (.For tg iter body [] pos) (cm X.K (Dz te g tb)):=
 (D4 hp hc (By hi) hg hb hs).imp fun Dd τ H zz=>by
 obtain⟨σ,G,D3,rs,rg,h,k⟩:=zz;exact (
  ⟨σ,G,_,rs,rg,h,fun d G1 H1 q k1 rg1=>by
    have core:∀ (ds:List D) (J:It) (Pv:Nat->fH->Gp->Prop),Pv 0 σ G1->
      (∀ i σ' G' H',Pv i σ' G'->Kp G1 H1 G' H'->RG X.K H' G'->(i < ds.length->J.go i H'/\∀ x H2,J.yld i H' x H2->Kp G' H' G' H2/\RG X.K H2 G'/\∃ d,ds[i]?=some d/\RD X.K H2 d x)/\(i=ds.length->J.stop i H'))->
      (∀ (i:Nat) d σ' G',ds[i]?=some d->Pv i σ' G'->g d σ' G' fun σ2 G2=>tb { D3 with nx:=Pv (i+1),ct:=Pv (i+1),bk:=D3.nx } σ2 G2)->(∀ σ' G',Pv ds.length σ' G'->D3.nx σ' G')->
      ∃ W:Nat->Nat->St->Hp->Prop,(∃ m,W 0 m τ H1)/\∀ i m σ H,W i m σ H->
       (J.stop i H/\Dd.nx σ H)\/(J.go i H/\∃ N:St->Hp->Prop,(∀ σ' H',N σ' H'->∃ m',m' < m/\W (i+1) m' σ' H')/\∀ x H',J.yld i H x H'->jm X.K g x σ H' fun σ2 H2=>cm X.K tb { Dd with nx:=N,ct:=N,bk:=Dd.nx } σ2 H2):=by
     intro ds J Pv p0 it step fin;refine⟨fun i m τ' H'=>m=ds.length - i/\i<=ds.length/\∃ σ' G',RS X.K H' σ' τ'/\RG X.K H' G'/\Pv i σ' G'/\Kp G1 H1 G' H',⟨ds.length,rfl,M6 _,σ,G1,rs.mono (k1.stb rg),rg1,p0,Kp.refl⟩,?_⟩
     rintro i m τ' H' ⟨rfl,hi',σ',G',rs',rg',pv,k'⟩
     obtain⟨hgo,hstop⟩:=it i σ' G' H' pv k' rg'
     by_cases hlt:i < ds.length
     ·obtain⟨go,yld⟩:=hgo hlt;refine .inr ⟨go,fun τ2 H2=>∃ σ2 G2,RS X.K H2 σ2 τ2/\RG X.K H2 G2/\Pv (i+1) σ2 G2/\Kp G1 H1 G2 H2,fun τ2 H2 ⟨σ2,G2,a,b,c,d⟩=>⟨ds.length - (i+1),by walk_at "o",rfl,hlt,σ2,G2,a,b,c,d⟩,fun x H2 y=>?_⟩
      obtain⟨ky,rgy,d,hd,rd⟩:=yld x H2 y;refine⟨d,σ',G',_,rd,rs'.mono (ky.stb rg'),rgy,step i d σ' G' hd pv,fun σ3 G3 τ3 H3 q3 k3 rg3 rs3=>?_⟩;have kk:Kp G1 H1 G3 H3:=k'.trans (ky.trans k3);have kG:Kp G H G3 H3:=k1.trans kk;refine⟨σ3,G3,_,rs3,rg3,q3,⟨fun σ4 G4 τ4 H4 q4 k4 rg4 rs4=>⟨σ4,G4,rs4,rg4,q4,kk.trans k4⟩,k.rt.base kG,fun σ4 G4 τ4 H4 q4 k4=>k.nx σ4 G4 τ4 H4 q4 (kG.trans k4),fun σ4 G4 τ4 H4 q4 k4 rg4 rs4=>⟨σ4,G4,rs4,rg4,q4,kk.trans k4⟩⟩⟩
     ·have e:i=ds.length:=by walk_at "o"
      refine .inl ⟨hstop e,k.nx σ' G' τ' H' (fin σ' G' (by rw[<- e];exact pv)) (k1.trans k') rg' rs'⟩
    cases d with
    | ref a=>
     obtain⟨ds,hg,Pv,p0,live,step,fin⟩:=q;refine⟨⟨ds,hg⟩,core ds _ Pv p0 (fun i σ' G' H' pv k' rg'=>?_) step fin⟩;obtain⟨xs,e1,r⟩:=tL rg' (live i σ' G' pv);have hl:=r.length;refine⟨fun hi=>⟨⟨xs,xs[i]'(by walk_at "o"),jw.of e1,by simp[show i < xs.length by walk_at "o"]⟩,fun x H2 y=>?_⟩,fun e=>⟨xs,jw.of e1,by walk_at "o"⟩⟩
     obtain⟨rfl,hx⟩:=y;refine⟨Kp.refl,rg',ds[i],by simp[hi],?_⟩
     obtain⟨y,e,q⟩:=r.get (i:=i) (d:=ds[i]) (by simp[hi])
     rw[hx xs (jw.of e1)]at e;cases e;exact q
    | lst ds=>
     obtain⟨Pv,p0,step,fin⟩:=q;exact⟨_,rfl,fun J it=>core _ J Pv p0 (fun i σ' G' H' _ k' rg'=>it i G' H' k' rg') step fin⟩
    | fl ds=>
     obtain⟨Pv,p0,step,fin⟩:=q;exact⟨_,rfl,fun J it=>core _ J Pv p0 (fun i σ' G' H' _ k' rg'=>it i G' H' k' rg') step fin⟩
    | tup ds=>
     obtain⟨Pv,p0,step,fin⟩:=q;exact⟨_,rfl,fun J it=>core _ J Pv p0 (fun i σ' G' H' _ k' rg'=>it i G' H' k' rg') step fin⟩
    | str z=>
     obtain⟨Pv,p0,step,fin⟩:=q;exact⟨_,rfl,fun J it=>core _ J Pv p0 (fun i σ' G' H' _ k' rg'=>it i G' H' k' rg') step fin⟩
    | _=>exact q.elim⟩)
def As(c:pC)(tb:cj):cj:=fun E σ G=>∃ W:Nat->fH->Gp->Prop,(∃ m,W m σ G)/\∀ m σ' G',W m σ' G'->
 c σ' G' fun b G1=>if b=true then ∃ N:fH->Gp->Prop,(∀ σ2 G2,N σ2 G2->∃ m',m' < m/\W m' σ2 G2)/\tb { E with nx:=N,ct:=N,bk:=E.nx } σ' G1 else E.nx σ' G1
theorem FB{X:Cx}{c:MJ}{body:List ML}{tc:pC}{tb:cj}{pos:Pos}(hp:Pj (Mt X.prog X.w) X.A X.env X.xe)(hc:PT X c (cS X.K tc))(hb:pE X body (cm X.K tb)):PS X (.While c body [] pos) (cm X.K (As tc tb)):=
 (DV hp hc hb).imp fun D τ H ⟨σ,G,D3,rs,rg,⟨W,⟨m0,w0⟩,turn⟩,k⟩=>by
  refine⟨fun m τ' H'=>∃ σ' G',RS X.K H' σ' τ'/\RG X.K H' G'/\W m σ' G'/\Kp G H G' H',⟨m0,σ,G,rs,rg,w0,Kp.refl⟩,?_⟩
  rintro m τ' H' ⟨σ',G',rs',rg',w',k'⟩
  refine⟨σ',G',_,rs',rg',turn m σ' G' w',fun b G1 H1 q k1 rg1=>?_⟩;cases b with
  | true=>
   rw[if_pos rfl]at q ⊢;obtain⟨N,hN,q⟩:=q;refine⟨fun τ2 H2=>∃ σ2 G2,RS X.K H2 σ2 τ2/\RG X.K H2 G2/\N σ2 G2/\Kp G H G2 H2,fun τ2 H2 ⟨σ2,G2,a,b,n,d⟩=>?_,?_⟩
   ·obtain⟨m',hm,w2⟩:=hN σ2 G2 n;exact⟨m',hm,σ2,G2,a,b,w2,d⟩
   ·have kG:=k'.trans k1;exact⟨σ',G1,_,rs'.mono (k1.stb rg'),rg1,q,⟨fun σ4 G4 τ4 H4 q4 k4 rg4 rs4=>⟨σ4,G4,rs4,rg4,q4,kG.trans k4⟩,k.rt.base kG,fun σ4 G4 τ4 H4 q4 k4=>k.nx σ4 G4 τ4 H4 q4 (kG.trans k4),fun σ4 G4 τ4 H4 q4 k4 rg4 rs4=>⟨σ4,G4,rs4,rg4,q4,kG.trans k4⟩⟩⟩
  | false=>
   rw[if_neg Bool.false_ne_true]at q ⊢;exact k.nx σ' G1 τ' H1 q (k'.trans k1) rg1 (rs'.mono (k1.stb rg'))
theorem IF:jd "int"=True:=eq_true (by unfold jd;simp)
theorem zG:h_ "int" "int"=true:=by decide
theorem xU:h_ "int" "bool"=false:=by decide
theorem zF:h_ "int" "str"=false:=by decide
theorem vM:h_ "int" "tuple"=false:=by decide
theorem xT:h_ "int" "list"=false:=by decide
theorem Gf:jd "bool"=True:=eq_true (by unfold jd;simp)
theorem xW:h_ "bool" "int"=true:=by decide
theorem vO:h_ "bool" "bool"=true:=by decide
theorem xV:h_ "bool" "str"=false:=by decide
theorem t7:h_ "bool" "tuple"=false:=by decide
theorem vN:h_ "bool" "list"=false:=by decide
theorem IE:jd "str"=True:=eq_true (by unfold jd;simp)
theorem zE:h_ "str" "int"=false:=by decide
theorem xQ:h_ "str" "bool"=false:=by decide
theorem zD:h_ "str" "str"=true:=by decide
theorem vJ:h_ "str" "tuple"=false:=by decide
theorem xP:h_ "str" "list"=false:=by decide
theorem Ev:jd "tuple"=True:=eq_true (by unfold jd;simp)
theorem vI:h_ "tuple" "int"=false:=by decide
theorem t5:h_ "tuple" "bool"=false:=by decide
theorem vH:h_ "tuple" "str"=false:=by decide
theorem rO:h_ "tuple" "tuple"=true:=by decide
theorem t3:h_ "tuple" "list"=false:=by decide
theorem Ge:jd "list"=True:=eq_true (by unfold jd;simp)
theorem xS:h_ "list" "int"=false:=by decide
theorem vL:h_ "list" "bool"=false:=by decide
theorem xR:h_ "list" "str"=false:=by decide
theorem t6:h_ "list" "tuple"=false:=by decide
theorem vK:h_ "list" "list"=true:=by decide
def dz:List Str->List D->Str->Option D
 | g::L,d::ds,f=>if g=f then some d else dz L ds f
 | _,_,_=>none
def iD(L:List Str)(f:Str):List Str:=match L with
 | []=>[f]
 | g::r=>if g=f then g::r else g::iD r f
def gd:List Str->List D->Str->D->List D
 | g::L,x::ds,f,d=>if g=f then d::ds else x::gd L ds f d
 | _,_,_,d=>[d]
section
variable{K:PySem.W.Frag}{H:Hp}
theorem um:∀ {gs:List (Str×V)} {ds:List D} {f:Str} {d:D},RDs K H ds (gs.map (·.2))->dz (gs.map (·.1)) ds f=some d->∃ v,gs.lookup f=some v/\RD K H d v
 | [],ds,f,d,r,e=>by simp[dz]at e
 | (g,u)::t,ds,f,d,r,e=>by
  cases ds with
  | nil=>simp[dz]at e
  | cons x ds=>
   obtain⟨y,q,e1,h1,h2⟩:=r.inv_cons;rw[MF,List.cons.injEq]at e1;obtain⟨rfl,e1⟩:=e1;simp only[MF,dz]at e;split at e
   ·rename_i hg;cases e;subst hg;exact⟨u,by rw[Nw,beq_self_eq_true],h1⟩
   ·rename_i hg;obtain⟨v,e2,h3⟩:=um (gs:=t) (by rw[e1];exact h2) e
    exact⟨v,by rw[Nw,show (f == g)=false by simpa using Ne.symm hg];exact e2,h3⟩
theorem yS:∀ {gs:List (Str×V)} {f:Str} {v:V},(fU f v gs).map (·.1)=iD (gs.map (·.1)) f
 | [],f,v=>rfl
 | (g,u)::t,f,v=>by
  simp only[fU,MF,iD];split
  ·rename_i hg;simp[hg]
  ·simp[yS (gs:=t)]
theorem yT:∀ {gs:List (Str×V)} {ds:List D} {f:Str} {v:V} {d:D},RDs K H ds (gs.map (·.2))->RD K H d v->RDs K H (gd (gs.map (·.1)) ds f d) ((fU f v gs).map (·.2))
 | [],ds,f,v,d,r,h=>by
  have:gd ([]:List Str) ds f d=[d]:=by unfold gd;rfl
  exact RDs.cons h RDs.nil
 | (g,u)::t,ds,f,v,d,r,h=>by
  cases ds with
  | nil=>exact absurd r.length (by simp)
  | cons x ds=>
   obtain⟨y,q,e1,h1,h2⟩:=r.inv_cons;rw[MF,List.cons.injEq]at e1;obtain⟨rfl,e1⟩:=e1;simp only[fU,MF,gd];split
   ·rename_i hg;subst e1;exact RDs.cons h h2
   ·exact RDs.cons h1 (yT (gs:=t) (by rw[e1];exact h2) h)
end
def bU(cs:List Mg)(f:Str)(to:bR):bR:=fun σ G Q=>to σ G fun x G1=>match x with
 | .ref a=>match G1 a with
  | some (.ins C L ds)=>C∈cs/\match dz L ds f with
   | some d=>Q d G1
   | none=>False
  | _=>False
 | _=>False
def jB(cs:List Mg)(f:Str)(to tv:bR):cj:=fun D σ G=>tv σ G fun d G1=>to σ G1 fun x G2=>match x with
 | .ref a=>match G2 a with
  | some (.ins C L ds)=>(C∈cs/\L.length < 1000)/\D.nx σ (gset G2 a (.ins C (iD L f) (gd L ds f (val d))))
  | _=>False
 | _=>False
def fg(cs:List (Mg×cR))(m:Str)(dds:List D)(to:bR)(ta:nR):bR:=fun σ G Q=>to σ G fun x G1=>match x with
 | .ref a=>match G1 a with
  | some (.ins C L _)=>m∉L/\∃ sp,(C,sp)∈cs/\ta σ G1 fun ds G2=>sp (.ref a::(ds ++ dds)) G2 Q
  | _=>False
 | _=>False
section
variable{X:Cx}{o e:MJ}{es:List MJ}{to te:bR}{t:nR}{pos apos:Pos}{k:Nat}{m:Str}{dds:List D}{sp:cR}
theorem bY{f:Str}{cs:List Mg}(tab:∀ C∈cs,Cls X.K C/\cX X.K C f)(ho:PE X o (aE X.K to))(hb:ND o f X.env (eval o X.env)=eval o X.env:=by rfl):PE X (.Attribute o f pos) (aE X.K (bU cs f to)):=
 (D_ ho hb).imp fun τ H Q zz=>by
 obtain⟨σ,G,Q3,rs,rg,h,kk⟩:=zz;exact (
  ⟨σ,G,_,rs,rg,h,fun d G1 v H1 q k1 rg1 re=>by
    cases d with
    | ref a=>
     dsimp only at q;split at q
     ·rename_i C L ds hg;obtain⟨hc,q⟩:=q;split at q
      ·rename_i d hd;obtain⟨ho,e1,ro⟩:=rg1 a _ hg;cases ho with
       | ins C2 dx gs=>
        obtain⟨rfl,r2,r3⟩:=ro;subst r2;obtain⟨w,hw,rd⟩:=um r3 hd;exact⟨a,_,dx,gs,w,re.ref,e1,(tab _ hc).1,(tab _ hc).2,hw,kk _ G1 _ H1 q k1 rg1 (.of rd)⟩
       | _=>exact ro.elim
      ·exact q.elim
     ·exact q.elim
    | _=>exact q.elim⟩)
theorem i5{f:Str}{cs:List Mg}{pos':Pos}(tab:∀ C∈cs,Cls X.K C/\cX X.K C f)(ho:PE X o (aE X.K to))(hv:PE X e (aE X.K te))(hs:NR e (some (.Attribute o f pos')) pos.line X.env=pure false:=by rfl):
  PS X (.Assign [.Attribute o f pos'] e pos) (cm X.K (jB cs f to te)):=
 (AC ho (dP hv) hs).imp fun Dd τ H zz=>by
 obtain⟨σ,G,D3,rs,rg,h,kk⟩:=zz;exact (
  ⟨σ,G,_,rs,rg,h,fun d G1 v H1 q1 k1 rg1 rd=>⟨σ,G1,_,rs.mono (k1.stb rg),rg1,q1,fun x G2 u H2 q2 k2 rg2 re=>by
    cases x with
    | ref a=>
     dsimp only at q2;split at q2
     ·rename_i C L ds hg;obtain⟨⟨hc,hl⟩,q2⟩:=q2;obtain⟨ho,e1,ro⟩:=rg2 a _ hg;cases ho with
      | ins C2 dx gs=>
       obtain⟨rfl,r2,r3⟩:=ro;subst r2;have rd2:=RD.mono (k2.stb rg1) _ _ rd;obtain⟨kp,rg3⟩:=AB (gs':=fU f v gs) (L':=iD (gs.map (·.1)) f) (ds':=gd (gs.map (·.1)) ds f (val d)) rg2 e1 yS (yT r3 rd2) (by rw[hg];exact fun z=>nomatch z)
       exact⟨a,_,dx,gs,re.ref,e1,(tab _ hc).1,(tab _ hc).2,by simpa using hl,kk.nx _ _ _ _ q2 ((k1.trans k2).trans kp) rg3 (rs.mono ((((k1.trans k2).trans kp)).stb rg))⟩
      | _=>exact ro.elim
     ·exact q2.elim
    | _=>exact q2.elim⟩⟩)
theorem hX{pl:Sem Bool}{cs:List (Mg×cR)}(tab:∀ c∈cs,∃ k',k'<=k/\Mt3 X.prog X.w X.K X.mg X.base k' c.1 m dds c.2)(hr:Room k X.A)(ho:PE X o (aE X.K to))
  (ht:eval (.Call (.Attribute o m apos) [] [] pos) X.env=(do
   let ov <- eval o X.env
   Oz apos.atName
   let (f,first) <- holding [ov] (OC ov m pl)
   PB pos f first (Nr pos (Mu [] X.env)) (Ou pos (NK [] X.env))):=by rfl):
  PE X (.Call (.Attribute o m apos) [] [] pos) (aE X.K (fg cs m dds to av)):=by
 rintro pins s τ H Q I ⟨σ,G,Q3,rs,rg,h,kk⟩
 refine OP (pl:=pl) (cI (eA ho I rs rg h) fun u s1 zz=>?_) ht;obtain⟨x,H1,I1,rx,d,G1,q,k1,rg1,rd⟩:=zz;cases d with
 | ref a=>
  simp only[val,RD]at rd;subst rd;obtain rfl:u=Value.ref a:=rx;dsimp only at q;split at q
  ·rename_i C L ds hg;obtain⟨hL,sp,hc,q⟩:=q;obtain⟨k',hk,F⟩:=tab _ hc;obtain⟨f,fd,ps,ds',dvs,ok,hm,hb,hv,hd⟩:=F.ex;obtain⟨ho,e1,ro⟩:=rg1 a _ hg;cases ho with
   | ins C2 dx gs=>
    obtain⟨rfl,r2,r3⟩:=ro;refine nO I1 e1 F.cl hm (qk (K:=X.K) r2 hL) ?_;exact PySem.W.callWith_K0 (first:=[.ref a]) I1.kIn hm.kp (sI (us:=[.ref a]) (vs:=[.ref a]) ok (hr.mono hk) hb hv v9 I1 (.cons rfl .nil) ⟨.ref a::([] ++ dds),G1,Q3,RDs.cons iu (hd H1),rg1,q,kk.base k1⟩)
   | _=>exact ro.elim
  ·exact q.elim
 | _=>exact q.elim
structure Cf3(P:Mw)(w:ME)(K:PySem.W.Frag)(mg:Str->Option Mh)(base:MG)(k:Nat)(x m:Str)(dds:List D)(sp:cR):Prop where
 ex:∃ C f fd ps ds dvs,FnOk P w K mg base cU k f fd ps (ax K sp)/\mg x=some (.ref C)/\PySem.W.specialIn K (.ref C) "__getattribute__"=some (some (.builtin "type.__getattribute__"))/\PySem.W.readsIn K C (.type "type")=true/\
  PySem.W.findCls K (.ref C) (.type "type") m=some (.val (.ref f))/\PySem.W.keepIn K (.ref f)=true/\eF K fd ps ds/\Vals dvs ds/\∀ H,RDs K H dds dvs
theorem l8{pl:Sem Bool}{x:Str}{p:Pos}(F:Cf3 X.prog X.w X.K X.mg X.base k x m dds sp)(hr:Room k X.A)(hg:Gl X x)(ha:PA X (e::es) (fi X.K t))(hdb:(x == ("__debug__":Str))=false:=by decide)
  (hst:Mu (e::es) X.env=(false,eval e X.env)::Mu es X.env:=by rfl) (hpl:(Nr pos (Mu es X.env)).any (·.1)=false:=by rfl)
  (ht:eval (.Call (.Attribute (.Name x p) m apos) (e::es) [] pos) X.env=(do
   let ov <- eval (.Name x p) X.env
   Oz apos.atName
   let (f,first) <- holding [ov] (OC ov m pl)
   PB pos f first (Nr pos (Mu (e::es) X.env)) (Ou pos (NK [] X.env))):=by rfl):
  PE X (.Call (.Attribute (.Name x p) m apos) (e::es) [] pos) (aE X.K (aL sp dds t)):=by
 obtain⟨C,f,fd,ps,ds,dvs,ok,hm,hga,hrd,hfc,hk,hb,hv,hd⟩:=F.ex;intro pins s τ H Q I h;refine OP (pl:=pl) (cI (BA (v:=.ref C) hg hm rfl hdb pins s τ H (fun v H1=>v=.ref C/\H1=H) I ⟨rfl,rfl⟩) fun u s1 zz=>?_) ht;obtain⟨v,H1,I1,rx,e1,e2⟩:=zz;subst e1 e2;obtain rfl:u=Value.ref C:=rx;refine PySem.W.method_cls I1.kIn hga (PySem.W.cls_value I1.kIn hrd hfc rfl ?_);have I2:=I1.tok (s1.toks+1);obtain⟨σ,G,Q3,rs,rg,h,kk⟩:=h;refine Ps (first:=[]) (h₀:=X.base) I.ok.mod.kin hk (cI (ha pos pins _ τ H1 (fun vs H2=>∃ ds G1,sp (ds ++ dds) G1 Q3/\Kp G H1 G1 H2/\RG X.K H2 G1/\RDs X.K H2 ds vs) I2 ⟨σ,G,_,rs,rg,h,fun ds G1 vs H2 q k1 rg1 rds=>⟨ds,G1,q,k1,rg1,rds⟩⟩) fun us s2 ⟨vs,H2,I3,r,ds1,G1,q2,k1,rg1,rds⟩=>⟨I3.kIn,?_⟩) hst hpl
 exact sI (us:=us) (vs:=vs) ok hr hb hv v9 I3 r ⟨ds1 ++ dds,G1,Q3,rds.append (hd _),rg1,q2,kk.base k1⟩
end
end L3
theorem L3.all_cons{α:Type}{p:α->Prop}{a:α}{l:List α}(h:p a)(t:∀ x∈l,p x):∀ x∈a::l,p x:=fun x hx=>by
 rcases MV.mp hx with rfl|hx
 ·exact h
 ·exact t x hx
namespace L3
open PySem PySem.Spec PyProof.Rows L2 PySem.SeqAt PySem.W
def t9:D->Bool
 | .non=>true
 | _=>false
def Ln:R3:=fun x y G Q=>match y with
 | .non=>Q (.bl (t9 x)) G
 | _=>False
def za:R3:=fun x y G Q=>match y with
 | .non=>Q (.bl (!t9 x)) G
 | _=>False
section
variable{X:Cx}
theorem DH{K:PySem.W.Frag}{G0 G:Gp}{H0 H:Hp}{x:D}{v:V}{u:Mh}(r:RE K G0 H0 G H x v)(l:aI v u):(u == Value.none)=t9 x:=by
 cases x with
 | non=>rw[r.non]at l;cases l;rfl
 | fl ds=>
  obtain⟨p,xs,rfl,_⟩:=r.fl;cases l;rfl
 | lst ds=>
  obtain⟨a,xs,rfl,_⟩:=r.lst;cases l;rfl
 | tup ds=>
  obtain⟨a,xs,rfl,_⟩:=r.tup;cases l;rfl
 | int i=>rw[r.int]at l;obtain⟨t,rfl⟩:=l;rfl
 | str i=>rw[r.str]at l;obtain⟨t,rfl⟩:=l;rfl
 | bl i=>rw[r.bl]at l;cases l;rfl
 | ref a=>rw[r.ref]at l;cases l;rfl
 | ty T=>
  have:=r.rd (by intro ds z;cases z)
  simp only[RD]at this;subst this;cases l;rfl
theorem Hl:gG X (MT .IsNot) (cW X.K za):=by
 rintro pins s σ H v u v' u' Q I rv ru ⟨x,y,G0,H0,G,Q3,rx,ry,rg,h,k⟩
 unfold za at h;split at h
 ·rw[ry.non]at ru;cases ru;refine isnot_none_gen ?_;rw[DH rx rv];exact⟨.bl _,H,I,rfl,k _ G _ H h Kp.refl rg (.of hV)⟩
 ·exact h.elim
end
section
variable{X:Cx}{o i:MJ}{to ti:bR}{pos:Pos}
theorem AK(hu:X.A.units+8 < M5)(hi:PE X i (aE X.K ti))(ho:PE X o (aE X.K to))(hm:Nf .In o=false:=by rfl):PT X (.Compare i [.In] [o] pos) (cS X.K (cV (ye (ai X.prog X.w) ti to))):=by
 refine (DS (op:=.In) (t:=aE X.K (ye (ai X.prog X.w) ti to)) (fun pins s τ H Q I ⟨σ,G,Q3,rs,rg,h,k⟩=>?_) hm).imp fun τ H Q h=>wI h;refine cI (eA hi I rs rg h) fun iv s1 zz=>?_;obtain⟨iy,H1,I1,riy,y,G1,q1,k1,rg1,rd1⟩:=zz;refine cI (eA ho I1 (rs.mono (k1.stb rg)) rg1 q1) fun ov s2 zz=>?_;obtain⟨ox,H2,I2,rox,x,G2,q2,k2,rg2,rd2⟩:=zz;obtain⟨r,l,q2⟩:=q2;exact Hf (by walk_at "o") I2 rg2 l rd2 rox (RD.mono (k2.stb rg1) _ _ rd1) riy fun s3 I3=>⟨.bl r.isSome,H2,I3,rfl,k _ G2 _ H2 q2 (k1.trans k2) rg2 (.of hV)⟩
theorem v_(hu:X.A.units+8 < M5)(hi:PE X i (aE X.K ti))(ho:PE X o (aE X.K to))(hm:Nf .NotIn o=false:=by rfl):PT X (.Compare i [.NotIn] [o] pos) (cS X.K (cV (mj (ai X.prog X.w) ti to))):=by
 refine (DS (op:=.NotIn) (t:=aE X.K (mj (ai X.prog X.w) ti to)) (fun pins s τ H Q I ⟨σ,G,Q3,rs,rg,h,k⟩=>?_) hm).imp fun τ H Q h=>wI h;refine cI (eA hi I rs rg h) fun iv s1 zz=>?_;obtain⟨iy,H1,I1,riy,y,G1,q1,k1,rg1,rd1⟩:=zz;refine cI (eA ho I1 (rs.mono (k1.stb rg)) rg1 q1) fun ov s2 zz=>?_;obtain⟨ox,H2,I2,rox,x,G2,q2,k2,rg2,rd2⟩:=zz;obtain⟨r,l,q2⟩:=q2;exact EL (by walk_at "o") I2 rg2 l rd2 rox (RD.mono (k2.stb rg1) _ _ rd1) riy fun s3 I3=>⟨.bl (!r.isSome),H2,I3,rfl,k _ G2 _ H2 q2 (k1.trans k2) rg2 (.of hV)⟩
end
def Bg(hw:List aJ->Int)(tk tv:bR):bR:=fun σ G Q=>∀ p,G p=none->tk σ (gset G p (.dT hw [])) fun x G1=>tv σ G1 fun y G2=>match G2 p with
 | some (.dT hw' [])=>hw'=hw/\∃ ks,pc (val x)=some ks/\Q (.ref p) (gset G2 p (.dT hw [(ks,val y)]))
 | _=>False
section
variable{X:Cx}{pos:Pos}
theorem FY{k v:MJ}{tk tv:bR}(hu:X.A.units+8 < M5)(hk:PE X k (aE X.K tk))(hv:PE X v (aE X.K tv)):PE X (.Dict [some k] [v] pos) (aE X.K (Bg (ai X.prog X.w) tk tv)):=fun pins s τ H Q I zz=>by
 obtain⟨σ,G,Q3,rs,rg,h,kk⟩:=zz;have hf:H s.heap.objs.size=none:=I.hok.fresh (le_refl _);obtain⟨kp,rg2⟩:=Gm (o:=.dT (ai X.prog X.w) []) (ho:=.ext (yw (ai X.prog X.w) s.heap.objs.size [])) rg hf fun H' _=>⟨[],rfl,.nil,PL,M6 _⟩;have hd:(s.heap.objs.size == M9)=false:=beq_eq_false_iff_ne.mpr (Ne.symm (MO I.big));have I1:=I.laid (a:=s.heap.objs.size) (t':=s.toks) (fun _ _ q=>Mn _ q) (le_refl _) (qF (P:=X.prog) (w:=X.w) (hw:=ai X.prog X.w) (xs:=[]) ⟨hd,_,#[],0,Mq (h:=s.heap) (o:={ cls:=.type "dict",data:=.dict #[] }) rfl,⟨rfl,rfl,rfl⟩,rfl,rfl⟩);refine wpAny_Dict_any (by rfl) (by rfl) (by simp) (by simp) ?_
 refine pairTrees_cons_walk (cI (eA hk I1 (rs.mono (kp.stb rg)) rg2 (h _ (rg.free hf))) fun kv s1 zz=>?_);obtain⟨ox,H1,I2,rox,x,G1,q1,k1,rg1,rd1⟩:=zz;refine cI (eA hv I2 (rs.mono ((kp.trans k1).stb rg)) rg1 q1) fun vv s2 zz=>?_;obtain⟨oy,H2,I3,roy,y,G2,q2,k2,rgb,rd2⟩:=zz;refine pairTrees_nil_walk ?_;unfold storeAll;rw[Oe];split at q2
 ·rename_i hw' hg;obtain⟨rfl,ks,hks,q2⟩:=q2;have UZ:=RD.mono (k2.stb rg1) _ _ rd1;obtain⟨b,rfl,sq⟩:=rX hks UZ;cases rox;obtain⟨ho,e,r⟩:=rgb _ _ hg;cases ho with
  | ext φ=>
   obtain⟨xs,rfl,rt,nd,_⟩:=r;have e0:xs=[]:=by
    have:=rt.length;exact List.length_eq_zero_iff.mp this.symm
   subst e0;obtain⟨hd2,dd⟩:=yf I3 e rt nd;refine Mf (Mf (QJ (hsz:=M6 _) (show X.A.units < M5 by walk_at "o") (key_at I3 sq) dd fun h' dd' hs=>Ml ?_))
   dsimp only;rw[OR];refine Ml ?_;obtain⟨q,es,ep,hq,h2,h3,h4,_,h5⟩:=dd';obtain⟨kp3,rg3⟩:=xY (a:=s.heap.objs.size) (o:=.dT (ai X.prog X.w) (bB [] ks (val y))) (ho:=.ext (yw (ai X.prog X.w) s.heap.objs.size (Pg [] ks b vv))) rgb (by rw[hg];exact fun z=>nomatch z)
    fun H' st=>⟨_,rfl,(rt.put ks sq rd2 roy).mono st,nw ks (val y) nd,by have:=fF ([]:List (List aJ×D)) ks (val y);have hs:=aj;simp only[MS]at this;omega⟩
   exact⟨.ref _,_,r8 I3 (by rw[e];exact True.intro) hs ⟨q,hq⟩ (qF ⟨hd2,q,es,ep,hq,h2,h3,h4⟩),rfl,kk _ _ _ _ q2 (kp.trans (k1.trans (k2.trans kp3))) rg3 (.of iu)⟩
  | _=>exact r.elim
 ·exact q2.elim
end
def Ey(x:D):List D->Nat
 | []=>0
 | d::r=>if dG d x then 0 else Ey x r+1
def IQ(to:bR)(ta:nR):bR:=fun σ G Q=>to σ G fun x G1=>match x with
 | .lst ds=>ta σ G1 fun es G2=>match es with
  | [y]=>(pl 7 y/\(∀ d∈ds,pl 7 d)/\y∈ds)/\Q (.int (Ey y ds)) G2
  | _=>False
 | _=>False
def IP(sp:cR)(to:bR):bR:=fun σ G Q=>to σ G fun x G1=>match rU G1 (val x) with
 | some ds=>∃ ks r,SortBy sp G1 ds ks r/\∀ p:List Nat,p.Perm (List.range ds.length)->(p.map r).Pairwise (·<=·)->Q (.fl (p.map fun i=>ds.getD i .non)) G1
 | none=>False
section
variable{X:Cx}{pins:List (Mg×Obj)}{τ:St}{H H0:Hp}{s:Mi}{G:Gp}{E:Mh->Mi->Prop}
 {k:Nat} {f:Mg} {fd:Mr} {ps:List Str} {sp:cR} {ds ks:List D} {r:Nat->Nat} {vs:List V} {us:List Mh}
end
def tm(c:Bool):Nat:=if c then 31 else 7
def Tb(c:Bool)(pl:Array Nat)(led plain:Bool):P6:={ mask:=tm c,place:=pl,dummies:=#[],finger:=0,led:=led,moves:=if c then 1 else 0,plain:=plain }
abbrev Pb:=SetTable.Probe
def look(c:Bool)(pl:Array Nat)(hs:Nat->Int)(same:Nat->Bool)(h:Int):Nat->Pb->Option (Option Nat)
 | 0,_=>none
 | f+1,p=>match (Tb c pl false false).probe hs h p with
  | none=>none
  | some (.empty j _)=>some (some j)
  | some (.candidate _ i next)=>if same i then some none else look c pl hs same h f next
structure OwnOk(owner:Array (Option Nat))(k:Nat):Prop where
 size:owner.size=32
 all:(owner.toList.filterMap id).Perm (List.range k)
def JI(es:Array (Int×Mh))(ep:Nat)(t:P6):Obj:={ cls:=.type "set",dict:=none,data:=.set es ep t }
def uA(h:MG)(b:Mg):Prop:=∃ o items n x t r,h.get? b=some o/\o.cls=.type "tuple"/\o.data=.seq items n/\items.toList=.str x t::r
section
variable{prog:Mw}{w:ME}{κ:Type}[DecidableEq κ]{kn:KeyKind prog w κ}{A:MA}{E:Mh->Mi->Prop}{s:Mi}{a b:Mg}
abbrev hK(kn:KeyKind prog w κ):List κ->Int:=tupleKeyHash kn
def LA(kn:KeyKind prog w κ)(xs:List (List κ×Mg)):Array (Int×Mh):=(xs.map fun x=>(hK kn x.1,Value.ref x.2)).toArray
end
section
variable{prog:Mw}{w:ME}{κ:Type}[DecidableEq κ]{kn:KeyKind prog w κ}{A:MA}{E:Mh->Mi->Prop}{s:Mi}{a b:Mg}
structure SetIs(kn:KeyKind prog w κ)(h:MG)(a:Mg)(xs:List (List κ×Mg))(c:Bool)(pl:Array Nat)(l q:Bool):Prop where
 here:∃ ep,h.get? a=some (JI (LA kn xs) ep (Tb c pl l q))
 len:pl.size=xs.length
 pq:q=true->xs=[]
end
section
variable{prog:Mw}{w:ME}{κ:Type}[DecidableEq κ]{kn:KeyKind prog w κ}{A:MA}{E:Mh->Mi->Prop}{s:Mi}{a b:Mg}
theorem uA.stay{h h':MG}(x:uA h a)(e:∀ o,h.get? a=some o->h'.get? a=some o):uA h' a:=by
 obtain⟨o,its,n,y,t,r,ho,z⟩:=x;exact⟨o,its,n,y,t,r,e o ho,z⟩
theorem SetIs.stay{h h':MG}{xs:List (List κ×Mg)}{c:Bool}{pl:Array Nat}{l q:Bool}(x:SetIs kn h a xs c pl l q)(e:∀ o,h.get? a=some o->h'.get? a=some o):SetIs kn h' a xs c pl l q:=
 ⟨let ⟨ep,z⟩:=x.here;⟨ep,e _ z⟩,x.len,x.pq⟩
end
set_option maxRecDepth 100000
def L7(first:Mh)(i n ep:Nat)(S:Mg):Obj:={ cls:=.type "set_iterator",data:=.fields #[first,.int i 0,.ref S,.int n 0,.int ep 0] }
inductive Mode(w:ME)(h:MG)(S:Mg)(es:Array (Int×Mh))(ep:Nat)(t:P6)(vs:List Mh)(tp:Mg)(i:Nat):Mh->Prop
 | text (m:Int):w.params.followText "set-order"=true->vs=(pickOrder (w.params.setOrder S ep) es).toList.map (·.2)->Mode w h S es ep t vs tp i (.int m 0)
 | few (m:Nat):w.params.followText "set-order"=false->t.led=true->es.size<=1->vs=es.toList.map (·.2)->(i=0/\m=0\/i=1/\t.place=#[m - 1]/\0 < m)->Mode w h S es ep t vs tp i (.int m 0)
 | drawn (ys:List Nat):w.params.followText "set-order"=false->h.get? tp=some { cls:=.type "tuple",data:=.seq (ys.map fun (y:Nat)=>N0 y).toArray }->ys.Perm (List.range es.size)->vs=ys.map (fun y=>(es[y]?.map (·.2)).getD .none)->tp≠S->Mode w h S es ep t vs tp i (.ref tp)
structure SIt(w:ME)(h:MG)(it S:Mg)(es:Array (Int×Mh))(ep:Nat)(t:P6)(vs:List Mh)(tp:Mg)(i:Nat):Prop where
 set:h.get? S=some (JI es ep t)
 fit:t.fits es.size=true
 here:∃ first,h.get? it=some (L7 first i es.size ep S)/\Mode w h S es ep t vs tp i first
set_option maxRecDepth 100000
section
variable{prog:Mw}{w:ME}{A:MA}{E:Mh->Mi->Prop}{s:Mi}{it S tp:Mg}{es:Array (Int×Mh)}{ep i:Nat}{t:P6}{vs:List Mh}
theorem SIt.stay{h h':MG}(x:SIt w h it S es ep t vs tp i)(k:∀ b,b=it\/b=S\/b=tp->∀ o,h.get? b=some o->h'.get? b=some o):SIt w h' it S es ep t vs tp i:=by
 obtain⟨hs,hf,first,e1,md⟩:=x
 refine⟨k S (.inr (.inl rfl)) _ hs,hf,first,k it (.inl rfl) _ e1,?_⟩
 cases md with
 | text m hb ev=>exact .text m hb ev
 | few m hb hl hz ev hm=>exact .few m hb hl hz ev hm
 | drawn ys hb et hp ev hts=>exact .drawn ys hb (k tp (.inr (.inr rfl)) _ et) hp ev hts
end
set_option maxRecDepth 100000
set_option maxRecDepth 100000
def L5(x:Str×Int):D:=.tup [.str x.1,.int x.2]
def JT(a b:Str×Int):Bool:=if a.1=b.1 then decide (a.2 < b.2)else decide (a.1.cps.toList < b.1.cps.toList)
theorem wK:STO (fun a b:List Nat=>decide (a < b)):=by
 have e:(fun a b:List Nat=>decide (a < b))=tM xG:=by funext a b;exact (oU a b).symm
 rw[e];exact xJ xF
theorem HM:STO JT where
 irrefl:=fun a=>by simp[JT]
 trans:=fun a b c h1 h2=>by
  unfold JT at *
  by_cases p1:a.1=b.1
  ·rw[if_pos p1]at h1
   by_cases p2:b.1=c.1
   ·rw[if_pos p2]at h2;rw[if_pos (p1.trans p2)];simp only[decide_eq_true_eq]at *
    omega
   ·rw[if_neg p2]at h2;rw[p1,if_neg p2];exact h2
  ·rw[if_neg p1]at h1
   by_cases p2:b.1=c.1
   ·rw[<- p2,if_neg p1];exact h1
   ·rw[if_neg p2]at h2;have h3:=wK.trans _ _ _ h1 h2;rw[if_neg (fun e=>by rw[e,wK.irrefl]at h3;cases h3)]
    exact h3
 tot:=fun a b h1 h2=>by
  unfold JT at *
  by_cases p1:a.1=b.1
  ·rw[if_pos p1]at h1;rw[if_pos p1.symm]at h2;simp only[decide_eq_false_iff_not]at *
   exact Prod.ext p1 (by walk_at "o")
  ·rw[if_neg p1]at h1;rw[if_neg (Ne.symm p1)]at h2;have e:a.1.cps=b.1.cps:=Array.toList_inj.mp (wK.tot _ _ h1 h2);refine absurd ?_ p1;cases h:a.1;cases h':b.1;rw[h,h']at e;simp only at e;rw[e]
def Srt(l:List (Str×Int)):Prop:=l.Pairwise fun a b=>JT b a=false
theorem srt_uniq:∀ {L M:List (Str×Int)},L.Perm M->Srt L->Srt M->L=M
 | [],M,p,_,_=>(List.nil_perm.mp p).symm
 | a::L,[],p,_,_=>absurd p.length_eq (by simp)
 | a::L,b::M,p,h1,h2=>by
  unfold Srt at h1 h2;rw[List.pairwise_cons]at h1 h2;have e:a=b:=by
   rcases MV.mp (p.mem_iff.mp MB)with e|m1
   ·exact e
   ·rcases MV.mp (p.mem_iff.mpr MB)with e|m2
    ·exact e.symm
    ·exact HM.tot _ _ (h2.1 a m1) (h1.1 b m2)
  subst e;rw[srt_uniq ((List.perm_cons a).mp p) h1.2 h2.2]
structure InsAsk(K:PySem.W.Frag)(C:Mg):Prop where
 cl:Cls K C
 ca:PySem.W.findIn K (.ref C) "__class__"=some (some (.builtin "object.__class__"))
 gs:PySem.W.specialIn K (.builtin "object.__class__") "__get__"=some (some (.builtin "getset_descriptor.__get__"))
 tk:PySem.W.takesIn K (.builtin "object.__class__")=some true
 mo:PySem.W.mroIn K C (.type "object")=some true
def yo(cs:List (Mg×Bool))(c:Mg):B0:=fun ds G Q=>match ds with
 | [.ref a,.ref c']=>c'=c/\match G a with
  | some (.ins C _ _)=>∃ b,(C,b)∈cs/\Q (.bl b) G
  | _=>False
 | _=>False
theorem xl{X:Cx}{nm:Str}{C:Mg}{pos:Pos}(hg:Gl X nm)(hm:X.mg nm=some (.ref C))(hd:(nm == ("__debug__":Str))=false:=by decide):PE X (.Name nm pos) (aE X.K (eC (.ref C))):=BC (v:=.ref C) hg hm rfl (fun _=>by simp only[RD]) hd
theorem BV{X:Cx}{cs:List (Mg×Bool)}{c:Mg}(tab:∀ p∈cs,InsAsk X.K p.1/\Nq X.K (.ref p.1) (.ref c)=some p.2):d8 X (.builtin "isinstance") (lM X.K (yo cs c)):=by
 rintro pins s σ H vs us Q I rv ⟨ds,G,Q3,rds,rg,h,kk⟩
 unfold yo at h;split at h
 ·rename_i a c';obtain⟨rfl,h⟩:=h;split at h
  ·rename_i C L es hg;obtain⟨b,hb,hq⟩:=h;obtain⟨v,t,e,h1,h2⟩:=rds.inv_cons;obtain⟨u2,e2,h3⟩:=fy h2;simp only[RD]at h1 h3;subst e e2 h1 h3;obtain⟨u,w',rfl,ru,rw'⟩:=Dl rv;cases ru;cases rw';obtain⟨ho,e1,ro⟩:=rg a _ hg;cases ho with
   | ins C2 dx gs=>
    obtain⟨rfl,r2,r3⟩:=ro;obtain⟨t1,t2⟩:=tab _ hb;exact me (x:=V.ref a) I rfl (TyOf.ins e1 t1.cl t1.ca t1.gs t1.tk t1.mo) t2 fun tk=>⟨.bl _,H,I.tok tk,rfl,kk _ G _ H hq Kp.refl rg (.of hV)⟩
   | _=>exact ro.elim
  ·exact h.elim
 ·exact h.elim
end L3
namespace RQ
open PySem PySem.Spec PyProof.Rows L2 L3
structure Rw where
 pen:Str
 num:Int
 time:Int
 act:D
instance:Inhabited Rw:=⟨⟨"",0,0,.non⟩⟩
def Rw.d(r:Rw):D:=.tup [.tup [.str r.pen,.int r.num],.int r.time,r.act]
def Rw.key(r:Rw):D:=.tup [.int r.time,.tup [.str r.pen,.int r.num]]
def Rw.ok(r:Rw):Prop:=pl 4 r.act
def Rw.lt(a b:Rw):Bool:=if a.time=b.time then (if a.pen=b.pen then decide (a.num < b.num)else decide (a.pen.cps.toList < b.pen.cps.toList))else decide (a.time < b.time)
def iA(rs:List Rw):Prop:=rs.Pairwise fun a b=>a.lt b=true
def lX(a b:Rw):Prop:=¬ (a.pen=b.pen/\a.num=b.num)
def mq(rs:List Rw):Prop:=∀ a∈rs,∀ b∈rs,a.pen=b.pen->a.num=b.num->a=b
abbrev HW:=List aJ->Int
open PySem.W (SWO STO tM xG xF xJ oU rankIn rank_lt)
theorem yi:STO (fun a b:List Nat=>decide (a < b)):=by
 have e:(fun a b:List Nat=>decide (a < b))=tM xG:=by funext a b;exact (oU a b).symm
 rw[e];exact xJ xF
theorem Gy{x y:Str}(h:x.cps.toList=y.cps.toList):x=y:=by
 cases x;cases y;simp only at h;rw[Array.toList_inj.mp h]
theorem lt_irrefl(a:Rw):a.lt a=false:=by simp[Rw.lt]
theorem lt_trans(a b c:Rw)(h1:a.lt b=true)(h2:b.lt c=true):a.lt c=true:=by
 unfold Rw.lt at *
 by_cases e1:a.time=b.time
 ·rw[if_pos e1]at h1
  by_cases e2:b.time=c.time
  ·rw[if_pos e2]at h2;rw[if_pos (e1.trans e2)]
   by_cases p1:a.pen=b.pen
   ·rw[if_pos p1]at h1
    by_cases p2:b.pen=c.pen
    ·rw[if_pos p2]at h2;rw[if_pos (p1.trans p2)];simp only[decide_eq_true_eq]at *
     omega
    ·rw[if_neg p2]at h2;rw[p1,if_neg p2];exact h2
   ·rw[if_neg p1]at h1
    by_cases p2:b.pen=c.pen
    ·rw[<- p2,if_neg p1];exact h1
    ·rw[if_neg p2]at h2;have h3:=yi.trans _ _ _ h1 h2;rw[if_neg (fun e=>by rw[e,yi.irrefl]at h3;cases h3)]
     exact h3
  ·rw[if_neg e2]at h2;rw[e1,if_neg e2];exact h2
 ·rw[if_neg e1]at h1
  by_cases e2:b.time=c.time
  ·rw[<- e2,if_neg e1];exact h1
  ·rw[if_neg e2]at h2;simp only[decide_eq_true_eq]at *
   rw[if_neg (by walk_at "o")]
   simp only[decide_eq_true_eq];omega
theorem Ep(a b:Rw)(h1:a.lt b=false)(h2:b.lt a=false):a.pen=b.pen/\a.num=b.num/\a.time=b.time:=by
 unfold Rw.lt at *
 by_cases e1:a.time=b.time
 ·rw[if_pos e1]at h1;rw[if_pos e1.symm]at h2
  by_cases p1:a.pen=b.pen
  ·rw[if_pos p1]at h1;rw[if_pos p1.symm]at h2;simp only[decide_eq_false_iff_not]at *
   exact⟨p1,by walk_at "o",e1⟩
  ·rw[if_neg p1]at h1;rw[if_neg (Ne.symm p1)]at h2;exact absurd (Gy (yi.tot _ _ h1 h2)) p1
 ·rw[if_neg e1]at h1;rw[if_neg (Ne.symm e1)]at h2;simp only[decide_eq_false_iff_not]at *
  omega
theorem Er{a b:Rw}(h:a.lt b=true):b.lt a=false:=by
 cases e:b.lt a with
 | false=>rfl
 | true=>have:=lt_trans _ _ _ h e;rw[lt_irrefl]at this;cases this
theorem F_{a b c:Rw}(p:a.pen=b.pen)(n:a.num=b.num)(t:a.time=b.time):a.lt c=b.lt c/\c.lt a=c.lt b:=by
 unfold Rw.lt;rw[p,n,t];exact⟨rfl,rfl⟩
theorem DB:SWO Rw.lt where
 irrefl:=lt_irrefl
 trans:=lt_trans
 neg:=fun a b c h=>by
  cases e:a.lt b with
  | true=>exact .inl rfl
  | false=>
   cases e2:b.lt c with
   | true=>exact .inr rfl
   | false=>
    cases e3:b.lt a with
    | true=>have:=lt_trans _ _ _ e3 h;rw[e2]at this;cases this
    | false=>
     obtain⟨p,n,t⟩:=Ep a b e e3;rw[(F_ (c:=c) p n t).1,e2]at h;cases h
theorem jp:∀ {xs ys:List Rw},iA xs->iA ys->(∀ r,r∈xs↔r∈ys)->xs=ys
 | [],ys,_,_,h=>by
  cases ys with
  | nil=>rfl
  | cons y t=>have:=(h y).mpr MB;simp at this
 | x::xs,[],_,_,h=>by have:=(h x).mp MB;simp at this
 | x::xs,y::ys,h1,h2,h=>by
  unfold iA at h1 h2;rw[List.pairwise_cons]at h1 h2;have hxy:x=y:=by
   rcases MV.mp ((h x).mp MB)with e|m1
   ·exact e
   ·rcases MV.mp ((h y).mpr MB)with e|m2
    ·exact e.symm
    ·have a1:=h2.1 x m1;have a2:=h1.1 y m2;rw[Er a1]at a2;cases a2
  subst hxy;have nx:x∉xs:=fun m=>by have:=h1.1 x m;rw[lt_irrefl]at this;cases this
  have ny:x∉ys:=fun m=>by have:=h2.1 x m;rw[lt_irrefl]at this;cases this
  rw[jp h1.2 h2.2 fun r=>⟨fun m=>?_,fun m=>?_⟩]
  ·rcases MV.mp ((h r).mp (Mz _ m))with e|m'
   ·subst e;exact absurd m nx
   ·exact m'
  ·rcases MV.mp ((h r).mpr (Mz _ m))with e|m'
   ·subst e;exact absurd m ny
   ·exact m'
theorem fK{xs:List Rw}(h:iA xs):xs.Nodup:=List.Pairwise.imp (fun {a b} q e=>by subst e;rw[lt_irrefl]at q;cases q) h
theorem qY{xs:List Rw}(h:xs.Pairwise lX):xs.Nodup:=List.Pairwise.imp (fun {a b} q e=>by subst e;exact q ⟨rfl,rfl⟩) h
open Classical in
theorem hZ:∀ {xs ys:List Rw},xs.Nodup->(∀ r∈xs,r∈ys)->xs.length<=ys.length
 | [],_,_,_=>M6 _
 | x::xs,ys,h,s=>by
  rw[NW]at h;have hx:=s x MB;have:=hZ (ys:=ys.erase x) h.2 fun r hr=>(List.mem_erase_of_ne (fun e=>by subst e;exact h.1 hr)).mpr (s r (Mz _ hr))
  rw[List.length_erase_of_mem hx]at this;have hp:0 < ys.length:=List.length_pos_of_mem hx;rw[MD];omega
theorem mn{rs:List Rw}(h:rs.Pairwise lX):mq rs:=by
 induction h with
 | nil=>intro a ha;simp at ha
 | @cons x xs h1 h2 ih=>
  intro a ha b hb p n;rcases MV.mp ha with e|ha
  ·rcases MV.mp hb with e'|hb
   ·rw[e,e']
   ·rw[e]at p n;exact absurd ⟨p,n⟩ (h1 b hb)
  ·rcases MV.mp hb with e|hb
   ·rw[e]at p n;exact absurd ⟨p.symm,n.symm⟩ (h1 a ha)
   ·exact ih a ha b hb p n
theorem IA(a b:Rw):mF 4 a.key b.key=a.lt b:=by
 show d_ (mF 3) [.int a.time,.tup [.str a.pen,.int a.num]] [.int b.time,.tup [.str b.pen,.int b.num]]=_
 unfold Rw.lt
 by_cases e:a.time=b.time
 ·rw[if_pos e];have h1:dG (.int a.time) (.int b.time)=true:=by rw[e];exact bu _
  rw[show d_ (mF 3) [.int a.time,.tup [.str a.pen,.int a.num]] [.int b.time,.tup [.str b.pen,.int b.num]]=d_ (mF 3) [.tup [.str a.pen,.int a.num]] [.tup [.str b.pen,.int b.num]]by simp[d_,h1]]
  have inner:mF 3 (.tup [.str a.pen,.int a.num]) (.tup [.str b.pen,.int b.num])=if a.pen=b.pen then decide (a.num < b.num)else decide (a.pen.cps.toList < b.pen.cps.toList):=by
   show d_ (mF 2) [.str a.pen,.int a.num] [.str b.pen,.int b.num]=_
   by_cases p:a.pen=b.pen
   ·have h2:dG (.str a.pen) (.str b.pen)=true:=by rw[p];exact bu _
    rw[if_pos p]
    by_cases n:a.num=b.num
    ·have h3:dG (.int a.num) (.int b.num)=true:=by rw[n];exact bu _
     simp[d_,h2,n,bu]
    ·have h3:dG (.int a.num) (.int b.num)=false:=bQ (by simpa using n)
     simp[d_,h2,h3,mF]
   ·have h2:dG (.str a.pen) (.str b.pen)=false:=bQ (by simpa using p)
    rw[if_neg p];simp[d_,h2,mF]
  by_cases t:(D.tup [.str a.pen,.int a.num])=.tup [.str b.pen,.int b.num]
  ·have h2:=EI t;simp only[D.tup.injEq,List.cons.injEq,D.str.injEq,D.int.injEq,and_true]at t;simp[d_,t.1,t.2,bu]
  ·rw[<- inner];simp[d_,bQ t]
 ·rw[if_neg e];have h1:dG (.int a.time) (.int b.time)=false:=bQ (by simpa using e)
  simp[d_,h1,mF]
theorem ID(a b:Rw):EN 4 a.key b.key:=by
 refine⟨⟨trivial,trivial⟩,fun _=>trivial,⟨fun d hd=>?_,fun d hd=>?_⟩,fun _=>?_,trivial⟩
 ·simp only[MV,MZ,or_false]at hd;rcases hd with rfl|rfl<;>trivial
 ·simp only[MV,MZ,or_false]at hd;rcases hd with rfl|rfl<;>trivial
 ·exact⟨⟨trivial,trivial⟩,fun _=>trivial,⟨trivial,trivial⟩,fun _=>trivial,trivial⟩
def qO(r:Rw):List aJ:=[.inr r.pen,.inl r.num]
def qr(r:Rw):List aJ×D:=(qO r,r.d)
theorem wb{a b:Rw}:qO a=qO b↔a.pen=b.pen/\a.num=b.num:=by
 simp[qO]
theorem HJ{vs:List Rw}{r:Rw}(h:r∈vs)(o:∀ a∈vs,a.pen=r.pen->a.num=r.num->a=r):bB (vs.map qr) (qO r) r.d=vs.map qr:=by
 unfold bB;rw[if_pos (by rw[List.any_eq_true];exact⟨qr r,List.mem_map_of_mem h,decide_eq_true rfl⟩),MY]
 refine NF fun a ha=>?_;simp only[Function.comp_apply];split
 ·rename_i e;obtain⟨p,n⟩:=wb.mp e;have:=o a ha p n;subst this;rfl
 ·rfl
theorem put_new{vs:List Rw}{r:Rw}(h:∀ a∈vs,lX a r):bB (vs.map qr) (qO r) r.d=(vs ++ [r]).map qr:=by
 unfold bB;rw[if_neg]
 ·rw[M3];rfl
 ·rw[Bool.not_eq_true,List.any_eq_false];intro kv hkv;obtain⟨a,ha,rfl⟩:=QY.mp hkv;simp only[decide_eq_true_eq];intro e;exact h a ha (wb.mp e)
theorem Du{vs:List Rw}(hv:vs.Pairwise lX){p:List Nat}(hp:p.Perm (List.range vs.length))(hs:(p.map fun i=>rankIn Rw.lt vs (vs.getD i default)).Pairwise (·<=·)):
  iA (p.map fun i=>vs.getD i default)/\∀ r,r∈(p.map fun i=>vs.getD i default)↔r∈vs:=by
 have inr:∀ i∈p,i < vs.length:=fun i hi=>mem_range.mp (hp.mem_iff.mp hi);have gm:∀ i,i < vs.length->vs.getD i default∈vs:=fun i hi=>by rw[MI,Ms hi];exact Ot hi
 constructor
 ·unfold iA;rw[List.pairwise_map]at hs ⊢;have nd:p.Nodup:=hp.nodup_iff.mpr List.nodup_range;refine (hs.and nd).imp_of_mem fun {i j} hi hj h=>?_;have li:=inr i hi;have lj:=inr j hj;have nlt:(vs.getD j default).lt (vs.getD i default)=false:=by
   rw[rank_lt DB (gm j lj),decide_eq_false_iff_not,Nat.not_lt];exact h.1
  cases e:(vs.getD i default).lt (vs.getD j default) with
  | true=>rfl
  | false=>
   obtain⟨pp,nn,_⟩:=Ep _ _ e nlt;have ap:lX (vs.getD i default) (vs.getD j default):=by
    rw[MI,MI,Ms li,Ms lj];rcases Nat.lt_or_gt_of_ne h.2 with l|l
    ·exact List.pairwise_iff_getElem.mp hv i j li lj l
    ·exact fun z=>List.pairwise_iff_getElem.mp hv j i lj li l ⟨z.1.symm,z.2.symm⟩
   exact absurd ⟨pp,nn⟩ ap
 ·intro r;have e:((List.range vs.length).map fun i=>vs.getD i default)=vs:=L3.range_getD vs default;have q:=hp.map fun i=>vs.getD i default;rw[e]at q;exact q.mem_iff
theorem hJ{κ:Type}[DecidableEq κ](k k':κ)(v:D):∀ kvs:List (κ×D),cB (bB kvs k v) k'=if k'=k then some v else cB kvs k':=by
 have go:∀ kvs:List (κ×D),(kvs.any fun kv=>decide (kv.1=k))=true->cB (kvs.map fun kv=>if kv.1=k then (kv.1,v)else kv) k'=if k'=k then some v else cB kvs k':=by
  intro kvs
  induction kvs with
  | nil=>intro h;simp at h
  | cons p r ih=>
   intro h
   by_cases e:p.1=k
   ·by_cases e':k'=k
    ·rw[if_pos e'];simp[cB,MQ,e,e']
    ·rw[if_neg e'];have n1:¬ k=k':=fun z=>e' z.symm;have skip:∀ q:List (κ×D),cB (((p.1,v):κ×D)::q) k'=cB q k':=fun q=>by simp[cB,MQ,e,n1]
     have UL:cB (p::r) k'=cB r k':=by simp[cB,MQ,e,n1]
     rw[MF,if_pos e,skip,UL]
     by_cases hr:(r.any fun kv=>decide (kv.1=k))=true
     ·have:=ih hr;rw[if_neg e']at this;exact this
     ·have:r.map (fun kv=>if kv.1=k then (kv.1,v)else kv)=r:=by
       rw[Bool.not_eq_true,List.any_eq_false]at hr
       conv=>rhs;rw[<- List.map_id r]
       refine NF fun a ha=>?_;have:=hr a ha;simp only[decide_eq_true_eq]at this;rw[if_neg this];rfl
      rw[this]
   ·have hr:(r.any fun kv=>decide (kv.1=k))=true:=by simpa[e]using h
    rw[MF,if_neg e]
    by_cases e2:p.1=k'
    ·have n1:¬ k'=k:=fun z=>e (e2.trans z);rw[if_neg n1];simp[cB,MQ,e2]
    ·have s1:∀ q:List (κ×D),cB (p::q) k'=cB q k':=fun q=>by simp[cB,MQ,e2]
     rw[s1,s1];exact ih hr
 intro kvs;unfold bB
 by_cases h:(kvs.any fun kv=>decide (kv.1=k))=true
 ·rw[if_pos h];exact go kvs h
 ·rw[if_neg h]
  by_cases e':k'=k
  ·rw[if_pos e'];subst e';have hn:cB kvs k'=none:=by
    have:=pz k' kvs;rw[Bool.not_eq_true]at h;rw[h]at this;cases q:cB kvs k' with
    | none=>rfl
    | some _=>rw[q]at this;cases this
   unfold cB at hn ⊢;rw[List.find?_append];cases q:kvs.find? fun kv=>decide (kv.1=k') with
   | none=>simp
   | some z=>rw[q]at hn;cases hn
  ·rw[if_neg e'];unfold cB;rw[List.find?_append];cases q:kvs.find? fun kv=>decide (kv.1=k') with
   | none=>simp;exact fun z=>e' z.symm
   | some z=>rfl
structure Sl where
 pen:Str
 n:Int
 k:Int
deriving DecidableEq
instance:Inhabited Sl:=⟨⟨"",0,0⟩⟩
def Sl.d(s:Sl):D:=.tup [.str s.pen,.int s.n,.int s.k]
def Sl.key(s:Sl):List aJ:=[.inr s.pen,.inl s.n,.inl s.k]
theorem Sl.key_inj{a b:Sl}(h:a.key=b.key):a=b:=by
 obtain⟨a1,a2,a3⟩:=a;obtain⟨b1,b2,b3⟩:=b;simp only[Sl.key,List.cons.injEq,Sum.inr.injEq,Sum.inl.injEq,and_true]at h;obtain⟨rfl,rfl,rfl⟩:=h;rfl
theorem Sl.d_inj{a b:Sl}(h:a.d=b.d):a=b:=by
 obtain⟨a1,a2,a3⟩:=a;obtain⟨b1,b2,b3⟩:=b;simp only[Sl.d,D.tup.injEq,List.cons.injEq,D.str.injEq,D.int.injEq,and_true]at h;obtain⟨rfl,rfl,rfl⟩:=h;rfl
theorem xO(s:Sl):pc s.d=some s.key:=rfl
def aF:Sl:=⟨Mj "",0,0⟩
inductive Act where
 | put (a:Sl) (x:Str)
 | strike (ns:List Sl)
 | dress (ns:List Sl) (w:Str)
 | move (ns:List Sl) (a:Sl)
def Act.d:Act->D
 | .put a x=>.tup [.str "put",a.d,.str x]
 | .strike ns=>.tup [.str "strike",.tup (ns.map Sl.d)]
 | .dress ns w=>.tup [.str "dress",.tup (ns.map Sl.d),.str w]
 | .move ns a=>.tup [.str "move",.tup (ns.map Sl.d),a.d]
def Act.many:Act->Nat
 | .put _ x=>x.length
 | .move ns _=>ns.length
 | _=>0
def Act.anch:Act->Sl
 | .put a _=>a
 | .move _ a=>a
 | _=>aF
structure Sk where
 pen:Str
 num:Int
 time:Int
 act:Act
instance:Inhabited Sk:=⟨⟨"",0,0,.strike []⟩⟩
def Sk.rw(s:Sk):Rw:=⟨s.pen,s.num,s.time,s.act.d⟩
def Sk.d(s:Sk):D:=.tup [.tup [.str s.pen,.int s.num],.int s.time,s.act.d]
def Sk.ok(s:Sk):Prop:=1<=s.num/\s.act.many<=1000
def eE(pen:Str)(n:Int)(m:Nat):List Sl:=(List.range m).map fun (k:Nat)=>⟨pen,n,(k:Int)+1⟩
def made(s:Sk):List Sl:=eE s.pen s.num s.act.many
def gy(m:Nat):List Sl:=eE (Mj "") 0 m
theorem cF(p:Str)(n:Int)(m:Nat):(eE p n m).length=m:=by simp[eE]
theorem i9(p:Str)(n:Int)(m:Nat):(eE p n m).Nodup:=by
 unfold eE List.Nodup;rw[List.pairwise_map];refine List.Pairwise.imp ?_ (List.nodup_range (n:=m));intro a b h e;injection e with e1 e2 e3
 exact h (by walk_at "o")
theorem fZ{p:Str}{n:Int}{m:Nat}{x:Sl}(h:x∈eE p n m):x.pen=p/\x.n=n/\1<=x.k:=by
 unfold eE at h;obtain⟨k,_,rfl⟩:=QY.mp h;exact⟨rfl,rfl,by show 1<=(k:Int)+1;omega⟩
def C9:List Sl->D
 | []=>.non
 | s::_=>s.d
def nx:List Sl->Sl->D
 | [],_=>.non
 | a::t,c=>if a=c then C9 t else nx t c
def kL:List Sl->Sl->Sl->List Sl
 | [],_,_=>[]
 | a::t,b,x=>if a=b then a::x::t else a::kL t b x
def cb:List Sl->Sl->List Sl->List Sl
 | W,_,[]=>W
 | W,b,x::t=>cb (kL W b x) x t
theorem f8{W:List Sl}{b x:Sl}(hb:b∈W):∀ c,c∈kL W b x↔c∈W\/c=x:=by
 induction W with
 | nil=>simp at hb
 | cons a t ih=>
  intro c;unfold kL
  by_cases e:a=b
  ·rw[if_pos e];simp only[MV];constructor
   ·rintro (h|h|h)
    ·exact .inl (.inl h)
    ·exact .inr h
    ·exact .inl (.inr h)
   ·rintro ((h|h)|h)
    ·exact .inl h
    ·exact .inr (.inr h)
    ·exact .inr (.inl h)
  ·rw[if_neg e];have hb':b∈t:=by
    rcases MV.mp hb with z|z
    ·exact absurd z.symm e
    ·exact z
   simp only[MV,ih hb' c];constructor
   ·rintro (h|h|h)
    ·exact .inl (.inl h)
    ·exact .inl (.inr h)
    ·exact .inr h
   ·rintro ((h|h)|h)
    ·exact .inl h
    ·exact .inr (.inl h)
    ·exact .inr (.inr h)
theorem lP{W:List Sl}{b x:Sl}(hb:b∈W):(kL W b x).length=W.length+1:=by
 induction W with
 | nil=>simp at hb
 | cons a t ih=>
  unfold kL
  by_cases e:a=b
  ·rw[if_pos e];simp
  ·rw[if_neg e];have hb':b∈t:=by
    rcases MV.mp hb with z|z
    ·exact absurd z.symm e
    ·exact z
   simp[ih hb']
theorem A8{W:List Sl}{b x:Sl}(hW:W.Nodup)(hx:x∉W)(hb:b∈W):(kL W b x).Nodup:=by
 induction W with
 | nil=>simp at hb
 | cons a t ih=>
  unfold kL;rw[NW]at hW
  by_cases e:a=b
  ·rw[if_pos e,NW,NW];simp only[MV,not_or]at hx;refine⟨?_,hx.2,hW.2⟩;rw[MV,not_or];exact⟨Ne.symm hx.1,hW.1⟩
  ·rw[if_neg e];have hb':b∈t:=by
    rcases MV.mp hb with z|z
    ·exact absurd z.symm e
    ·exact z
   simp only[MV,not_or]at hx;rw[NW];refine⟨fun z=>?_,ih hW.2 hx.2 hb'⟩;rcases (f8 hb' a).mp z with z|z
   ·exact hW.1 z
   ·exact hx.1 z.symm
theorem Ex{W:List Sl}{b x:Sl}:C9 (kL W b x)=C9 W:=by
 cases W with
 | nil=>rfl
 | cons a t=>
  unfold kL;split<;>rfl
theorem Gk{W:List Sl}{b x:Sl}(hW:W.Nodup)(hx:x∉W)(hb:b∈W):∀ c,nx (kL W b x) c=if c=x then nx W b else if c=b then x.d else nx W c:=by
 induction W with
 | nil=>simp at hb
 | cons a t ih=>
  intro c;rw[NW]at hW;simp only[MV,not_or]at hx;unfold kL
  by_cases e:a=b
  ·subst e;rw[if_pos rfl];simp only[nx]
   by_cases c1:c=x
   ·subst c1;rw[if_neg (Ne.symm hx.1),if_pos rfl,if_pos rfl];simp
   ·rw[if_neg c1]
    by_cases c2:c=a
    ·subst c2;simp[C9]
    ·rw[if_neg (Ne.symm c2),if_neg (fun z=>c1 z.symm),if_neg c2,if_neg (Ne.symm c2)]
  ·rw[if_neg e];have hb':b∈t:=by
    rcases MV.mp hb with z|z
    ·exact absurd z.symm e
    ·exact z
   simp only[nx];rw[Ex,ih hW.2 hx.2 hb' c]
   by_cases c0:a=c
   ·subst c0;rw[if_pos rfl,if_neg (fun z=>hx.1 z.symm),if_neg e,if_pos rfl]
   ·rw[if_neg c0,if_neg c0,if_neg e]
def C7(kvs:List (List aJ×D))(W:List Sl):Prop:=W.Nodup/\kvs.length=W.length/\(∀ s,s∉W->cB kvs s.key=none)/\∀ s∈W,cB kvs s.key=some (nx W s)
theorem sZ{κ:Type}[DecidableEq κ]{kvs:List (κ×D)}{k:κ}{v:D}:(bB kvs k v).length=if (cB kvs k).isSome=true then kvs.length else kvs.length+1:=by
 unfold bB;rw[pz];split<;>simp
theorem EF{kvs:List (List aJ×D)}{W:List Sl}{b x:Sl}(h:C7 kvs W)(hb:b∈W)(hx:x∉W):C7 (bB (bB kvs x.key (nx W b)) b.key x.d) (kL W b x):=by
 obtain⟨h1,h2,h3,h4⟩:=h;have hne:b≠x:=fun z=>hx (z ▸ hb);have at2:∀ c:Sl,cB (bB (bB kvs x.key (nx W b)) b.key x.d) c.key=if c=b then some x.d else if c=x then some (nx W b)else cB kvs c.key:=fun c=>by
  rw[hJ,hJ]
  by_cases e1:c=b
  ·subst e1;rw[if_pos rfl,if_pos rfl]
  ·rw[if_neg (fun z=>e1 (Sl.key_inj z)),if_neg e1]
   by_cases e2:c=x
   ·subst e2;rw[if_pos rfl,if_pos rfl]
   ·rw[if_neg (fun z=>e2 (Sl.key_inj z)),if_neg e2]
 refine⟨A8 h1 hx hb,?_,fun c hc=>?_,fun c hc=>?_⟩
 ·rw[sZ,sZ,h3 x hx,hJ,if_neg (fun z=>hne (Sl.key_inj z)),h4 b hb,lP hb,h2];simp
 ·have hc':c∉W/\c≠x:=⟨fun z=>hc ((f8 hb c).mpr (.inl z)),fun z=>hc ((f8 hb c).mpr (.inr z))⟩;rw[at2,if_neg (fun (z:c=b)=>hc'.1 (by rw[z];exact hb)),if_neg hc'.2]
  exact h3 c hc'.1
 ·rw[at2,Gk h1 hx hb]
  by_cases e1:c=b
  ·subst e1;rw[if_pos rfl,if_neg hne,if_pos rfl]
  ·rw[if_neg e1]
   by_cases e2:c=x
   ·rw[if_pos e2,if_pos e2]
   ·rw[if_neg e2,if_neg e2,if_neg e1];rcases (f8 hb c).mp hc with z|z
    ·exact h4 c z
    ·exact absurd z e2
theorem CQ(v:List Sl->Prop):C7 [(aF.key,.non)] [aF]:=by
 refine⟨by simp,rfl,fun s hs=>?_,fun s hs=>?_⟩
 ·have:s≠aF:=by simpa using hs
  simp only[cB,MQ,List.find?_nil];rw[decide_eq_false (fun z=>this (Sl.key_inj z).symm)];rfl
 ·have:s=aF:=by simpa using hs
  subst this;simp[cB,nx,C9]
def fL(W:List Sl)(s:Sk):List Sl:=if s.act.anch∈W then cb W s.act.anch (made s)else W
def ng(n:Nat)(out:List Sk):List Sl:=out.foldl fL (cb [aF] aF (gy n))
theorem uc:∀ {ss W:List Sl} {b:Sl},b∈W->∀ c,c∈cb W b ss↔c∈W\/c∈ss
 | [],W,b,hb,c=>by simp[cb]
 | x::t,W,b,hb,c=>by
  unfold cb;rw[uc (ss:=t) ((f8 hb x).mpr (.inr rfl)) c,f8 hb c,MV];constructor
  ·rintro ((h|h)|h)
   ·exact .inl h
   ·exact .inr (.inl h)
   ·exact .inr (.inr h)
  ·rintro (h|h|h)
   ·exact .inl (.inl h)
   ·exact .inl (.inr h)
   ·exact .inr h
theorem mP:∀ {ss W:List Sl} {b:Sl},b∈W->(cb W b ss).length=W.length+ss.length
 | [],W,b,hb=>by simp[cb]
 | x::t,W,b,hb=>by
  unfold cb;rw[mP (ss:=t) ((f8 hb x).mpr (.inr rfl)),lP hb,MD];omega
theorem A7{pre post:List Sl}{b x:Sl}(h:b∉pre):kL (pre ++ b::post) b x=pre ++ b::x::post:=by
 induction pre with
 | nil=>simp[kL]
 | cons a t ih=>
  simp only[MV,not_or]at h;simp only[Oi,kL];rw[if_neg (Ne.symm h.1),ih h.2]
theorem pf:∀ {ss pre post:List Sl} {b:Sl},b∉pre->ss.Nodup->(∀ x∈ss,x∉pre/\x≠b)->cb (pre ++ b::post) b ss=pre ++ b::(ss ++ post)
 | [],pre,post,b,_,_,_=>by simp[cb]
 | x::t,pre,post,b,h,nd,hs=>by
  unfold cb;rw[A7 h];rw[NW]at nd;have hx:=hs x MB;have e:pre ++ b::x::post=(pre ++ [b]) ++ x::post:=by simp
  rw[e,pf (ss:=t) (pre:=pre ++ [b]) (post:=post) (b:=x) (by simp[hx.1,hx.2]) nd.2 (fun y hy=>?_)]
  ·simp
  ·have hy':=hs y (Mz _ hy);refine⟨by simp[hy'.1,hy'.2],fun z=>nd.1 (z ▸ hy)⟩
def Bm(done:List Sk)(W:List Sl):Prop:=∀ x∈W,x.n=0\/∃ s∈done,x.pen=s.pen/\x.n=s.num
theorem EE{done:List Sk}{W:List Sl}{s:Sk}(h:Bm done W)(hs:1<=s.num)(ap:∀ r∈done,¬ (r.pen=s.pen/\r.num=s.num)):∀ x∈made s,x∉W:=fun x hx hW=>by
 obtain⟨p1,p2,_⟩:=fZ hx;rcases h x hW with z|⟨r,hr,z1,z2⟩
 ·omega
 ·exact ap r hr ⟨z1.symm.trans p1,z2.symm.trans p2⟩
theorem CP{done:List Sk}{W:List Sl}{s:Sk}(h:Bm done W):Bm (done ++ [s]) (fL W s):=fun x hx=>by
 unfold fL at hx;have up:x∈W->x.n=0\/∃ r∈done ++ [s],x.pen=r.pen/\x.n=r.num:=fun z=>by
  rcases h x z with q|⟨r,hr,q⟩
  ·exact .inl q
  ·exact .inr ⟨r,List.mem_append_left _ hr,q⟩
 split at hx
 ·rename_i ha;rcases (uc ha x).mp hx with z|z
  ·exact up z
  ·obtain⟨p1,p2,_⟩:=fZ z;exact .inr ⟨s,by simp,p1,p2⟩
 ·exact up hx
theorem dJ(n:Nat):cb [aF] aF (gy n)=aF::gy n:=by
 have:=pf (ss:=gy n) (pre:=[]) (post:=[]) (b:=aF) (by simp) (i9 _ _ _) (fun x hx=>⟨by simp,fun z=>by
  obtain⟨_,_,h⟩:=fZ hx;rw[z]at h;exact absurd h (by decide)⟩)
 simpa using this
theorem Bc(n:Nat):Bm [] (cb [aF] aF (gy n)):=fun x hx=>by
 rw[dJ]at hx;rcases MV.mp hx with z|z
 ·subst z;exact .inl rfl
 ·exact .inl (fZ z).2.1
theorem zM(n:Nat):∀ (out done:List Sk) (W:List Sl),Bm done W->Bm (done ++ out) (out.foldl fL W)
 | [],done,W,h=>by simpa using h
 | s::t,done,W,h=>by
  have:=zM n t (done ++ [s]) (fL W s) (CP h)
  simpa using this
theorem B8{W:List Sl}{s:Sk}{R:List Sl}(h:W=aF::R):∃ R',fL W s=aF::R':=by
 unfold fL;split
 ·rename_i ha;clear ha;generalize made s=ss;generalize s.act.anch=b
  induction ss generalizing W b R with
  | nil=>exact⟨R,h⟩
  | cons x t ih=>
   unfold cb;subst h;unfold kL;split
   ·exact ih rfl _
   ·exact ih rfl _
 ·exact⟨R,h⟩
theorem yK(n:Nat):∀ (out:List Sk) (W R:List Sl),W=aF::R->∃ R',out.foldl fL W=aF::R'
 | [],W,R,h=>⟨R,h⟩
 | s::t,W,R,h=>by
  obtain⟨R',h'⟩:=B8 (s:=s) h;exact yK n t _ R' h'
def jg(n:Nat)(out:List Sk):List Sl:=(ng n out).tail
theorem rV(n:Nat)(out:List Sk):ng n out=aF::jg n out:=by
 obtain⟨R,h⟩:=yK n out _ (gy n) (dJ n);unfold jg;have:ng n out=aF::R:=h;rw[this];rfl
theorem v7(n:Nat)(out:List Sk)(s:Sk):ng n (out ++ [s])=fL (ng n out) s:=by simp[ng]
theorem xA(W:List Sl):val (C9 W)=C9 W:=by cases W<;>rfl
theorem Iu(W:List Sl)(c:Sl):val (nx W c)=nx W c:=by
 induction W with
 | nil=>rfl
 | cons a t ih=>
  unfold nx;split
  ·exact xA t
  ·exact ih
end RQ
open RQ
namespace L3
open PySem PySem.Spec PyProof.Rows L2 PySem.SeqAt PySem.W
end L3
namespace L3
open PySem PySem.Spec PyProof.Rows L2 PySem.SeqAt PySem.W
def uB(h:MG)(d:Mg)(vs:List Mh)(ep:Nat):Prop:=∃ o es,h.get? d=some o/\o.ExactDict/\o.data=.dict es ep/\es.toList.map (·.key)=vs
section
variable{prog:Mw}{w:ME}{A:MA}{E:Mh->Mi->Prop}{s:Mi}{d r it:Mg}{vs:List Mh}{ep i:Nat}
theorem uB.ty(x:uB s.heap d vs ep):s.TypeIs (.ref d) "dict":=let ⟨o,_,e,z,_⟩:=x;⟨o,e,z.1⟩
theorem uB.there{h:MG}(x:uB h d vs ep):d < h.objs.size:=let ⟨_,_,e,_⟩:=x;Mx e
theorem uB.stay{h h':MG}(x:uB h d vs ep)(k:∀ o,h.get? d=some o->h'.get? d=some o):uB h' d vs ep:=let ⟨o,es,e,z⟩:=x;⟨o,es,k o e,z⟩
theorem DM{v:Mh}{Q:Option Mh->Mi->Prop}(hi:s.heap.IsKeyIter it d i vs.length ep)(x:uB s.heap d vs ep)(hv:vs[i]?=some v)
  (q:∀ h',h'.IsKeyIter it d (i+1) vs.length ep->NC it s.heap h'->Q (some v) { s with heap:=h' }):Mo (Mt prog w) A (NM (.ref it)) Q E s:=by
 obtain⟨o,e1,c1,d1⟩:=id hi;obtain⟨od,es,e2,c2,d2,rfl⟩:=x;unfold NM;refine Mf (N5 (Nj (name:=Mj "__next__") hi.typeIs NQ (Ni NQ hi.typeIs PX ?_ (PN _))));refine Mf (Ml ?_);refine Mf ?_;refine Mf ?_
 first|refine Mf (NI hi.typeIs (Ml ?_))|refine Mf (N4 hi.typeIs (Ml ?_))
 refine Mf (O_ e1 d1 ?_);have own:Nt "dict_keyiterator"=false:=by decide
 simp only[own,Bool.false_eq_true,if_false];show Mo _ _ (if (Value.ref d == Value.none)=true then _ else _) _ _ s;rw[if_neg (show ¬ ((Value.ref d == Value.none)=true)from Bool.false_ne_true)]
 refine Mf (Ml ?_);refine Mf (NT e2 d2 ?_);have z:es.size=(es.toList.map (·.key)).length:=by simp
 rw[if_neg (by rw[z];simp)];refine Mf (Ml ?_);refine Mf (N9 e2 d2 ?_)
 rw[if_neg (by simp)];refine Ml ?_
 have lt:i < es.size:=by
  rw[z];rcases N6 i (es.toList.map (·.key)).length with h|h
  ·exact h
  ·rw[NY h]at hv;cases hv
 have val:es[i].key=v:=by
  rw[MH]at hv
  simpa[lt]using hv
 simp only[show ¬ ((i:Int) < 0)from by walk_at "o",if_false,Int.toNat_natCast,Array.getElem?_eq_getElem lt];refine Mf ?_
 first|refine Mf (NI hi.typeIs (Ml ?_))|refine Mf (N4 hi.typeIs (Ml ?_))
 refine Mf (Qw hi.typeIs ?_);show Mo _ _ (Qy (.ref it) 1 (N0 ((i:Int)+1)) >>= _) _ _ s;refine Mf (O9 e1 d1 (by simp) ?_)
 have hi':(s.heap.update it (OQ (·.setIfInBounds 1 (N0 ((i:Int)+1))))).IsKeyIter it d (i+1) (es.toList.map (·.key)).length ep:=
  ⟨_,O7 _ e1 (Qx (OH d1 _)),(QZ ..).trans c1,by rw[OH d1];simp[N0]⟩
 refine Mf (Nc ?_);refine Mf (Qw (s:={ s with heap:=s.heap.update it (OQ (·.setIfInBounds 1 (N0 ((i:Int)+1)))) }) hi'.typeIs ?_)
 show Mo _ _ (pure es[i].key) _ _ _
 exact Ml (Ml ⟨_,rfl,Ml (val ▸ q _ hi' (Oy ..))⟩)
theorem FA{Q:Option Mh->Mi->Prop}(hh:A.handled=none)(hi:s.heap.IsKeyIter it d i vs.length ep)(x:uB s.heap d vs ep)(hv:vs[i]?=none)
  (q:∀ h',Heap.ExtBut it s.heap h'->Q none { s with heap:=h' }):Mo (Mt prog w) A (NM (.ref it)) Q E s:=by
 obtain⟨o,e1,c1,d1⟩:=id hi;obtain⟨od,es,e2,c2,d2,rfl⟩:=x;unfold NM;refine Mf (N5 (Nj (name:=Mj "__next__") hi.typeIs NQ (Ni NQ hi.typeIs PX ?_ (PN _))));refine Mf (Ml ?_);refine Mf ?_;refine Mf ?_
 first|refine Mf (NI hi.typeIs (Ml ?_))|refine Mf (N4 hi.typeIs (Ml ?_))
 refine Mf (O_ e1 d1 ?_);have own:Nt "dict_keyiterator"=false:=by decide
 simp only[own,Bool.false_eq_true,if_false];show Mo _ _ (if (Value.ref d == Value.none)=true then _ else _) _ _ s;rw[if_neg (show ¬ ((Value.ref d == Value.none)=true)from Bool.false_ne_true)]
 refine Mf (Ml ?_);refine Mf (NT e2 d2 ?_);have z:es.size=(es.toList.map (·.key)).length:=by simp
 rw[if_neg (by rw[z];simp)];refine Mf (Ml ?_);refine Mf (N9 e2 d2 ?_)
 rw[if_neg (by simp)];refine Ml ?_
 have ge:es.size<=i:=by rw[z];simpa using hv
 simp only[show ¬ ((i:Int) < 0)from by walk_at "o",if_false,Int.toNat_natCast,Array.getElem?_eq_none ge];refine Mf ?_
 first|refine Mf (NI hi.typeIs (Ml ?_))|refine Mf (N4 hi.typeIs (Ml ?_))
 show Mo _ _ (Qy (.ref it) 0 .none >>= _) _ _ s;refine Mf (O9 e1 d1 (by simp) ?_)
 show Mo _ _ (newExc (.type "StopIteration") [] >>= _) _ _ _;refine Mf ?_
 simp only[newExc,newTuple];refine Mf (MX ?_ (by size_fits))
 refine Mf (m:=Pc _ _) (wpAny_of_eq (a:=Value.none) (by first|rfl|(simp only[Pc];rfl)) ?_);refine MX ?_ (by size_fits)
 simp only[raiseNew];refine Mf (wpAny_handled ?_);rw[show A.in1.handled=none from hh]
 refine Mf (Ml (wpAny_throw ?_));refine Mf (PK (T:="StopIteration") (b:=true) ⟨_,Mq _ rfl,rfl⟩ P5 ?_);exact Ml (q _ (((Oy ..).extBut.push _).push _))
end
open HT
section
variable{X:Cx}{prog:Mw}{w:ME}{A:MA}{E:Mh->Mi->Prop}{s:Mi}
def LX:KI:=fun x lo hi G Q=>match x with
 | .tup ds=>Q (.tup (cutD ds lo hi)) G
 | _=>False
end
end L3
namespace L2
open PySem PySem.Spec PyProof.Rows
end L2
namespace L3
open PySem PySem.Spec PyProof.Rows L2
theorem RDs.bls_inv{K:PySem.W.Frag}{H:Hp}:∀ (ns:List Bool) {xs:List V},RDs K H (ns.map D.bl) xs->xs=ns.map V.bl
 | [],xs,h=>h.inv_nil
 | n::r,xs,h=>by
  obtain⟨x,t,e,h1,h2⟩:=RDs.inv_cons (d:=.bl n) (ds:=r.map D.bl) h;simp only[RD]at h1;subst e h1;rw[RDs.bls_inv r h2];rfl
theorem z9:∀ {ns:List Bool} {us:List Mh},Vals (ns.map V.bl) us->us=ns.map Value.bool
 | [],us,w=>by cases w;rfl
 | n::r,us,w=>by
  rw[MF]at w;cases w with
  | cons h w=>
   cases h;rw[z9 w];rfl
def z_:B0:=fun ds G Q=>match ds with
 | [d]=>∃ bs:List Bool,rU G d=some (bs.map D.bl)/\Q (.bl (bs.all id)) G
 | _=>False
theorem wD:∀ (bs:List Bool),(List.range bs.length).all (fun i=>bs.getD i false)=bs.all id
 | []=>rfl
 | b::r=>by
  rw[MD,List.range_succ_eq_map,List.all_cons,List.all_cons,List.all_map];have:=wD r;rw[<- this];rfl
theorem E2{X:Cx}(hc:X.calm=true):d8 X (.builtin "all") (lM X.K z_):=by
 rintro pins s σ H vs us Q I rv ⟨ds,G,Q3,rds,rg,h,kk⟩
 unfold z_ at h;split at h
 ·rename_i d;obtain⟨v,rfl,rd⟩:=fy rds;obtain⟨bs,he,h⟩:=h;obtain⟨a,xs,rfl,sq,r⟩:=kh (G:=G) (H:=H) he (.of rd) rg;obtain⟨u,rfl,ru⟩:=sd rv;cases ru;rw[RDs.bls_inv bs r]at sq;obtain⟨its,w,pl,hz⟩:=I.list sq;have ei:its=bs.map Value.bool:=z9 w;have ll:a < s.heap.objs.size:=let ⟨o,e,_⟩:=pl.isList;Mx e;refine call_all_walk (OK pl.isList ?_);refine⟨s.heap.objs.size,_,_,_,_,_,fun i=>bs.getD i false,rfl,Walks.list (A:=X.A.in1) (I.ok.hd hc) _ a (MO ll) its.toArray,⟨⟨_,Mq _ rfl,rfl,rfl⟩,pl.isList.push _⟩,fun i v s Q E hP hQ=>?_,fun h' tk hk=>?_⟩
  ·have e:v=.bool (bs.getD i false):=by
    have hP':its[i]?=some v:=by simpa using hP
    rw[ei,MH]at hP';cases hb:bs[i]? with
    | none=>rw[hb]at hP';cases hP'
    | some b=>
     rw[hb]at hP';cases hP';rw[MI,hb];rfl
   rw[e];exact NB hQ
  ·have el:its.toArray.size=bs.length:=by rw[Mv,ei,Mm]
   rw[el,wD];refine⟨.bl _,H,I.kept fun b o e=>hk b o (fun z=>?_) (Mn _ e),rfl,kk _ G _ H h Kp.refl rg (.of hV)⟩;rw[Os.mp z]at e;exact absurd (Mx e) (Nat.lt_irrefl _)
 ·exact h.elim
end L3
namespace L2
open PySem PySem.Spec PyProof.Rows
abbrev ib(h:MG)(z TI TO:Mg)(f0 f1:Mh):Prop:=
 h.get? z=some { cls:=.type "zip",dict:=none,data:=.fields #[f0,f1,.bool false,.ref TI,.ref TO],slots:=#[] }
def Bl(f0:Mh):Prop:=f0=.none\/∃ T:Mg,f0=N0 T
structure ZApart(z TI TO i1 i2:Mg)(fp1 fp2:List Mg):Prop where
 a1:TI≠z
 a2:TO≠z
 a3:i1≠z
 a4:i2≠z
 a5:TI≠TO
 a6:TI≠i1
 a7:TI≠i2
 a8:TO≠i1
 a9:TO≠i2
 a10:i1≠i2
 f1:∀ b∈fp1,b≠z/\b≠TO/\b≠i2
 f2:∀ b∈fp2,b≠z/\b≠TO/\b≠i1
section
variable{prog:Mw}{w:ME}{A:MA}{E:Mh->Mi->Prop}{s:Mi}
theorem Dh{α:Type}{M:Model}{a:Mg}{k:Option Obj->Sem α}{Q:α->Mi->Prop}(h:Mo M A (k (s.heap.get? a)) Q E s):Mo M A (QA a >>= k) Q E s:=fun Γ p hΓ=>by
 have e:(QA a >>= k)=Sem.loadIfAlive a k:=rfl;rw[e,Sem.wp_loadIfAlive];exact h Γ p hΓ
theorem yx{z TI TO:Mg}{f0 f1:Mh}{Q:Bool->Mi->Prop}(hz:ib s.heap z TI TO f0 f1)(hf:Bl f0)(q1:Q true s)
  (q2:∀ h' f1',ib h' z TI TO f0 f1'->NC z s.heap h'->Q false { s with heap:=h' }):Mo (Mt prog w) A (Nx (.ref z)) Q E s:=by
 unfold Nx;refine Mf (Nv hz rfl (x:=f0) rfl ?_);rcases hf with rfl|⟨T,rfl⟩
 ·exact Ml q1
 ·show Mo _ _ (QA _ >>= _) _ _ _;refine Dh ?_;cases hT:s.heap.get? (Int.toNat (T:Int)) with
  | none=>exact Ml q1
  | some o=>
   show Mo _ _ (field (.ref z) 1 >>= _) _ _ _
   refine Mf (Nv hz rfl (x:=f1) rfl ?_)
   by_cases e:(f1 != Value.bool true)=true
   ·rw[if_pos e];exact Mf (No hz (by simp) fun h1 hz1 hs1=>Ml (q2 h1 _ hz1 hs1))
   ·rw[if_neg e];exact Mf (Ml (Ml (q2 s.heap f1 hz (Q0 ..))))
theorem yy{z TI TO i1 i2:Mg}{f0 f1 a b:Mh}{i:Nat}{fp1 fp2:List Mg}{n1 n2:Nat}{P1 P2:Nat->Mh->Prop}{St1 St2:Nat->MG->Prop}{Q:Option Mh->Mi->Prop}
  (D1:Q2 prog w A.in1 i1 fp1 n1 P1 St1) (D2:Q2 prog w A.in1 i2 fp2 n2 P2 St2) (D:ZApart z TI TO i1 i2 fp1 fp2) (hz:ib s.heap z TI TO f0 f1) (hf:Bl f0) (hTI:Of s.heap TI (.ref i1) (.ref i2)) (hTO:Of s.heap TO a b)
  (h1:St1 i s.heap) (h2:St2 i s.heap) (l1:i < n1) (l2:i < n2)
  (hQ:∀ h' tk x y f0' f1' a' b',P1 i x->P2 i y->Bl f0'->ib h' z TI TO f0' f1'->Of h' TO a' b'->St1 (i+1) h'->St2 (i+1) h'->Of h' s.heap.objs.size x y->h'.objs.size=s.heap.objs.size+1->
   (∀ c o,c≠z->c≠TO->c≠i1->c≠i2->s.heap.get? c=some o->h'.get? c=some o)->Q (some (.ref s.heap.objs.size)) { s with heap:=h',toks:=tk }):
  Mo (Mt prog w) A (NM (.ref z)) Q E s:=by
 have hT:s.TypeIs (.ref z) "zip":=⟨_,hz,rfl⟩;unfold NM;refine Mf (N5 (Nj (name:=Mj "__next__") hT O3 (Ni O3 hT F.entry_zip_next ?_ (Q1 _))));show Mo _ _ (field (.ref z) 2 >>= _) _ _ _;refine Mf (Nv hz rfl (x:=.bool false) rfl ?_)
 show Mo _ _ (field (.ref z) 3 >>= _) _ _ _;refine Mf (Nv hz rfl (x:=.ref TI) rfl ?_)
 refine Mf (NV hTI rfl ?_);show Mo _ _ (Nx (.ref z) >>= _) _ _ _;refine Mf (yx hz hf ?_ fun h0 f1' hz0 hs0=>?_)
 ·simp only[if_true];refine Mf (Po ?_);refine Mf (Nv hz rfl (x:=.ref TO) rfl ?_);refine Mf (No hz (by simp) fun g1 z1 s1=>?_)
  replace z1:ib g1 z TI TO .ellipsis f1:=z1
  refine Mf ?_;simp only[List.zipIdx_cons,List.zipIdx_nil,Oe,OR];refine Mf (Mf (Pm ?_));show Mo _ _ (M0 (.ref i1) >>= _) _ _ _;refine Mf (D1.item i { s with heap:=g1 } _ _ l1 (D1.frame i _ _ h1 fun b hb o e=>s1.extBut _ _ (D.f1 b hb).1 e) fun x g2 t2 p1 st1 s2=>Ml ?_)
  have o2:Of g2 TO a b:=s2.extBut _ _ D.a8 (s1.extBut _ _ D.a2 hTO);refine Mf (NV o2 rfl ?_);refine Mf (O8 o2 fun g3 o3 s3=>?_)
  replace o3:Of g3 TO x b:=o3
  refine Mf (PP (Ml ?_));refine Mf (Mf (Pm ?_));show Mo _ _ (M0 (.ref i2) >>= _) _ _ _;refine Mf (D2.item i { s with heap:=g3,toks:=t2 } _ _ l2 (D2.frame i _ _ h2 fun b hb o e=>s3.extBut _ _ (D.f2 b hb).2.1 (s2.extBut _ _ (D.f2 b hb).2.2 (s1.extBut _ _ (D.f2 b hb).1 e))) fun y g4 t4 p2 st2 s4=>Ml ?_)
  have o4:Of g4 TO x b:=s4.extBut _ _ D.a9 o3;refine Mf (NV o4 rfl ?_);refine Mf (O8 o4 fun g5 o5 s5=>?_)
  replace o5:Of g5 TO x y:=o5
  refine Mf (PP (Ml (Ml ?_)));refine Mf (NV o5 rfl ?_);refine Mf (P3 ?_);have sz:g5.objs.size=s.heap.objs.size:=by rw[s5.1,s4.1,s3.1,s2.1,s1.1]
  have z5:ib g5 z TI TO .ellipsis f1:=s5.extBut _ _ D.a2.symm (s4.extBut _ _ D.a4.symm (s3.extBut _ _ D.a2.symm (s2.extBut _ _ D.a3.symm z1)));have k5:∀ c o,c≠z->c≠TO->c≠i1->c≠i2->s.heap.get? c=some o->g5.get? c=some o:=fun c o c1 c2 c3 c4 e=>s5.extBut _ _ c2 (s4.extBut _ _ c4 (s3.extBut _ _ c2 (s2.extBut _ _ c3 (s1.extBut _ _ c1 e))));have lz:z < g5.objs.size:=Mx z5;show Mo _ _ (Pk (.ref z) (.ref g5.objs.size) >>= _) _ _ _;refine Mf ?_;unfold Pk
  have z6:ib (g5.push { cls:=.type "tuple",data:=.seq #[x,y] }) z TI TO .ellipsis f1:=Mn _ z5;refine Mf (No z6 (by simp) fun g7 z7 s7=>?_)
  replace z7:ib g7 z TI TO (N0 g5.objs.size) f1:=z7
  refine No z7 (by simp) fun g8 z8 s8=>?_
  replace z8:ib g8 z TI TO (N0 g5.objs.size) (.bool false):=z8
  have up:∀ c o,c≠z->g5.get? c=some o->g8.get? c=some o:=fun c o c1 e=>s8.extBut _ _ c1 (s7.extBut _ _ c1 (Mn _ e));have t8:Of g8 g5.objs.size x y:=s8.extBut _ _ (Pa lz) (s7.extBut _ _ (Pa lz) (Mq _ rfl));have sz8:g8.objs.size=g5.objs.size+1:=by rw[s8.1,s7.1,NA]
  have r1:St1 (i+1) g8:=D1.frame _ _ _ st1 fun b hb o e=>up b o (D.f1 b hb).1 (s5.extBut _ _ (D.f1 b hb).2.1 (s4.extBut _ _ (D.f1 b hb).2.2 (s3.extBut _ _ (D.f1 b hb).2.1 e)));have r2:St2 (i+1) g8:=D2.frame _ _ _ st2 fun b hb o e=>up b o (D.f2 b hb).1 (s5.extBut _ _ (D.f2 b hb).2.1 e);rw[sz]at z8 t8 sz8;refine Ml ⟨.ref g5.objs.size,rfl,Ml ?_⟩;rw[sz];exact hQ g8 t4 x y _ _ x y p1 p2 (.inr ⟨_,rfl⟩) z8 (up _ _ D.a2 o5) r1 r2 t8 sz8 fun c o c1 c2 c3 c4 e=>up c o c1 (k5 c o c1 c2 c3 c4 e)
 ·simp only[Bool.false_eq_true,if_false];rw[<- Array.forIn_toList];simp only[Oe,OR];refine Mf (Mf (Mf (Nc ?_)));show Mo _ _ (M0 (.ref i1) >>= _) _ _ _
  refine Mf (D1.item i { s with heap:=h0 } _ _ l1 (D1.frame i _ _ h1 fun b hb o e=>hs0.extBut _ _ (D.f1 b hb).1 e) fun x g2 t2 p1 st1 s2=>Ml (Ml ?_))
  refine Mf (Mf (Nc ?_));show Mo _ _ (M0 (.ref i2) >>= _) _ _ _
  refine Mf (D2.item i { s with heap:=g2,toks:=t2 } _ _ l2 (D2.frame i _ _ h2 fun b hb o e=>s2.extBut _ _ (D.f2 b hb).2.2 (hs0.extBut _ _ (D.f2 b hb).1 e)) fun y g4 t4 p2 st2 s4=>Ml (Ml (Ml ?_)))
  refine Mf (P3 ?_ (by show 2<=Mp;decide))
  have sz:g4.objs.size=s.heap.objs.size:=by rw[s4.1,s2.1,hs0.1]
  have k4:∀ c o,c≠z->c≠TO->c≠i1->c≠i2->s.heap.get? c=some o->g4.get? c=some o:=fun c o c1 _ c3 c4 e=>s4.extBut _ _ c4 (s2.extBut _ _ c3 (hs0.extBut _ _ c1 e));have z4:ib g4 z TI TO f0 f1':=s4.extBut _ _ D.a4.symm (s2.extBut _ _ D.a3.symm hz0);have o4:Of g4 TO a b:=s4.extBut _ _ D.a9 (s2.extBut _ _ D.a8 (hs0.extBut _ _ D.a2 hTO));refine Ml ⟨.ref g4.objs.size,rfl,Ml ?_⟩;have up:∀ c o,g4.get? c=some o->(g4.push { cls:=.type "tuple",data:=.seq #[x,y] }).get? c=some o:=fun c o e=>Mn _ e;have t8:Of (g4.push { cls:=.type "tuple",data:=.seq #[x,y] }) g4.objs.size x y:=Mq _ rfl;have sz8:(g4.push { cls:=.type "tuple",data:=.seq #[x,y] }).objs.size=g4.objs.size+1:=NA ..;rw[sz]at t8 sz8 ⊢;exact hQ _ t4 x y _ _ a b p1 p2 hf (up _ _ z4) (up _ _ o4) (D1.frame _ _ _ st1 fun b hb o e=>up _ _ (s4.extBut _ _ (D.f1 b hb).2.2 e)) (D2.frame _ _ _ st2 fun b _ o e=>up b o e) t8 sz8 fun c o c1 c2 c3 c4 e=>up _ _ (k4 c o c1 c2 c3 c4 e)
theorem Ae{z TI TO i1 i2:Mg}{f0 f1 a b:Mh}{i:Nat}{fp1 fp2:List Mg}{n1 n2:Nat}{P1 P2:Nat->Mh->Prop}{St1 St2:Nat->MG->Prop}{Q:Option Mh->Mi->Prop}
  (D1:Q2 prog w A.in1 i1 fp1 n1 P1 St1) (D2:Q2 prog w A.in1 i2 fp2 n2 P2 St2) (D:ZApart z TI TO i1 i2 fp1 fp2) (hz:ib s.heap z TI TO f0 f1) (hf:Bl f0) (hTI:Of s.heap TI (.ref i1) (.ref i2)) (hTO:Of s.heap TO a b)
  (h1:St1 i s.heap) (h2:St2 i s.heap) (le:i=n1\/(i < n1/\i=n2))
  (hQ:∀ h' tk,(∀ c o,c≠z->c≠TO->c≠i1->c≠i2->s.heap.get? c=some o->h'.get? c=some o)->Q none { s with heap:=h',toks:=tk }):
  Mo (Mt prog w) A (NM (.ref z)) Q E s:=by
 have hT:s.TypeIs (.ref z) "zip":=⟨_,hz,rfl⟩;unfold NM;have fin:∀ {h':MG} {tk:Nat} {e:Mg},(∀ c o,c≠z->c≠TO->c≠i1->c≠i2->s.heap.get? c=some o->h'.get? c=some o)->(∃ o,h'.get? e=some o/\o.cls=.type "StopIteration")->
   Mo (Mt prog w) A (do if <- isInstance (.ref e) (.type "StopIteration")then pure none else throw (.ref e)) Q E { s with heap:=h',toks:=tk }:=fun hk ⟨o,ho,hc⟩=>
  Mf (PK (T:="StopIteration") (b:=true) ⟨o,ho,hc⟩ P5 (Ml (hQ _ _ hk)))
 refine Mf (N5 (Nj (name:=Mj "__next__") hT O3 (Ni O3 hT F.entry_zip_next ?_ (Q1 _))));show Mo _ _ (field (.ref z) 2 >>= _) _ _ _;refine Mf (Nv hz rfl (x:=.bool false) rfl ?_)
 show Mo _ _ (field (.ref z) 3 >>= _) _ _ _;refine Mf (Nv hz rfl (x:=.ref TI) rfl ?_)
 refine Mf (NV hTI rfl ?_);show Mo _ _ (Nx (.ref z) >>= _) _ _ _;refine Mf (yx hz hf ?_ fun h0 f1' hz0 hs0=>?_)
 ·simp only[if_true];refine Mf (Po ?_);refine Mf (Nv hz rfl (x:=.ref TO) rfl ?_);refine Mf (No hz (by simp) fun g1 z1 s1=>?_)
  replace z1:ib g1 z TI TO .ellipsis f1:=z1
  refine Mf ?_;simp only[List.zipIdx_cons,List.zipIdx_nil,Oe,OR];refine Mf (Mf (Pm ?_));show Mo _ _ (M0 (.ref i1) >>= _) _ _ _;have st0:St1 i g1:=D1.frame i _ _ h1 fun b hb o e=>s1.extBut _ _ (D.f1 b hb).1 e;rcases le with rfl|⟨l1,rfl⟩
  ·refine Mf (D1.done { s with heap:=g1 } _ _ st0 fun g2 e s2 he=>?_)
   obtain⟨oe,hoe,hce⟩:=he;have z2:ib g2 z TI TO .ellipsis f1:=s2 _ _ D.a3.symm z1;have hez:e≠z:=fun x=>by subst x;rw[z2]at hoe;cases hoe;simp at hce
   exact No z2 (by simp) fun g3 _ s3=>fin (tk:=s.toks) (fun c o c1 _ c3 _ x=>s3.extBut _ _ c1 (s2 _ _ c3 (s1.extBut _ _ c1 x))) ⟨oe,s3.extBut _ _ hez hoe,hce⟩
  ·refine Mf (D1.item i { s with heap:=g1 } _ _ l1 st0 fun x g2 t2 p1 st1 s2=>Ml ?_)
   have o2:Of g2 TO a b:=s2.extBut _ _ D.a8 (s1.extBut _ _ D.a2 hTO);refine Mf (NV o2 rfl ?_);refine Mf (O8 o2 fun g3 o3 s3=>?_);refine Mf (PP (Ml ?_));refine Mf (Mf (Pm ?_));show Mo _ _ (M0 (.ref i2) >>= _) _ _ _;refine Mf (D2.done { s with heap:=g3,toks:=t2 } _ _ (D2.frame i _ _ h2 fun b hb o e=>s3.extBut _ _ (D.f2 b hb).2.1 (s2.extBut _ _ (D.f2 b hb).2.2 (s1.extBut _ _ (D.f2 b hb).1 e))) fun g4 e s4 he=>?_)
   obtain⟨oe,hoe,hce⟩:=he;have z4:ib g4 z TI TO .ellipsis f1:=s4 _ _ D.a4.symm (s3.extBut _ _ D.a2.symm (s2.extBut _ _ D.a3.symm z1));have hez:e≠z:=fun x=>by subst x;rw[z4]at hoe;cases hoe;simp at hce
   exact No z4 (by simp) fun g5 _ s5=>fin (tk:=t2) (fun c o c1 c2 c3 c4 x=>s5.extBut _ _ c1 (s4 _ _ c4 (s3.extBut _ _ c2 (s2.extBut _ _ c3 (s1.extBut _ _ c1 x))))) ⟨oe,s5.extBut _ _ hez hoe,hce⟩
 ·simp only[Bool.false_eq_true,if_false];rw[<- Array.forIn_toList];simp only[Oe,OR];refine Mf (Mf (Mf (Nc ?_)));show Mo _ _ (M0 (.ref i1) >>= _) _ _ _
  have st0:St1 i h0:=D1.frame i _ _ h1 fun b hb o e=>hs0.extBut _ _ (D.f1 b hb).1 e;rcases le with rfl|⟨l1,rfl⟩
  ·exact Mf (D1.done { s with heap:=h0 } _ _ st0 fun g2 e s2 he=>fin (tk:=s.toks) (fun c o c1 _ c3 _ x=>s2 _ _ c3 (hs0.extBut _ _ c1 x)) he)
  ·refine Mf (D1.item i { s with heap:=h0 } _ _ l1 st0 fun x g2 t2 p1 st1 s2=>Ml (Ml ?_))
   refine Mf (Mf (Nc ?_));show Mo _ _ (M0 (.ref i2) >>= _) _ _ _
   exact Mf (D2.done { s with heap:=g2,toks:=t2 } _ _ (D2.frame i _ _ h2 fun b hb o e=>s2.extBut _ _ (D.f2 b hb).2.2 (hs0.extBut _ _ (D.f2 b hb).1 e)) fun g4 e s4 he=>fin (tk:=t2) (fun c o c1 _ c3 c4 x=>s4 _ _ c4 (s2.extBut _ _ c3 (hs0.extBut _ _ c1 x))) he)
theorem Hi{tg:MJ}{z TI TO:Mg}{f0 f1 u:Mh}{Q:Unit->Mi->Prop}(hz:ib s.heap z TI TO f0 f1)(hf:Bl f0)
  (hQ:∀ h' f0',Bl f0'->ib h' z TI TO f0' f1->NC z s.heap h'->Q () { s with heap:=h' }):Mo (Mt prog w) A (Oa tg (.ref z) u) Q E s:=by
 have same:Q () s:=hQ s.heap f0 hf hz (Q0 ..);unfold Oa;cases tg<;>first
  | exact Ml same
  | (cases u<;>first
    | exact Ml same
    | (refine Mf (wpAny_load hz ?_)
       dsimp only;split
       ·refine Mf (Po ?_);exact No hz (by simp) fun h1 z1 s1=>hQ h1 _ (.inl rfl) z1 s1
       ·exact Ml same))
end
inductive Zk where
 | lst (l:Mg) (xs:List V)
 | txt (z:Str) (t:Tok)
def Zk.vs:Zk->List V
 | .lst _ xs=>xs
 | .txt z _=>dL z
def Zk.val:Zk->Mh
 | .lst l _=>.ref l
 | .txt z t=>.str z t
def Zk.here(K:PySem.W.Frag)(H:Hp):Zk->Prop
 | .lst l xs=>jw K H l xs
 | .txt _ _=>True
def Zk.ready(h:MG):Zk->Prop
 | .lst l xs=>∃ us,Vals xs us/\h.IsList l us.toArray
 | .txt _ _=>True
def Zk.it(it:Mg)(i:Nat)(h:MG):Zk->Prop
 | .lst l _=>h.IsListIter it l i
 | .txt z t=>h.IsStrIter it (OL z) z t i
theorem mW(z:Str):OL z="str_ascii_iterator"\/OL z="str_iterator":=by unfold OL;split;exact .inl rfl;exact .inr rfl
theorem Zk.obj{k:Zk}{it:Mg}{i:Nat}{h:MG}(x:k.it it i h):∃ o,h.get? it=some o/\(∀ v,o.data≠.cell v)/\o.cls≠.type "list"/\o.cls≠.type "tuple"/\o.cls≠.type "zip":=by
 cases k with
 | lst l xs=>
  obtain⟨o,e,c,d⟩:=x;exact⟨o,e,(fun v z=>by rw[d]at z;cases z),by rw[c];decide,by rw[c];decide,by rw[c];decide⟩
 | txt z t=>
  obtain⟨o,e,c,d⟩:=x;refine⟨o,e,(fun v z=>by rw[d]at z;cases z),?_⟩
  rw[c];rcases mW z with q|q<;>rw[q]<;>decide
theorem Zk.keep{k:Zk}{it:Mg}{i:Nat}{h h':MG}(x:k.it it i h)(q:∀ o,h.get? it=some o->h'.get? it=some o):k.it it i h':=by
 cases k with
 | lst l xs=>exact x.at fun o e=>q o e
 | txt z t=>
  obtain⟨o,e,c⟩:=x;exact⟨o,q o e,c⟩
theorem Zk.of{X:Cx}{pins:List (Mg×Obj)}{σ:St}{H:Hp}{s:Mi}{k:Zk}(I:Inv X pins σ H s)(x:k.here X.K H):k.ready s.heap:=by
 cases k with
 | lst l xs=>
  obtain⟨its,rv,p,_⟩:=I.list x;exact⟨its,rv,p.isList⟩
 | txt z t=>exact True.intro
theorem Zk.draws{P:Mw}{w:ME}{k:Zk}{it:Mg}{h:MG}{j:Nat}(x:k.ready h)(y:k.it it j h):∃ (fp:List Mg) (Pv:Nat->Mh->Prop) (St:Nat->MG->Prop),(∀ A:MA,A.handled=none->Q2 P w A it fp k.vs.length Pv St)/\(∀ i v,Pv i v->∃ u,k.vs[i]?=some u/\aI u v)/\
  (∀ i,k.it it i h->St i h)/\(∀ i h',St i h'->k.it it i h')/\∀ b∈fp,b=it\/∃ o,h.get? b=some o/\o.cls=.type "list":=by
 cases k with
 | lst l xs=>
  obtain⟨us,rv,p⟩:=x;obtain⟨o,e,c,d⟩:=id y;obtain⟨o',e',c',d'⟩:=id p;have hne:l≠it:=fun z=>by subst z;rw[e]at e';cases e';rw[c]at c';exact absurd c' (by decide)
  have hl:us.toArray.size=xs.length:=by rw[Mv];exact rv.length.symm
  refine⟨[it,l],fun i v=>us.toArray[i]?=some v,fun i h=>h.IsListIter it l i/\h.IsList l us.toArray,fun A hh=>?_,fun i v q=>?_,fun i q=>⟨q,p⟩,fun i h' q=>q.1,fun b hb=>?_⟩
  ·have:=Draws.list (prog:=P) (w:=w) hh it l hne us.toArray;rw[hl]at this;exact this
  ·have q':us[i]?=some v:=by simpa using q
   obtain⟨u,e1,r⟩:=L3.Vals.getV rv q';exact⟨u,e1,r⟩
  ·have hb':b=it\/b=l:=by simpa using hb
   rcases hb' with rfl|rfl
   ·exact .inl rfl
   ·exact .inr ⟨o',e',c'⟩
 | txt z t=>
  have hz:(dL z).length=z.cps.size:=by simp[dL]
  refine⟨[it],fun i v=>∃ c u,z.cps[i]?=some c/\v=.str ⟨#[c]⟩ u,fun i h=>h.IsStrIter it (OL z) z t i,fun A hh=>?_,fun i v q=>?_,fun i q=>q,fun i h' q=>q,fun b hb=>.inl (by simpa using hb)⟩
  ·show Q2 P w A it [it] (dL z).length _ _;rw[hz];rcases mW z with q|q<;>rw[q]
   ·exact Draws.strAscii hh it z t
   ·exact Draws.strWide hh it z t
  ·obtain⟨c,u,e1,rfl⟩:=q;have e2:z.cps.toList[i]?=some c:=by simpa using e1
   exact⟨.str ⟨#[c]⟩,by simp[Zk.vs,dL,e2],⟨u,rfl⟩⟩
def BZ(k1 k2:Zk)(z TI TO i1 i2:Mg)(i:Nat)(h:MG):Prop:=
 (∃ f0 f1,Bl f0/\ib h z TI TO f0 f1)/\Of h TI (.ref i1) (.ref i2)/\(∃ a b,Of h TO a b)/\k1.it i1 i h/\k2.it i2 i h
structure ZAp(z TI TO i1 i2:Mg):Prop where
 t:TI≠TO
 i:i1≠i2
theorem BZ.apart{k1 k2:Zk}{z TI TO i1 i2:Mg}{i:Nat}{h:MG}{fp1 fp2:List Mg}(D:ZAp z TI TO i1 i2)(x:BZ k1 k2 z TI TO i1 i2 i h)(q1:∀ b∈fp1,b=i1\/∃ o,h.get? b=some o/\o.cls=.type "list")(q2:∀ b∈fp2,b=i2\/∃ o,h.get? b=some o/\o.cls=.type "list"):ZApart z TI TO i1 i2 fp1 fp2:=by
 obtain⟨⟨f0,f1,_,hz⟩,hTI,⟨a,b,hTO⟩,h1,h2⟩:=x;obtain⟨o1,e1,_,c1,c2,c3⟩:=Zk.obj h1;obtain⟨o2,e2,_,d1,d2,d3⟩:=Zk.obj h2;have ne:∀ {a b:Mg} {o o':Obj},h.get? a=some o->h.get? b=some o'->o.cls≠o'.cls->a≠b:=fun ha hb hc z=>by subst z;rw[ha]at hb;cases hb;exact hc rfl
 have y1:i1≠z:=ne e1 hz c3;have y2:i2≠z:=ne e2 hz d3;have y3:TO≠i1:=(ne e1 hTO c2).symm;have y4:TO≠i2:=(ne e2 hTO d2).symm;have tz:Value.type "tuple"≠Value.type "zip":=by decide
 have lz:Value.type "list"≠Value.type "zip":=by decide
 have lt:Value.type "list"≠Value.type "tuple":=by decide
 refine⟨ne hTI hz tz,ne hTO hz tz,y1,y2,D.t,(ne e1 hTI c2).symm,(ne e2 hTI d2).symm,y3,y4,D.i,fun b hb=>?_,fun b hb=>?_⟩
 ·rcases q1 b hb with rfl|⟨o,e,c⟩
  ·exact⟨y1,y3.symm,D.i⟩
  ·exact⟨ne e hz (by rw[c];exact lz),ne e hTO (by rw[c];exact lt),ne e e2 (by rw[c];exact d1.symm)⟩
 ·rcases q2 b hb with rfl|⟨o,e,c⟩
  ·exact⟨y2,y4.symm,D.i.symm⟩
  ·exact⟨ne e hz (by rw[c];exact lz),ne e hTO (by rw[c];exact lt),ne e e1 (by rw[c];exact c1.symm)⟩
section
variable{prog:Mw}{w:ME}{A:MA}{E:Mh->Mi->Prop}{s:Mi}{k1 k2:Zk}{z TI TO i1 i2:Mg}{i:Nat}
theorem Bn{Q:Option Mh->Mi->Prop}(hh:A.in1.handled=none)(D:ZAp z TI TO i1 i2)(x:BZ k1 k2 z TI TO i1 i2 i s.heap)(r1:k1.ready s.heap)(r2:k2.ready s.heap)(l1:i < k1.vs.length)(l2:i < k2.vs.length)
  (hQ:∀ h' tk x y u v,k1.vs[i]?=some u->k2.vs[i]?=some v->aI u x->aI v y->BZ k1 k2 z TI TO i1 i2 (i+1) h'->Of h' s.heap.objs.size x y->h'.objs.size=s.heap.objs.size+1->
   (∀ c o,c∉[z,TI,TO,i1,i2]->s.heap.get? c=some o->h'.get? c=some o)->Q (some (.ref s.heap.objs.size)) { s with heap:=h',toks:=tk }):Mo (Mt prog w) A (NM (.ref z)) Q E s:=by
 obtain⟨fp1,P1,St1,D1,v1,t1,b1,q1⟩:=Zk.draws (P:=prog) (w:=w) r1 x.2.2.2.1;obtain⟨fp2,P2,St2,D2,v2,t2,b2,q2⟩:=Zk.draws (P:=prog) (w:=w) r2 x.2.2.2.2;have ap:=x.apart D q1 q2;obtain⟨⟨f0,f1,hf,hz⟩,hTI,⟨a,b,hTO⟩,h1,h2⟩:=x;refine yy (D1 _ hh) (D2 _ hh) ap hz hf hTI hTO (t1 i h1) (t2 i h2) l1 l2 fun h' tk x y f0' f1' a' b' p1 p2 hf' z' o' s1 s2 tp sz kp=>?_;obtain⟨u,e1,ru⟩:=v1 i x p1;obtain⟨v,e2,rv⟩:=v2 i y p2;exact hQ h' tk x y u v e1 e2 ru rv ⟨⟨f0',f1',hf',z'⟩,kp _ _ ap.a1 ap.a5 ap.a6 ap.a7 hTI,⟨a',b',o'⟩,b1 _ _ s1,b2 _ _ s2⟩ tp sz fun c o hc e=>kp c o (fun q=>hc (by simp[q])) (fun q=>hc (by simp[q])) (fun q=>hc (by simp[q])) (fun q=>hc (by simp[q])) e
theorem De{Q:Option Mh->Mi->Prop}(hh:A.in1.handled=none)(D:ZAp z TI TO i1 i2)(x:BZ k1 k2 z TI TO i1 i2 i s.heap)(r1:k1.ready s.heap)(r2:k2.ready s.heap)(l:i=min k1.vs.length k2.vs.length)
  (hQ:∀ h' tk,(∀ c o,c∉[z,TI,TO,i1,i2]->s.heap.get? c=some o->h'.get? c=some o)->Q none { s with heap:=h',toks:=tk }):Mo (Mt prog w) A (NM (.ref z)) Q E s:=by
 obtain⟨fp1,P1,St1,D1,v1,t1,b1,q1⟩:=Zk.draws (P:=prog) (w:=w) r1 x.2.2.2.1;obtain⟨fp2,P2,St2,D2,v2,t2,b2,q2⟩:=Zk.draws (P:=prog) (w:=w) r2 x.2.2.2.2;have ap:=x.apart D q1 q2;obtain⟨⟨f0,f1,hf,hz⟩,hTI,⟨a,b,hTO⟩,h1,h2⟩:=x;exact Ae (D1 _ hh) (D2 _ hh) ap hz hf hTI hTO (t1 i h1) (t2 i h2) (by walk_at "o") fun h' tk kp=>hQ h' tk fun c o hc e=>kp c o (fun q=>hc (by simp[q])) (fun q=>hc (by simp[q])) (fun q=>hc (by simp[q])) (fun q=>hc (by simp[q])) e
theorem BZ.keep{h h':MG}(x:BZ k1 k2 z TI TO i1 i2 i h)(q:∀ b∈[z,TI,TO,i1,i2],∀ o,h.get? b=some o->h'.get? b=some o):BZ k1 k2 z TI TO i1 i2 i h':=by
 obtain⟨⟨f0,f1,hf,hz⟩,hTI,⟨a,b,hTO⟩,h1,h2⟩:=x;exact⟨⟨f0,f1,hf,q z (by simp) _ hz⟩,q TI (by simp) _ hTI,⟨a,b,q TO (by simp) _ hTO⟩,Zk.keep h1 fun o e=>q i1 (by simp) o e,Zk.keep h2 fun o e=>q i2 (by simp) o e⟩
end
def LR(K:PySem.W.Frag)(k1 k2:Zk):It:=
 ⟨fun i H=>(i < k1.vs.length/\i < k2.vs.length)/\k1.here K H/\k2.here K H,fun i H x H'=>∃ p u v,H p=none/\x=.ref p/\H'=bE H p (.tup [u,v])/\k1.vs[i]?=some u/\k2.vs[i]?=some v,fun i H=>i=min k1.vs.length k2.vs.length/\k1.here K H/\k2.here K H⟩
theorem sf{P:Mw}{w:ME}{K:PySem.W.Frag}{tg:MJ}(k1 k2:Zk)(z TI TO i1 i2:Mg)(D:ZAp z TI TO i1 i2):Turn P w K tg (LR K k1 k2) [z,TI,TO,i1,i2] z (BZ k1 k2 z TI TO i1 i2) where
 mem:=by simp
 obj:=fun i h st b hb=>by
  obtain⟨⟨f0,f1,hf,hz⟩,hTI,⟨a,b',hTO⟩,h1,h2⟩:=st;obtain⟨o1,e1,c1,_⟩:=Zk.obj h1;obtain⟨o2,e2,c2,_⟩:=Zk.obj h2;simp only[MV,MZ,or_false]at hb;rcases hb with rfl|rfl|rfl|rfl|rfl
  ·exact⟨_,hz,fun v q=>by cases q⟩
  ·exact⟨_,hTI,fun v q=>by cases q⟩
  ·exact⟨_,hTO,fun v q=>by cases q⟩
  ·exact⟨o1,e1,c1⟩
  ·exact⟨o2,e2,c2⟩
 keep:=fun i h h' st q=>st.keep q
 item:=by
  intro X hP hw hK hc i pins s σ H E I hf st hg;subst hP hw hK;obtain⟨⟨l1,l2⟩,e1,e2⟩:=hg;refine Bn (I.ok.hd hc) D st (Zk.of I e1) (Zk.of I e2) l1 l2 fun h' tk x y u v q1 q2 ru rv st' tp sz kp=>?_;refine⟨_,rfl,?_⟩;obtain⟨⟨f0,f1,hl,hz⟩,hTI,⟨a,b,hTO⟩,h1,h2⟩:=id st';refine Hi (s:={ s with heap:=h',toks:=tk }) hz hl fun h2' f0' hl' hz' sb=>?_
  have hn:H s.heap.objs.size=none:=I.hok.fresh (le_refl _);have lt:∀ b∈[z,TI,TO,i1,i2],b≠s.heap.objs.size:=fun b hb=>by
   obtain⟨o,e,_⟩:=(show ∃ o,s.heap.get? b=some o/\True from by
    obtain⟨⟨g0,g1,_,gz⟩,gTI,⟨ga,gb,gTO⟩,k1',k2'⟩:=st;obtain⟨o1,x1,_⟩:=Zk.obj k1';obtain⟨o2,x2,_⟩:=Zk.obj k2';simp only[MV,MZ,or_false]at hb;rcases hb with rfl|rfl|rfl|rfl|rfl
    ·exact⟨_,gz,True.intro⟩
    ·exact⟨_,gTI,True.intro⟩
    ·exact⟨_,gTO,True.intro⟩
    ·exact⟨_,x1,True.intro⟩
    ·exact⟨_,x2,True.intro⟩)
   exact MO (Mx e)
  have up:∀ c o,c≠z->h'.get? c=some o->h2'.get? c=some o:=fun c o hc e=>sb.extBut _ _ hc e;have hzs:z≠s.heap.objs.size:=lt z (by simp)
  have I0:Inv X pins σ (bE H s.heap.objs.size (.tup [u,v])) { s with heap:=s.heap.push { cls:=.type "tuple",data:=.seq #[x,y] },toks:=s.toks }:=by
   refine I.laid (t':=s.toks) (fun b v q=>Mn _ q) (le_refl _) ?_;exact⟨by show 2<=Mp;decide,[x,y],.cons ru (.cons rv .nil),uz.new _ _⟩
  have I1:Inv X pins σ (bE H s.heap.objs.size (.tup [u,v])) { s with heap:=h2',toks:=tk }:=by
   have:=Inv.turnedL (s:={ s with heap:=s.heap.push { cls:=.type "tuple",data:=.seq #[x,y] },toks:=s.toks }) (h':=h2') (t':=tk) (fp:=[z,TI,TO,i1,i2]) I0 (fun b o hb q=>?_) fun b hb=>?_
   ·exact this
   ·have hbz:b≠z:=fun q=>hb (by simp[q])
    have q':(s.heap.push { cls:=.type "tuple",data:=.seq #[x,y] }).get? b=some o:=q
    by_cases hbs:b=s.heap.objs.size
    ·subst hbs;rw[Mq _ rfl]at q';cases q';exact up _ _ hbz tp
    ·rw[PD _ _ _ hbs]at q';exact up _ _ hbz (kp b o hb q')
   ·obtain⟨g0,g1,g2,g3,g4,g5⟩:=hf b hb;exact⟨by rw[aA (lt b hb)];exact g0,g1,g2,g3,g4,g5⟩
  have ap:=st'.apart (fp1:=[]) (fp2:=[]) D (fun b hb=>by simp at hb) fun b hb=>by simp at hb
  refine⟨.ref s.heap.objs.size,_,I1,rfl,⟨_,u,v,hn,rfl,rfl,q1,q2⟩,⟨⟨f0',f1,hl',hz'⟩,up _ _ ap.a1 hTI,⟨a,b,up _ _ ap.a2 hTO⟩,Zk.keep h1 fun o e=>up _ _ ap.a3 e,Zk.keep h2 fun o e=>up _ _ ap.a4 e⟩,fun b hb=>?_⟩;rw[aA (lt b hb)];exact (hf b hb).1
 done:=by
  intro X hP hw hK hc i pins s σ H E I hf st hg;subst hP hw hK;obtain⟨l,e1,e2⟩:=hg;exact De (I.ok.hd hc) D st (Zk.of I e1) (Zk.of I e2) l fun h' tk kp=>⟨rfl,I.turnedL (t':=tk) (fp:=[z,TI,TO,i1,i2]) kp hf⟩
 self:=fun _ _ _ _ _ st h=>by
  obtain⟨⟨f0,f1,_,hz⟩,_⟩:=st;have hT:=(⟨_,hz,rfl⟩:Shared.TypeIs _ (.ref z) "zip");refine Pw hT F.slot_zip_iter (Ni F.slot_zip_iter hT F.entry_zip_iter ?_ (F.args_zip_iter_1 _));show Mo _ _ (ret (.ref z)) _ _ _
  exact Ml ⟨_,rfl,"zip",_,hT,O3.lookup,h⟩
def Zk.itObj:Zk->Obj
 | .lst l _=>{ cls:=.type "list_iterator",data:=.fields #[.ref l,.int 0 0] }
 | .txt z t=>{ cls:=.type (OL z),data:=.fields #[.str z t,.int 0 0] }
theorem Zk.iter{prog:Mw}{w:ME}{A:MA}{E:Mh->Mi->Prop}{s:Mi}{k:Zk}{Q:Mh->Mi->Prop}(r:k.ready s.heap)(hQ:Q (.ref s.heap.objs.size) { s with heap:=s.heap.push k.itObj }):Mo (Mt prog w) A (OD k.val) Q E s:=by
 cases k with
 | lst l xs=>
  obtain⟨us,_,p⟩:=r;exact OK p hQ
 | txt z t=>exact wpAny_pyIter_strU hQ
theorem Zk.grow{k:Zk}{h h':MG}(r:k.ready h)(q:∀ c o,h.get? c=some o->h'.get? c=some o):k.ready h':=by
 cases k with
 | lst l xs=>
  obtain⟨us,rv,p⟩:=r;exact⟨us,rv,p.at fun o e=>q l o e⟩
 | txt z t=>exact True.intro
theorem Zk.it0{k:Zk}{h:MG}{it:Mg}(e:h.get? it=some k.itObj):k.it it 0 h:=by
 cases k with
 | lst l xs=>exact⟨_,e,rfl,rfl⟩
 | txt z t=>exact⟨_,e,rfl,rfl⟩
theorem Zk.alive{k:Zk}{h:MG}:(h.push k.itObj).get? h.objs.size=some k.itObj:=by
 cases k with
 | lst l xs=>exact Mq _ rfl
 | txt z t=>exact Mq _ rfl
abbrev Fg(h:MG)(k1:Zk):MG:=h.push k1.itObj
abbrev Ff(h:MG)(k1 k2:Zk):MG:=(Fg h k1).push k2.itObj
abbrev Fe(h:MG)(k1 k2:Zk):MG:=(Ff h k1 k2).push { cls:=.type "tuple",data:=.seq #[.ref h.objs.size,.ref (Fg h k1).objs.size] }
abbrev Fd(h:MG)(k1 k2:Zk):MG:=(Fe h k1 k2).push { cls:=.type "tuple",data:=.seq #[.none,.none] }
abbrev Ad(h:MG)(k1 k2:Zk):MG:=(Fd h k1 k2).push { cls:=.type "zip",data:=.fields #[.none,.bool false,.bool false,.ref (Ff h k1 k2).objs.size,.ref (Fe h k1 k2).objs.size] }
theorem AX(k1 k2:Zk):Meets (Builtin.«zip.__new__» ⟨[.type "zip",k1.val,k2.val],[]⟩) (fun _ R s=>k1.ready s.heap/\k2.ready s.heap/\R (.ok (.ret (.ref (Fd s.heap k1 k2).objs.size))) { s with heap:=Ad s.heap k1 k2 }):=
 .of_wp fun prog w A R s h=>by
  obtain⟨hp,g,d,tk,os⟩:=s;obtain⟨r1,r2,h⟩:=h;have hsub:=sub_zip;have q2:k2.ready (Shared.heap ⟨hp.push k1.itObj,g,d,tk,os⟩):=Zk.grow r2 fun c o e=>Mn _ e
  wp_walk using Zk.iter (k:=k1) (s:=⟨hp,g,d,tk,os⟩) r1,Zk.iter (k:=k2) (s:=⟨hp.push k1.itObj,g,d,tk,os⟩) q2
  exact⟨_,rfl,h⟩
theorem wx{prog:Mw}{w:ME}{A:MA}{E:Mh->Mi->Prop}{s:Mi}{k1 k2:Zk}{Q:Mh->Mi->Prop}(r1:k1.ready s.heap)(r2:k2.ready s.heap)
  (h:∀ h',BZ k1 k2 (s.heap.objs.size+4) (s.heap.objs.size+2) (s.heap.objs.size+3) s.heap.objs.size (s.heap.objs.size+1) 0 h'->h'.objs.size=s.heap.objs.size+5->
   (∀ c o,s.heap.get? c=some o->h'.get? c=some o)->Q (.ref (s.heap.objs.size+4)) { s with heap:=h' }):Mo (Mt prog w) A (call (.type "zip") [k1.val,k2.val]) Q E s:=by
 refine callType_new F.called_zip (by decide) (F.typeCall_zip_2 _ _) (F.newCall_zip_2 _ _) (fun obj=>F.args_object_init_3 obj _ _) F.entry_zip_new (AX k1 k2) ⟨r1,r2,?_⟩
 have z1:(Fg s.heap k1).objs.size=s.heap.objs.size+1:=NA ..;have z2:(Ff s.heap k1 k2).objs.size=s.heap.objs.size+2:=by rw[NA,z1]
 have z3:(Fe s.heap k1 k2).objs.size=s.heap.objs.size+3:=by rw[NA,z2]
 have z4:(Fd s.heap k1 k2).objs.size=s.heap.objs.size+4:=by rw[NA,z3]
 have z5:(Ad s.heap k1 k2).objs.size=s.heap.objs.size+5:=by rw[NA,z4]
 have u:∀ {h:MG} {c:Mg} {o o':Obj},h.get? c=some o->(h.push o').get? c=some o:=fun e=>Mn _ e;have g5:(Ad s.heap k1 k2).get? (Fd s.heap k1 k2).objs.size=some _:=Mq _ rfl;have g4:(Ad s.heap k1 k2).get? (Fe s.heap k1 k2).objs.size=some _:=u (Mq _ rfl);have g3:(Ad s.heap k1 k2).get? (Ff s.heap k1 k2).objs.size=some _:=u (u (Mq _ rfl));have g2:(Ad s.heap k1 k2).get? (Fg s.heap k1).objs.size=some k2.itObj:=u (u (u Zk.alive));have g1:(Ad s.heap k1 k2).get? s.heap.objs.size=some k1.itObj:=u (u (u (u Zk.alive)));show _/\_
 rw[z2,z3,z4]at g5;rw[z1,z2]at g3;rw[z3]at g4;rw[z1]at g2;rw[z4];exact⟨⟨_,g5,rfl⟩,h _ ⟨⟨_,_,.inl rfl,g5⟩,g3,⟨_,_,g4⟩,Zk.it0 g1,Zk.it0 g2⟩ z5 fun c o x=>u (u (u (u (u x))))⟩
end L2
namespace L3
open PySem PySem.Spec PyProof.Rows L2
def gg:D->Option (List D)
 | .lst ds=>some ds
 | .str x=>some (signs x)
 | _=>none
def nU:List D->List D->List D
 | a::r,b::t=>.tup [a,b]::nU r t
 | _,_=>[]
theorem kO:∀ (a b:List D),(nU a b).length=min a.length b.length
 | [],_=>by simp[nU]
 | _::_,[]=>by simp[nU]
 | _::r,_::t=>by simp only[nU,MD,kO r t];omega
theorem r9:∀ {a b:List D} {i:Nat} {x y:D},a[i]?=some x->b[i]?=some y->(nU a b)[i]?=some (.tup [x,y])
 | _::_,_::_,0,_,_,h,h'=>by simp at h h';subst h h';rfl
 | _::r,_::t,i+1,_,_,h,h'=>by simp only[M4]at h h';simpa[nU]using r9 h h'
 | [],_,_,_,_,h,_=>by simp at h
 | _::_,[],_,_,_,_,h=>by simp at h
theorem v5{K:PySem.W.Frag}{H:Hp}(z:Str):RDs K H (signs z) (dL z):=by
 have e1:signs z=(z.cps.toList.map fun c=>(⟨#[c]⟩:Str)).map D.str:=by simp[signs]
 have e2:dL z=(z.cps.toList.map fun c=>(⟨#[c]⟩:Str)).map V.str:=by simp[dL]
 rw[e1,e2];exact RDs.strs _
theorem Bo{K:PySem.W.Frag}{H:Hp}{d:D}{v:V}{u:Mh}{ds:List D}(e:gg d=some ds)(r:RD K H d v)(ru:aI v u):
  ∃ k:Zk,u=k.val/\RDs K H ds k.vs/\∀ (G:Gp) (G':Gp) (H':Hp),RG K H G->Kp G H G' H'->k.here K H'/\RDs K H' ds k.vs:=by
 cases d with
 | lst es=>
  simp only[gg,Option.some.injEq]at e;subst e;simp only[RD]at r;obtain⟨a,xs,rfl,f,rr⟩:=r;cases ru;exact⟨.lst a xs,rfl,rr,fun G G' H' rg k=>⟨((k.stb rg).l _ _ f).sq,RDs.mono (k.stb rg) _ _ rr⟩⟩
 | str z=>
  simp only[gg,Option.some.injEq]at e;subst e;simp only[RD]at r;subst r;obtain⟨t,rfl⟩:=ru;exact⟨.txt z t,rfl,v5 z,fun _ _ _ _ _=>⟨True.intro,v5 z⟩⟩
 | _=>simp[gg]at e
theorem IK{K:PySem.W.Frag}{G0:Gp}{H0:Hp}{ds es:List D}{k1 k2:Zk}(rg0:RG K H0 G0)(r1:∀ (G:Gp) (G':Gp) (H':Hp),RG K H0 G->Kp G H0 G' H'->k1.here K H'/\RDs K H' ds k1.vs)(r2:∀ (G:Gp) (G':Gp) (H':Hp),RG K H0 G->Kp G H0 G' H'->k2.here K H'/\RDs K H' es k2.vs):
  vX K G0 H0 (nU ds es) (LR K k1 k2):=fun i G H k rg=>by
 obtain⟨a1,q1⟩:=r1 G0 G H rg0 k;obtain⟨a2,q2⟩:=r2 G0 G H rg0 k;have n1:=q1.length;have n2:=q2.length;rw[kO];refine⟨fun hi=>⟨⟨⟨by walk_at "o",by walk_at "o"⟩,a1,a2⟩,fun x H' y=>?_⟩,fun e=>⟨by walk_at "o",a1,a2⟩⟩
 obtain⟨p,u,v,hn,rfl,rfl,e1,e2⟩:=y;have i1:i < ds.length:=by walk_at "o"
 have i2:i < es.length:=by walk_at "o"
 obtain⟨u',f1,g1⟩:=q1.get (Ms i1);obtain⟨v',f2,g2⟩:=q2.get (Ms i2);rw[e1]at f1;cases f1;rw[e2]at f2;cases f2;exact⟨Kp.laid hn,rg.laid hn,_,r9 (Ms i1) (Ms i2),lY rg hn (RDs.cons g1 (RDs.cons g2 RDs.nil))⟩
def CK(ta:nR):E7:=fun σ G Q=>ta σ G fun ds G'=>match ds with
 | [x,y]=>∃ a b,(gg x=some a/\gg y=some b)/\Q (nU a b) G'
 | _=>False
theorem zZ:Nl "zip"=some (.type "zip"):=by kernel_rfl
theorem wH{K:PySem.W.Frag}{H:Hp}{x y:D}{vs:List V}(h:RDs K H [x,y] vs):∃ v u,vs=[v,u]/\RD K H x v/\RD K H y u:=by
 obtain⟨v,t,rfl,h1,h2⟩:=h.inv_cons;obtain⟨u,rfl,h3⟩:=fy h2;exact⟨v,u,rfl,h1,h3⟩
end L3
namespace L2
open PySem PySem.Spec PyProof.Rows
theorem xH:Pq (.type "list") "keys"=pure none:=by rw[PY,O6];kernel_rfl
theorem zl:Pq (.type "zip") "keys"=pure none:=by rw[PY,O6];kernel_rfl
theorem pF:Pq (.type "zip") "__getattr__"=pure none:=by rw[PY,O6];kernel_rfl
theorem yc:entryFor table "zip.__getattribute__"=some Builtin.«object.__getattribute__»:=entryFor_alias (id':="object.__getattribute__") (by kernel_rfl) (by first|rfl|decide +kernel) (by decide +kernel) (by kernel_rfl)
theorem Cy:(["__module__","__name__","__qualname__","__doc__","__annotations__"]:List Str).contains (Mj "keys")=false:=by decide +kernel
theorem v3:(Mj "keys").length+100<=Mp:=by rw[Nn];decide +kernel
theorem tK(a:Mg)(vs:Array Mh)(u:Tok):Meets (Builtin.«object.__getattribute__» ⟨[.ref a,.str "keys" u],[]⟩) (fun A R s=>s.heap.get? a=some { cls:=.type "zip",dict:=none,data:=.fields vs,slots:=#[] }/\raisesAttr (.ref a) "keys" A R s):=
 Meets.of_wp fun prog w A R s hs=>by
  obtain⟨hp,g,d,tk,os⟩:=s;obtain⟨hx,hs⟩:=hs;have hT:(⟨hp,g,d,tk,os⟩:Mi).TypeIs (.ref a) "zip":=⟨_,hx,rfl⟩;have f4:=zl;unfold Builtin.«object.__getattribute__»
  repeat (any_goals (first|assumption|wp_step))
  exact wpAny_raiseAttrError hs.1 hs.2 (attrMsg_fits (by decide +kernel) v3)
section
variable{prog:Mw}{w:ME}{A:MA}{E:Mh->Mi->Prop}{s:Mi}{a:Mg}{Q:Option Mh->Mi->Prop}
theorem xB{xs:Array Mh}{k:Nat}{sl:Array (Option Mh)}(hx:s.heap.get? a=some { cls:=.type "list",dict:=none,data:=.seq xs k,slots:=sl })(hA:A.in1.handled=none)
  (h:∀ h' tk,(∀ c o,s.heap.get? c=some o->h'.get? c=some o)->Q none { s with heap:=h',toks:=tk }):Mo (Mt prog w) A (Py (.ref a) "keys") Q E s:=by
 obtain⟨hp,g,d,tk,os⟩:=s;have hT:∀ tk',(⟨hp,g,d,tk',os⟩:Mi).TypeIs (.ref a) "list":=fun _=>⟨_,hx,rfl⟩;have f1:=QN;have f3:=F.slot_list_getattribute.lookup;have f4:=F.slot_list_getattribute.bind (.ref a);have f5:=am_list_getattr_none;unfold Py getAttrBy?
 repeat (any_goals (first|assumption|exact hT _|((with_reducible show Mo _ _ (call _ _ _) _ _ _);refine QQ F.slot_list_getattribute (hT _) am_entry_list_getattribute (F.args_list_getattribute_2 _ _) (meets_getattribute_miss_list a xs k sl _ _ xH Cy v3) ⟨hx,hA,fun h' t' e hx'=>?_⟩)|wp_step))
 obtain⟨t1,u1,he⟩:=hx'.there;show Mo _ _ (OF _ _ _ _ _ _ _) _ _ _
 unfold OF
 repeat (any_goals (first|assumption|wp_step))
 exact h _ _ hx'.keeps
theorem zd{vs:Array Mh}(hx:s.heap.get? a=some { cls:=.type "zip",dict:=none,data:=.fields vs,slots:=#[] })(hA:A.in1.handled=none)
  (h:∀ h' tk,(∀ c o,s.heap.get? c=some o->h'.get? c=some o)->Q none { s with heap:=h',toks:=tk }):Mo (Mt prog w) A (Py (.ref a) "keys") Q E s:=by
 obtain⟨hp,g,d,tk,os⟩:=s;have hT:∀ tk',(⟨hp,g,d,tk',os⟩:Mi).TypeIs (.ref a) "zip":=fun _=>⟨_,hx,rfl⟩;have f1:=QN;have f3:=F.slot_zip_getattribute.lookup;have f4:=F.slot_zip_getattribute.bind (.ref a);have f5:=pF;unfold Py getAttrBy?
 repeat (any_goals (first|assumption|exact hT _|((with_reducible show Mo _ _ (call _ _ _) _ _ _);refine QQ F.slot_zip_getattribute (hT _) yc (F.args_zip_getattribute_2 _ _) (tK a vs _) ⟨hx,hA,fun h' t' e hx'=>?_⟩)|wp_step))
 obtain⟨t1,u1,he⟩:=hx'.there;show Mo _ _ (OF _ _ _ _ _ _ _) _ _ _
 unfold OF
 repeat (any_goals (first|assumption|wp_step))
 exact h _ _ hx'.keeps
end
structure PWalk(prog:Mw)(w:ME)(A:MA)(it:Mg)(wr:List Mg)(n:Nat)(Pv:Nat->Mh->Mh->Prop)(St:Nat->MG->Prop):Prop where
 frame:∀ i h h',St i h->(∀ c o,o.cls≠.type "dict"->h.get? c=some o->h'.get? c=some o)->St i h'
 item:∀ i (s:Mi) (Q:Option Mh->Mi->Prop) (E:Mh->Mi->Prop),i < n->St i s.heap->
  (∀ h' tk p k v,Pv i k v->(∃ o m,h'.get? p=some o/\o.cls=.type "tuple"/\o.data=.seq #[k,v] m)->St (i+1) h'->(∀ c o,c∉wr->s.heap.get? c=some o->h'.get? c=some o)->Q (some (.ref p)) { s with heap:=h',toks:=tk })->
  Mo (Mt prog w) A (NM (.ref it)) Q E s
 done:∀ (s:Mi) (Q:Option Mh->Mi->Prop) (E:Mh->Mi->Prop),St n s.heap->(∀ h' tk,(∀ c o,c∉wr->s.heap.get? c=some o->h'.get? c=some o)->Q none { s with heap:=h',toks:=tk })->
  Mo (Mt prog w) A (NM (.ref it)) Q E s
theorem fW:plainId "dict.update.loop"=true:=by decide +kernel
theorem lR:entryFor table "dict.update.loop"=some Builtin.«dict.update.loop»:=entryFor_of_tree (by kernel_rfl)
section
variable{prog:Mw}{w:ME}{A:MA}{it d:Mg}{wr:List Mg}{n:Nat}{Pv:Nat->Mh->Mh->Prop}{St:Nat->MG->Prop}{R:QT->Mi->Prop}{h0:MG}
def KP(prog:Mw)(w:ME)(h:MG)(d:Mg)(xs:List (List aJ×Mg×Mh)):Prop:=
 ∃ o es ep,h.get? d=some o/\o.ExactDict/\o.data=.dict es ep/\es.toList=xs.map (entryOfKey (Np (bv prog w)))/\(xs.map (·.1)).Nodup
theorem AJ{p:Mg}{k v:Mh}{s:Mi}{E:Mh->Mi->Prop}{Q:List Mh->Mi->Prop}(h:∃ o m,s.heap.get? p=some o/\o.cls=.type "tuple"/\o.data=.seq #[k,v] m)(q:Q [k,v] s):Mo (Mt prog w) A (Qs (.ref p)) Q E s:=by
 obtain⟨o,m,e,c,dt⟩:=h;unfold Qs;refine Mf (Qi (T:="tuple") ⟨o,e,c⟩ ?_);rw[if_pos (by decide)]
 exact Mf (NV e dt (Ml q))
theorem Dm(W:PWalk prog w A.in1 it wr n Pv St)(hu:A.units+1 < M5)(hd:d∉wr)(hn:n<=Mp)(Acc:Nat->List (List aJ×Mg×Mh)->Prop)
  (hk:∀ i k v xs,Pv i k v->Acc i xs->∃ ks b,k=.ref b/\Acc (i+1) (Pg xs ks b v)/\∀ h,(∀ c o,c∉wr->c≠d->h0.get? c=some o->h.get? c=some o)->(Np (bv prog w)).is h ks b)
  (hx:∀ i xs,Acc i xs->xs.length<=i/\∀ x∈xs,∀ h,(∀ c o,c∉wr->c≠d->h0.get? c=some o->h.get? c=some o)->(Np (bv prog w)).is h x.1 x.2.1):
  ∀ (k i:Nat) (s:Mi) (xs:List (List aJ×Mg×Mh)),n - i=k->i<=n->St i s.heap->(∀ c o,c∉wr->c≠d->h0.get? c=some o->s.heap.get? c=some o)->KP prog w s.heap d xs->Acc i xs->
   (∀ h' tk ys,(∀ c o,c∉wr->c≠d->h0.get? c=some o->h'.get? c=some o)->(∀ c o,c∉wr->c≠d->s.heap.get? c=some o->h'.get? c=some o)->KP prog w h' d ys->Acc n ys->R (.ok (.ret .none)) { s with heap:=h',toks:=tk })->
   OB (Mt prog w) A (.builtin "dict.update.loop" ⟨[.ref d,.ref it,N0 i,.none],[]⟩) R s:=by
 intro k
 induction k with
 | zero=>
  intro i s xs hk' hi st keep dr ac hR;have hin:i=n:=by walk_at "o"
  subst hin;refine codeAny_builtin lR ?_;rw[QF fW _];show Mo _ A.in1 (NM (.ref it) >>= _) _ _ s
  refine Mf (W.done s _ _ st fun h' tk kp=>?_);show Mo _ _ (Builtin.Dict.addKeywords d [] >>= _) _ _ _
  refine Mf (Ml (Ml ?_));obtain⟨o,es,ep,e,r⟩:=dr;exact hR h' tk xs (fun c o hc hcd q=>kp c o hc (keep c o hc hcd q)) (fun c o hc _ q=>kp c o hc q) ⟨o,es,ep,kp d o hd e,r⟩ ac
 | succ k ih=>
  intro i s xs hk' hi st keep dr ac hR;have hlt:i < n:=by walk_at "o"
  refine codeAny_builtin lR ?_;rw[QF fW _];show Mo _ A.in1 (NM (.ref it) >>= _) _ _ s
  refine Mf (W.item i s _ _ hlt st fun h1 t1 p kv vv pv tp st1 kp=>?_);obtain⟨ks,b,rfl,ac',key⟩:=hk i kv vv xs pv ac;refine Mf (Nc (Mf (wpAny_tryCatch (AJ tp ?_))));refine Nc ?_;obtain⟨o,es,ep,e,r1,r2,r3,r4⟩:=dr;have Uy:∀ c o,c∉wr->c≠d->h0.get? c=some o->h1.get? c=some o:=fun c o hc hcd q=>kp c o hc (keep c o hc hcd q);obtain⟨len,keys⟩:=hx i xs ac;have dd:Heap.DictOfH (Np (bv prog w)) h1 d xs:=⟨o,es,ep,kp d o hd e,r1,r2,r3,fun x hx'=>keys x hx' h1 Uy,r4⟩;refine QJ (s:={ s with heap:=h1,toks:=t1 }) (hsz:=by walk_at "o") (show A.in1.units < M5 from hu) (key h1 Uy) dd fun h2 dd2 sb=>?_
  obtain⟨o2,es2,ep2,e2,q1,q2,q3,_,q4⟩:=dd2;have up:∀ c o,c≠d->h1.get? c=some o->h2.get? c=some o:=fun c o hc q=>sb.extBut _ _ hc q;have kpd:h1.get? d=some o:=kp d o hd e;refine Ml ⟨plainId_quiet fW _,?_⟩;have:=ih (i+1) { s with heap:=h2,toks:=t1+(Np (bv prog w)).draws ks } (Pg xs ks b vv) (by walk_at "o") hlt (W.frame _ _ _ st1 fun c o' hc q=>up c o' (fun z=>by subst z;rw[kpd]at q;cases q;exact hc r1.1) q) (fun c o hc hcd q=>up c o hcd (Uy c o hc hcd q)) ⟨o2,es2,ep2,e2,q1,q2,q3,q4⟩ ac'
   fun h' tk ys k1 k2 k3 k4=>hR h' tk ys k1 (fun c o hc hcd q=>k2 c o hc hcd (up c o hcd (kp c o hc q))) k3 k4
  exact this
end
end L2
namespace L3
open PySem PySem.Spec PyProof.Rows L2
def y0(kv:List aJ×D):D:=.tup [.tup (kv.1.map kD),kv.2]
def dictOf(kvs:List (List aJ×D)):List (List aJ×D):=kvs.foldl (fun a kv=>bB a kv.1 kv.2) []
theorem ph(kvs:List (List aJ×D)):∀ a:List (List aJ×D),(kvs.foldl (fun a kv=>bB a kv.1 kv.2) a).length<=a.length+kvs.length:=by
 induction kvs with
 | nil=>intro a;exact le_refl _
 | cons kv r ih=>
  intro a;have h1:=ih (bB a kv.1 kv.2);have h2:=fF a kv.1 kv.2;simp only[OW,MD];omega
theorem zR{kvs:List (List aJ×D)}{i:Nat}{kv:List aJ×D}(h:kvs[i]?=some kv):dictOf (kvs.take (i+1))=bB (dictOf (kvs.take i)) kv.1 kv.2:=by
 unfold dictOf;rw[MU,h,List.foldl_append];rfl
theorem yg(kvs:List (List aJ×D)):((dictOf kvs).map (·.1)).Nodup:=by
 unfold dictOf
 suffices h:∀ a:List (List aJ×D),(a.map (·.1)).Nodup->((kvs.foldl (fun a kv=>bB a kv.1 kv.2) a).map (·.1)).Nodup from h [] PL
 induction kvs with
 | nil=>intro a h;exact h
 | cons kv r ih=>intro a h;exact ih _ (nw kv.1 kv.2 h)
theorem CT{prog:Mw}{w:ME}{A:MA}{E:Mh->Mi->Prop}{s:Mi}{src:Mg}{T:String}{Q:Mh->Mi->Prop}(hT:∃ o,s.heap.get? src=some o/\o.cls=.type T)(hne:(Value.type T != Value.type "dict")=true)
  (hno:∀ (s':Mi) (Q':Option Mh->Mi->Prop) (E':Mh->Mi->Prop),(∀ c o,s.heap.get? c=some o->s'.heap.get? c=some o)->(∀ h' tk,(∀ c o,s'.heap.get? c=some o->h'.get? c=some o)->Q' none { s' with heap:=h',toks:=tk })->Mo (Mt prog w) A.in1.in1 (Py (.ref src) "keys") Q' E' s')
  (h:∀ h' tk,(∀ c o,s.heap.get? c=some o->h'.get? c=some o)->h'.get? s.heap.objs.size=some { cls:=.type "dict",data:=.dict #[] }->
   Mo (Mt prog w) A.in1.in1 (OD (.ref src)) (fun it s2=>OB (Mt prog w) A.in1 (.builtin "dict.update.loop" ⟨[.ref s.heap.objs.size,it,N0 0,.none],[]⟩) (wants (fun r s₂=>r=.none/\Q (.ref s.heap.objs.size) s₂) E) s2) (fun e s'=>wants (fun r s₂=>r=.none/\Q (.ref s.heap.objs.size) s₂) E (.error e) s') { s with heap:=h',toks:=tk }):
  Mo (Mt prog w) A (call (.type "dict") [.ref src]) Q E s:=by
 refine callType_codes (Q₁:=fun obj s₁=>obj=.ref s.heap.objs.size/\s₁={ s with heap:=s.heap.push { cls:=.type "dict",data:=.dict #[] } }) F.kt_called_dict (F.kt_typeCall_dict_1 _) F.entry_dict_init (kt_code_dict_new _ ⟨rfl,rfl⟩) ?_
 rintro obj s₁ ⟨rfl,rfl⟩
 have hd:(s.heap.push { cls:=.type "dict",data:=.dict #[] }).get? s.heap.objs.size=some { cls:=.type "dict",data:=.dict #[] }:=Mq _ rfl;have tyd:Shared.TypeIs { s with heap:=s.heap.push { cls:=.type "dict",data:=.dict #[] } } (.ref s.heap.objs.size) "dict":=⟨_,hd,rfl⟩
 obtain⟨o,e,c⟩:=hT;have up:∀ c o,s.heap.get? c=some o->(s.heap.push { cls:=.type "dict",data:=.dict #[] }).get? c=some o:=fun c o e=>Mn _ e;refine⟨tyd,F.args_dict_init_2 _ _,?_⟩;unfold Builtin.«dict.__init__»;refine Mf ?_;unfold Builtin.Dict.selfAndRest;refine Mf (O4 tyd ?_);show Mo _ _ (pure (s.heap.objs.size,[Value.ref src])) _ _ _;refine Ml ?_
 show Mo _ _ (Qh "dict.__init__" s.heap.objs.size (.ref src) [] .none) _ _ _
 unfold Qh;refine Mf (Qi (T:=T) ⟨o,up _ _ e,c⟩ ?_);rw[if_pos hne];refine Mf (hno _ _ _ up fun h' tk kp=>?_);simp only[Option.isNone_none,if_true];refine Mf (Po ?_);refine Mf (M7 (h h' tk (fun c o e=>kp c o (up c o e)) (kp _ _ hd)) (fun it s2 q=>Ml ⟨plainId_quiet fW _,q⟩) fun _ _ q=>q)
section
variable{X:Cx}{pins:List (Mg×Obj)}{τ:St}{H1:Hp}{s1:Mi}{G1:Gp}
theorem zQ{src:Mg}{T:String}{kvs:List (List aJ×D)}{Q:Mh->Mi->Prop}(hu:X.A.units+8 < M5)(I1:L2.Inv X pins τ H1 s1)(rg1:RG X.K H1 G1)(hz:kvs.length<=900000)
  (hT:∃ o,s1.heap.get? src=some o/\o.cls=.type T) (hne:(Value.type T != Value.type "dict")=true)
  (hno:∀ (s':Mi) (Q':Option Mh->Mi->Prop) (E':Mh->Mi->Prop),(∀ c o,s1.heap.get? c=some o->s'.heap.get? c=some o)->(∀ h' tk,(∀ c o,s'.heap.get? c=some o->h'.get? c=some o)->Q' none { s' with heap:=h',toks:=tk })->Mo (Mt X.prog X.w) X.A.in1.in1 (Py (.ref src) "keys") Q' E' s')
  (hit:∀ (h2:MG) (tk2:Nat) (Q':Mh->Mi->Prop) (E':Mh->Mi->Prop),(∀ c o,s1.heap.get? c=some o->h2.get? c=some o)->s1.heap.objs.size < h2.objs.size->
   (∀ it wr Pv St h3,PWalk X.prog X.w X.A.in1.in1 it wr kvs.length Pv St->St 0 h3->(∀ c o,h2.get? c=some o->h3.get? c=some o)->(∀ b∈wr,pB X pins H1 b/\b≠s1.heap.objs.size)->
    (∀ i k v,Pv i k v->∃ kv b x,kvs[i]?=some kv/\k=.ref b/\kt X.K H1 b (kv.1.map kV)/\RD X.K H1 kv.2 x/\aI x v)->Q' (.ref it) { s1 with heap:=h3,toks:=tk2 })->
   Mo (Mt X.prog X.w) X.A.in1.in1 (OD (.ref src)) Q' E' { s1 with heap:=h2,toks:=tk2 })
  (q:∀ s' H',L2.Inv X pins τ H' s'->H1 s1.heap.objs.size=none->Kp G1 H1 (gset G1 s1.heap.objs.size (.dT (ai X.prog X.w) (dictOf kvs))) H'->RG X.K H' (gset G1 s1.heap.objs.size (.dT (ai X.prog X.w) (dictOf kvs)))->Q (.ref s1.heap.objs.size) s'):
  Mo (Mt X.prog X.w) X.A (call (.type "dict") [.ref src]) Q X.xe s1:=by
 have hsl:=aj;have sle:=Nn;refine CT hT hne hno fun h2 tk2 kp2 hd2=>?_;refine hit h2 tk2 _ _ kp2 (Mx hd2) fun it wr Pv St h3 W st0 kp3 hwr hpv=>?_;have hf:H1 s1.heap.objs.size=none:=I1.hok.fresh (le_refl _);have hdw:s1.heap.objs.size∉wr:=fun z=>(hwr _ z).2 rfl;have ltk:∀ {b:Mg} {ks:List aJ},kt X.K H1 b (ks.map kV)->b∉wr/\b≠s1.heap.objs.size/\∀ h:MG,(∀ c o,c∉wr->c≠s1.heap.objs.size->s1.heap.get? c=some o->h.get? c=some o)->(Np (bv X.prog X.w)).is h ks b:=fun {b ks} sq=>by
  have key:=key_at I1 sq;obtain⟨o,its,n,e,c,dd,ii⟩:=id key;have hb1:b≠s1.heap.objs.size:=MO (Mx e);have hb2:b∉wr:=fun z=>by
   obtain⟨⟨g0,g1,g2,g3,g4,g5⟩,_⟩:=hwr b z;rcases sq with (e1|⟨o',e1⟩)|⟨o',its',n',kl,_⟩
   ·rw[g0]at e1;cases e1
   ·rw[g0]at e1;cases e1
   ·have e2:X.base.get? b=some o':=I1.mod.kin b o' kl;rcases g3 with g3|g3
    ·exact I1.ok.noex b o' e2 g3
    ·exact absurd (Mx (I1.ok.bs b o' e2).1) (Nat.not_lt.mpr g3)
  exact⟨hb2,hb1,fun h kp=>⟨o,its,n,kp b o hb2 hb1 e,c,dd,ii⟩⟩
 have VS:∀ {i:Nat} {xs:List (List aJ×Mg×Mh)},pD X.K H1 (dictOf (kvs.take i)) xs->xs.length<=i/\∀ x∈xs,kt X.K H1 x.2.1 (x.1.map kV):=fun {i xs} r=>by
  refine⟨?_,?_⟩
  ·rw[<- r.length];have:=ph (kvs.take i) [];rw[Nk]at this;unfold dictOf;simp only[MS]at this;omega
  ·unfold pD at r;generalize dictOf (kvs.take i)=ks at r
   induction r with
   | nil=>intro x hx;exact nomatch hx
   | @cons p q ps qs hq t ih=>
    intro x hx;rcases MV.mp hx with e|hx
    ·subst e;rw[<- hq.1];exact hq.2.1
    ·exact ih x hx
 refine Dm (A:=X.A.in1) (h0:=s1.heap) (d:=s1.heap.objs.size) W (show X.A.units+1+1 < M5 by walk_at "o") hdw (by walk_at "o") (fun i xs=>pD X.K H1 (dictOf (kvs.take i)) xs) (fun i k v xs pv ac=>?_) (fun i xs ac=>?_) kvs.length 0 { s1 with heap:=h3,toks:=tk2 } [] (Nat.sub_zero _) (M6 _) st0 (fun c o _ _ e=>kp3 c o (kp2 c o e)) ⟨_,#[],0,kp3 _ _ hd2,⟨rfl,rfl,rfl⟩,rfl,rfl,PL⟩ .nil fun h' tk ys k1 k2 dr ac=>?_
 ·obtain⟨kv,b,x,e,rfl,sq,rd,rv⟩:=hpv i k v pv;refine⟨kv.1,b,rfl,?_,(ltk sq).2.2⟩;show pD X.K H1 (dictOf (kvs.take (i+1))) _
  rw[zR e];exact pD.put ac kv.1 sq rd rv
 ·obtain⟨len,ks⟩:=VS ac;exact⟨len,fun x hx h kp=>(ltk (ks x hx)).2.2 h kp⟩
 ·rw[MR]at ac;obtain⟨o,es,ep,e,r1,r2,r3,r4⟩:=dr;have hsm:(s1.heap.objs.size == M9)=false:=beq_eq_false_iff_ne.mpr (Ne.symm (MO I1.big));have fd:o.isFreed=false:=by
   obtain⟨c,dd,dt,sl⟩:=o;have r2':dt=.dict es ep:=r2;subst r2';rfl
  obtain⟨kpp,rg2⟩:=Gm (o:=.dT (ai X.prog X.w) (dictOf kvs)) (ho:=.ext (yw (ai X.prog X.w) s1.heap.objs.size ys)) rg1 hf fun H' st=>⟨ys,rfl,ac.mono st,yg kvs,by
   have:=ph kvs [];unfold dictOf;simp only[MS]at this;omega⟩
  have I2:L2.Inv X pins τ (bE H1 s1.heap.objs.size (.ext (yw (ai X.prog X.w) s1.heap.objs.size ys))) { s1 with heap:=s1.heap.push o,toks:=s1.toks }:=
   I1.laid (fun _ _ q=>Mn _ q) (le_refl _) (qF ⟨hsm,o,es,ep,Mq _ fd,r1,r2,r3⟩)
  have I3:=Inv.turnedL (s:={ s1 with heap:=s1.heap.push o,toks:=s1.toks }) (h':=h') (t':=tk) (fp:=wr) I2 (fun b o' hb qb=>by
   have qb':(s1.heap.push o).get? b=some o':=qb
   by_cases hbs:b=s1.heap.objs.size
   ·subst hbs;rw[Mq _ fd]at qb';cases qb';exact e
   ·rw[PD _ _ _ hbs]at qb';exact k1 b o' hb hbs qb') fun b hb=>by
   obtain⟨⟨g0,g1,g2,g3,g4,g5⟩,nb⟩:=hwr b hb;exact⟨by rw[aA nb];exact g0,g1,g2,g3,g4,g5⟩
  exact⟨rfl,q _ _ I3 hf kpp rg2⟩
end
end L3
namespace L2
open PySem PySem.Spec PyProof.Rows
theorem AA{prog:Mw}{w:ME}{A:MA}{it l:Mg}{us:List Mh}{Pv:Nat->Mh->Mh->Prop}(hh:A.handled=none):
  PWalk prog w A it [it] us.length Pv (fun i h=>h.IsListIter it l i/\h.IsList l us.toArray/\∀ j u,us[j]?=some u->∃ p kk vv,u=.ref p/\(∃ o m,h.get? p=some o/\o.cls=.type "tuple"/\o.data=.seq #[kk,vv] m)/\Pv j kk vv) where
 frame:=fun i h h' ⟨⟨o1,e1,c1,d1⟩,⟨o2,e2,c2,d2⟩,ps⟩ kp=>⟨⟨o1,kp _ _ (by rw[c1];decide) e1,c1,d1⟩,⟨o2,kp _ _ (by rw[c2];decide) e2,c2,d2⟩,fun j u hu=>by
  obtain⟨p,kk,vv,e,⟨o,m,g,c,dt⟩,pv⟩:=ps j u hu;exact⟨p,kk,vv,e,⟨o,m,kp _ _ (by rw[c];decide) g,c,dt⟩,pv⟩⟩
 item:=fun i s Q E hi ⟨x1,x2,ps⟩ q=>by
  have hu:us[i]?=some us[i]:=Ms hi;obtain⟨p,kk,vv,e,tp,pv⟩:=ps i _ hu;refine Qj x1 x2 (x:=us[i]) (by simpa using hu) fun h' st' sb=>?_
  obtain⟨o1,e1,c1,_⟩:=x1;obtain⟨o2,e2,c2,_⟩:=id x2;have ne:∀ {b:Mg} {o:Obj} {T:String},s.heap.get? b=some o->o.cls=.type T->Value.type T≠.type "list_iterator"->b≠it:=fun hb hc hT z=>by subst z;rw[e1]at hb;cases hb;rw[c1]at hc;exact hT hc.symm
  have lk:∀ {p:Mg} {kk vv:Mh},(∃ o m,s.heap.get? p=some o/\o.cls=.type "tuple"/\o.data=.seq #[kk,vv] m)->∃ o m,h'.get? p=some o/\o.cls=.type "tuple"/\o.data=.seq #[kk,vv] m:=fun⟨o,m,g,c,dt⟩=>⟨o,m,(sb.2 _ (ne g c (by decide))).trans g,c,dt⟩
  rw[e];refine q h' s.toks p kk vv pv (lk tp) ⟨st',x2.at fun o g=>(sb.2 l (ne e2 c2 (by decide))).trans g,fun j u hu=>?_⟩ fun c o hc g=>(sb.2 c (fun z=>hc (by simp[z]))).trans g
  obtain⟨p',k',v',e',tp',pv'⟩:=ps j u hu;exact⟨p',k',v',e',lk tp',pv'⟩
 done:=fun s Q E ⟨x1,x2,ps⟩ q=>Qu hh x1 x2 (by simp) fun h' eb=>q h' s.toks fun c o hc g=>eb c o (fun z=>hc (by simp[z])) g
theorem BZ.wr{k1 k2:Zk}{z TI TO i1 i2:Mg}{i:Nat}{h:MG}(x:BZ k1 k2 z TI TO i1 i2 i h):∀ b∈[z,TI,TO,i1,i2],∃ o,h.get? b=some o/\o.cls≠.type "list"/\o.cls≠.type "dict":=by
 obtain⟨⟨f0,f1,_,hz⟩,hTI,⟨a,b',hTO⟩,h1,h2⟩:=x;have nd:∀ {k:Zk} {it:Mg},k.it it i h->∃ o,h.get? it=some o/\o.cls≠.type "list"/\o.cls≠.type "dict":=fun {k it} y=>by
  cases k with
  | lst l xs=>
   obtain⟨o,e,c,_⟩:=y;exact⟨o,e,by rw[c];decide,by rw[c];decide⟩
  | txt z t=>
   obtain⟨o,e,c,_⟩:=y;refine⟨o,e,?_⟩;rw[c];rcases mW z with q|q<;>rw[q]<;>decide
 intro b hb;simp only[MV,MZ,or_false]at hb;rcases hb with rfl|rfl|rfl|rfl|rfl
 ·exact⟨_,hz,by show Value.type "zip"≠_;decide,by show Value.type "zip"≠_;decide⟩
 ·exact⟨_,hTI,by show Value.type "tuple"≠_;decide,by show Value.type "tuple"≠_;decide⟩
 ·exact⟨_,hTO,by show Value.type "tuple"≠_;decide,by show Value.type "tuple"≠_;decide⟩
 ·exact nd h1
 ·exact nd h2
theorem Zk.stay{k:Zk}{h h':MG}(r:k.ready h)(q:∀ c o,o.cls=.type "list"->h.get? c=some o->h'.get? c=some o):k.ready h':=by
 cases k with
 | lst l xs=>
  obtain⟨us,rv,o,e,c,d⟩:=r;exact⟨us,rv,o,q l o c e,c,d⟩
 | txt z t=>exact True.intro
theorem Cf{prog:Mw}{w:ME}{A:MA}{k1 k2:Zk}{z TI TO i1 i2:Mg}(hh:A.in1.handled=none)(D:ZAp z TI TO i1 i2):
  PWalk prog w A z [z,TI,TO,i1,i2] (min k1.vs.length k2.vs.length) (fun i k v=>∃ u x,k1.vs[i]?=some u/\k2.vs[i]?=some x/\aI u k/\aI x v) (fun i h=>BZ k1 k2 z TI TO i1 i2 i h/\k1.ready h/\k2.ready h) where
 frame:=fun i h h' ⟨st,r1,r2⟩ kp=>⟨st.keep fun b hb o e=>by
  obtain⟨o',e',_,c⟩:=st.wr b hb;rw[e]at e';cases e';exact kp b o c e,Zk.stay r1 fun c o hc e=>kp c o (by rw[hc];decide) e,Zk.stay r2 fun c o hc e=>kp c o (by rw[hc];decide) e⟩
 item:=fun i s Q E hi ⟨st,r1,r2⟩ q=>by
  refine Bn hh D st r1 r2 (by walk_at "o") (by walk_at "o") fun h' tk x y u v e1 e2 ru rv st' tp sz kp=>?_
  have ls:∀ c o,o.cls=.type "list"->s.heap.get? c=some o->h'.get? c=some o:=fun c o hc e=>kp c o (fun hb=>by
   obtain⟨o',e',c',_⟩:=st.wr c hb;rw[e]at e';cases e';exact c' hc) e
  exact q h' tk _ x y ⟨u,v,e1,e2,ru,rv⟩ ⟨_,_,tp,rfl,rfl⟩ ⟨st',Zk.stay r1 ls,Zk.stay r2 ls⟩ kp
 done:=fun s Q E ⟨st,r1,r2⟩ q=>De hh D st r1 r2 rfl fun h' tk kp=>q h' tk kp
end L2
namespace L3
open PySem PySem.Spec PyProof.Rows L2
theorem wy:Nl "dict"=some (.type "dict"):=by kernel_rfl
theorem Hc{X:Cx}{tg:MJ}{a b:MJ}{ta:nR}{p pos:Pos}(hg:Gl X "zip")(hm:X.mg "zip"=none)(ha:PA X [a,b] (fi X.K ta))(hs:Mu [a,b] X.env=[(false,eval a X.env),(false,eval b X.env)]:=by rfl)(hs2:Mu [b] X.env=[(false,eval b X.env)]:=by rfl):
  PI X tg (.Call (.Name "zip" p) [a,b] [] pos) (oR X.K (CK ta)):=by
 intro pins s τ H R I h;obtain⟨σ,G,Q3,rs,rg,hq,k⟩:=h;refine QE (jc I hg hm zZ (PyProof.Rows.callWith_type1 (cI (ha pos pins s τ H (fun vs H1=>∃ ds G1,(match ds with|[x,y]=>∃ a b,(gg x=some a/\gg y=some b)/\Q3 (nU a b) G1|_=>False)/\Kp G H G1 H1/\RG X.K H1 G1/\RDs X.K H1 ds vs) I
  ⟨σ,G,_,rs,rg,hq,fun ds G1 vs H1 q k1 rg1 rds=>⟨ds,G1,q,k1,rg1,rds⟩⟩) fun us s1 ⟨vs,H1,I1,r1,q1⟩=>?_) (by rw[hs,hs2]) (by rw[hs2];rfl)))
 obtain⟨ds,G1,q,k1,rg1,rds⟩:=q1;split at q
 ·rename_i x y;obtain⟨as,bs,⟨ea,eb⟩,q⟩:=q;obtain⟨v,v',rfl,rd1,rd2⟩:=wH rds;obtain⟨u,u',rfl,ru1,ru2⟩:=r1.two;obtain⟨z1,rfl,_,w1⟩:=Bo ea rd1 ru1;obtain⟨z2,rfl,_,w2⟩:=Bo eb rd2 ru2;have hr1:=(w1 G1 G1 H1 rg1 Kp.refl).1;have hr2:=(w2 G1 G1 H1 rg1 Kp.refl).1;refine wx (Zk.of I1 hr1) (Zk.of I1 hr2) fun h' zs hsz kp=>?_;have D:ZAp (s1.heap.objs.size+4) (s1.heap.objs.size+2) (s1.heap.objs.size+3) s1.heap.objs.size (s1.heap.objs.size+1):=⟨MO (Oj (s1.heap.objs.size+2)),MO (Oj s1.heap.objs.size)⟩;refine (sf (P:=X.prog) (w:=X.w) (K:=X.K) (tg:=tg) z1 z2 _ _ _ _ _ D).self _ 0 _ _ _ zs ?_;refine⟨s1.heap.objs.size+4,[s1.heap.objs.size+4,s1.heap.objs.size+2,s1.heap.objs.size+3,s1.heap.objs.size,s1.heap.objs.size+1],_,_,H1,rfl,I1.kept (t':=s1.toks) kp,sf z1 z2 _ _ _ _ _ D,zs,fun c hc=>?_,k _ G1 _ H1 q k1 rg1 (IK rg1 w1 w2)⟩;have hc':s1.heap.objs.size<=c:=by
   simp only[MV,MZ,or_false]at hc;rcases hc with rfl|rfl|rfl|rfl|rfl<;>first|exact le_refl _|exact Nat.le_add_right _ _
  exact I1.fpOk hc' (I1.hok.fresh hc')
 ·exact q.elim
def Bf(hw:List aJ->Int)(te:bR):bR:=fun σ G Q=>te σ G fun x G1=>match rU G1 (val x) with
 | some ds=>∃ kvs:List (List aJ×D),(ds=kvs.map y0/\kvs.length<=900000)/\∀ p,G1 p=none->Q (.ref p) (gset G1 p (.dT hw (dictOf kvs)))
 | none=>False
def Be(hw:List aJ->Int)(ta:nR):bR:=fun σ G Q=>ta σ G fun ds G1=>match ds with
 | [x,y]=>∃ a b,∃ kvs:List (List aJ×D),(gg x=some a/\gg y=some b/\nU a b=kvs.map y0/\kvs.length<=900000)/\∀ p,G1 p=none->Q (.ref p) (gset G1 p (.dT hw (dictOf kvs)))
 | _=>False
theorem Hb{K:PySem.W.Frag}{H:Hp}{ks:List aJ}{v:V}(r:RD K H (.tup (ks.map kD)) v):∃ b,v=.ref b/\kt K H b (ks.map kV):=rX (d:=.tup (ks.map kD)) (BJ ks) r
theorem FX{X:Cx}{e:MJ}{te:bR}{p1 pos:Pos}(hu:X.A.units+8 < M5)(hc:X.calm=true)(hg:Gl X "dict")(hm:X.mg "dict"=none)(he:PE X e (aE X.K te))(hs:Mu [e] X.env=[(false,eval e X.env)]:=by rfl):
  PE X (.Call (.Name "dict" p1) [e] [] pos) (aE X.K (Bf (ai X.prog X.w) te)):=by
 rintro pins s τ H Q I ⟨σ,G,Q3,rs,rg,h,k⟩
 refine QE (jc I hg hm wy (PyProof.Rows.callWith_type1 ?_ hs rfl) (by decide) (by decide))
 rw[show Nr pos (Mu [e] X.env)=[(false,eval e X.env)]by rw[hs];rfl]
 refine NO (cI (eA he I rs rg h) fun ov s1 ⟨ox,H1,I1,rox,x,G1,q1,k1,rg1,rd1⟩=>On ?_);split at q1
 ·rename_i ds hq;obtain⟨kvs,⟨rfl,hz⟩,q1⟩:=q1;obtain⟨l,xs,rfl,sq,r⟩:=kh (G:=G1) (H:=H1) hq (.of rd1) rg1;cases rox;obtain⟨its,rv,pl,_⟩:=I1.list sq;have n1:=r.length;have n2:=rv.length;rw[Mm]at n1;obtain⟨lo,ln,le,lc,ld,ldat⟩:=id pl;have tps:∀ (j:Nat) u,its[j]?=some u->∃ p kk vv,u=.ref p/\(∃ o m,s1.heap.get? p=some o/\o.cls=.type "tuple"/\o.data=.seq #[kk,vv] m)/\∃ kv b x,kvs[j]?=some kv/\kk=.ref b/\kt X.K H1 b (kv.1.map kV)/\RD X.K H1 kv.2 x/\aI x vv:=fun j u hu=>by
   obtain⟨v,e1,ru⟩:=Vals.getV rv hu;obtain⟨d,e2,rd⟩:=RDs.getV r e1;rw[MH]at e2;cases hkv:kvs[j]? with
   | none=>rw[hkv]at e2;cases e2
   | some kv=>
    rw[hkv]at e2;cases e2;unfold y0 at rd;simp only[RD]at rd;obtain⟨p,ys,rfl,sqp,ry⟩:=rd;obtain⟨y1,y2,rfl,ra,rb⟩:=wH ry;obtain⟨b,rfl,sb⟩:=Hb (ks:=kv.1) (by simpa only[RD]using ra)
    cases ru;obtain⟨its2,rv2,tp,_⟩:=I1.tuple sqp;obtain⟨o,g1,g2,m,g3⟩:=tp;obtain⟨w1,w2,rfl,rw1,rw2⟩:=rv2.two;cases rw1;exact⟨p,_,w2,rfl,⟨o,m,g1,g2,by simpa using g3⟩,kv,b,y2,rfl,rfl,sb,rb,rw2⟩
  refine zQ (T:="list") (kvs:=kvs) hu I1 rg1 hz ⟨lo,le,lc⟩ (by decide) (fun s' Q' E' kp q'=>?_) (fun h2 tk2 Q' E' kp hlt q'=>?_) fun s' H' I' hf kp rg'=>⟨.ref s1.heap.objs.size,H',I',rfl,k _ _ _ H' (q1 _ (rg1.free hf)) (k1.trans kp) rg' (.of iu)⟩
  ·obtain⟨c0,d0,t0,s0⟩:=lo;simp only at lc ld ldat;subst lc ld ldat;exact xB (kp _ _ le) (I.ok.hd hc) q'
  ·refine OK (pl.isList.at fun o e=>kp _ _ e) ?_;have hln:kvs.length=its.length:=n1.trans n2;have W:=AA (prog:=X.prog) (w:=X.w) (A:=X.A.in1.in1) (it:=h2.objs.size) (l:=l) (us:=its) (Pv:=fun (j:Nat) (kk vv:Mh)=>∃ (kv:List aJ×D) (b:Mg) (x:V),kvs[j]?=some kv/\kk=Value.ref b/\kt X.K H1 b (kv.1.map kV)/\RD X.K H1 kv.2 x/\aI x vv) (I.ok.hd hc);rw[<- hln]at W;refine q' h2.objs.size [h2.objs.size] _ _ _ W ⟨⟨_,Mq _ rfl,rfl,rfl⟩,(pl.isList.at fun o e=>kp _ _ e).push _,fun j u hu=>?_⟩ (fun c o e=>Mn _ e) (fun b hb=>?_) fun i k v pv=>pv
   ·obtain⟨p,kk,vv,e,⟨o,m,g1,g2,g3⟩,pv⟩:=tps j u hu;exact⟨p,kk,vv,e,⟨o,m,Mn _ (kp _ _ g1),g2,g3⟩,pv⟩
   ·have e:=Os.mp hb;subst e;exact⟨I1.fpOk (le_of_lt hlt) (I1.hok.fresh (le_of_lt hlt)),Pa hlt⟩
 ·exact q1.elim
theorem FW{X:Cx}{a b:MJ}{ta:nR}{p1 p2 pos UF:Pos}(hu:X.A.units+8 < M5)(hc:X.calm=true)(hg1:Gl X "dict")(hm1:X.mg "dict"=none)(hg2:Gl X "zip")(hm2:X.mg "zip"=none)(ha:PA X [a,b] (fi X.K ta))
  (hs:Mu [a,b] X.env=[(false,eval a X.env),(false,eval b X.env)]:=by rfl) (hs2:Mu [b] X.env=[(false,eval b X.env)]:=by rfl):
  PE X (.Call (.Name "dict" p1) [.Call (.Name "zip" p2) [a,b] [] UF] [] pos) (aE X.K (Be (ai X.prog X.w) ta)):=by
 rintro pins s τ H Q I ⟨σ,G,Q3,rs,rg,h,k⟩
 refine QE (jc I hg1 hm1 wy (PyProof.Rows.callWith_type1 ?_ rfl rfl) (by decide) (by decide))
 show Mo _ _ (spliced [(false,eval (.Call (.Name "zip" p2) [a,b] [] UF) X.env)]) _ _ _
 refine NO (QE (jc I hg2 hm2 zZ (PyProof.Rows.callWith_type1 (cI (ha UF pins s τ H (fun vs H1=>∃ ds G1,(match ds with|[x,y]=>∃ a b,∃ kvs:List (List aJ×D),(gg x=some a/\gg y=some b/\nU a b=kvs.map y0/\kvs.length<=900000)/\∀ p,G1 p=none->Q3 (.ref p) (gset G1 p (.dT (ai X.prog X.w) (dictOf kvs)))|_=>False)/\Kp G H G1 H1/\RG X.K H1 G1/\RDs X.K H1 ds vs) I
  ⟨σ,G,_,rs,rg,h,fun ds G1 vs H1 q k1 rg1 rds=>⟨ds,G1,q,k1,rg1,rds⟩⟩) fun us s1 ⟨vs,H1,I1,r1,q1⟩=>?_) (by rw[hs,hs2]) (by rw[hs2];rfl)) (by decide) (by decide)))
 obtain⟨ds,G1,q,k1,rg1,rds⟩:=q1;split at q
 ·rename_i x y;obtain⟨as,bs,kvs,⟨ea,eb,ez,hz⟩,q⟩:=q;obtain⟨v,v',rfl,rd1,rd2⟩:=wH rds;obtain⟨u,u',rfl,ru1,ru2⟩:=r1.two;obtain⟨z1,rfl,t1,w1⟩:=Bo ea rd1 ru1;obtain⟨z2,rfl,t2,w2⟩:=Bo eb rd2 ru2;have n1:=t1.length;have n2:=t2.length;have hr1:=(w1 G1 G1 H1 rg1 Kp.refl).1;have hr2:=(w2 G1 G1 H1 rg1 Kp.refl).1;refine wx (Zk.of I1 hr1) (Zk.of I1 hr2) fun h' zs hsz kp=>On ?_;have I2:L2.Inv X pins τ H1 { s1 with heap:=h' }:=I1.kept (t':=s1.toks) kp
  have DZ:ZAp (s1.heap.objs.size+4) (s1.heap.objs.size+2) (s1.heap.objs.size+3) s1.heap.objs.size (s1.heap.objs.size+1):=⟨MO (Oj (s1.heap.objs.size+2)),MO (Oj s1.heap.objs.size)⟩;obtain⟨f0,f1,_,hzo⟩:=zs.1;have hlen:kvs.length=min z1.vs.length z2.vs.length:=by
   have:=kO as bs;rw[ez,Mm]at this;omega
  refine zQ (s1:={ s1 with heap:=h' }) (T:="zip") (kvs:=kvs) hu I2 rg1 hz ⟨_,hzo,rfl⟩ (by decide) (fun s' Q' E' kp' q'=>zd (kp' _ _ hzo) (I.ok.hd hc) q') (fun h2 tk2 Q' E' kp2 hlt q'=>?_) fun s' H' I' hf kp' rg'=>⟨.ref h'.objs.size,H',I',rfl,k _ _ _ H' (q _ (rg1.free hf)) (k1.trans kp') rg' (.of iu)⟩
  have zs2:BZ z1 z2 (s1.heap.objs.size+4) (s1.heap.objs.size+2) (s1.heap.objs.size+3) s1.heap.objs.size (s1.heap.objs.size+1) 0 h2:=zs.keep fun b _ o e=>kp2 b o e;refine (sf (P:=X.prog) (w:=X.w) (K:=X.K) (tg:=.Name "" pos) z1 z2 _ _ _ _ _ DZ).self _ 0 { s1 with heap:=h2,toks:=tk2 } _ _ zs2 ?_
  have W:=Cf (prog:=X.prog) (w:=X.w) (A:=X.A.in1.in1) (k1:=z1) (k2:=z2) (I.ok.hd hc) DZ;rw[<- hlen]at W;refine q' _ _ _ _ _ W ⟨zs2,Zk.grow (Zk.of I1 hr1) fun c o e=>kp2 c o (kp c o e),Zk.grow (Zk.of I1 hr2) fun c o e=>kp2 c o (kp c o e)⟩ (fun _ _ e=>e) (fun c hc=>?_) fun i kk vv pv=>?_
  ·have hc':s1.heap.objs.size<=c/\c≠s1.heap.objs.size+5:=by
    simp only[MV,MZ,or_false]at hc;rcases hc with rfl|rfl|rfl|rfl|rfl
    ·exact⟨Nat.le_add_right _ _,MO (Nat.add_lt_add_left (by decide) _)⟩
    ·exact⟨Nat.le_add_right _ _,MO (Nat.add_lt_add_left (by decide) _)⟩
    ·exact⟨Nat.le_add_right _ _,MO (Nat.add_lt_add_left (by decide) _)⟩
    ·exact⟨le_refl _,MO (Nat.lt_add_of_pos_right (by decide))⟩
    ·exact⟨Nat.le_add_right _ _,MO (Nat.add_lt_add_left (by decide) _)⟩
   refine⟨I1.fpOk hc'.1 (I1.hok.fresh hc'.1),?_⟩;show c≠h'.objs.size
   rw[hsz];exact hc'.2
  ·obtain⟨u,x,e1,e2,ru,rx⟩:=pv;obtain⟨d1,g1,r1⟩:=RDs.getV t1 e1;obtain⟨d2,g2,r2⟩:=RDs.getV t2 e2;have e3:=r9 g1 g2;rw[ez,MH]at e3;cases hkv:kvs[i]? with
   | none=>rw[hkv]at e3;cases e3
   | some kv=>
    rw[hkv]at e3;simp only[Option.map_some,Option.some.injEq,y0,D.tup.injEq,List.cons.injEq,and_true]at e3;obtain⟨rfl,rfl⟩:=e3;obtain⟨b,rfl,sb⟩:=Hb r1;cases ru;exact⟨kv,b,x,rfl,rfl,sb,r2,rx⟩
 ·exact q.elim
def Eu(kv:List aJ×D):D:=.tup (kv.1.map kD)
def DA(te:bR)(g:uF)(tb:cj):cj:=fun E σ G=>te σ G fun d G1=>match d with
 | .ref a=>∃ hw kvs,G1 a=some (.dT hw kvs)/\ForIn g tb { nx:=fun σ' G'=>E.nx σ' (gset G' a (.dT hw kvs)),rt:=fun _ _=>False } σ (kvs.map Eu) (gC G1 a)
 | _=>False
theorem CI{prog:Mw}{w:ME}{A:MA}{E:Mh->Mi->Prop}{s:Mi}{d:Mg}{vs:List Mh}{ep:Nat}{Q:Mh->Mi->Prop}(hd:(d == M9)=false)(x:uB s.heap d vs ep)
  (q:Q (.ref s.heap.objs.size) { s with heap:=s.heap.push { cls:=.type "dict_keyiterator",data:=.fields #[.ref d,.int 0 0,.int vs.length 0,.int ep 0] } }):Mo (Mt prog w) A (OD (.ref d)) Q E s:=by
 obtain⟨o,es,ho,hc,hdat,rfl⟩:=id x;refine Pw x.ty PySem.F.slot_dict_iter (Ni PySem.F.slot_dict_iter x.ty PySem.F.entry_dict_iter ?_ (PySem.F.args_dict_iter_1 _));unfold Builtin.«dict.__iter__»;refine Mf ?_;unfold Builtin.Dict.dictSlotNone;refine Mf (O4 x.ty ?_);show Mo _ _ (pure (Value.ref d)) _ _ s;refine Ml ?_
 show Mo _ _ (Op d >>= _) _ _ s;unfold Op;rw[if_neg (by rw[hd];exact Bool.false_ne_true)]
 refine Mf (Ml ?_);refine Mf (NT ho hdat ?_);refine Mf (N9 ho hdat ?_);refine Mf (MX (Ml ⟨_,rfl,"dict_keyiterator",_,⟨_,Mq _ rfl,rfl⟩,PySem.F.slot_dict_keyiterator_next.lookup,?_⟩))
 simpa[N0]using q
theorem Ay{K:PySem.W.Frag}{H:Hp}:∀ ks:List aJ,RDs K H (ks.map kD) (ks.map kV)
 | []=>RDs.nil
 | .inl i::r=>RDs.cons dw (Ay r)
 | .inr x::r=>RDs.cons lC (Ay r)
theorem pD.at{K:PySem.W.Frag}{H:Hp}{kvs:List (List aJ×D)}{xs:List (List aJ×Mg×Mh)}(r:pD K H kvs xs):∀ {i:Nat} {kv:List aJ×D},kvs[i]?=some kv->∃ x,xs[i]?=some x/\RD K H (Eu kv) (.ref x.2.1):=by
 unfold pD at r
 induction r with
 | nil=>intro i kv h;simp at h
 | @cons p q ps qs hq t ih=>
  intro i kv h;cases i with
  | zero=>
   simp only[M_,Option.some.injEq]at h;subst h;refine⟨q,rfl,?_⟩;unfold Eu;simp only[RD];exact⟨q.2.1,_,rfl,hq.2.1,Ay _⟩
  | succ i=>
   simp only[M4]at h ⊢;exact ih h
abbrev EX(a:Mg)(o:Obj):HO:=.ext fun h=>h.get? a=some o
theorem Ke{P:Mw}{w:ME}{H:Hp}{h:MG}{a:Mg}{o:Obj}(e:h.get? a=some o):cg P w H h a (EX a o):=⟨e,⟨o,e⟩,fun _ _ q k=>k o q⟩
theorem HG{X:Cx}{tg iter:MJ}{body:List ML}{te:bR}{g:uF}{tb:cj}{pos:Pos}(hp:Pj (Mt X.prog X.w) X.A X.env X.xe)(hc:X.calm=true)(hi:PE X iter (aE X.K te))(hg:PG X tg (jm X.K g))(hb:pE X body (cm X.K tb))
  (hs:∀ x,Nh iter X.env x=pure x:=by intro _;rfl):PS X (.For tg iter body [] pos) (cm X.K (DA te g tb)):=by
 rintro pins s τ H Dd I ⟨σ,G,D3,rs,rg,h,k⟩
 refine wpAny_For (cI (eA hi I rs rg h) fun v s1 ⟨ox,H1,I1,rox,d,G1,q1,k1,rg1,rd1⟩=>?_) hs;cases d with
 | ref a=>
  obtain⟨hw,kvs,hga,Pv,p0,step,fin⟩:=q1;simp only[val,RD]at rd1;subst rd1;cases rox;obtain⟨hob,eo,ro⟩:=rg1 a _ hga;cases hob with
  | ext φ=>
   obtain⟨xs,rfl,rt,nd,len⟩:=ro;obtain⟨hsm,o1,es,ep,g1,g2,g3,g4⟩:=(show cg X.prog X.w H1 s1.heap a (.ext (yw hw a xs))from I1.hok a _ eo).1
   have raw:∀ {h:MG},h.get? a=some o1->uB h a (xs.map fun x=>Value.ref x.2.1) ep:=fun e=>⟨o1,es,e,g2,g3,by rw[g4,MY];rfl⟩
   have lx:=rt.length;refine CI hsm (raw g1) ?_;have hita:a≠s1.heap.objs.size:=MO (Mx g1);have kpA:Kp G1 H1 (gC G1 a) (bE H1 a (EX a o1)):=fun b u e n=>by
    have hb:b≠a:=fun z=>by subst z;rw[hga]at n;cases n
    exact⟨by rw[aA hb];exact e,by rw[eV hb];exact n⟩
   have rg2:RG X.K (bE H1 a (EX a o1)) (gC G1 a):=fun b u e=>by
    have hb:b≠a:=fun z=>by subst z;rw[eU]at e;cases e
    rw[eV hb]at e;obtain⟨ho,e1,r1⟩:=rg1 b u e;exact⟨ho,by rw[aA hb];exact e1,r1.mono (kpA.stb rg1)⟩
   have I1':L2.Inv X pins τ (bE H1 a (EX a o1)) { s1 with heap:=s1.heap,toks:=s1.toks }:=I1.write (x:=a) (e:=a) (by rw[eo];exact True.intro) (.inl rfl) (fun _ _ _ q=>q) ⟨o1,g1⟩ (Ke g1)
   have I2:L2.Inv X pins τ (bE H1 a (EX a o1)) { s1 with heap:=s1.heap.push { cls:=.type "dict_keyiterator",data:=.fields #[.ref a,.int 0 0,.int (xs.map fun x=>Value.ref x.2.1).length 0,.int ep 0] } }:=I1'.kept (t':=s1.toks) fun _ _ q=>Mn _ q
   have fit:pB X pins (bE H1 a (EX a o1)) s1.heap.objs.size:=I1.fpOk (le_refl _) (by rw[aA hita.symm];exact I1.hok.fresh (le_refl _))
   have back:∀ {τ':St} {H':Hp} {G':Gp} {σ':fH} {s':Mi},L2.Inv X pins τ' H' s'->Kp (gC G1 a) (bE H1 a (EX a o1)) G' H'->RS X.K H' σ' τ'->RG X.K H' G'->D3.nx σ' (gset G' a (.dT hw kvs))->∃ τ'' H'',L2.Inv X pins τ'' H'' s'/\Dd.nx τ'' H'':=fun {τ' H' G' σ' s'} I' kk rs' rg' q=>by
    obtain⟨e1,e2⟩:=kk a _ aZ eU;have e3:s'.heap.get? a=some o1:=(show cg X.prog X.w H' s'.heap a (EX a o1)from I'.hok a _ e1).1
    have I'':L2.Inv X pins τ' (bE H' a (.ext (yw hw a xs))) { s' with heap:=s'.heap,toks:=s'.toks }:=I'.write (x:=a) (e:=a) (by rw[e1];exact True.intro) (.inl rfl) (fun _ _ _ q=>q) ⟨o1,e3⟩ (qF ⟨hsm,o1,es,ep,e3,g2,g3,g4⟩)
    have st1:=(kpA.stb rg1);have st2:=(kk.stb rg2);have st3:Stb X.K H' (bE H' a (.ext (yw hw a xs))):=⟨fun b ys y=>by
     rcases y with (y|⟨o',y⟩)|y
     ·exact .inl (.inl (by rw[aA (fun z=>by rw[z,e1]at y;cases y)];exact y))
     ·exact .inl (.inr ⟨o',by rw[aA (fun z=>by rw[z,e1]at y;cases y)];exact y⟩)
     ·exact .inr y,fun b ys y=>by
     rcases y with ⟨o',y⟩|y
     ·exact .inl ⟨o',by rw[aA (fun z=>by rw[z,e1]at y;cases y)];exact y⟩
     ·exact .inr y⟩
    have rg3:RG X.K (bE H' a (.ext (yw hw a xs))) (gset G' a (.dT hw kvs)):=fun b u e=>by
     by_cases hb:b=a
     ·subst hb;rw[az]at e;cases e;exact⟨_,aZ,xs,rfl,((rt.mono st1).mono st2).mono st3,nd,len⟩
     ·rw[ao hb]at e;obtain⟨ho,e4,r4⟩:=rg' b u e;exact⟨ho,by rw[aA hb];exact e4,r4.mono st3⟩
    have kpC:Kp G H (gset G' a (.dT hw kvs)) (bE H' a (.ext (yw hw a xs))):=fun b u e n=>by
     obtain⟨e4,n4⟩:=k1 b u e n;have hb:b≠a:=fun z=>by subst z;rw[hga]at n4;cases n4
     obtain⟨e5,n5⟩:=kk b u (by rw[aA hb];exact e4) (by rw[eV hb];exact n4)
     exact⟨by rw[aA hb];exact e5,by rw[ao hb];exact n5⟩
    exact⟨τ',_,I'',k.nx σ' _ τ' _ q kpC rg3 (rs'.mono st3)⟩
   refine QG (fun n s'=>∃ i σ' τ' G' H',L2.Inv X pins τ' H' s'/\s'.heap.IsKeyIter s1.heap.objs.size a i (xs.map fun x=>Value.ref x.2.1).length ep/\H' s1.heap.objs.size=none/\RS X.K H' σ' τ'/\RG X.K H' G'/\Pv i σ' G'/\Kp (gC G1 a) (bE H1 a (EX a o1)) G' H'/\i<=kvs.length/\n=kvs.length - i) ?_ kvs.length
    ⟨0,σ,τ,gC G1 a,_,I2,⟨_,Mq _ rfl,rfl,rfl⟩,fit.1,rs.mono ((k1.trans kpA).stb rg),rg2,p0,Kp.refl,M6 _,rfl⟩
   rintro n s3 ⟨i,σ3,τ3,G3,H3,I3,ki,fr3,rs3,rg3,pv,kk,hil,rfl⟩
   obtain⟨e1,e2⟩:=kk a _ aZ eU;have e3:s3.heap.get? a=some o1:=(show cg X.prog X.w H3 s3.heap a (EX a o1)from I3.hok a _ e1).1
   by_cases hlt:i < kvs.length
   ·obtain⟨x,hx,rd⟩:=((rt.mono (kpA.stb rg1)).mono (kk.stb rg2)).at (Ms hlt);refine Nb hp (DM ki (raw e3) (v:=.ref x.2.1) (by rw[MH,hx];rfl) fun h4 ki4 sb=>?_)
    have I4:L2.Inv X pins τ3 H3 { s3 with heap:=h4,toks:=s3.toks }:=I3.turned (fun b o hb e=>(sb.2 b hb).trans e) fr3 fit.2.1 fit.2.2.2.1 fit.2.2.2.2.1 fit.2.2.2.2.2
    obtain⟨oi,ei,ci,di⟩:=id ki4;refine Nb hp (zK (s:={ s3 with heap:=h4 }) ei ci di (by decide) ?_)
    have I4':=I4.pinned (fp:=[s1.heap.objs.size]) (fun b hb=>by rw[Os.mp hb];exact⟨fr3,fit.2⟩) fun b hb=>by rw[Os.mp hb];exact⟨oi,ei,fun v z=>by rw[di]at z;cases z⟩
    refine Nb hp (cI (hg _ _ τ3 H3 (.ref x.2.1) (.ref x.2.1) (fun τ2 H2=>cm X.K tb { nx:=fun τ' H'=>∃ σ' G',RS X.K H' σ' τ'/\RG X.K H' G'/\Pv (i+1) σ' G'/\Kp (gC G1 a) (bE H1 a (EX a o1)) G' H',ct:=fun τ' H'=>∃ σ' G',RS X.K H' σ' τ'/\RG X.K H' G'/\Pv (i+1) σ' G'/\Kp (gC G1 a) (bE H1 a (EX a o1)) G' H',bk:=fun τ' H'=>∃ σ' G',RS X.K H' σ' τ'/\RG X.K H' G'/\D3.nx σ' (gset G' a (.dT hw kvs))/\Kp (gC G1 a) (bE H1 a (EX a o1)) G' H',rt:=fun _ _=>False } τ2 H2) I4' rfl
     ⟨Eu kvs[i],σ3,G3,_,rd,rs3,rg3,step i _ σ3 G3 (by rw[MH,Ms hlt];rfl) pv,fun σ5 G5 τ5 H5 q5 k5 rg5 rs5=>⟨σ5,G5,_,rs5,rg5,q5,⟨fun σ6 G6 τ6 H6 q6 k6 rg6 rs6=>⟨σ6,G6,rs6,rg6,q6,kk.trans (k5.trans k6)⟩,fun _ _ _ _ q _ _ _=>q.elim,fun σ6 G6 τ6 H6 q6 k6 rg6 rs6=>⟨σ6,G6,rs6,rg6,q6,kk.trans (k5.trans k6)⟩,fun σ6 G6 τ6 H6 q6 k6 rg6 rs6=>⟨σ6,G6,rs6,rg6,q6,kk.trans (k5.trans k6)⟩⟩⟩⟩) fun _ s6 ⟨σ6,H6,I6,q6⟩=>?_)
    refine Nb hp (cI (hb _ s6 σ6 H6 _ I6 q6) fun f s7 q7=>?_);have again:∀ {τ7:St} {H7:Hp},L2.Inv X (pins ++ p7 [s1.heap.objs.size] h4) τ7 H7 s7->(∃ σ' G',RS X.K H7 σ' τ7/\RG X.K H7 G'/\Pv (i+1) σ' G'/\Kp (gC G1 a) (bE H1 a (EX a o1)) G' H7)->∃ m,m < kvs.length - i/\∃ i σ' τ' G' H',L2.Inv X pins τ' H' s7/\s7.heap.IsKeyIter s1.heap.objs.size a i (xs.map fun x=>Value.ref x.2.1).length ep/\H' s1.heap.objs.size=none/\RS X.K H' σ' τ'/\RG X.K H' G'/\Pv i σ' G'/\Kp (gC G1 a) (bE H1 a (EX a o1)) G' H'/\i<=kvs.length/\m=kvs.length - i:=fun {τ7 H7} I7 ⟨σ7,G7,rs7,rg7,pv7,k7⟩=>by
     have pin:=I7.pin (s1.heap.objs.size,oi) (MW _ (MW _ (i_ (by simp) ei)))
     exact⟨kvs.length - (i+1),by walk_at "o",i+1,σ7,τ7,G7,H7,I7.unpinned,⟨oi,pin.1,ci,di⟩,pin.2.1,rs7,rg7,pv7,k7,hlt,rfl⟩
    cases f with
    | next=>obtain⟨σ7,H7,I7,n7⟩:=q7;exact again I7 n7
    | cont=>obtain⟨σ7,H7,I7,n7⟩:=q7;exact again I7 n7
    | brk=>
     obtain⟨σ7,H7,I7,σ8,G8,rs8,rg8,q8,k8⟩:=q7;exact back I7.unpinned k8 rs8 rg8 q8
    | ret v=>obtain⟨x7,σ7,H7,I7,r7,q7⟩:=q7;exact q7.elim
   ·have ei:i=kvs.length:=by walk_at "o"
    subst ei;refine Nb hp (FA (I.ok.hd hc) ki (raw e3) (by rw[MH,NY (by walk_at "o")];rfl) fun h4 eb=>Ow ?_)
    have I4:L2.Inv X pins τ3 H3 { s3 with heap:=h4,toks:=s3.toks }:=I3.turned (fun b o hb e=>eb b o hb e) fr3 fit.2.1 fit.2.2.2.1 fit.2.2.2.2.1 fit.2.2.2.2.2
    exact back I4 kk rs3 rg3 (fin σ3 G3 (by rw[Mm];exact pv))
  | _=>exact ro.elim
 | _=>exact q1.elim
open HT PySem.SeqAt
def Kf(te:bR)(tl th ts:Jk):bR:=fun σ G Q=>te σ G fun x G1=>tl σ G1 fun l G2=>th σ G2 fun u G3=>ts σ G3 fun st G4=>match x with
 | .tup ds=>(l=none/\u=none/\st=some (-1))/\Q (.tup ds.reverse) G4
 | _=>False
def Gt(to:bR)(ta:nR):bR:=fun σ G Q=>to σ G fun x G1=>match x with
 | .tup ds=>ta σ G1 fun es G2=>match es with
  | [y]=>(pl 7 y/\(∀ d∈ds,pl 7 d)/\y∈ds)/\Q (.int (Ey y ds)) G2
  | _=>False
 | _=>False
def Fb(a:Mg)(k:Nat)(g:uF)(tt:pC)(te:bR)(σ:fH)(ds:List D)(G1:Gp)(Q:mT):Prop:=ds.length<=Mp/\∃ Pv:Nat->List D->Gp->Prop,Pv 0 [] G1/\(∀ i acc G',Pv i acc G'->G' a=some (.lst ds))/\
 (∀ (i:Nat) d acc G',ds[i]?=some d->Pv i acc G'->g d (List.replicate k none ++ σ) G' fun σ2 G2=>(k<=σ2.length/\σ2.drop k=σ)/\tt σ2 G2 fun b G3=>if b=true then te σ2 G3 fun y G4=>Pv (i+1) (acc ++ [val y]) G4 else Pv (i+1) acc G3)/\
 ∀ acc G',Pv ds.length acc G'->Q (.fl acc) G'
def lU(k:Nat)(tl:bR)(g:uF)(tt:pC)(te:bR):bR:=fun σ G Q=>tl σ G fun d G1=>match d with
 | .ref a=>∃ ds,G1 a=some (.lst ds)/\Fb a k g tt te σ ds G1 Q
 | d=>match fA d with
  | some ds=>yt k g tt te σ ds G1 Q
  | none=>False
section
variable{X:Cx}{elt tg iter:MJ}{ifs:List MJ}{scope:Oo}{T M:List Str}{pos:Pos}{tl:bR}{g:uF}{tt:pC}{te:bR}
theorem jE{K:PySem.W.Frag}{τ:St}{σ:fH}{G G1:Gp}{H H1:Hp}{Q:VK}{Q3:mT}{ds:List D}{J:It}{Pv:Nat->List D->Gp->Prop}(rs:RS K H σ τ)(rg:RG K H G)(k:∀ d G' v H',Q3 d G'->Kp G H G' H'->RG K H' G'->RE K G H G' H' d v->Q v H')(k1:Kp G H G1 H1)(rg1:RG K H1 G1)
  (p0:Pv 0 [] G1) (it:∀ i acc G' H',Pv i acc G'->Kp G1 H1 G' H'->RG K H' G'->(i < ds.length->J.go i H'/\∀ x H2,J.yld i H' x H2->Kp G' H' G' H2/\RG K H2 G'/\∃ d,ds[i]?=some d/\RD K H2 d x)/\(i=ds.length->J.stop i H'))
  (step:∀ (i:Nat) d acc G',ds[i]?=some d->Pv i acc G'->g d (List.replicate T.length none ++ σ) G' fun σ2 G2=>(T.length<=σ2.length/\σ2.drop T.length=σ)/\tt σ2 G2 fun b G3=>if b=true then te σ2 G3 fun y G4=>Pv (i+1) (acc ++ [val y]) G4 else Pv (i+1) acc G3)
  (fin:∀ acc G',Pv ds.length acc G'->Q3 (.fl acc) G') (hsz:ds.length<=Mp):
  ∀ Da,H1 Da=none->∃ W:Nat->Nat->List V->St->Hp->Prop,(∃ m,W 0 m [] (ent T τ) (bE H1 Da (.lst [])))/\
   ∀ i m ys σ1 H2,W i m ys σ1 H2->H2 Da=some (.lst ys)/\((J.stop i H2/\Q (.ref Da) H2)\/(J.go i H2/\∃ N:List V->St->Hp->Prop,(∀ ys' σ' H',N ys' σ' H'->∃ m',m' < m/\W (i+1) m' ys' σ' H')/\
    ∀ x H',J.yld i H2 x H'->jm K g x σ1 H' fun σ2 H3=>cS K tt σ2 H3 fun b H4=>if b=true then wg K te σ2 H4 fun y H5=>H5 Da=some (.lst ys)/\ys.length < Mp/\N (ys ++ [y]) σ2 (bE H5 Da (.lst (ys ++ [y])))else N ys σ2 H4)):=by
 intro Da hD;have kD:Kp G1 H1 G1 (bE H1 Da (.lst [])):=Kp.laid hD;have rgD:RG K (bE H1 Da (.lst [])) G1:=rg1.laid hD;have gD:G1 Da=none:=rg1.free hD;refine⟨fun i m ys τ2 H2=>m=ds.length - i/\i<=ds.length/\∃ acc G2,H2 Da=some (.lst ys)/\G2 Da=none/\RG K H2 G2/\RS K H2 (List.replicate T.length none ++ σ) τ2/\RDs K H2 acc ys/\acc.length<=i/\Pv i acc G2/\(∀ a h,a≠Da->H1 a=some h->G1 a=none->H2 a=some h/\G2 a=none),
  ⟨ds.length,rfl,M6 _,[],G1,aZ,gD,rgD,DE T (rs.mono ((k1.trans kD).stb rg)),RDs.nil,le_refl _,p0,fun a h ha e n=>⟨by rw[aA ha];exact e,n⟩⟩,?_⟩
 rintro i m ys τ2 H2 ⟨rfl,hi',acc,G2,eD,nD,rg2,rs2,ra,la,pv,k2⟩
 have k2':Kp G1 H1 G2 H2:=fun a h e n=>k2 a h (b7 e hD) e n;refine⟨eD,?_⟩;obtain⟨hgo,hstop⟩:=it i acc G2 H2 pv k2' rg2
 by_cases hlt:i < ds.length
 ·obtain⟨go,yld⟩:=hgo hlt;refine .inr ⟨go,fun ys' τ' H'=>∃ acc G',H' Da=some (.lst ys')/\G' Da=none/\RG K H' G'/\RS K H' (List.replicate T.length none ++ σ) τ'/\RDs K H' acc ys'/\acc.length<=i+1/\Pv (i+1) acc G'/\(∀ a h,a≠Da->H1 a=some h->G1 a=none->H' a=some h/\G' a=none),
   fun ys' τ' H' q'=>⟨ds.length - (i+1),by walk_at "o",rfl,hlt,q'⟩,fun x H3 y=>?_⟩
  obtain⟨ky,rgy,d,hd,rd⟩:=yld x H3 y;refine⟨d,List.replicate T.length none ++ σ,G2,_,rd,rs2.mono (ky.stb rg2),rgy,step i d acc G2 hd pv,fun σ4 G4 τ4 H4 q4 k4 rg4 rs4=>?_⟩;obtain⟨⟨hlen,hdrop⟩,q4⟩:=q4;have rs4':RS K H4 (List.replicate T.length none ++ σ) τ4:=by
   have:=pW T.length hlen rs4;rw[hdrop]at this;exact this
  refine⟨σ4,G4,_,rs4,rg4,q4,fun b G5 H5 q5 k5 rg5=>?_⟩;have e3:H3 Da=some (.lst ys):=(ky Da _ eD nD).1;have e4:=k4 Da _ e3 nD;have e5:=k5 Da _ e4.1 e4.2;have kk:∀ {G6:Gp} {H6:Hp},Kp G5 H5 G6 H6->∀ a h,a≠Da->H1 a=some h->G1 a=none->H6 a=some h/\G6 a=none:=fun k6 a h ha e n=>((((Kp.trans k2' ky).trans k4).trans k5).trans k6) a h e n;cases b with
  | false=>
   refine iteF ⟨acc,G5,e5.1,e5.2,rg5,rs4'.mono (k5.stb rg4),RDs.mono (((ky.trans k4).trans k5).stb rg2) _ _ ra,by walk_at "o",q5,kk Kp.refl⟩
  | true=>
   refine iteT ⟨σ4,G5,_,rs4.mono (k5.stb rg4),rg5,q5,fun yv G6 v H6 q6 k6 rg6 rd6=>?_⟩;have e6:=k6 Da _ e5.1 e5.2;have la':=ra.length;have st:Stb K H6 (bE H6 Da (.lst (ys ++ [v]))):=by
    constructor
    ·intro a zs q;rcases q with (q|⟨o,q⟩)|q
     ·exact .inl (.inl (by rw[aA (fun z=>by subst z;rw[e6.1]at q;cases q)];exact q))
     ·exact .inl (.inr ⟨o,by rw[aA (fun z=>by subst z;rw[e6.1]at q;cases q)];exact q⟩)
     ·exact .inr q
    ·intro a zs q;rcases q with ⟨o,q⟩|q
     ·exact .inl ⟨o,by rw[aA (fun z=>by subst z;rw[e6.1]at q;cases q)];exact q⟩
     ·exact .inr q
   refine⟨e6.1,by walk_at "o",acc ++ [val yv],G6,aZ,e6.2,fun a o q=>?_,(rs4'.mono ((k5.trans k6).stb rg4)).mono st,?_,by simp;omega,q6,fun a h ha e n=>?_⟩
   ·obtain⟨h',q1,q2⟩:=rg6 a o q;exact⟨h',by rw[aA (fun z=>by subst z;rw[e6.2]at q;cases q)];exact q1,q2.mono st⟩
   ·exact RDs.append (RDs.mono st _ _ (RDs.mono ((((ky.trans k4).trans k5).trans k6).stb rg2) _ _ ra)) (RDs.cons (RD.mono st _ _ rd6) RDs.nil)
   ·rw[aA ha];exact kk k6 a h ha e n
 ·have e:i=ds.length:=by walk_at "o"
  refine .inl ⟨hstop e,k _ G2 _ H2 (fin acc G2 (by rw[<- e];exact pv)) (k1.trans k2') rg2 (.inl ⟨acc,Da,ys,rfl,rfl,eD,nD,ra,?_⟩)⟩
  exact k1.fr (rZ hD)
def Ka(K:PySem.W.Frag)(te:bR):TI:=fun τ H R=>∃ σ G Q3,RS K H σ τ/\RG K H G/\te σ G Q3/\∀ d G1 H1,Q3 d G1->Kp G H G1 H1->RG K H1 G1->match d with
  | .ref a=>(∃ ds,G1 a=some (.lst ds))/\R (KN K a) H1
  | d=>∃ ds,fA d=some ds/\∀ J,vX K G1 H1 ds J->R J H1
theorem Bz{e:MJ}{te:bR}(h:PE X e (aE X.K te)):PI X tg e (Ka X.K te):=By h
theorem uu{K:PySem.W.Frag}{τ:St}{H:Hp}{Q:VK}(h:aE K (lU T.length tl g tt te) τ H Q):Bp (ent T) (Ka K tl) (jm K g) (cS K tt) (wg K te) τ H Q:=by
 obtain⟨σ,G,Q3,rs,rg,h,k⟩:=h;refine⟨σ,G,_,rs,rg,h,fun d G1 H1 q k1 rg1=>?_⟩;cases d with
 | ref a=>
  obtain⟨ds,hg,hsz,Pv,p0,live,step,fin⟩:=q;refine⟨⟨ds,hg⟩,jE rs rg k k1 rg1 p0 (fun i acc G' H' pv k' rg'=>?_) step fin hsz⟩;obtain⟨xs,e1,r⟩:=tL rg' (live i acc G' pv);have hl:=r.length;refine⟨fun hi=>⟨⟨xs,xs[i]'(by walk_at "o"),jw.of e1,by simp[show i < xs.length by walk_at "o"]⟩,fun x H2 y=>?_⟩,fun e=>⟨xs,jw.of e1,by walk_at "o"⟩⟩
  obtain⟨rfl,hx⟩:=y;refine⟨Kp.refl,rg',ds[i],by simp[hi],?_⟩
  obtain⟨y,e,q⟩:=r.get (i:=i) (d:=ds[i]) (by simp[hi])
  rw[hx xs (jw.of e1)]at e;cases e;exact q
 | lst ds=>
  obtain⟨hsz,Pv,p0,step,fin⟩:=q;exact⟨_,rfl,fun J it=>jE rs rg k k1 rg1 p0 (fun i acc G' H' _ k' rg'=>it i G' H' k' rg') step fin hsz⟩
 | fl ds=>
  obtain⟨hsz,Pv,p0,step,fin⟩:=q;exact⟨_,rfl,fun J it=>jE rs rg k k1 rg1 p0 (fun i acc G' H' _ k' rg'=>it i G' H' k' rg') step fin hsz⟩
 | tup ds=>
  obtain⟨hsz,Pv,p0,step,fin⟩:=q;exact⟨_,rfl,fun J it=>jE rs rg k k1 rg1 p0 (fun i acc G' H' _ k' rg'=>it i G' H' k' rg') step fin hsz⟩
 | str z=>
  obtain⟨hsz,Pv,p0,step,fin⟩:=q;exact⟨_,rfl,fun J it=>jE rs rg k k1 rg1 p0 (fun i acc G' H' _ k' rg'=>it i G' H' k' rg') step fin hsz⟩
 | _=>exact q.elim
theorem xk(ok:CompOk X scope T M)
  (hin:∀ cl C s₀ H₀ fp,PG (bF X (T ++ M) scope cl C s₀ H₀ fp) tg (jm X.K g)/\E8 (bF X (T ++ M) scope cl C s₀ H₀ fp) ifs (cS X.K tt)/\PE (bF X (T ++ M) scope cl C s₀ H₀ fp) elt (aE X.K te))
  (hi:PE X iter (aE X.K tl)) (hs:∀ x,Nh iter X.env x=pure x:=by intro _;rfl):PE X (.ListComp elt [⟨tg,iter,ifs,0⟩] scope pos) (aE X.K (lU T.length tl g tt te)):=
 (BB ok (fun cl C s₀ H₀ fp=>let ⟨a,b,c⟩:=hin cl C s₀ H₀ fp;⟨a,b,dP c⟩) (Bz hi) hs).imp fun _ _ _ h=>uu h
theorem FC{i:Nat}{x:Str}{px spos:Pos}(ok:CompOk X scope T M)(hN:X.N.Nodup)(hix:X.N[i]?=some x)(hx:X.env.scope.names.lookup x=some .local)
  (hin:∀ cl C s₀ H₀ fp,PG (bF X (T ++ M) scope cl C s₀ H₀ fp) tg (jm X.K g)/\E8 (bF X (T ++ M) scope cl C s₀ H₀ fp) ifs (cS X.K tt)/\PE (bF X (T ++ M) scope cl C s₀ H₀ fp) elt (aE X.K te))
  (hi:PE X iter (aE X.K tl)) (hsw:NR (.ListComp elt [⟨tg,iter,ifs,0⟩] scope pos) (some (.Name x px)) spos.line X.env=pure true:=by rfl) (hs:∀ x,Nh iter X.env x=pure x:=by intro _;rfl):
  PS X (.Assign [.Name x px] (.ListComp elt [⟨tg,iter,ifs,0⟩] scope pos) spos) (cm X.K (bN i (lU T.length tl g tt te))):=
 (Bx ok hN hix hx (fun cl C s₀ H₀ fp=>let ⟨a,b,c⟩:=hin cl C s₀ H₀ fp;⟨a,b,dP c⟩) (Bz hi) hsw hs).imp fun D τ H zz=>by
  obtain⟨σ,G,D3,rs,rg,h,k⟩:=zz;refine uu (Q:=fun v H1=>D.nx (τ.set i (some v)) H1\/∃ p xs,v=.ref p/\H1 p=some (.lst xs)/\∀ o,D.nx (τ.set i (some v)) (bE H1 p (.frz o (.lst xs)))) ⟨σ,G,_,rs,rg,h,fun d G' v H' q k' rg' re=>?_⟩;cases d with
  | fl ds=>
   obtain⟨p,xs,rfl,e1,e2,e3,e4⟩:=re.fl;refine .inr ⟨p,xs,rfl,e1,fun o=>?_⟩;obtain⟨rg2,st⟩:=Ba (o:=o) rg' e1 e2;exact k.nx _ G' _ _ q (Bb (K:=X.K) k' e4) rg2 (((rs.mono (k'.stb rg)).mono st).set (p6 (.inl ⟨o,aZ⟩) (RDs.mono st _ _ e3)) i)
  | _=>exact .inl (k.nx _ G' _ H' q k' rg' ((rs.mono (k'.stb rg)).set (re.rd (by intro ds z;cases z)) i))
end
open PySem.W
abbrev IN(C t:Mg):Obj:={ cls:=.ref C,data:=.fields #[.ref t,.none,.none,.none,.bool false,.none] }
section
open Builtin Builtin.ObjectAttr
variable{prog:Mw}{w:ME}{A:MA}{K:Pu}{s:Mi}{x C:Mg}{o:Obj}{cd:ClassData}{name:Str}{v:Mh}
end
end L3
namespace L2
open PySem PySem.Spec PyProof.Rows
structure Noted(fs:List Mg)(x:Mg)(oe:Obj)(vs:Array Mh)(h h':MG):Prop where
 keep:∀ b o,b∉fs->b≠x->(∀ T,vs[1]?=some (.ref T)->b≠T)->h.get? b=some o->h'.get? b=some o
 slot:∀ b o,b∈fs->h.get? b=some o->∃ sl,h'.get? b=some { o with slots:=sl }
 there:∀ b o,h.get? b=some o->∃ o',h'.get? b=some o'
 exc:∃ T oT ts,h'.get? x=some (oe.mapFields (·.setIfInBounds 1 (.ref T)))/\h.objs.size<=T/\T≠x/\h'.get? T=some oT/\oT.data=.fields ts/\ts[3]?=some .none
def Mc(n:Nat)(H:Hp)(h:MG)(x C dx:Mg):Prop:=n<=x/\H x=none/\∃ oe vs,h.get? x=some oe/\oe.cls=.ref C/\oe.dict=some dx/\oe.data=.fields vs/\
 (vs[1]?=some .none\/∃ T oT ts,vs[1]?=some (.ref T)/\T≠x/\n<=T/\H T=none/\h.get? T=some oT/\oT.data=.fields ts/\ts[3]?=some .none)
def KZ(P:Mw)(w:ME):B2:=fun outer H s E e s'=>∃ x C dx H',e=.ref x/\s'.os=s.os/\OO s'.gens/\Un (C_ outer) [] H H' s.heap s'.heap/\mr P w H' s'.heap/\Mc s.heap.objs.size H' s'.heap x C dx/\s.heap.get? dx=none/\E (.ref C) (some dx) H'
open L3
def Jx:List Mh:=[.type "ValueError",.type "Exception",.type "BaseException",.type "object"]
structure XMk(K:PySem.W.Frag)(C f:Mg)(a:Str):Prop where
 obj:∃ nm q N bs bm hdct sn sub ab col dd k0 k1 k2 k3 k5,K.lookup C=some (excClassObj nm q C N bs bm hdct sn sub ab col dd k0 k1 k2 k3 k5 "ValueError.__new__")/\PySem.W.tailIn K Jx bm=true/\bm.contains (.type "BaseException")=true
 init:PySem.W.findIn K (.ref C) "__init__"=some (some (.ref f))
 fn:typeIn K (.ref f)=some (.type "function")
 kp:PySem.W.keepIn K (.ref C)=true
 sa:PySem.W.findIn K (.ref C) "__setattr__"=some (some (.builtin "object.__setattr__"))
 cls:∃ cd,PySem.W.clsIn K C=some cd/\cd.hasDict=true/\(∀ x,PySem.refuseLoop (.ref x) "__setattr__" cd.mro=pure ())/\cd.mro.contains (.type "object")=true/\cd.mro.isEmpty=false
 tk:Qk K C a=some none
abbrev Gq(C t dx:Mg):Obj:={ cls:=.ref C,dict:=some dx,data:=.fields #[.ref t,.none,.none,.none,.bool false,.none] }
def A9(H:Hp)(a:Mg):Hp:=fun b=>if b=a then none else H b
theorem CM{H:Hp}{a:Mg}:A9 H a a=none:=by unfold A9;rw[if_pos rfl]
theorem mf{H:Hp}{a b:Mg}(h:b≠a):A9 H a b=H b:=by unfold A9;rw[if_neg h]
section
variable{X:Cx}{pins:List (Mg×Obj)}{σ:St}{H:Hp}{s:Mi}
theorem Inv.drop{x:Mg}{φ:MG->Prop}(I:Inv X pins σ H s)(e:H x=some (.ext φ))(hn:X.s₀.heap.objs.size<=x):Inv X pins σ (A9 H x) s:=by
 have non:∀ b,H b=none->A9 H x b=none:=fun b q=>by unfold A9;split;rfl;exact q
 refine⟨I.ok,I.os,I.bare,⟨I.base.keep,I.base.slot,fun b o q n z=>non b (I.base.free b o q n z),I.base.there,fun b xs q=>?_,fun b o u q=>?_,fun b ps q=>?_⟩,I.loc,I.cell,non _ I.free,fun y c q=>non c (I.freeC y c q),fun p hp=>?_,fun b u q=>?_,I.len⟩
 ·have:=I.base.tups b xs q;rw[mf (fun z=>by rw[z,e]at this;cases this)];exact this
 ·have:=I.base.frzs b o u q;rw[mf (fun z=>by rw[z,e]at this;cases this)];exact this
 ·obtain⟨more,this⟩:=I.base.tbls b ps q;exact⟨more,by rw[mf (fun z=>by rw[z,e]at this;cases this)];exact this⟩
 ·obtain⟨a,b,c⟩:=I.pin p hp;exact⟨a,non _ b,c⟩
 ·have hb:b≠x:=fun z=>by rw[z,CM]at q;cases q
  rw[mf hb]at q;refine (I.hok b u q).stay (fun _ _ _ z=>z) (fun c z=>?_) fun c ys z=>?_
  ·rw[mf (fun y=>by rw[y,e]at z;cases z)];exact z
  ·rw[mf (fun y=>by rw[y,e]at z;cases z)];exact z
end
section
variable{X:Cx}{C f:Mg}{a:Str}
def Hx(C:Mg)(a:Str):Sp:=fun vs H Q _=>∃ x v t,vs=[.ref x,v]/\H x=some (XO x (IN C t))/\∀ dx,H dx=none->dx≠x->Q .non (bE (bE H dx (.xd [(a,v)])) x (XO x (Gq C t dx)))
end
open PySem.W
section
variable{prog:Mw}{w:ME}{A:MA}{E:Mh->Mi->Prop}{s:Mi}{K:Pu}{x C:Mg}{ox:Obj}{od:Option Obj}{name:Str}
structure XGet(K:Pu)(C:Mg):Prop where
 ga:Qn K (.ref C) "__getattribute__"=some (some (.builtin "BaseException.__getattribute__"))
 gt:Qn K (.ref C) "__getattr__"=some none
 be:mroIn K C (.type "BaseException")=some true
 hd:hasDictIn K C=true
end
structure XIs(C:Mg)(o:Obj)(dx:Mg)(od:Obj)(a:Str)(v:V):Prop where
 cls:o.cls=.ref C
 dict:o.dict=some dx
 data:∃ vs,o.data=.fields vs
 look:∃ u,lookIn a od=some (some u)/\aI v u
def Ends.un(i:Nat)(D:Ends):Ends:={ nx:=fun σ H=>D.nx (σ.set i none) H,rt:=D.rt,bk:=fun σ H=>D.bk (σ.set i none) H,ct:=fun σ H=>D.ct (σ.set i none) H }
end L2
namespace L3
open PySem PySem.Spec PyProof.Rows L2 PySem.W
abbrev XQ:=Mg->Str->D->Gp->Prop
def GM(K:Pu)(G:Gp)(H:Hp)(EQ:XQ)(E:XK):Prop:=∀ C a d G' v dx H',EQ C a d G'->Kp G H G' H'->RG K H' G'->G' dx=none->H' dx=some (.xd [(a,v)])->RD K H' d v->E (.ref C) (some dx) H'
theorem GM.base{K:Pu}{G G1:Gp}{H H1:Hp}{EQ:XQ}{E:XK}(f:GM K G H EQ E)(k:Kp G H G1 H1):GM K G1 H1 EQ E:=fun C a d G' v dx H' q k'=>f C a d G' v dx H' q (k.trans k')
abbrev LJ:=List D->Gp->mT->XQ->Prop
def BG(K:Pu)(sp:LJ):Sp:=fun vs H Q E=>∃ ds G Q3 EQ,RDs K H ds vs/\RG K H G/\sp ds G Q3 EQ/\uC K G H Q3 Q/\GM K G H EQ E
structure CtxW(X:Cx)(E:XK):Prop where
 st:X.stack=X.env::X.outer
 fr:X.env.frame=some X.env.locals
 ex:X.ex=[]
 calm:X.calm=true
 xe:X.xe=fun e s'=>Mo (Mt X.prog X.w) X.A (leaving X.env e) (fun _ s''=>KZ X.prog X.w X.outer X.H₀ X.s₀ E e s'') (fun e' s''=>KZ X.prog X.w X.outer X.H₀ X.s₀ E e' s'') s'
structure FnX(P:Mw)(w:ME)(K:Pu)(mg:Str->Option Mh)(base:MG)(k:Nat)(x:Str)(sp:LJ):Prop where
 ex:∃ f fd ps,FnOk P w K mg base (KZ P w) k f fd ps (BG K sp)/\mg x=some (.ref f)/\PM K (.ref f)=true/\eF K fd ps []
structure ErX(P:Mw)(w:ME)(K:Pu)(mg:Str->Option Mh)(base:MG)(k:Nat)(x:Str)(C:Mg)(a:Str):Prop where
 ex:∃ f fd ps,XMk K C f a/\mg x=some (.ref C)/\FnOk P w K mg base cU k f fd ps (Hx C a)/\eF K fd ps []
def Ends3.un(i:Nat)(D:Ends3):Ends3:={ nx:=fun σ G=>D.nx (σ.set i none) G,rt:=D.rt,bk:=fun σ G=>D.bk (σ.set i none) G,ct:=fun σ G=>D.ct (σ.set i none) G }
section
variable{X:Cx}
structure XAsk(K:Pu)(C:Mg)(a:Str):Prop where
 g:XGet K C
 ca:Qn K (.ref C) "__class__"=some (some (.builtin "object.__class__"))
 gs:specialIn K (.builtin "object.__class__") "__get__"=some (some (.builtin "getset_descriptor.__get__"))
 tk:takesIn K (.builtin "object.__class__")=some true
 mo:mroIn K C (.type "object")=some true
 fa:Qn K (.ref C) a=some none
end
structure MtX(P:Mw)(w:ME)(K:Pu)(mg:Str->Option Mh)(base:MG)(k:Nat)(C:Mg)(m:Str)(sp:LJ):Prop where
 cl:Cls K C
 ex:∃ f fd ps,FnOk P w K mg base (KZ P w) k f fd ps (BG K sp)/\Meth K C m f/\eF K fd ps []
def yd(te:bR):bR:=fun σ G Q=>te σ G fun d G1=>∃ ds,d=.fl ds/\∀ p,G1 p=none->Q (.ref p) (gset G1 p (.lst ds))
theorem Ec{X:Cx}{e:MJ}{te:bR}(he:PE X e (aE X.K te)):PE X e (aE X.K (yd te)):=
 he.imp fun τ H Q ⟨σ,G,Q3,rs,rg,h,k⟩=>⟨σ,G,_,rs,rg,h,fun d G' v H' q k' rg' re=>by
  obtain⟨ds,rfl,q⟩:=q;obtain⟨p,xs,rfl,e1,e2,e3,e4⟩:=re.fl;exact k (.ref p) _ _ H' (q p e2) (Ef k' e4) (Ee rg' e1 e3) (.of iu)⟩
open PySem.SeqAt
abbrev LK:List (Str×Int)->List (aJ×Mh)->Prop:=OG fun p q=>q.1=.inr p.1/\aI (.int p.2) q.2
theorem LK.get:∀ {ps:List (Str×Int)} {kvs:List (aJ×Mh)} {i:Nat} {p:Str×Int},LK ps kvs->ps[i]?=some p->∃ v,kvs[i]?=some (.inr p.1,v)/\aI (.int p.2) v
 | _,_,i,p,.nil,e=>by simp at e
 | _,_,0,p,.cons (b:=b) h t,e=>by
  cases e;exact⟨b.2,by rw[M_,<- h.1],h.2⟩
 | _,_,i+1,p,.cons h t,e=>by
  obtain⟨v,e1,e2⟩:=LK.get t (i:=i) e;exact⟨v,e1,e2⟩
structure ItS(X:Cx)(pins:List (Mg×Obj))(τ:St)(G:Gp)(H0:Hp)(S:Mg)(ps:List (Str×Int))(i:Nat)(H:Hp)(s:Mi)(acc:Array Mh)(c:Nat)(vs:List V):Prop where
 inv:L2.Inv X pins τ H s
 kp:Kp G H0 G H
 rg:RG X.K H G
 fs:pB X pins H S
 ls:s.heap.get? S=some { cls:=.type "list",dict:=none,data:=.seq acc c,slots:=#[] }
 rd:RDs X.K H ((ps.take i).map L5) vs
 wv:Vals vs acc.toList
def Lo:R3:=fun x y G Q=>∃ ds:List D,(rU G x=some ds/\rU G y=some ds/\∀ d∈ds,pl 7 d)/\Q (.bl true) G
def F4:R3:=fun x y G Q=>∃ ds:List D,(rU G x=some ds/\rU G y=some ds/\∀ d∈ds,pl 7 d)/\Q (.bl false) G
section
variable{X:Cx}{pins:List (Mg×Obj)}{σ:St}{H:Hp}{s:Mi}{G:Gp}{x y:D}{v u:V}{v' u':Mh}{ds:List D}
theorem Ar(hu:X.A.units+8 < M5)(I:L2.Inv X pins σ H s)(rg:RG X.K H G)(rv:aI v v')(ru:aI u u')(rx:RD X.K H x v)(ry:RD X.K H y u)(e1:rU G x=some ds)(e2:rU G y=some ds)(hp:∀ d∈ds,pl 7 d):
  RcAt X.A s v' u' true/\RcNeAt X.A s v' u' false:=by
 obtain⟨a,xs,rfl,s1,r1⟩:=kh (G:=G) (H:=H) e1 (.of rx) rg;obtain⟨b,ys,rfl,s2,r2⟩:=kh (G:=G) (H:=H) e2 (.of ry) rg;cases rv;cases ru;obtain⟨its,w1,t1,z1⟩:=I.list s1;obtain⟨its2,w2,t2,z2⟩:=I.list s2;have l1:=w1.length;have l1':=r1.length;have l2:=w2.length;have l2':=r2.length;have he:∀ j (h1:j < its.toArray.size) (h2:j < its2.toArray.size),EqAt X.A.in1 s its.toArray[j] its2.toArray[j] ((fun _=>true) j):=by
  intro j h1 h2;obtain⟨x1,e1,q1⟩:=Vals.getV (i:=j) (u:=its.toArray[j]) w1 (by simp at h1;simp[h1])
  obtain⟨x2,e2,q2⟩:=Vals.getV (i:=j) (u:=its2.toArray[j]) w2 (by simp at h2;simp[h2])
  obtain⟨d1,f1,g1⟩:=RDs.getV r1 e1;obtain⟨d2,f2,g2⟩:=RDs.getV r2 e2;rw[f1]at f2;cases f2;have p:=hp _ (MC f1);have:=(ww (A:=X.A.in1) I 7 p p g1 g2 q1 q2 (by show X.A.units+1+7 < M5;omega)).eq
  rwa[bu]at this
 have rc:=RcAt.lists (A:=X.A) t1.isList t2.isList (by simp only[Mv];omega) (by walk_at "o") he
 have rn:=RcNeAt.lists (A:=X.A) t1.isList t2.isList (by simp only[Mv];omega) (by walk_at "o") he
 have ea:(List.range its.toArray.size).all (fun _=>true)=true:=by simp
 rw[ea]at rc rn;exact⟨rc,rn⟩
end
theorem GS{X:Cx}(hu:X.A.units+8 < M5):gG X (MT .NotEq) (l_ X.K F4):=by
 rintro pins s σ H v u v' u' Q I rv ru ⟨x,y,G,Q3,rx,ry,rg,⟨ds,⟨e1,e2,hp⟩,h⟩,k⟩
 exact (Ar hu I rg rv ru rx ry e1 e2 hp).2 X.prog X.w X.xe _ ⟨.bl false,H,I,rfl,k _ G _ H h Kp.refl rg (.of hV)⟩
structure FnM(K:Pu)(n q:Str)(st:ML)(dV:Mh)(f:Mg):Prop where
 ex:∃ (oc:Mh) (od an:Option Mg) (sl:Array (Option Mh)) (kV dc pm cd ct:Mh),K.lookup f=some ⟨oc,od,.func (fnOf n q (eX st) (dB st) (ak st) dV kV dc pm an cd ct),sl⟩/\Qp K cd q=true
structure FnG(K:Pu)(n:Str)(st:ML):Prop where
 ex:∃ f,nsIn K My n=some (some (.ref f))/\FnM K n n st .none f/\PM K (.ref f)=true
structure MtG(K:Pu)(C:Mg)(n q:Str)(st:ML):Prop where
 ex:∃ f,Meth K C n f/\FnM K n q st .none f
structure CfG(K:Pu)(C:Mg)(n q:Str)(st:ML):Prop where
 ex:∃ f,(specialIn K (.ref C) "__getattribute__"=some (some (.builtin "type.__getattribute__"))/\readsIn K C (.type "type")=true/\findCls K (.ref C) (.type "type") n=some (.val (.ref f))/\PM K (.ref f)=true)/\FnM K n q st .none f
structure MtD(K:Pu)(C:Mg)(n q:Str)(st:ML)(x:Str):Prop where
 ex:∃ f t,Meth K C n f/\FnM K n q st (.ref t) f/\∃ (oc:Mh) (od:Option Mg) (tk:Tok) (nt:Nat) (sl:Array (Option Mh)),K.lookup t=some ⟨oc,od,.seq #[.str x tk] nt,sl⟩
section
variable{K:Pu}{n q:Str}{st:ML}{f C t:Mg}{oc oc' dV kV dc pm cd ct:Mh}{od od' an:Option Mg}{sl sl':Array (Option Mh)}
theorem x_(l:K.lookup f=some ⟨oc,od,.func (fnOf n q (eX st) (dB st) (ak st) dV kV dc pm an cd ct),sl⟩)(c:Qp K cd q=true):FnM K n q st dV f:=⟨_,_,_,_,_,_,_,_,_,l,c⟩
theorem fnG_mk(a:nsIn K My n=some (some (.ref f)))(l:K.lookup f=some ⟨oc,od,.func (fnOf n n (eX st) (dB st) (ak st) .none kV dc pm an cd ct),sl⟩)(c:Qp K cd n=true)(k:PM K (.ref f)=true):FnG K n st:=⟨f,a,x_ l c,k⟩
theorem mtG_mk(a:Qn K (.ref C) n=some (some (.ref f)))(i:isFn K (.ref f)=true)(l:K.lookup f=some ⟨oc,od,.func (fnOf n q (eX st) (dB st) (ak st) .none kV dc pm an cd ct),sl⟩)(c:Qp K cd q=true)(k:PM K (.ref f)=true):MtG K C n q st:=⟨f,⟨a,i,k⟩,x_ l c⟩
theorem cfG_mk(g:specialIn K (.ref C) "__getattribute__"=some (some (.builtin "type.__getattribute__")))(r:readsIn K C (.type "type")=true)(a:findCls K (.ref C) (.type "type") n=some (.val (.ref f)))(l:K.lookup f=some ⟨oc,od,.func (fnOf n q (eX st) (dB st) (ak st) .none kV dc pm an cd ct),sl⟩)(c:Qp K cd q=true)(k:PM K (.ref f)=true):CfG K C n q st:=⟨f,⟨g,r,a,k⟩,x_ l c⟩
theorem mtD_mk{x:Str}{tk:Tok}{nt:Nat}(a:Qn K (.ref C) n=some (some (.ref f)))(i:isFn K (.ref f)=true)(l:K.lookup f=some ⟨oc,od,.func (fnOf n q (eX st) (dB st) (ak st) (.ref t) kV dc pm an cd ct),sl⟩)(c:Qp K cd q=true)(k:PM K (.ref f)=true)(d:K.lookup t=some ⟨oc',od',.seq #[.str x tk] nt,sl'⟩):MtD K C n q st x:=⟨f,t,⟨a,i,k⟩,x_ l c,_,_,_,_,_,d⟩
end
def KY(n q:Str)(st:ML)(ps:List Str):Prop:=∀ (kV dc pm:Mh) (an:Option Mg) (cd ct:Mh) (us:List Mh),us.length=ps.length->bindArgs (fnOf n q (eX st) (dB st) (ak st) .none kV dc pm an cd ct) ⟨us,[]⟩=pure (ps.zip us)
section
variable(P:Mw)(w:ME)(base:MG){K:Pu}{h:MG}{mg:Str->Option Mh}{k:Nat}{n q x:Str}{st:ML}{ps:List Str}{sp:cR}{C:Mg}
theorem mQ(X:K.In h)(G:h.Ns My mg)(H:FnG K n st)(ok:∀ {f fd},Fun3 K n n st f fd->FnOk P w K mg base cU k f fd ps (ax K sp))(b:KY n n st ps:=by walk_at "b"):Fn3 P w K mg base k n [] sp:=by
 obtain⟨f,a,⟨⟨_,_,_,_,_,_,_,_,_,l,c⟩⟩,kp⟩:=H.ex;exact⟨_,_,_,[],[],ok (mh l c),mg_of X G a,kp,.all (b _ _ _ _ _ _),.nil,fun _=>RDs.nil⟩
theorem l9(cl:Cls K C)(H:MtG K C n q st)(ok:∀ {f fd},Fun3 K n q st f fd->FnOk P w K mg base cU k f fd ps (ax K sp))(b:KY n q st ps:=by walk_at "b"):Mt3 P w K mg base k C n [] sp:=by
 obtain⟨f,a,⟨⟨_,_,_,_,_,_,_,_,_,l,c⟩⟩⟩:=H.ex;exact⟨cl,_,_,_,[],[],ok (mh l c),a,.all (b _ _ _ _ _ _),.nil,fun _=>RDs.nil⟩
theorem J9(X:K.In h)(G:h.Ns My mg)(ca:nsIn K My x=some (some (.ref C)))(m:makesIn K C=true)(kc:PM K (.ref C)=true)(H:MtG K C "__init__" q st)(ok:∀ {f fd},Fun3 K "__init__" q st f fd->FnOk P w K mg base cU k f fd ps (ax K sp))(b:KY "__init__" q st ps:=by walk_at "b"):Mk3 P w K mg base k x C [] sp:=by
 obtain⟨f,a,⟨⟨_,_,_,_,_,_,_,_,_,l,c⟩⟩⟩:=H.ex;exact⟨_,_,_,[],[],⟨m,a.at_,a.fn,kc⟩,mg_of X G ca,ok (mh l c),.all (b _ _ _ _ _ _),.nil,fun _=>RDs.nil⟩
theorem L_(X:K.In h)(G:h.Ns My mg)(ca:nsIn K My x=some (some (.ref C)))(H:CfG K C n q st)(ok:∀ {f fd},Fun3 K n q st f fd->FnOk P w K mg base cU k f fd ps (ax K sp))(b:KY n q st ps:=by walk_at "b"):Cf3 P w K mg base k x n [] sp:=by
 obtain⟨f,⟨g,r,a,kp⟩,⟨⟨_,_,_,_,_,_,_,_,_,l,c⟩⟩⟩:=H.ex;exact⟨C,_,_,_,[],[],ok (mh l c),mg_of X G ca,g,r,a,kp,.all (b _ _ _ _ _ _),.nil,fun _=>RDs.nil⟩
theorem Lp(cl:Cls K C)(H:MtD K C n q st x)(b:∀ {t kV dc pm an cd ct oc od tk nt sl},K.lookup t=some ⟨oc,od,.seq #[.str x tk] nt,sl⟩->eF K (fnOf n q (eX st) (dB st) (ak st) (.ref t) kV dc pm an cd ct) ps [])(ok:∀ {f fd},Fun3 K n q st f fd->FnOk P w K mg base cU k f fd ps (ax K sp)):Mt3 P w K mg base k C n [] sp:=by
 obtain⟨f,t,a,⟨⟨_,_,_,_,_,_,_,_,_,l,c⟩⟩,_,_,_,_,_,d⟩:=H.ex;exact⟨cl,_,_,_,[],[],ok (mh l c),a,b d,.nil,fun _=>RDs.nil⟩
end
section
variable{X:Cx}
def Ei:R3:=oI GN fun i j=>.int (i*2 ^ j.toNat)
theorem Df:gG X (Na .LShift) (cW X.K Ei):=Jw Ig fun _ _ _=>dw
def F3:R3:=oI (fun _ j=>0<=j) fun i j=>.int (i / 2 ^ j.toNat)
theorem GR:gG X (Na .RShift) (cW X.K F3):=Jw Ie fun _ _ _=>dw
def Is:R3:=F6 fun i j=>.int (Pf i j)
theorem Dg:gG X (Na .BitAnd) (cW X.K Is):=Fj Ik fun _ _ _=>dw
theorem GA{x:Int}(h:0<=x):Pf x 1=x % 2:=by
 have e:decide (0<=x)=true:=decide_eq_true h;have e1:decide ((0:Int)<=1)=true:=rfl;unfold Pf;rw[e,e1];show ((x.toNat &&& 1:Nat):Int)=x % 2
 rw[Nat.and_one_is_mod];omega
end
end L3
namespace RQ
open PySem PySem.Spec PyProof.Rows L2 L3
section
variable{α:Type}
def fC(l:List (Sl×α))(k:Sl):Option α:=(l.find? fun p=>decide (p.1=k)).map (·.2)
def mC(l:List (Sl×α))(k:Sl)(v:α):List (Sl×α):=if (l.any fun p=>decide (p.1=k))=true then l.map (fun p=>if p.1=k then (p.1,v)else p)else l ++ [(k,v)]
def cf(l m:List (Sl×α)):List (Sl×α):=m.foldl (fun a p=>mC a p.1 p.2) l
def ba(f:α->D)(l:List (Sl×α)):List (List aJ×D):=l.map fun p=>(p.1.key,f p.2)
theorem BY(f:α->D)(k:Sl):∀ l:List (Sl×α),((ba f l).any fun kv=>decide (kv.1=k.key))=l.any fun p=>decide (p.1=k)
 | []=>rfl
 | p::r=>by
  have ih:=BY f k r;unfold ba at ih ⊢;simp only[MF,Pe,ih];congr 1
  by_cases e:p.1=k
  ·rw[decide_eq_true e,decide_eq_true (by rw[e])]
  ·rw[decide_eq_false e,decide_eq_false (fun z=>e (Sl.key_inj z))]
theorem yU(f:α->D)(l:List (Sl×α))(k:Sl)(v:α):bB (ba f l) k.key (f v)=ba f (mC l k v):=by
 unfold bB mC;rw[BY];split
 ·unfold ba;rw[MY,MY];refine NF fun p _=>?_;simp only[Function.comp]
  by_cases e:p.1=k
  ·rw[if_pos e,if_pos (by rw[e])]
  ·rw[if_neg e,if_neg (fun z=>e (Sl.key_inj z))]
 ·unfold ba;rw[M3];rfl
theorem BX(f:α->D)(k:Sl):∀ l:List (Sl×α),cB (ba f l) k.key=(fC l k).map f
 | []=>rfl
 | p::r=>by
  have ih:=BX f k r;unfold ba fC cB at *
  by_cases e:p.1=k
  ·simp[MQ,e]
  ·have e':¬ p.1.key=k.key:=fun z=>e (Sl.key_inj z);simp only[MF,MQ,decide_eq_false e,decide_eq_false e'];exact ih
theorem uq(f:α->D)(m:List (Sl×α)):dictOf (ba f m)=ba f (cf [] m):=by
 unfold dictOf cf;have:∀ (m l:List (Sl×α)),(ba f m).foldl (fun a kv=>bB a kv.1 kv.2) (ba f l)=ba f (m.foldl (fun a p=>mC a p.1 p.2) l):=by
  intro m
  induction m with
  | nil=>intro l;rfl
  | cons p r ih=>
   intro l;unfold ba at ih ⊢;simp only[MF,OW];have:=yU f l p.1 p.2;unfold ba at this;rw[this];exact ih _
 exact this m []
theorem GF(l:List (Sl×α))(k j:Sl)(v:α):fC (mC l k v) j=if j=k then some v else fC l j:=by
 unfold mC;split
 ·rename_i h
  induction l with
  | nil=>simp at h
  | cons p r ih=>
   simp only[MF,fC,MQ]
   by_cases e:p.1=k
   ·rw[if_pos e]
    by_cases ej:j=k
    ·rw[if_pos ej];simp[e,ej]
    ·rw[if_neg ej];have e2:¬ p.1=j:=fun z=>ej (z.symm.trans e);simp only[decide_eq_false e2];clear ih h
     induction r with
     | nil=>rfl
     | cons q t ih2=>
      simp only[MF,MQ]
      by_cases e3:q.1=k
      ·rw[if_pos e3];have e4:¬ q.1=j:=fun z=>ej (z.symm.trans e3);simp only[decide_eq_false e4];exact ih2
      ·rw[if_neg e3]
       by_cases e4:q.1=j
       ·simp[e4]
       ·simp only[decide_eq_false e4];exact ih2
   ·rw[if_neg e];simp only[Pe,decide_eq_false e,Bool.false_or]at h;have ih':=ih h;unfold fC at ih'
    by_cases e2:p.1=j
    ·have ej:¬ j=k:=fun z=>e (e2.trans z);rw[if_neg ej];simp[e2]
    ·simp only[decide_eq_false e2];exact ih'
 ·rename_i h;have hn:∀ p∈l,p.1≠k:=fun p hp z=>h (List.any_eq_true.mpr ⟨p,hp,decide_eq_true z⟩);unfold fC;rw[List.find?_append]
  by_cases ej:j=k
  ·rw[if_pos ej];have:l.find? (fun p=>decide (p.1=j))=none:=List.find?_eq_none.mpr fun p hp=>by simpa using fun z=>hn p hp (z.trans ej)
   rw[this];simp[ej]
  ·rw[if_neg ej];cases l.find? (fun p=>decide (p.1=j)) with
   | some p=>rfl
   | none=>
    have ek:¬ k=j:=fun z=>ej z.symm;simp[ek]
theorem DP{l:List (Sl×α)}{k:Sl}{v:α}{p:Sl×α}(h:p∈mC l k v):p∈l\/p=(k,v):=by
 unfold mC at h;split at h
 ·obtain⟨q,hq,e⟩:=QY.mp h;split at e
  ·rename_i z;exact .inr (by rw[<- e,z])
  ·exact .inl (e ▸ hq)
 ·rcases OE.mp h with h|h
  ·exact .inl h
  ·exact .inr (Os.mp h)
theorem Ch{m:List (Sl×α)}:∀ {l:List (Sl×α)} {p:Sl×α},p∈cf l m->p∈l\/p∈m:=by
 induction m with
 | nil=>intro l p h;exact .inl h
 | cons q r ih=>
  intro l p h;rcases ih (l:=mC l q.1 q.2) h with h|h
  ·rcases DP h with h|h
   ·exact .inl h
   ·exact .inr (h ▸ MB)
  ·exact .inr (Mz _ h)
theorem GG{l:List (Sl×α)}{k:Sl}{v:α}(h:fC l k=some v):(k,v)∈l:=by
 unfold fC at h;cases e:l.find? fun p=>decide (p.1=k) with
 | none=>rw[e]at h;cases h
 | some p=>
  rw[e]at h;cases h;have h1:=List.mem_of_find?_eq_some e;have h2:=List.find?_some e;have:p.1=k:=of_decide_eq_true h2;rw[<- this];exact h1
theorem E6{l:List (Sl×α)}{p:Sl×α}(h:p∈l):∃ v,fC l p.1=some v:=by
 unfold fC;cases e:l.find? fun q=>decide (q.1=p.1) with
 | none=>exact absurd (List.find?_eq_none.mp e p h) (by simp)
 | some q=>exact⟨q.2,rfl⟩
theorem DQ(l:List (Sl×α))(k:Sl)(v:α):(mC l k v).length<=l.length+1:=by
 unfold mC;split<;>simp
theorem fG(m:List (Sl×α)):∀ l:List (Sl×α),(cf l m).length<=l.length+m.length:=by
 induction m with
 | nil=>intro l;exact le_refl _
 | cons p r ih=>
  intro l;have h1:=ih (mC l p.1 p.2);have h2:=DQ l p.1 p.2;show (cf (mC l p.1 p.2) r).length<=_
  rw[MD];omega
theorem fV(l a b:List (Sl×α)):cf l (a ++ b)=cf (cf l a) b:=by unfold cf;rw[List.foldl_append]
theorem nz(l a:List (Sl×α))(p:Sl×α):cf l (a ++ [p])=mC (cf l a) p.1 p.2:=by rw[fV];rfl
end
def Ll(c:Nat):Str:=⟨#[c]⟩
def B_(x:Str):List Str:=x.cps.toList.map Ll
def iU(s:Sk):List (Sl×Str):=match s.act with
 | .put _ x=>(made s).zip (B_ x)
 | _=>[]
def jz(s:Sk):List (Sl×Unit):=match s.act with
 | .strike ns=>ns.map fun n=>(n,())
 | _=>[]
def mV(s:Sk):List (Sl×Sl):=match s.act with
 | .move ns _=>ns.zip (made s)
 | _=>[]
def pG(s:Sk):List (Sl×Str):=match s.act with
 | .dress ns w=>ns.map fun n=>(n,w)
 | _=>[]
def Sk.wd(s:Sk):Nat:=match s.act with
 | .put _ x=>x.length
 | .strike ns=>ns.length
 | .dress ns _=>ns.length
 | .move ns _=>ns.length
def aK(x:Str)(o:List Sk):List (Sl×Str):=cf [] ((gy x.length).zip (B_ x) ++ o.flatMap iU)
def bX(o:List Sk):List (Sl×Unit):=cf [] (o.flatMap jz)
def dk(o:List Sk):List (Sl×Sl):=cf [] (o.flatMap mV)
def hU(o:List Sk):List (Sl×Str):=cf [] (o.flatMap pG)
abbrev Nm:=Str×Int
def Nm.d(n:Nm):D:=.tup [.str n.1,.int n.2]
def Nm.key(n:Nm):List aJ:=[.inr n.1,.inl n.2]
def Sk.nm(s:Sk):Nm:=(s.pen,s.num)
def j5(row:List Sl)(s:Sk):Bool:=(made s).all fun x=>decide (x∈row)
def gI(out:List Sk)(names:List Nm)(row:List Sl):List Sk:=(out.filter fun s=>decide (s.nm∈names)).filter (j5 row)
def c9(x:Str)(w:List Sk):List (Sl×Sl):=cf [] (((aK x w).filter fun p=>(fC (bX w) p.1).isNone).map fun p=>((fC (dk w) p.1).getD p.1,p.1))
structure Seat where
 slot:Sl
 name:Sl
 sign:Str
 word:Str
def Seat.d(s:Seat):D:=.tup [s.slot.d,s.name.d,.str s.sign,.str s.word]
def lZ(x:Str)(w:List Sk)(row:List Sl):List (Sl×Sl):=row.filterMap fun s=>(fC (c9 x w) s).map fun n=>(s,n)
def dW(x:Str)(out:List Sk)(names:List Nm):List Seat:=
 (lZ x (gI out names (jg x.length out)) (jg x.length out)).map fun p=>⟨p.1,p.2,(fC (aK x (gI out names (jg x.length out))) p.2).getD "",(fC (hU (gI out names (jg x.length out))) p.2).getD ""⟩
def eZ(i:Nat):ML:=PySem.Challenge.pw_redquill_k61_outcomes_of_choices.main.body.getD i (.Pass ⟨0,0,0,0⟩)
def k_STANDS:D:=.str "stands"
def k_START:D:=.tup [.str "",.int 0,.int 0]
def k_WAITS:D:=.str "waits"
def k_WIPED:D:=.str "wiped"
theorem ug{a0 a1 a2 a3:D}:dz ["name","time","anchor","names"] [a0,a1,a2,a3] "name"=some a0:=by kernel_rfl
theorem uf{a0 a1 a2 a3:D}:dz ["name","time","anchor","names"] [a0,a1,a2,a3] "time"=some a1:=by kernel_rfl
theorem qB{a0 a1 a2 a3:D}:dz ["name","time","anchor","names"] [a0,a1,a2,a3] "anchor"=some a2:=by kernel_rfl
theorem rQ{a0 a1 a2 a3:D}:dz ["name","time","anchor","names"] [a0,a1,a2,a3] "names"=some a3:=by kernel_rfl
theorem w_:iD [] "name"=(["name"]:List Str):=by kernel_rfl
theorem xg{x:D}:gd [] [] "name" x=[x]:=by kernel_rfl
theorem w8:iD ["name"] "time"=(["name","time"]:List Str):=by kernel_rfl
theorem xf{a0 x:D}:gd ["name"] [a0] "time" x=[a0,x]:=by kernel_rfl
theorem w6:iD ["name","time"] "anchor"=(["name","time","anchor"]:List Str):=by kernel_rfl
theorem xc{a0 a1 x:D}:gd ["name","time"] [a0,a1] "anchor" x=[a0,a1,x]:=by kernel_rfl
theorem wZ:iD ["name","time","anchor"] "names"=(["name","time","anchor","names"]:List Str):=by kernel_rfl
theorem xb{a0 a1 a2 x:D}:gd ["name","time","anchor"] [a0,a1,a2] "names" x=[a0,a1,a2,x]:=by kernel_rfl
theorem rD:(("slots":Str)∉(["name","time","anchor","names"]:List Str))=True:=eq_true (by decide +kernel)
theorem oP:(("touched":Str)∉(["name","time","anchor","names"]:List Str))=True:=eq_true (by decide +kernel)
theorem zO{a0 a1 a2 a3 a4:D}:dz ["name","time","anchor","names","signs"] [a0,a1,a2,a3,a4] "name"=some a0:=by kernel_rfl
theorem zN{a0 a1 a2 a3 a4:D}:dz ["name","time","anchor","names","signs"] [a0,a1,a2,a3,a4] "time"=some a1:=by kernel_rfl
theorem vP{a0 a1 a2 a3 a4:D}:dz ["name","time","anchor","names","signs"] [a0,a1,a2,a3,a4] "anchor"=some a2:=by kernel_rfl
theorem x6{a0 a1 a2 a3 a4:D}:dz ["name","time","anchor","names","signs"] [a0,a1,a2,a3,a4] "names"=some a3:=by kernel_rfl
theorem xZ{a0 a1 a2 a3 a4:D}:dz ["name","time","anchor","names","signs"] [a0,a1,a2,a3,a4] "signs"=some a4:=by kernel_rfl
theorem Cn:iD ["name","time","anchor","names"] "anchor"=(["name","time","anchor","names"]:List Str):=by kernel_rfl
theorem Cp{a0 a1 a2 a3 x:D}:gd ["name","time","anchor","names"] [a0,a1,a2,a3] "anchor" x=[a0,a1,x,a3]:=by kernel_rfl
theorem Cm:iD ["name","time","anchor","names"] "signs"=(["name","time","anchor","names","signs"]:List Str):=by kernel_rfl
theorem Co{a0 a1 a2 a3 x:D}:gd ["name","time","anchor","names"] [a0,a1,a2,a3] "signs" x=[a0,a1,a2,a3,x]:=by kernel_rfl
theorem xC:(("slots":Str)∉(["name","time","anchor","names","signs"]:List Str))=True:=eq_true (by decide +kernel)
theorem tF:(("touched":Str)∉(["name","time","anchor","names","signs"]:List Str))=True:=eq_true (by decide +kernel)
theorem AW:(("row":Str)∉(["name","time","anchor","names","signs"]:List Str))=True:=eq_true (by decide +kernel)
theorem ui{a0 a1 a2 a3:D}:dz ["name","time","anchor","names"] [a0,a1,a2,a3] "name"=some a0:=by kernel_rfl
theorem uh{a0 a1 a2 a3:D}:dz ["name","time","anchor","names"] [a0,a1,a2,a3] "time"=some a1:=by kernel_rfl
theorem qC{a0 a1 a2 a3:D}:dz ["name","time","anchor","names"] [a0,a1,a2,a3] "anchor"=some a2:=by kernel_rfl
theorem rR{a0 a1 a2 a3:D}:dz ["name","time","anchor","names"] [a0,a1,a2,a3] "names"=some a3:=by kernel_rfl
theorem xa:iD ["name","time","anchor","names"] "names"=(["name","time","anchor","names"]:List Str):=by kernel_rfl
theorem xh{a0 a1 a2 a3 x:D}:gd ["name","time","anchor","names"] [a0,a1,a2,a3] "names" x=[a0,a1,a2,x]:=by kernel_rfl
theorem rE:(("slots":Str)∉(["name","time","anchor","names"]:List Str))=True:=eq_true (by decide +kernel)
theorem oQ:(("touched":Str)∉(["name","time","anchor","names"]:List Str))=True:=eq_true (by decide +kernel)
theorem vn:(("row":Str)∉(["name","time","anchor","names"]:List Str))=True:=eq_true (by decide +kernel)
theorem vT{a0 a1 a2 a3 a4:D}:dz ["name","time","anchor","names","word"] [a0,a1,a2,a3,a4] "name"=some a0:=by kernel_rfl
theorem vS{a0 a1 a2 a3 a4:D}:dz ["name","time","anchor","names","word"] [a0,a1,a2,a3,a4] "time"=some a1:=by kernel_rfl
theorem rS{a0 a1 a2 a3 a4:D}:dz ["name","time","anchor","names","word"] [a0,a1,a2,a3,a4] "anchor"=some a2:=by kernel_rfl
theorem uk{a0 a1 a2 a3 a4:D}:dz ["name","time","anchor","names","word"] [a0,a1,a2,a3,a4] "names"=some a3:=by kernel_rfl
theorem vR{a0 a1 a2 a3 a4:D}:dz ["name","time","anchor","names","word"] [a0,a1,a2,a3,a4] "word"=some a4:=by kernel_rfl
theorem yX:iD ["name","time","anchor","names"] "names"=(["name","time","anchor","names"]:List Str):=by kernel_rfl
theorem yZ{a0 a1 a2 a3 x:D}:gd ["name","time","anchor","names"] [a0,a1,a2,a3] "names" x=[a0,a1,a2,x]:=by kernel_rfl
theorem yW:iD ["name","time","anchor","names"] "word"=(["name","time","anchor","names","word"]:List Str):=by kernel_rfl
theorem yY{a0 a1 a2 a3 x:D}:gd ["name","time","anchor","names"] [a0,a1,a2,a3] "word" x=[a0,a1,a2,a3,x]:=by kernel_rfl
theorem tG:(("slots":Str)∉(["name","time","anchor","names","word"]:List Str))=True:=eq_true (by decide +kernel)
theorem qj:(("touched":Str)∉(["name","time","anchor","names","word"]:List Str))=True:=eq_true (by decide +kernel)
theorem xD:(("row":Str)∉(["name","time","anchor","names","word"]:List Str))=True:=eq_true (by decide +kernel)
theorem x9{a0 a1 a2 a3:D}:dz ["name","time","anchor","names"] [a0,a1,a2,a3] "name"=some a0:=by kernel_rfl
theorem x8{a0 a1 a2 a3:D}:dz ["name","time","anchor","names"] [a0,a1,a2,a3] "time"=some a1:=by kernel_rfl
theorem uj{a0 a1 a2 a3:D}:dz ["name","time","anchor","names"] [a0,a1,a2,a3] "anchor"=some a2:=by kernel_rfl
theorem vQ{a0 a1 a2 a3:D}:dz ["name","time","anchor","names"] [a0,a1,a2,a3] "names"=some a3:=by kernel_rfl
theorem AF:iD ["name","time","anchor","names"] "names"=(["name","time","anchor","names"]:List Str):=by kernel_rfl
theorem AH{a0 a1 a2 a3 x:D}:gd ["name","time","anchor","names"] [a0,a1,a2,a3] "names" x=[a0,a1,a2,x]:=by kernel_rfl
theorem AE:iD ["name","time","anchor","names"] "anchor"=(["name","time","anchor","names"]:List Str):=by kernel_rfl
theorem AG{a0 a1 a2 a3 x:D}:gd ["name","time","anchor","names"] [a0,a1,a2,a3] "anchor" x=[a0,a1,x,a3]:=by kernel_rfl
theorem vo:(("slots":Str)∉(["name","time","anchor","names"]:List Str))=True:=eq_true (by decide +kernel)
theorem rF:(("touched":Str)∉(["name","time","anchor","names"]:List Str))=True:=eq_true (by decide +kernel)
theorem ze:(("row":Str)∉(["name","time","anchor","names"]:List Str))=True:=eq_true (by decide +kernel)
def am:List Str:=["old","drawn","states","greatest","time"]
theorem kg:vY am "old" 0:=pd (by decide +kernel)
theorem dF:vY am "drawn" 1:=pd (by decide +kernel)
theorem cG:vY am "states" 2:=pd (by decide +kernel)
theorem jn:vY am "greatest" 3:=pd (by decide +kernel)
theorem mS:vY am "time" 4:=pd (by decide +kernel)
theorem oO:("old_text":Str)∉am:=by decide +kernel
theorem eR:("strokes":Str)∉am:=by decide +kernel
theorem lK:("check_known":Str)∉am:=by decide +kernel
theorem f6:("state":Str)∉am:=by decide +kernel
theorem iE:("strokes_in":Str)∉am:=by decide +kernel
theorem gB:("waiting":Str)∉am:=by decide +kernel
theorem oM:("standing":Str)∉am:=by decide +kernel
theorem jD:("unwiped":Str)∉am:=by decide +kernel
theorem jv:("view":Str)∉am:=by decide +kernel
theorem f7:("seats":Str)∉am:=by decide +kernel
theorem dh:("coming_name":Str)∉am:=by decide +kernel
theorem dg:("coming_time":Str)∉am:=by decide +kernel
theorem g_:("draw":Str)∉am:=by decide +kernel
theorem oN:("put":Str)∉am:=by decide +kernel
theorem rC:("strike":Str)∉am:=by decide +kernel
theorem tE:("dress":Str)∉am:=by decide +kernel
theorem vm:("move":Str)∉am:=by decide +kernel
theorem vk:("part":Str)∉am:=by decide +kernel
theorem h9:("check_waits":Str)∉am:=by decide +kernel
theorem nE:("let_stand":Str)∉am:=by decide +kernel
theorem vj:("wipe":Str)∉am:=by decide +kernel
abbrev k_:ML:=eZ 7
theorem wQ:FnScope ["at","length"] ["at","length"] (ak k_):=by walk_at "j"
abbrev ik:ML:=eZ 8
theorem pM:FnScope ["at","to","length"] ["at","to","length"] (ak ik):=by walk_at "j"
abbrev jK:ML:=eZ 11
theorem uH:FnScope ["name","how_many"] ["name","how_many"] (ak jK):=by walk_at "j"
theorem rG:((["k"]:List Str) ++ (["name","how_many"]:List Str)).Nodup:=by decide +kernel
abbrev kX:ML:=eZ 17
theorem iF:FnScope ["row","name","time","act"] ["row"] (ak kX):=by walk_at "j"
abbrev gl:ML:=eZ 18
theorem nZ:FnScope ["row"] ["row"] (ak gl):=by walk_at "j"
abbrev m7:ML:=eZ 19
theorem kQ:FnScope ["rows","by_name","row"] ["rows"] (ak m7):=by walk_at "j"
abbrev kY:ML:=eZ 21
theorem wO:FnScope ["old"] ["old"] (ak kY):=by walk_at "j"
abbrev jL:ML:=eZ 22
theorem gK:FnScope ["following","anchor","slots","behind","slot"] ["following","anchor","slots"] (ak jL):=by walk_at "j"
abbrev pT:ML:=eZ 23
theorem jI:FnScope ["following","row","slot"] ["following"] (ak pT):=by walk_at "j"
abbrev m6:ML:=eZ 24
theorem kP:FnScope ["old","strokes","following","stroke"] ["old","strokes"] (ak m6):=by walk_at "j"
theorem vp:((["row"]:List Str) ++ (["old","strokes","following","stroke"]:List Str)).Nodup:=by decide +kernel
abbrev sE:ML:=eZ 26
theorem Cd:FnScope ["keys"] ["keys"] (ak sE):=by walk_at "j"
theorem zg:((["key"]:List Str) ++ (["keys"]:List Str)).Nodup:=by decide +kernel
abbrev kZ:ML:=eZ 27
theorem wP:FnScope ["stroke","in_row"] ["stroke","in_row"] (ak kZ):=by walk_at "j"
theorem tH:((["slot"]:List Str) ++ (["stroke","in_row"]:List Str)).Nodup:=by decide +kernel
abbrev k9:ML:=eZ 28
theorem jH:FnScope ["strokes","standing","in_row","stands","chosen"] ["strokes","standing","in_row"] (ak k9):=by walk_at "j"
theorem tJ:((["row"]:List Str) ++ (["strokes","standing","in_row","stands","chosen"]:List Str)).Nodup:=by decide +kernel
theorem tI:((["stroke"]:List Str) ++ (["strokes","standing","in_row","stands","chosen"]:List Str)).Nodup:=by decide +kernel
abbrev ig:ML:=eZ 29
theorem dC:FnScope ["old","strokes","brought","stroke","name","sign"] ["old","strokes"] (ak ig):=by walk_at "j"
abbrev iW:ML:=eZ 30
theorem fo:FnScope ["strokes","struck","stroke","name"] ["strokes"] (ak iW):=by walk_at "j"
abbrev jr:ML:=eZ 31
theorem eg:FnScope ["strokes","taken","stroke","name","slot"] ["strokes"] (ak jr):=by walk_at "j"
abbrev jJ:ML:=eZ 32
theorem gJ:FnScope ["strokes","worn","stroke","name"] ["strokes"] (ak jJ):=by walk_at "j"
abbrev sD:ML:=eZ 33
theorem dS:FnScope ["old","strokes","standing","row","working","brought","struck","taken","worn","sitting","name","seats"] ["old","strokes","standing"] (ak sD):=by walk_at "j"
theorem zf:((["slot"]:List Str) ++ (["old","strokes","standing","row","working","brought","struck","taken","worn","sitting","name","seats"]:List Str)).Nodup:=by decide +kernel
theorem qM:((["slot","name"]:List Str) ++ (["old","strokes","standing","row","working","brought","struck","taken","worn","sitting","-name","seats"]:List Str)).Nodup:=by decide +kernel
abbrev pR:ML:=eZ 34
theorem Ap:FnScope ["old","strokes","standing"] ["old","strokes","standing"] (ak pR):=by walk_at "j"
theorem xE:((["seat"]:List Str) ++ (["old","strokes","standing"]:List Str)).Nodup:=by decide +kernel
abbrev lb:ML:=eZ 39
theorem wR:FnScope ["seats","at"] ["seats","at"] (ak lb):=by walk_at "j"
abbrev ij:ML:=eZ 40
theorem pL:FnScope ["seats","at","to"] ["seats","at","to"] (ak ij):=by walk_at "j"
theorem nF:((["seat"]:List Str) ++ (["seats","at","to"]:List Str)).Nodup:=by decide +kernel
abbrev sG:ML:=eZ 43
theorem Ce:FnScope ["names","bits"] ["names","bits"] (ak sG):=by walk_at "j"
theorem qN:((["k","name"]:List Str) ++ (["names","bits"]:List Str)).Nodup:=by decide +kernel
abbrev pS:ML:=eZ 44
theorem sA:FnScope ["paper","bits","standing"] ["paper","bits"] (ak pS):=by walk_at "j"
abbrev jO:ML:=eZ 46
theorem mL:FnScope ["_law_cell","_law_k","_law_number"] ["_law_cell","_law_k"] (ak jO):=by walk_at "j"
abbrev iX:ML:=eZ 47
theorem qZ:FnScope ["_law_script","_law_k"] ["_law_script","_law_k"] (ak iX):=by walk_at "j"
abbrev lh:ML:=eZ 48
theorem eG:FnScope ["_law_cell","_law_size","_law_at","_law_found","_law_k","_law_letter"] ["_law_cell"] (ak lh):=by walk_at "j"
abbrev jM:ML:=eZ 49
theorem dq:FnScope ["_law_number","_law_many","_law_some","_law_word","_law_k"] ["_law_number","_law_many"] (ak jM):=by walk_at "j"
abbrev m8:ML:=eZ 50
theorem qK:FnScope ["_law_cell","_law_number"] ["_law_cell"] (ak m8):=by walk_at "j"
abbrev pU:ML:=eZ 51
theorem iV:FnScope ["_law_paper","_law_pen","_law_number","_law_many","_law_way","_law_at","_law_to"] ["_law_paper","_law_pen","_law_number"] (ak pU):=by walk_at "j"
abbrev lf:ML:=eZ 52
theorem iG:FnScope ["_law_paper","_law_pens_here","_law_cell","_law_number","_law_waiting","_law_name"] ["_law_paper","_law_pens_here","_law_cell"] (ak lf):=by walk_at "j"
abbrev il:ML:=eZ 53
theorem cQ:FnScope ["_law_paper","_law_bits","_law_found","_law_turn","_law_row","_law_state"] ["_law_paper","_law_bits"] (ak il):=by walk_at "j"
abbrev jN:ML:=eZ 54
theorem du:FnScope ["_law_paper","_law_old_here","_law_bits","_law_rows","_law_states","_law_view","_law_due","_law_found","_law_many"] ["_law_paper","_law_old_here","_law_bits"] (ak jN):=by walk_at "j"
theorem rJ:((["_law_row"]:List Str) ++ (["_law_paper","_law_old_here","_law_bits","_law_rows","_law_states","_law_view","_law_due","_law_found","_law_many"]:List Str)).Nodup:=by decide +kernel
theorem rH:((["_law_row"]:List Str) ++ (["_law_paper","_law_old_here","_law_bits","_law_rows","_law_states","_law_view","_law_due","_law_found","_law_many"]:List Str)).Nodup:=by decide +kernel
abbrev sF:ML:=eZ 55
theorem mY:FnScope ["_law_script","_law_cell","_law_old_here","_law_pens_here","_law_paper","_law_k","_law_choices"] ["_law_script"] (ak sF):=by walk_at "j"
theorem El:((["_law_bits"]:List Str) ++ (["_law_script","_law_cell","_law_old_here","_law_pens_here","_law_paper","_law_k","_law_choices"]:List Str)).Nodup:=by decide +kernel
abbrev dX:ML:=aW (eZ 12) 0
theorem mZ:FnScope ["self","name","time"] ["self","name","time"] (ak dX):=by walk_at "j"
abbrev eh:ML:=aW (eZ 12) 1
theorem q_:FnScope ["self"] ["self"] (ak eh):=by walk_at "j"
abbrev ck:ML:=aW (eZ 12) 2
theorem n_:FnScope ["self"] ["self"] (ak ck):=by walk_at "j"
abbrev iY:ML:=aW (eZ 13) 0
theorem rf:FnScope ["self","name","time","anchor","signs"] ["self","name","time","anchor","signs"] (ak iY):=by walk_at "j"
abbrev lq:ML:=aW (eZ 13) 1
theorem wS:FnScope ["self"] ["self"] (ak lq):=by walk_at "j"
abbrev pV:ML:=aW (eZ 13) 3
theorem Aq:FnScope ["self"] ["self"] (ak pV):=by walk_at "j"
abbrev fM:ML:=aW (eZ 14) 0
theorem m4:FnScope ["self","name","time","names"] ["self","name","time","names"] (ak fM):=by walk_at "j"
abbrev jP:ML:=aW (eZ 14) 1
theorem uI:FnScope ["self"] ["self"] (ak jP):=by walk_at "j"
abbrev gv:ML:=aW (eZ 15) 0
theorem on:FnScope ["self","name","time","names","word"] ["self","name","time","names","word"] (ak gv):=by walk_at "j"
abbrev lu:ML:=aW (eZ 15) 1
theorem wT:FnScope ["self"] ["self"] (ak lu):=by walk_at "j"
abbrev ir:ML:=aW (eZ 16) 0
theorem pQ:FnScope ["self","name","time","names","anchor"] ["self","name","time","names","anchor"] (ak ir):=by walk_at "j"
abbrev jV:ML:=aW (eZ 16) 1
theorem uN:FnScope ["self"] ["self"] (ak jV):=by walk_at "j"
abbrev m9:ML:=aW (eZ 16) 2
theorem yI:FnScope ["self"] ["self"] (ak m9):=by walk_at "j"
abbrev gu:ML:=aW (eZ 41) 0
theorem oj:FnScope ["self","old"] ["self","old"] (ak gu):=by walk_at "j"
abbrev gq:ML:=aW (eZ 41) 1
theorem oh:FnScope ["self"] ["self"] (ak gq):=by walk_at "j"
abbrev iq:ML:=aW (eZ 41) 2
theorem pP:FnScope ["self"] ["self"] (ak iq):=by walk_at "j"
abbrev ff:ML:=aW (eZ 41) 5
theorem kW:FnScope ["self","name"] ["self","name"] (ak ff):=by walk_at "j"
abbrev js:ML:=aW (eZ 41) 6
theorem sB:FnScope ["self","name"] ["self","name"] (ak js):=by walk_at "j"
abbrev fB:ML:=aW (eZ 41) 7
theorem mv:FnScope ["self","state"] ["self","state"] (ak fB):=by walk_at "j"
theorem kF:((["row"]:List Str) ++ (["self","state"]:List Str)).Nodup:=by decide +kernel
abbrev im:ML:=aW (eZ 41) 8
theorem pN:FnScope ["self"] ["self"] (ak im):=by walk_at "j"
theorem nG:((["row"]:List Str) ++ (["self"]:List Str)).Nodup:=by decide +kernel
abbrev gn:ML:=aW (eZ 41) 9
theorem oa:FnScope ["self"] ["self"] (ak gn):=by walk_at "j"
theorem mE:((["row"]:List Str) ++ (["self"]:List Str)).Nodup:=by decide +kernel
abbrev ip:ML:=aW (eZ 41) 10
theorem pO:FnScope ["self"] ["self"] (ak ip):=by walk_at "j"
theorem nH:((["row"]:List Str) ++ (["self"]:List Str)).Nodup:=by decide +kernel
abbrev jR:ML:=aW (eZ 41) 11
theorem uK:FnScope ["self"] ["self"] (ak jR):=by walk_at "j"
abbrev jt:ML:=aW (eZ 41) 12
theorem sC:FnScope ["self"] ["self"] (ak jt):=by walk_at "j"
abbrev fc:ML:=aW (eZ 41) 13
theorem kT:FnScope ["self","pen"] ["self","pen"] (ak fc):=by walk_at "j"
abbrev fb:ML:=aW (eZ 41) 14
theorem kS:FnScope ["self"] ["self"] (ak fb):=by walk_at "j"
abbrev jU:ML:=aW (eZ 41) 15
theorem uM:FnScope ["self","stroke"] ["self","stroke"] (ak jU):=by walk_at "j"
abbrev lr:ML:=aW (eZ 41) 16
theorem og:FnScope ["self","pen","at","signs","seats"] ["self","pen","at","signs"] (ak lr):=by walk_at "j"
abbrev iZ:ML:=aW (eZ 41) 17
theorem km:FnScope ["self","pen","at","to","seats"] ["self","pen","at","to"] (ak iZ):=by walk_at "j"
abbrev ju:ML:=aW (eZ 41) 18
theorem kR:FnScope ["self","pen","at","to","word","seats"] ["self","pen","at","to","word"] (ak ju):=by walk_at "j"
abbrev jT:ML:=aW (eZ 41) 19
theorem jq:FnScope ["self","pen","at","to","goal","seats","names"] ["self","pen","at","to","goal"] (ak jT):=by walk_at "j"
abbrev jS:ML:=aW (eZ 41) 20
theorem uL:FnScope ["self","pen","at"] ["self","pen","at"] (ak jS):=by walk_at "j"
abbrev fe:ML:=aW (eZ 41) 21
theorem kU:FnScope ["self","name"] ["self","name"] (ak fe):=by walk_at "j"
abbrev fN:ML:=aW (eZ 41) 22
theorem m5:FnScope ["self","name"] ["self","name"] (ak fN):=by walk_at "j"
abbrev jQ:ML:=aW (eZ 41) 23
theorem uJ:FnScope ["self","name"] ["self","name"] (ak jQ):=by walk_at "j"
def bc(_ _ _ _ _ _:Mg)(_:HW):cR:=fun ds G Q=>match ds with
 | [d]=>∃ r:Rw,d=r.d/\Q r.key G
 | _=>False
def gH(G G':Gp):Prop:=∀ a o,G a=some o->G' a=some o
theorem gH.refl{G:Gp}:gH G G:=fun _ _ h=>h
theorem gH.trans{G G1 G2:Gp}(a:gH G G1)(b:gH G1 G2):gH G G2:=fun x o h=>b x o (a x o h)
theorem gH.gset{G G1:Gp}{p:Mg}{o:GO}(a:gH G G1)(hp:G p=none):gH G (gset G1 p o):=fun x y h=>by
 have:x≠p:=fun z=>by subst z;rw[hp]at h;cases h
 rw[ao this];exact a x y h
def cL(_ _ _ _ _ _:Mg)(_:HW):cR:=fun ds G Q=>match ds with
 | [.ref q]=>∃ rs base:List Rw,(G q=some (.lst (rs.map Rw.d))/\mq rs/\rs.length<=1000/\base.length < 64/\∀ r∈rs,r∈base)/\∀ out G',gH G G'->iA out->(∀ r,r∈out↔r∈rs)->Q (.fl (out.map Rw.d)) G'
 | _=>False
def dH(Z1 Z2 Z3 Z4 Z5 Q4:Mg)(hw:HW):cR:=fun ds G Q=>match ds with
 | [.str x,.ref q]=>∃ sks base:List Sk,(G q=some (.lst (sks.map Sk.d))/\x.length<=1000/\mq (sks.map Sk.rw)/\sks.length<=1000/\base.length < 64/\(∀ s∈sks,s∈base)/\∀ s∈sks,s.ok)/\
   ∀ out G',gH G G'->iA (out.map Sk.rw)->(∀ s,s∈out↔s∈sks)->Q (.fl ((jg x.length out).map Sl.d)) G'
 | _=>False
def bx(_ _ _ _ _ _:Mg)(_:HW):cR:=fun ds G Q=>match ds with
 | [.tup [.str p,.int n],.int m]=>(0<=m/\m<=1000)/\Q (.fl ((eE p n m.toNat).map Sl.d)) G
 | _=>False
def bj(Z1 Z2 Z3 Z4 Z5 Q4:Mg)(s:Sk):GO:=match s.act with
 | .put a x=>.ins Z2 ["name","time","anchor","names","signs"] [.tup [.str s.pen,.int s.num],.int s.time,a.d,.tup [],.str x]
 | .strike ns=>.ins Z3 ["name","time","anchor","names"] [.tup [.str s.pen,.int s.num],.int s.time,aF.d,.tup (ns.map Sl.d)]
 | .dress ns w=>.ins Z4 ["name","time","anchor","names","word"] [.tup [.str s.pen,.int s.num],.int s.time,aF.d,.tup (ns.map Sl.d),.str w]
 | .move ns a=>.ins Z5 ["name","time","anchor","names"] [.tup [.str s.pen,.int s.num],.int s.time,a.d,.tup (ns.map Sl.d)]
def aG(Z1 Z2 Z3 Z4 Z5 Q4:Mg)(hw:HW):cR:=fun ds G Q=>match ds with
 | [.ref a,d,.int t]=>(∃ C,C∈[Z1,Z2,Z3,Z4,Z5]/\G a=some (.ins C [] [])/\∃ p n,d=.tup [.str p,.int n]/\Q .non (gset G a (.ins C ["name","time","anchor","names"] [d,.int t,aF.d,.tup []])))
 | _=>False
def bz(Z1 Z2 Z3 Z4 Z5 Q4:Mg)(hw:HW):cR:=fun ds G Q=>match ds with
 | [.ref a,d,.int t,b,.str x]=>G a=some (.ins Z2 [] [])/\∃ p n s,d=.tup [.str p,.int n]/\b=Sl.d s/\Q .non (gset G a (.ins Z2 ["name","time","anchor","names","signs"] [d,.int t,b,.tup [],.str x]))
 | _=>False
def aX(Z1 Z2 Z3 Z4 Z5 Q4:Mg)(hw:HW):cR:=fun ds G Q=>match ds with
 | [.ref a,d,.int t,.tup ns]=>G a=some (.ins Z3 [] [])/\∃ p n,d=.tup [.str p,.int n]/\Q .non (gset G a (.ins Z3 ["name","time","anchor","names"] [d,.int t,aF.d,.tup ns]))
 | _=>False
def bg(Z1 Z2 Z3 Z4 Z5 Q4:Mg)(hw:HW):cR:=fun ds G Q=>match ds with
 | [.ref a,d,.int t,.tup ns,.str w]=>G a=some (.ins Z4 [] [])/\∃ p n,d=.tup [.str p,.int n]/\Q .non (gset G a (.ins Z4 ["name","time","anchor","names","word"] [d,.int t,aF.d,.tup ns,.str w]))
 | _=>False
def br(Z1 Z2 Z3 Z4 Z5 Q4:Mg)(hw:HW):cR:=fun ds G Q=>match ds with
 | [.ref a,d,.int t,.tup ns,b]=>G a=some (.ins Z5 [] [])/\∃ p n s,d=.tup [.str p,.int n]/\b=Sl.d s/\Q .non (gset G a (.ins Z5 ["name","time","anchor","names"] [d,.int t,b,.tup ns]))
 | _=>False
def cn(Z1 Z2 Z3 Z4 Z5 Q4:Mg)(hw:HW):cR:=fun ds G Q=>match ds with
 | [d]=>∃ s:Sk,d=s.d/\∀ p,G p=none->Q (.ref p) (gset G p (bj Z1 Z2 Z3 Z4 Z5 Q4 s))
 | _=>False
def ar(_ _ _ _ _ _:Mg)(_:HW):cR:=fun ds G Q=>match ds with
 | [.ref _]=>Q (.fl []) G
 | _=>False
def a_(Z1 Z2 Z3 Z4 Z5 Q4:Mg)(hw:HW):cR:=fun ds G Q=>match ds with
 | [.ref a]=>∃ (s:Sk) (b:Sl) (x:Str),(s.act=.put b x/\G a=some (bj Z1 Z2 Z3 Z4 Z5 Q4 s)/\x.length<=1000)/\Q (.fl ((made s).map Sl.d)) G
 | _=>False
def aP(Z1 Z2 Z3 Z4 Z5 Q4:Mg)(hw:HW):cR:=fun ds G Q=>match ds with
 | [.ref a]=>∃ (s:Sk) (b:Sl) (ns:List Sl),(s.act=.move ns b/\G a=some (bj Z1 Z2 Z3 Z4 Z5 Q4 s)/\ns.length<=1000)/\Q (.fl ((made s).map Sl.d)) G
 | _=>False
def cq(_ _ _ _ _ _:Mg)(_:HW):cR:=fun ds G Q=>match ds with
 | [.str x]=>x.length<=1000/\Q (.fl ((gy x.length).map Sl.d)) G
 | _=>False
def cr(Z1 Z2 Z3 Z4 Z5 Q4:Mg)(hw:HW):cR:=fun ds G Q=>match ds with
 | [.ref p,a,.lst xs]=>∃ (b:Sl) (ss W:List Sl) (kvs:List (List aJ×D)),(a=b.d/\xs=ss.map Sl.d/\G p=some (.dT hw kvs)/\C7 kvs W/\b∈W/\ss.Nodup/\(∀ x∈ss,x∉W)/\W.length+ss.length<=900000)/\
   ∀ T4,C7 T4 (cb W b ss)->Q .non (gset G p (.dT hw T4))
 | _=>False
def ee(Z1 Z2 Z3 Z4 Z5 Q4:Mg)(hw:HW):cR:=fun ds G Q=>match ds with
 | [.ref p]=>∃ (R:List Sl) (kvs:List (List aJ×D)),(G p=some (.dT hw kvs)/\C7 kvs (aF::R)/\R.length<=900000)/\Q (.fl (R.map Sl.d)) G
 | _=>False
def jx(Z1 Z2 Z3 Z4 Z5 Q4:Mg)(G:Gp)(ps:List Mg)(o:List Sk):Prop:=ps.length=o.length/\∀ (j:Nat) p s,ps[j]?=some p->o[j]?=some s->G p=some (bj Z1 Z2 Z3 Z4 Z5 Q4 s)
def wE(o:List Sk):Prop:=o.length<=64/\∀ s∈o,s.wd<=1000
def dR(Z1 Z2 Z3 Z4 Z5 Q4:Mg)(hw:HW):cR:=fun ds G Q=>match ds with
 | [.lst xs]=>(∃ ss:List Sl,(xs=ss.map Sl.d/\ss.length<=900000)/\∀ p,G p=none->Q (.ref p) (gset G p (.dT hw (ba (fun _=>.bl true) (cf [] (ss.map fun s=>(s,())))))))\/
   ∃ ns:List Nm,(xs=ns.map Nm.d/\ns.length<=900000)/\∀ p,G p=none->Q (.ref p) (gset G p (.dT hw (dictOf (ns.map fun n=>(n.key,.bl true)))))
 | _=>False
def cY(Z1 Z2 Z3 Z4 Z5 Q4:Mg)(hw:HW):cR:=fun ds G Q=>match ds with
 | [.ref a,.ref p]=>∃ (s:Sk) (row:List (Sl×Unit)),(G a=some (bj Z1 Z2 Z3 Z4 Z5 Q4 s)/\s.wd<=1000/\G p=some (.dT hw (ba (fun _=>.bl true) row)))/\Q (.bl ((made s).all fun x=>(fC row x).isSome)) G
 | _=>False
def bS(Z1 Z2 Z3 Z4 Z5 Q4:Mg)(hw:HW):cR:=fun ds G Q=>match ds with
 | [.str x,.lst xs]=>∃ (ps:List Mg) (o:List Sk),(xs=ps.map D.ref/\jx Z1 Z2 Z3 Z4 Z5 Q4 G ps o/\wE o/\x.length<=1000)/\∀ p,G p=none->Q (.ref p) (gset G p (.dT hw (ba D.str (aK x o))))
 | _=>False
def ah(Z1 Z2 Z3 Z4 Z5 Q4:Mg)(hw:HW):cR:=fun ds G Q=>match ds with
 | [.ref a]=>∃ (s:Sk) (ns:List Sl),((s.act=.strike ns\/(∃ w,s.act=.dress ns w)\/∃ b,s.act=.move ns b)/\G a=some (bj Z1 Z2 Z3 Z4 Z5 Q4 s)/\ns.length<=1000)/\Q (.fl (ns.map Sl.d)) G
 | _=>False
def b8(Z1 Z2 Z3 Z4 Z5 Q4:Mg)(hw:HW):cR:=fun ds G Q=>match ds with
 | [.lst xs]=>∃ (ps:List Mg) (o:List Sk),(xs=ps.map D.ref/\jx Z1 Z2 Z3 Z4 Z5 Q4 G ps o/\wE o)/\∀ p,G p=none->Q (.ref p) (gset G p (.dT hw (ba (fun _=>.bl true) (bX o))))
 | _=>False
def cz(Z1 Z2 Z3 Z4 Z5 Q4:Mg)(hw:HW):cR:=fun ds G Q=>match ds with
 | [.lst xs]=>∃ (ps:List Mg) (o:List Sk),(xs=ps.map D.ref/\jx Z1 Z2 Z3 Z4 Z5 Q4 G ps o/\wE o)/\∀ p,G p=none->Q (.ref p) (gset G p (.dT hw (ba Sl.d (dk o))))
 | _=>False
def cK(Z1 Z2 Z3 Z4 Z5 Q4:Mg)(hw:HW):cR:=fun ds G Q=>match ds with
 | [.lst xs]=>∃ (ps:List Mg) (o:List Sk),(xs=ps.map D.ref/\jx Z1 Z2 Z3 Z4 Z5 Q4 G ps o/\wE o)/\∀ p,G p=none->Q (.ref p) (gset G p (.dT hw (ba D.str (hU o))))
 | _=>False
def cZ(Z1 Z2 Z3 Z4 Z5 Q4:Mg)(hw:HW):cR:=fun ds G Q=>match ds with
 | [.ref q,.lst ns,.ref p]=>∃ (sks base:List Sk) (names:List Nm) (row:List Sl),(G q=some (.lst (sks.map Sk.d))/\mq (sks.map Sk.rw)/\sks.length<=1000/\base.length < 64/\(∀ s∈sks,s∈base)/\(∀ s∈sks,s.wd<=1000)/\ns=names.map Nm.d/\names.length<=900000/\G p=some (.dT hw (ba (fun _=>.bl true) (cf [] (row.map fun s=>(s,()))))))/\
   ∀ out ps G',gH G G'->iA (out.map Sk.rw)->(∀ s,s∈out↔s∈sks)->jx Z1 Z2 Z3 Z4 Z5 Q4 G' ps (gI out names row)->Q (.fl (ps.map D.ref)) G'
 | _=>False
def dQ(Z1 Z2 Z3 Z4 Z5 Q4:Mg)(hw:HW):cR:=fun ds G Q=>match ds with
 | [.str x,.ref q,.lst ns]=>∃ (sks base:List Sk) (names:List Nm),(G q=some (.lst (sks.map Sk.d))/\x.length<=1000/\mq (sks.map Sk.rw)/\sks.length<=1000/\base.length < 64/\(∀ s∈sks,s∈base)/\(∀ s∈sks,1<=s.num/\s.wd<=1000)/\ns=names.map Nm.d/\names.length<=900000)/\
   ∀ out G',gH G G'->iA (out.map Sk.rw)->(∀ s,s∈out↔s∈sks)->Q (.fl ((dW x out names).map Seat.d)) G'
 | _=>False
def Seat.d3(s:Seat):D:=.tup [s.name.d,.str s.sign,.str s.word]
def cC(Z1 Z2 Z3 Z4 Z5 Q4:Mg)(hw:HW):cR:=fun ds G Q=>match ds with
 | [.str x,.ref q,.lst ns]=>∃ (sks base:List Sk) (names:List Nm),(G q=some (.lst (sks.map Sk.d))/\x.length<=1000/\mq (sks.map Sk.rw)/\sks.length<=1000/\base.length < 64/\(∀ s∈sks,s∈base)/\(∀ s∈sks,1<=s.num/\s.wd<=1000)/\ns=names.map Nm.d/\names.length<=900000)/\
   ∀ out G',gH G G'->iA (out.map Sk.rw)->(∀ s,s∈out↔s∈sks)->Q (.fl ((dW x out names).map Seat.d3)) G'
 | _=>False
def dm(Z1 Z2 Z3 Z4 Z5 Q4:Mg)(hw:HW):cR:=fun ds G Q=>match ds with
 | [.ref p]=>∃ (s:Sk) (a:Sl) (x:Str),(s.act=.put a x/\G p=some (bj Z1 Z2 Z3 Z4 Z5 Q4 s))/\Q s.d G
 | _=>False
def bW(Z1 Z2 Z3 Z4 Z5 Q4:Mg)(hw:HW):cR:=fun ds G Q=>match ds with
 | [.ref p]=>∃ (s:Sk) (ns:List Sl),(s.act=.strike ns/\G p=some (bj Z1 Z2 Z3 Z4 Z5 Q4 s))/\Q s.d G
 | _=>False
def cy(Z1 Z2 Z3 Z4 Z5 Q4:Mg)(hw:HW):cR:=fun ds G Q=>match ds with
 | [.ref p]=>∃ (s:Sk) (ns:List Sl) (w:Str),(s.act=.dress ns w/\G p=some (bj Z1 Z2 Z3 Z4 Z5 Q4 s))/\Q s.d G
 | _=>False
def cP(Z1 Z2 Z3 Z4 Z5 Q4:Mg)(hw:HW):cR:=fun ds G Q=>match ds with
 | [.ref p]=>∃ (s:Sk) (ns:List Sl) (a:Sl),(s.act=.move ns a/\G p=some (bj Z1 Z2 Z3 Z4 Z5 Q4 s))/\Q s.d G
 | _=>False
def bM(_ _ _ _ _ _:Mg)(_:HW):cR:=fun ds G Q=>match ds with
 | [.lst xs,.int k]=>∃ ns:List Int,(xs=ns.map D.int/\0<=k)/\∀ c:Int,Q (.int c) G
 | _=>False
structure Pp where
 old:Str
 sks:List Sk
 st:List (List aJ×D)
 gr:List (aJ×D)
 time:Int
def gf(C:Mg)(hw0:List aJ->Int)(G:Gp)(p d s g:Mg)(P:Pp):Prop:=G p=some (.ins C am [.str P.old,.ref d,.ref s,.ref g,.int P.time])/\G d=some (.lst (P.sks.map Sk.d))/\G s=some (.dT hw0 P.st)/\G g=some (.dK P.gr)
def fJ(P:Pp)(n:Nm):Bool:=dG ((cB P.st n.key).getD .non) (.str (Mj "wiped"))
def Pp.unw(P:Pp):List Nm:=(P.sks.filter fun s=>!fJ P s.nm).map Sk.nm
def Pp.num(P:Pp)(pen:Str):Int:=match cB P.gr (.inr pen) with
 | some (.int m)=>m+1
 | _=>1
def Pp.add(P:Pp)(k:Sk):Pp:=⟨P.old,P.sks ++ [k],bB P.st k.nm.key (.str (Mj "waits")),bB P.gr (.inr k.pen) (.int k.num),k.time⟩
structure Pp.ok(P:Pp)(n:Nat):Prop where
 lo:P.old.length<=40
 ls:P.sks.length<=n
 lt:P.st.length<=n
 lg:P.gr.length<=n
 sk:∀ s∈P.sks,1<=s.num/\s.wd<=60/\s.time<=P.time
 ap:(P.sks.map Sk.rw).Pairwise lX
 kn:∀ s∈P.sks,∃ w:Str,cB P.st s.nm.key=some (.str w)
 gi:∀ k v,cB P.gr k=some v->∃ m:Int,v=.int m/\0<=m
 gm:∀ s∈P.sks,∃ m:Int,cB P.gr (.inr s.pen)=some (.int m)/\s.num<=m
def yu(l:List Mg)(G G':Gp):Prop:=∀ a o,a∉l->G a=some o->G' a=some o
def Srt(P:Pp)(out:List Sk):Prop:=iA (out.map Sk.rw)/\∀ s,s∈out↔s∈P.sks
def Pp.seats(P:Pp)(out:List Sk):List Seat:=dW P.old out P.unw
def bp(Z1 Z2 Z3 Z4 Z5 Q4:Mg)(hw:HW):cR:=fun ds G Q=>match ds with
 | [.ref p]=>∃ (P:Pp) (d s g:Mg),(gf Q4 hw G p d s g P/\P.ok 50)/\Q (.fl (P.unw.map Nm.d)) G
 | _=>False
def bK(Z1 Z2 Z3 Z4 Z5 Q4:Mg)(hw:HW):cR:=fun ds G Q=>match ds with
 | [.ref p]=>∃ (P:Pp) (d s g:Mg),(gf Q4 hw G p d s g P/\P.ok 50)/\∀ out G',gH G G'->Srt P out->Q (.fl ((P.seats out).map Seat.d3)) G'
 | _=>False
def aU(Z1 Z2 Z3 Z4 Z5 Q4:Mg)(hw:HW):cR:=fun ds G Q=>match ds with
 | [.ref p]=>∃ (P:Pp) (d s g:Mg),(gf Q4 hw G p d s g P/\P.ok 50)/\∀ out G',gH G G'->Srt P out->Q (.fl ((P.seats out).map Seat.d)) G'
 | _=>False
def aN(Z1 Z2 Z3 Z4 Z5 Q4:Mg)(hw:HW):cR:=fun ds G Q=>match ds with
 | [.ref p]=>∃ (P:Pp) (d s g:Mg),(gf Q4 hw G p d s g P/\P.sks.length<=50)/\Q (.fl (P.sks.map Sk.d)) G
 | _=>False
def aD(Z1 Z2 Z3 Z4 Z5 Q4:Mg)(hw:HW):cR:=fun ds G Q=>match ds with
 | [.ref p,.str pen]=>∃ (P:Pp) (d s g:Mg),(gf Q4 hw G p d s g P/\∀ k v,cB P.gr k=some v->∃ m:Int,v=.int m/\0<=m)/\Q (.tup [.str pen,.int (P.num pen)]) G
 | _=>False
def aB(Z1 Z2 Z3 Z4 Z5 Q4:Mg)(hw:HW):cR:=fun ds G Q=>match ds with
 | [.ref p]=>∃ (P:Pp) (d s g:Mg),gf Q4 hw G p d s g P/\Q (.int (P.time+1)) G
 | _=>False
def bf(Z1 Z2 Z3 Z4 Z5 Q4:Mg)(hw:HW):cR:=fun ds G Q=>match ds with
 | [.ref p,.ref a]=>∃ (P:Pp) (d s g:Mg) (k:Sk),(gf Q4 hw G p d s g P/\G a=some (bj Z1 Z2 Z3 Z4 Z5 Q4 k)/\P.sks.length<=50/\P.st.length<=50/\P.gr.length<=50)/\∀ G',yu [p,d,s,g] G G'->gf Q4 hw G' p d s g (P.add k)->Q (.tup [.str k.pen,.int k.num]) G'
 | _=>False
def bh(Z1 Z2 Z3 Z4 Z5 Q4:Mg)(hw:HW):cR:=fun ds G Q=>match ds with
 | [.ref p,.tup [.str a,.int b]]=>∃ (P:Pp) (d s g:Mg) (w:Str),(gf Q4 hw G p d s g P/\cB P.st [.inr a,.inl b]=some (.str w))/\Q .non G
 | _=>False
def aT(Z1 Z2 Z3 Z4 Z5 Q4:Mg)(hw:HW):cR:=fun ds G Q=>match ds with
 | [.ref p,.tup [.str a,.int b]]=>∃ (P:Pp) (d s g:Mg) (w:Str),(gf Q4 hw G p d s g P/\cB P.st [.inr a,.inl b]=some (.str w))/\Q (.str w) G
 | _=>False
def aM(Z1 Z2 Z3 Z4 Z5 Q4:Mg)(hw:HW):cR:=fun ds G Q=>match ds with
 | [.ref p,.tup [.str a,.int b]]=>∃ (P:Pp) (d s g:Mg),(gf Q4 hw G p d s g P/\cB P.st [.inr a,.inl b]=some (.str (Mj "waits")))/\Q .non G
 | _=>False
def Pp.wipe(P:Pp)(n:List aJ):Pp:=⟨P.old,P.sks,bB P.st n (.str (Mj "wiped")),P.gr,P.time⟩
def cM(Z1 Z2 Z3 Z4 Z5 Q4:Mg)(hw:HW):cR:=fun ds G Q=>match ds with
 | [.ref p,.tup [.str a,.int b]]=>∃ (P:Pp) (d s g:Mg),(gf Q4 hw G p d s g P/\cB P.st [.inr a,.inl b]=some (.str (Mj "waits"))/\P.st.length<=50)/\∀ G',yu [p,d,s,g] G G'->gf Q4 hw G' p d s g (P.wipe [.inr a,.inl b])->Q .non G'
 | _=>False
def bI(Z1 Z2 Z3 Z4 Z5 Q4:Mg)(hw:HW):cR:=fun ds G Q=>match ds with
 | [.ref p,.str x]=>G p=some (.ins Q4 [] [])/\∀ d s g G',yu [p,d,s,g] G G'->gf Q4 hw G' p d s g ⟨x,[],[],[],0⟩->Q .non G'
 | _=>False
def cu(_ _ _ _ _ _:Mg)(_:HW):cR:=fun ds G Q=>match ds with
 | [.int at_,.int n]=>(0<=at_/\at_<=n)/\Q .non G
 | _=>False
def aR(_ _ _ _ _ _:Mg)(_:HW):cR:=fun ds G Q=>match ds with
 | [.int at_,.int to_,.int n]=>(0<=at_/\at_ < n/\at_ < to_/\to_<=n)/\Q .non G
 | _=>False
def aQ(_ _ _ _ _ _:Mg)(_:HW):cR:=fun ds G Q=>match ds with
 | [.lst xs,.int i,.int j]=>∃ seats:List Seat,(xs=seats.map Seat.d/\0<=i/\i<=j/\j<=seats.length/\seats.length<=100000)/\Q (.tup ((((seats.drop i.toNat).take (j - i).toNat).map Seat.name).map Sl.d)) G
 | _=>False
def Pp.next(P:Pp)(pen:Str)(k:Sk):Prop:=k.pen=pen/\k.num=P.num pen/\k.time=P.time+1
def b9(Z1 Z2 Z3 Z4 Z5 Q4:Mg)(hw:HW):cR:=fun ds G Q=>match ds with
 | [.ref p,.str pen,.int i,.int j]=>∃ (P:Pp) (d s g:Mg),(gf Q4 hw G p d s g P/\P.ok 49)/\∀ out,Srt P out->(0<=i/\i < (P.seats out).length/\i < j/\j<=(P.seats out).length)/\
   ∀ G',yu [p,d,s,g] G G'->gf Q4 hw G' p d s g (P.add ⟨pen,P.num pen,P.time+1,.strike ((((P.seats out).drop i.toNat).take (j - i).toNat).map Seat.name)⟩)->Q (.tup [.str pen,.int (P.num pen)]) G'
 | _=>False
def sm(_ _ _ _ _ _:Mg)(_:HW):cR:=fun vs _ Q=>match vs with
 | [.lst ds]=>∃ ns:List Int,ds=ns.map D.int/\ns.length<=63/\∀ G',Q (.bl true) G'
 | _=>False
def pA(seats:List Seat)(i:Int):Sl:=if i=0 then aF else match seats[(i - 1).toNat]? with
 | some s=>s.slot
 | none=>aF
def cv(_ _ _ _ _ _:Mg)(_:HW):cR:=fun ds G Q=>match ds with
 | [.lst xs,.int i]=>∃ seats:List Seat,(xs=seats.map Seat.d/\0<=i/\i<=seats.length)/\Q (pA seats i).d G
 | _=>False
def wf(seats:List Seat)(i j:Int):List Sl:=((seats.drop i.toNat).take (j - i).toNat).map Seat.name
def cA(Z1 Z2 Z3 Z4 Z5 Q4:Mg)(hw:HW):cR:=fun ds G Q=>match ds with
 | [.ref p,.str pen,.int i,.int j,.str w]=>∃ (P:Pp) (d s g:Mg),(gf Q4 hw G p d s g P/\P.ok 49)/\∀ out,Srt P out->(0<=i/\i < (P.seats out).length/\i < j/\j<=(P.seats out).length)/\
   ∀ G',yu [p,d,s,g] G G'->gf Q4 hw G' p d s g (P.add ⟨pen,P.num pen,P.time+1,.dress (wf (P.seats out) i j) w⟩)->Q (.tup [.str pen,.int (P.num pen)]) G'
 | _=>False
def cx(Z1 Z2 Z3 Z4 Z5 Q4:Mg)(hw:HW):cR:=fun ds G Q=>match ds with
 | [.ref p,.str pen,.int i,.str x]=>∃ (P:Pp) (d s g:Mg),(gf Q4 hw G p d s g P/\P.ok 49)/\∀ out,Srt P out->(0<=i/\i<=(P.seats out).length)/\
   ∀ G',yu [p,d,s,g] G G'->gf Q4 hw G' p d s g (P.add ⟨pen,P.num pen,P.time+1,.put (pA (P.seats out) i) x⟩)->Q (.tup [.str pen,.int (P.num pen)]) G'
 | _=>False
def cN(Z1 Z2 Z3 Z4 Z5 Q4:Mg)(hw:HW):cR:=fun ds G Q=>match ds with
 | [.ref p,.str pen,.int i]=>∃ (P:Pp) (d s g:Mg),(gf Q4 hw G p d s g P/\P.ok 49)/\∀ out,Srt P out->(0<=i/\i<=(P.seats out).length)/\
   ∀ G',yu [p,d,s,g] G G'->gf Q4 hw G' p d s g (P.add ⟨pen,P.num pen,P.time+1,.put (pA (P.seats out) i) (Mj "\n")⟩)->Q (.tup [.str pen,.int (P.num pen)]) G'
 | _=>False
def cO(Z1 Z2 Z3 Z4 Z5 Q4:Mg)(hw:HW):cR:=fun ds G Q=>match ds with
 | [.ref p,.str pen,.int i,.int j,.int m]=>∃ (P:Pp) (d s g:Mg),(gf Q4 hw G p d s g P/\P.ok 49)/\∀ out,Srt P out->(0<=i/\i < (P.seats out).length/\i < j/\j<=(P.seats out).length/\0<=m/\m<=(P.seats out).length)/\
   ∀ G',yu [p,d,s,g] G G'->gf Q4 hw G' p d s g (P.add ⟨pen,P.num pen,P.time+1,.move (wf (P.seats out) i j) (pA (P.seats out) m)⟩)->Q (.tup [.str pen,.int (P.num pen)]) G'
 | _=>False
def Pp.inS(P:Pp)(w:Str):List Sk:=P.sks.filter fun s=>dG ((cB P.st s.nm.key).getD .non) (.str w)
def Pp.wai(P:Pp):List Nm:=(P.inS (Mj "waits")).map Sk.nm
def aO(Z1 Z2 Z3 Z4 Z5 Q4:Mg)(hw:HW):cR:=fun ds G Q=>match ds with
 | [.ref p,.str w]=>∃ (P:Pp) (d s g:Mg),(gf Q4 hw G p d s g P/\P.ok 50)/\Q (.fl ((P.inS w).map Sk.d)) G
 | _=>False
def aS(Z1 Z2 Z3 Z4 Z5 Q4:Mg)(hw:HW):cR:=fun ds G Q=>match ds with
 | [.ref p]=>∃ (P:Pp) (d s g:Mg),(gf Q4 hw G p d s g P/\P.ok 50)/\Q (.fl (P.wai.map Nm.d)) G
 | _=>False
def Pp.stand(P:Pp)(n:List aJ):Pp:=⟨P.old,P.sks,bB P.st n (.str (Mj "stands")),P.gr,P.time⟩
def bw(Z1 Z2 Z3 Z4 Z5 Q4:Mg)(hw:HW):cR:=fun ds G Q=>match ds with
 | [.ref p,.tup [.str a,.int b]]=>∃ (P:Pp) (d s g:Mg),(gf Q4 hw G p d s g P/\cB P.st [.inr a,.inl b]=some (.str (Mj "waits"))/\P.st.length<=50)/\∀ G',yu [p,d,s,g] G G'->gf Q4 hw G' p d s g (P.stand [.inr a,.inl b])->Q .non G'
 | _=>False
def bH(Z1 Z2 Z3 Z4 Z5 Q4:Mg)(hw:HW):cR:=fun ds G Q=>match ds with
 | [.ref p]=>∃ (P:Pp) (d s g:Mg),gf Q4 hw G p d s g P/\Q (.str P.old) G
 | _=>False
def Md(P P':Pp):Prop:=P'.old=P.old/\P'.sks=P.sks/\P'.gr=P.gr/\P'.time=P.time/\∀ n,P.ok n->P'.ok n
def Pp.sta(P:Pp):List Nm:=(P.inS (Mj "stands")).map Sk.nm
def bG(Z1 Z2 Z3 Z4 Z5 Q4:Mg)(hw:HW):cR:=fun ds G Q=>match ds with
 | [.ref p]=>∃ (P:Pp) (d s g:Mg),(gf Q4 hw G p d s g P/\P.ok 50)/\Q (.fl (P.sta.map Nm.d)) G
 | _=>False
def eY(b:Int)(k:Nat):Prop:=b / 2 ^ k % 2=1
instance (b:Int) (k:Nat):Decidable (eY b k):=by unfold eY;infer_instance
def fX(b:Int):Nat->List Nm->List Nm
 | _,[]=>[]
 | k,n::t=>(if eY b k then [n]else []) ++ fX b (k+1) t
def fE(_ _ _ _ _ _:Mg)(_:HW):cR:=fun ds G Q=>match ds with
 | [.lst ns,.int b]=>∃ names:List Nm,(ns=names.map Nm.d/\names.length<=50)/\Q (.fl ((fX b 0 names).map Nm.d)) G
 | _=>False
def Pp.by(P:Pp)(b:Int)(n:Nm):Prop:=n∈P.sta\/∃ j,P.wai[j]?=some n/\eY b j
def bT(Z1 Z2 Z3 Z4 Z5 Q4:Mg)(hw:HW):cR:=fun ds G Q=>match ds with
 | [.ref p,.int b]=>∃ (P:Pp) (d s g:Mg),(gf Q4 hw G p d s g P/\P.ok 50/\0<=b)/\∀ names:List Nm,names.length<=50->(∀ n,n∈names↔P.by b n)->Q (.fl (names.map Nm.d)) G
 | _=>False
def cD(Z1 Z2 Z3 Z4 Z5 Q4:Mg)(hw:HW):cR:=fun ds G Q=>match ds with
 | [.ref p,.int b]=>∃ (P:Pp) (d s g:Mg),(gf Q4 hw G p d s g P/\P.ok 50)/\∀ out names G',gH G G'->Srt P out->(∀ n,n∈names↔P.by b n)->Q (.fl ((dW P.old out names).map Seat.d3)) G'
 | _=>False
def Pp.thr(P:Pp):Prop:=∀ s∈P.sks,cB P.st s.nm.key=some (.str (Mj "waits"))\/cB P.st s.nm.key=some (.str (Mj "stands"))\/cB P.st s.nm.key=some (.str (Mj "wiped"))
def cw(Z1 Z2 Z3 Z4 Z5 Q4:Mg)(hw:HW):cR:=fun ds G Q=>match ds with
 | [.ref p,.str x,.int b]=>∃ (P:Pp) (d s g:Mg),(gf Q4 hw G p d s g P/\P.ok 50/\P.old=x/\P.thr/\0<=b)/\∀ G',gH G G'->Q (.bl true) G'
 | _=>False
def bd(_ _ _ _ _ _:Mg)(_:HW):cR:=fun ds G Q=>match ds with
 | [.int _,.int _]=>∀ n:Int,(0<=n/\n < 2147483647)->Q (.int n) G
 | _=>False
def bV(_ _ _ _ _ _:Mg)(_:HW):cR:=fun ds G Q=>match ds with
 | [.int _,.int m]=>(0<=m/\m<=40)/\∀ x:Str,x.length=m.toNat->Q (.str x) G
 | _=>False
def dI(_ _ _ _ _ _:Mg)(_:HW):cR:=fun ds G Q=>match ds with
 | [.int _]=>∀ x:Str,x.length<=40->Q (.str x) G
 | _=>False
def c8(_ _ _ _ _ _:Mg)(_:HW):cR:=fun ds G Q=>match ds with
 | [.int _]=>∀ pens:List Str,0 < pens.length->pens.length<=4->Q (.fl (pens.map D.str)) G
 | _=>False
def ef(Z1 Z2 Z3 Z4 Z5 Q4:Mg)(hw:HW):cR:=fun ds G Q=>match ds with
 | [.ref p,.str pen,.int z]=>∃ (P:Pp) (d s g:Mg),(gf Q4 hw G p d s g P/\P.ok 49/\0<=z)/\∀ k G',P.next pen k->k.wd<=60->yu [p,d,s,g] G G'->gf Q4 hw G' p d s g (P.add k)->Q .non G'
 | _=>False
def Pp.goes(P P':Pp):Prop:=P'.old=P.old/\(∀ n,P.ok n->P'.ok (n+1))/\(P.thr->P'.thr)
def c7(Z1 Z2 Z3 Z4 Z5 Q4:Mg)(hw:HW):cR:=fun ds G Q=>match ds with
 | [.ref p,.lst ps,.int _]=>∃ (P:Pp) (d s g:Mg) (pens:List Str),(gf Q4 hw G p d s g P/\P.ok 49/\ps=pens.map D.str/\0 < pens.length/\pens.length<=4)/\∀ G' P',P.goes P'->yu [p,d,s,g] G G'->gf Q4 hw G' p d s g P'->Q .non G'
 | _=>False
def ft(Z1 Z2 Z3 Z4 Z5:Mg)(Q4:Mg)(hw:List aJ->Int):cj:=sSeq (mM (cV (bA Js (ae 1) (eB lW (af (ae 0) (av))))) (bL (bA i8 (ae 0) (ae 1))) (d9))
 (bL (eC (.int 0)))
def gR(Z1 Z2 Z3 Z4 Z5:Mg)(Q4:Mg)(hw:List aJ->Int):cj:=sSeq (bN 2 (bA fI (bA vi (bA gA (bA gA (ae 0) (bA vi (eC (.int 7919)) (ae 1))) (eC (.int 1))) (eC (.int 48271))) (eC (.int 2147483647))))
 (bL (bA fI (bA vi (ae 2) (bA gA (bA kE (ae 2) (eC (.int 1009))) (eC (.int 69621)))) (eC (.int 2147483647))))
def gP(Z1 Z2 Z3 Z4 Z5:Mg)(Q4:Mg)(hw:List aJ->Int):cj:=sSeq (bN 2 (eC (.str " !\"#$&'()*+,-./0123456789:;<=>?@ABCDEFGHIJKLMNOPQRSTUVWXYZ[\\]^_`")))
 (sSeq (bN 2 (bA gA (ae 2) (eC (.str "abcdefghijklmnopqrstuvwxyz{|}~\n"))))
 (sSeq (bN 3 (eC (.str "")))
 (sSeq (jA (KW (af (ae 1) (av))) (gN 4) (sSeq (bN 0 (bA fI (bA gA (bA vi (ae 0) (eC (.int 48271))) (eC (.int 11))) (eC (.int 2147483647))))
 (bN 3 (bA gA (ae 3) (bA i8 (ae 2) (bA fI (ae 0) (eC (.int 95))))))))
 (bL (ae 3)))))
def jj(Z1 Z2 Z3 Z4 Z5:Mg)(Q4:Mg)(hw:List aJ->Int):cj:=sSeq (bN 1 (aL (bd Z1 Z2 Z3 Z4 Z5 Q4 hw) [] (af (ae 0) (af (eC (.int 7)) (av)))))
 (bL (aL (bV Z1 Z2 Z3 Z4 Z5 Q4 hw) [] (af (ae 1) (af (bA i8 (rT (af (eC (.int 0)) (af (eC (.int 1)) (af (bA fI (bA kE (ae 1) (eC (.int 4))) (eC (.int 9))) (af (bA fI (bA kE (ae 1) (eC (.int 4))) (eC (.int 41))) (av)))))) (bA fI (ae 1) (eC (.int 4)))) (av)))))
def iO(Z1 Z2 Z3 Z4 Z5:Mg)(Q4:Mg)(hw:List aJ->Int):cj:=sSeq (bN 1 (bA gA (eC (.int 1)) (bA fI (ae 0) (eC (.int 8)))))
 (sSeq (bN 2 (bA fI (bA kE (ae 0) (eC (.int 8))) (ae 1)))
 (sSeq (At 3 (rT (av)))
 (sSeq (jA (KW (af (bA gA (eC (.int 2)) (bA fI (bA kE (ae 0) (eC (.int 3))) (eC (.int 3)))) (av))) (gN 4) (sSeq (bN 5 (bA i8 (eC (.str "abcdefghijklmnopqrstuvwxyz")) (bA fI (bA gA (bA kE (ae 0) (eC (.int 64))) (bA vi (ae 4) (bA gA (eC (.int 1)) (bA fI (bA kE (ae 0) (eC (.int 5))) (eC (.int 8)))))) (eC (.int 26)))))
 (cH (iT (ae 3) (af (bA gA (bA gA (bA vi (eC (.str "m")) (ae 2)) (ae 5)) (bA vi (eC (.str "m")) (bA AV (bA AV (ae 1) (eC (.int 1))) (ae 2)))) (av))))))
 (jf 3))))
def gO(Z1 Z2 Z3 Z4 Z5:Mg)(Q4:Mg)(hw:List aJ->Int):cj:=sSeq (bN 3 (ae 1))
 (jA (gc (ae 2)) (gN 4) (sSeq (e9 hw (ae 0) (ae 4) (vU hw (ae 0) (ae 3)))
 (sSeq (e9 hw (ae 0) (ae 3) (ae 4))
 (bN 3 (ae 4)))))
def gM(Z1 Z2 Z3 Z4 Z5:Mg)(Q4:Mg)(hw:List aJ->Int):cj:=bL (fm 1 (KU (af (eC (.int 1)) (af (bA gA (ae 1) (eC (.int 1))) (av)))) (gN 0) (iC) (bA gA (ae 1) (lT (af (ae 0) (av)))))
def iJ(Z1 Z2 Z3 Z4 Z5:Mg)(Q4:Mg)(hw:List aJ->Int):cj:=bL (aL (bx Z1 Z2 Z3 Z4 Z5 Q4 hw) [] (af (Kh Jp (eC k_START) (KS) (wa (eC (.int 2)))) (af (eB lW (af (ae 0) (av))) (av))))
def dY(Z1 Z2 Z3 Z4 Z5:Mg)(Q4:Mg)(hw:List aJ->Int):cj:=bL (lT (af (bA i8 (ae 0) (eC (.int 1))) (af (bA i8 (ae 0) (eC (.int 0))) (av))))
def ji(Z1 Z2 Z3 Z4 Z5:Mg)(Q4:Mg)(hw:List aJ->Int):cj:=sSeq (bN 1 (qU hw))
 (sSeq (Dz (ae 0) (gN 2) (e9 hw (ae 1) (bA i8 (ae 2) (eC (.int 0))) (ae 2)))
 (bL (Bd (bc Z1 Z2 Z3 Z4 Z5 Q4 hw) (ae 1))))
def dM(Z1 Z2 Z3 Z4 Z5:Mg)(Q4:Mg)(hw:List aJ->Int):cj:=sSeq (jB [Z1,Z2,Z3,Z4,Z5] "name" (ae 0) (ae 1))
 (sSeq (jB [Z1,Z2,Z3,Z4,Z5] "time" (ae 0) (ae 2))
 (sSeq (jB [Z1,Z2,Z3,Z4,Z5] "anchor" (ae 0) (eC k_START))
 (jB [Z1,Z2,Z3,Z4,Z5] "names" (ae 0) (lT (av)))))
def fw(Z1 Z2 Z3 Z4 Z5:Mg)(Q4:Mg)(hw:List aJ->Int):cj:=sSeq (cH (aL (aG Z1 Z2 Z3 Z4 Z5 Q4 hw) [] (af (ae 0) (af (ae 1) (af (ae 2) (av))))))
 (sSeq (jB [Z1,Z2,Z3,Z4,Z5] "anchor" (ae 0) (ae 3))
 (jB [Z1,Z2,Z3,Z4,Z5] "signs" (ae 0) (ae 4)))
def dN(Z1 Z2 Z3 Z4 Z5:Mg)(Q4:Mg)(hw:List aJ->Int):cj:=sSeq (cH (aL (aG Z1 Z2 Z3 Z4 Z5 Q4 hw) [] (af (ae 0) (af (ae 1) (af (ae 2) (av))))))
 (jB [Z1,Z2,Z3,Z4,Z5] "names" (ae 0) (ae 3))
def d7(Z1 Z2 Z3 Z4 Z5:Mg)(Q4:Mg)(hw:List aJ->Int):cj:=sSeq (cH (aL (aG Z1 Z2 Z3 Z4 Z5 Q4 hw) [] (af (ae 0) (af (ae 1) (af (ae 2) (av))))))
 (sSeq (jB [Z1,Z2,Z3,Z4,Z5] "names" (ae 0) (ae 3))
 (jB [Z1,Z2,Z3,Z4,Z5] "word" (ae 0) (ae 4)))
def eQ(Z1 Z2 Z3 Z4 Z5:Mg)(Q4:Mg)(hw:List aJ->Int):cj:=sSeq (cH (aL (aG Z1 Z2 Z3 Z4 Z5 Q4 hw) [] (af (ae 0) (af (ae 1) (af (ae 2) (av))))))
 (sSeq (jB [Z1,Z2,Z3,Z4,Z5] "names" (ae 0) (ae 3))
 (jB [Z1,Z2,Z3,Z4,Z5] "anchor" (ae 0) (ae 4)))
def iI(Z1 Z2 Z3 Z4 Z5:Mg)(Q4:Mg)(hw:List aJ->Int):cj:=sSeq (bN 1 (bA i8 (ae 0) (eC (.int 0))))
 (sSeq (bN 2 (bA i8 (ae 0) (eC (.int 1))))
 (sSeq (bN 3 (bA i8 (ae 0) (eC (.int 2))))
 (sSeq (mM (cV (fk tD (bA i8 (ae 3) (eC (.int 0))) (eC (.str "put")))) (bL (kq Z2 (bz Z1 Z2 Z3 Z4 Z5 Q4 hw) [] (af (ae 1) (af (ae 2) (af (bA i8 (ae 3) (eC (.int 1))) (af (bA i8 (ae 3) (eC (.int 2))) (av))))))) (d9))
 (sSeq (mM (cV (fk tD (bA i8 (ae 3) (eC (.int 0))) (eC (.str "strike")))) (bL (kq Z3 (aX Z1 Z2 Z3 Z4 Z5 Q4 hw) [] (af (ae 1) (af (ae 2) (af (bA i8 (ae 3) (eC (.int 1))) (av)))))) (d9))
 (sSeq (mM (cV (fk tD (bA i8 (ae 3) (eC (.int 0))) (eC (.str "dress")))) (bL (kq Z4 (bg Z1 Z2 Z3 Z4 Z5 Q4 hw) [] (af (ae 1) (af (ae 2) (af (bA i8 (ae 3) (eC (.int 1))) (af (bA i8 (ae 3) (eC (.int 2))) (av))))))) (d9))
 (bL (kq Z5 (br Z1 Z2 Z3 Z4 Z5 Q4 hw) [] (af (ae 1) (af (ae 2) (af (bA i8 (ae 3) (eC (.int 1))) (af (bA i8 (ae 3) (eC (.int 2))) (av))))))))))))
def jY(Z1 Z2 Z3 Z4 Z5:Mg)(Q4:Mg)(hw:List aJ->Int):cj:=sSeq (At 1 (rT (av)))
 (sSeq (bN 2 (vU hw (ae 0) (eC k_START)))
 (sSeq (As (cV (bA za (ae 2) (eC .non))) (sSeq (cH (iT (ae 1) (af (ae 2) (av))))
 (bN 2 (vU hw (ae 0) (ae 2)))))
 (jf 1)))
def fu(Z1 Z2 Z3 Z4 Z5:Mg)(Q4:Mg)(hw:List aJ->Int):cj:=bL (rT (av))
def iP(Z1 Z2 Z3 Z4 Z5:Mg)(Q4:Mg)(hw:List aJ->Int):cj:=bL (aL (bx Z1 Z2 Z3 Z4 Z5 Q4 hw) [] (af (bU [Z1,Z2,Z3,Z4,Z5] "name" (ae 0)) (af (eB lW (af (bU [Z1,Z2,Z3,Z4,Z5] "signs" (ae 0)) (av))) (av))))
def g6(Z1 Z2 Z3 Z4 Z5:Mg)(Q4:Mg)(hw:List aJ->Int):cj:=bL (aL (bx Z1 Z2 Z3 Z4 Z5 Q4 hw) [] (af (bU [Z1,Z2,Z3,Z4,Z5] "name" (ae 0)) (af (eB lW (af (bU [Z1,Z2,Z3,Z4,Z5] "names" (ae 0)) (av))) (av))))
def jh(Z1 Z2 Z3 Z4 Z5:Mg)(Q4:Mg)(hw:List aJ->Int):cj:=sSeq (bN 2 (Bg hw (eC k_START) (eC .non)))
 (sSeq (cH (aL (cr Z1 Z2 Z3 Z4 Z5 Q4 hw) [] (af (ae 2) (af (eC k_START) (af (aL (cq Z1 Z2 Z3 Z4 Z5 Q4 hw) [] (af (ae 0) (av))) (av))))))
 (sSeq (jA (gc (fm 1 (gc (aL (cL Z1 Z2 Z3 Z4 Z5 Q4 hw) [] (af (ae 1) (av)))) (gN 0) (iC) (aL (cn Z1 Z2 Z3 Z4 Z5 Q4 hw) [] (af (ae 0) (av))))) (gN 3) (mM (cV (ye hw (bU [Z1,Z2,Z3,Z4,Z5] "anchor" (ae 3)) (ae 2))) (cH (aL (cr Z1 Z2 Z3 Z4 Z5 Q4 hw) [] (af (ae 2) (af (bU [Z1,Z2,Z3,Z4,Z5] "anchor" (ae 3)) (af (fg [(Z1,ar Z1 Z2 Z3 Z4 Z5 Q4 hw),(Z2,a_ Z1 Z2 Z3 Z4 Z5 Q4 hw),(Z3,ar Z1 Z2 Z3 Z4 Z5 Q4 hw),(Z4,ar Z1 Z2 Z3 Z4 Z5 Q4 hw),(Z5,aP Z1 Z2 Z3 Z4 Z5 Q4 hw)] "slots" [] (ae 3) av) (av)))))) (d9)))
 (bL (aL (ee Z1 Z2 Z3 Z4 Z5 Q4 hw) [] (af (ae 2) (av))))))
def l6(Z1 Z2 Z3 Z4 Z5:Mg)(Q4:Mg)(hw:List aJ->Int):cj:=bL (Bf hw (fm 1 (gc (ae 0)) (gN 0) (iC) (lT (af (ae 0) (af (eC (.bl true)) (av))))))
def iK(Z1 Z2 Z3 Z4 Z5:Mg)(Q4:Mg)(hw:List aJ->Int):cj:=bL (eB z_ (af (fm 1 (gc (fg [(Z1,ar Z1 Z2 Z3 Z4 Z5 Q4 hw),(Z2,a_ Z1 Z2 Z3 Z4 Z5 Q4 hw),(Z3,ar Z1 Z2 Z3 Z4 Z5 Q4 hw),(Z4,ar Z1 Z2 Z3 Z4 Z5 Q4 hw),(Z5,aP Z1 Z2 Z3 Z4 Z5 Q4 hw)] "slots" [] (ae 0) av)) (gN 0) (iC) (ye hw (ae 0) (ae 2))) (av)))
def iL(Z1 Z2 Z3 Z4 Z5:Mg)(Q4:Mg)(hw:List aJ->Int):cj:=sSeq (bN 3 (aL (dR Z1 Z2 Z3 Z4 Z5 Q4 hw) [] (af (ae 1) (av))))
 (sSeq (bN 4 (fm 1 (gc (aL (cL Z1 Z2 Z3 Z4 Z5 Q4 hw) [] (af (ae 0) (av)))) (gN 0) (cV (ye hw (bA i8 (ae 0) (eC (.int 0))) (ae 4))) (aL (cn Z1 Z2 Z3 Z4 Z5 Q4 hw) [] (af (ae 0) (av)))))
 (bL (fm 1 (gc (ae 4)) (gN 0) (sh (aL (cY Z1 Z2 Z3 Z4 Z5 Q4 hw) [] (af (ae 0) (af (ae 3) (av))))) (ae 0))))
def eJ(Z1 Z2 Z3 Z4 Z5:Mg)(Q4:Mg)(hw:List aJ->Int):cj:=sSeq (bN 2 (Be hw (af (aL (cq Z1 Z2 Z3 Z4 Z5 Q4 hw) [] (af (ae 0) (av))) (af (ae 0) (av)))))
 (sSeq (jA (gc (ae 1)) (gN 3) (mM (sh (eB (yo [(Z1,false),(Z2,true),(Z3,false),(Z4,false),(Z5,false)] Z2) (af (ae 3) (af (eC (.ref Z2)) av)))) (jA (CK (af (fg [(Z1,ar Z1 Z2 Z3 Z4 Z5 Q4 hw),(Z2,a_ Z1 Z2 Z3 Z4 Z5 Q4 hw),(Z3,ar Z1 Z2 Z3 Z4 Z5 Q4 hw),(Z4,ar Z1 Z2 Z3 Z4 Z5 Q4 hw),(Z5,aP Z1 Z2 Z3 Z4 Z5 Q4 hw)] "slots" [] (ae 3) av) (af (bU [Z1,Z2,Z3,Z4,Z5] "signs" (ae 3)) (av)))) (qS 2 (gF (gN 4) (gF (gN 5) (qT)))) (e9 hw (ae 2) (ae 4) (ae 5))) (d9)))
 (bL (ae 2)))
def dZ(Z1 Z2 Z3 Z4 Z5:Mg)(Q4:Mg)(hw:List aJ->Int):cj:=bL (eB ux (af (bU [Z1,Z2,Z3,Z4,Z5] "names" (ae 0)) (av)))
def fq(Z1 Z2 Z3 Z4 Z5:Mg)(Q4:Mg)(hw:List aJ->Int):cj:=sSeq (bN 1 (qU hw))
 (sSeq (jA (gc (ae 0)) (gN 2) (mM (sh (eB (yo [(Z1,false),(Z2,false),(Z3,true),(Z4,false),(Z5,false)] Z3) (af (ae 2) (af (eC (.ref Z3)) av)))) (jA (gc (fg [(Z1,ah Z1 Z2 Z3 Z4 Z5 Q4 hw),(Z2,ah Z1 Z2 Z3 Z4 Z5 Q4 hw),(Z3,ah Z1 Z2 Z3 Z4 Z5 Q4 hw),(Z4,ah Z1 Z2 Z3 Z4 Z5 Q4 hw),(Z5,ah Z1 Z2 Z3 Z4 Z5 Q4 hw)] "touched" [] (ae 2) av)) (gN 3) (e9 hw (ae 1) (ae 3) (eC (.bl true)))) (d9)))
 (bL (ae 1)))
def fO(Z1 Z2 Z3 Z4 Z5:Mg)(Q4:Mg)(hw:List aJ->Int):cj:=sSeq (bN 1 (qU hw))
 (sSeq (jA (gc (ae 0)) (gN 2) (mM (sh (eB (yo [(Z1,false),(Z2,false),(Z3,false),(Z4,false),(Z5,true)] Z5) (af (ae 2) (af (eC (.ref Z5)) av)))) (jA (CK (af (fg [(Z1,ah Z1 Z2 Z3 Z4 Z5 Q4 hw),(Z2,ah Z1 Z2 Z3 Z4 Z5 Q4 hw),(Z3,ah Z1 Z2 Z3 Z4 Z5 Q4 hw),(Z4,ah Z1 Z2 Z3 Z4 Z5 Q4 hw),(Z5,ah Z1 Z2 Z3 Z4 Z5 Q4 hw)] "touched" [] (ae 2) av) (af (fg [(Z1,ar Z1 Z2 Z3 Z4 Z5 Q4 hw),(Z2,a_ Z1 Z2 Z3 Z4 Z5 Q4 hw),(Z3,ar Z1 Z2 Z3 Z4 Z5 Q4 hw),(Z4,ar Z1 Z2 Z3 Z4 Z5 Q4 hw),(Z5,aP Z1 Z2 Z3 Z4 Z5 Q4 hw)] "slots" [] (ae 2) av) (av)))) (qS 2 (gF (gN 3) (gF (gN 4) (qT)))) (e9 hw (ae 1) (ae 3) (ae 4))) (d9)))
 (bL (ae 1)))
def gL(Z1 Z2 Z3 Z4 Z5:Mg)(Q4:Mg)(hw:List aJ->Int):cj:=sSeq (bN 1 (qU hw))
 (sSeq (jA (gc (ae 0)) (gN 2) (mM (sh (eB (yo [(Z1,false),(Z2,false),(Z3,false),(Z4,true),(Z5,false)] Z4) (af (ae 2) (af (eC (.ref Z4)) av)))) (jA (gc (fg [(Z1,ah Z1 Z2 Z3 Z4 Z5 Q4 hw),(Z2,ah Z1 Z2 Z3 Z4 Z5 Q4 hw),(Z3,ah Z1 Z2 Z3 Z4 Z5 Q4 hw),(Z4,ah Z1 Z2 Z3 Z4 Z5 Q4 hw),(Z5,ah Z1 Z2 Z3 Z4 Z5 Q4 hw)] "touched" [] (ae 2) av)) (gN 3) (e9 hw (ae 1) (ae 3) (bU [Z1,Z2,Z3,Z4,Z5] "word" (ae 2)))) (d9)))
 (bL (ae 1)))
def l5(Z1 Z2 Z3 Z4 Z5:Mg)(Q4:Mg)(hw:List aJ->Int):cj:=sSeq (bN 3 (aL (dH Z1 Z2 Z3 Z4 Z5 Q4 hw) [] (af (ae 0) (af (ae 1) (av)))))
 (sSeq (bN 4 (aL (cZ Z1 Z2 Z3 Z4 Z5 Q4 hw) [] (af (ae 1) (af (ae 2) (af (aL (dR Z1 Z2 Z3 Z4 Z5 Q4 hw) [] (af (ae 3) (av))) (av))))))
 (sSeq (bN 5 (aL (bS Z1 Z2 Z3 Z4 Z5 Q4 hw) [] (af (ae 0) (af (ae 4) (av)))))
 (sSeq (bN 6 (aL (b8 Z1 Z2 Z3 Z4 Z5 Q4 hw) [] (af (ae 4) (av))))
 (sSeq (bN 7 (aL (cz Z1 Z2 Z3 Z4 Z5 Q4 hw) [] (af (ae 4) (av))))
 (sSeq (bN 8 (aL (cK Z1 Z2 Z3 Z4 Z5 Q4 hw) [] (af (ae 4) (av))))
 (sSeq (bN 9 (qU hw))
 (sSeq (DA (ae 5) (gN 10) (mM (cV (mj hw (ae 10) (ae 6))) (e9 hw (ae 9) (qD hw (ae 7) (ae 10) (ae 10)) (ae 10)) (d9)))
 (sSeq (bN 11 (fm 1 (gc (ae 3)) (gN 0) (cV (ye hw (ae 0) (ae 10))) (lT (af (ae 0) (af (vU hw (ae 10) (ae 0)) (av))))))
 (bL (fm 2 (gc (ae 11)) (qS 2 (gF (gN 0) (gF (gN 1) (qT)))) (iC) (lT (af (ae 0) (af (ae 1) (af (vU hw (ae 7) (ae 1)) (af (qD hw (ae 10) (ae 1) (eC (.str ""))) (av))))))))))))))))
def jW(Z1 Z2 Z3 Z4 Z5:Mg)(Q4:Mg)(hw:List aJ->Int):cj:=bL (fm 1 (gc (aL (dQ Z1 Z2 Z3 Z4 Z5 Q4 hw) [] (af (ae 0) (af (ae 1) (af (ae 2) (av)))))) (gN 0) (iC) (Kh Jp (ae 0) (wa (eC (.int 1))) (KS)))
def eO(Z1 Z2 Z3 Z4 Z5:Mg)(Q4:Mg)(hw:List aJ->Int):cj:=bL (lU 1 (je Q4 am 1 (ae 0)) (gN 0) (cV (fk F5 (vU hw (je Q4 am 2 (ae 1)) (bA i8 (ae 0) (eC (.int 0)))) (eC k_WIPED))) (bA i8 (ae 0) (eC (.int 0))))
def gW(Z1 Z2 Z3 Z4 Z5:Mg)(Q4:Mg)(hw:List aJ->Int):cj:=bL (aL (cC Z1 Z2 Z3 Z4 Z5 Q4 hw) [] (af (je Q4 am 0 (ae 0)) (af (je Q4 am 1 (ae 0)) (af (bn Q4 am (bp Z1 Z2 Z3 Z4 Z5 Q4 hw) [] (ae 0) av) (av)))))
def iM(Z1 Z2 Z3 Z4 Z5:Mg)(Q4:Mg)(hw:List aJ->Int):cj:=mM (sg (cV (qE Jt Jt (eC (.int 0)) (ae 0) (ae 1)))) (m_) (d9)
def fP(Z1 Z2 Z3 Z4 Z5:Mg)(Q4:Mg)(hw:List aJ->Int):cj:=sSeq (mM (cV (fk tD (ae 1) (eC (.int 0)))) (bL (eC k_START)) (d9))
 (bL (bA i8 (bA i8 (ae 0) (bA AV (ae 1) (eC (.int 1)))) (eC (.int 0))))
def fR(Z1 Z2 Z3 Z4 Z5:Mg)(Q4:Mg)(hw:List aJ->Int):cj:=bL (aL (dQ Z1 Z2 Z3 Z4 Z5 Q4 hw) [] (af (je Q4 am 0 (ae 0)) (af (je Q4 am 1 (ae 0)) (af (bn Q4 am (bp Z1 Z2 Z3 Z4 Z5 Q4 hw) [] (ae 0) av) (av)))))
def j0(Z1 Z2 Z3 Z4 Z5:Mg)(Q4:Mg)(hw:List aJ->Int):cj:=bL (lT (af (bU [Z1,Z2,Z3,Z4,Z5] "name" (ae 0)) (af (bU [Z1,Z2,Z3,Z4,Z5] "time" (ae 0)) (af (lT (af (eC (.str "put")) (af (bU [Z1,Z2,Z3,Z4,Z5] "anchor" (ae 0)) (af (bU [Z1,Z2,Z3,Z4,Z5] "signs" (ae 0)) (av))))) (av)))))
def gT(Z1 Z2 Z3 Z4 Z5:Mg)(Q4:Mg)(hw:List aJ->Int):cj:=bL (lT (af (bU [Z1,Z2,Z3,Z4,Z5] "name" (ae 0)) (af (bU [Z1,Z2,Z3,Z4,Z5] "time" (ae 0)) (af (lT (af (eC (.str "strike")) (af (bU [Z1,Z2,Z3,Z4,Z5] "names" (ae 0)) (av)))) (av)))))
def iR(Z1 Z2 Z3 Z4 Z5:Mg)(Q4:Mg)(hw:List aJ->Int):cj:=bL (lT (af (bU [Z1,Z2,Z3,Z4,Z5] "name" (ae 0)) (af (bU [Z1,Z2,Z3,Z4,Z5] "time" (ae 0)) (af (lT (af (eC (.str "dress")) (af (bU [Z1,Z2,Z3,Z4,Z5] "names" (ae 0)) (af (bU [Z1,Z2,Z3,Z4,Z5] "word" (ae 0)) (av))))) (av)))))
def jk(Z1 Z2 Z3 Z4 Z5:Mg)(Q4:Mg)(hw:List aJ->Int):cj:=bL (lT (af (bU [Z1,Z2,Z3,Z4,Z5] "name" (ae 0)) (af (bU [Z1,Z2,Z3,Z4,Z5] "time" (ae 0)) (af (lT (af (eC (.str "move")) (af (bU [Z1,Z2,Z3,Z4,Z5] "names" (ae 0)) (af (bU [Z1,Z2,Z3,Z4,Z5] "anchor" (ae 0)) (av))))) (av)))))
def gZ(Z1 Z2 Z3 Z4 Z5:Mg)(Q4:Mg)(hw:List aJ->Int):cj:=sSeq (cH (iT (je Q4 am 1 (ae 0)) (af (fg [(Z2,dm Z1 Z2 Z3 Z4 Z5 Q4 hw),(Z3,bW Z1 Z2 Z3 Z4 Z5 Q4 hw),(Z4,cy Z1 Z2 Z3 Z4 Z5 Q4 hw),(Z5,cP Z1 Z2 Z3 Z4 Z5 Q4 hw)] "row" [] (ae 1) av) (av))))
 (sSeq (e9 hw (je Q4 am 2 (ae 0)) (bU [Z1,Z2,Z3,Z4,Z5] "name" (ae 1)) (eC k_WAITS))
 (sSeq (e9 hw (je Q4 am 3 (ae 0)) (bA i8 (bU [Z1,Z2,Z3,Z4,Z5] "name" (ae 1)) (eC (.int 0))) (bA i8 (bU [Z1,Z2,Z3,Z4,Z5] "name" (ae 1)) (eC (.int 1))))
 (sSeq (Bu Q4 am 4 (ae 0) (bU [Z1,Z2,Z3,Z4,Z5] "time" (ae 1)))
 (bL (bU [Z1,Z2,Z3,Z4,Z5] "name" (ae 1))))))
def da(Z1 Z2 Z3 Z4 Z5:Mg)(Q4:Mg)(hw:List aJ->Int):cj:=bL (lT (af (ae 1) (af (bA gA (qD hw (je Q4 am 3 (ae 0)) (ae 1) (eC (.int 0))) (eC (.int 1))) (av))))
def c_(Z1 Z2 Z3 Z4 Z5:Mg)(Q4:Mg)(hw:List aJ->Int):cj:=bL (bA gA (je Q4 am 4 (ae 0)) (eC (.int 1)))
def iQ(Z1 Z2 Z3 Z4 Z5:Mg)(Q4:Mg)(hw:List aJ->Int):cj:=sSeq (bN 4 (bn Q4 am (aU Z1 Z2 Z3 Z4 Z5 Q4 hw) [] (ae 0) av))
 (sSeq (cH (aL (cu Z1 Z2 Z3 Z4 Z5 Q4 hw) [] (af (ae 2) (af (eB lW (af (ae 4) (av))) (av)))))
 (bL (bn Q4 am (bf Z1 Z2 Z3 Z4 Z5 Q4 hw) [] (ae 0) (af (kq Z2 (bz Z1 Z2 Z3 Z4 Z5 Q4 hw) [] (af (bn Q4 am (aD Z1 Z2 Z3 Z4 Z5 Q4 hw) [] (ae 0) (af (ae 1) (av))) (af (bn Q4 am (aB Z1 Z2 Z3 Z4 Z5 Q4 hw) [] (ae 0) av) (af (aL (cv Z1 Z2 Z3 Z4 Z5 Q4 hw) [] (af (ae 4) (af (ae 2) (av)))) (af (ae 3) (av)))))) (av)))))
def eL(Z1 Z2 Z3 Z4 Z5:Mg)(Q4:Mg)(hw:List aJ->Int):cj:=sSeq (mM (sg (cV (qE Jt Js (eC (.int 0)) (ae 0) (ae 2)))) (m_) (d9))
 (mM (sg (cV (qE Js Jt (ae 0) (ae 1) (ae 2)))) (m_) (d9))
def eK(Z1 Z2 Z3 Z4 Z5:Mg)(Q4:Mg)(hw:List aJ->Int):cj:=bL (eB yn (af (fm 1 (gc (Kh Jp (ae 0) (wa (ae 1)) (wa (ae 2)))) (gN 0) (iC) (bA i8 (ae 0) (eC (.int 1)))) (av)))
def fx(Z1 Z2 Z3 Z4 Z5:Mg)(Q4:Mg)(hw:List aJ->Int):cj:=sSeq (bN 4 (bn Q4 am (aU Z1 Z2 Z3 Z4 Z5 Q4 hw) [] (ae 0) av))
 (sSeq (cH (aL (aR Z1 Z2 Z3 Z4 Z5 Q4 hw) [] (af (ae 2) (af (ae 3) (af (eB lW (af (ae 4) (av))) (av))))))
 (bL (bn Q4 am (bf Z1 Z2 Z3 Z4 Z5 Q4 hw) [] (ae 0) (af (kq Z3 (aX Z1 Z2 Z3 Z4 Z5 Q4 hw) [] (af (bn Q4 am (aD Z1 Z2 Z3 Z4 Z5 Q4 hw) [] (ae 0) (af (ae 1) (av))) (af (bn Q4 am (aB Z1 Z2 Z3 Z4 Z5 Q4 hw) [] (ae 0) av) (af (aL (aQ Z1 Z2 Z3 Z4 Z5 Q4 hw) [] (af (ae 4) (af (ae 2) (af (ae 3) (av))))) (av))))) (av)))))
def fT(Z1 Z2 Z3 Z4 Z5:Mg)(Q4:Mg)(hw:List aJ->Int):cj:=sSeq (bN 5 (bn Q4 am (aU Z1 Z2 Z3 Z4 Z5 Q4 hw) [] (ae 0) av))
 (sSeq (cH (aL (aR Z1 Z2 Z3 Z4 Z5 Q4 hw) [] (af (ae 2) (af (ae 3) (af (eB lW (af (ae 5) (av))) (av))))))
 (bL (bn Q4 am (bf Z1 Z2 Z3 Z4 Z5 Q4 hw) [] (ae 0) (af (kq Z4 (bg Z1 Z2 Z3 Z4 Z5 Q4 hw) [] (af (bn Q4 am (aD Z1 Z2 Z3 Z4 Z5 Q4 hw) [] (ae 0) (af (ae 1) (av))) (af (bn Q4 am (aB Z1 Z2 Z3 Z4 Z5 Q4 hw) [] (ae 0) av) (af (aL (aQ Z1 Z2 Z3 Z4 Z5 Q4 hw) [] (af (ae 5) (af (ae 2) (af (ae 3) (av))))) (af (ae 4) (av)))))) (av)))))
def gX(Z1 Z2 Z3 Z4 Z5:Mg)(Q4:Mg)(hw:List aJ->Int):cj:=bL (bn Q4 am (cx Z1 Z2 Z3 Z4 Z5 Q4 hw) [] (ae 0) (af (ae 1) (af (ae 2) (af (eC (.str "\n")) (av)))))
def gY(Z1 Z2 Z3 Z4 Z5:Mg)(Q4:Mg)(hw:List aJ->Int):cj:=sSeq (bN 5 (bn Q4 am (aU Z1 Z2 Z3 Z4 Z5 Q4 hw) [] (ae 0) av))
 (sSeq (cH (aL (aR Z1 Z2 Z3 Z4 Z5 Q4 hw) [] (af (ae 2) (af (ae 3) (af (eB lW (af (ae 5) (av))) (av))))))
 (sSeq (cH (aL (cu Z1 Z2 Z3 Z4 Z5 Q4 hw) [] (af (ae 4) (af (eB lW (af (ae 5) (av))) (av)))))
 (sSeq (bN 6 (aL (aQ Z1 Z2 Z3 Z4 Z5 Q4 hw) [] (af (ae 5) (af (ae 2) (af (ae 3) (av))))))
 (bL (bn Q4 am (bf Z1 Z2 Z3 Z4 Z5 Q4 hw) [] (ae 0) (af (kq Z5 (br Z1 Z2 Z3 Z4 Z5 Q4 hw) [] (af (bn Q4 am (aD Z1 Z2 Z3 Z4 Z5 Q4 hw) [] (ae 0) (af (ae 1) (av))) (af (bn Q4 am (aB Z1 Z2 Z3 Z4 Z5 Q4 hw) [] (ae 0) av) (af (ae 6) (af (aL (cv Z1 Z2 Z3 Z4 Z5 Q4 hw) [] (af (ae 5) (af (ae 4) (av)))) (av)))))) (av)))))))
def jZ(Z1 Z2 Z3 Z4 Z5:Mg)(Q4:Mg)(hw:List aJ->Int):cj:=sSeq (bN 3 (eB lW (af (bn Q4 am (bK Z1 Z2 Z3 Z4 Z5 Q4 hw) [] (ae 0) av) (av))))
 (sSeq (bN 4 (bA fI (ae 2) (eC (.int 8))))
 (sSeq (bN 5 (bA fI (bA kE (ae 2) (eC (.int 8))) (bA gA (ae 3) (eC (.int 1)))))
 (sSeq (mM (wJ (cV (bA Js (ae 4) (eC (.int 3)))) (cV (fk tD (ae 5) (ae 3)))) (sSeq (cH (bn Q4 am (cx Z1 Z2 Z3 Z4 Z5 Q4 hw) [] (ae 0) (af (ae 1) (af (ae 5) (af (aL (bV Z1 Z2 Z3 Z4 Z5 Q4 hw) [] (af (bA kE (ae 2) (eC (.int 11))) (af (bA i8 (rT (af (bA gA (eC (.int 1)) (bA fI (bA kE (ae 2) (eC (.int 307))) (eC (.int 4)))) (af (eC (.int 20)) (av)))) (eB BW (af (fk tD (bA fI (bA kE (ae 2) (eC (.int 16))) (eC (.int 16))) (eC (.int 3))) (av)))) (av)))) (av))))))
 (Dy)) (d9))
 (sSeq (bN 6 (bA gA (bA gA (ae 5) (eC (.int 1))) (bA fI (bA kE (ae 2) (eC (.int 1009))) (eB C3 (af (eC (.int 5)) (af (bA AV (ae 3) (ae 5)) (av)))))))
 (mM (cV (fk tD (ae 4) (eC (.int 3)))) (cH (bn Q4 am (b9 Z1 Z2 Z3 Z4 Z5 Q4 hw) [] (ae 0) (af (ae 1) (af (ae 5) (af (ae 6) (av)))))) (mM (cV (fk tD (ae 4) (eC (.int 4)))) (cH (bn Q4 am (cA Z1 Z2 Z3 Z4 Z5 Q4 hw) [] (ae 0) (af (ae 1) (af (ae 5) (af (ae 6) (af (bA i8 (rT (af (eC (.str "")) (af (eC (.str "bold")) (af (eC (.str "bolder")) (af (eC (.str "x")) (av)))))) (bA fI (bA kE (ae 2) (eC (.int 31))) (eC (.int 4)))) (av))))))) (mM (cV (fk tD (ae 4) (eC (.int 7)))) (cH (bn Q4 am (cN Z1 Z2 Z3 Z4 Z5 Q4 hw) [] (ae 0) (af (ae 1) (af (ae 5) (av))))) (cH (bn Q4 am (cO Z1 Z2 Z3 Z4 Z5 Q4 hw) [] (ae 0) (af (ae 1) (af (ae 5) (af (ae 6) (af (bA fI (bA kE (ae 2) (eC (.int 53))) (bA gA (ae 3) (eC (.int 1)))) (av))))))))))))))
def dA(Z1 Z2 Z3 Z4 Z5:Mg)(Q4:Mg)(hw:List aJ->Int):cj:=bL (lU 1 (je Q4 am 1 (ae 0)) (gN 0) (cV (fk tD (vU hw (je Q4 am 2 (ae 1)) (bA i8 (ae 0) (eC (.int 0)))) (ae 2))) (ae 0))
def eN(Z1 Z2 Z3 Z4 Z5:Mg)(Q4:Mg)(hw:List aJ->Int):cj:=bL (fm 1 (gc (bn Q4 am (aO Z1 Z2 Z3 Z4 Z5 Q4 hw) [] (ae 0) (af (eC k_WAITS) (av)))) (gN 0) (iC) (bA i8 (ae 0) (eC (.int 0))))
def de(Z1 Z2 Z3 Z4 Z5:Mg)(Q4:Mg)(hw:List aJ->Int):cj:=mM (cV (mj hw (ae 1) (je Q4 am 2 (ae 0)))) (m_) (d9)
def fQ(Z1 Z2 Z3 Z4 Z5:Mg)(Q4:Mg)(hw:List aJ->Int):cj:=sSeq (cH (bn Q4 am (bh Z1 Z2 Z3 Z4 Z5 Q4 hw) [] (ae 0) (af (ae 1) (av))))
 (bL (vU hw (je Q4 am 2 (ae 0)) (ae 1)))
def db(Z1 Z2 Z3 Z4 Z5:Mg)(Q4:Mg)(hw:List aJ->Int):cj:=mM (cV (fk F5 (bn Q4 am (aT Z1 Z2 Z3 Z4 Z5 Q4 hw) [] (ae 0) (af (ae 1) (av))) (eC k_WAITS))) (m_) (d9)
def dO(Z1 Z2 Z3 Z4 Z5:Mg)(Q4:Mg)(hw:List aJ->Int):cj:=sSeq (cH (bn Q4 am (aM Z1 Z2 Z3 Z4 Z5 Q4 hw) [] (ae 0) (af (ae 1) (av))))
 (e9 hw (je Q4 am 2 (ae 0)) (ae 1) (eC k_STANDS))
def gU(Z1 Z2 Z3 Z4 Z5:Mg)(Q4:Mg)(hw:List aJ->Int):cj:=sSeq (cH (bn Q4 am (aM Z1 Z2 Z3 Z4 Z5 Q4 hw) [] (ae 0) (af (ae 1) (av))))
 (e9 hw (je Q4 am 2 (ae 0)) (ae 1) (eC k_WIPED))
def iN(Z1 Z2 Z3 Z4 Z5:Mg)(Q4:Mg)(hw:List aJ->Int):cj:=sSeq (bN 3 (aL (bd Z1 Z2 Z3 Z4 Z5 Q4 hw) [] (af (ae 2) (af (eC (.int 1)) (av)))))
 (sSeq (bN 4 (bn Q4 am (aS Z1 Z2 Z3 Z4 Z5 Q4 hw) [] (ae 0) av))
 (mM (si (cV (fk tD (bA fI (ae 2) (eC (.int 6))) (eC (.int 5)))) (cV (fk F5 (ae 4) (rT (av))))) (sSeq (bN 5 (bA i8 (ae 4) (bA fI (bA kE (ae 3) (eC (.int 2))) (eB lW (af (ae 4) (av))))))
 (mM (cV (fk tD (bA fI (ae 3) (eC (.int 2))) (eC (.int 0)))) (cH (bn Q4 am (bw Z1 Z2 Z3 Z4 Z5 Q4 hw) [] (ae 0) (af (ae 5) (av)))) (cH (bn Q4 am (cM Z1 Z2 Z3 Z4 Z5 Q4 hw) [] (ae 0) (af (ae 5) (av)))))) (cH (aL (ef Z1 Z2 Z3 Z4 Z5 Q4 hw) [] (af (ae 0) (af (bA i8 (ae 1) (bA fI (bA kE (ae 2) (eC (.int 6))) (eB lW (af (ae 1) (av))))) (af (ae 3) (av))))))))
def eP(Z1 Z2 Z3 Z4 Z5:Mg)(Q4:Mg)(hw:List aJ->Int):cj:=bL (eB ux (af (je Q4 am 1 (ae 0)) (av)))
def eM(Z1 Z2 Z3 Z4 Z5:Mg)(Q4:Mg)(hw:List aJ->Int):cj:=sSeq (At 2 (rT (av)))
 (sSeq (bN 3 (eC (.int 0)))
 (sSeq (jA (gc (bn Q4 am (aN Z1 Z2 Z3 Z4 Z5 Q4 hw) [] (ae 0) av)) (gN 4) (sSeq (bN 5 (bn Q4 am (aT Z1 Z2 Z3 Z4 Z5 Q4 hw) [] (ae 0) (af (bA i8 (ae 4) (eC (.int 0))) (av))))
 (sSeq (mM (wJ (cV (fk tD (ae 5) (eC (.str "stands")))) (si (cV (fk tD (ae 5) (eC (.str "waits")))) (cV (fk tD (bA Is (bA F3 (ae 1) (ae 3)) (eC (.int 1))) (eC (.int 1)))))) (cH (iT (ae 2) (af (bA i8 (ae 4) (eC (.int 0))) (av)))) (d9))
 (mM (cV (fk tD (ae 5) (eC (.str "waits")))) (bN 3 (bA gA (ae 3) (eC (.int 1)))) (d9)))))
 (jf 2)))
def l7(Z1 Z2 Z3 Z4 Z5:Mg)(Q4:Mg)(hw:List aJ->Int):cj:=bL (fm 2 (Ez (af (ae 0) (av))) (qS 2 (gF (gN 0) (gF (gN 1) (qT)))) (cV (fk tD (bA fI (bA F3 (ae 3) (ae 0)) (eC (.int 2))) (eC (.int 1)))) (ae 1))
def d4(Z1 Z2 Z3 Z4 Z5:Mg)(Q4:Mg)(hw:List aJ->Int):cj:=bL (fm 1 (gc (bn Q4 am (aO Z1 Z2 Z3 Z4 Z5 Q4 hw) [] (ae 0) (af (eC k_STANDS) (av)))) (gN 0) (iC) (bA i8 (ae 0) (eC (.int 0))))
def d5(Z1 Z2 Z3 Z4 Z5:Mg)(Q4:Mg)(hw:List aJ->Int):cj:=bL (je Q4 am 0 (ae 0))
def jX(Z1 Z2 Z3 Z4 Z5:Mg)(Q4:Mg)(hw:List aJ->Int):cj:=sSeq (bN 2 (bA gA (bn Q4 am (bG Z1 Z2 Z3 Z4 Z5 Q4 hw) [] (ae 0) av) (aL (fE Z1 Z2 Z3 Z4 Z5 Q4 hw) [] (af (bn Q4 am (aS Z1 Z2 Z3 Z4 Z5 Q4 hw) [] (ae 0) av) (af (ae 1) (av))))))
 (bL (aL (cC Z1 Z2 Z3 Z4 Z5 Q4 hw) [] (af (bn Q4 am (bH Z1 Z2 Z3 Z4 Z5 Q4 hw) [] (ae 0) av) (af (yd (bn Q4 am (aN Z1 Z2 Z3 Z4 Z5 Q4 hw) [] (ae 0) av)) (af (ae 2) (av))))))
def gQ(Z1 Z2 Z3 Z4 Z5:Mg)(Q4:Mg)(hw:List aJ->Int):cj:=sSeq (At 3 (eB ux (af (bn Q4 am (aN Z1 Z2 Z3 Z4 Z5 Q4 hw) [] (ae 0) av) (av))))
 (sSeq (bN 4 (lU 1 (ae 3) (gN 0) (iC) (bn Q4 am (aT Z1 Z2 Z3 Z4 Z5 Q4 hw) [] (ae 1) (af (bA i8 (ae 0) (eC (.int 0))) (av)))))
 (sSeq (bN 5 (eB ux (af (bn Q4 am (bK Z1 Z2 Z3 Z4 Z5 Q4 hw) [] (ae 0) av) (av))))
 (sSeq (bN 6 (aL (cC Z1 Z2 Z3 Z4 Z5 Q4 hw) [] (af (ae 1) (af (ae 3) (af (aL (bT Z1 Z2 Z3 Z4 Z5 Q4 hw) [] (af (ae 0) (af (ae 2) (av)))) (av))))))
 (sSeq (At 7 (aL (cD Z1 Z2 Z3 Z4 Z5 Q4 hw) [] (af (ae 0) (af (ae 2) (av)))))
 (sSeq (mM (wJ (sg (sh (eB E4 (af (ae 7) (af (eC (.ty "list")) (av)))))) (cV (fk F4 (ae 7) (ae 6)))) (bL (eC (.bl false))) (d9))
 (sSeq (cH (iT (ae 7) (af (eC .non) (av))))
 (sSeq (bN 8 (eB lW (af (bn Q4 am (aS Z1 Z2 Z3 Z4 Z5 Q4 hw) [] (ae 0) av) (av))))
 (sSeq (mM (wJ (cV (fk F5 (aL (cD Z1 Z2 Z3 Z4 Z5 Q4 hw) [] (af (ae 0) (af (ae 2) (av)))) (ae 6))) (cV (fk F5 (aL (cD Z1 Z2 Z3 Z4 Z5 Q4 hw) [] (af (ae 0) (af (bA gA (ae 2) (bA Ei (eC (.int 5)) (ae 8))) (av)))) (aL (cD Z1 Z2 Z3 Z4 Z5 Q4 hw) [] (af (ae 0) (af (bA fI (ae 2) (bA Ei (eC (.int 1)) (ae 8))) (av))))))) (bL (eC (.bl false))) (d9))
 (sSeq (mM (wJ (cV (fk F4 (bn Q4 am (aN Z1 Z2 Z3 Z4 Z5 Q4 hw) [] (ae 0) av) (ae 3))) (cV (fk F5 (lU 1 (ae 3) (gN 0) (iC) (bn Q4 am (aT Z1 Z2 Z3 Z4 Z5 Q4 hw) [] (ae 1) (af (bA i8 (ae 0) (eC (.int 0))) (av)))) (ae 4)))) (bL (eC (.bl false))) (d9))
 (bL (IS (fk tD (bn Q4 am (bK Z1 Z2 Z3 Z4 Z5 Q4 hw) [] (ae 0) av) (ae 5)) (fk tD (aL (cD Z1 Z2 Z3 Z4 Z5 Q4 hw) [] (af (ae 0) (af (bA AV (bA Ei (eC (.int 1)) (ae 8)) (eC (.int 1))) (av)))) (ae 5)))))))))))))
def d6(Z1 Z2 Z3 Z4 Z5:Mg)(Q4:Mg)(hw:List aJ->Int):cj:=sSeq (sH Q4 [] "old" (ae 0) (ae 1))
 (sSeq (sH Q4 ["old"] "drawn" (ae 0) (yd (rT (av))))
 (sSeq (sH Q4 ["old","drawn"] "states" (ae 0) (qU hw))
 (sSeq (sH Q4 ["old","drawn","states"] "greatest" (ae 0) (EJ))
 (sH Q4 ["old","drawn","states","greatest"] "time" (ae 0) (eC (.int 0))))))
def wY(Z1 Z2 Z3 Z4 Z5:Mg)(Q4:Mg)(hw:List aJ->Int):cj:=sSeq (bN 1 (aL (bM Z1 Z2 Z3 Z4 Z5 Q4 hw) [] (af (ae 0) (af (eC (.int 0)) (av)))))
 (sSeq (bN 2 (aL (dI Z1 Z2 Z3 Z4 Z5 Q4 hw) [] (af (aL (bM Z1 Z2 Z3 Z4 Z5 Q4 hw) [] (af (ae 0) (af (eC (.int 1)) (av)))) (av))))
 (sSeq (bN 3 (aL (c8 Z1 Z2 Z3 Z4 Z5 Q4 hw) [] (af (ae 1) (av))))
 (sSeq (bN 4 (kq Q4 (bI Z1 Z2 Z3 Z4 Z5 Q4 hw) [] (af (ae 2) (av))))
 (sSeq (jA (KU (af (eC (.int 2)) (af (eB C3 (af (eB lW (af (ae 0) (av))) (af (eC (.int 22)) (av)))) (av)))) (gN 5) (sSeq (cH (aL (c7 Z1 Z2 Z3 Z4 Z5 Q4 hw) [] (af (ae 4) (af (ae 3) (af (bA i8 (ae 0) (ae 5)) (av))))))
 (mM (si (cV (fk tD (bA fI (ae 5) (eC (.int 6))) (eC (.int 4)))) (sg (sh (aL (cw Z1 Z2 Z3 Z4 Z5 Q4 hw) [] (af (ae 4) (af (ae 2) (af (aL (bd Z1 Z2 Z3 Z4 Z5 Q4 hw) [] (af (bA i8 (ae 0) (ae 5)) (af (eC (.int 5)) (av)))) (av)))))))) (bL (eC (.bl false))) (d9))))
 (sSeq (bN 6 (rT (af (eC (.int 0)) (af (bA fI (ae 1) (bA Iq (eC (.int 10)) (eC (.int 40)))) (af (aL (bd Z1 Z2 Z3 Z4 Z5 Q4 hw) [] (af (ae 1) (af (eC (.int 6)) (av)))) (af (bA fI (aL (bd Z1 Z2 Z3 Z4 Z5 Q4 hw) [] (af (ae 1) (af (eC (.int 8)) (av)))) (eC (.int 16))) (av)))))))
 (bL (eB z_ (af (fm 1 (gc (ae 6)) (gN 0) (iC) (aL (cw Z1 Z2 Z3 Z4 Z5 Q4 hw) [] (af (ae 5) (af (ae 3) (af (ae 0) (av)))))) (av)))))))))
def wl:String:="d9 cH bL Dy HC JJ mM m_ bN At jf Lh Bu sH ae eC bA fk qE IS L8 Ki L9 LB cV si wJ sg sh iC Hr lT rT av af gA oI F6 AV fI kE Iq vi Js Jt LQ L6 tD F5 i8 Kh KS wa Jp eB lW ux yn LD C3 LF E4 iS aL bn kq je Kk iT fm jA gc KW KU Lv Lf fA rU Fc gN qS gF qT val ie List.map_cons List.map_nil List.replicate List.length_cons List.length_nil List.cons_append List.nil_append List.append_nil List.getElem?_cons_zero List.getElem?_cons_succ List.getElem?_nil List.set_cons_zero List.set_cons_succ List.set_nil Nat.reduceAdd Nat.reduceSub Nat.reduceLeDiff Nat.zero_add Option.some.injEq Option.map_some decide_eq_true_eq true_and and_true and_self if_true if_false Bool.false_eq_true reduceCtorEq List.cons.injEq GO.ins.injEq GO.lst.injEq D.lst.injEq D.fl.injEq exists_eq_left' exists_eq_left exists_eq' az eT pl bu KF KE KD KC KB KA Kz Ky Kx Kw Kv Ku Kt Ks Kr qU EJ qD e9 lJ Kj Kg IR Lm Ir ko cT pc zw Gg IF Gf IE Ev Ge zG xU zF vM xT xW vO xV t7 vN zE xQ zD vJ xP vI t5 vH rO t3 xS vL xR t6 vK Bool.not_true Bool.not_false bU jB fg Bg IQ IP Bd Ln za t9 As vU ye mj LG BW if_true if_false Bf Be CK gg DA z_ yo Kf Gt LX Kg mj qD ko LQ yd Dz lU k_WAITS k_WIPED k_STANDS C3 Lo F4 Ei F3 Is Ez E4 iS k_START ug uf qB rQ w_ xg w8 xf w6 xc wZ xb rD oP zO zN vP x6 xZ Cn Cp Cm Co xC tF AW ui uh qC rR xa xh rE oQ vn vT vS rS uk vR yX yZ yW yY tG qj xD x9 x8 uj vQ AF AH AE AG vo rF ze bc cL bx aG bz aX bg br cn ar a_ aP cq cr ee dH dR cY cZ bS ah b8 cz cK dQ cC cu aR cv aQ dm bW cy cP bp bK aU aN aO aS bG aD aB bf bh aT aM cM bw bH bI b9 cx cN cA cO fE cD bd bM bV dI c8 ef c7 bT cw"
local macro_rules | `(tactic| walk_at "st") => do let ls <- (("sSeq " ++ wl).splitOn " ").toArray.mapM (fun s => `(Lean.Parser.Tactic.simpLemma| $(Lean.mkIdent s.toName):term)); `(tactic| simp only [$ls,*, *])
local macro_rules | `(tactic| walk_at "s1") => do let ls <- (wl.splitOn " ").toArray.mapM (fun s => `(Lean.Parser.Tactic.simpLemma| $(Lean.mkIdent s.toName):term)); `(tactic| simp only [$ls,*, *])
theorem ite2{b:Bool}{p q:Prop}(h1:b=true->p)(h2:b=false->q):if b=true then p else q:=by
 cases b
 ·rw[if_neg (by decide)];exact h2 rfl
 ·rw[if_pos rfl];exact h1 rfl
theorem iteF{p q:Prop}(h:q):if (false:Bool)=true then p else q:=by rw[if_neg (by decide)];exact h
theorem iteT{p q:Prop}(h:p):if (true:Bool)=true then p else q:=by rw[if_pos rfl];exact h
theorem lS{a b:Int}(h:0 < b):0<=a % b/\a % b < b:=⟨Int.emod_nonneg _ (by walk_at "o"),Int.emod_lt_of_pos _ h⟩
def zX(m:Str)(i:Int):Str:=⟨#[m.cps.toList.getD i.toNat 0]⟩
theorem yG{m:Str}{i:Int}(h0:0<=i)(h:i < m.length):L3.strAt m i=some (.str (zX m i)):=by
 have hl:i.toNat < m.cps.toList.length:=by simp only[Array.length_toList];have:m.length=m.cps.size:=rfl;omega
 unfold L3.strAt kN Gi;have h2:i < (m.cps.toList.length:Int):=by walk_at "o"
 rw[if_pos h0,if_pos h2];have hl':i.toNat < m.cps.size:=by simpa using hl
 simp[zX,hl']
theorem E5{α:Type}[Inhabited α]{f:α->D}{xs:List α}{i:Int}(h0:0<=i)(h:i < xs.length):kN (xs.map f) i=some (f (xs.getD i.toNat default)):=by
 rw[pr h0 (by rw[Mm];exact h)]
 have hi:i.toNat < xs.length:=by walk_at "o"
 simp[hi]
theorem qz{G:Gp}{p:Mg}{o:GO}(h:G p=none):gC (gset G p o) p=G:=by
 funext a
 by_cases e:a=p
 ·subst e;rw[eU,h]
 ·rw[eV e,ao e]
local macro_rules | `(tactic| walk_at "conds") => `(tactic| (repeat ((with_reducible refine And.intro ?cc ?_); (case cc => first | decide | omega | rfl))))
def bC(sp:cR)(rd:cj)(ns:List Str):Prop:=∀ ds G Q,sp ds G Q->rd { nx:=fun _ G'=>Q .non G',rt:=Q } (ie ns ds) G
def bD(sp:cR)(n:Nat):Prop:=∀ ds G Q,sp ds G Q->ds.length=n
theorem u8{k:Nat}{A:MA}(r:Room k A):A.units+8 < M5:=by have:=r.un;omega
theorem u4{k:Nat}{A:MA}(r:Room k A):A.units+4 < M5:=by have:=r.un;omega
theorem Lz{P:Mw}{w:ME}{K:PySem.W.Frag}{mg:Str->Option Mh}{base:MG}{k:Nat}{x:Str}{f:Mg}{fd:Mr}{ps:List Str}{sp:cR}(o:FnOk P w K mg base cU k f fd ps (ax K sp))(m:mg x=some (.ref f))(q:PySem.W.keepIn K (.ref f)=true)(b:eF K fd ps []):Fn3 P w K mg base k x [] sp:=⟨_,_,_,[],[],o,m,q,b,.nil,fun _=>RDs.nil⟩
theorem Lq{P:Mw}{w:ME}{K:PySem.W.Frag}{mg:Str->Option Mh}{base:MG}{k:Nat}{C:Mg}{x:Str}{f:Mg}{fd:Mr}{ps:List Str}{sp:cR}(c:Cls K C)(o:FnOk P w K mg base cU k f fd ps (ax K sp))(m:Meth K C x f)(b:eF K fd ps []):Mt3 P w K mg base k C x [] sp:=⟨c,_,_,_,[],[],o,m,b,.nil,fun _=>RDs.nil⟩
local macro_rules | `(tactic| walk_at "i") => `(tactic| first | exact Or.inl rfl | exact Or.inr rfl)
theorem mx(Z1 Z2 Z3 Z4 Z5 Q4:Mg)(hw:HW):bC (aG Z1 Z2 Z3 Z4 Z5 Q4 hw) (dM Z1 Z2 Z3 Z4 Z5 Q4 hw) ["self","name","time"]:=by
 intro ds G Q h;unfold aG at h;split at h
 ·rename_i a d t;obtain⟨C,hC,hG,p,n,rfl,h⟩:=h;have hs:=aj;unfold dM;walk_at "st";walk_at "conds";exact h
 ·exact h.elim
theorem p3(Z1 Z2 Z3 Z4 Z5 Q4:Mg)(hw:HW):bC (bz Z1 Z2 Z3 Z4 Z5 Q4 hw) (fw Z1 Z2 Z3 Z4 Z5 Q4 hw) ["self","name","time","anchor","signs"]:=by
 intro ds G Q h;unfold bz at h;split at h
 ·rename_i a d t b x;obtain⟨hG,p,n,s,rfl,rfl,h⟩:=h;have hs:=aj;have hc:Z2∈[Z1,Z2,Z3,Z4,Z5]:=by simp
  unfold fw;unfold Sl.d;walk_at "st";exact⟨Z2,hc,rfl,p,n,rfl,⟨hc,by decide⟩,⟨hc,by decide⟩,h⟩
 ·exact h.elim
theorem my(Z1 Z2 Z3 Z4 Z5 Q4:Mg)(hw:HW):bC (aX Z1 Z2 Z3 Z4 Z5 Q4 hw) (dN Z1 Z2 Z3 Z4 Z5 Q4 hw) ["self","name","time","names"]:=by
 intro ds G Q h;unfold aX at h;split at h
 ·obtain⟨hG,p,n,rfl,h⟩:=h;have hs:=aj;have hc:Z3∈[Z1,Z2,Z3,Z4,Z5]:=by simp
  unfold dN;walk_at "st";exact⟨Z3,hc,rfl,p,n,rfl,⟨hc,by decide⟩,h⟩
 ·exact h.elim
theorem nq(Z1 Z2 Z3 Z4 Z5 Q4:Mg)(hw:HW):bC (bg Z1 Z2 Z3 Z4 Z5 Q4 hw) (d7 Z1 Z2 Z3 Z4 Z5 Q4 hw) ["self","name","time","names","word"]:=by
 intro ds G Q h;unfold bg at h;split at h
 ·obtain⟨hG,p,n,rfl,h⟩:=h;have hs:=aj;have hc:Z4∈[Z1,Z2,Z3,Z4,Z5]:=by simp
  unfold d7;walk_at "st";exact⟨Z4,hc,rfl,p,n,rfl,⟨hc,by decide⟩,⟨hc,by decide⟩,h⟩
 ·exact h.elim
theorem oC(Z1 Z2 Z3 Z4 Z5 Q4:Mg)(hw:HW):bC (br Z1 Z2 Z3 Z4 Z5 Q4 hw) (eQ Z1 Z2 Z3 Z4 Z5 Q4 hw) ["self","name","time","names","anchor"]:=by
 intro ds G Q h;unfold br at h;split at h
 ·obtain⟨hG,p,n,s,rfl,rfl,h⟩:=h;have hs:=aj;have hc:Z5∈[Z1,Z2,Z3,Z4,Z5]:=by simp
  unfold eQ;unfold Sl.d;walk_at "st";exact⟨Z5,hc,rfl,p,n,rfl,⟨hc,by decide⟩,⟨hc,by decide⟩,h⟩
 ·exact h.elim
theorem sK(Z1 Z2 Z3 Z4 Z5 Q4:Mg)(hw:HW):bC (bx Z1 Z2 Z3 Z4 Z5 Q4 hw) (gM Z1 Z2 Z3 Z4 Z5 Q4 hw) ["name","how_many"]:=by
 intro ds G Q h;unfold bx at h;split at h
 ·rename_i p n m;obtain⟨⟨h1,h2⟩,h⟩:=h;have hs:=aj;unfold gM;walk_at "s1";refine⟨⟨by walk_at "o",by walk_at "o",by walk_at "o",by walk_at "o"⟩,f9 (fun d=>match d with|.int k=>.tup [.str p,.int n,.int k]|d=>d) (by rw[fh];omega) (fun d hd P hP=>?_) ?_⟩
  ·obtain⟨k,hk,rfl⟩:=QY.mp hd;walk_at "st";exact⟨rfl,by walk_at "o",by simp,by walk_at "o",hP _ rfl⟩
  ·have e:(gw 1 (m+1 - 1).toNat).map (fun d=>match d with|D.int k=>D.tup [.str p,.int n,.int k]|d=>d)=(eE p n m.toNat).map Sl.d:=by
    unfold gw eE;rw[MY,MY,show m+1 - 1=m by walk_at "o"]
    refine NF fun k _=>?_;simp only[Function.comp,Sl.d];rw[Int.add_comm]
   rw[e];exact h
 ·exact h.elim
theorem uP(Z1 Z2 Z3 Z4 Z5 Q4:Mg)(hw:HW):bC (cq Z1 Z2 Z3 Z4 Z5 Q4 hw) (iJ Z1 Z2 Z3 Z4 Z5 Q4 hw) ["old"]:=by
 intro ds G Q h;unfold cq at h;split at h
 ·rename_i x;obtain⟨h1,h⟩:=h;have hs:=aj;unfold iJ;have ec:L3.cutD [D.str (Mj ""),D.int 0,D.int 0] none (some 2)=[D.str (Mj ""),D.int 0]:=by rw[Gx (by decide)];rfl
  walk_at "st";refine⟨by decide,by walk_at "o",⟨by walk_at "o",by walk_at "o"⟩,?_⟩
  rw[Int.toNat_natCast];exact h
 ·exact h.elim
theorem pZ(Z1 Z2 Z3 Z4 Z5 Q4:Mg)(hw:HW):bC (ar Z1 Z2 Z3 Z4 Z5 Q4 hw) (fu Z1 Z2 Z3 Z4 Z5 Q4 hw) ["self"]:=by
 intro ds G Q h;unfold ar at h;split at h
 ·have hs:=aj;unfold fu;walk_at "st"
  first|exact⟨by walk_at "o",h⟩|omega
 ·exact h.elim
theorem uW(Z1 Z2 Z3 Z4 Z5 Q4:Mg)(hw:HW):bC (a_ Z1 Z2 Z3 Z4 Z5 Q4 hw) (iP Z1 Z2 Z3 Z4 Z5 Q4 hw) ["self"]:=by
 intro ds G Q h;unfold a_ at h;split at h
 ·rename_i a;obtain⟨s,b,x,⟨e,hG,hl⟩,h⟩:=h;have hs:=aj;have hc:Z2∈[Z1,Z2,Z3,Z4,Z5]:=by simp
  unfold bj at hG;rw[e]at hG;unfold iP;walk_at "st";refine⟨by walk_at "o",⟨by walk_at "o",by walk_at "o"⟩,?_⟩
  rw[Int.toNat_natCast];unfold made at h;rw[e]at h;exact h
 ·exact h.elim
theorem sV(Z1 Z2 Z3 Z4 Z5 Q4:Mg)(hw:HW):bC (aP Z1 Z2 Z3 Z4 Z5 Q4 hw) (g6 Z1 Z2 Z3 Z4 Z5 Q4 hw) ["self"]:=by
 intro ds G Q h;unfold aP at h;split at h
 ·rename_i a;obtain⟨s,b,ns,⟨e,hG,hl⟩,h⟩:=h;have hs:=aj;have hc:Z5∈[Z1,Z2,Z3,Z4,Z5]:=by simp
  unfold bj at hG;rw[e]at hG;unfold g6;walk_at "st";rw[Mm];refine⟨⟨by walk_at "o",by walk_at "o"⟩,?_⟩
  rw[Int.toNat_natCast];unfold made at h;rw[e]at h;exact h
 ·exact h.elim
theorem pI{a b:String}(h:Mj a≠Mj b):dG (.str (Mj a)) (.str (Mj b))=false:=bQ fun z=>h (by injection z)
theorem uO(Z1 Z2 Z3 Z4 Z5 Q4:Mg)(hw:HW):bC (cn Z1 Z2 Z3 Z4 Z5 Q4 hw) (iI Z1 Z2 Z3 Z4 Z5 Q4 hw) ["row","name","time","act"]:=by
 intro ds G Q h;unfold cn at h;split at h
 ·obtain⟨⟨pen,num,time,act⟩,rfl,h⟩:=h;have hs:=aj;unfold bj at h;unfold iI Sk.d;cases act with
  | put a x=>
   unfold Act.d;dsimp only at h;rw[ag];walk_at "s1";rw[ag];walk_at "s1";rw[ag];walk_at "s1";rw[ag];unfold Sl.d at h;unfold Sl.d;walk_at "s1";exact fun p hp=>⟨pen,num,a,rfl,rfl,h p hp⟩
  | strike ns=>
   unfold Act.d;dsimp only at h;rw[ag];walk_at "s1";rw[ag];walk_at "s1";rw[ag];walk_at "s1";have e0:=pI (a:="strike") (b:="put") (by decide +kernel)
   rw[ag];refine cJ false (fun K hK=>?_) (iteF ?_)
   ·walk_at "st"
   ·simp only[d9];rw[ag];walk_at "s1";exact fun p hp=>⟨pen,num,rfl,h p hp⟩
  | dress ns w=>
   unfold Act.d;dsimp only at h;rw[ag];walk_at "s1";rw[ag];walk_at "s1";rw[ag];walk_at "s1";have e0:=pI (a:="dress") (b:="put") (by decide +kernel)
   have e1:=pI (a:="dress") (b:="strike") (by decide +kernel)
   rw[ag];refine cJ false (fun K hK=>?_) (iteF ?_)
   ·walk_at "st"
   ·simp only[d9];rw[ag];refine cJ false (fun K hK=>?_) (iteF ?_)
    ·walk_at "st"
    ·simp only[d9];rw[ag];walk_at "s1";exact fun p hp=>⟨pen,num,rfl,h p hp⟩
  | move ns a=>
   unfold Act.d;dsimp only at h;rw[ag];walk_at "s1";rw[ag];walk_at "s1";rw[ag];walk_at "s1";have e0:=pI (a:="move") (b:="put") (by decide +kernel)
   have e1:=pI (a:="move") (b:="strike") (by decide +kernel)
   have e2:=pI (a:="move") (b:="dress") (by decide +kernel)
   rw[ag];refine cJ false (fun K hK=>?_) (iteF ?_)
   ·walk_at "st"
   ·simp only[d9];rw[ag];refine cJ false (fun K hK=>?_) (iteF ?_)
    ·walk_at "st"
    ·simp only[d9];rw[ag];refine cJ false (fun K hK=>?_) (iteF ?_)
     ·walk_at "st"
     ·simp only[d9];unfold Sl.d at h;unfold Sl.d;walk_at "s1";exact fun p hp=>⟨pen,num,a,rfl,rfl,h p hp⟩
 ·exact h.elim
theorem nh(Z1 Z2 Z3 Z4 Z5 Q4:Mg)(hw:HW):bC (bc Z1 Z2 Z3 Z4 Z5 Q4 hw) (dY Z1 Z2 Z3 Z4 Z5 Q4 hw) ["row"]:=by
 intro ds G Q h;unfold bc at h;split at h
 ·obtain⟨r,rfl,h⟩:=h;have hs:=aj;unfold dY Rw.d;walk_at "st"
  first|exact⟨by walk_at "o",h⟩|omega
 ·exact h.elim
def LZ(hw:List aJ->Int)(G:Gp)(p:Mg)(ss W:List Sl)(b:Sl)(a:D)(i:Nat)(σ:fH)(G':Gp):Prop:=∃ (x4:Option D) (Wi:List Sl) (bi:Sl) (kvs:List (List aJ×D)),σ=[some (.ref p),some a,some (.lst (ss.map Sl.d)),some bi.d,x4]/\G'=gset G p (.dT hw kvs)/\C7 kvs Wi/\bi∈Wi/\(∀ x∈ss.drop i,x∉Wi)/\cb Wi bi (ss.drop i)=cb W b ss/\Wi.length=W.length+i
theorem sL(Z1 Z2 Z3 Z4 Z5 Q4:Mg)(hw:HW):bC (cr Z1 Z2 Z3 Z4 Z5 Q4 hw) (gO Z1 Z2 Z3 Z4 Z5 Q4 hw) ["following","anchor","slots","behind","slot"]:=by
 intro ds G Q h;unfold cr at h;split at h
 ·rename_i p a xs;obtain⟨b,ss,W,kvs,⟨rfl,rfl,hG,hF,hb,nd,hf,hl⟩,h⟩:=h;have hs:=aj;unfold gO;rw[ag];have eb:(match b.d with|D.fl ds=>D.lst ds|d=>d)=b.d:=rfl
  simp only[bN,ae,ie,val,MF,OA,Oi,Od,List.replicate,M_,M4,MD,MS,MK,Nd,Nat.reduceAdd,Nat.reduceSub,eb];refine⟨LZ hw G p ss W b b.d,⟨_,W,b,kvs,rfl,?_,hF,hb,hf,rfl,rfl⟩,?_,?_⟩
  ·funext z
   by_cases e:z=p
   ·subst e;rw[az];exact hG
   ·rw[ao e]
  ·rintro i d σ G' hd ⟨x4,Wi,bi,kvs,rfl,rfl,hF,hb,hf,hI,hlen⟩
   rw[MH]at hd;cases hx:ss[i]? with
   | none=>rw[hx]at hd;cases hd
   | some x=>
    rw[hx]at hd;cases hd;obtain⟨hi,ex⟩:=List.getElem?_eq_some_iff.mp hx;have dr:ss.drop i=x::ss.drop (i+1):=by rw[<- ex];exact List.drop_eq_getElem_cons hi
    rw[dr]at hf hI;have hxW:=hf x MB;have fs:=EF hF hb hxW;have lk:=hF.2.2.2 bi hb;have lx:=hF.2.2.1 x hxW;have nx1:=hF.2.1;have nd':(x::ss.drop (i+1)).Nodup:=by rw[<- dr];exact nd.sublist (List.drop_sublist _ _)
    rw[NW]at nd';simp only[gN,Nd,MK];have kx:=xO x;have kb:=xO bi;have vx:val x.d=x.d:=rfl;have vb:val bi.d=bi.d:=rfl;rw[ag];show ∃ d,cT hw (gset G p (.dT hw kvs)) (.ref p) bi.d (some d)/\lJ hw (.ref p) x.d (val d) (gset G p (.dT hw kvs)) _
    refine⟨nx Wi bi,?_,?_⟩
    ·show (match gset G p (.dT hw kvs) p with|some (.dT hw' kvs)=>hw'=hw/\∃ ks,pc bi.d=some ks/\some (nx Wi bi)=cB kvs ks|some (.dK kvs)=>_|_=>False)
     rw[az];exact⟨rfl,bi.key,kb,lk.symm⟩
    ·rw[Iu];show (match gset G p (.dT hw kvs) p with|some (.dT hw' kvs)=>hw'=hw/\∃ ks,pc x.d=some ks/\kvs.length < Mp/\_|some (.dK kvs)=>_|some (.lst ds)=>_|_=>False)
     rw[az];refine⟨rfl,x.key,kx,by walk_at "o",?_⟩
     rw[eT];dsimp only;rw[ag];show (match gset G p (.dT hw (bB kvs x.key (nx Wi bi))) p with|some (.dT hw' kvs)=>hw'=hw/\∃ ks,pc bi.d=some ks/\kvs.length < Mp/\_|some (.dK kvs)=>_|some (.lst ds)=>_|_=>False)
     rw[az];refine⟨rfl,bi.key,kb,by have:=fF kvs x.key (nx Wi bi);omega,?_⟩
     rw[eT];refine⟨_,kL Wi bi x,x,_,rfl,rfl,fs,(f8 hb x).mpr (.inr rfl),fun y hy hW=>?_,?_,by rw[lP hb];omega⟩
     ·rcases (f8 hb y).mp hW with z|z
      ·exact hf y (Mz _ hy) z
      ·exact nd'.1 (z ▸ hy)
     ·exact hI
  ·rintro σ G' ⟨x4,Wi,bi,kvs,rfl,rfl,hF,hb,hf,hI,hlen⟩
   rw[Mm,List.drop_length]at hI;have:Wi=cb W b ss:=hI;rw[this]at hF;exact h _ hF
 ·exact h.elim
def LP(G:Gp)(p q:Mg)(R:List Sl)(m:Nat)(σ:fH)(G':Gp):Prop:=∃ i,i<=R.length/\m=R.length - i/\σ=[some (.ref p),some (.ref q),some (C9 (R.drop i))]/\G'=gset G q (.lst ((R.take i).map Sl.d))
theorem J7{W:List Sl}(hW:W.Nodup):∀ {pre post:List Sl} {c:Sl},W=pre ++ c::post->nx W c=C9 post:=by
 induction W with
 | nil=>intro pre post c h;simp at h
 | cons a t ih=>
  intro pre post c h;rw[NW]at hW;cases pre with
  | nil=>
   simp only[Od,List.cons.injEq]at h;obtain⟨rfl,rfl⟩:=h;simp[nx]
  | cons a' pre=>
   simp only[Oi,List.cons.injEq]at h;obtain⟨rfl,h⟩:=h;have hc:c∈t:=by rw[h];simp
   simp only[nx];rw[if_neg (fun (z:a=c)=>hW.1 (by rw[z];exact hc))]
   exact ih hW.2 h
theorem yN(Z1 Z2 Z3 Z4 Z5 Q4:Mg)(hw:HW):bC (ee Z1 Z2 Z3 Z4 Z5 Q4 hw) (jY Z1 Z2 Z3 Z4 Z5 Q4 hw) ["following","row","slot"]:=by
 intro ds G Q h;unfold ee at h;split at h
 ·rename_i p;obtain⟨R,kvs,⟨hG,hF,hl⟩,h⟩:=h;have hs:=aj;unfold jY;rw[ag];walk_at "s1";refine⟨by walk_at "o",fun q hq=>?_⟩
  have hpq:p≠q:=fun z=>by subst z;rw[hG]at hq;cases hq
  have gp:∀ o,gset G q o p=some (.dT hw kvs):=fun o=>by rw[ao hpq];exact hG
  have look:∀ c∈aF::R,∀ o,cT hw (gset G q o) (.ref p) c.d (some (nx (aF::R) c)):=fun c hc o=>by
   show (match gset G q o p with|some (.dT hw' kvs)=>hw'=hw/\∃ ks,pc c.d=some ks/\some (nx (aF::R) c)=cB kvs ks|some (.dK kvs)=>_|_=>False)
   rw[gp];exact⟨rfl,c.key,xO c,(hF.2.2.2 c hc).symm⟩
  rw[ag];show ∃ d,cT hw (gset G q (.lst [])) (.ref p) aF.d (some d)/\_
  refine⟨_,look aF (by simp) _,?_⟩
  have e0:nx (aF::R) aF=C9 R:=by simp[nx]
  dsimp only;rw[ag,e0,xA];simp only[Nd,MK];refine⟨LP G p q R,⟨R.length,0,M6 _,rfl,rfl,rfl⟩,?_⟩;have wc:∀ (a b:Option D) (d:D) (K:Bool->Gp->Prop) (G:Gp),cV (bA za (ae 2) (eC .non)) [a,b,some d] G K↔K (!t9 d) G:=fun a b d K G=>Iff.rfl
  rintro m σ G' ⟨i,hi,rfl,rfl,rfl⟩
  by_cases hlt:i < R.length
  ·have dr:R.drop i=R[i]::R.drop (i+1):=List.drop_eq_getElem_cons hlt;rw[dr];refine (wc _ _ (R[i]).d _ _).mpr ?_;dsimp only;rw[show (!t9 (R[i]).d)=true from rfl,if_pos rfl]
   have e1:nx (aF::R) R[i]=C9 (R.drop (i+1)):=J7 hF.1 (pre:=aF::R.take i) (by rw[Oi];congr 1;rw[<- dr];exact (List.take_append_drop i R).symm)
   refine⟨fun σ G'=>LP G p q R (R.length - (i+1)) σ G',fun σ2 G2 hN=>⟨_,by walk_at "o",hN⟩,?_⟩
   rw[ag];have ua:∀ (E:Ends3) (Z:D),cH (iT (ae 1) (af (ae 2) av)) E [some (.ref p),some (.ref q),some (R[i]).d] (gset G q (.lst ((R.take i).map Sl.d)))↔((R.take i).map Sl.d).length < Mp/\E.nx [some (.ref p),some (.ref q),some (R[i]).d] (gset G q (.lst ((R.take i).map Sl.d ++ [(R[i]).d]))):=fun E Z=>by
    unfold Sl.d;walk_at "s1"
   rw[show C9 (R[i]::R.drop (i+1))=(R[i]).d from rfl,ua _ .non]
   refine⟨by rw[Mm,Nk];omega,?_⟩
   dsimp only;show ∃ d,cT hw (gset G q _) (.ref p) (R[i]).d (some d)/\_
   refine⟨_,look R[i] (by simp) _,i+1,by walk_at "o",rfl,?_,?_⟩
   ·rw[e1,xA];rfl
   ·rw[MU,Ms hlt,M3];rfl
  ·have ei:i=R.length:=by walk_at "o"
   subst ei;rw[List.drop_length,MR];refine (wc _ _ .non _ _).mpr ?_;dsimp only;rw[show (!t9 D.non)=false from rfl,if_neg (by decide)]
   show jf 1 _ _ _
   simp only[jf,M4,M_,az];rw[qz hq];exact h
 ·exact h.elim
theorem Fk(vs:List Rw):(vs.map qr).map (·.2)=vs.map Rw.d:=by rw[MY];rfl
theorem DF{rs:List Rw}{i:Nat}{d:D}(h:(rs.map Rw.d)[i]?=some d):∃ r,rs[i]?=some r/\d=r.d:=by
 rw[MH]at h;cases e:rs[i]? with
 | none=>rw[e]at h;cases h
 | some r=>rw[e]at h;cases h;exact⟨r,rfl,rfl⟩
theorem key_at{rs:List Rw}{i:Nat}{d:D}(h:(rs.map Rw.key)[i]?=some d):∃ r,rs[i]?=some r/\d=r.key:=by
 rw[MH]at h;cases e:rs[i]? with
 | none=>rw[e]at h;cases h
 | some r=>rw[e]at h;cases h;exact⟨r,rfl,rfl⟩
theorem Fs(Z1 Z2 Z3 Z4 Z5 Q4:Mg)(hw:HW)(G:Gp){vs base:List Rw}(hv:vs.Pairwise lX)(hb:base.length < 64)(sub:∀ r∈vs,r∈base):
  SortBy (bc Z1 Z2 Z3 Z4 Z5 Q4 hw) G (vs.map Rw.d) (vs.map Rw.key) fun i=>PySem.W.rankIn Rw.lt vs (vs.getD i default) where
 few:=by
  rw[Mm];have:=hZ (qY hv) sub;omega
 len:=by rw[Mm,Mm]
 key:=fun i d kd h1 h2=>by
  obtain⟨r,e1,rfl⟩:=DF h1;obtain⟨r',e2,rfl⟩:=key_at h2;rw[e1]at e2;cases e2;exact⟨r,rfl,rfl,rfl⟩
 ki:=fun d hd=>by
  obtain⟨r,_,rfl⟩:=QY.mp hd;exact⟨_,_,rfl⟩
 cp:=fun a ha b hb=>by
  obtain⟨r,_,rfl⟩:=QY.mp ha;obtain⟨r',_,rfl⟩:=QY.mp hb;exact ID r r'
 lt:=fun i j a b h1 h2=>by
  obtain⟨r,e1,rfl⟩:=key_at h1;obtain⟨r',e2,rfl⟩:=key_at h2;rw[IA,PySem.W.rank_lt DB (MC e1),MI,MI,e1,e2];rfl
theorem wV(Z1 Z2 Z3 Z4 Z5 Q4:Mg)(hw:HW):bC (cL Z1 Z2 Z3 Z4 Z5 Q4 hw) (ji Z1 Z2 Z3 Z4 Z5 Q4 hw) ["rows","by_name","row"]:=by
 intro ds G Q h;unfold cL at h;split at h
 ·rename_i q;obtain⟨rs,base,⟨hq0,one,l1,l2,sub⟩,h⟩:=h;have hs:=aj;unfold ji;rw[ag];walk_at "s1";intro p hp;have hqp:q≠p:=fun z=>by subst z;rw[hp]at hq0;cases hq0
  rw[ag];walk_at "s1";refine⟨rs.map Rw.d,by rw[ao hqp];exact hq0,fun i σ G'=>∃ (vs:List Rw) (v:Option D),(σ=[some (.ref q),some (.ref p),v]/\G'=gset G p (.dT hw (vs.map qr)))/\vs.Pairwise lX/\∀ r,r∈vs↔r∈rs.take i,⟨[],none,⟨rfl,rfl⟩,.nil,by simp⟩,?_,?_,?_⟩
  ·rintro i σ G' ⟨vs,v,⟨_,rfl⟩,_⟩
   rw[ao hqp];exact hq0
  ·rintro i d σ G' hd ⟨vs,v,⟨rfl,rfl⟩,hv,hm⟩
   obtain⟨r,hr,rfl⟩:=DF hd;have hr':=MC hr;have tk:∀ x,x∈rs.take (i+1)↔x∈rs.take i\/x=r:=fun x=>by
    rw[MU,hr,OE];simp
   have lv:vs.length<=base.length:=hZ (qY hv) fun x hx=>sub x (N_ ((hm x).mp hx));simp only[gN,Nd,MK];have fin:∀ G2,G2=gset G p (.dT hw (bB (vs.map qr) (qO r) r.d))->∃ (vs:List Rw) (v:Option D),(([some (D.ref q),some (.ref p),some r.d]:fH)=[some (.ref q),some (.ref p),v]/\G2=gset G p (.dT hw (vs.map qr)))/\vs.Pairwise lX/\∀ x,x∈vs↔x∈rs.take (i+1):=by
    intro G2 e
    by_cases hin:r∈vs
    ·refine⟨vs,_,⟨rfl,?_⟩,hv,fun x=>?_⟩
     ·rw[e,HJ hin fun a ha pp nn=>one a (N_ ((hm a).mp ha)) r hr' pp nn]
     ·rw[tk,hm];constructor
      ·exact .inl
      ·rintro (z|rfl)
       ·exact z
       ·exact (hm _).mp hin
    ·have ap:∀ a∈vs,lX a r:=fun a ha z=>hin (by
      have:=one a (N_ ((hm a).mp ha)) r hr' z.1 z.2;subst this;exact ha)
     refine⟨vs ++ [r],_,⟨rfl,?_⟩,?_,fun x=>?_⟩
     ·rw[e,put_new ap]
     ·rw[List.pairwise_append];exact⟨hv,List.pairwise_singleton _ _,fun a ha b hb=>by rw[Os.mp hb];exact ap a ha⟩
     ·rw[tk,OE,hm,Os]
   refine (show e9 hw (ae 1) (bA i8 (ae 2) (eC (.int 0))) (ae 2) _ [some (D.ref q),some (.ref p),some r.d] _ from ?_)
   show (match (gset G p (.dT hw (vs.map qr))) p with
    | some (.dT hw' kvs)=>hw'=hw/\∃ ks,pc (.tup [.str r.pen,.int r.num])=some ks/\kvs.length < Mp/\_
    | some (.dK kvs)=>_
    | some (.lst ds)=>_
    | _=>False)
   rw[az];exact⟨rfl,qO r,rfl,by rw[Mm];omega,fin _ (by rw[eT];rfl)⟩
  ·rintro σ G' ⟨vs,v,⟨rfl,rfl⟩,hv,hm⟩
   rw[Mm,MR]at hm;show (match (gset G p (.dT hw (vs.map qr))) p with
    | some (.dT _ kvs)=>∃ ks r,SortBy (bc Z1 Z2 Z3 Z4 Z5 Q4 hw) (gset G p (.dT hw (vs.map qr))) (kvs.map (·.2)) ks r/\∀ p':List Nat,p'.Perm (List.range (kvs.map (·.2)).length)->(p'.map r).Pairwise (·<=·)->Q (.fl (p'.map fun i=>(kvs.map (·.2)).getD i .non)) (gset G p (.dT hw (vs.map qr)))
    | _=>False)
   rw[az];dsimp only;rw[Fk];refine⟨vs.map Rw.key,_,Fs Z1 Z2 Z3 Z4 Z5 Q4 hw _ hv l2 (fun r hr=>sub r ((hm r).mp hr)),fun q hq hsq=>?_⟩;rw[Mm]at hq;obtain⟨st,mem⟩:=Du hv hq hsq;have e:(q.map fun i=>(vs.map Rw.d).getD i .non)=(q.map fun i=>vs.getD i default).map Rw.d:=by
    rw[MY];refine NF fun i hi=>?_;have li:i < vs.length:=mem_range.mp (hq.mem_iff.mp hi);simp[li]
   rw[e];exact h _ _ (gH.refl.gset hp) st fun r=>(mem r).trans (hm r)
 ·exact h.elim
theorem Au{sks:List Sk}:∀ {out:List Rw},(∀ r∈out,r∈sks.map Sk.rw)->∃ o:List Sk,out=o.map Sk.rw/\∀ s∈o,s∈sks
 | [],_=>⟨[],rfl,fun s hs=>by simp at hs⟩
 | r::t,h=>by
  obtain⟨o,e,ho⟩:=Au fun x hx=>h x (Mz _ hx);obtain⟨s,hs,er⟩:=QY.mp (h r MB);refine⟨s::o,by rw[e,<- er];rfl,fun x hx=>?_⟩
  rcases MV.mp hx with z|z
  ·rw[z];exact hs
  ·exact ho x z
theorem Act.d_inj{a b:Act}(h:a.d=b.d):a=b:=by
 have sl:∀ {xs ys:List Sl},xs.map Sl.d=ys.map Sl.d->xs=ys:=fun {xs ys} e=>List.map_inj_right (f:=Sl.d) (fun x y=>Sl.d_inj) |>.mp e
 have ne:∀ {x y:String},Mj x≠Mj y->D.str (Mj x)≠D.str (Mj y):=fun h z=>h (by injection z)
 cases a<;>cases b<;>simp only[Act.d,D.tup.injEq,List.cons.injEq,D.str.injEq,and_true,true_and,reduceCtorEq,and_false,false_and]at h
 ·obtain⟨h1,h2⟩:=h;rw[Sl.d_inj h1,h2]
 all_goals first
  | (exact absurd h (by decide +kernel))
  | (exact absurd h.1 (by decide +kernel))
  | skip
 ·rw[sl h]
 ·rw[sl h.1,h.2]
 ·rw[sl h.1,Sl.d_inj h.2]
theorem Sk.rw_inj{a b:Sk}(h:a.rw=b.rw):a=b:=by
 obtain⟨a1,a2,a3,a4⟩:=a;obtain⟨b1,b2,b3,b4⟩:=b;simp only[Sk.rw,Rw.mk.injEq]at h;obtain⟨rfl,rfl,rfl,h⟩:=h;rw[Act.d_inj h]
theorem ul(Z1 Z2 Z3 Z4 Z5 Q4:Mg)(hw:HW){σ:fH}{G:Gp}{p:Mg}{s:Sk}{i:Nat}{Q:mT}(hσ:σ[i]?=some (some (.ref p)))(hG:G p=some (bj Z1 Z2 Z3 Z4 Z5 Q4 s))(h:Q s.act.anch.d G):bU [Z1,Z2,Z3,Z4,Z5] "anchor" (ae i) σ G Q:=by
 obtain⟨pen,num,time,act⟩:=s;unfold bU ae;rw[hσ];cases act<;>(simp only[bj]at hG;simp only[hG];refine⟨by simp,?_⟩;first|exact h)
theorem j8(Z1 Z2 Z3 Z4 Z5 Q4:Mg)(hw:HW){σ:fH}{G:Gp}{p:Mg}{s:Sk}{i:Nat}{Q:mT}(hσ:σ[i]?=some (some (.ref p)))(hG:G p=some (bj Z1 Z2 Z3 Z4 Z5 Q4 s))(hm:s.act.many<=1000)(h:Q (.fl ((made s).map Sl.d)) G):
  fg [(Z1,ar Z1 Z2 Z3 Z4 Z5 Q4 hw),(Z2,a_ Z1 Z2 Z3 Z4 Z5 Q4 hw),(Z3,ar Z1 Z2 Z3 Z4 Z5 Q4 hw),(Z4,ar Z1 Z2 Z3 Z4 Z5 Q4 hw),(Z5,aP Z1 Z2 Z3 Z4 Z5 Q4 hw)] "slots" [] (ae i) av σ G Q:=by
 obtain⟨pen,num,time,act⟩:=s;unfold fg ae;rw[hσ];cases act with
 | put a x=>
  have hG':=hG;simp only[bj]at hG;simp only[hG];exact⟨by decide +kernel,a_ Z1 Z2 Z3 Z4 Z5 Q4 hw,by simp,⟨_,a,x,⟨rfl,hG',hm⟩,h⟩⟩
 | strike ns=>
  simp only[bj]at hG;simp only[hG];exact⟨by decide +kernel,ar Z1 Z2 Z3 Z4 Z5 Q4 hw,by simp,h⟩
 | dress ns w=>
  simp only[bj]at hG;simp only[hG];exact⟨by decide +kernel,ar Z1 Z2 Z3 Z4 Z5 Q4 hw,by simp,h⟩
 | move ns a=>
  have hG':=hG;simp only[bj]at hG;simp only[hG];exact⟨by decide +kernel,aP Z1 Z2 Z3 Z4 Z5 Q4 hw,by simp,⟨_,a,ns,⟨rfl,hG',hm⟩,h⟩⟩
def E_(Z1 Z2 Z3 Z4 Z5 Q4:Mg)(G:Gp)(ps:List Mg)(o:List Sk):Prop:=∀ (j:Nat) p s,ps[j]?=some p->o[j]?=some s->G p=some (bj Z1 Z2 Z3 Z4 Z5 Q4 s)
theorem qi(Z1 Z2 Z3 Z4 Z5 Q4:Mg)(s:Sk):∃ C L ds,bj Z1 Z2 Z3 Z4 Z5 Q4 s=.ins C L ds:=by
 obtain⟨pen,num,time,act⟩:=s;cases act<;>exact⟨_,_,_,rfl⟩
theorem oo(n:Nat):∀ (o:List Sk) (W:List Sl),(∀ s∈o,s.act.many<=1000)->(o.foldl fL W).length<=W.length+1000*o.length
 | [],W,_=>by simp
 | s::t,W,h=>by
  have h1:=h s MB;have ih:=oo n t (fL W s) fun x hx=>h x (Mz _ hx);have h2:(fL W s).length<=W.length+1000:=by
   unfold fL;split
   ·rename_i ha;rw[mP ha];have:(made s).length=s.act.many:=cF _ _ _;omega
   ·omega
  simp only[OW,MD];omega
def L4(Z1 Z2 Z3 Z4 Z5 Q4:Mg)(hw:List aJ->Int)(G:Gp)(f:Mg)(ps:List Mg)(o:List Sk)(n:Nat)(x0 x1:Option D)(i:Nat)(σ:fH)(G':Gp):Prop:=∃ (x3:Option D) (kvs:List (List aJ×D)),σ=[x0,x1,some (.ref f),x3]/\gH G G'/\E_ Z1 Z2 Z3 Z4 Z5 Q4 G' ps o/\G' f=some (.dT hw kvs)/\C7 kvs (ng n (o.take i))
theorem wU(Z1 Z2 Z3 Z4 Z5 Q4:Mg)(hw:HW):bC (dH Z1 Z2 Z3 Z4 Z5 Q4 hw) (jh Z1 Z2 Z3 Z4 Z5 Q4 hw) ["old","strokes","following","stroke"]:=by
 intro ds G Q h;unfold dH at h;split at h
 ·rename_i x q;obtain⟨sks,base,⟨hq0,hx,one,l1,l2,sub,ok⟩,h⟩:=h;have hs:=aj;unfold jh;rw[ag];show ∀ f,G f=none->(match gset G f (.dT hw []) f with|some (.dT hw' [])=>hw'=hw/\∃ ks,pc aF.d=some ks/\_|_=>False)
  intro f hf;have hqf:q≠f:=fun z=>by subst z;rw[hf]at hq0;cases hq0
  rw[az];refine⟨rfl,aF.key,rfl,?_⟩;rw[eT];dsimp only;rw[ag];simp only[Nd,MK,ie,MF,OA,Oi,Od,List.replicate,MD,MS,Nat.reduceAdd,Nat.reduceSub];show x.length<=1000/\(∃ (b:Sl) (ss W:List Sl) (kvs:List (List aJ×D)),(aF.d=b.d/\(gy x.length).map Sl.d=ss.map Sl.d/\gset G f (.dT hw [(aF.key,.non)]) f=some (.dT hw kvs)/\C7 kvs W/\b∈W/\ss.Nodup/\(∀ x∈ss,x∉W)/\W.length+ss.length<=900000)/\∀ T4,C7 T4 (cb W b ss)->_)
  have ol:(gy x.length).length=x.length:=cF _ _ _;refine⟨hx,aF,gy x.length,[aF],_,⟨rfl,rfl,az,CQ (fun _=>True),by simp,i9 _ _ _,fun y hy hW=>?_,by rw[ol];simp;omega⟩,fun kvs hF=>?_⟩
  ·obtain⟨_,_,hk⟩:=fZ hy;rw[Os.mp hW]at hk;exact absurd hk (by decide)
  ·rw[eT];dsimp only;rw[ag];walk_at "s1";refine⟨sks.map Sk.rw,base.map Sk.rw,⟨by rw[ao hqf,hq0,MY];rfl,one,by rw[Mm];exact l1,by rw[Mm];exact l2,fun r hr=>?_⟩,fun out G1 hE st mem=>?_⟩
   ·obtain⟨s,hs',rfl⟩:=QY.mp hr;exact QY.mpr ⟨s,sub s hs',rfl⟩
   obtain⟨o,rfl,ho⟩:=Au (sks:=sks) (out:=out) fun r hr=>(mem r).mp hr;have memo:∀ s,s∈o↔s∈sks:=fun s=>⟨ho s,fun hs'=>by
    obtain⟨s',h1,h2⟩:=QY.mp ((mem s.rw).mpr (QY.mpr ⟨s,hs',rfl⟩));rw[<- Sk.rw_inj h2];exact h1⟩
   have lo:o.length < 64:=by
    have:=hZ (fK st) (ys:=base.map Sk.rw) fun r hr=>by
     obtain⟨s,hs',rfl⟩:=QY.mp hr;exact QY.mpr ⟨s,sub s (ho s hs'),rfl⟩
    rw[Mm,Mm]at this;omega
   have hG1:G1 f=some (.dT hw kvs):=hE f _ az;have hE1:gH G G1:=fun a o' ha=>hE a o' (by
    have:a≠f:=fun z=>by subst z;rw[hf]at ha;cases ha
    rw[ao this];exact ha)
   have dmap:(o.map Sk.rw).map Rw.d=o.map Sk.d:=by rw[MY];rfl
   rw[dmap];refine⟨by rw[Mm];omega,fun i acc G2=>∃ ps:List Mg,ps.length=i/\acc=ps.map D.ref/\gH G1 G2/\E_ Z1 Z2 Z3 Z4 Z5 Q4 G2 ps o,⟨[],rfl,rfl,gH.refl,fun j p s hj=>by simp at hj⟩,?_,?_⟩
   ·rintro i d acc G2 hd ⟨ps,rfl,rfl,hE2,hO⟩
    rw[MH]at hd;cases hsj:o[ps.length]? with
    | none=>rw[hsj]at hd;cases hd
    | some s=>
     rw[hsj]at hd;cases hd;refine⟨⟨by simp,rfl⟩,?_⟩
     show ∃ s':Sk,s.d=s'.d/\∀ p,G2 p=none->_
     refine⟨s,rfl,fun p hp=>⟨ps ++ [p],by simp,by rw[M3];rfl,fun a o' ha=>?_,fun j q s' hj hs'=>?_⟩⟩
     ·have:a≠p:=fun z=>by subst z;rw[hE2 a o' ha]at hp;cases hp
      rw[ao this];exact hE2 a o' ha
     ·rw[List.getElem?_append]at hj;split at hj
      ·have h1:=hO j q s' hj hs';have:q≠p:=fun z=>by subst z;rw[h1]at hp;cases hp
       rw[ao this];exact h1
      ·rename_i hge;have hj0:j=ps.length:=by
        by_cases z:j - ps.length=0
        ·omega
        ·obtain⟨k,hk⟩:∃ k,j - ps.length=k+1:=⟨j - ps.length - 1,by walk_at "o"⟩
         rw[hk]at hj;simp at hj
       subst hj0;simp at hj;subst hj;rw[hsj]at hs';cases hs';exact az
   ·rintro acc G2 ⟨ps,hl,rfl,hE2,hO⟩
    rw[Mm]at hl;show L3.ForIn _ _ _ _ (ps.map D.ref) G2
    refine⟨L4 Z1 Z2 Z3 Z4 Z5 Q4 hw G f ps o x.length (some (.str x)) (some (.ref q)),⟨_,kvs,rfl,hE1.trans hE2,hO,hE2 f _ hG1,hF⟩,?_,?_⟩
    ·rintro i d σ G3 hd ⟨x3,kvs3,rfl,hE3,hO3,hf3,hF3⟩
     rw[MH]at hd;cases hpj:ps[i]? with
     | none=>rw[hpj]at hd;cases hd
     | some p=>
      rw[hpj]at hd;cases hd;have hil:i < o.length:=by have:=(List.getElem?_eq_some_iff.mp hpj).1;omega
      have hsi:o[i]?=some o[i]:=Ms hil;have TJ:=hO3 i p _ hpj hsi;have oks:=ok o[i] (ho _ (Ot hil));have tk:o.take (i+1)=o.take i ++ [o[i]]:=by rw[MU,hsi];rfl
      have fr:Bm (o.take i) (ng x.length (o.take i)):=by
       have:=zM x.length (o.take i) [] _ (Bc x.length)
       simpa[ng]using this
      have apart:∀ r∈o.take i,¬ (r.pen=(o[i]).pen/\r.num=(o[i]).num):=fun r hr z=>by
       obtain⟨j,hj,er⟩:=List.mem_iff_getElem.mp hr;rw[Nk]at hj;rw[List.getElem_take]at er;have hji:j < i:=by walk_at "o"
       have st':∀ a b:Nat,(ha:a < (o.map Sk.rw).length)->(hb:b < (o.map Sk.rw).length)->a < b->((o.map Sk.rw)[a]).lt (o.map Sk.rw)[b]=true:=fun a b ha hb hab=>List.pairwise_iff_getElem.mp st a b ha hb hab;have:=st' j i (by rw[Mm];omega) (by rw[Mm];omega) hji
       rw[ON,ON,er]at this;have U0:=one (o[i]).rw (QY.mpr ⟨_,ho _ (Ot hil),rfl⟩) r.rw (QY.mpr ⟨_,ho _ (er ▸ Ot (by walk_at "o")),rfl⟩) z.1.symm z.2.symm
       rw[U0,lt_irrefl]at this;cases this
      have fresh:=EE fr oks.1 apart;have wl:=oo x.length (o.take i) (cb [aF] aF (gy x.length)) fun s hs'=>(ok s (ho s (N_ hs'))).2;rw[dJ]at wl;have wl2:(ng x.length (o.take i)).length<=100000:=by
       have e1:ng x.length (o.take i)=(o.take i).foldl fL (aF::gy x.length):=by unfold ng;rw[dJ]
       rw[e1];rw[Nk,MD,ol]at wl;omega
      generalize o[i]=s at *
      simp only[gN,Nd,MK];have nf:f≠p:=fun z=>by subst z;obtain⟨C,L,ds,e⟩:=qi Z1 Z2 Z3 Z4 Z5 Q4 s;rw[hf3,e]at TJ;cases TJ
      refine cJ (decide (s.act.anch∈ng x.length (o.take i))) (fun K hK=>?_) (ite2 (fun hin=>?_) fun U4=>?_)
      ·unfold cV ye;refine ul Z1 Z2 Z3 Z4 Z5 Q4 hw (p:=p) (i:=3) rfl TJ ?_;show ∃ r,cT hw G3 (.ref f) s.act.anch.d r/\_
       refine⟨cB kvs3 s.act.anch.key,?_,?_⟩
       ·show (match G3 f with|some (.dT hw' kvs)=>hw'=hw/\∃ ks,pc s.act.anch.d=some ks/\cB kvs3 s.act.anch.key=cB kvs ks|some (.dK kvs)=>_|_=>False)
        rw[hf3];exact⟨rfl,_,rfl,rfl⟩
       ·have e1:(cB kvs3 s.act.anch.key).isSome=decide (s.act.anch∈ng x.length (o.take i)):=by
         by_cases z:s.act.anch∈ng x.length (o.take i)
         ·rw[hF3.2.2.2 _ z,decide_eq_true z];rfl
         ·rw[hF3.2.2.1 _ z,decide_eq_false z];rfl
        rw[e1];exact hK
      ·have UT:=of_decide_eq_true hin;simp only[cH,aL,af,av,ae,M_,M4];refine ul Z1 Z2 Z3 Z4 Z5 Q4 hw (p:=p) (i:=3) rfl TJ ?_;refine j8 Z1 Z2 Z3 Z4 Z5 Q4 hw (p:=p) (i:=3) rfl TJ oks.2 ?_;have lm:(made s).length=s.act.many:=cF _ _ _;have lm2:=oks.2;show ∃ (b:Sl) (ss W:List Sl) (kvs:List (List aJ×D)),(s.act.anch.d=b.d/\(made s).map Sl.d=ss.map Sl.d/\G3 f=some (.dT hw kvs)/\C7 kvs W/\b∈W/\ss.Nodup/\(∀ x∈ss,x∉W)/\W.length+ss.length<=900000)/\∀ T4,C7 T4 (cb W b ss)->_
       refine⟨s.act.anch,made s,_,kvs3,⟨rfl,rfl,hf3,hF3,UT,i9 _ _ _,fresh,by walk_at "o"⟩,fun T4 hF'=>?_⟩
       refine⟨_,T4,rfl,fun a o' ha=>?_,fun j q s' hj hs'=>?_,az,?_⟩
       ·have:a≠f:=fun z=>by subst z;rw[hf]at ha;cases ha
        rw[ao this];exact hE3 a o' ha
       ·have h1:=hO3 j q s' hj hs';have:q≠f:=fun z=>by subst z;obtain⟨C,L,ds,e⟩:=qi Z1 Z2 Z3 Z4 Z5 Q4 s';rw[hf3,e]at h1;cases h1
        rw[ao this];exact h1
       ·rw[tk,v7];unfold fL;rw[if_pos UT];exact hF'
      ·have UR:=of_decide_eq_false U4;simp only[d9];refine⟨_,kvs3,rfl,hE3,hO3,hf3,?_⟩;rw[tk,v7];unfold fL;rw[if_neg UR];exact hF3
    ·rintro σ G3 ⟨x3,kvs3,rfl,hE3,hO3,hf3,hF3⟩
     rw[Mm,hl,MR]at hF3;rw[rV]at hF3;show ∃ (R:List Sl) (kvs:List (List aJ×D)),(G3 f=some (.dT hw kvs)/\C7 kvs (aF::R)/\R.length<=900000)/\_
     refine⟨jg x.length o,kvs3,⟨hf3,hF3,?_⟩,h o G3 hE3 st memo⟩;have wl:=oo x.length o (cb [aF] aF (gy x.length)) fun s hs'=>(ok s (ho s hs')).2;have e1:o.foldl fL (cb [aF] aF (gy x.length))=aF::jg x.length o:=rV x.length o;rw[e1,dJ,MD,MD,ol]at wl;omega
 ·exact h.elim
theorem j9(s:Sk):s.act.many<=s.wd:=by
 obtain⟨pen,num,time,act⟩:=s;cases act<;>first|exact le_refl _|exact M6 _
theorem Aw(Z1 Z2 Z3 Z4 Z5 Q4:Mg)(hw:HW):bC (dR Z1 Z2 Z3 Z4 Z5 Q4 hw) (l6 Z1 Z2 Z3 Z4 Z5 Q4 hw) ["keys"]:=by
 intro ds G Q h;unfold dR at h;split at h
 ·rename_i xs;have hs:=aj;unfold l6;rcases h with ⟨ss,⟨rfl,hl⟩,h⟩|⟨ns,⟨rfl,hl⟩,h⟩
  ·walk_at "s1";refine f9 (fun d=>.tup [d,.bl true]) (by rw[Mm];omega) (fun d hd P hP=>?_) ?_
   ·obtain⟨s,hs',rfl⟩:=QY.mp hd;unfold Sl.d;walk_at "st";exact⟨rfl,by walk_at "o",hP _ rfl⟩
   ·dsimp only;refine⟨ba (fun _=>.bl true) (ss.map fun s=>(s,())),⟨?_,by unfold ba;rw[Mm,Mm];exact hl⟩,fun p hp=>?_⟩
    ·unfold ba;rw[MY,MY,MY];rfl
    ·rw[uq];exact h p hp
  ·walk_at "s1";refine f9 (fun d=>.tup [d,.bl true]) (by rw[Mm];omega) (fun d hd P hP=>?_) ?_
   ·obtain⟨s,hs',rfl⟩:=QY.mp hd;unfold Nm.d;walk_at "st";exact⟨rfl,by walk_at "o",hP _ rfl⟩
   ·dsimp only;refine⟨ns.map fun n=>(n.key,.bl true),⟨?_,by rw[Mm];exact hl⟩,fun p hp=>h p hp⟩
    rw[MY,MY];rfl
 ·exact h.elim
theorem j_(Z1 Z2 Z3 Z4 Z5 Q4:Mg)(hw:HW){G:Gp}{p:Mg}{α:Type}{f:α->D}{l:List (Sl×α)}(x:Sl)(hG:G p=some (.dT hw (ba f l))):cT hw G (.ref p) x.d ((fC l x).map f):=by
 unfold cT;dsimp only;rw[hG];exact⟨rfl,x.key,rfl,(BX f x l).symm⟩
theorem uQ(Z1 Z2 Z3 Z4 Z5 Q4:Mg)(hw:HW):bC (cY Z1 Z2 Z3 Z4 Z5 Q4 hw) (iK Z1 Z2 Z3 Z4 Z5 Q4 hw) ["stroke","in_row"]:=by
 intro ds G Q h;unfold cY at h;split at h
 ·rename_i a p;obtain⟨s,row,⟨hG,hw',hp⟩,h⟩:=h;have hs:=aj;have mw:=j9 s;unfold iK;unfold bL eB af av fm gc;refine j8 Z1 Z2 Z3 Z4 Z5 Q4 hw (p:=a) (i:=0) (s:=s) rfl hG (by walk_at "o") ?_
  dsimp only[fA];have lm:(made s).length=s.act.many:=cF _ _ _;refine f9 (fun d=>match d with|.tup [.str q,.int n,.int k]=>.bl (fC row ⟨q,n,k⟩).isSome|d=>d) (by rw[Mm,lm];omega) (fun d hd P hP=>?_) ?_
  ·obtain⟨x,hx,rfl⟩:=QY.mp hd;refine⟨⟨by simp[ie],rfl⟩,?_⟩
   show ∃ r,cT hw G (.ref p) x.d r/\P (.bl r.isSome) G
   refine⟨_,j_ Z1 Z2 Z3 Z4 Z5 Q4 hw x hp,hP _ ?_⟩;show D.bl ((fC row x).map _).isSome=D.bl (fC row x).isSome
   rw[Option.isSome_map]
  ·show ∃ bs:List Bool,rU G (val _)=some (bs.map D.bl)/\_;refine⟨(made s).map fun x=>(fC row x).isSome,?_,?_⟩
   ·show some _=some _;congr 1;rw[MY,MY];rfl
   ·rw[List.all_map];exact h
 ·exact h.elim
theorem F8{ns:List Nm}(n:Nm):(cB (dictOf (ns.map fun n=>(n.key,D.bl true))) n.key).isSome=decide (n∈ns):=by
 unfold dictOf;have key_inj:∀ {a b:Nm},a.key=b.key->a=b:=fun {a b} h=>by
  obtain⟨a1,a2⟩:=a;obtain⟨b1,b2⟩:=b;simp only[Nm.key,List.cons.injEq,Sum.inr.injEq,Sum.inl.injEq,and_true]at h;obtain⟨rfl,rfl⟩:=h;rfl
 suffices H:∀ l:List (List aJ×D),(cB ((ns.map fun n=>(n.key,D.bl true)).foldl (fun a kv=>bB a kv.1 kv.2) l) n.key).isSome=((cB l n.key).isSome || decide (n∈ns)) by
  have:=H []
  simpa[cB]using this
 induction ns with
 | nil=>intro l;simp
 | cons m r ih=>
  intro l;rw[MF,OW,ih,hJ]
  by_cases e:n=m
  ·subst e;simp
  ·rw[if_neg (fun z=>e (key_inj z))];simp[e]
theorem jx.ext{Z1 Z2 Z3 Z4 Z5 Q4:Mg}{G G':Gp}{ps:List Mg}{o:List Sk}(h:jx Z1 Z2 Z3 Z4 Z5 Q4 G ps o)(e:gH G G'):jx Z1 Z2 Z3 Z4 Z5 Q4 G' ps o:=⟨h.1,fun j p s hp hs=>e _ _ (h.2 j p s hp hs)⟩
theorem jx.nil{Z1 Z2 Z3 Z4 Z5 Q4:Mg}{G:Gp}:jx Z1 Z2 Z3 Z4 Z5 Q4 G [] []:=⟨rfl,fun j p s hp=>by simp at hp⟩
theorem jx.add{Z1 Z2 Z3 Z4 Z5 Q4:Mg}{G:Gp}{ps:List Mg}{o:List Sk}{p:Mg}{s:Sk}(h:jx Z1 Z2 Z3 Z4 Z5 Q4 G ps o)(hp:G p=some (bj Z1 Z2 Z3 Z4 Z5 Q4 s)):jx Z1 Z2 Z3 Z4 Z5 Q4 G (ps ++ [p]) (o ++ [s]):=by
 obtain⟨hl,h⟩:=h;refine⟨by simp[hl],fun j q t hq ht=>?_⟩
 rw[List.getElem?_append]at hq ht;split at hq
 ·rename_i hj;rw[if_pos (by walk_at "o")]at ht
  exact h j q t hq ht
 ·rename_i hj;rw[if_neg (by walk_at "o")]at ht
  have hj0:j - ps.length=0:=by
   by_cases z:j - ps.length=0
   ·exact z
   ·obtain⟨k,hk⟩:∃ k,j - ps.length=k+1:=⟨j - ps.length - 1,by walk_at "o"⟩
    rw[hk]at hq;simp at hq
  rw[hj0]at hq;rw[show j - o.length=0 by walk_at "o"]at ht
  simp only[M_,Option.some.injEq]at hq ht;subst hq ht;exact hp
theorem F9(row:List Sl)(x:Sl):(fC (cf [] (row.map fun s=>(s,()))) x).isSome=decide (x∈row):=by
 suffices H:∀ l:List (Sl×Unit),(fC (cf l (row.map fun s=>(s,()))) x).isSome=((fC l x).isSome || decide (x∈row)) by
  have:=H []
  simpa[fC]using this
 induction row with
 | nil=>intro l;simp[cf]
 | cons m r ih=>
  intro l;show (fC (cf (mC l m ()) (r.map fun s=>(s,()))) x).isSome=_
  rw[ih,GF]
  by_cases e:x=m
  ·subst e;simp
  ·rw[if_neg e];simp[e]
theorem jx.snoc{Z1 Z2 Z3 Z4 Z5 Q4:Mg}{G:Gp}{ps:List Mg}{o:List Sk}{p:Mg}{s:Sk}(h:jx Z1 Z2 Z3 Z4 Z5 Q4 G ps o)(hp:G p=none):jx Z1 Z2 Z3 Z4 Z5 Q4 (gset G p (bj Z1 Z2 Z3 Z4 Z5 Q4 s)) (ps ++ [p]) (o ++ [s]):=
 (h.ext (gH.refl.gset hp)).add az
theorem uR(Z1 Z2 Z3 Z4 Z5 Q4:Mg)(hw:HW):bC (cZ Z1 Z2 Z3 Z4 Z5 Q4 hw) (iL Z1 Z2 Z3 Z4 Z5 Q4 hw) ["strokes","standing","in_row","stands","chosen"]:=by
 intro ds G Q h;unfold cZ at h;split at h
 ·rename_i q0 ns p;obtain⟨sks,base,names,row,⟨hq0,one,l1,l2,sub,wd,rfl,l3,hG⟩,h⟩:=h;have hs:=aj;unfold iL;rw[ag];walk_at "s1";refine .inr ⟨names,⟨rfl,l3⟩,fun q hq=>?_⟩;have hpq:p≠q:=fun z=>by subst z;rw[hG]at hq;cases hq
  rw[ag];have g1:gset G q (.dT hw (dictOf (names.map fun n=>(n.key,.bl true)))) q=some (.dT hw (dictOf (names.map fun n=>(n.key,.bl true)))):=az;have g2:gH G (gset G q (.dT hw (dictOf (names.map fun n=>(n.key,.bl true))))):=gH.refl.gset hq;generalize gset G q (.dT hw (dictOf (names.map fun n=>(n.key,.bl true))))=G1 at g1 g2;walk_at "s1";refine⟨sks.map Sk.rw,base.map Sk.rw,⟨by rw[g2 q0 _ hq0,MY];rfl,one,by rw[Mm];exact l1,by rw[Mm];exact l2,fun r hr=>?_⟩,fun out G2 hE st mem=>?_⟩
  ·obtain⟨s,hs',rfl⟩:=QY.mp hr;exact QY.mpr ⟨s,sub s hs',rfl⟩
  obtain⟨o,rfl,ho⟩:=Au (sks:=sks) (out:=out) fun r hr=>(mem r).mp hr;have memo:∀ s,s∈o↔s∈sks:=fun s=>⟨ho s,fun hs'=>by
   obtain⟨s',h1,h2⟩:=QY.mp ((mem s.rw).mpr (QY.mpr ⟨s,hs',rfl⟩));rw[<- Sk.rw_inj h2];exact h1⟩
  have lo:o.length < 64:=by
   have:=hZ (fK st) (ys:=base.map Sk.rw) fun r hr=>by
    obtain⟨s,hs',rfl⟩:=QY.mp hr;exact QY.mpr ⟨s,sub s (ho s hs'),rfl⟩
   rw[Mm,Mm]at this;omega
  have dmap:(o.map Sk.rw).map Rw.d=o.map Sk.d:=by rw[MY];rfl
  rw[dmap];refine⟨by rw[Mm];omega,fun i acc G3=>∃ ps:List Mg,acc=ps.map D.ref/\gH G2 G3/\jx Z1 Z2 Z3 Z4 Z5 Q4 G3 ps ((o.take i).filter fun s=>decide (s.nm∈names)),⟨[],rfl,gH.refl,by simpa using jx.nil⟩,?_,?_⟩
  ·rintro i d acc G3 hd ⟨ps,rfl,hE3,hO⟩
   rw[MH]at hd;cases hsj:o[i]? with
   | none=>rw[hsj]at hd;cases hd
   | some s=>
    rw[hsj]at hd;cases hd;have tk:(o.take (i+1)).filter (fun s=>decide (s.nm∈names))=(o.take i).filter (fun s=>decide (s.nm∈names)) ++ (if s.nm∈names then [s]else []):=by
     rw[MU,hsj,NS]
     by_cases e:s.nm∈names
     ·rw[if_pos e];simp[e]
     ·rw[if_neg e];simp[e]
    refine⟨⟨by simp,rfl⟩,?_⟩
    show ∃ r,cT hw G3 (.ref q) s.nm.d r/\(match D.bl r.isSome with|.bl b=>_|_=>False)
    refine⟨cB (dictOf (names.map fun n=>(n.key,D.bl true))) s.nm.key,?_,?_⟩
    ·unfold cT;dsimp only;rw[hE3 q _ (hE q _ g1)];exact⟨rfl,_,rfl,rfl⟩
    ·rw[F8];dsimp only
     by_cases e:s.nm∈names
     ·rw[decide_eq_true e,if_pos rfl];show ∃ s':Sk,s.d=s'.d/\∀ p,G3 p=none->_
      refine⟨s,rfl,fun r hr=>⟨ps ++ [r],by rw[M3];rfl,fun a o' ha=>?_,?_⟩⟩
      ·have:a≠r:=fun z=>by subst z;rw[hE3 a o' ha]at hr;cases hr
       rw[ao this];exact hE3 a o' ha
      ·rw[tk,if_pos e];exact hO.snoc hr
     ·rw[decide_eq_false e,if_neg Bool.false_ne_true];refine⟨ps,rfl,hE3,?_⟩;rw[tk,if_neg e,Nz];exact hO
  ·rintro acc G3 ⟨ps,rfl,hE3,hO⟩
   rw[Mm,MR]at hO;dsimp only[val];have hE4:gH G G3:=g2.trans (hE.trans hE3);generalize hfl:o.filter (fun s=>decide (s.nm∈names))=ws at hO;have UX:∀ s∈ws,s∈o:=fun s hs'=>by rw[<- hfl]at hs';exact (mem_filter.mp hs').1
   have lw:ws.length<=o.length:=by rw[<- hfl];exact Ng _ _
   have hl:=hO.1;show (_<=Mp)/\_
   refine⟨by rw[Mm];omega,fun i acc G4=>∃ qs:List Mg,acc=qs.map D.ref/\G4=G3/\jx Z1 Z2 Z3 Z4 Z5 Q4 G3 qs ((ws.take i).filter (j5 row)),⟨[],rfl,rfl,by simpa using jx.nil⟩,?_,?_⟩
   ·rintro i d acc G4 hd ⟨qs,rfl,rfl,hQ⟩
    rw[MH]at hd;cases hpi:ps[i]? with
    | none=>rw[hpi]at hd;cases hd
    | some a=>
     rw[hpi]at hd;cases hd;have hi:i < ws.length:=by have:=(List.getElem?_eq_some_iff.mp hpi).1;omega
     have hwi:ws[i]?=some ws[i]:=Ms hi;have hob:=hO.2 i a _ hpi hwi;refine⟨⟨by simp,rfl⟩,?_⟩
     have tk:(ws.take (i+1)).filter (j5 row)=(ws.take i).filter (j5 row) ++ (if j5 row ws[i]=true then [ws[i]]else []):=by
      rw[MU,hwi,NS]
      by_cases e:j5 row ws[i]=true
      ·rw[if_pos e];simp[e]
      ·rw[if_neg e];simp[e]
     have hgp:G4 p=some (.dT hw (ba (fun _=>.bl true) (cf [] (row.map fun s=>(s,()))))):=hE4 p _ hG;have pe:(made ws[i]).all (fun x=>(fC (cf [] (row.map fun s=>(s,()))) x).isSome)=j5 row ws[i]:=by
      unfold j5;congr 1;funext x;exact F9 row x
     refine⟨_,_,⟨hob,wd _ (ho _ (UX _ (Ot hi))),hgp⟩,?_⟩;rw[pe];show True/\_
     refine⟨trivial,?_⟩;dsimp only
     by_cases e:j5 row ws[i]=true
     ·rw[if_pos e];exact⟨qs ++ [a],by rw[M3];rfl,rfl,by rw[tk,if_pos e];exact hQ.add hob⟩
     ·rw[if_neg e];exact⟨qs,rfl,rfl,by rw[tk,if_neg e,Nz];exact hQ⟩
   ·rintro acc G4 ⟨qs,rfl,rfl,hQ⟩
    rw[Mm,hl,MR]at hQ;refine h o qs _ hE4 st memo ?_;unfold gI;rw[hfl];exact hQ
 ·exact h.elim
theorem wN{hw:HW}{α:Type}{f:α->D}{l:List (Sl×α)}{G:Gp}{p:Mg}{x:Sl}{w:α}{K:Gp->Prop}(hG:G p=some (.dT hw (ba f l)))(hl:l.length < Mp)(h:K (gset G p (.dT hw (ba f (mC l x w))))):lJ hw (.ref p) x.d (f w) G K:=by
 unfold lJ;dsimp only;rw[hG];exact⟨rfl,x.key,rfl,by unfold ba;rw[Mm];exact hl,by rw[yU];exact h⟩
theorem sv{α:Type}{σ:List α}{a:Nat}(h:a < σ.length):σ.set a σ[a]=σ:=List.set_getElem_self h
theorem GZ{hw:HW}{α:Type}{f:α->D}(hf:∀ v,val (f v)=f v){m l:List (Sl×α)}{a b d:Nat}{σ:fH}{G:Gp}{p:Mg}{E:Ends3}(hab:a≠b)(had:a≠d)(hbd:b≠d)(ha:a < σ.length)(hb:b < σ.length)(hσ:σ[d]?=some (some (.ref p)))(hl:l.length+m.length < Mp)
  (h:∀ u v,E.nx ((σ.set a u).set b v) (gset G p (.dT hw (ba f (cf l m))))):ForIn (qS 2 (gF (gN a) (gF (gN b) qT))) (e9 hw (ae d) (ae a) (ae b)) E σ (m.map fun q=>.tup [q.1.d,f q.2]) (gset G p (.dT hw (ba f l))):=by
 refine⟨fun i σ' G'=>∃ u v,σ'=(σ.set a u).set b v/\G'=gset G p (.dT hw (ba f (cf l (m.take i)))),⟨σ[a],σ[b],by rw[sv ha,sv hb],rfl⟩,?_,?_⟩
 ·rintro i dd σ' G' hd ⟨u,v,rfl,rfl⟩
  rw[MH]at hd;cases hq:m[i]? with
  | none=>rw[hq]at hd;cases hd
  | some q=>
   rw[hq]at hd;cases hd;have hi:=(List.getElem?_eq_some_iff.mp hq).1;have tk:m.take (i+1)=m.take i ++ [q]:=by rw[MU,hq];rfl
   unfold qS gF qT gN;refine⟨rfl,?_⟩;show e9 hw (ae d) (ae a) (ae b) _ ((((σ.set a u).set b v).set a (some q.1.d)).set b (some (f q.2))) _
   have e0:(((σ.set a u).set b v).set a (some q.1.d)).set b (some (f q.2))=(σ.set a (some q.1.d)).set b (some (f q.2)):=by
    rw[List.set_comm _ _ (Ne.symm hab),List.set_set,List.set_set]
   rw[e0];have s1:((σ.set a (some q.1.d)).set b (some (f q.2)))[b]?=some (some (f q.2)):=by rw[List.getElem?_set_self (by rw[List.length_set];exact hb)]
   have s2:((σ.set a (some q.1.d)).set b (some (f q.2)))[a]?=some (some q.1.d):=by rw[NP (Ne.symm hab),List.getElem?_set_self ha]
   have s3:((σ.set a (some q.1.d)).set b (some (f q.2)))[d]?=some (some (.ref p)):=by rw[NP hbd,NP had];exact hσ
   unfold e9 ae;rw[s1,s2,s3];dsimp only;rw[hf];have pl:=fG (m.take i) l;rw[Nk]at pl;refine wN (x:=q.1) az (by walk_at "o") ⟨_,_,rfl,?_⟩
   rw[eT,tk,nz]
 ·rintro σ' G' ⟨u,v,rfl,rfl⟩
  rw[Mm,MR];exact h u v
theorem G_{hw:HW}{α:Type}{f:α->D}{w:α}(hf:val (f w)=f w){ns:List Sl}{l:List (Sl×α)}{a d:Nat}{σ:fH}{G:Gp}{p:Mg}{E:Ends3}{te:bR}(had:a≠d)(ha:a < σ.length)(hσ:σ[d]?=some (some (.ref p)))(hl:l.length+ns.length < Mp)
  (ht:∀ u l (K:mT),K (f w) (gset G p (.dT hw (ba f l)))->te (σ.set a u) (gset G p (.dT hw (ba f l))) K)
  (h:∀ u,E.nx (σ.set a u) (gset G p (.dT hw (ba f (cf l (ns.map fun n=>(n,w))))))):ForIn (gN a) (e9 hw (ae d) (ae a) te) E σ (ns.map Sl.d) (gset G p (.dT hw (ba f l))):=by
 refine⟨fun i σ' G'=>∃ u,σ'=σ.set a u/\G'=gset G p (.dT hw (ba f (cf l ((ns.take i).map fun n=>(n,w))))),⟨σ[a],by rw[sv ha],rfl⟩,?_,?_⟩
 ·rintro i dd σ' G' hd ⟨u,rfl,rfl⟩
  rw[MH]at hd;cases hq:ns[i]? with
  | none=>rw[hq]at hd;cases hd
  | some q=>
   rw[hq]at hd;cases hd;have hi:=(List.getElem?_eq_some_iff.mp hq).1;have tk:ns.take (i+1)=ns.take i ++ [q]:=by rw[MU,hq];rfl
   show e9 hw (ae d) (ae a) te _ ((σ.set a u).set a (some q.d)) _
   rw[List.set_set];have s2:(σ.set a (some q.d))[a]?=some (some q.d):=by rw[List.getElem?_set_self ha]
   have s3:(σ.set a (some q.d))[d]?=some (some (.ref p)):=by rw[NP had];exact hσ
   unfold e9;refine ht _ _ _ ?_;unfold ae;rw[s2,s3];dsimp only;rw[hf];have pl:=fG ((ns.take i).map fun n=>(n,w)) l;rw[Mm,Nk]at pl;refine wN (x:=q) az (by walk_at "o") ⟨_,rfl,?_⟩
   rw[eT,tk,M3,MF,OA,nz]
 ·rintro σ' G' ⟨u,rfl,rfl⟩
  rw[Mm,MR];exact h u
theorem nT{α β:Type}(f:α->D)(g:β->D):∀ (a:List α) (b:List β),nU (a.map f) (b.map g)=(a.zip b).map fun q=>.tup [f q.1,g q.2]
 | [],_=>rfl
 | _::_,[]=>rfl
 | x::a,y::b=>by simp only[MF,nU,Oq,nT f g a b]
theorem v4(x:Str):L3.signs x=(B_ x).map D.str:=by unfold L3.signs B_;rw[MY];rfl
theorem Bs(x:Str):(B_ x).length=x.length:=by simp[B_,OZ]
theorem mi{β:Type}(g:Sk->List β){o:List Sk}{i:Nat}{s:Sk}(h:o[i]?=some s):(o.take (i+1)).flatMap g=(o.take i).flatMap g ++ g s:=by
 rw[MU,h,List.flatMap_append];simp
theorem uo{β:Type}(g:Sk->List β):∀ {o:List Sk},(∀ s∈o,(g s).length<=1000)->(o.flatMap g).length<=1000*o.length
 | [],_=>by simp
 | s::r,h=>by
  have h1:=h s MB;have h2:=uo g (o:=r) fun t ht=>h t (Mz _ ht);rw[List.flatMap_cons,MP,MD];omega
theorem qH{s:Sk}(h:s.wd<=1000):(iU s).length<=1000:=by
 obtain⟨pen,num,time,act⟩:=s;cases act with
 | put a x=>
  show ((made _).zip (B_ x)).length<=1000
  rw[Pr,Bs];have:x.length<=1000:=h;omega
 | _=>exact M6 _
theorem Al{s:Sk}(h:s.wd<=1000):(jz s).length<=1000:=by
 obtain⟨pen,num,time,act⟩:=s;cases act with
 | strike ns=>show (ns.map _).length<=1000;rw[Mm];exact h
 | _=>exact M6 _
theorem Di{s:Sk}(h:s.wd<=1000):(pG s).length<=1000:=by
 obtain⟨pen,num,time,act⟩:=s;cases act with
 | dress ns w=>show (ns.map _).length<=1000;rw[Mm];exact h
 | _=>exact M6 _
theorem yB{s:Sk}(h:s.wd<=1000):(mV s).length<=1000:=by
 obtain⟨pen,num,time,act⟩:=s;cases act with
 | move ns a=>
  show (ns.zip (made _)).length<=1000
  rw[Pr];have:ns.length<=1000:=h;omega
 | _=>exact M6 _
theorem jG{β:Type}{o:List Sk}(h:wE o)(g:Sk->List β)(hg:∀ s:Sk,s.wd<=1000->(g s).length<=1000)(i:Nat):((o.take i).flatMap g).length<=64000:=by
 have h1:=uo g (o:=o.take i) fun s hs=>hg s (h.2 s (N_ hs));have h2:=h.1;rw[Nk]at h1;omega
theorem lO(Z1 Z2 Z3 Z4 Z5 Q4:Mg)(hw:HW){σ:fH}{G:Gp}{a C:Mg}{s:Sk}{i:Nat}{cs:List (Mg×Bool)}{K:Bool->Gp->Prop}(b:Bool)(hσ:σ[i]?=some (some (.ref a)))(hG:G a=some (bj Z1 Z2 Z3 Z4 Z5 Q4 s))
  (hc:match s.act with|.put _ _=>(Z2,b)∈cs|.strike _=>(Z3,b)∈cs|.dress _ _=>(Z4,b)∈cs|.move _ _=>(Z5,b)∈cs) (h:K b G):sh (eB (yo cs C) (af (ae i) (af (eC (.ref C)) av))) σ G K:=by
 obtain⟨pen,num,time,act⟩:=s;unfold sh eB af av ae eC yo;rw[hσ];cases act<;>(simp only[bj]at hG;simp only[val,hG];exact⟨trivial,b,hc,⟨trivial,h⟩⟩)
theorem j7(Z1 Z2 Z3 Z4 Z5 Q4:Mg)(hw:HW){σ:fH}{G:Gp}{p:Mg}{s:Sk}{ns:List Sl}{i:Nat}{Q:mT}(hσ:σ[i]?=some (some (.ref p)))(hG:G p=some (bj Z1 Z2 Z3 Z4 Z5 Q4 s))(ha:s.act=.strike ns\/(∃ w,s.act=.dress ns w)\/∃ b,s.act=.move ns b)(hm:ns.length<=1000)(h:Q (.fl (ns.map Sl.d)) G):
  fg [(Z1,ah Z1 Z2 Z3 Z4 Z5 Q4 hw),(Z2,ah Z1 Z2 Z3 Z4 Z5 Q4 hw),(Z3,ah Z1 Z2 Z3 Z4 Z5 Q4 hw),(Z4,ah Z1 Z2 Z3 Z4 Z5 Q4 hw),(Z5,ah Z1 Z2 Z3 Z4 Z5 Q4 hw)] "touched" [] (ae i) av σ G Q:=by
 have hG':=hG;unfold fg ae;rw[hσ];obtain⟨pen,num,time,act⟩:=s;rcases ha with e|⟨w,e⟩|⟨b,e⟩<;>(have e':act=_:=e;subst e';simp only[bj]at hG;simp only[hG])
 ·exact⟨by decide +kernel,ah Z1 Z2 Z3 Z4 Z5 Q4 hw,by simp,_,ns,⟨.inl rfl,hG',hm⟩,h⟩
 ·exact⟨by decide +kernel,ah Z1 Z2 Z3 Z4 Z5 Q4 hw,by simp,_,ns,⟨.inr (.inl ⟨w,rfl⟩),hG',hm⟩,h⟩
 ·exact⟨by decide +kernel,ah Z1 Z2 Z3 Z4 Z5 Q4 hw,by simp,_,ns,⟨.inr (.inr ⟨b,rfl⟩),hG',hm⟩,h⟩
theorem ni(Z1 Z2 Z3 Z4 Z5 Q4:Mg)(hw:HW):bC (ah Z1 Z2 Z3 Z4 Z5 Q4 hw) (dZ Z1 Z2 Z3 Z4 Z5 Q4 hw) ["self"]:=by
 intro ds G Q h;unfold ah at h;split at h
 ·rename_i p;obtain⟨⟨pen,num,time,act⟩,ns,⟨ha,hG,hl⟩,h⟩:=h;have hs:=aj;unfold bj at hG;unfold dZ;rcases ha with e|⟨w,e⟩|⟨b,e⟩<;>(have e':act=_:=e;subst e';dsimp only at hG)
  ·have hc:Z3∈[Z1,Z2,Z3,Z4,Z5]:=by simp
   walk_at "st"
   try exact h
  ·have hc:Z4∈[Z1,Z2,Z3,Z4,Z5]:=by simp
   walk_at "st"
   try exact h
  ·have hc:Z5∈[Z1,Z2,Z3,Z4,Z5]:=by simp
   walk_at "st"
   try exact h
 ·exact h.elim
theorem ym(x:Str){o:List Sk}{i:Nat}{s:Sk}(h:o[i]?=some s):aK x (o.take (i+1))=cf (aK x (o.take i)) (iU s):=by
 unfold aK;rw[mi iU h,<- List.append_assoc,fV]
theorem yF{o:List Sk}{i:Nat}{s:Sk}(h:o[i]?=some s):bX (o.take (i+1))=cf (bX (o.take i)) (jz s):=by
 unfold bX;rw[mi jz h,fV]
theorem Ak{o:List Sk}{i:Nat}{s:Sk}(h:o[i]?=some s):dk (o.take (i+1))=cf (dk (o.take i)) (mV s):=by
 unfold dk;rw[mi mV h,fV]
theorem B4{o:List Sk}{i:Nat}{s:Sk}(h:o[i]?=some s):hU (o.take (i+1))=cf (hU (o.take i)) (pG s):=by
 unfold hU;rw[mi pG h,fV]
theorem FE{Z1 Z2 Z3 Z4 Z5 Q4:Mg}{G:Gp}{ps:List Mg}{o:List Sk}{i:Nat}{d:D}(h:jx Z1 Z2 Z3 Z4 Z5 Q4 G ps o)(hd:(ps.map D.ref)[i]?=some d):∃ a s,d=.ref a/\o[i]?=some s/\G a=some (bj Z1 Z2 Z3 Z4 Z5 Q4 s):=by
 rw[MH]at hd;cases hp:ps[i]? with
 | none=>rw[hp]at hd;cases hd
 | some a=>
  rw[hp]at hd;cases hd;have hi:i < o.length:=by have:=(List.getElem?_eq_some_iff.mp hp).1;have:=h.1;omega
  exact⟨a,o[i],rfl,Ms hi,h.2 i a _ hp (Ms hi)⟩
theorem CS(Z1 Z2 Z3 Z4 Z5 Q4:Mg)(hw:HW){σ:fH}{G:Gp}{p:Mg}{pen:Str}{num time:Int}{a:Sl}{x:Str}{i:Nat}{Q:mT}(hσ:σ[i]?=some (some (.ref p)))(hG:G p=some (bj Z1 Z2 Z3 Z4 Z5 Q4 ⟨pen,num,time,.put a x⟩))(h:Q (.str x) G):bU [Z1,Z2,Z3,Z4,Z5] "signs" (ae i) σ G Q:=by
 unfold bU ae;rw[hσ];simp only[bj]at hG;simp only[hG];exact⟨by simp,h⟩
theorem EG(Z1 Z2 Z3 Z4 Z5 Q4:Mg)(hw:HW){σ:fH}{G:Gp}{p:Mg}{pen:Str}{num time:Int}{ns:List Sl}{w:Str}{i:Nat}{Q:mT}(hσ:σ[i]?=some (some (.ref p)))(hG:G p=some (bj Z1 Z2 Z3 Z4 Z5 Q4 ⟨pen,num,time,.dress ns w⟩))(h:Q (.str w) G):bU [Z1,Z2,Z3,Z4,Z5] "word" (ae i) σ G Q:=by
 unfold bU ae;rw[hσ];simp only[bj]at hG;simp only[hG];exact⟨by simp,h⟩
theorem oq(Z1 Z2 Z3 Z4 Z5 Q4:Mg)(hw:HW):bC (bS Z1 Z2 Z3 Z4 Z5 Q4 hw) (eJ Z1 Z2 Z3 Z4 Z5 Q4 hw) ["old","strokes","brought","stroke","name","sign"]:=by
 intro ds G Q h;unfold bS at h;split at h
 ·rename_i x xs;obtain⟨ps,o,⟨rfl,hO,hS,hx⟩,h⟩:=h;have hs:=aj;unfold eJ;rw[ag];walk_at "s1";have ol:(gy x.length).length=x.length:=cF _ _ _;have l0:((gy x.length).zip (B_ x)).length<=1000:=by rw[Pr];omega
  refine⟨_,_,ba D.str ((gy x.length).zip (B_ x)),⟨rfl,rfl,?_,by unfold ba;rw[Mm];omega⟩,fun p hp=>?_⟩
  ·rw[v4,nT];unfold ba;rw[MY];rfl
  rw[uq];have e0:cf [] ((gy x.length).zip (B_ x))=aK x (o.take 0):=by unfold aK;simp
  rw[e0];rw[ag];have hE:gH G (gset G p (.dT hw (ba D.str (aK x (o.take 0))))):=gH.refl.gset hp;show ForIn _ _ _ _ (ps.map D.ref) _
  refine⟨fun i σ G'=>∃ x3 x4 x5,σ=[some (.str x),some (.lst (ps.map D.ref)),some (.ref p),x3,x4,x5]/\G'=gset G p (.dT hw (ba D.str (aK x (o.take i)))),⟨_,_,_,rfl,rfl⟩,?_,?_⟩
  ·rintro i d σ G' hd ⟨x3,x4,x5,rfl,rfl⟩
   obtain⟨a,s,rfl,hsi,hGa⟩:=FE hO hd;have hap:a≠p:=fun z=>by subst z;rw[hp]at hGa;cases hGa
   have Sm:∀ u,gset G p u a=some (bj Z1 Z2 Z3 Z4 Z5 Q4 s):=fun u=>by rw[ao hap];exact hGa
   have swd:s.wd<=1000:=hS.2 s (MC hsi);have bl:(aK x (o.take i)).length<=65000:=by
    have h1:=fG ((gy x.length).zip (B_ x) ++ (o.take i).flatMap iU) [];have h2:=jG hS iU (fun s hs=>qH hs) i;rw[MP,MS]at h1;unfold aK;omega
   have bt:=ym x hsi;simp only[gN,Nd,MK];obtain⟨pen,num,time,act⟩:=s;cases act with
   | put an w=>
    refine cJ true (fun K hK=>lO Z1 Z2 Z3 Z4 Z5 Q4 hw (s:=⟨pen,num,time,.put an w⟩) (a:=a) (i:=3) true rfl (Sm _) (by simp) hK) ?_
    rw[if_pos rfl];unfold jA CK af av;have mw:=j9 ⟨pen,num,time,.put an w⟩;refine j8 Z1 Z2 Z3 Z4 Z5 Q4 hw (p:=a) (i:=3) (s:=⟨pen,num,time,.put an w⟩) rfl (Sm _) (by walk_at "o") ?_
    refine CS Z1 Z2 Z3 Z4 Z5 Q4 hw (p:=a) (i:=3) (a:=an) (x:=w) rfl (Sm _) ?_;refine⟨_,_,⟨rfl,rfl⟩,?_⟩;rw[v4,nT];have bl2:=qH swd;refine GZ (f:=D.str) (fun _=>rfl) (m:=(made ⟨pen,num,time,.put an w⟩).zip (B_ w)) (by decide) (by decide) (by decide) (by simp) (by simp) rfl (by show _+(iU ⟨pen,num,time,.put an w⟩).length < _;omega) fun u v=>⟨_,_,_,rfl,?_⟩
    rw[bt];rfl
   | _=>
    refine cJ false (fun K hK=>lO Z1 Z2 Z3 Z4 Z5 Q4 hw (s:=⟨pen,num,time,_⟩) (a:=a) (i:=3) false rfl (Sm _) (by simp) hK) ?_
    rw[if_neg Bool.false_ne_true];refine⟨_,_,_,rfl,?_⟩;rw[bt];rfl
  ·rintro σ G' ⟨x3,x4,x5,rfl,rfl⟩
   rw[Mm,hO.1,MR];exact h p hp
 ·exact h.elim
theorem pX(Z1 Z2 Z3 Z4 Z5 Q4:Mg)(hw:HW):bC (b8 Z1 Z2 Z3 Z4 Z5 Q4 hw) (fq Z1 Z2 Z3 Z4 Z5 Q4 hw) ["strokes","struck","stroke","name"]:=by
 intro ds G Q h;unfold b8 at h;split at h
 ·rename_i xs;obtain⟨ps,o,⟨rfl,hO,hS⟩,h⟩:=h;have hs:=aj;unfold fq;rw[ag];walk_at "s1";intro p hp;rw[ag];show ForIn _ _ _ _ (ps.map D.ref) _
  refine⟨fun i σ G'=>∃ x2 x3,σ=[some (.lst (ps.map D.ref)),some (.ref p),x2,x3]/\G'=gset G p (.dT hw (ba (fun _=>.bl true) (bX (o.take i)))),⟨_,_,rfl,rfl⟩,?_,?_⟩
  ·rintro i d σ G' hd ⟨x2,x3,rfl,rfl⟩
   obtain⟨a,s,rfl,hsi,hGa⟩:=FE hO hd;have hap:a≠p:=fun z=>by subst z;rw[hp]at hGa;cases hGa
   have Sm:∀ u,gset G p u a=some (bj Z1 Z2 Z3 Z4 Z5 Q4 s):=fun u=>by rw[ao hap];exact hGa
   have swd:s.wd<=1000:=hS.2 s (MC hsi);have bl:(bX (o.take i)).length<=65000:=by
    have h1:=fG ((o.take i).flatMap jz) [];have h2:=jG hS jz (fun s hs=>Al hs) i;rw[MS]at h1;unfold bX;omega
   have bt:=yF hsi;simp only[gN,Nd,MK];obtain⟨pen,num,time,act⟩:=s;cases act with
   | strike ns=>
    refine cJ true (fun K hK=>lO Z1 Z2 Z3 Z4 Z5 Q4 hw (s:=⟨pen,num,time,.strike ns⟩) (a:=a) (i:=2) true rfl (Sm _) (by simp) hK) ?_
    rw[if_pos rfl];unfold jA gc;have hl:ns.length<=1000:=swd;refine j7 Z1 Z2 Z3 Z4 Z5 Q4 hw (p:=a) (i:=2) (s:=⟨pen,num,time,.strike ns⟩) rfl (Sm _) (.inl rfl) hl ?_;dsimp only[fA];refine G_ (f:=fun (_:Unit)=>D.bl true) (w:=()) rfl (by decide) (by simp) rfl (by walk_at "o") (fun u l K hK=>hK) fun u=>⟨_,_,rfl,?_⟩
    rw[bt];rfl
   | _=>
    refine cJ false (fun K hK=>lO Z1 Z2 Z3 Z4 Z5 Q4 hw (s:=⟨pen,num,time,_⟩) (a:=a) (i:=2) false rfl (Sm _) (by simp) hK) ?_
    rw[if_neg Bool.false_ne_true];refine⟨_,_,rfl,?_⟩;rw[bt];rfl
  ·rintro σ G' ⟨x2,x3,rfl,rfl⟩
   rw[Mm,hO.1,MR];exact h p hp
 ·exact h.elim
theorem sJ(Z1 Z2 Z3 Z4 Z5 Q4:Mg)(hw:HW):bC (cK Z1 Z2 Z3 Z4 Z5 Q4 hw) (gL Z1 Z2 Z3 Z4 Z5 Q4 hw) ["strokes","worn","stroke","name"]:=by
 intro ds G Q h;unfold cK at h;split at h
 ·rename_i xs;obtain⟨ps,o,⟨rfl,hO,hS⟩,h⟩:=h;have hs:=aj;unfold gL;rw[ag];walk_at "s1";intro p hp;rw[ag];show ForIn _ _ _ _ (ps.map D.ref) _
  refine⟨fun i σ G'=>∃ x2 x3,σ=[some (.lst (ps.map D.ref)),some (.ref p),x2,x3]/\G'=gset G p (.dT hw (ba D.str (hU (o.take i)))),⟨_,_,rfl,rfl⟩,?_,?_⟩
  ·rintro i d σ G' hd ⟨x2,x3,rfl,rfl⟩
   obtain⟨a,s,rfl,hsi,hGa⟩:=FE hO hd;have hap:a≠p:=fun z=>by subst z;rw[hp]at hGa;cases hGa
   have Sm:∀ u,gset G p u a=some (bj Z1 Z2 Z3 Z4 Z5 Q4 s):=fun u=>by rw[ao hap];exact hGa
   have swd:s.wd<=1000:=hS.2 s (MC hsi);have bl:(hU (o.take i)).length<=65000:=by
    have h1:=fG ((o.take i).flatMap pG) [];have h2:=jG hS pG (fun s hs=>Di hs) i;rw[MS]at h1;unfold hU;omega
   have bt:=B4 hsi;simp only[gN,Nd,MK];obtain⟨pen,num,time,act⟩:=s;cases act with
   | dress ns w=>
    refine cJ true (fun K hK=>lO Z1 Z2 Z3 Z4 Z5 Q4 hw (s:=⟨pen,num,time,.dress ns w⟩) (a:=a) (i:=2) true rfl (Sm _) (by simp) hK) ?_
    rw[if_pos rfl];unfold jA gc;have hl:ns.length<=1000:=swd;refine j7 Z1 Z2 Z3 Z4 Z5 Q4 hw (p:=a) (i:=2) (s:=⟨pen,num,time,.dress ns w⟩) rfl (Sm _) (.inr (.inl ⟨w,rfl⟩)) hl ?_;dsimp only[fA];refine G_ (f:=D.str) (w:=w) rfl (by decide) (by simp) rfl (by walk_at "o") (fun u l K hK=>EG Z1 Z2 Z3 Z4 Z5 Q4 hw (p:=a) (i:=2) (ns:=ns) (w:=w) rfl (Sm _) hK) fun u=>⟨_,_,rfl,?_⟩
    rw[bt];rfl
   | _=>
    refine cJ false (fun K hK=>lO Z1 Z2 Z3 Z4 Z5 Q4 hw (s:=⟨pen,num,time,_⟩) (a:=a) (i:=2) false rfl (Sm _) (by simp) hK) ?_
    rw[if_neg Bool.false_ne_true];refine⟨_,_,rfl,?_⟩;rw[bt];rfl
  ·rintro σ G' ⟨x2,x3,rfl,rfl⟩
   rw[Mm,hO.1,MR];exact h p hp
 ·exact h.elim
theorem rh(Z1 Z2 Z3 Z4 Z5 Q4:Mg)(hw:HW):bC (cz Z1 Z2 Z3 Z4 Z5 Q4 hw) (fO Z1 Z2 Z3 Z4 Z5 Q4 hw) ["strokes","taken","stroke","name","slot"]:=by
 intro ds G Q h;unfold cz at h;split at h
 ·rename_i xs;obtain⟨ps,o,⟨rfl,hO,hS⟩,h⟩:=h;have hs:=aj;unfold fO;rw[ag];walk_at "s1";intro p hp;rw[ag];show ForIn _ _ _ _ (ps.map D.ref) _
  refine⟨fun i σ G'=>∃ x2 x3 x4,σ=[some (.lst (ps.map D.ref)),some (.ref p),x2,x3,x4]/\G'=gset G p (.dT hw (ba Sl.d (dk (o.take i)))),⟨_,_,_,rfl,rfl⟩,?_,?_⟩
  ·rintro i d σ G' hd ⟨x2,x3,x4,rfl,rfl⟩
   obtain⟨a,s,rfl,hsi,hGa⟩:=FE hO hd;have hap:a≠p:=fun z=>by subst z;rw[hp]at hGa;cases hGa
   have Sm:∀ u,gset G p u a=some (bj Z1 Z2 Z3 Z4 Z5 Q4 s):=fun u=>by rw[ao hap];exact hGa
   have swd:s.wd<=1000:=hS.2 s (MC hsi);have bl:(dk (o.take i)).length<=65000:=by
    have h1:=fG ((o.take i).flatMap mV) [];have h2:=jG hS mV (fun s hs=>yB hs) i;rw[MS]at h1;unfold dk;omega
   have bt:=Ak hsi;simp only[gN,Nd,MK];obtain⟨pen,num,time,act⟩:=s;cases act with
   | move ns an=>
    refine cJ true (fun K hK=>lO Z1 Z2 Z3 Z4 Z5 Q4 hw (s:=⟨pen,num,time,.move ns an⟩) (a:=a) (i:=2) true rfl (Sm _) (by simp) hK) ?_
    rw[if_pos rfl];unfold jA CK af av;have hl:ns.length<=1000:=swd;have mw:=j9 ⟨pen,num,time,.move ns an⟩;refine j7 Z1 Z2 Z3 Z4 Z5 Q4 hw (p:=a) (i:=2) (s:=⟨pen,num,time,.move ns an⟩) rfl (Sm _) (.inr (.inr ⟨an,rfl⟩)) hl ?_;refine j8 Z1 Z2 Z3 Z4 Z5 Q4 hw (p:=a) (i:=2) (s:=⟨pen,num,time,.move ns an⟩) rfl (Sm _) (by walk_at "o") ?_
    refine⟨_,_,⟨rfl,rfl⟩,?_⟩;rw[nT];have bl2:=yB swd;refine GZ (f:=Sl.d) (fun _=>rfl) (m:=ns.zip (made ⟨pen,num,time,.move ns an⟩)) (by decide) (by decide) (by decide) (by simp) (by simp) rfl (by show _+(mV ⟨pen,num,time,.move ns an⟩).length < _;omega) fun u v=>⟨_,_,_,rfl,?_⟩
    rw[bt];rfl
   | _=>
    refine cJ false (fun K hK=>lO Z1 Z2 Z3 Z4 Z5 Q4 hw (s:=⟨pen,num,time,_⟩) (a:=a) (i:=2) false rfl (Sm _) (by simp) hK) ?_
    rw[if_neg Bool.false_ne_true];refine⟨_,_,_,rfl,?_⟩;rw[bt];rfl
  ·rintro σ G' ⟨x2,x3,x4,rfl,rfl⟩
   rw[Mm,hO.1,MR];exact h p hp
 ·exact h.elim
theorem su{xs ys:List Sk}(h:xs.map Sk.rw=ys.map Sk.rw):xs=ys:=List.map_inj_right (f:=Sk.rw) (fun x y=>Sk.rw_inj) |>.mp h
def HA:D->Sl
 | .tup [.str q,.int n,.int k]=>⟨q,n,k⟩
 | _=>default
theorem Dw(x:Sl):HA x.d=x:=rfl
theorem Ca(row:List Sl)(sit:List (Sl×Sl)):((row.map Sl.d).filter fun d=>(fC sit (HA d)).isSome).map (fun d=>.tup [d,((fC sit (HA d)).getD default).d])=(row.filterMap fun s=>(fC sit s).map fun n=>(s,n)).map fun p=>D.tup [p.1.d,p.2.d]:=by
 induction row with
 | nil=>rfl
 | cons s r ih=>
  rw[MF,List.filter_cons,Dw];cases e:fC sit s with
  | none=>
   rw[List.filterMap_cons_none (by rw[e];rfl)]
   simpa using ih
  | some n=>
   rw[List.filterMap_cons_some (b:=(s,n)) (by rw[e];rfl)]
   simp only[Option.isSome_some,if_true,MF,ih,Dw,e,Option.getD_some]
theorem Av(Z1 Z2 Z3 Z4 Z5 Q4:Mg)(hw:HW):bC (dQ Z1 Z2 Z3 Z4 Z5 Q4 hw) (l5 Z1 Z2 Z3 Z4 Z5 Q4 hw) ["old","strokes","standing","row","working","brought","struck","taken","worn","sitting","name","seats"]:=by
 intro ds G Q h;unfold dQ at h;split at h
 ·rename_i x q0 ns;obtain⟨sks,base,names,⟨hq0,hx,one,l1,l2,sub,ok,rfl,l3⟩,h⟩:=h;have hs:=aj;have okk:∀ s∈sks,s.ok:=fun s hs'=>⟨(ok s hs').1,le_trans (j9 s) (ok s hs').2⟩;unfold l5;rw[ag];walk_at "s1";refine⟨sks,base,⟨by first|rfl|exact hq0,one,l1,l2,sub,okk⟩,fun out G1 hE1 st1 Uk=>?_⟩
  have lo:out.length < 64:=by
   have:=hZ (fK st1) (ys:=base.map Sk.rw) fun r hr=>by
    obtain⟨s,hs',rfl⟩:=QY.mp hr;exact QY.mpr ⟨s,sub s ((Uk s).mp hs'),rfl⟩
   rw[Mm,Mm]at this;omega
  have UI:(jg x.length out).length<=900000:=by
   have wl:=oo x.length out (cb [aF] aF (gy x.length)) fun s hs'=>(okk s ((Uk s).mp hs')).2;have e1:out.foldl fL (cb [aF] aF (gy x.length))=aF::jg x.length out:=rV x.length out;have ol:(gy x.length).length=x.length:=cF _ _ _;rw[e1,dJ,MD,MD,ol]at wl;omega
  rw[ag];have h':=fun G' hE=>h out G' hE st1 Uk;clear h;unfold dW at h';generalize jg x.length out=row at UI h' ⊢;walk_at "s1";refine .inl ⟨row,⟨rfl,UI⟩,fun pm hpm=>?_⟩;refine⟨sks,base,names,row,⟨by first|exact (gH.refl.gset hpm) q0 _ (hE1 q0 _ hq0)|rfl,one,l1,l2,sub,fun s hs'=>(ok s hs').2,rfl,l3,rfl⟩,fun UG ps G2 hE2 st2 UH hO2=>?_⟩
  have eo:UG=out:=su (jp st2 st1 fun r=>by
   constructor
   ·intro hr;obtain⟨s,hs',rfl⟩:=QY.mp hr;exact QY.mpr ⟨s,(Uk s).mpr ((UH s).mp hs'),rfl⟩
   ·intro hr;obtain⟨s,hs',rfl⟩:=QY.mp hr;exact QY.mpr ⟨s,(UH s).mpr ((Uk s).mp hs'),rfl⟩)
  subst eo;have hE3:gH G G2:=hE1.trans ((gH.refl.gset hpm).trans hE2);have sw:wE (gI UG names row):=⟨le_trans (le_trans (Ng _ _) (Ng _ _)) (by walk_at "o"),fun s hs'=>(ok s ((Uk s).mp (mem_filter.mp (mem_filter.mp hs').1).1)).2⟩
  generalize gI UG names row=w at *
  clear hE2 hpm Uk UH st1 st2 lo;rw[ag];walk_at "s1";refine⟨ps,w,⟨rfl,hO2,sw⟩,fun pb hpb=>?_⟩;have hE4:gH G (gset G2 pb (.dT hw (ba D.str (aK x w)))):=hE3.trans (gH.refl.gset hpb);have hO4:=hO2.ext (G':=gset G2 pb (.dT hw (ba D.str (aK x w)))) (gH.refl.gset hpb);have f1:gset G2 pb (.dT hw (ba D.str (aK x w))) pb=some (.dT hw (ba D.str (aK x w))):=az;generalize gset G2 pb (.dT hw (ba D.str (aK x w)))=G4 at *
  clear hE3 hO2 hpb;rw[ag];walk_at "s1";refine⟨ps,w,⟨rfl,hO4,sw⟩,fun pk hpk=>?_⟩;have ne1:pb≠pk:=fun z=>by subst z;rw[f1]at hpk;cases hpk
  have hE5:gH G4 (gset G4 pk (.dT hw (ba (fun _=>.bl true) (bX w)))):=gH.refl.gset hpk;have hO5:=hO4.ext hE5;have f2:gset G4 pk (.dT hw (ba (fun _=>.bl true) (bX w))) pk=some (.dT hw (ba (fun _=>.bl true) (bX w))):=az;have f1':=hE5 _ _ f1;have hE5':=hE4.trans hE5;generalize gset G4 pk (.dT hw (ba (fun _=>.bl true) (bX w)))=G5 at *
  clear hE4 hO4 hpk hE5 f1;rw[ag];walk_at "s1";refine⟨ps,w,⟨rfl,hO5,sw⟩,fun pt hpt=>?_⟩;have ne2:pb≠pt:=fun z=>by subst z;rw[f1']at hpt;cases hpt
  have ne3:pk≠pt:=fun z=>by subst z;rw[f2]at hpt;cases hpt
  have hE6:gH G5 (gset G5 pt (.dT hw (ba Sl.d (dk w)))):=gH.refl.gset hpt;have hO6:=hO5.ext hE6;have f3:gset G5 pt (.dT hw (ba Sl.d (dk w))) pt=some (.dT hw (ba Sl.d (dk w))):=az;have f1:=hE6 _ _ f1';have f2':=hE6 _ _ f2;have hE6':=hE5'.trans hE6;generalize gset G5 pt (.dT hw (ba Sl.d (dk w)))=G6 at *
  clear hE5' hO5 hpt hE6 f1' f2;rw[ag];walk_at "s1";refine⟨ps,w,⟨rfl,hO6,sw⟩,fun pw hpw=>?_⟩;have ne4:pb≠pw:=fun z=>by subst z;rw[f1]at hpw;cases hpw
  have hE7:gH G6 (gset G6 pw (.dT hw (ba D.str (hU w)))):=gH.refl.gset hpw;have f4:gset G6 pw (.dT hw (ba D.str (hU w))) pw=some (.dT hw (ba D.str (hU w))):=az;have f1':=hE7 _ _ f1;have f2:=hE7 _ _ f2';have f3':=hE7 _ _ f3;have UW:=hE6'.trans hE7;generalize gset G6 pw (.dT hw (ba D.str (hU w)))=G7 at *
  clear hE6' hO6 hpw hE7 f1 f2' f3;rw[ag];walk_at "s1";intro pq hpq;have n1:pb≠pq:=fun z=>by subst z;rw[f1']at hpq;cases hpq
  have n2:pk≠pq:=fun z=>by subst z;rw[f2]at hpq;cases hpq
  have n3:pt≠pq:=fun z=>by subst z;rw[f3']at hpq;cases hpq
  have n4:pw≠pq:=fun z=>by subst z;rw[f4]at hpq;cases hpq
  rw[ag];have gb:gset G7 pq (.dT hw []) pb=some (.dT hw (ba D.str (aK x w))):=by rw[ao n1];exact f1'
  refine⟨hw,_,gb,?_⟩;clear gb;have bl:(aK x w).length<=65000:=by
   have h1:=fG ((gy x.length).zip (B_ x) ++ w.flatMap iU) [];have h2:=uo iU (o:=w) fun s hs'=>qH (sw.2 s hs');have h3:=sw.1;rw[MP,MS,Pr,Bs]at h1;unfold aK;omega
  have keys:(ba D.str (aK x w)).map Eu=(aK x w).map fun p=>p.1.d:=by
   unfold ba;rw[MY];rfl
  rw[keys];refine⟨fun i σ G'=>∃ x10,σ=[some (.str x),some (.ref q0),some (.lst (names.map Nm.d)),some (.lst (row.map Sl.d)),some (.lst (ps.map D.ref)),some (.ref pb),some (.ref pk),some (.ref pt),some (.ref pw),some (.ref pq),x10,none]/\G'=gset (gC G7 pb) pq (.dT hw (ba Sl.d (cf [] ((((aK x w).take i).filter fun p=>(fC (bX w) p.1).isNone).map fun p=>((fC (dk w) p.1).getD p.1,p.1))))),⟨_,rfl,?_⟩,?_,?_⟩
  ·funext b
   by_cases e1:b=pq
   ·rw[e1,eV n1.symm,az,az];rfl
   ·rw[ao e1]
    by_cases e2:b=pb
    ·rw[e2,eU,eU]
    ·rw[eV e2,eV e2,ao e1]
  ·rintro i d σ G' hd ⟨x10,rfl,rfl⟩
   rw[MH]at hd;cases hq:(aK x w)[i]? with
   | none=>rw[hq]at hd;cases hd
   | some q=>
    rw[hq]at hd;cases hd;have hi:=(List.getElem?_eq_some_iff.mp hq).1;simp only[gN,Nd,MK];generalize hL:(((aK x w).take i).filter fun p=>(fC (bX w) p.1).isNone).map (fun p=>((fC (dk w) p.1).getD p.1,p.1))=L;have ll:L.length<=65000:=by
     rw[<- hL,Mm];have:=Ng (fun p:Sl×Str=>(fC (bX w) p.1).isNone) ((aK x w).take i);rw[Nk]at this;omega
    have pl:=fG L [];rw[MS]at pl;have tk:(((aK x w).take (i+1)).filter fun p=>(fC (bX w) p.1).isNone).map (fun p=>((fC (dk w) p.1).getD p.1,p.1))=L ++ (if (fC (bX w) q.1).isNone=true then [((fC (dk w) q.1).getD q.1,q.1)]else []):=by
     rw[MU,hq,NS,M3,hL];congr 1
     by_cases e:(fC (bX w) q.1).isNone=true
     ·rw[if_pos e];simp[e]
     ·rw[if_neg e];simp[e]
    have gk:gset (gC G7 pb) pq (.dT hw (ba Sl.d (cf [] L))) pk=some (.dT hw (ba (fun _=>.bl true) (bX w))):=by rw[ao n2,eV (Ne.symm ne1)];exact f2
    have gt:gset (gC G7 pb) pq (.dT hw (ba Sl.d (cf [] L))) pt=some (.dT hw (ba Sl.d (dk w))):=by rw[ao n3,eV (Ne.symm ne2)];exact f3'
    refine cJ (fC (bX w) q.1).isNone (fun K hK=>?_) ?_
    ·show ∃ r,cT hw _ (.ref pk) q.1.d r/\K (!r.isSome) _;refine⟨_,j_ Z1 Z2 Z3 Z4 Z5 Q4 hw q.1 gk,?_⟩;rw[Option.isSome_map];cases e:fC (bX w) q.1<;>(rw[e]at hK;exact hK)
    ·by_cases e:(fC (bX w) q.1).isNone=true
     ·rw[if_pos e];show ko _ _/\∃ r,cT hw _ (.ref pt) q.1.d r/\lJ hw (.ref pq) (val (r.getD q.1.d)) q.1.d _ _
      refine⟨?_,_,j_ Z1 Z2 Z3 Z4 Z5 Q4 hw q.1 gt,?_⟩
      ·unfold ko;simp only[val,gt]
      ·have ek:val (((fC (dk w) q.1).map Sl.d).getD q.1.d)=((fC (dk w) q.1).getD q.1).d:=by cases fC (dk w) q.1<;>rfl
       rw[ek];refine wN (f:=Sl.d) (w:=q.1) az (by walk_at "o") ⟨_,rfl,?_⟩
       rw[eT,tk,if_pos e,nz]
     ·rw[if_neg e];refine⟨_,rfl,?_⟩;rw[tk,if_neg e,Nz]
  ·rintro σ G' ⟨x10,rfl,rfl⟩
   rw[Mm,MR];dsimp only;have es:cf [] (((aK x w).filter fun p=>(fC (bX w) p.1).isNone).map fun p=>((fC (dk w) p.1).getD p.1,p.1))=c9 x w:=rfl;rw[es];have g9:gset (gset (gC G7 pb) pq (.dT hw (ba Sl.d (c9 x w)))) pb (.dT hw (ba D.str (aK x w))) pq=some (.dT hw (ba Sl.d (c9 x w))):=by rw[ao n1.symm,az]
   have g5:gset (gset (gC G7 pb) pq (.dT hw (ba Sl.d (c9 x w)))) pb (.dT hw (ba D.str (aK x w))) pb=some (.dT hw (ba D.str (aK x w))):=az;have g8:gset (gset (gC G7 pb) pq (.dT hw (ba Sl.d (c9 x w)))) pb (.dT hw (ba D.str (aK x w))) pw=some (.dT hw (ba D.str (hU w))):=by rw[ao ne4.symm,ao n4,eV ne4.symm];exact f4
   have gE:gH G (gset (gset (gC G7 pb) pq (.dT hw (ba Sl.d (c9 x w)))) pb (.dT hw (ba D.str (aK x w)))):=fun a o ha=>by
    have h7:=UW a o ha
    by_cases e1:a=pb
    ·rw[e1]at h7 ⊢;rw[g5,<- h7,f1']
    ·rw[ao e1];have e2:a≠pq:=fun z=>by rw[z,hpq]at h7;cases h7
     rw[ao e2,eV e1];exact h7
   generalize gset (gset (gC G7 pb) pq (.dT hw (ba Sl.d (c9 x w)))) pb (.dT hw (ba D.str (aK x w)))=G9 at *
   clear f1' f2 f3' f4 UW hpq n1 n2 n3 n4 ne1 ne2 ne3 ne4 bl keys es;rw[ag];unfold bN fm gc;simp only[ae,M_,M4,fA];refine zV (fun d=>(fC (c9 x w) (HA d)).isSome) (fun d=>.tup [d,((fC (c9 x w) (HA d)).getD default).d]) (by rw[Mm];omega) (fun d hd P R hP hR=>?_) ?_
   ·obtain⟨s,hs',rfl⟩:=QY.mp hd;rw[Dw]at hP hR;refine⟨⟨by simp,rfl⟩,?_⟩
    show ∃ r,cT hw G9 (.ref pq) s.d r/\(if r.isSome=true then _ else R G9)
    refine⟨_,j_ Z1 Z2 Z3 Z4 Z5 Q4 hw s g9,?_⟩;rw[Option.isSome_map];cases e:fC (c9 x w) s with
    | none=>
     rw[e]at hR;simp only[Option.isSome_none,Bool.false_eq_true,if_false];exact hR rfl
    | some n=>
     rw[e]at hP;simp only[Option.isSome_some,if_true];have lk:=j_ Z1 Z2 Z3 Z4 Z5 Q4 hw s g9;rw[e]at lk;show ∃ d,cT hw G9 (.ref pq) s.d (some d)/\_
     exact⟨n.d,lk,by show 2<=Mp;omega,hP rfl _ rfl⟩
   ·rw[Ca];have eI:(row.filterMap fun s=>(fC (c9 x w) s).map fun n=>(s,n))=lZ x w row:=rfl;rw[eI];dsimp only[val];have lI:(lZ x w row).length<=900000:=le_trans (List.length_filterMap_le _ _) UI;have mem:∀ p∈lZ x w row,∃ z,fC (aK x w) p.2=some z:=fun p hp=>by
     unfold lZ at hp;obtain⟨s,_,e⟩:=List.mem_filterMap.mp hp;cases e2:fC (c9 x w) s with
     | none=>rw[e2]at e;cases e
     | some n=>
      rw[e2]at e;cases e;have m1:=GG e2;unfold c9 at m1;rcases Ch m1 with m2|m2
      ·simp at m2
      ·obtain⟨q,hq,e3⟩:=QY.mp m2;have hq':=(mem_filter.mp hq).1;obtain⟨z,hz⟩:=E6 hq';injection e3 with e4 e5
       exact⟨z,by show fC (aK x w) n=some z;rw[<- e5];exact hz⟩
    unfold bL;simp only[M_,M4,MK,Nd,fA];refine f9 (fun d=>match d with|.tup [a,b]=>.tup [a,b,.str ((fC (aK x w) (HA b)).getD (Mj "")),.str ((fC (hU w) (HA b)).getD (Mj ""))]|d=>d) (by rw[Mm];omega) (fun d hd P hP=>?_) ?_
    ·obtain⟨p,hp,rfl⟩:=QY.mp hd;obtain⟨z,hz⟩:=mem p hp;refine⟨rfl,⟨by simp,rfl⟩,?_⟩
     have lk:=j_ Z1 Z2 Z3 Z4 Z5 Q4 hw p.2 g5;rw[hz]at lk;show ∃ d,cT hw G9 (.ref pb) p.2.d (some d)/\ko G9 _/\∃ r,cT hw G9 (.ref pw) p.2.d r/\_
     refine⟨.str z,lk,?_,_,j_ Z1 Z2 Z3 Z4 Z5 Q4 hw p.2 g8,by show 4<=Mp;omega,hP _ ?_⟩
     ·unfold ko;simp only[val,g8]
     ·show D.tup [p.1.d,p.2.d,.str z,val (((fC (hU w) p.2).map D.str).getD (.str (Mj "")))]=D.tup [p.1.d,p.2.d,.str ((fC (aK x w) p.2).getD (Mj "")),.str ((fC (hU w) p.2).getD (Mj ""))];rw[hz];cases fC (hU w) p.2<;>rfl
    ·have:=h' G9 gE;rw[MY]at this;rw[MY];exact this
 ·exact h.elim
theorem nX(s:Sl)(n:Nat):pl (n+1) s.d:=by
 intro d hd;simp only[MV,MZ,or_false]at hd;rcases hd with rfl|rfl|rfl<;>cases n<;>trivial
theorem Dv(ss:List Sl)(n:Nat):∀ d∈ss.map Sl.d,pl (n+1) d:=fun d hd=>by
 obtain⟨s,_,rfl⟩:=QY.mp hd;exact nX s n
theorem Fl{t u:pC}{σ:fH}{G:Gp}(b1 b2:Bool)(h1:∀ K:Bool->Gp->Prop,K b1 G->t σ G K)(h2:b1=true->∀ K:Bool->Gp->Prop,K b2 G->u σ G K):∀ K:Bool->Gp->Prop,K (b1 && b2) G->si t u σ G K:=fun K hK=>by
 unfold si;refine h1 _ ?_;cases b1 with
 | true=>rw[if_pos rfl];exact h2 rfl K hK
 | false=>rw[if_neg (by decide)];exact hK
theorem Dq{t u:pC}{σ:fH}{G:Gp}(b1 b2:Bool)(h1:∀ K:Bool->Gp->Prop,K b1 G->t σ G K)(h2:b1=false->∀ K:Bool->Gp->Prop,K b2 G->u σ G K):∀ K:Bool->Gp->Prop,K (b1 || b2) G->wJ t u σ G K:=fun K hK=>by
 unfold wJ;refine h1 _ ?_;cases b1 with
 | true=>rw[if_pos rfl];exact hK
 | false=>rw[if_neg (by decide)];exact h2 rfl K hK
theorem HD{x:Str}{out:List Sk}(om:∀ s∈out,s.act.many<=1000):(jg x.length out).length<=x.length+1000*out.length:=by
 have wl:=oo x.length out (cb [aF] aF (gy x.length)) om;have e1:out.foldl fL (cb [aF] aF (gy x.length))=aF::jg x.length out:=rV x.length out;have ol:(gy x.length).length=x.length:=cF _ _ _;rw[e1,dJ,MD,MD,ol]at wl;omega
theorem sy{x:Str}{out:List Sk}{names:List Nm}(om:∀ s∈out,s.act.many<=1000):(dW x out names).length<=x.length+1000*out.length:=by
 unfold dW lZ;rw[Mm];exact le_trans (List.length_filterMap_le _ _) (HD om)
def GT:D->D
 | .tup (_::t)=>.tup t
 | d=>d
theorem B7(seats:List Seat):(seats.map Seat.d).map GT=seats.map Seat.d3:=by rw[MY];rfl
theorem yL(Z1 Z2 Z3 Z4 Z5 Q4:Mg)(hw:HW):bC (cC Z1 Z2 Z3 Z4 Z5 Q4 hw) (jW Z1 Z2 Z3 Z4 Z5 Q4 hw) ["old","strokes","standing"]:=by
 intro ds G Q h;unfold cC at h;split at h
 ·rename_i x q0 ns;obtain⟨sks,base,names,hc,h⟩:=h;have hs:=aj;unfold jW;simp only[bL,fm,gc,aL,af,av,ae,ie,MF,OA,Oi,Od,List.replicate,M_,M4,MD,MS,Nat.reduceAdd,Nat.reduceSub,val,Nz];refine⟨sks,base,names,hc,fun out G1 hE st mem=>?_⟩;obtain⟨_,hx,_,_,l2,sub,ok,_,_⟩:=hc;have lo:out.length < 64:=by
   have:=hZ (fK st) (ys:=base.map Sk.rw) fun r hr=>by
    obtain⟨s,hs',rfl⟩:=QY.mp hr;exact QY.mpr ⟨s,sub s ((mem s).mp hs'),rfl⟩
   rw[Mm,Mm]at this;omega
  have ls:=sy (x:=x) (names:=names) fun s (hs':s∈out)=>le_trans (j9 s) (ok s ((mem s).mp hs')).2;refine f9 GT (by rw[Mm];omega) (fun d hd P hP=>?_) ?_
  ·obtain⟨s,_,rfl⟩:=QY.mp hd;have ed:s.d=.tup [s.slot.d,s.name.d,.str s.sign,.str s.word]:=rfl;rw[ed]at hP ⊢;refine⟨⟨by simp[MK,List.replicate],rfl⟩,?_⟩
   show _/\_
   refine⟨by unfold HT.sIx;simp,?_⟩
   exact hP _ rfl
  ·rw[B7];exact h out G1 hE st mem
 ·exact h.elim
theorem yP(Z1 Z2 Z3 Z4 Z5 Q4:Mg)(hw:HW):bC (dm Z1 Z2 Z3 Z4 Z5 Q4 hw) (j0 Z1 Z2 Z3 Z4 Z5 Q4 hw) ["self"]:=by
 intro ds G Q h;unfold dm at h;split at h
 ·rename_i p;obtain⟨⟨pen,num,time,act⟩,a,x,⟨rfl,hG⟩,h⟩:=h;have hs:=aj;have hc:Z2∈[Z1,Z2,Z3,Z4,Z5]:=by simp
  unfold bj Sl.d at hG;dsimp only at hG;unfold j0;walk_at "st";exact⟨by walk_at "o",by walk_at "o",h⟩
 ·exact h.elim
theorem sP(Z1 Z2 Z3 Z4 Z5 Q4:Mg)(hw:HW):bC (bW Z1 Z2 Z3 Z4 Z5 Q4 hw) (gT Z1 Z2 Z3 Z4 Z5 Q4 hw) ["self"]:=by
 intro ds G Q h;unfold bW at h;split at h
 ·rename_i p;obtain⟨⟨pen,num,time,act⟩,ns,⟨rfl,hG⟩,h⟩:=h;have hs:=aj;have hc:Z3∈[Z1,Z2,Z3,Z4,Z5]:=by simp
  unfold bj at hG;dsimp only at hG;unfold gT;walk_at "st";exact⟨by walk_at "o",by walk_at "o",h⟩
 ·exact h.elim
theorem uY(Z1 Z2 Z3 Z4 Z5 Q4:Mg)(hw:HW):bC (cy Z1 Z2 Z3 Z4 Z5 Q4 hw) (iR Z1 Z2 Z3 Z4 Z5 Q4 hw) ["self"]:=by
 intro ds G Q h;unfold cy at h;split at h
 ·rename_i p;obtain⟨⟨pen,num,time,act⟩,ns,w,⟨rfl,hG⟩,h⟩:=h;have hs:=aj;have hc:Z4∈[Z1,Z2,Z3,Z4,Z5]:=by simp
  unfold bj at hG;dsimp only at hG;unfold iR;walk_at "st";exact⟨by walk_at "o",by walk_at "o",h⟩
 ·exact h.elim
theorem wX(Z1 Z2 Z3 Z4 Z5 Q4:Mg)(hw:HW):bC (cP Z1 Z2 Z3 Z4 Z5 Q4 hw) (jk Z1 Z2 Z3 Z4 Z5 Q4 hw) ["self"]:=by
 intro ds G Q h;unfold cP at h;split at h
 ·rename_i p;obtain⟨⟨pen,num,time,act⟩,ns,a,⟨rfl,hG⟩,h⟩:=h;have hs:=aj;have hc:Z5∈[Z1,Z2,Z3,Z4,Z5]:=by simp
  unfold bj at hG;dsimp only at hG;have ea:a.d=.tup [.str a.pen,.int a.n,.int a.k]:=rfl;rw[ea]at hG;unfold jk;walk_at "st";exact⟨by walk_at "o",by walk_at "o",h⟩
 ·exact h.elim
theorem ya(Z1 Z2 Z3 Z4 Z5 Q4:Mg)(hw:HW){σ:fH}{G:Gp}{p:Mg}{i j:Nat}{vs:List D}{v:D}{Q:mT}(hσ:σ[i]?=some (some (.ref p)))(hG:G p=some (.ins Q4 am vs))(hv:vs[j]?=some v)(h:Q v G):je Q4 am j (ae i) σ G Q:=by
 unfold je ae;rw[hσ];dsimp only;rw[hG];dsimp only
 first
 | (rw[hv];exact⟨⟨rfl,rfl⟩,h⟩)
 | (refine⟨⟨rfl,rfl⟩,?_⟩;rw[hv];exact h)
 | exact⟨⟨rfl,rfl⟩,v,hv,h⟩
theorem Bt{hw0:List aJ->Int}{to ti te:bR}{E:Ends3}{σ:fH}{G:Gp}{o i v:D}(hv:∀ Q:mT,Q v G->te σ G Q)(ho:∀ Q:mT,Q o G->to σ G Q)(hi:∀ Q:mT,Q i G->ti σ G Q)(h:lJ hw0 (val o) (val i) (val v) G fun G4=>E.nx σ G4):e9 hw0 to ti te E σ G:=hv _ (ho _ (hi _ h))
theorem pi(Z1 Z2 Z3 Z4 Z5 Q4:Mg)(hw:HW){σ:fH}{G:Gp}{p:Mg}{s:Sk}{i:Nat}{Q:mT}(hσ:σ[i]?=some (some (.ref p)))(hG:G p=some (bj Z1 Z2 Z3 Z4 Z5 Q4 s))(h:Q (.tup [.str s.pen,.int s.num]) G):bU [Z1,Z2,Z3,Z4,Z5] "name" (ae i) σ G Q:=by
 obtain⟨pen,num,time,act⟩:=s;unfold bU ae;rw[hσ];cases act<;>(simp only[bj]at hG;simp only[hG];refine⟨by simp,?_⟩;first|exact h)
theorem EH(Z1 Z2 Z3 Z4 Z5 Q4:Mg)(hw:HW){σ:fH}{G:Gp}{p:Mg}{s:Sk}{i:Nat}{Q:mT}(hσ:σ[i]?=some (some (.ref p)))(hG:G p=some (bj Z1 Z2 Z3 Z4 Z5 Q4 s))(h:Q (.int s.time) G):bU [Z1,Z2,Z3,Z4,Z5] "time" (ae i) σ G Q:=by
 obtain⟨pen,num,time,act⟩:=s;unfold bU ae;rw[hσ];cases act<;>(simp only[bj]at hG;simp only[hG];refine⟨by simp,?_⟩;first|exact h)
theorem Em(Z1 Z2 Z3 Z4 Z5 Q4:Mg)(hw:HW){σ:fH}{G:Gp}{p:Mg}{s:Sk}{i:Nat}{Q:mT}(hσ:σ[i]?=some (some (.ref p)))(hG:G p=some (bj Z1 Z2 Z3 Z4 Z5 Q4 s))(h:Q s.d G):
  fg [(Z2,dm Z1 Z2 Z3 Z4 Z5 Q4 hw),(Z3,bW Z1 Z2 Z3 Z4 Z5 Q4 hw),(Z4,cy Z1 Z2 Z3 Z4 Z5 Q4 hw),(Z5,cP Z1 Z2 Z3 Z4 Z5 Q4 hw)] "row" [] (ae i) av σ G Q:=by
 obtain⟨pen,num,time,act⟩:=s;unfold fg ae;rw[hσ];cases act with
 | put a x=>
  have hG':=hG;simp only[bj]at hG;simp only[hG];exact⟨by decide +kernel,dm Z1 Z2 Z3 Z4 Z5 Q4 hw,by simp,⟨_,a,x,⟨rfl,hG'⟩,h⟩⟩
 | strike ns=>
  have hG':=hG;simp only[bj]at hG;simp only[hG];exact⟨by decide +kernel,bW Z1 Z2 Z3 Z4 Z5 Q4 hw,by simp,⟨_,ns,⟨rfl,hG'⟩,h⟩⟩
 | dress ns w=>
  have hG':=hG;simp only[bj]at hG;simp only[hG];exact⟨by decide +kernel,cy Z1 Z2 Z3 Z4 Z5 Q4 hw,by simp,⟨_,ns,w,⟨rfl,hG'⟩,h⟩⟩
 | move ns a=>
  have hG':=hG;simp only[bj]at hG;simp only[hG];exact⟨by decide +kernel,cP Z1 Z2 Z3 Z4 Z5 Q4 hw,by simp,⟨_,ns,a,⟨rfl,hG'⟩,h⟩⟩
theorem uS(Z1 Z2 Z3 Z4 Z5 Q4:Mg)(hw:HW):bC (cu Z1 Z2 Z3 Z4 Z5 Q4 hw) (iM Z1 Z2 Z3 Z4 Z5 Q4 hw) ["at","length"]:=by
 intro ds G Q h;unfold cu at h;split at h
 ·obtain⟨⟨h1,h2⟩,h⟩:=h;unfold iM;walk_at "st";rw[decide_eq_true True.intro];exact True.intro
 ·exact h.elim
theorem ou(Z1 Z2 Z3 Z4 Z5 Q4:Mg)(hw:HW):bC (aR Z1 Z2 Z3 Z4 Z5 Q4 hw) (eL Z1 Z2 Z3 Z4 Z5 Q4 hw) ["at","to","length"]:=by
 intro ds G Q h;unfold aR at h;split at h
 ·obtain⟨⟨h1,h2,h3,h4⟩,h⟩:=h;unfold eL;walk_at "st";rw[decide_eq_true True.intro];exact True.intro
 ·exact h.elim
theorem oA(Z1 Z2 Z3 Z4 Z5 Q4:Mg)(hw:HW):bC (bp Z1 Z2 Z3 Z4 Z5 Q4 hw) (eO Z1 Z2 Z3 Z4 Z5 Q4 hw) ["self"]:=by
 intro ds G Q h;unfold bp at h;split at h
 ·rename_i p;obtain⟨P,d,s,g,⟨⟨g1,g2,g3,g4⟩,ok⟩,h⟩:=h;have hs:=aj;have l1:=ok.ls;unfold eO;walk_at "st";refine⟨by rw[Mm];omega,fun i acc G'=>acc=(((P.sks.take i).filter fun s=>!fJ P s.nm).map Sk.nm).map Nm.d/\G'=G,⟨rfl,rfl⟩,fun i acc G' hp=>by rw[hp.2];exact g2,?_,?_⟩
  ·rintro i dd acc G' hd ⟨rfl,rfl⟩
   rw[MH]at hd;cases hq:P.sks[i]? with
   | none=>rw[hq]at hd;cases hd
   | some k=>
    rw[hq]at hd;cases hd;obtain⟨w,hw0⟩:=ok.kn k (MC hq);have tk:((P.sks.take (i+1)).filter fun s=>!fJ P s.nm)=((P.sks.take i).filter fun s=>!fJ P s.nm) ++ if (!fJ P k.nm)=true then [k]else []:=by
     rw[MU,hq,NS];congr 1
     by_cases z:(!fJ P k.nm)=true
     ·rw[if_pos z];exact List.filter_cons_of_pos z
     ·rw[if_neg z];exact List.filter_cons_of_neg z
    have wk:fJ P k.nm=dG (.str w) (.str (Mj "wiped")):=by unfold fJ;rw[hw0];rfl
    have ed:k.d=.tup [.tup [.str k.pen,.int k.num],.int k.time,k.act.d]:=rfl;rw[ed];refine⟨⟨by simp[MK,List.replicate],rfl⟩,?_⟩
    have hk:cB P.st [.inr k.pen,.inl k.num]=some (.str w):=hw0;clear ok;have tk':(((P.sks.take (i+1)).filter fun s=>!fJ P s.nm).map Sk.nm).map Nm.d=(((P.sks.take i).filter fun s=>!fJ P s.nm).map Sk.nm).map Nm.d ++ if (!fJ P k.nm)=true then [.tup [.str k.pen,.int k.num]]else []:=by
     rw[tk,M3,M3];congr 1;split<;>rfl
    clear tk;generalize (((P.sks.take i).filter fun s=>!fJ P s.nm).map Sk.nm).map Nm.d=A0 at *
    rw[wk]at tk';walk_at "st"
    by_cases z:(!dG (.str w) (.str (Mj "wiped")))=true
    ·rw[if_pos z,if_pos z]
    ·rw[if_neg z,if_neg z,Nz]
  ·rintro acc G' ⟨rfl,rfl⟩
   rw[Mm,MR];exact h
 ·exact h.elim
theorem oB(Z1 Z2 Z3 Z4 Z5 Q4:Mg)(hw:HW):bC (aN Z1 Z2 Z3 Z4 Z5 Q4 hw) (eP Z1 Z2 Z3 Z4 Z5 Q4 hw) ["self"]:=by
 intro ds G Q h;unfold aN at h;split at h
 ·rename_i p;obtain⟨P,d,s,g,⟨⟨g1,g2,g3,g4⟩,ok⟩,h⟩:=h;have hs:=aj;unfold eP;walk_at "st"
 ·exact h.elim
theorem kA(Z1 Z2 Z3 Z4 Z5 Q4:Mg)(hw:HW):bC (aD Z1 Z2 Z3 Z4 Z5 Q4 hw) (da Z1 Z2 Z3 Z4 Z5 Q4 hw) ["self","pen"]:=by
 intro ds G Q h;unfold aD at h;split at h
 ·rename_i p pen;obtain⟨P,d,s,g,⟨⟨g1,g2,g3,g4⟩,gi⟩,h⟩:=h;have hs:=aj;unfold da;unfold Pp.num at h;cases e:cB P.gr (.inr pen) with
  | none=>
   rw[e]at h;walk_at "st";exact⟨by walk_at "o",h⟩
  | some v=>
   obtain⟨m,rfl,_⟩:=gi _ _ e;rw[e]at h;walk_at "st";exact⟨by walk_at "o",h⟩
 ·exact h.elim
theorem kz(Z1 Z2 Z3 Z4 Z5 Q4:Mg)(hw:HW):bC (aB Z1 Z2 Z3 Z4 Z5 Q4 hw) (c_ Z1 Z2 Z3 Z4 Z5 Q4 hw) ["self"]:=by
 intro ds G Q h;unfold aB at h;split at h
 ·rename_i p;obtain⟨P,d,s,g,⟨g1,g2,g3,g4⟩,h⟩:=h;unfold c_;walk_at "st"
 ·exact h.elim
theorem kC(Z1 Z2 Z3 Z4 Z5 Q4:Mg)(hw:HW):bC (bh Z1 Z2 Z3 Z4 Z5 Q4 hw) (de Z1 Z2 Z3 Z4 Z5 Q4 hw) ["self","name"]:=by
 intro ds G Q h;unfold bh at h;split at h
 ·rename_i p a b;obtain⟨P,d,s,g,w,⟨⟨g1,g2,g3,g4⟩,hk⟩,h⟩:=h;unfold de;walk_at "st";exact iteF True.intro
 ·exact h.elim
theorem rj(Z1 Z2 Z3 Z4 Z5 Q4:Mg)(hw:HW):bC (aT Z1 Z2 Z3 Z4 Z5 Q4 hw) (fQ Z1 Z2 Z3 Z4 Z5 Q4 hw) ["self","name"]:=by
 intro ds G Q h;unfold aT at h;split at h
 ·rename_i p a b;obtain⟨P,d,s,g,w,⟨⟨g1,g2,g3,g4⟩,hk⟩,h⟩:=h;unfold fQ;rw[ag];walk_at "s1";exact⟨P,d,s,g,w,⟨g1,g2,g3,g4⟩,hk⟩
 ·exact h.elim
theorem kB(Z1 Z2 Z3 Z4 Z5 Q4:Mg)(hw:HW):bC (aM Z1 Z2 Z3 Z4 Z5 Q4 hw) (db Z1 Z2 Z3 Z4 Z5 Q4 hw) ["self","name"]:=by
 intro ds G Q h;unfold aM at h;split at h
 ·rename_i p a b;obtain⟨P,d,s,g,⟨⟨g1,g2,g3,g4⟩,hk⟩,h⟩:=h;unfold db;walk_at "st";refine⟨P,d,s,g,_,⟨⟨g1,g2,g3,g4⟩,hk⟩,?_⟩;rw[bu];exact iteF True.intro
 ·exact h.elim
theorem sQ(Z1 Z2 Z3 Z4 Z5 Q4:Mg)(hw:HW):bC (cM Z1 Z2 Z3 Z4 Z5 Q4 hw) (gU Z1 Z2 Z3 Z4 Z5 Q4 hw) ["self","name"]:=by
 intro ds G Q h;unfold cM at h;split at h
 ·rename_i p a b;obtain⟨P,d,s,g,⟨⟨g1,g2,g3,g4⟩,hk,l2⟩,h⟩:=h;have hs:=aj;unfold gU;rw[ag];walk_at "s1";refine⟨P,d,s,g,⟨⟨g1,g2,g3,g4⟩,hk⟩,by walk_at "o",h _ (fun x o hx hG=>?_) ⟨?_,?_,az,?_⟩⟩
  ·rw[ao (fun z=>hx (by rw[z];simp))]
   exact hG
  ·rw[ao (fun z=>by rw[z,g3]at g1;cases g1)]
   exact g1
  ·rw[ao (fun z=>by rw[z,g3]at g2;cases g2)]
   exact g2
  ·rw[ao (fun z=>by rw[z,g3]at g4;cases g4)]
   exact g4
 ·exact h.elim
theorem sR(Z1 Z2 Z3 Z4 Z5 Q4:Mg)(hw:HW):bC (bK Z1 Z2 Z3 Z4 Z5 Q4 hw) (gW Z1 Z2 Z3 Z4 Z5 Q4 hw) ["self"]:=by
 intro ds G Q h;unfold bK at h;split at h
 ·rename_i p;obtain⟨P,d,s,g,⟨⟨g1,g2,g3,g4⟩,ok⟩,h⟩:=h;have hs:=aj;have o1:=ok.lo;have o2:=ok.ls;have un:P.unw.length<=P.sks.length:=by
   unfold Pp.unw;rw[Mm];exact Ng _ _
  have sk:∀ k∈P.sks,1<=k.num/\k.wd<=1000:=fun k hk=>⟨(ok.sk k hk).1,le_trans (ok.sk k hk).2.1 (by decide)⟩
  unfold gW;walk_at "st";refine⟨P,d,s,g,⟨⟨g1,g2,g3,g4⟩,ok⟩,P.sks,P.sks,P.unw,⟨rfl,by walk_at "o",mn ok.ap,by walk_at "o",by walk_at "o",fun k hk=>hk,sk,rfl,by walk_at "o"⟩,fun out G' hE so mo=>h out G' hE ⟨so,mo⟩⟩
 ·exact h.elim
theorem rl(Z1 Z2 Z3 Z4 Z5 Q4:Mg)(hw:HW):bC (aU Z1 Z2 Z3 Z4 Z5 Q4 hw) (fR Z1 Z2 Z3 Z4 Z5 Q4 hw) ["self"]:=by
 intro ds G Q h;unfold aU at h;split at h
 ·rename_i p;obtain⟨P,d,s,g,⟨⟨g1,g2,g3,g4⟩,ok⟩,h⟩:=h;have hs:=aj;have o1:=ok.lo;have o2:=ok.ls;have un:P.unw.length<=P.sks.length:=by
   unfold Pp.unw;rw[Mm];exact Ng _ _
  have sk:∀ k∈P.sks,1<=k.num/\k.wd<=1000:=fun k hk=>⟨(ok.sk k hk).1,le_trans (ok.sk k hk).2.1 (by decide)⟩
  unfold fR;walk_at "st";refine⟨P,d,s,g,⟨⟨g1,g2,g3,g4⟩,ok⟩,P.sks,P.sks,P.unw,⟨rfl,by walk_at "o",mn ok.ap,by walk_at "o",by walk_at "o",fun k hk=>hk,sk,rfl,by walk_at "o"⟩,fun out G' hE so mo=>h out G' hE ⟨so,mo⟩⟩
 ·exact h.elim
theorem sU(Z1 Z2 Z3 Z4 Z5 Q4:Mg)(hw:HW):bC (bf Z1 Z2 Z3 Z4 Z5 Q4 hw) (gZ Z1 Z2 Z3 Z4 Z5 Q4 hw) ["self","stroke"]:=by
 intro ds G Q h;unfold bf at h;split at h
 ·rename_i p a;obtain⟨P,d,s,g,k,⟨⟨g1,g2,g3,g4⟩,ga,l1,l2,l3⟩,h⟩:=h;have hs:=aj;have npd:p≠d:=fun z=>by rw[z,g2]at g1;cases g1
  have nps:p≠s:=fun z=>by rw[z,g3]at g1;cases g1
  have npg:p≠g:=fun z=>by rw[z,g4]at g1;cases g1
  have nds:d≠s:=fun z=>by rw[z,g3]at g2;cases g2
  have ndg:d≠g:=fun z=>by rw[z,g4]at g2;cases g2
  have nsg:s≠g:=fun z=>by rw[z,g4]at g3;cases g3
  obtain⟨C,L,fs,eo⟩:=qi Z1 Z2 Z3 Z4 Z5 Q4 k;have gx:G a=some (.ins C L fs):=ga.trans (by rw[eo])
  have nad:a≠d:=fun z=>by rw[z,g2]at gx;cases gx
  have nas:a≠s:=fun z=>by rw[z,g3]at gx;cases gx
  have nag:a≠g:=fun z=>by rw[z,g4]at gx;cases gx
  unfold gZ;rw[ag];unfold cH iT;refine ya Z1 Z2 Z3 Z4 Z5 Q4 hw (i:=0) rfl g1 rfl ?_;refine⟨⟨_,g2⟩,?_⟩;unfold af;refine Em Z1 Z2 Z3 Z4 Z5 Q4 hw (i:=1) rfl ga ?_;unfold av;dsimp only;rw[g2];dsimp only;refine⟨by rw[Mm];omega,?_⟩
  have e1:(P.sks.map Sk.d) ++ [val k.d]=(P.sks ++ [k]).map Sk.d:=by rw[M3];rfl
  rw[e1];clear e1;have h1:gset G d (.lst ((P.sks ++ [k]).map Sk.d)) p=_:=(ao npd).trans g1;have h2:gset G d (.lst ((P.sks ++ [k]).map Sk.d)) d=_:=az;have h3:gset G d (.lst ((P.sks ++ [k]).map Sk.d)) s=_:=(ao nds.symm).trans g3;have h4:gset G d (.lst ((P.sks ++ [k]).map Sk.d)) g=_:=(ao ndg.symm).trans g4;have ha:gset G d (.lst ((P.sks ++ [k]).map Sk.d)) a=_:=(ao nad).trans ga;have ho:yu [p,d,s,g] G (gset G d (.lst ((P.sks ++ [k]).map Sk.d))):=fun x o hx hG=>(ao fun z=>hx (by rw[z];simp)).trans hG
  generalize gset G d (.lst ((P.sks ++ [k]).map Sk.d))=G1 at *
  clear g1 g2 g3 g4 ga gx;rw[ag];refine Bt (v:=.str (Mj "waits")) (o:=.ref s) (i:=.tup [.str k.pen,.int k.num]) (fun Q h=>h) (fun Q h=>ya Z1 Z2 Z3 Z4 Z5 Q4 hw (i:=0) rfl h1 rfl h) (fun Q h=>pi Z1 Z2 Z3 Z4 Z5 Q4 hw (i:=1) rfl ha h) ?_;unfold lJ;dsimp only[val];rw[h3];refine⟨rfl,k.nm.key,rfl,by walk_at "o",?_⟩
  have i1:gset G1 s (.dT hw (bB P.st k.nm.key (.str (Mj "waits")))) p=_:=(ao nps).trans h1;have i2:gset G1 s (.dT hw (bB P.st k.nm.key (.str (Mj "waits")))) d=_:=(ao nds).trans h2;have i3:gset G1 s (.dT hw (bB P.st k.nm.key (.str (Mj "waits")))) s=_:=az;have i4:gset G1 s (.dT hw (bB P.st k.nm.key (.str (Mj "waits")))) g=_:=(ao nsg.symm).trans h4;have ia:gset G1 s (.dT hw (bB P.st k.nm.key (.str (Mj "waits")))) a=_:=(ao nas).trans ha;have io:yu [p,d,s,g] G (gset G1 s (.dT hw (bB P.st k.nm.key (.str (Mj "waits"))))):=fun x o hx hG=>(ao fun z=>hx (by rw[z];simp)).trans (ho x o hx hG)
  generalize gset G1 s (.dT hw (bB P.st k.nm.key (.str (Mj "waits"))))=G2 at *
  clear h1 h2 h3 h4 ha ho;rw[ag];refine Bt (v:=.int k.num) (o:=.ref g) (i:=.str k.pen) (fun Q h=>by unfold bA;exact pi Z1 Z2 Z3 Z4 Z5 Q4 hw (i:=1) rfl ia h) (fun Q h=>ya Z1 Z2 Z3 Z4 Z5 Q4 hw (i:=0) rfl i1 rfl h) (fun Q h=>by unfold bA;exact pi Z1 Z2 Z3 Z4 Z5 Q4 hw (i:=1) rfl ia h) ?_
  unfold lJ;dsimp only[val];rw[i4];refine⟨.inr k.pen,rfl,by walk_at "o",?_⟩
  have j1:gset G2 g (.dK (bB P.gr (.inr k.pen) (.int k.num))) p=_:=(ao npg).trans i1;have j2:gset G2 g (.dK (bB P.gr (.inr k.pen) (.int k.num))) d=_:=(ao ndg).trans i2;have j3:gset G2 g (.dK (bB P.gr (.inr k.pen) (.int k.num))) s=_:=(ao nsg).trans i3;have j4:gset G2 g (.dK (bB P.gr (.inr k.pen) (.int k.num))) g=_:=az;have ja:gset G2 g (.dK (bB P.gr (.inr k.pen) (.int k.num))) a=_:=(ao nag).trans ia;have jo:yu [p,d,s,g] G (gset G2 g (.dK (bB P.gr (.inr k.pen) (.int k.num)))):=fun x o hx hG=>(ao fun z=>hx (by rw[z];simp)).trans (io x o hx hG)
  generalize gset G2 g (.dK (bB P.gr (.inr k.pen) (.int k.num)))=G3 at *
  clear i1 i2 i3 i4 ia io;rw[ag];unfold Bu;refine EH Z1 Z2 Z3 Z4 Z5 Q4 hw (i:=1) (p:=a) (σ:=[some (.ref p),some (.ref a)]) rfl ja ?_;show (match G3 p with|some (.ins C' L' ds)=>_|_=>False)
  rw[j1];refine⟨⟨rfl,rfl⟩,?_⟩;have npa:a≠p:=fun z=>by
   rw[z,j1]at ja;obtain⟨pen,num,time,act⟩:=k;cases act<;>cases ja
  dsimp only;unfold bL;refine pi Z1 Z2 Z3 Z4 Z5 Q4 hw (i:=1) (p:=a) (σ:=[some (.ref p),some (.ref a)]) rfl ((ao npa).trans ja) ?_;exact h _ (fun x o hx hG=>(ao fun z=>hx (by rw[z];simp)).trans (jo x o hx hG)) ⟨az,(ao npd.symm).trans j2,(ao nps.symm).trans j3,(ao npg.symm).trans j4⟩
 ·exact h.elim
theorem no(Z1 Z2 Z3 Z4 Z5 Q4:Mg)(hw:HW):bC (bI Z1 Z2 Z3 Z4 Z5 Q4 hw) (d6 Z1 Z2 Z3 Z4 Z5 Q4 hw) ["self","old"]:=by
 intro ds G Q h;unfold bI at h;split at h
 ·rename_i p x;obtain⟨g1,h⟩:=h;have hs:=aj;unfold d6;rw[ag];walk_at "s1";rw[ag];walk_at "s1";refine⟨by walk_at "o",fun d hd=>?_⟩
  have npd:p≠d:=fun z=>by rw[<- z,az]at hd;cases hd
  have hd0:G d=none:=by rwa[ao npd.symm]at hd
  rw[ao npd,az];dsimp only;refine⟨⟨rfl,rfl⟩,?_⟩;rw[ag];generalize hG1:gset (gset (gset G p _) d _) p _=G1;have a1:G1 p=some (.ins Q4 ["old","drawn"] [.str x,.ref d]):=by rw[<- hG1];exact az
  have a2:G1 d=some (.lst []):=by rw[<- hG1,ao npd.symm];exact az
  have a0:∀ y o,y≠p->y≠d->G y=some o->G1 y=some o:=fun y o h1 h2 hG=>by rw[<- hG1,ao h1,ao h2,ao h1];exact hG
  clear hG1;walk_at "s1";intro s hs1;have nps:p≠s:=fun z=>by rw[<- z,a1]at hs1;cases hs1
  have nds:d≠s:=fun z=>by rw[<- z,a2]at hs1;cases hs1
  rw[ao nps,a1];dsimp only;refine⟨⟨rfl,rfl⟩,?_⟩;rw[ag];generalize hG2:gset (gset G1 s _) p _=G2;have b1:G2 p=some (.ins Q4 ["old","drawn","states"] [.str x,.ref d,.ref s]):=by rw[<- hG2];exact az
  have b2:G2 d=some (.lst []):=by rw[<- hG2,ao npd.symm,ao nds];exact a2
  have b3:G2 s=some (.dT hw []):=by rw[<- hG2,ao nps.symm];exact az
  have b0:∀ y o,y≠p->y≠d->y≠s->G y=some o->G2 y=some o:=fun y o h1 h2 h3 hG=>by rw[<- hG2,ao h1,ao h3];exact a0 y o h1 h2 hG
  clear hG2 a1 a2 a0 hs1;walk_at "s1";intro g hg;have npg:p≠g:=fun z=>by rw[<- z,b1]at hg;cases hg
  have ndg:d≠g:=fun z=>by rw[<- z,b2]at hg;cases hg
  have nsg:s≠g:=fun z=>by rw[<- z,b3]at hg;cases hg
  rw[ao npg,b1];dsimp only;refine⟨⟨rfl,rfl⟩,?_⟩;walk_at "st";refine h d s g _ (fun y o hy hG=>?_) ⟨az,?_,?_,?_⟩
  ·simp only[MV,MZ,or_false,not_or]at hy;rw[ao hy.1,ao hy.2.2.2];exact b0 y o hy.1 hy.2.1 hy.2.2.1 hG
  ·rw[ao npd.symm,ao ndg];exact b2
  ·rw[ao nps.symm,ao nsg];exact b3
  ·rw[ao npg.symm];exact az
 ·exact h.elim
theorem GD{seats:List Seat}{i:Int}(h0:0<=i)(h1:i < seats.length):kN (seats.map Seat.d) i=some (seats[i.toNat]'(by walk_at "o")).d:=by
 have:=pr (ds:=seats.map Seat.d) (i:=i) h0 (by rw[Mm];omega)
 rw[this,ON]
def GY:D->D
 | .tup (_::d::_)=>d
 | d=>d
theorem Cw(seats:List Seat):(seats.map Seat.d).map GY=(seats.map Seat.name).map Sl.d:=by rw[MY,MY];rfl
theorem ot(Z1 Z2 Z3 Z4 Z5 Q4:Mg)(hw:HW):bC (aQ Z1 Z2 Z3 Z4 Z5 Q4 hw) (eK Z1 Z2 Z3 Z4 Z5 Q4 hw) ["seats","at","to"]:=by
 intro ds G Q h;unfold aQ at h;split at h
 ·rename_i xs i j;obtain⟨seats,⟨rfl,h0,h1,h2,h3⟩,h⟩:=h;have hs:=aj;unfold eK;walk_at "st";have ec:L3.cutD (seats.map Seat.d) (some i) (some j)=((seats.drop i.toNat).take (j - i).toNat).map Seat.d:=by
   rw[EM h0 (by walk_at "o"),List.map_take,List.map_drop]
   congr 1;omega
  rw[ec];refine f9 GY (by rw[Mm];exact le_trans (List.length_take_le' _ _) (by rw[OM];omega)) (fun d hd P hP=>?_) ?_
  ·obtain⟨s,_,rfl⟩:=QY.mp hd;have ed:s.d=.tup [s.slot.d,s.name.d,.str s.sign,.str s.word]:=rfl;rw[ed]at hP ⊢;refine⟨⟨by simp[MK,List.replicate],rfl⟩,?_⟩
   exact hP _ rfl
  ·rw[Cw];exact h
 ·exact h.elim
theorem gf.off{C:Mg}{hw0:List aJ->Int}{G:Gp}{p d s g a:Mg}{P:Pp}{o:GO}(h:gf C hw0 G p d s g P)(ha:G a=none):gf C hw0 (gset G a o) p d s g P:=by
 have ne:∀ {b:Mg} {u:GO},G b=some u->b≠a:=fun hb z=>by rw[z,ha]at hb;cases hb
 obtain⟨h1,h2,h3,h4⟩:=h;exact⟨(ao (ne h1)).trans h1,(ao (ne h2)).trans h2,(ao (ne h3)).trans h3,(ao (ne h4)).trans h4⟩
theorem gf.ext{C:Mg}{hw0:List aJ->Int}{G G':Gp}{p d s g:Mg}{P:Pp}(h:gf C hw0 G p d s g P)(e:gH G G'):gf C hw0 G' p d s g P:=⟨e _ _ h.1,e _ _ h.2.1,e _ _ h.2.2.1,e _ _ h.2.2.2⟩
theorem Pp.ok.le{P:Pp}{n m:Nat}(h:P.ok n)(hl:n<=m):P.ok m:=⟨h.lo,le_trans h.ls hl,le_trans h.lt hl,le_trans h.lg hl,h.sk,h.ap,h.kn,h.gi,h.gm⟩
theorem Br{P:Pp}{out:List Sk}(so:Srt P out):out.length<=P.sks.length:=by
 have:=hZ (fK so.1) (ys:=P.sks.map Sk.rw) fun r hr=>by
  obtain⟨s,hs',rfl⟩:=QY.mp hr;exact QY.mpr ⟨s,(so.2 s).mp hs',rfl⟩
 rwa[Mm,Mm]at this
theorem nY{P:Pp}{out:List Sk}(ok:P.ok 50)(so:Srt P out):(P.seats out).length<=60000:=by
 have h1:=sy (x:=P.old) (out:=out) (names:=P.unw) fun s hs'=>le_trans (j9 s) (le_trans (ok.sk s ((so.2 s).mp hs')).2.1 (by decide))
 have h2:=Br so;have h3:=ok.ls;have h4:=ok.lo;unfold Pp.seats;omega
theorem xy{G G1 G':Gp}{a p d s g:Mg}{o:GO}(e:gH G G1)(ha:G1 a=none)(h:yu [p,d,s,g] (gset G1 a o) G'):yu [p,d,s,g] G G':=fun x u hx hG=>h x u hx ((ao fun z=>by rw[<- z,e x u hG]at ha;cases ha).trans (e x u hG))
theorem p4(Z1 Z2 Z3 Z4 Z5 Q4:Mg)(hw:HW):bC (b9 Z1 Z2 Z3 Z4 Z5 Q4 hw) (fx Z1 Z2 Z3 Z4 Z5 Q4 hw) ["self","pen","at","to","seats"]:=by
 intro ds G Q h;unfold b9 at h;split at h
 ·rename_i p pen i j;obtain⟨P,d,s,g,⟨⟨g1,g2,g3,g4⟩,ok⟩,h⟩:=h;have hs:=aj;have ok':P.ok 50:=ok.le (by decide)
  have ls:=ok.ls;have lt:=ok.lt;have lg:=ok.lg;have gi:=ok.gi;unfold fx;rw[ag];walk_at "s1";refine⟨P,d,s,g,⟨⟨g1,g2,g3,g4⟩,ok'⟩,fun out G1 hE so=>?_⟩;obtain⟨⟨c1,c2,c3,c4⟩,h⟩:=h out so;have k1:=hE _ _ g1;have k2:=hE _ _ g2;have k3:=hE _ _ g3;have k4:=hE _ _ g4;rw[ag];walk_at "s1";have sb:=nY ok' so;have pa:gf Q4 hw G1 p d s g P:=⟨k1,k2,k3,k4⟩;refine⟨⟨by rw[Mm];exact c2,by rw[Mm];exact c4⟩,P,d,s,g,⟨pa,gi⟩,P,d,s,g,pa,P.seats out,⟨rfl,by walk_at "o",c4,by walk_at "o"⟩,fun a ha=>⟨pen,_,rfl,P,d,s,g,⟨pen,P.num pen,P.time+1,.strike ((((P.seats out).drop i.toNat).take (j - i).toNat).map Seat.name)⟩,⟨pa.off ha,?_⟩,fun G' of pt=>h G' (xy hE ha of) pt⟩⟩
  exact⟨rfl,by walk_at "o",by walk_at "o",by walk_at "o"⟩
 ·exact h.elim
theorem sS(Z1 Z2 Z3 Z4 Z5 Q4:Mg)(hw:HW):bC (cN Z1 Z2 Z3 Z4 Z5 Q4 hw) (gX Z1 Z2 Z3 Z4 Z5 Q4 hw) ["self","pen","at"]:=by
 intro ds G Q h;unfold cN at h;split at h
 ·rename_i p pen i;obtain⟨P,d,s,g,⟨⟨g1,g2,g3,g4⟩,ok⟩,h⟩:=h;unfold gX;walk_at "st";exact⟨P,d,s,g,⟨⟨g1,g2,g3,g4⟩,ok⟩,h⟩
 ·exact h.elim
theorem srt_uniq{P:Pp}{a b:List Sk}(ha:Srt P a)(hb:Srt P b):a=b:=su (jp ha.1 hb.1 fun r=>by
 constructor
 ·intro hr;obtain⟨s,hs',rfl⟩:=QY.mp hr;exact QY.mpr ⟨s,(hb.2 s).mpr ((ha.2 s).mp hs'),rfl⟩
 ·intro hr;obtain⟨s,hs',rfl⟩:=QY.mp hr;exact QY.mpr ⟨s,(ha.2 s).mpr ((hb.2 s).mp hs'),rfl⟩)
theorem Jj{seats:List Seat}{i:Int}(h0:0 < i)(h1:i<=seats.length):∃ st:Seat,kN (seats.map Seat.d) (i - 1)=some st.d/\pA seats i=st.slot:=by
 refine⟨seats[(i - 1).toNat]'(by walk_at "o"),GD (by walk_at "o") (by walk_at "o"),?_⟩
 unfold pA;rw[if_neg (by walk_at "o"),Ms (by walk_at "o")]
theorem Ji(Z1 Z2 Z3 Z4 Z5 Q4:Mg)(hw:HW){seats:List Seat}{i:Int}{Q:mT}{G:Gp}(h0:0<=i)(h1:i<=seats.length)(h:Q (pA seats i).d G):fP Z1 Z2 Z3 Z4 Z5 Q4 hw { nx:=fun _ G'=>Q .non G',rt:=Q } [some (.lst (seats.map Seat.d)),some (.int i)] G:=by
 have hs:=aj;unfold fP
 by_cases e:i=0
 ·subst e;refine Ao (NX:=fun _ _=>False) (fun _ _ z=>z.elim) fun NX hNX=>?_;refine cJ true (fun K hK=>?_) (iteT ?_)
  ·walk_at "st"
  ·exact h
 ·refine Ao (NX:=fun σ' G'=>σ'=[some (.lst (seats.map Seat.d)),some (.int i)]/\G'=G) (fun σ' G' z=>?_) fun NX hNX=>?_
  ·obtain⟨rfl,rfl⟩:=z;obtain⟨st,as,ea⟩:=Jj (seats:=seats) (i:=i) (by walk_at "o") h1
   rw[ea]at h;have ed:st.d=.tup [st.slot.d,st.name.d,.str st.sign,.str st.word]:=rfl;rw[ed]at as;clear ea ed;walk_at "st"
  ·have en:dG (.int i) (.int 0)=false:=bQ fun z=>e (by injection z)
   refine cJ false (fun K hK=>?_) (iteF ?_)
   ·walk_at "st"
   ·exact hNX _ _ ⟨rfl,rfl⟩
theorem uT(Z1 Z2 Z3 Z4 Z5 Q4:Mg)(hw:HW):bC (cv Z1 Z2 Z3 Z4 Z5 Q4 hw) (fP Z1 Z2 Z3 Z4 Z5 Q4 hw) ["seats","at"]:=by
 intro ds G Q h;unfold cv at h;split at h
 ·rename_i xs i;obtain⟨seats,⟨rfl,h0,h1⟩,h⟩:=h;exact Ji Z1 Z2 Z3 Z4 Z5 Q4 hw h0 h1 h
 ·exact h.elim
theorem uX(Z1 Z2 Z3 Z4 Z5 Q4:Mg)(hw:HW):bC (cx Z1 Z2 Z3 Z4 Z5 Q4 hw) (iQ Z1 Z2 Z3 Z4 Z5 Q4 hw) ["self","pen","at","signs","seats"]:=by
 intro ds G Q h;unfold cx at h;split at h
 ·rename_i p pen i w;obtain⟨P,d,s,g,⟨⟨g1,g2,g3,g4⟩,ok⟩,h⟩:=h;have hs:=aj;have ok':P.ok 50:=ok.le (by decide)
  have ls:=ok.ls;have lt:=ok.lt;have lg:=ok.lg;have gi:=ok.gi;unfold iQ;rw[ag];walk_at "s1";refine⟨P,d,s,g,⟨⟨g1,g2,g3,g4⟩,ok'⟩,fun out G1 hE so=>?_⟩;obtain⟨⟨c1,c2⟩,h⟩:=h out so;have k1:=hE _ _ g1;have k2:=hE _ _ g2;have k3:=hE _ _ g3;have k4:=hE _ _ g4;rw[ag];walk_at "s1";have sb:=nY ok' so;have pa:gf Q4 hw G1 p d s g P:=⟨k1,k2,k3,k4⟩;refine⟨by rw[Mm];exact c2,P,d,s,g,⟨pa,gi⟩,P,d,s,g,pa,P.seats out,⟨rfl,c2⟩,fun a ha=>⟨pen,_,_,rfl,rfl,P,d,s,g,⟨pen,P.num pen,P.time+1,.put (pA (P.seats out) i) w⟩,⟨pa.off ha,?_⟩,fun G' of pt=>h G' (xy hE ha of) pt⟩⟩
  exact⟨rfl,by walk_at "o",by walk_at "o",by walk_at "o"⟩
 ·exact h.elim
theorem sT(Z1 Z2 Z3 Z4 Z5 Q4:Mg)(hw:HW):bC (cO Z1 Z2 Z3 Z4 Z5 Q4 hw) (gY Z1 Z2 Z3 Z4 Z5 Q4 hw) ["self","pen","at","to","goal","seats","names"]:=by
 intro ds G Q h;unfold cO at h;split at h
 ·rename_i p pen i j m;obtain⟨P,d,s,g,⟨⟨g1,g2,g3,g4⟩,ok⟩,h⟩:=h;have hs:=aj;have ok':P.ok 50:=ok.le (by decide)
  have ls:=ok.ls;have lt:=ok.lt;have lg:=ok.lg;have gi:=ok.gi;unfold gY;rw[ag];walk_at "s1";refine⟨P,d,s,g,⟨⟨g1,g2,g3,g4⟩,ok'⟩,fun out G1 hE so=>?_⟩;obtain⟨⟨c1,c2,c3,c4,c5,c6⟩,h⟩:=h out so;have k1:=hE _ _ g1;have k2:=hE _ _ g2;have k3:=hE _ _ g3;have k4:=hE _ _ g4;rw[ag];walk_at "s1";have sb:=nY ok' so;have pa:gf Q4 hw G1 p d s g P:=⟨k1,k2,k3,k4⟩;refine⟨⟨by rw[Mm];exact c2,by rw[Mm];exact c4⟩,?_⟩
  rw[ag];walk_at "s1";refine⟨by rw[Mm];exact c6,?_⟩
  rw[ag];walk_at "s1";refine⟨P.seats out,⟨rfl,by walk_at "o",c4,by walk_at "o"⟩,P,d,s,g,⟨pa,gi⟩,P,d,s,g,pa,P.seats out,⟨rfl,c6⟩,fun a ha=>⟨pen,_,_,rfl,rfl,P,d,s,g,⟨pen,P.num pen,P.time+1,.move (wf (P.seats out) i j) (pA (P.seats out) m)⟩,⟨pa.off ha,?_⟩,fun G' of pt=>h G' (xy hE ha of) pt⟩⟩
  exact⟨rfl,by walk_at "o",by walk_at "o",by walk_at "o"⟩
 ·exact h.elim
theorem rm(Z1 Z2 Z3 Z4 Z5 Q4:Mg)(hw:HW):bC (cA Z1 Z2 Z3 Z4 Z5 Q4 hw) (fT Z1 Z2 Z3 Z4 Z5 Q4 hw) ["self","pen","at","to","word","seats"]:=by
 intro ds G Q h;unfold cA at h;split at h
 ·rename_i p pen i j w;obtain⟨P,d,s,g,⟨⟨g1,g2,g3,g4⟩,ok⟩,h⟩:=h;have hs:=aj;have ok':P.ok 50:=ok.le (by decide)
  have ls:=ok.ls;have lt:=ok.lt;have lg:=ok.lg;have gi:=ok.gi;unfold fT;rw[ag];walk_at "s1";refine⟨P,d,s,g,⟨⟨g1,g2,g3,g4⟩,ok'⟩,fun out G1 hE so=>?_⟩;obtain⟨⟨c1,c2,c3,c4⟩,h⟩:=h out so;have k1:=hE _ _ g1;have k2:=hE _ _ g2;have k3:=hE _ _ g3;have k4:=hE _ _ g4;rw[ag];walk_at "s1";have sb:=nY ok' so;have pa:gf Q4 hw G1 p d s g P:=⟨k1,k2,k3,k4⟩;refine⟨⟨by rw[Mm];exact c2,by rw[Mm];exact c4⟩,P,d,s,g,⟨pa,gi⟩,P,d,s,g,pa,P.seats out,⟨rfl,by walk_at "o",c4,by walk_at "o"⟩,fun a ha=>⟨pen,_,rfl,P,d,s,g,⟨pen,P.num pen,P.time+1,.dress (wf (P.seats out) i j) w⟩,⟨pa.off ha,?_⟩,fun G' of pt=>h G' (xy hE ha of) pt⟩⟩
  exact⟨rfl,by walk_at "o",by walk_at "o",by walk_at "o"⟩
 ·exact h.elim
theorem lA(Z1 Z2 Z3 Z4 Z5 Q4:Mg)(hw:HW):bC (aO Z1 Z2 Z3 Z4 Z5 Q4 hw) (dA Z1 Z2 Z3 Z4 Z5 Q4 hw) ["self","state"]:=by
 intro ds G Q h;unfold aO at h;split at h
 ·rename_i p w;obtain⟨P,d,s,g,⟨⟨g1,g2,g3,g4⟩,ok⟩,h⟩:=h;have hs:=aj;have l1:=ok.ls;unfold dA;walk_at "st";refine⟨by rw[Mm];omega,fun i acc G'=>acc=((P.sks.take i).filter fun s=>dG ((cB P.st s.nm.key).getD .non) (.str w)).map Sk.d/\G'=G,⟨rfl,rfl⟩,fun i acc G' hp=>by rw[hp.2];exact g2,?_,?_⟩
  ·rintro i dd acc G' hd ⟨rfl,rfl⟩
   rw[MH]at hd;cases hq:P.sks[i]? with
   | none=>rw[hq]at hd;cases hd
   | some k=>
    rw[hq]at hd;cases hd;obtain⟨w',hw0⟩:=ok.kn k (MC hq);have tk:((P.sks.take (i+1)).filter fun s=>dG ((cB P.st s.nm.key).getD .non) (.str w)).map Sk.d=((P.sks.take i).filter fun s=>dG ((cB P.st s.nm.key).getD .non) (.str w)).map Sk.d ++ if dG (.str w') (.str w)=true then [k.d]else []:=by
     rw[MU,hq,NS,M3];congr 1;have wk:dG ((cB P.st k.nm.key).getD .non) (.str w)=dG (.str w') (.str w):=by rw[hw0];rfl
     by_cases z:dG (.str w') (.str w)=true
     ·rw[if_pos z,Option.toList_some,List.filter_cons_of_pos (by rw[wk];exact z)];rfl
     ·rw[if_neg z,Option.toList_some,List.filter_cons_of_neg (by rw[wk];exact z)];rfl
    have ed:k.d=.tup [.tup [.str k.pen,.int k.num],.int k.time,k.act.d]:=rfl;rw[ed]at tk ⊢;refine⟨⟨by simp[MK,List.replicate],rfl⟩,?_⟩
    have hk:cB P.st [.inr k.pen,.inl k.num]=some (.str w'):=hw0;clear ok;generalize ((P.sks.take i).filter fun s=>dG ((cB P.st s.nm.key).getD .non) (.str w)).map Sk.d=A0 at *
    walk_at "st"
    by_cases z:dG (.str w') (.str w)=true
    ·rw[if_pos z,if_pos z]
    ·rw[if_neg z,if_neg z,Nz]
  ·rintro acc G' ⟨rfl,rfl⟩
   rw[Mm,MR];exact h
 ·exact h.elim
def Go:D->D
 | .tup (d::_)=>d
 | d=>d
theorem oz(Z1 Z2 Z3 Z4 Z5 Q4:Mg)(hw:HW):bC (aS Z1 Z2 Z3 Z4 Z5 Q4 hw) (eN Z1 Z2 Z3 Z4 Z5 Q4 hw) ["self"]:=by
 intro ds G Q h;unfold aS at h;split at h
 ·rename_i p;obtain⟨P,d,s,g,⟨⟨g1,g2,g3,g4⟩,ok⟩,h⟩:=h;have hs:=aj;have l1:=ok.ls;have l2:(P.inS (Mj "waits")).length<=P.sks.length:=Ng _ _;unfold eN;walk_at "st";refine⟨P,d,s,g,⟨⟨g1,g2,g3,g4⟩,ok⟩,?_⟩;refine f9 Go (by rw[Mm];omega) (fun e he K hK=>?_) ?_
  ·obtain⟨k,_,rfl⟩:=QY.mp he;have ed:k.d=.tup [.tup [.str k.pen,.int k.num],.int k.time,k.act.d]:=rfl;rw[ed]at hK ⊢;refine⟨⟨by simp[MK,List.replicate],rfl⟩,?_⟩
   exact hK _ rfl
  ·have e:((P.inS (Mj "waits")).map Sk.d).map Go=P.wai.map Nm.d:=by unfold Pp.wai;rw[MY,MY];rfl
   rw[e];exact h
 ·exact h.elim
theorem mz(Z1 Z2 Z3 Z4 Z5 Q4:Mg)(hw:HW):bC (bw Z1 Z2 Z3 Z4 Z5 Q4 hw) (dO Z1 Z2 Z3 Z4 Z5 Q4 hw) ["self","name"]:=by
 intro ds G Q h;unfold bw at h;split at h
 ·rename_i p a b;obtain⟨P,d,s,g,⟨⟨g1,g2,g3,g4⟩,hk,l2⟩,h⟩:=h;have hs:=aj;unfold dO;rw[ag];walk_at "s1";refine⟨P,d,s,g,⟨⟨g1,g2,g3,g4⟩,hk⟩,by walk_at "o",h _ (fun x o hx hG=>?_) ⟨?_,?_,az,?_⟩⟩
  ·rw[ao (fun z=>hx (by rw[z];simp))]
   exact hG
  ·rw[ao (fun z=>by rw[z,g3]at g1;cases g1)]
   exact g1
  ·rw[ao (fun z=>by rw[z,g3]at g2;cases g2)]
   exact g2
  ·rw[ao (fun z=>by rw[z,g3]at g4;cases g4)]
   exact g4
 ·exact h.elim
theorem nk(Z1 Z2 Z3 Z4 Z5 Q4:Mg)(hw:HW):bC (bH Z1 Z2 Z3 Z4 Z5 Q4 hw) (d5 Z1 Z2 Z3 Z4 Z5 Q4 hw) ["self"]:=by
 intro ds G Q h;unfold bH at h;split at h
 ·rename_i p;obtain⟨P,d,s,g,⟨g1,g2,g3,g4⟩,h⟩:=h;unfold d5;walk_at "st"
 ·exact h.elim
theorem pY(Z1 Z2 Z3 Z4 Z5 Q4:Mg)(hw:HW):bC (bM Z1 Z2 Z3 Z4 Z5 Q4 hw) (ft Z1 Z2 Z3 Z4 Z5 Q4 hw) ["_law_script","_law_k"]:=by
 intro ds G Q h;unfold bM at h;split at h
 ·rename_i xs k;obtain⟨ns,⟨rfl,h0⟩,h⟩:=h;unfold ft;rw[ag];refine cJ (decide (k < ns.length)) (fun K hK=>?_) (ite2 (fun e=>?_) fun e=>?_)
  ·walk_at "st";rw[Mm];exact hK
  ·rw[decide_eq_true_eq]at e;walk_at "st";rw[E5 h0 e];exact h _
  ·walk_at "st"
   first|done|exact h _
 ·exact h.elim
theorem Bq(a b:Str):(a ++ b).length=a.length+b.length:=Array.size_append
theorem sO(Z1 Z2 Z3 Z4 Z5 Q4:Mg)(hw:HW):bC (bd Z1 Z2 Z3 Z4 Z5 Q4 hw) (gR Z1 Z2 Z3 Z4 Z5 Q4 hw) ["_law_cell","_law_k","_law_number"]:=by
 intro ds G Q h;unfold bd at h;split at h
 ·rename_i c p;unfold gR;walk_at "st";have hn0:0<=(c+7919*p+1)*48271 % 2147483647:=Int.emod_nonneg _ (by decide)
  have hn1:(c+7919*p+1)*48271 % 2147483647 < 2147483647:=Int.emod_lt_of_pos _ (by decide)
  refine⟨.inl ⟨by decide,by decide⟩,.inr ⟨by decide,by decide⟩,by decide,⟨by decide,by decide⟩,.inl ⟨by walk_at "o",by walk_at "o"⟩,by decide,h _ (lS (by decide))⟩
 ·exact h.elim
theorem sM(Z1 Z2 Z3 Z4 Z5 Q4:Mg)(hw:HW):bC (bV Z1 Z2 Z3 Z4 Z5 Q4 hw) (gP Z1 Z2 Z3 Z4 Z5 Q4 hw) ["_law_number","_law_many","_law_some","_law_word","_law_k"]:=by
 intro ds G Q h;unfold bV at h;split at h
 ·rename_i n m;obtain⟨⟨m0,m1⟩,h⟩:=h;have hs:=aj;unfold gP;rw[ag];walk_at "s1";rw[ag];walk_at "s1";have l1:(Mj " !\"#$&'()*+,-./0123456789:;<=>?@ABCDEFGHIJKLMNOPQRSTUVWXYZ[\\]^_`").length+(Mj "abcdefghijklmnopqrstuvwxyz{|}~\n").length=95:=by decide +kernel
  have l2:(Mj " !\"#$&'()*+,-./0123456789:;<=>?@ABCDEFGHIJKLMNOPQRSTUVWXYZ[\\]^_`" ++ Mj "abcdefghijklmnopqrstuvwxyz{|}~\n").length=95:=by decide +kernel
  refine⟨by rw[l1];omega,?_⟩
  clear l1;generalize Mj " !\"#$&'()*+,-./0123456789:;<=>?@ABCDEFGHIJKLMNOPQRSTUVWXYZ[\\]^_`" ++ Mj "abcdefghijklmnopqrstuvwxyz{|}~\n"=S at *
  rw[ag];walk_at "s1";rw[ag];walk_at "s1";refine⟨⟨by walk_at "o",by walk_at "o"⟩,fun i σ' G'=>∃ (z:Int) (w:Str) (u:Option D),σ'=[some (.int z),some (.int m),some (.str S),some (.str w),u]/\w.length=i/\G'=G,⟨n,_,none,rfl,rfl,rfl⟩,?_,?_⟩
  ·rintro i dd σ' G' hd ⟨z,w,u,rfl,hw0,rfl⟩
   obtain⟨hi,rfl⟩:=nr hd;have b95:=lS (a:=(z*48271+11) % 2147483647) (b:=95) (by decide)
   have at1:=yG (m:=S) b95.1 (by rw[l2];exact b95.2)
   walk_at "s1";rw[ag];walk_at "s1";refine⟨.inr ⟨by decide,by decide⟩,by decide,?_⟩
   have lc:(zX S ((z*48271+11) % 2147483647 % 95)).length=1:=rfl;exact⟨by decide,by walk_at "o",by rw[lc];omega,_,_,_,⟨rfl,rfl,rfl⟩,by rw[Bq,lc,hw0]⟩
  ·rintro σ' G' ⟨z,w,u,rfl,hw0,rfl⟩
   rw[fh]at hw0;have:=h w hw0;walk_at "s1"
 ·exact h.elim
theorem Ls(x:Int):∃ z:Int,kN [D.int 0,D.int 1,D.int (x / 4 % 9),D.int (x / 4 % 41)] (x % 4)=some (.int z)/\0<=z/\z<=40:=by
 have h:x % 4=0\/x % 4=1\/x % 4=2\/x % 4=3:=by walk_at "o"
 rcases h with h|h|h|h<;>rw[h]
 ·exact⟨0,rfl,by walk_at "o",by walk_at "o"⟩
 ·exact⟨1,rfl,by walk_at "o",by walk_at "o"⟩
 ·exact⟨_,rfl,by walk_at "o",by walk_at "o"⟩
 ·exact⟨_,rfl,by walk_at "o",by walk_at "o"⟩
theorem wW(Z1 Z2 Z3 Z4 Z5 Q4:Mg)(hw:HW):bC (dI Z1 Z2 Z3 Z4 Z5 Q4 hw) (jj Z1 Z2 Z3 Z4 Z5 Q4 hw) ["_law_cell","_law_number"]:=by
 intro ds G Q h;unfold dI at h;split at h
 ·rename_i c;have hs:=aj;unfold jj;rw[ag];walk_at "s1"
  rintro x ⟨x0,x1⟩
  obtain⟨z,e,z0,z1⟩:=Ls x;walk_at "s1";exact⟨⟨by decide,by decide⟩,by decide,⟨by decide,by decide⟩,by decide,by walk_at "o",by decide,fun w hw0=>h w (by walk_at "o")⟩
 ·exact h.elim
theorem uV(Z1 Z2 Z3 Z4 Z5 Q4:Mg)(hw:HW):bC (c8 Z1 Z2 Z3 Z4 Z5 Q4 hw) (iO Z1 Z2 Z3 Z4 Z5 Q4 hw) ["_law_cell","_law_size","_law_at","_law_found","_law_k","_law_letter"]:=by
 intro ds G Q h;unfold c8 at h;split at h
 ·rename_i c;have hs:=aj;unfold iO;rw[ag];walk_at "s1";refine⟨by decide,?_⟩
  have s0:1<=1+c % 8/\1+c % 8<=8:=by walk_at "o"
  generalize 1+c % 8=sz at *
  rw[ag];walk_at "s1";refine⟨⟨by decide,by decide⟩,by walk_at "o",?_⟩
  have a0:=Int.emod_nonneg (c / 8) (b:=sz) (by walk_at "o")
  have a1:=Int.emod_lt_of_pos (c / 8) (b:=sz) (by walk_at "o")
  generalize c / 8 % sz=at_ at *
  rw[ag];walk_at "s1";refine⟨M6 _,fun p hp=>?_⟩;rw[ag];walk_at "s1";refine⟨⟨by decide,by decide⟩,by decide,⟨by walk_at "o",by walk_at "o"⟩,fun i σ' G'=>∃ (pens:List Str) (u v:Option D),σ'=[some (.int c),some (.int sz),some (.int at_),some (.ref p),u,v]/\pens.length=i/\G'=gset G p (.lst (pens.map D.str)),⟨[],none,none,rfl,rfl,rfl⟩,?_,?_⟩
  ·rintro i dd σ' G' hd ⟨pens,u,v,rfl,hl,rfl⟩
   obtain⟨hi,rfl⟩:=nr hd;have l26:(Mj "abcdefghijklmnopqrstuvwxyz").length=26:=by decide +kernel
   have b26:=lS (a:=c / 64+(0+(i:Int))*(1+c / 5 % 8)) (b:=26) (by decide)
   have at1:=yG (m:=Mj "abcdefghijklmnopqrstuvwxyz") b26.1 (by rw[l26];exact b26.2)
   have lm:(Mj "m").length=1:=by decide +kernel
   walk_at "s1";rw[ag];walk_at "s1";have lc:(zX (Mj "abcdefghijklmnopqrstuvwxyz") ((c / 64+(0+(i:Int))*(1+c / 5 % 8)) % 26)).length=1:=rfl;generalize zX (Mj "abcdefghijklmnopqrstuvwxyz") ((c / 64+(0+(i:Int))*(1+c / 5 % 8)) % 26)=w at *
   refine⟨⟨by decide,by decide⟩,⟨by decide,by decide⟩,by decide,.inl ⟨by (omega),by (omega)⟩,by decide,by (omega),⟨by (omega),by (omega),by (omega)⟩,by rw[lc,lB,lm];omega,⟨by (omega),by (omega),by (omega)⟩,by rw[Bq,lc,lB,lB,lm];omega,by rw[Mm];omega,?_⟩
   exact⟨pens ++ [_],_,_,⟨rfl,rfl⟩,by rw[MP,hl];rfl,by rw[M3];rfl⟩
  ·rintro σ' G' ⟨pens,u,v,rfl,hl,rfl⟩
   rw[fh]at hl;walk_at "s1";rw[qz hp];exact h _ (by walk_at "o") (by walk_at "o")
 ·exact h.elim
theorem nj(Z1 Z2 Z3 Z4 Z5 Q4:Mg)(hw:HW):bC (bG Z1 Z2 Z3 Z4 Z5 Q4 hw) (d4 Z1 Z2 Z3 Z4 Z5 Q4 hw) ["self"]:=by
 intro ds G Q h;unfold bG at h;split at h
 ·rename_i p;obtain⟨P,d,s,g,⟨⟨g1,g2,g3,g4⟩,ok⟩,h⟩:=h;have hs:=aj;have l1:=ok.ls;have l2:(P.inS (Mj "stands")).length<=P.sks.length:=Ng _ _;unfold d4;walk_at "st";refine⟨P,d,s,g,⟨⟨g1,g2,g3,g4⟩,ok⟩,?_⟩;refine f9 Go (by rw[Mm];omega) (fun e he K hK=>?_) ?_
  ·obtain⟨k,_,rfl⟩:=QY.mp he;have ed:k.d=.tup [.tup [.str k.pen,.int k.num],.int k.time,k.act.d]:=rfl;rw[ed]at hK ⊢;refine⟨⟨by simp[MK,List.replicate],rfl⟩,?_⟩
   exact hK _ rfl
  ·have e:((P.inS (Mj "stands")).map Sk.d).map Go=P.sta.map Nm.d:=by unfold Pp.sta;rw[MY,MY];rfl
   rw[e];exact h
 ·exact h.elim
theorem Hm(x:Int):∃ w:Str,kN [D.str (Mj ""),D.str (Mj "bold"),D.str (Mj "bolder"),D.str (Mj "x")] (x % 4)=some (.str w):=by
 have h:x % 4=0\/x % 4=1\/x % 4=2\/x % 4=3:=by walk_at "o"
 rcases h with h|h|h|h<;>rw[h]<;>exact⟨_,rfl⟩
theorem J_(x:Int)(b:Bool):∃ m:Int,kN [D.int (1+x % 4),D.int 20] (if b=true then 1 else 0)=some (.int m)/\0<=m/\m<=40:=by
 cases b
 ·exact⟨_,rfl,by walk_at "o",by walk_at "o"⟩
 ·exact⟨_,rfl,by walk_at "o",by walk_at "o"⟩
theorem yO(Z1 Z2 Z3 Z4 Z5 Q4:Mg)(hw:HW):bC (ef Z1 Z2 Z3 Z4 Z5 Q4 hw) (jZ Z1 Z2 Z3 Z4 Z5 Q4 hw) ["_law_paper","_law_pen","_law_number","_law_many","_law_way","_law_at","_law_to"]:=by
 intro ds G Q h;unfold ef at h;split at h
 ·rename_i p pen z;obtain⟨P,d,s,g,⟨pa,ok,z0⟩,h⟩:=h;have hs:=aj;have ok':P.ok 50:=ok.le (by decide)
  have g0:=pa.1;unfold jZ;rw[ag];walk_at "s1";refine⟨P,d,s,g,⟨pa,ok'⟩,fun out G1 hE so=>?_⟩;have pa1:=pa.ext hE;have g1:=pa1.1;have sb:=nY ok' so;have h':∀ k G',P.next pen k->k.wd<=60->yu [p,d,s,g] G1 G'->gf Q4 hw G' p d s g (P.add k)->Q .non G':=fun k G' nx wd of pt=>h k G' nx wd (fun x u hx hG=>of x u hx (hE x u hG)) pt;clear h pa g0;rw[Mm];generalize hM:((P.seats out).length:Int)=M at *
  rw[ag];walk_at "s1";refine⟨by decide,?_⟩
  rw[ag];walk_at "s1";refine⟨⟨by decide,by decide⟩,by walk_at "o",?_⟩
  have a0:=Int.emod_nonneg (z / 8) (b:=M+1) (by walk_at "o")
  have a1:=Int.emod_lt_of_pos (z / 8) (b:=M+1) (by walk_at "o")
  generalize z / 8 % (M+1)=i at *
  rw[ag];refine cJ (decide (z % 8 < 3) || dG (.int i) (.int M)) (Dq _ _ (fun K hK=>?_) fun _ K hK=>?_) (ite2 (fun e=>?_) fun e=>?_)
  ·walk_at "st"
  ·walk_at "st"
  ·obtain⟨m,em,m0,m1⟩:=J_ (z / 307) (dG (.int (z / 16 % 16)) (.int 3));rw[ag];walk_at "s1";refine⟨⟨by decide,by decide⟩,⟨by decide,by decide⟩,by decide,by walk_at "o",⟨by decide,by decide⟩,by decide,fun x lx=>⟨P,d,s,g,⟨pa1,ok⟩,fun o2 so2=>?_⟩⟩
   rw[srt_uniq so2 so];exact⟨by walk_at "o",fun G' of pt=>h' _ G' ⟨rfl,rfl,rfl⟩ (by show x.length<=60;omega) of pt⟩
  ·have lt:i < M:=by
    rcases Int.lt_or_le i M with q|q
    ·exact q
    ·have:i=M:=by walk_at "o"
     rw[this,bu,Bool.or_true]at e;cases e
   clear e;obtain⟨w,ew⟩:=Hm (z / 31);simp only[d9];rw[ag];walk_at "s1";have mp:0 < (if M - i < 5 then M - i else 5)/\(if M - i < 5 then M - i else 5)<=5/\(if M - i < 5 then M - i else 5)<=M - i:=by split<;>omega
   refine⟨⟨by decide,by decide⟩,mp.1,?_⟩
   generalize (if M - i < 5 then M - i else 5)=m at mp ⊢
   have y1:=Int.emod_nonneg (z / 1009) (b:=m) (by walk_at "o")
   have y2:=Int.emod_lt_of_pos (z / 1009) (b:=m) (by walk_at "o")
   generalize z / 1009 % m=y at y1 y2 ⊢;have jb:i < i+1+y/\i+1+y<=M/\i+1+y - i<=5:=by walk_at "o"
   generalize i+1+y=j at jb ⊢;clear mp y1 y2;have lm:(wf (P.seats out) i j).length<=60:=by
    unfold wf;rw[Mm,Nk];omega
   have q1:=Int.emod_nonneg (z / 53) (b:=M+1) (by walk_at "o")
   have q2:=Int.emod_lt_of_pos (z / 53) (b:=M+1) (by walk_at "o")
   refine ite2 (fun _=>⟨P,d,s,g,⟨pa1,ok⟩,fun o2 so2=>?_⟩) fun _=>ite2 (fun _=>⟨by walk_at "o",⟨by decide,by decide⟩,by decide,?_⟩) fun _=>ite2 (fun _=>⟨P,d,s,g,⟨pa1,ok⟩,fun o2 so2=>?_⟩) fun _=>⟨⟨by decide,by decide⟩,by walk_at "o",P,d,s,g,⟨pa1,ok⟩,fun o2 so2=>?_⟩
   ·rw[srt_uniq so2 so];exact⟨by walk_at "o",fun G' of pt=>h' _ G' ⟨rfl,rfl,rfl⟩ (by exact lm) of pt⟩
   ·refine⟨P,d,s,g,⟨pa1,ok⟩,fun o2 so2=>?_⟩;rw[srt_uniq so2 so];exact⟨by walk_at "o",fun G' of pt=>h' _ G' ⟨rfl,rfl,rfl⟩ (by exact lm) of pt⟩
   ·rw[srt_uniq so2 so];exact⟨by walk_at "o",fun G' of pt=>h' _ G' ⟨rfl,rfl,rfl⟩ (by show (Mj "\n").length<=60;decide +kernel) of pt⟩
   ·rw[srt_uniq so2 so];exact⟨by walk_at "o",fun G' of pt=>h' _ G' ⟨rfl,rfl,rfl⟩ (by exact lm) of pt⟩
 ·exact h.elim
theorem F7{P:Pp}{n:Nat}(ok:P.ok n)(pen:Str):1<=P.num pen:=by
 unfold Pp.num;split
 ·rename_i m e;obtain⟨m',e',h⟩:=ok.gi _ _ e;cases e';omega
 ·exact Int.le_refl _
theorem Ej{P:Pp}{pen:Str}{m:Int}(h:cB P.gr (.inr pen)=some (.int m)):P.num pen=m+1:=by
 unfold Pp.num;rw[h]
theorem Ip{P:Pp}{n:Nat}{pen:Str}{k:Sk}(ok:P.ok n)(nx:P.next pen k)(wd:k.wd<=60):(P.add k).ok (n+1):=by
 obtain⟨rfl,e2,e3⟩:=nx;have np:=F7 ok k.pen;refine⟨ok.lo,?_,?_,?_,fun s hs=>?_,?_,fun s hs=>?_,fun q v hv=>?_,fun s hs=>?_⟩
 ·show (P.sks ++ [k]).length<=n+1;rw[MP];exact Nat.succ_le_succ ok.ls
 ·exact le_trans (fF _ _ _) (Nat.succ_le_succ ok.lt)
 ·exact le_trans (fF _ _ _) (Nat.succ_le_succ ok.lg)
 ·rcases OE.mp hs with h|h
  ·obtain⟨h1,h2,h3⟩:=ok.sk s h;exact⟨h1,h2,by show s.time<=k.time;omega⟩
  ·rw[Os.mp h];exact⟨by walk_at "o",wd,Int.le_refl _⟩
 ·show ((P.sks ++ [k]).map Sk.rw).Pairwise lX;rw[M3,List.pairwise_append];refine⟨ok.ap,List.pairwise_singleton _ _,fun a ha b hb=>?_⟩;obtain⟨s,hs,rfl⟩:=QY.mp ha;rw[MF,OA,Os]at hb;subst hb
  rintro⟨z1,z2⟩
  obtain⟨m,hm,le⟩:=ok.gm s hs;have z1':s.pen=k.pen:=z1;have z2':s.num=k.num:=z2;rw[z1']at hm;have:=Ej hm;omega
 ·show ∃ w:Str,cB (bB P.st k.nm.key (.str (Mj "waits"))) s.nm.key=some (.str w);rw[hJ];split
  ·exact⟨_,rfl⟩
  ·rename_i ne;rcases OE.mp hs with h|h
   ·exact ok.kn s h
   ·exact absurd (by rw[Os.mp h]) ne
 ·have hv':cB (bB P.gr (.inr k.pen) (.int k.num)) q=some v:=hv;rw[hJ]at hv';split at hv'
  ·cases hv';exact⟨_,rfl,by walk_at "o"⟩
  ·exact ok.gi _ _ hv'
 ·show ∃ m:Int,cB (bB P.gr (.inr k.pen) (.int k.num)) (.inr s.pen)=some (.int m)/\s.num<=m;rw[hJ];split
  ·rename_i z;refine⟨_,rfl,?_⟩;rcases OE.mp hs with h|h
   ·obtain⟨m,hm,le⟩:=ok.gm s h;rw[z]at hm;have:=Ej hm;omega
   ·rw[Os.mp h];exact Int.le_refl _
  ·rename_i ne;rcases OE.mp hs with h|h
   ·exact ok.gm s h
   ·exact absurd (by rw[Os.mp h]) ne
theorem Iw(l:List Nm):pl 8 (.lst (l.map Nm.d)):=fun d hd=>by
 obtain⟨n,_,rfl⟩:=QY.mp hd;intro e he;simp only[MV,MZ,or_false]at he;rcases he with rfl|rfl<;>exact trivial
theorem wG(P:Pp):P.wai.length<=P.sks.length:=by
 unfold Pp.wai;rw[Mm];exact Ng _ _
theorem Fw{t:pC}{a b0:cj}{E:Ends3}{σ:fH}{G:Gp}{b:Bool}(ht:∀ K:Bool->Gp->Prop,(∀ G',gH G G'->K b G')->t σ G K)(h:∀ G',gH G G'->(if b=true then a E σ G' else b0 E σ G')):mM t a b0 E σ G:=ht _ h
theorem IU{P:Pp}{k:List aJ}{w v:Str}(h:cB P.st k=some (.str w)):Md P ⟨P.old,P.sks,bB P.st k (.str v),P.gr,P.time⟩:=by
 refine⟨rfl,rfl,rfl,rfl,fun n ok=>⟨ok.lo,ok.ls,?_,ok.lg,ok.sk,ok.ap,fun s hs=>?_,ok.gi,ok.gm⟩⟩
 ·show (bB P.st k (.str v)).length<=n;rw[sZ,h];exact ok.lt
 ·show ∃ w:Str,cB (bB P.st k (.str v)) s.nm.key=some (.str w);rw[hJ];split
  ·exact⟨v,rfl⟩
  ·exact ok.kn s hs
theorem Hn{P:Pp}{n:Nat}(ok:P.ok n){m:Nm}(h:m∈P.wai):cB P.st m.key=some (.str (Mj "waits")):=by
 obtain⟨k,hk,rfl⟩:=QY.mp h;obtain⟨h1,h2⟩:=mem_filter.mp hk;obtain⟨w,hw0⟩:=ok.kn k h1;rw[hw0]at h2 ⊢;exact congrArg some (ke.mp h2)
theorem zP{α:Type}(f:α->D):∀ (n:Nat) (xs:List α) (i:Nat) (d:D),(L3.enumFrom3 n (xs.map f))[i]?=some d->∃ x,xs[i]?=some x/\d=.tup [.int (n+i:Nat),f x]
 | n,[],i,d,h=>by simp[L3.enumFrom3]at h
 | n,x::r,0,d,h=>by simp[L3.enumFrom3]at h;exact⟨x,rfl,by rw[<- h];simp⟩
 | n,x::r,i+1,d,h=>by
  simp only[MF,L3.enumFrom3,M4]at h;obtain⟨y,h1,h2⟩:=zP f (n+1) r i d h;refine⟨y,h1,?_⟩;rw[h2];have:n+1+i=n+(i+1):=by walk_at "o"
  rw[this]
theorem v8(b:Int):∀ (k:Nat) (l:List Nm) (n:Nm),fX b k (l ++ [n])=fX b k l ++ (if eY b (k+l.length)then [n]else [])
 | k,[],n=>by
  show (if eY b k then [n]else []) ++ []=[] ++ _
  rw[Nz,Od,MS,Nat.add_zero]
 | k,m::t,n=>by
  show (if eY b k then [m]else []) ++ fX b (k+1) (t ++ [n])=((if eY b k then [m]else []) ++ fX b (k+1) t) ++ _
  rw[v8 b (k+1) t n,List.append_assoc,MD,Nat.add_right_comm k 1,Nat.add_assoc k]
theorem zj(b:Int)(n:Nm):∀ (k:Nat) (l:List Nm),n∈fX b k l↔∃ j,l[j]?=some n/\eY b (k+j)
 | k,[]=>by
  constructor
  ·intro h;cases h
  ·rintro⟨j,h,_⟩
   rw[List.getElem?_nil]at h;cases h
 | k,m::t=>by
  show n∈(if eY b k then [m]else []) ++ fX b (k+1) t↔_
  rw[OE,zj b n (k+1) t];constructor
  ·rintro (h|⟨j,h,hb⟩)
   ·split at h
    ·rename_i hb;rw[Os]at h;exact⟨0,by rw[h];rfl,hb⟩
    ·cases h
   ·exact⟨j+1,h,by rwa[Nat.add_right_comm k 1 j]at hb⟩
  ·rintro⟨j,h,hb⟩
   cases j with
   | zero=>
    left;rw[if_pos (show eY b k from hb)]
    cases h;exact Os.mpr rfl
   | succ j=>exact .inr ⟨j,h,by rw[Nat.add_right_comm k 1 j];exact hb⟩
theorem yV(b:Int):∀ (k:Nat) (l:List Nm),(fX b k l).length<=l.length
 | _,[]=>le_refl _
 | k,m::t=>by
  have:=yV b (k+1) t;show ((if eY b k then [m]else []) ++ fX b (k+1) t).length<=t.length+1
  rw[MP];split
  ·rw[List.length_singleton];omega
  ·rw[MS];omega
theorem BU(b:Int)(k:Nat):dG (.int (b / 2 ^ k % 2)) (.int 1)=decide (eY b k):=by
 by_cases e:eY b k
 ·rw[decide_eq_true e];have e':b / 2 ^ k % 2=1:=e;rw[e',bu]
 ·rw[decide_eq_false e];exact bQ fun z=>e (by injection z)
theorem Ax(Z1 Z2 Z3 Z4 Z5 Q4:Mg)(hw:HW):bC (fE Z1 Z2 Z3 Z4 Z5 Q4 hw) (l7 Z1 Z2 Z3 Z4 Z5 Q4 hw) ["names","bits"]:=by
 intro ds G Q h;unfold fE at h;split at h
 ·rename_i ns b;obtain⟨names,⟨rfl,hl⟩,h⟩:=h;have hs:=aj;unfold l7;walk_at "st";refine⟨by rw[wo,eW,Mm];omega,fun i acc G'=>acc=(fX b 0 (names.take i)).map Nm.d/\G'=G,⟨rfl,rfl⟩,?_,?_⟩
  ·rintro i dd acc G' hd ⟨rfl,rfl⟩
   obtain⟨n,hn,rfl⟩:=zP Nm.d 0 names i dd hd;have hi:=(List.getElem?_eq_some_iff.mp hn).1;have tk:(fX b 0 (names.take (i+1))).map Nm.d=(fX b 0 (names.take i)).map Nm.d ++ (if dG (.int (b / 2 ^ i % 2)) (.int 1)=true then [n.d]else []):=by
    rw[MU,hn,Option.toList_some,v8,M3,Nk,Nat.min_eq_left (by walk_at "o"),Nat.zero_add,BU]
    by_cases e:eY b i
    ·rw[if_pos e,if_pos (decide_eq_true e)];rfl
    ·rw[if_neg e,if_neg (by rw[decide_eq_false e];decide)];rfl
   generalize (fX b 0 (names.take i)).map Nm.d=A0 at *
   have ed:n.d=.tup [.str n.1,.int n.2]:=rfl;rw[ed]at tk ⊢;walk_at "st";rw[Int.toNat_natCast];refine⟨rfl,by walk_at "o",by decide,?_⟩
   by_cases e:dG (.int (b / 2 ^ i % 2)) (.int 1)=true
   ·rw[if_pos e,if_pos e]
   ·rw[if_neg e,if_neg e,Nz]
  ·rintro acc G' ⟨rfl,rfl⟩
   rw[wo,eW,Mm,MR];exact h
 ·exact h.elim
theorem Ft{α:Type}(l:List α)(x n:α)(p:Nat->Prop):(∃ j,(l ++ [x])[j]?=some n/\p j)↔(∃ j,l[j]?=some n/\p j)\/(n=x/\p l.length):=by
 constructor
 ·rintro⟨j,hj,hp⟩
  by_cases h:j < l.length
  ·rw[List.getElem?_append_left h]at hj;exact .inl ⟨j,hj,hp⟩
  ·have e:j=l.length:=by
    have:=(List.getElem?_eq_some_iff.mp hj).1;rw[MP,List.length_singleton]at this;omega
   subst e;rw[List.getElem?_append_right (le_refl _),Nat.sub_self]at hj;cases hj;exact .inr ⟨rfl,hp⟩
 ·rintro (⟨j,hj,hp⟩|⟨rfl,hp⟩)
  ·exact⟨j,by rw[List.getElem?_append_left (List.getElem?_eq_some_iff.mp hj).1];exact hj,hp⟩
  ·exact⟨l.length,by rw[List.getElem?_append_right (le_refl _),Nat.sub_self];rfl,hp⟩
def Ac(P:Pp)(w:Str)(l:List Sk):List Sk:=l.filter fun s=>dG ((cB P.st s.nm.key).getD .non) (.str w)
def Jf(P:Pp)(b:Int)(l:List Sk)(n:Nm):Prop:=n∈(Ac P (Mj "stands") l).map Sk.nm\/∃ j,((Ac P (Mj "waits") l).map Sk.nm)[j]?=some n/\eY b j
theorem ue{P:Pp}{w w':Str}{l:List Sk}{k:Sk}(h:cB P.st k.nm.key=some (.str w')):Ac P w (l ++ [k])=Ac P w l ++ (if dG (.str w') (.str w)=true then [k]else []):=by
 unfold Ac;rw[NS];congr 1;have wk:dG ((cB P.st k.nm.key).getD .non) (.str w)=dG (.str w') (.str w):=by rw[h];rfl
 by_cases z:dG (.str w') (.str w)=true
 ·rw[if_pos z,List.filter_cons_of_pos (by rw[wk];exact z)];rfl
 ·rw[if_neg z,List.filter_cons_of_neg (by rw[wk];exact z)];rfl
theorem EV{P:Pp}{b:Int}{w':Str}{l:List Sk}{k:Sk}(h:cB P.st k.nm.key=some (.str w'))(n:Nm):Jf P b (l ++ [k]) n↔Jf P b l n\/(n=k.nm/\(dG (.str w') (.str (Mj "stands")) || (dG (.str w') (.str (Mj "waits")) && decide (eY b (Ac P (Mj "waits") l).length)))=true):=by
 unfold Jf;rw[ue h,ue h];have hS:n∈(Ac P (Mj "stands") l ++ (if dG (.str w') (.str (Mj "stands"))=true then [k]else [])).map Sk.nm↔n∈(Ac P (Mj "stands") l).map Sk.nm\/(n=k.nm/\dG (.str w') (.str (Mj "stands"))=true):=by
  rw[M3,OE];split
  ·rename_i e;rw[MF,OA,Os];exact or_congr Iff.rfl ⟨fun z=>⟨z,e⟩,fun z=>z.1⟩
  ·rename_i e;exact or_congr Iff.rfl ⟨fun z=>(by cases z),fun z=>absurd z.2 e⟩
 have hW:(∃ j,((Ac P (Mj "waits") l ++ (if dG (.str w') (.str (Mj "waits"))=true then [k]else [])).map Sk.nm)[j]?=some n/\eY b j)↔(∃ j,((Ac P (Mj "waits") l).map Sk.nm)[j]?=some n/\eY b j)\/(n=k.nm/\dG (.str w') (.str (Mj "waits"))=true/\eY b (Ac P (Mj "waits") l).length):=by
  rw[M3];split
  ·rename_i e;rw[MF,OA,Ft,Mm];exact or_congr Iff.rfl ⟨fun z=>⟨z.1,e,z.2⟩,fun z=>⟨z.1,z.2.2⟩⟩
  ·rename_i e;rw[OA,Nz];exact⟨fun z=>.inl z,fun z=>z.elim id fun z=>absurd z.2.1 e⟩
 rw[hS,hW,Bool.or_eq_true,Bool.and_eq_true,decide_eq_true_eq];constructor
 ·rintro ((z|⟨z,e⟩)|z|⟨z,e⟩)
  ·exact .inl (.inl z)
  ·exact .inr ⟨z,.inl e⟩
  ·exact .inl (.inr z)
  ·exact .inr ⟨z,.inr e⟩
 ·rintro ((z|z)|⟨z,e|e⟩)
  ·exact .inl (.inl z)
  ·exact .inr (.inl z)
  ·exact .inl (.inr ⟨z,e⟩)
  ·exact .inr (.inr ⟨z,e⟩)
theorem ow(Z1 Z2 Z3 Z4 Z5 Q4:Mg)(hw:HW):bC (bT Z1 Z2 Z3 Z4 Z5 Q4 hw) (eM Z1 Z2 Z3 Z4 Z5 Q4 hw) ["_law_paper","_law_bits","_law_found","_law_turn","_law_row","_law_state"]:=by
 intro ds G Q h;unfold bT at h;split at h
 ·rename_i p b;obtain⟨P,d,s,g,⟨pa,ok,b0⟩,h⟩:=h;have hs:=aj;have ls:=ok.ls;unfold eM;rw[ag];walk_at "s1";refine⟨M6 _,fun q hq=>?_⟩;have pa1:gf Q4 hw (gset G q (.lst [])) p d s g P:=pa.off hq;have g1:=pa1.1;rw[ag];walk_at "s1";rw[ag];walk_at "s1";refine⟨P,d,s,g,⟨pa1,ls⟩,fun i σ' G'=>∃ (names:List Nm) (u v:Option D),σ'=[some (.ref p),some (.int b),some (.ref q),some (.int (Ac P (Mj "waits") (P.sks.take i)).length),u,v]/\names.length<=i/\(∀ n,n∈names↔Jf P b (P.sks.take i) n)/\G'=gset G q (.lst (names.map Nm.d)),⟨[],none,none,rfl,le_refl _,(fun n=>⟨fun z=>(by cases z),fun z=>by
   rcases z with z|⟨j,z,_⟩
   ·cases z
   ·cases z⟩),rfl⟩,?_,?_⟩
  ·rintro i dd σ' G' hd ⟨names,u,v,rfl,hl,hn,rfl⟩
   rw[MH]at hd;cases hq':P.sks[i]? with
   | none=>rw[hq']at hd;cases hd
   | some k=>
    rw[hq']at hd;cases hd;have hi:=(List.getElem?_eq_some_iff.mp hq').1;obtain⟨w',hw0⟩:=ok.kn k (MC hq');have ed:k.d=.tup [.tup [.str k.pen,.int k.num],.int k.time,k.act.d]:=rfl;rw[ed];have hk:cB P.st [.inr k.pen,.inl k.num]=some (.str w'):=hw0;have pa2:gf Q4 hw (gset G q (.lst (names.map Nm.d))) p d s g P:=pa.off hq;have g2:=pa2.1;walk_at "s1";rw[ag];walk_at "s1";refine⟨P,d,s,g,_,⟨pa2,hk⟩,?_⟩;have te:P.sks.take (i+1)=P.sks.take i ++ [k]:=by rw[MU,hq',Option.toList_some]
    have tl:(Ac P (Mj "waits") (P.sks.take (i+1))).length=(Ac P (Mj "waits") (P.sks.take i)).length+if dG (.str w') (.str (Mj "waits"))=true then 1 else 0:=by
     rw[te,ue hw0,MP];split<;>rfl
    have ts:∀ n,Jf P b (P.sks.take (i+1)) n↔Jf P b (P.sks.take i) n\/(n=k.nm/\(dG (.str w') (.str (Mj "stands")) || (dG (.str w') (.str (Mj "waits")) && decide (eY b (Ac P (Mj "waits") (P.sks.take i)).length)))=true):=fun n=>by rw[te];exact EV hw0 n
    clear te;generalize (Ac P (Mj "waits") (P.sks.take i)).length=T at *
    generalize P.sks.take (i+1)=L1 at *
    generalize P.sks.take i=L0 at *
    have bq:(0:Int)<=b / 2 ^ T:=Int.ediv_nonneg b0 (Int.pow_nonneg (by decide))
    have b1:=GA bq;refine Ao (NX:=fun σ' G'=>∃ names':List Nm,σ'=[some (.ref p),some (.int b),some (.ref q),some (.int T),some (.tup [.tup [.str k.pen,.int k.num],.int k.time,k.act.d]),some (.str w')]/\names'.length<=i+1/\(∀ n,n∈names'↔Jf P b L1 n)/\G'=gset G q (.lst (names'.map Nm.d))) ?_ fun NX hNX=>?_
    ·rintro σ' G' ⟨names',rfl,hl',hn',rfl⟩
     rw[tl];refine cJ (dG (.str w') (.str (Mj "waits"))) (fun K hK=>?_) (ite2 (fun e=>?_) fun e=>?_)
     ·clear tl ts;walk_at "st"
     ·rw[if_pos e];exact⟨names',_,_,rfl,hl',hn',rfl⟩
     ·rw[if_neg (by rw[e];decide)]
      exact⟨names',_,_,rfl,hl',hn',rfl⟩
    ·refine cJ (dG (.str w') (.str (Mj "stands")) || (dG (.str w') (.str (Mj "waits")) && decide (eY b T))) (Dq _ _ (fun K hK=>?_) fun _=>Fl _ _ (fun K hK=>?_) fun _ K hK=>?_) (ite2 (fun e=>?_) fun e=>?_)
     ·walk_at "st"
     ·walk_at "st"
     ·walk_at "st";rw[Int.toNat_natCast,b1,BU];exact⟨by walk_at "o",hK⟩
     ·walk_at "s1";refine⟨by rw[Mm];omega,hNX _ _ ⟨names ++ [k.nm],rfl,by rw[MP];exact Nat.succ_le_succ hl,fun n=>?_,by rw[M3];rfl⟩⟩
      rw[ts n,e,OE,hn n,Os];exact or_congr Iff.rfl ⟨fun z=>⟨z,rfl⟩,fun z=>z.1⟩
     ·exact hNX _ _ ⟨names,rfl,by walk_at "o",fun n=>by rw[ts n,e];exact⟨fun z=>.inl ((hn n).mp z),fun z=>z.elim (hn n).mpr fun z=>nomatch z.2⟩,rfl⟩
  ·rintro σ' G' ⟨names,u,v,rfl,hl,hn,rfl⟩
   rw[Mm]at hl;rw[Mm,MR]at hn;walk_at "s1";rw[qz hq];exact h _ (by walk_at "o") hn
 ·exact h.elim
theorem Fo(P:Pp):P.sta.length<=P.sks.length:=by
 unfold Pp.sta;rw[Mm];exact Ng _ _
theorem yM(Z1 Z2 Z3 Z4 Z5 Q4:Mg)(hw:HW):bC (cD Z1 Z2 Z3 Z4 Z5 Q4 hw) (jX Z1 Z2 Z3 Z4 Z5 Q4 hw) ["paper","bits","standing"]:=by
 intro ds G Q h;unfold cD at h;split at h
 ·rename_i p b;obtain⟨P,d,s,g,⟨pa,ok⟩,h⟩:=h;have hs:=aj;have ls:=ok.ls;have g1:=pa.1;have o1:=ok.lo;have sk:∀ k∈P.sks,1<=k.num/\k.wd<=1000:=fun k hk=>⟨(ok.sk k hk).1,le_trans (ok.sk k hk).2.1 (by decide)⟩
  have wl:=wG P;have sl:=Fo P;have kl:=yV b 0 P.wai;have nl:(P.sta ++ fX b 0 P.wai).length<=900000:=by rw[MP];omega
  have e0:P.sta.map Nm.d ++ (fX b 0 P.wai).map Nm.d=(P.sta ++ fX b 0 P.wai).map Nm.d:=M3.symm;have mm:∀ n,n∈P.sta ++ fX b 0 P.wai↔P.by b n:=fun n=>by
   rw[OE,zj];unfold Pp.by
   simp only[Nat.zero_add]
  unfold jX;rw[ag];walk_at "s1";refine⟨P,d,s,g,⟨pa,ok⟩,P,d,s,g,⟨pa,ok⟩,P.wai,⟨rfl,by walk_at "o"⟩,by rw[Mm,Mm];omega,P,d,s,g,pa,P,d,s,g,⟨pa,ls⟩,fun q hq=>⟨P.sks,P.sks,P.sta ++ fX b 0 P.wai,⟨rfl,by walk_at "o",mn ok.ap,by walk_at "o",by walk_at "o",fun k hk=>hk,sk,e0,nl⟩,fun out G' hE so mo=>h out _ G' ((gH.refl.gset hq).trans hE) ⟨so,mo⟩ mm⟩⟩
 ·exact h.elim
theorem zJ{P:Pp}{k:List aJ}{w v:Str}(h:cB P.st k=some (.str w))(hv:v=Mj "waits"\/v=Mj "stands"\/v=Mj "wiped"):P.goes ⟨P.old,P.sks,bB P.st k (.str v),P.gr,P.time⟩:=by
 have dc:=IU (v:=v) h;refine⟨rfl,fun n ok=>(dc.2.2.2.2 n ok).le (Nat.le_succ _),fun th s hs=>?_⟩;show cB (bB P.st k (.str v)) s.nm.key=_\/cB (bB P.st k (.str v)) s.nm.key=_\/cB (bB P.st k (.str v)) s.nm.key=_
 rw[hJ];split
 ·rcases hv with rfl|rfl|rfl
  ·exact .inl rfl
  ·exact .inr (.inl rfl)
  ·exact .inr (.inr rfl)
 ·exact th s hs
theorem EB{P:Pp}{pen:Str}{k:Sk}(nx:P.next pen k)(wd:k.wd<=60):P.goes (P.add k):=by
 refine⟨rfl,fun n ok=>Ip ok nx wd,fun th s hs=>?_⟩;show cB (bB P.st k.nm.key _) s.nm.key=_\/cB (bB P.st k.nm.key _) s.nm.key=_\/cB (bB P.st k.nm.key _) s.nm.key=_
 rw[hJ];split
 ·exact .inl rfl
 ·rename_i ne;rcases OE.mp hs with q|q
  ·exact th s q
  ·exact absurd (by rw[Os.mp q]) ne
theorem uU(Z1 Z2 Z3 Z4 Z5 Q4:Mg)(hw:HW):bC (c7 Z1 Z2 Z3 Z4 Z5 Q4 hw) (iN Z1 Z2 Z3 Z4 Z5 Q4 hw) ["_law_paper","_law_pens_here","_law_cell","_law_number","_law_waiting","_law_name"]:=by
 intro ds G Q h;unfold c7 at h;split at h
 ·rename_i p ps c;obtain⟨P,d,s,g,pens,⟨pa,ok,rfl,l0,l4⟩,h⟩:=h;have hs:=aj;have g1:=pa.1;have ok':P.ok 50:=ok.le (by decide)
  have wl:=wG P;have ls:=ok.ls;have lt:=ok.lt;have q2:=Iw P.wai;have due:∀ pen k G',P.next pen k->k.wd<=60->yu [p,d,s,g] G G'->gf Q4 hw G' p d s g (P.add k)->Q .non G':=fun pen k G' nx wd of pt=>h G' _ (EB nx wd) of pt;have lp:(pens.map D.str).length=pens.length:=Mm _;obtain⟨pen,at1⟩:∃ pen:Str,kN (pens.map D.str) (c / 6 % ((pens.map D.str).length:Int))=some (.str pen):=by
   have m1:=Int.emod_nonneg (c / 6) (b:=((pens.map D.str).length:Int)) (by walk_at "o")
   have m2:=Int.emod_lt_of_pos (c / 6) (b:=((pens.map D.str).length:Int)) (by walk_at "o")
   have:=pr (ds:=pens.map D.str) m1 (by walk_at "o")
   rw[ON]at this;exact⟨_,this⟩
  rw[lp]at at1;unfold iN;rw[ag];walk_at "s1"
  rintro x ⟨x0,x1⟩
  by_cases z:P.wai=[]
  ·have ez:dG (.lst (P.wai.map Nm.d)) (.lst [])=true:=by rw[z];exact bu _
   rw[ag];walk_at "s1";refine⟨P,d,s,g,⟨pa,ok'⟩,by decide,?_⟩
   simp only[ez,Bool.not_true,Bool.false_eq_true,if_false];have last:=due pen;exact ite2 (fun _=>⟨M6 _,q2,(fun _ hd=>by cases hd),⟨by decide,by decide⟩,by walk_at "o",P,d,s,g,⟨pa,ok⟩,due pen⟩) fun _=>⟨⟨by decide,by decide⟩,by walk_at "o",P,d,s,g,⟨pa,ok⟩,due pen⟩
  ·have lz:0 < P.wai.length:=List.length_pos_iff.mpr z;have ez:dG (.lst (P.wai.map Nm.d)) (.lst [])=false:=bQ fun e=>z (List.map_eq_nil_iff.mp (by injection e))
   have lw:(P.wai.map Nm.d).length=P.wai.length:=Mm _;have m1:=Int.emod_nonneg (x / 2) (b:=((P.wai.map Nm.d).length:Int)) (by walk_at "o")
   have m2:=Int.emod_lt_of_pos (x / 2) (b:=((P.wai.map Nm.d).length:Int)) (by walk_at "o")
   have at2:=pr (ds:=P.wai.map Nm.d) m1 (by walk_at "o")
   rw[ON]at at2;have ml:(x / 2 % ((P.wai.map Nm.d).length:Int)).toNat < P.wai.length:=by walk_at "o"
   have hk:=Hn ok (Ot ml);generalize P.wai[(x / 2 % ((P.wai.map Nm.d).length:Int)).toNat]'ml=n at at2 hk;obtain⟨a,b⟩:=n;have ed:Nm.d (a,b)=.tup [.str a,.int b]:=rfl;rw[ed,lw]at at2;clear ed m1 m2 ml;have hk':cB P.st [.inr a,.inl b]=some (.str (Mj "waits")):=hk;clear hk;rw[ag];walk_at "s1";refine⟨P,d,s,g,⟨pa,ok'⟩,by decide,?_⟩
   simp only[ez,Bool.not_false,if_true];refine ite2 (fun _=>⟨M6 _,q2,(fun _ hd=>by cases hd),?_⟩) fun _=>⟨⟨by decide,by decide⟩,by walk_at "o",P,d,s,g,⟨pa,ok⟩,due pen⟩
   rw[ag];walk_at "s1";exact⟨⟨by decide,by decide⟩,by walk_at "o",by decide,ite2 (fun _=>⟨P,d,s,g,⟨pa,hk',by walk_at "o"⟩,fun G' of pt=>h G' _ (zJ hk' (.inr (.inl rfl))) of pt⟩) fun _=>⟨P,d,s,g,⟨pa,hk',by walk_at "o"⟩,fun G' of pt=>h G' _ (zJ hk' (.inr (.inr rfl))) of pt⟩⟩
 ·exact h.elim
theorem JH(s:Sk)(n:Nat):pl (n+5) s.d:=by
 have sl:∀ ns:List Sl,pl (n+3) (.tup (ns.map Sl.d)):=fun ns=>Dv ns (n+1);have st:∀ (m:Nat) (x:Str),pl m (.str x):=fun m x=>by cases m<;>trivial
 have it:∀ (m:Nat) (x:Int),pl m (.int x):=fun m x=>by cases m<;>trivial
 obtain⟨pen,num,time,act⟩:=s;intro d hd;simp only[MV,MZ,or_false]at hd;rcases hd with rfl|rfl|rfl
 ·intro d hd;simp only[MV,MZ,or_false]at hd;rcases hd with rfl|rfl
  ·exact st _ _
  ·exact it _ _
 ·exact it _ _
 ·cases act with
  | put a x=>
   intro d hd;simp only[MV,MZ,or_false]at hd;rcases hd with rfl|rfl|rfl
   ·exact st _ _
   ·exact nX a (n+2)
   ·exact st _ _
  | strike ns=>
   intro d hd;simp only[MV,MZ,or_false]at hd;rcases hd with rfl|rfl
   ·exact st _ _
   ·exact sl ns
  | dress ns w=>
   intro d hd;simp only[MV,MZ,or_false]at hd;rcases hd with rfl|rfl|rfl
   ·exact st _ _
   ·exact sl ns
   ·exact st _ _
  | move ns a=>
   intro d hd;simp only[MV,MZ,or_false]at hd;rcases hd with rfl|rfl|rfl
   ·exact st _ _
   ·exact sl ns
   ·exact nX a (n+2)
theorem HB(ss:List Sk)(n:Nat):∀ d∈ss.map Sk.d,pl (n+5) d:=fun d hd=>by
 obtain⟨s,_,rfl⟩:=QY.mp hd;exact JH s n
theorem Cb(l:List Seat):pl 8 (.lst (l.map Seat.d3)):=fun d hd=>by
 obtain⟨s,_,rfl⟩:=QY.mp hd;intro e he;simp only[MV,MZ,or_false]at he;rcases he with rfl|rfl|rfl
 ·exact nX _ 5
 ·exact trivial
 ·exact trivial
theorem gH.none{G G':Gp}{a:Mg}(e:gH G G')(h:G' a=none):G a=none:=by
 cases q:G a with
 | none=>rfl
 | some o=>rw[e _ _ q]at h;cases h
theorem sx{x:Str}{out:List Sk}{a b:List Nm}(h:∀ n,n∈a↔n∈b):dW x out a=dW x out b:=by
 have e:∀ row,gI out a row=gI out b row:=fun row=>by
  unfold gI;congr 1;refine List.filter_congr fun s _=>?_;exact decide_eq_decide.mpr (h s.nm)
 unfold dW;rw[e]
theorem EW{b:Int}{m j:Nat}(h:j < m):eY (b+5*2 ^ m) j↔eY b j:=by
 unfold eY;obtain⟨r,rfl⟩:∃ r,m=j+1+r:=⟨m - j - 1,by walk_at "o"⟩
 have e:b+5*(2:Int) ^ (j+1+r)=b+(5*2 ^ r*2)*2 ^ j:=by
  rw[Int.pow_add,Int.pow_succ,Int.mul_comm (2 ^ j*2)];congr 1;rw[Int.mul_assoc,Int.mul_assoc,Int.mul_comm 2 ((2:Int) ^ j)]
 rw[e,Int.add_mul_ediv_right _ _ (Int.ne_of_gt (Int.pow_pos (by decide)))]
 omega
theorem EY{b:Int}{m j:Nat}(h:j < m):eY (b % (1*2 ^ m)) j↔eY b j:=by
 unfold eY;rw[Int.one_mul];obtain⟨r,rfl⟩:∃ r,m=j+1+r:=⟨m - j - 1,by walk_at "o"⟩
 have e:b=b % 2 ^ (j+1+r)+(b / 2 ^ (j+1+r)*2 ^ r*2)*2 ^ j:=by
  have q:=Int.emod_add_mul_ediv b ((2:Int) ^ (j+1+r));have w:(b / 2 ^ (j+1+r)*2 ^ r*2)*(2:Int) ^ j=2 ^ (j+1+r)*(b / 2 ^ (j+1+r)):=by
   generalize b / 2 ^ (j+1+r)=z;rw[Int.pow_add,Int.pow_succ,Int.mul_comm _ z,Int.mul_assoc,Int.mul_assoc,Int.mul_comm (2 ^ r),Int.mul_comm 2 ((2:Int) ^ j)]
  rw[w,q]
 have e2:b / 2 ^ j=b % 2 ^ (j+1+r) / 2 ^ j+b / 2 ^ (j+1+r)*2 ^ r*2:=by
  conv=>lhs;rw[e]
  rw[Int.add_mul_ediv_right _ _ (Int.ne_of_gt (Int.pow_pos (by decide)))]
 rw[e2];omega
theorem GB{m j:Nat}(h:j < m):eY (1*2 ^ m - 1) j:=by
 unfold eY;rw[Int.one_mul];obtain⟨r,rfl⟩:∃ r,m=j+1+r:=⟨m - j - 1,by walk_at "o"⟩
 have pp:(0:Int) < 2 ^ j:=Int.pow_pos (by decide)
 have e:(2:Int) ^ (j+1+r) - 1=(2 ^ j - 1)+(2*2 ^ r - 1)*2 ^ j:=by
  rw[Int.sub_mul,Int.one_mul,Int.pow_add,Int.pow_succ,Int.mul_comm (2*2 ^ r),Int.mul_assoc];omega
 rw[e,Int.add_mul_ediv_right _ _ (Int.ne_of_gt pp),Int.ediv_eq_zero_of_lt (by walk_at "o") (by walk_at "o")]
 omega
theorem Gz{P:Pp}{b b':Int}(h:∀ j,j < P.wai.length->(eY b j↔eY b' j))(n:Nm):P.by b n↔P.by b' n:=by
 unfold Pp.by
 refine or_congr Iff.rfl (exists_congr fun j=>?_);constructor
 ·rintro⟨e,q⟩
  exact⟨e,(h j (List.getElem?_eq_some_iff.mp e).1).mp q⟩
 ·rintro⟨e,q⟩
  exact⟨e,(h j (List.getElem?_eq_some_iff.mp e).1).mpr q⟩
theorem Je{P:Pp}{n:Nat}(ok:P.ok n)(th:P.thr)(x:Nm):P.by (1*2 ^ P.wai.length - 1) x↔x∈P.unw:=by
 have hw0:∀ (v:Str),x∈(P.inS v).map Sk.nm↔∃ s∈P.sks,cB P.st s.nm.key=some (.str v)/\s.nm=x:=fun v=>by
  rw[QY];constructor
  ·rintro⟨s,hs,e⟩
   obtain⟨h1,h2⟩:=mem_filter.mp hs;obtain⟨w,hw0⟩:=ok.kn s h1;rw[hw0]at h2;exact⟨s,h1,by rw[hw0];exact congrArg some (ke.mp h2),e⟩
  ·rintro⟨s,h1,h2,e⟩
   exact⟨s,mem_filter.mpr ⟨h1,by rw[h2];exact bu _⟩,e⟩
 have hu:x∈P.unw↔∃ s∈P.sks,cB P.st s.nm.key≠some (.str (Mj "wiped"))/\s.nm=x:=by
  unfold Pp.unw;rw[QY];constructor
  ·rintro⟨s,hs,e⟩
   obtain⟨h1,h2⟩:=mem_filter.mp hs;refine⟨s,h1,fun z=>?_,e⟩;unfold fJ at h2;rw[z,Option.getD_some,bu]at h2;cases h2
  ·rintro⟨s,h1,h2,e⟩
   refine⟨s,mem_filter.mpr ⟨h1,?_⟩,e⟩;unfold fJ;obtain⟨w,hw0⟩:=ok.kn s h1;rw[hw0]at h2 ⊢;rw[Option.getD_some,bQ (fun z=>h2 (by rw[z]))]
   rfl
 rw[hu];unfold Pp.by
 constructor
 ·rintro (h|⟨j,h,_⟩)
  ·obtain⟨s,h1,h2,e⟩:=(hw0 _).mp h;exact⟨s,h1,by rw[h2];exact fun z=>absurd (D.str.inj (Option.some.inj z)) (by decide +kernel),e⟩
  ·obtain⟨s,h1,h2,e⟩:=(hw0 _).mp (MC h);exact⟨s,h1,by rw[h2];exact fun z=>absurd (D.str.inj (Option.some.inj z)) (by decide +kernel),e⟩
 ·rintro⟨s,h1,h2,e⟩
  rcases th s h1 with q|q|q
  ·obtain⟨j,hj,ej⟩:=List.getElem_of_mem ((hw0 _).mpr ⟨s,h1,q,e⟩);have hj':j < P.wai.length:=hj;exact .inr ⟨j,List.getElem?_eq_some_iff.mpr ⟨hj,ej⟩,GB hj'⟩
  ·exact .inl ((hw0 _).mpr ⟨s,h1,q,e⟩)
  ·exact absurd q h2
def Hw(P:Pp)(s:Sk):D:=(cB P.st s.nm.key).getD .non
theorem sj(Z1 Z2 Z3 Z4 Z5 Q4:Mg)(hw:HW){P:Pp}{p d s g r:Mg}{G:Gp}{τ:fH}{Q:mT}(pa:gf Q4 hw G p d s g P)(ok:P.ok 50)(hr:G r=some (.lst (P.sks.map Sk.d)))(hq:Q (.fl (P.sks.map (Hw P))) G):
  Fb r 1 (gN 0) iC (bn Q4 am (aT Z1 Z2 Z3 Z4 Z5 Q4 hw) [] (ae 1) (af (bA i8 (ae 0) (eC (.int 0))) av)) (some (.ref p)::τ) (P.sks.map Sk.d) G Q:=by
 have hs:=aj;have ls:=ok.ls;refine⟨by rw[Mm];omega,fun i acc G'=>acc=(P.sks.take i).map (Hw P)/\G'=G,⟨rfl,rfl⟩,fun i acc G' hp=>by rw[hp.2];exact hr,?_,?_⟩
 ·rintro i dd acc G' hd ⟨rfl,rfl⟩
  rw[MH]at hd;cases hq':P.sks[i]? with
  | none=>rw[hq']at hd;cases hd
  | some k=>
   rw[hq']at hd;cases hd;obtain⟨w',hw0⟩:=ok.kn k (MC hq');have tk:(P.sks.take (i+1)).map (Hw P)=(P.sks.take i).map (Hw P) ++ [.str w']:=by
    rw[MU,hq',M3,Option.toList_some];show _ ++ [(cB P.st k.nm.key).getD .non]=_
    rw[hw0];rfl
   have ed:k.d=.tup [.tup [.str k.pen,.int k.num],.int k.time,k.act.d]:=rfl;rw[ed];refine⟨⟨by simp[MK,List.replicate],rfl⟩,?_⟩
   have hk:cB P.st [.inr k.pen,.inl k.num]=some (.str w'):=hw0;have g1:=pa.1;generalize (P.sks.take i).map (Hw P)=A0 at *
   walk_at "st";exact⟨P,d,s,g,w',⟨pa,hk⟩,rfl⟩
 ·rintro acc G' ⟨rfl,rfl⟩
  rw[Mm,MR];exact hq
theorem sN(Z1 Z2 Z3 Z4 Z5 Q4:Mg)(hw:HW):bC (cw Z1 Z2 Z3 Z4 Z5 Q4 hw) (gQ Z1 Z2 Z3 Z4 Z5 Q4 hw) ["_law_paper","_law_old_here","_law_bits","_law_rows","_law_states","_law_view","_law_due","_law_found","_law_many"]:=by
 intro ds G Q h;unfold cw at h;split at h
 ·rename_i p x b;obtain⟨P,d,s,g,⟨pa,ok,rfl,th,b0⟩,h⟩:=h;have hs:=aj;have ls:=ok.ls;have lo:=ok.lo;have wl:=wG P;have g0:=pa.1;have sk:∀ k∈P.sks,1<=k.num/\k.wd<=1000:=fun k hk=>⟨(ok.sk k hk).1,le_trans (ok.sk k hk).2.1 (by decide)⟩
  unfold gQ;rw[ag];walk_at "s1";refine⟨P,d,s,g,⟨pa,ls⟩,fun r hr=>?_⟩;generalize hG1:gset G r _=G1;have e1:gH G G1:=by rw[<- hG1];exact gH.refl.gset hr
  have r1:G1 r=some (.lst (P.sks.map Sk.d)):=by rw[<- hG1];exact az
  clear hG1 hr;have pa1:=pa.ext e1;have k1:=pa1.1;have q3:∀ l:List Seat,∀ e∈l.map Seat.d3,pl 7 e:=fun l=>Cb l;have qt:∀ e∈P.sks.map (Hw P),pl 7 e:=fun e he=>by
   obtain⟨k,hk,rfl⟩:=QY.mp he;obtain⟨w',hw0⟩:=ok.kn k hk;unfold Hw;rw[hw0];trivial
  have qs:∀ e∈P.sks.map Sk.d,pl 7 e:=HB P.sks 2;clear pa g0;rw[ag];walk_at "s1";refine sj Z1 Z2 Z3 Z4 Z5 Q4 hw pa1 ok r1 ?_;rw[ag];walk_at "s1";refine⟨P,d,s,g,⟨pa1,ok⟩,fun out G2 e2 so=>?_⟩;have pa2:=pa1.ext e2;have k2:=pa2.1;have r2:=e2 _ _ r1;have e02:=e1.trans e2;clear pa1 k1 r1 e1 e2;rw[ag];walk_at "s1";refine⟨P,d,s,g,⟨pa2,ok⟩,fun nm0 hl0 hm0=>⟨P.sks,P.sks,nm0,⟨rfl,by walk_at "o",mn ok.ap,by walk_at "o",by walk_at "o",fun k hk=>hk,sk,rfl,by walk_at "o"⟩,fun o3 G3 e3 s3 m3=>?_⟩⟩
  rw[srt_uniq (P:=P) ⟨s3,m3⟩ so];have pa3:=pa2.ext e3;have k3:=pa3.1;have r3:=e3 _ _ r2;have e03:=e02.trans e3;clear pa2 k2 r2 e02 e3 s3 m3 o3;have same:∀ {o':List Sk} {nm:List Nm} {b':Int},Srt P o'->(∀ n,n∈nm↔P.by b' n)->(∀ j,j < P.wai.length->(eY b' j↔eY b j))->(dW P.old o' nm).map Seat.d3=(dW P.old out nm0).map Seat.d3:=fun so' hm hb=>by
   rw[srt_uniq so' so,sx fun n=>(hm n).trans ((Gz hb n).trans (hm0 n).symm)]
  rw[ag];walk_at "s1";refine⟨P,d,s,g,⟨pa3,ok⟩,fun o4 nm4 G4 e4 so4 hm4 q hq=>?_⟩;rw[same so4 hm4 fun _ _=>Iff.rfl];clear so4 hm4;generalize hDue:(dW P.old out nm0).map Seat.d3=due at *
  have qd:∀ e∈due,pl 7 e:=by rw[<- hDue];exact q3 _
  have ld:due.length < 900000:=by
   rw[<- hDue,Mm];have h1:=sy (x:=P.old) (out:=out) (names:=nm0) fun s hs'=>le_trans (j9 s) (le_trans (ok.sk s ((so.2 s).mp hs')).2.1 (by decide))
   have h2:=Br so;omega
  have pa4:gf Q4 hw (gset G4 q (.lst due)) p d s g P:=(pa3.ext e4).off hq;have k4:=pa4.1;have r4:gset G4 q (.lst due) r=some (.lst (P.sks.map Sk.d)):=(ao fun z=>by rw[<- z,e4 _ _ r3]at hq;cases hq).trans (e4 _ _ r3)
  have q4:gset G4 q (.lst due) q=some (.lst due):=az;rw[ag];refine cJ false (fun K hK=>?_) (iteF ?_)
  ·walk_at "s1";exact qd
  ·have e05:gH G (gset G4 q (.lst (due ++ [.non]))):=(e03.trans e4).gset ((e03.trans e4).none hq);have pa5:gf Q4 hw (gset G4 q (.lst (due ++ [.non]))) p d s g P:=(pa3.ext e4).off hq;have r5:gset G4 q (.lst (due ++ [.non])) r=some (.lst (P.sks.map Sk.d)):=(ao fun z=>by rw[<- z,e4 _ _ r3]at hq;cases hq).trans (e4 _ _ r3)
   simp only[d9];rw[ag];walk_at "s1";refine⟨by walk_at "o",?_⟩
   generalize gset G4 q (.lst (due ++ [.non]))=G5 at *
   clear pa4 k4 r4 q4 hq e4 pa3 k3 r3 e03;have k5:=pa5.1;rw[ag];walk_at "s1";refine⟨P,d,s,g,⟨pa5,ok⟩,?_⟩;rw[Mm];have hM:((P.wai.length:Int)).toNat=P.wai.length:=Int.toNat_natCast _;generalize hm:(P.wai.length:Int)=M at *
   rw[ag];refine Fw (b:=false) ?_ fun G6 e6=>iteF ?_
   ·intro K hK;walk_at "s1";refine⟨P,d,s,g,⟨pa5,ok⟩,fun o6 nm6 G6 e6 so6 hm6=>?_⟩;rw[same so6 hm6 fun _ _=>Iff.rfl,bu];have pa6:=pa5.ext e6;have k6:=pa6.1;walk_at "s1";refine⟨qd,qd,⟨by walk_at "o",by walk_at "o",by decide⟩,P,d,s,g,⟨pa6,ok⟩,fun o7 nm7 G7 e7 so7 hm7=>⟨⟨by walk_at "o",by walk_at "o",by decide⟩,by rw[Int.one_mul];exact Int.pow_pos (by decide),P,d,s,g,⟨pa6.ext e7,ok⟩,fun o8 nm8 G8 e8 so8 hm8=>⟨q3 _,q3 _,?_⟩⟩⟩
    rw[same so7 hm7 (fun j hj=>EW hj),same so8 hm8 (fun j hj=>EY hj),bu];exact hK _ (e6.trans (e7.trans e8))
   ·have pa6:=pa5.ext e6;have k6:=pa6.1;have r6:=e6 _ _ r5;simp only[d9];rw[ag];refine cJ false (fun K hK=>?_) (iteF ?_)
    ·walk_at "s1";refine⟨P,d,s,g,⟨pa6,ls⟩,_,⟨rfl,rfl,qs⟩,sj Z1 Z2 Z3 Z4 Z5 Q4 hw pa6 ok r6 ⟨qt,qt,?_⟩⟩;rw[bu];exact hK
    ·simp only[d9];walk_at "s1";refine⟨P,d,s,g,⟨pa6,ok⟩,fun o7 G7 e7 so7=>⟨q3 _,q3 _,?_⟩⟩;rw[srt_uniq so7 so,bu];refine iteT ⟨⟨by walk_at "o",by walk_at "o",by decide⟩,P,d,s,g,⟨pa6.ext e7,ok⟩,fun o8 nm8 G8 e8 so8 hm8=>⟨q3 _,q3 _,?_⟩⟩
     have e:dW P.old o8 nm8=P.seats out:=by
      rw[srt_uniq so8 so];exact sx fun n=>(hm8 n).trans (Je ok th n)
     rw[e,bu];exact h _ (e05.trans (e6.trans (e7.trans e8)))
 ·exact h.elim
theorem Fx(Z1 Z2 Z3 Z4 Z5 Q4:Mg)(hw:HW):bC (sm Z1 Z2 Z3 Z4 Z5 Q4 hw) (wY Z1 Z2 Z3 Z4 Z5 Q4 hw) ["_law_script","_law_cell","_law_old_here","_law_pens_here","_law_paper","_law_k","_law_choices"]:=by
 intro vs G Q h;unfold sm at h;split at h
 ·obtain⟨ns,rfl,hn,hq⟩:=h;have hs:=aj;unfold wY;rw[ag];walk_at "s1";refine⟨ns,⟨rfl,by decide⟩,fun c=>?_⟩
  rw[ag];walk_at "s1";refine⟨ns,⟨rfl,by decide⟩,fun c1 x lx=>?_⟩
  rw[ag];walk_at "s1";intro pens l0 l4;rw[ag];walk_at "s1";intro p hp d s g G1 of pa;clear of hp;rw[ag];walk_at "s1";have hN:0<=(if 22 < ((ns.map D.int).length:Int)then 22 else ((ns.map D.int).length:Int))/\(if 22 < ((ns.map D.int).length:Int)then 22 else ((ns.map D.int).length:Int))<=22/\(if 22 < ((ns.map D.int).length:Int)then 22 else ((ns.map D.int).length:Int))<=ns.length:=by
   rw[Mm];split<;>omega
  generalize (if 22 < ((ns.map D.int).length:Int)then 22 else ((ns.map D.int).length:Int))=N at *
  refine⟨⟨by decide,by decide,by walk_at "o",by walk_at "o"⟩,fun i σ' G'=>∃ (u:Option D) (P:Pp),σ'=[some (.lst (ns.map D.int)),some (.int c),some (.str x),some (.lst (pens.map D.str)),some (.ref p),u,none]/\gf Q4 hw G' p d s g P/\P.ok i/\P.old=x/\P.thr,⟨none,_,rfl,pa,⟨lx,le_refl _,le_refl _,le_refl _,(fun _ h=>by cases h),List.Pairwise.nil,(fun _ h=>by cases h),(fun _ _ h=>by cases h),(fun _ h=>by cases h)⟩,rfl,fun _ h=>by cases h⟩,?_,?_⟩
  ·rintro i dd σ' G' hd ⟨u,P,rfl,pa',ok,rfl,th⟩
   obtain⟨hi,rfl⟩:=nr hd;clear hd pa;obtain⟨z,at1⟩:∃ z:Int,kN (ns.map D.int) (2+(i:Int))=some (.int z):=⟨_,E5 (by walk_at "o") (by walk_at "o")⟩
   walk_at "s1";rw[ag];walk_at "s1";refine⟨P,d,s,g,pens,⟨pa',ok.le (by walk_at "o"),rfl,l0,l4⟩,fun G2 P' gs _ pa2=>⟨by decide,?_⟩⟩
   have ok2:=gs.2.1 _ ok;have th2:=gs.2.2 th;exact ite2 (fun _ n hn0=>⟨P',d,s,g,⟨pa2,ok2.le (by walk_at "o"),gs.1,th2,hn0.1⟩,fun G3 e3=>⟨_,P',rfl,pa2.ext e3,ok2,gs.1,th2⟩⟩) fun _=>⟨_,P',rfl,pa2,ok2,gs.1,th2⟩
  ·rintro σ' G' ⟨u,P,rfl,pa',ok,rfl,th⟩
   rw[fh]at ok;have ok5:P.ok 50:=ok.le (by walk_at "o")
   clear pa;dsimp only;rw[ag];walk_at "s1";refine⟨⟨by decide,by decide,by decide⟩,by decide,fun n6 h6 n8 h8=>⟨by decide,by walk_at "o",?_⟩⟩
   have h40:0<=c % 10 ^ Int.toNat 40:=Int.emod_nonneg _ (by decide)
   have h16:0<=n8 % 16:=by walk_at "o"
   generalize c % 10 ^ Int.toNat 40=b1 at *
   generalize n8 % 16=b3 at *
   have VR:∀ e∈[D.int 0,D.int b1,D.int n6,D.int b3],∃ z:Int,0<=z/\e=.int z:=fun e he=>by
    simp only[MV,MZ,or_false]at he;rcases he with rfl|rfl|rfl|rfl
    ·exact⟨_,Int.le_refl _,rfl⟩
    ·exact⟨_,h40,rfl⟩
    ·exact⟨_,h6.1,rfl⟩
    ·exact⟨_,h16,rfl⟩
   have ll:[D.int 0,D.int b1,D.int n6,D.int b3].length=4:=rfl;generalize [D.int 0,D.int b1,D.int n6,D.int b3]=L at *
   refine⟨by walk_at "o",fun i acc G2=>acc=List.replicate i (.bl true)/\gf Q4 hw G2 p d s g P,⟨rfl,pa'⟩,?_,?_⟩
   ·rintro i e acc G2 he ⟨rfl,pa2⟩
    obtain⟨z,z0,rfl⟩:=VR e (MC he);refine⟨⟨by simp[MK,List.replicate],rfl⟩,?_⟩
    exact⟨P,d,s,g,⟨pa2,ok5,rfl,th,z0⟩,fun G3 e3=>⟨List.replicate_succ'.symm,pa2.ext e3⟩⟩
   ·rintro acc G2 ⟨rfl,pa2⟩
    refine⟨List.replicate L.length true,by rw[List.map_replicate],?_⟩
    rw[ll];exact hq _
 ·exact h.elim
section
variable{Z1 Z2 Z3 Z4 Z5 Q4:Mg}{hw:List aJ->Int}
theorem qm:bD (bM Z1 Z2 Z3 Z4 Z5 Q4 hw) 2:=fun _ _ _ h=>by unfold bM at h;split at h<;>first|rfl|exact h.elim
theorem tS:bD (bd Z1 Z2 Z3 Z4 Z5 Q4 hw) 2:=fun _ _ _ h=>by unfold bd at h;split at h<;>first|rfl|exact h.elim
theorem tQ:bD (bV Z1 Z2 Z3 Z4 Z5 Q4 hw) 2:=fun _ _ _ h=>by unfold bV at h;split at h<;>first|rfl|exact h.elim
theorem xM:bD (dI Z1 Z2 Z3 Z4 Z5 Q4 hw) 1:=fun _ _ _ h=>by unfold dI at h;split at h<;>first|rfl|exact h.elim
theorem vD:bD (c8 Z1 Z2 Z3 Z4 Z5 Q4 hw) 1:=fun _ _ _ h=>by unfold c8 at h;split at h<;>first|rfl|exact h.elim
theorem tP:bD (cr Z1 Z2 Z3 Z4 Z5 Q4 hw) 3:=fun _ _ _ h=>by unfold cr at h;split at h<;>first|rfl|exact h.elim
theorem tO:bD (bx Z1 Z2 Z3 Z4 Z5 Q4 hw) 2:=fun _ _ _ h=>by unfold bx at h;split at h<;>first|rfl|exact h.elim
theorem vt:bD (cq Z1 Z2 Z3 Z4 Z5 Q4 hw) 1:=fun _ _ _ h=>by unfold cq at h;split at h<;>first|rfl|exact h.elim
theorem nI:bD (bc Z1 Z2 Z3 Z4 Z5 Q4 hw) 1:=fun _ _ _ h=>by unfold bc at h;split at h<;>first|rfl|exact h.elim
theorem xL:bD (cL Z1 Z2 Z3 Z4 Z5 Q4 hw) 1:=fun _ _ _ h=>by unfold cL at h;split at h<;>first|rfl|exact h.elim
theorem mG:bD (aG Z1 Z2 Z3 Z4 Z5 Q4 hw) 3:=fun _ _ _ h=>by unfold aG at h;split at h<;>first|rfl|exact h.elim
theorem qp:bD (bz Z1 Z2 Z3 Z4 Z5 Q4 hw) 5:=fun _ _ _ h=>by unfold bz at h;split at h<;>first|rfl|exact h.elim
theorem mH:bD (aX Z1 Z2 Z3 Z4 Z5 Q4 hw) 4:=fun _ _ _ h=>by unfold aX at h;split at h<;>first|rfl|exact h.elim
theorem nN:bD (bg Z1 Z2 Z3 Z4 Z5 Q4 hw) 5:=fun _ _ _ h=>by unfold bg at h;split at h<;>first|rfl|exact h.elim
theorem o_:bD (br Z1 Z2 Z3 Z4 Z5 Q4 hw) 5:=fun _ _ _ h=>by unfold br at h;split at h<;>first|rfl|exact h.elim
theorem vq:bD (cn Z1 Z2 Z3 Z4 Z5 Q4 hw) 1:=fun _ _ _ h=>by unfold cn at h;split at h<;>first|rfl|exact h.elim
theorem zp:bD (ee Z1 Z2 Z3 Z4 Z5 Q4 hw) 1:=fun _ _ _ h=>by unfold ee at h;split at h<;>first|rfl|exact h.elim
theorem qo:bD (ar Z1 Z2 Z3 Z4 Z5 Q4 hw) 1:=fun _ _ _ h=>by unfold ar at h;split at h<;>first|rfl|exact h.elim
theorem vE:bD (a_ Z1 Z2 Z3 Z4 Z5 Q4 hw) 1:=fun _ _ _ h=>by unfold a_ at h;split at h<;>first|rfl|exact h.elim
theorem tZ:bD (aP Z1 Z2 Z3 Z4 Z5 Q4 hw) 1:=fun _ _ _ h=>by unfold aP at h;split at h<;>first|rfl|exact h.elim
theorem xK:bD (dH Z1 Z2 Z3 Z4 Z5 Q4 hw) 2:=fun _ _ _ h=>by unfold dH at h;split at h<;>first|rfl|exact h.elim
theorem A3:bD (dR Z1 Z2 Z3 Z4 Z5 Q4 hw) 1:=fun _ _ _ h=>by unfold dR at h;split at h<;>first|rfl|exact h.elim
theorem vy:bD (cY Z1 Z2 Z3 Z4 Z5 Q4 hw) 2:=fun _ _ _ h=>by unfold cY at h;split at h<;>first|rfl|exact h.elim
theorem vz:bD (cZ Z1 Z2 Z3 Z4 Z5 Q4 hw) 3:=fun _ _ _ h=>by unfold cZ at h;split at h<;>first|rfl|exact h.elim
theorem oV:bD (bS Z1 Z2 Z3 Z4 Z5 Q4 hw) 2:=fun _ _ _ h=>by unfold bS at h;split at h<;>first|rfl|exact h.elim
theorem nJ:bD (ah Z1 Z2 Z3 Z4 Z5 Q4 hw) 1:=fun _ _ _ h=>by unfold ah at h;split at h<;>first|rfl|exact h.elim
theorem ql:bD (b8 Z1 Z2 Z3 Z4 Z5 Q4 hw) 1:=fun _ _ _ h=>by unfold b8 at h;split at h<;>first|rfl|exact h.elim
theorem rK:bD (cz Z1 Z2 Z3 Z4 Z5 Q4 hw) 1:=fun _ _ _ h=>by unfold cz at h;split at h<;>first|rfl|exact h.elim
theorem tN:bD (cK Z1 Z2 Z3 Z4 Z5 Q4 hw) 1:=fun _ _ _ h=>by unfold cK at h;split at h<;>first|rfl|exact h.elim
theorem A2:bD (dQ Z1 Z2 Z3 Z4 Z5 Q4 hw) 3:=fun _ _ _ h=>by unfold dQ at h;split at h<;>first|rfl|exact h.elim
theorem zn:bD (cC Z1 Z2 Z3 Z4 Z5 Q4 hw) 3:=fun _ _ _ h=>by unfold cC at h;split at h<;>first|rfl|exact h.elim
theorem o0:bD (bp Z1 Z2 Z3 Z4 Z5 Q4 hw) 1:=fun _ _ _ h=>by unfold bp at h;split at h<;>first|rfl|exact h.elim
theorem tV:bD (bK Z1 Z2 Z3 Z4 Z5 Q4 hw) 1:=fun _ _ _ h=>by unfold bK at h;split at h<;>first|rfl|exact h.elim
theorem vA:bD (cu Z1 Z2 Z3 Z4 Z5 Q4 hw) 2:=fun _ _ _ h=>by unfold cu at h;split at h<;>first|rfl|exact h.elim
theorem vB:bD (cv Z1 Z2 Z3 Z4 Z5 Q4 hw) 2:=fun _ _ _ h=>by unfold cv at h;split at h<;>first|rfl|exact h.elim
theorem rM:bD (aU Z1 Z2 Z3 Z4 Z5 Q4 hw) 1:=fun _ _ _ h=>by unfold aU at h;split at h<;>first|rfl|exact h.elim
theorem zr:bD (dm Z1 Z2 Z3 Z4 Z5 Q4 hw) 1:=fun _ _ _ h=>by unfold dm at h;split at h<;>first|rfl|exact h.elim
theorem tT:bD (bW Z1 Z2 Z3 Z4 Z5 Q4 hw) 1:=fun _ _ _ h=>by unfold bW at h;split at h<;>first|rfl|exact h.elim
theorem vG:bD (cy Z1 Z2 Z3 Z4 Z5 Q4 hw) 1:=fun _ _ _ h=>by unfold cy at h;split at h<;>first|rfl|exact h.elim
theorem xN:bD (cP Z1 Z2 Z3 Z4 Z5 Q4 hw) 1:=fun _ _ _ h=>by unfold cP at h;split at h<;>first|rfl|exact h.elim
theorem tY:bD (bf Z1 Z2 Z3 Z4 Z5 Q4 hw) 2:=fun _ _ _ h=>by unfold bf at h;split at h<;>first|rfl|exact h.elim
theorem kI:bD (aD Z1 Z2 Z3 Z4 Z5 Q4 hw) 2:=fun _ _ _ h=>by unfold aD at h;split at h<;>first|rfl|exact h.elim
theorem kH:bD (aB Z1 Z2 Z3 Z4 Z5 Q4 hw) 1:=fun _ _ _ h=>by unfold aB at h;split at h<;>first|rfl|exact h.elim
theorem vF:bD (cx Z1 Z2 Z3 Z4 Z5 Q4 hw) 4:=fun _ _ _ h=>by unfold cx at h;split at h<;>first|rfl|exact h.elim
theorem oX:bD (aR Z1 Z2 Z3 Z4 Z5 Q4 hw) 3:=fun _ _ _ h=>by unfold aR at h;split at h<;>first|rfl|exact h.elim
theorem oW:bD (aQ Z1 Z2 Z3 Z4 Z5 Q4 hw) 3:=fun _ _ _ h=>by unfold aQ at h;split at h<;>first|rfl|exact h.elim
theorem qq:bD (b9 Z1 Z2 Z3 Z4 Z5 Q4 hw) 4:=fun _ _ _ h=>by unfold b9 at h;split at h<;>first|rfl|exact h.elim
theorem rN:bD (cA Z1 Z2 Z3 Z4 Z5 Q4 hw) 5:=fun _ _ _ h=>by unfold cA at h;split at h<;>first|rfl|exact h.elim
theorem tW:bD (cN Z1 Z2 Z3 Z4 Z5 Q4 hw) 3:=fun _ _ _ h=>by unfold cN at h;split at h<;>first|rfl|exact h.elim
theorem tX:bD (cO Z1 Z2 Z3 Z4 Z5 Q4 hw) 5:=fun _ _ _ h=>by unfold cO at h;split at h<;>first|rfl|exact h.elim
theorem zq:bD (ef Z1 Z2 Z3 Z4 Z5 Q4 hw) 3:=fun _ _ _ h=>by unfold ef at h;split at h<;>first|rfl|exact h.elim
theorem lN:bD (aO Z1 Z2 Z3 Z4 Z5 Q4 hw) 2:=fun _ _ _ h=>by unfold aO at h;split at h<;>first|rfl|exact h.elim
theorem oZ:bD (aS Z1 Z2 Z3 Z4 Z5 Q4 hw) 1:=fun _ _ _ h=>by unfold aS at h;split at h<;>first|rfl|exact h.elim
theorem kK:bD (bh Z1 Z2 Z3 Z4 Z5 Q4 hw) 2:=fun _ _ _ h=>by unfold bh at h;split at h<;>first|rfl|exact h.elim
theorem rL:bD (aT Z1 Z2 Z3 Z4 Z5 Q4 hw) 2:=fun _ _ _ h=>by unfold aT at h;split at h<;>first|rfl|exact h.elim
theorem kJ:bD (aM Z1 Z2 Z3 Z4 Z5 Q4 hw) 2:=fun _ _ _ h=>by unfold aM at h;split at h<;>first|rfl|exact h.elim
theorem mI:bD (bw Z1 Z2 Z3 Z4 Z5 Q4 hw) 2:=fun _ _ _ h=>by unfold bw at h;split at h<;>first|rfl|exact h.elim
theorem tU:bD (cM Z1 Z2 Z3 Z4 Z5 Q4 hw) 2:=fun _ _ _ h=>by unfold cM at h;split at h<;>first|rfl|exact h.elim
theorem vC:bD (c7 Z1 Z2 Z3 Z4 Z5 Q4 hw) 3:=fun _ _ _ h=>by unfold c7 at h;split at h<;>first|rfl|exact h.elim
theorem o9:bD (aN Z1 Z2 Z3 Z4 Z5 Q4 hw) 1:=fun _ _ _ h=>by unfold aN at h;split at h<;>first|rfl|exact h.elim
theorem oY:bD (bT Z1 Z2 Z3 Z4 Z5 Q4 hw) 2:=fun _ _ _ h=>by unfold bT at h;split at h<;>first|rfl|exact h.elim
theorem A4:bD (fE Z1 Z2 Z3 Z4 Z5 Q4 hw) 2:=fun _ _ _ h=>by unfold fE at h;split at h<;>first|rfl|exact h.elim
theorem nK:bD (bG Z1 Z2 Z3 Z4 Z5 Q4 hw) 1:=fun _ _ _ h=>by unfold bG at h;split at h<;>first|rfl|exact h.elim
theorem nL:bD (bH Z1 Z2 Z3 Z4 Z5 Q4 hw) 1:=fun _ _ _ h=>by unfold bH at h;split at h<;>first|rfl|exact h.elim
theorem zo:bD (cD Z1 Z2 Z3 Z4 Z5 Q4 hw) 2:=fun _ _ _ h=>by unfold cD at h;split at h<;>first|rfl|exact h.elim
theorem tR:bD (cw Z1 Z2 Z3 Z4 Z5 Q4 hw) 3:=fun _ _ _ h=>by unfold cw at h;split at h<;>first|rfl|exact h.elim
theorem nM:bD (bI Z1 Z2 Z3 Z4 Z5 Q4 hw) 2:=fun _ _ _ h=>by unfold bI at h;split at h<;>first|rfl|exact h.elim
theorem Gc:bD (sm Z1 Z2 Z3 Z4 Z5 Q4 hw) 1:=fun _ _ _ h=>by unfold sm at h;split at h<;>first|rfl|exact h.elim
end
structure Tx(K:PySem.W.Frag)(mg:Str->Option Mh)(Z1 Z2 Z3 Z4 Z5:Mg)(Q4:Mg):Prop where
 fa_anchor:∀ C∈[Z1,Z2,Z3,Z4,Z5],Cls K C/\cX K C "anchor"
 fa_name:∀ C∈[Z1,Z2,Z3,Z4,Z5],Cls K C/\cX K C "name"
 fa_names:∀ C∈[Z1,Z2,Z3,Z4,Z5],Cls K C/\cX K C "names"
 fa_signs:∀ C∈[Z1,Z2,Z3,Z4,Z5],Cls K C/\cX K C "signs"
 fa_time:∀ C∈[Z1,Z2,Z3,Z4,Z5],Cls K C/\cX K C "time"
 fa_word:∀ C∈[Z1,Z2,Z3,Z4,Z5],Cls K C/\cX K C "word"
 cl_Stroke:Cls K Z1
 cl_Put:Cls K Z2
 cl_Strike:Cls K Z3
 cl_Dress:Cls K Z4
 cl_Move:Cls K Z5
 cl_Paper:Cls K Q4
 na_Paper_old:cX K Q4 "old"
 na_Paper_drawn:cX K Q4 "drawn"
 na_Paper_states:cX K Q4 "states"
 na_Paper_greatest:cX K Q4 "greatest"
 na_Paper_time:cX K Q4 "time"
 b_all:mg "all"=none
 b_dict:mg "dict"=none
 b_enumerate:mg "enumerate"=none
 b_int:mg "int"=none
 b_isinstance:mg "isinstance"=none
 b_len:mg "len"=none
 b_list:mg "list"=none
 b_min:mg "min"=none
 b_range:mg "range"=none
 b_sorted:mg "sorted"=none
 b_tuple:mg "tuple"=none
 b_zip:mg "zip"=none
 k_STANDS:kj K mg "STANDS" k_STANDS
 k_START:kj K mg "START" k_START
 k_WAITS:kj K mg "WAITS" k_WAITS
 k_WIPED:kj K mg "WIPED" k_WIPED
 xm_Dress:mg "Dress"=some (.ref Z4)
 ik_Dress:∀ p∈([(Z1,false),(Z2,false),(Z3,false),(Z4,true),(Z5,false)]:List (Mg×Bool)),InsAsk K p.1/\Nq K (.ref p.1) (.ref Z4)=some p.2
 xm_Move:mg "Move"=some (.ref Z5)
 ik_Move:∀ p∈([(Z1,false),(Z2,false),(Z3,false),(Z4,false),(Z5,true)]:List (Mg×Bool)),InsAsk K p.1/\Nq K (.ref p.1) (.ref Z5)=some p.2
 xm_Put:mg "Put"=some (.ref Z2)
 ik_Put:∀ p∈([(Z1,false),(Z2,true),(Z3,false),(Z4,false),(Z5,false)]:List (Mg×Bool)),InsAsk K p.1/\Nq K (.ref p.1) (.ref Z2)=some p.2
 xm_Strike:mg "Strike"=some (.ref Z3)
 ik_Strike:∀ p∈([(Z1,false),(Z2,false),(Z3,true),(Z4,false),(Z5,false)]:List (Mg×Bool)),InsAsk K p.1/\Nq K (.ref p.1) (.ref Z3)=some p.2
section
variable{P:Mw}{w:ME}{K:PySem.W.Frag}{mg:Str->Option Mh}{base:MG}{Z1 Z2 Z3 Z4 Z5 Q4:Mg}
theorem rq{f:Mg}{fd:Mr}(F:Fun3 K "_law_cell_at" "_law_cell_at" iX f fd)(T:Tx K mg Z1 Z2 Z3 Z4 Z5 Q4) 
  : FnOk P w K mg base cU 1 f fd ["_law_script","_law_k"] (ax K (bM Z1 Z2 Z3 Z4 Z5 Q4 (ai P w))):=by
 refine Fun3.ok3 F qZ qm (fun cdv A outer s H E hr=>⟨ft Z1 Z2 Z3 Z4 Z5 Q4 (ai P w),?_,pY _ _ _ _ _ _ _⟩);have hu8:=u8 hr;have hu4:=u4 hr;unfold ft;exact (au (f_ (AL Fh (aq 1) (bZ b_len (by rfl) T.b_len PySem.boot_len (aa (aq 0) al)) (bP _)) (ay (aV (dD (aq 0) (aq 1)))) eu)
   (ay (aV aw)))
theorem u_{f:Mg}{fd:Mr}(F:Fun3 K "_law_mixed" "_law_mixed" jO f fd)(T:Tx K mg Z1 Z2 Z3 Z4 Z5 Q4) 
  : FnOk P w K mg base cU 1 f fd ["_law_cell","_law_k"] (ax K (bd Z1 Z2 Z3 Z4 Z5 Q4 (ai P w))):=by
 refine Fun3.ok3 F mL tS (fun cdv A outer s H E hr=>⟨gR Z1 Z2 Z3 Z4 Z5 Q4 (ai P w),?_,sO _ _ _ _ _ _ _⟩);have hu8:=u8 hr;have hu4:=u4 hr;unfold gR;exact (au (bb (i:=2) mL.nd rfl (by walk_at "i") (aY dy (aY r_ (aY dU (aY dU (aq 0) (aY r_ aw (aq 1))) aw) aw) aw))
   (ay (aV (aY dy (aY r_ (aq 2) (aY dU (aY iB (aq 2) aw) aw)) aw))))
theorem u7{f:Mg}{fd:Mr}(F:Fun3 K "_law_signs" "_law_signs" jM f fd)(T:Tx K mg Z1 Z2 Z3 Z4 Z5 Q4) 
  : FnOk P w K mg base cU 1 f fd ["_law_number","_law_many"] (ax K (bV Z1 Z2 Z3 Z4 Z5 Q4 (ai P w))):=by
 refine Fun3.ok3 F dq tQ (fun cdv A outer s H E hr=>⟨gP Z1 Z2 Z3 Z4 Z5 Q4 (ai P w),?_,sM _ _ _ _ _ _ _⟩);have hu8:=u8 hr;have hu4:=u4 hr;unfold gP;exact (au (bb (i:=2) dq.nd rfl (by walk_at "i") e_)
   (au (bb (i:=2) dq.nd rfl (by walk_at "i") (aY dU (aq 2) e_))
   (au (bb (i:=3) dq.nd rfl (by walk_at "i") e_)
   (au (jl MM rfl (zI (by rfl) T.b_range (aa (aq 1) al)) (bo (i:=4) dq.nd rfl (by walk_at "i")) (au (bb (i:=0) dq.nd rfl (by walk_at "i") (aY dy (aY dU (aY r_ (aq 0) aw) aw) aw))
   (ay (bb (i:=3) dq.nd rfl (by walk_at "i") (aY dU (aq 3) (dD (aq 2) (aY dy (aq 0) aw)))))))
   (ay (aV (aq 3)))))))
theorem y9{f:Mg}{fd:Mr}(F:Fun3 K "_law_old" "_law_old" m8 f fd)(T:Tx K mg Z1 Z2 Z3 Z4 Z5 Q4)(Rq:Fn3 P w K mg base 1 "_law_mixed" [] (bd Z1 Z2 Z3 Z4 Z5 Q4 (ai P w)))(Rz:Fn3 P w K mg base 1 "_law_signs" [] (bV Z1 Z2 Z3 Z4 Z5 Q4 (ai P w)))
  : FnOk P w K mg base cU 2 f fd ["_law_cell"] (ax K (dI Z1 Z2 Z3 Z4 Z5 Q4 (ai P w))):=by
 refine Fun3.ok3 F qK xM (fun cdv A outer s H E hr=>⟨jj Z1 Z2 Z3 Z4 Z5 Q4 (ai P w),?_,wW _ _ _ _ _ _ _⟩);have hu8:=u8 hr;have hu4:=u4 hr;unfold jj;exact (au (bb (i:=1) qK.nd rfl (by walk_at "i") (aH Rq (hr.mono (by decide)) (by rfl) (aa (aq 0) (aa aw al))))
   (ay (aV (aH Rz (hr.mono (by decide)) (by rfl) (aa (aq 1) (aa (dD (mO (aa aw (aa aw (aa (aY dy (aY iB (aq 1) aw) aw) (aa (aY dy (aY iB (aq 1) aw) aw) al))))) (aY dy (aq 1) aw)) al))))))
theorem xu{f:Mg}{fd:Mr}(F:Fun3 K "_law_pens" "_law_pens" lh f fd)(T:Tx K mg Z1 Z2 Z3 Z4 Z5 Q4) 
  : FnOk P w K mg base cU 1 f fd ["_law_cell"] (ax K (c8 Z1 Z2 Z3 Z4 Z5 Q4 (ai P w))):=by
 refine Fun3.ok3 F eG vD (fun cdv A outer s H E hr=>⟨iO Z1 Z2 Z3 Z4 Z5 Q4 (ai P w),?_,uV _ _ _ _ _ _ _⟩);have hu8:=u8 hr;have hu4:=u4 hr;unfold iO;exact (au (bb (i:=1) eG.nd rfl (by walk_at "i") (aY dU aw (aY dy (aq 0) aw)))
   (au (bb (i:=2) eG.nd rfl (by walk_at "i") (aY dy (aY iB (aq 0) aw) (aq 1)))
   (au (yR (i:=3) eG.nd rfl (by walk_at "i") (mO al))
   (au (jl MM rfl (zI (by rfl) T.b_range (aa (aY dU aw (aY dy (aY iB (aq 0) aw) aw)) al)) (bo (i:=4) eG.nd rfl (by walk_at "i")) (au (bb (i:=5) eG.nd rfl (by walk_at "i") (dD e_ (aY dy (aY dU (aY iB (aq 0) aw) (aY r_ (aq 4) (aY dU aw (aY dy (aY iB (aq 0) aw) aw)))) aw)))
   (ay (b_ (lD (aq 3) (aa (aY dU (aY dU (aY r_ e_ (aq 2)) (aq 5)) (aY r_ e_ (aY yz (aY yz (aq 1) aw) (aq 2)))) al))))))
   (ay (sX (i:=3) rfl (by first|exact Or.inl rfl|exact Or.inr (Or.inl rfl))))))))
theorem u6{f:Mg}{fd:Mr}(F:Fun3 K "lay_behind" "lay_behind" jL f fd)(T:Tx K mg Z1 Z2 Z3 Z4 Z5 Q4) 
  : FnOk P w K mg base cU 1 f fd ["following","anchor","slots"] (ax K (cr Z1 Z2 Z3 Z4 Z5 Q4 (ai P w))):=by
 refine Fun3.ok3 F gK tP (fun cdv A outer s H E hr=>⟨gO Z1 Z2 Z3 Z4 Z5 Q4 (ai P w),?_,sL _ _ _ _ _ _ _⟩);have hu8:=u8 hr;have hu4:=u4 hr;unfold gO;exact (au (bb (i:=3) gK.nd rfl (by walk_at "i") (aq 1))
   (ay (jl MM rfl (fj (aq 2)) (bo (i:=4) gK.nd rfl (by walk_at "i")) (au (iw hu8 (aq 0) (aq 4) (qL hu8 (aq 0) (aq 3)))
   (au (iw hu8 (aq 0) (aq 3) (aq 4))
   (ay (bb (i:=3) gK.nd rfl (by walk_at "i") (aq 4))))))))
theorem u5{f:Mg}{fd:Mr}(F:Fun3 K "slots_made" "slots_made" jK f fd)(T:Tx K mg Z1 Z2 Z3 Z4 Z5 Q4) 
  : FnOk P w K mg base cU 1 f fd ["name","how_many"] (ax K (bx Z1 Z2 Z3 Z4 Z5 Q4 (ai P w))):=by
 refine Fun3.ok3 F uH tO (fun cdv A outer s H E hr=>⟨gM Z1 Z2 Z3 Z4 Z5 Q4 (ai P w),?_,sK _ _ _ _ _ _ _⟩);have hu8:=u8 hr;have hu4:=u4 hr;unfold gM;exact (ay (aV (ix (T:=["k"]) (M:=["name","how_many"]) (bJ rfl (by kernel_rfl)) (fun cl C s₀ H₀ fp=>⟨(bo (i:=0) rG rfl (by walk_at "i")),ic,(aY dU (aq 1) (i6 (aa (aq 0) al)))⟩) (zH (by rfl) T.b_range (aa aw (aa (aY dU (aq 1) aw) al))))))
theorem xn{f:Mg}{fd:Mr}(F:Fun3 K "old_slots" "old_slots" kY f fd)(T:Tx K mg Z1 Z2 Z3 Z4 Z5 Q4)(Rs:Fn3 P w K mg base 1 "slots_made" [] (bx Z1 Z2 Z3 Z4 Z5 Q4 (ai P w)))
  : FnOk P w K mg base cU 2 f fd ["old"] (ax K (cq Z1 Z2 Z3 Z4 Z5 Q4 (ai P w))):=by
 refine Fun3.ok3 F wO vt (fun cdv A outer s H E hr=>⟨iJ Z1 Z2 Z3 Z4 Z5 Q4 (ai P w),?_,uP _ _ _ _ _ _ _⟩);have hu8:=u8 hr;have hu4:=u4 hr;unfold iJ;exact (ay (aV (aH Rs (hr.mono (by decide)) (by rfl) (aa (xi Hj (dE (by rfl) T.k_START) Eh (xz aw)) (aa (bZ b_len (by rfl) T.b_len PySem.boot_len (aa (aq 0) al)) al)))))
theorem oF{f:Mg}{fd:Mr}(F:Fun3 K "place_in_order" "place_in_order" gl f fd)(T:Tx K mg Z1 Z2 Z3 Z4 Z5 Q4) 
  : FnOk P w K mg base cU 1 f fd ["row"] (ax K (bc Z1 Z2 Z3 Z4 Z5 Q4 (ai P w))):=by
 refine Fun3.ok3 F nZ nI (fun cdv A outer s H E hr=>⟨dY Z1 Z2 Z3 Z4 Z5 Q4 (ai P w),?_,nh _ _ _ _ _ _ _⟩);have hu8:=u8 hr;have hu4:=u4 hr;unfold dY;exact (ay (aV (i6 (aa (dD (aq 0) aw) (aa (dD (aq 0) aw) al)))))
theorem y8{f:Mg}{fd:Mr}(F:Fun3 K "in_order" "in_order" m7 f fd)(T:Tx K mg Z1 Z2 Z3 Z4 Z5 Q4)(RN:Fn3 P w K mg base 1 "place_in_order" [] (bc Z1 Z2 Z3 Z4 Z5 Q4 (ai P w)))
  : FnOk P w K mg base cU 4 f fd ["rows"] (ax K (cL Z1 Z2 Z3 Z4 Z5 Q4 (ai P w))):=by
 refine Fun3.ok3 F kQ xL (fun cdv A outer s H E hr=>⟨ji Z1 Z2 Z3 Z4 Z5 Q4 (ai P w),?_,wV _ _ _ _ _ _ _⟩);have hu8:=u8 hr;have hu4:=u4 hr;unfold ji;exact (au (bb (i:=1) kQ.nd rfl (by walk_at "i") p8)
   (au (HF MM rfl (aq 0) (bo (i:=2) kQ.nd rfl (by walk_at "i")) (ay (iw hu8 (aq 1) (dD (aq 2) aw) (aq 2))))
   (ay (aV (FV RN (hr.mono (by decide)) rfl (by rfl) (by rfl) T.b_sorted (aq 1))))))
theorem nA{f:Mg}{fd:Mr}(F:Fun3 K "__init__" "Stroke.__init__" dX f fd)(T:Tx K mg Z1 Z2 Z3 Z4 Z5 Q4) 
  : FnOk P w K mg base cU 1 f fd ["self","name","time"] (ax K (aG Z1 Z2 Z3 Z4 Z5 Q4 (ai P w))):=by
 refine Fun3.ok3 F mZ mG (fun cdv A outer s H E hr=>⟨dM Z1 Z2 Z3 Z4 Z5 Q4 (ai P w),?_,mx _ _ _ _ _ _ _⟩);have hu8:=u8 hr;have hu4:=u4 hr;unfold dM;exact (au (i5 T.fa_name (aq 0) (aq 1))
   (au (i5 T.fa_time (aq 0) (aq 2))
   (au (i5 T.fa_anchor (aq 0) (dE (by rfl) T.k_START))
   (ay (i5 T.fa_names (aq 0) (i6 al))))))
theorem rA{f:Mg}{fd:Mr}(F:Fun3 K "__init__" "Put.__init__" iY f fd)(T:Tx K mg Z1 Z2 Z3 Z4 Z5 Q4)(Q7:Cf3 P w K mg base 1 "Stroke" "__init__" [] (aG Z1 Z2 Z3 Z4 Z5 Q4 (ai P w)))
  : FnOk P w K mg base cU 2 f fd ["self","name","time","anchor","signs"] (ax K (bz Z1 Z2 Z3 Z4 Z5 Q4 (ai P w))):=by
 refine Fun3.ok3 F rf qp (fun cdv A outer s H E hr=>⟨fw Z1 Z2 Z3 Z4 Z5 Q4 (ai P w),?_,p3 _ _ _ _ _ _ _⟩);have hu8:=u8 hr;have hu4:=u4 hr;unfold fw;exact (au (b_ (l8 Q7 (hr.mono (by decide)) (by rfl) (aa (aq 0) (aa (aq 1) (aa (aq 2) al)))))
   (au (i5 T.fa_anchor (aq 0) (aq 3))
   (ay (i5 T.fa_signs (aq 0) (aq 4)))))
theorem nB{f:Mg}{fd:Mr}(F:Fun3 K "__init__" "Strike.__init__" fM f fd)(T:Tx K mg Z1 Z2 Z3 Z4 Z5 Q4)(Q7:Cf3 P w K mg base 1 "Stroke" "__init__" [] (aG Z1 Z2 Z3 Z4 Z5 Q4 (ai P w)))
  : FnOk P w K mg base cU 2 f fd ["self","name","time","names"] (ax K (aX Z1 Z2 Z3 Z4 Z5 Q4 (ai P w))):=by
 refine Fun3.ok3 F m4 mH (fun cdv A outer s H E hr=>⟨dN Z1 Z2 Z3 Z4 Z5 Q4 (ai P w),?_,my _ _ _ _ _ _ _⟩);have hu8:=u8 hr;have hu4:=u4 hr;unfold dN;exact (au (b_ (l8 Q7 (hr.mono (by decide)) (by rfl) (aa (aq 0) (aa (aq 1) (aa (aq 2) al)))))
   (ay (i5 T.fa_names (aq 0) (aq 3))))
theorem oK{f:Mg}{fd:Mr}(F:Fun3 K "__init__" "Dress.__init__" gv f fd)(T:Tx K mg Z1 Z2 Z3 Z4 Z5 Q4)(Q7:Cf3 P w K mg base 1 "Stroke" "__init__" [] (aG Z1 Z2 Z3 Z4 Z5 Q4 (ai P w)))
  : FnOk P w K mg base cU 2 f fd ["self","name","time","names","word"] (ax K (bg Z1 Z2 Z3 Z4 Z5 Q4 (ai P w))):=by
 refine Fun3.ok3 F on nN (fun cdv A outer s H E hr=>⟨d7 Z1 Z2 Z3 Z4 Z5 Q4 (ai P w),?_,nq _ _ _ _ _ _ _⟩);have hu8:=u8 hr;have hu4:=u4 hr;unfold d7;exact (au (b_ (l8 Q7 (hr.mono (by decide)) (by rfl) (aa (aq 0) (aa (aq 1) (aa (aq 2) al)))))
   (au (i5 T.fa_names (aq 0) (aq 3))
   (ay (i5 T.fa_word (aq 0) (aq 4)))))
theorem qh{f:Mg}{fd:Mr}(F:Fun3 K "__init__" "Move.__init__" ir f fd)(T:Tx K mg Z1 Z2 Z3 Z4 Z5 Q4)(Q7:Cf3 P w K mg base 1 "Stroke" "__init__" [] (aG Z1 Z2 Z3 Z4 Z5 Q4 (ai P w)))
  : FnOk P w K mg base cU 2 f fd ["self","name","time","names","anchor"] (ax K (br Z1 Z2 Z3 Z4 Z5 Q4 (ai P w))):=by
 refine Fun3.ok3 F pQ o_ (fun cdv A outer s H E hr=>⟨eQ Z1 Z2 Z3 Z4 Z5 Q4 (ai P w),?_,oC _ _ _ _ _ _ _⟩);have hu8:=u8 hr;have hu4:=u4 hr;unfold eQ;exact (au (b_ (l8 Q7 (hr.mono (by decide)) (by rfl) (aa (aq 0) (aa (aq 1) (aa (aq 2) al)))))
   (au (i5 T.fa_names (aq 0) (aq 3))
   (ay (i5 T.fa_anchor (aq 0) (aq 4)))))
theorem xm{f:Mg}{fd:Mr}(F:Fun3 K "stroke_of" "stroke_of" kX f fd)(T:Tx K mg Z1 Z2 Z3 Z4 Z5 Q4)(Sw:Mk3 P w K mg base 2 "Dress" Z4 [] (bg Z1 Z2 Z3 Z4 Z5 Q4 (ai P w)))(SU:Mk3 P w K mg base 2 "Move" Z5 [] (br Z1 Z2 Z3 Z4 Z5 Q4 (ai P w)))(TC:Mk3 P w K mg base 2 "Put" Z2 [] (bz Z1 Z2 Z3 Z4 Z5 Q4 (ai P w)))(Sd:Mk3 P w K mg base 2 "Strike" Z3 [] (aX Z1 Z2 Z3 Z4 Z5 Q4 (ai P w)))
  : FnOk P w K mg base cU 4 f fd ["row"] (ax K (cn Z1 Z2 Z3 Z4 Z5 Q4 (ai P w))):=by
 refine Fun3.ok3 F iF vq (fun cdv A outer s H E hr=>⟨iI Z1 Z2 Z3 Z4 Z5 Q4 (ai P w),?_,uO _ _ _ _ _ _ _⟩);have hu8:=u8 hr;have hu4:=u4 hr;unfold iI;exact (au (bb (i:=1) iF.nd rfl (by walk_at "i") (dD (aq 0) aw))
   (au (bb (i:=2) iF.nd rfl (by walk_at "i") (dD (aq 0) aw))
   (au (bb (i:=3) iF.nd rfl (by walk_at "i") (dD (aq 0) aw))
   (au (f_ (bO (jy hu8) (dD (aq 3) aw) e_ (bP _)) (ay (aV (j6 TC (hr.mono (by decide)) (by rfl) (aa (aq 1) (aa (aq 2) (aa (dD (aq 3) aw) (aa (dD (aq 3) aw) al))))))) eu)
   (au (f_ (bO (jy hu8) (dD (aq 3) aw) e_ (bP _)) (ay (aV (j6 Sd (hr.mono (by decide)) (by rfl) (aa (aq 1) (aa (aq 2) (aa (dD (aq 3) aw) al)))))) eu)
   (au (f_ (bO (jy hu8) (dD (aq 3) aw) e_ (bP _)) (ay (aV (j6 Sw (hr.mono (by decide)) (by rfl) (aa (aq 1) (aa (aq 2) (aa (dD (aq 3) aw) (aa (dD (aq 3) aw) al))))))) eu)
   (ay (aV (j6 SU (hr.mono (by decide)) (by rfl) (aa (aq 1) (aa (aq 2) (aa (dD (aq 3) aw) (aa (dD (aq 3) aw) al)))))))))))))
theorem AS{f:Mg}{fd:Mr}(F:Fun3 K "chained" "chained" pT f fd)(T:Tx K mg Z1 Z2 Z3 Z4 Z5 Q4) 
  : FnOk P w K mg base cU 1 f fd ["following"] (ax K (ee Z1 Z2 Z3 Z4 Z5 Q4 (ai P w))):=by
 refine Fun3.ok3 F jI zp (fun cdv A outer s H E hr=>⟨jY Z1 Z2 Z3 Z4 Z5 Q4 (ai P w),?_,yN _ _ _ _ _ _ _⟩);have hu8:=u8 hr;have hu4:=u4 hr;unfold jY;exact (au (yR (i:=1) jI.nd rfl (by walk_at "i") (mO al))
   (au (bb (i:=2) jI.nd rfl (by walk_at "i") (qL hu8 (aq 0) (dE (by rfl) T.k_START)))
   (au (FB MM (AL Hl (aq 2) Ed (bP _)) (au (b_ (lD (aq 1) (aa (aq 2) al)))
   (ay (bb (i:=2) jI.nd rfl (by walk_at "i") (qL hu8 (aq 0) (aq 2))))))
   (ay (sX (i:=1) rfl (by first|exact Or.inl rfl|exact Or.inr (Or.inl rfl)))))))
theorem iz{f:Mg}{fd:Mr}(F:Fun3 K "slots" "Stroke.slots" eh f fd)(T:Tx K mg Z1 Z2 Z3 Z4 Z5 Q4) 
  : FnOk P w K mg base cU 1 f fd ["self"] (ax K (ar Z1 Z2 Z3 Z4 Z5 Q4 (ai P w))):=by
 refine Fun3.ok3 F q_ qo (fun cdv A outer s H E hr=>⟨fu Z1 Z2 Z3 Z4 Z5 Q4 (ai P w),?_,pZ _ _ _ _ _ _ _⟩);have hu8:=u8 hr;have hu4:=u4 hr;unfold fu;exact (ay (aV (mO al)))
theorem xv{f:Mg}{fd:Mr}(F:Fun3 K "slots" "Put.slots" lq f fd)(T:Tx K mg Z1 Z2 Z3 Z4 Z5 Q4)(Rs:Fn3 P w K mg base 1 "slots_made" [] (bx Z1 Z2 Z3 Z4 Z5 Q4 (ai P w)))
  : FnOk P w K mg base cU 2 f fd ["self"] (ax K (a_ Z1 Z2 Z3 Z4 Z5 Q4 (ai P w))):=by
 refine Fun3.ok3 F wS vE (fun cdv A outer s H E hr=>⟨iP Z1 Z2 Z3 Z4 Z5 Q4 (ai P w),?_,uW _ _ _ _ _ _ _⟩);have hu8:=u8 hr;have hu4:=u4 hr;unfold iP;exact (ay (aV (aH Rs (hr.mono (by decide)) (by rfl) (aa (bY T.fa_name (aq 0)) (aa (bZ b_len (by rfl) T.b_len PySem.boot_len (aa (bY T.fa_signs (aq 0)) al)) al)))))
theorem vh{f:Mg}{fd:Mr}(F:Fun3 K "slots" "Move.slots" jV f fd)(T:Tx K mg Z1 Z2 Z3 Z4 Z5 Q4)(Rs:Fn3 P w K mg base 1 "slots_made" [] (bx Z1 Z2 Z3 Z4 Z5 Q4 (ai P w)))
  : FnOk P w K mg base cU 2 f fd ["self"] (ax K (aP Z1 Z2 Z3 Z4 Z5 Q4 (ai P w))):=by
 refine Fun3.ok3 F uN tZ (fun cdv A outer s H E hr=>⟨g6 Z1 Z2 Z3 Z4 Z5 Q4 (ai P w),?_,sV _ _ _ _ _ _ _⟩);have hu8:=u8 hr;have hu4:=u4 hr;unfold g6;exact (ay (aV (aH Rs (hr.mono (by decide)) (by rfl) (aa (bY T.fa_name (aq 0)) (aa (bZ b_len (by rfl) T.b_len PySem.boot_len (aa (bY T.fa_names (aq 0)) al)) al)))))
theorem y6{f:Mg}{fd:Mr}(F:Fun3 K "slots_of" "slots_of" m6 f fd)(T:Tx K mg Z1 Z2 Z3 Z4 Z5 Q4)(SV:Fn3 P w K mg base 1 "chained" [] (ee Z1 Z2 Z3 Z4 Z5 Q4 (ai P w)))(RT:Fn3 P w K mg base 4 "in_order" [] (cL Z1 Z2 Z3 Z4 Z5 Q4 (ai P w)))(R1:Fn3 P w K mg base 1 "lay_behind" [] (cr Z1 Z2 Z3 Z4 Z5 Q4 (ai P w)))(RH:Fn3 P w K mg base 2 "old_slots" [] (cq Z1 Z2 Z3 Z4 Z5 Q4 (ai P w)))(RF:Fn3 P w K mg base 4 "stroke_of" [] (cn Z1 Z2 Z3 Z4 Z5 Q4 (ai P w)))(Q8:Mt3 P w K mg base 1 Z1 "slots" [] (ar Z1 Z2 Z3 Z4 Z5 Q4 (ai P w)))(Rk:Mt3 P w K mg base 2 Z2 "slots" [] (a_ Z1 Z2 Z3 Z4 Z5 Q4 (ai P w)))(Q9:Mt3 P w K mg base 1 Z3 "slots" [] (ar Z1 Z2 Z3 Z4 Z5 Q4 (ai P w)))(Ra:Mt3 P w K mg base 1 Z4 "slots" [] (ar Z1 Z2 Z3 Z4 Z5 Q4 (ai P w)))(Rg:Mt3 P w K mg base 2 Z5 "slots" [] (aP Z1 Z2 Z3 Z4 Z5 Q4 (ai P w)))
  : FnOk P w K mg base cU 5 f fd ["old","strokes"] (ax K (dH Z1 Z2 Z3 Z4 Z5 Q4 (ai P w))):=by
 refine Fun3.ok3 F kP xK (fun cdv A outer s H E hr=>⟨jh Z1 Z2 Z3 Z4 Z5 Q4 (ai P w),?_,wU _ _ _ _ _ _ _⟩);have hu8:=u8 hr;have hu4:=u4 hr;unfold jh;exact (au (bb (i:=2) kP.nd rfl (by walk_at "i") (FY hu8 (dE (by rfl) T.k_START) Ed))
   (au (b_ (aH R1 (hr.mono (by decide)) (by rfl) (aa (aq 2) (aa (dE (by rfl) T.k_START) (aa (aH RH (hr.mono (by decide)) (by rfl) (aa (aq 0) al)) al)))))
   (au (jl MM rfl (fj (ix (T:=["row"]) (M:=["old","strokes","following","stroke"]) (bJ rfl (by kernel_rfl)) (fun cl C s₀ H₀ fp=>⟨(bo (i:=0) vp rfl (by walk_at "i")),ic,(aH RF (hr.mono (by decide)) (by rfl) (aa (aq 0) al))⟩) (fj (aH RT (hr.mono (by decide)) (by rfl) (aa (aq 1) al))))) (bo (i:=3) kP.nd rfl (by walk_at "i")) (ay (f_ (AK hu8 (bY T.fa_anchor (aq 3)) (aq 2)) (ay (b_ (aH R1 (hr.mono (by decide)) (by rfl) (aa (aq 2) (aa (bY T.fa_anchor (aq 3)) (aa (hX (k:=2) (all_cons ⟨_,(by decide),Q8⟩ (all_cons ⟨_,(by decide),Rk⟩ (all_cons ⟨_,(by decide),Q9⟩ (all_cons ⟨_,(by decide),Ra⟩ (all_cons ⟨_,(by decide),Rg⟩ (fun _ h=>nomatch h)))))) (hr.mono (by decide)) (aq 3)) al)))))) eu)))
   (ay (aV (aH SV (hr.mono (by decide)) (by rfl) (aa (aq 2) al)))))))
theorem Ct{f:Mg}{fd:Mr}(F:Fun3 K "marked" "marked" sE f fd)(T:Tx K mg Z1 Z2 Z3 Z4 Z5 Q4) 
  : FnOk P w K mg base cU 1 f fd ["keys"] (ax K (dR Z1 Z2 Z3 Z4 Z5 Q4 (ai P w))):=by
 refine Fun3.ok3 F Cd A3 (fun cdv A outer s H E hr=>⟨l6 Z1 Z2 Z3 Z4 Z5 Q4 (ai P w),?_,Aw _ _ _ _ _ _ _⟩);have hu8:=u8 hr;have hu4:=u4 hr;unfold l6;exact (ay (aV (FX hu8 rfl (by rfl) T.b_dict (ix (T:=["key"]) (M:=["keys"]) (bJ rfl (by kernel_rfl)) (fun cl C s₀ H₀ fp=>⟨(bo (i:=0) zg rfl (by walk_at "i")),ic,(i6 (aa (aq 0) (aa Cr al)))⟩) (fj (aq 0))))))
theorem xo{f:Mg}{fd:Mr}(F:Fun3 K "is_placed" "is_placed" kZ f fd)(T:Tx K mg Z1 Z2 Z3 Z4 Z5 Q4)(Q8:Mt3 P w K mg base 1 Z1 "slots" [] (ar Z1 Z2 Z3 Z4 Z5 Q4 (ai P w)))(Rk:Mt3 P w K mg base 2 Z2 "slots" [] (a_ Z1 Z2 Z3 Z4 Z5 Q4 (ai P w)))(Q9:Mt3 P w K mg base 1 Z3 "slots" [] (ar Z1 Z2 Z3 Z4 Z5 Q4 (ai P w)))(Ra:Mt3 P w K mg base 1 Z4 "slots" [] (ar Z1 Z2 Z3 Z4 Z5 Q4 (ai P w)))(Rg:Mt3 P w K mg base 2 Z5 "slots" [] (aP Z1 Z2 Z3 Z4 Z5 Q4 (ai P w)))
  : FnOk P w K mg base cU 3 f fd ["stroke","in_row"] (ax K (cY Z1 Z2 Z3 Z4 Z5 Q4 (ai P w))):=by
 refine Fun3.ok3 F wP vy (fun cdv A outer s H E hr=>⟨iK Z1 Z2 Z3 Z4 Z5 Q4 (ai P w),?_,uQ _ _ _ _ _ _ _⟩);have hu8:=u8 hr;have hu4:=u4 hr;unfold iK;exact (ay (aV (bZ (E2 rfl) (by rfl) T.b_all PyProof.Rows.boot_all (aa (ix (T:=["slot"]) (M:=["stroke","in_row"]) (bJ rfl (by kernel_rfl)) (fun cl C s₀ H₀ fp=>⟨(bo (i:=0) tH rfl (by walk_at "i")),ic,(J2 hu8 (aq 0) (aq 2))⟩) (fj (hX (k:=2) (all_cons ⟨_,(by decide),Q8⟩ (all_cons ⟨_,(by decide),Rk⟩ (all_cons ⟨_,(by decide),Q9⟩ (all_cons ⟨_,(by decide),Ra⟩ (all_cons ⟨_,(by decide),Rg⟩ (fun _ h=>nomatch h)))))) (hr.mono (by decide)) (aq 0)))) al))))
theorem xp{f:Mg}{fd:Mr}(F:Fun3 K "effective" "effective" k9 f fd)(T:Tx K mg Z1 Z2 Z3 Z4 Z5 Q4)(RT:Fn3 P w K mg base 4 "in_order" [] (cL Z1 Z2 Z3 Z4 Z5 Q4 (ai P w)))(So:Fn3 P w K mg base 3 "is_placed" [] (cY Z1 Z2 Z3 Z4 Z5 Q4 (ai P w)))(Sf:Fn3 P w K mg base 1 "marked" [] (dR Z1 Z2 Z3 Z4 Z5 Q4 (ai P w)))(RF:Fn3 P w K mg base 4 "stroke_of" [] (cn Z1 Z2 Z3 Z4 Z5 Q4 (ai P w)))
  : FnOk P w K mg base cU 5 f fd ["strokes","standing","in_row"] (ax K (cZ Z1 Z2 Z3 Z4 Z5 Q4 (ai P w))):=by
 refine Fun3.ok3 F jH vz (fun cdv A outer s H E hr=>⟨iL Z1 Z2 Z3 Z4 Z5 Q4 (ai P w),?_,uR _ _ _ _ _ _ _⟩);have hu8:=u8 hr;have hu4:=u4 hr;unfold iL;exact (au (bb (i:=3) jH.nd rfl (by walk_at "i") (aH Sf (hr.mono (by decide)) (by rfl) (aa (aq 1) al)))
   (au (DN (T:=["row"]) (M:=["strokes","standing","in_row","stands","chosen"]) (i:=4) (bJ rfl (by kernel_rfl)) jH.nd rfl rfl (fun cl C s₀ H₀ fp=>⟨(bo (i:=0) tJ rfl (by walk_at "i")),(pH (AK hu8 (dD (aq 0) aw) (aq 4))),(aH RF (hr.mono (by decide)) (by rfl) (aa (aq 0) al))⟩) (fj (aH RT (hr.mono (by decide)) (by rfl) (aa (aq 0) al))))
   (ay (aV (ix (T:=["stroke"]) (M:=["strokes","standing","in_row","stands","chosen"]) (bJ rfl (by kernel_rfl)) (fun cl C s₀ H₀ fp=>⟨(bo (i:=0) tI rfl (by walk_at "i")),(pH (i7 (aH So (hr.mono (by decide)) (by rfl) (aa (aq 0) (aa (aq 3) al))))),(aq 0)⟩) (fj (aq 4)))))))
theorem p9{f:Mg}{fd:Mr}(F:Fun3 K "signs_brought" "signs_brought" ig f fd)(T:Tx K mg Z1 Z2 Z3 Z4 Z5 Q4)(RH:Fn3 P w K mg base 2 "old_slots" [] (cq Z1 Z2 Z3 Z4 Z5 Q4 (ai P w)))(Q8:Mt3 P w K mg base 1 Z1 "slots" [] (ar Z1 Z2 Z3 Z4 Z5 Q4 (ai P w)))(Rk:Mt3 P w K mg base 2 Z2 "slots" [] (a_ Z1 Z2 Z3 Z4 Z5 Q4 (ai P w)))(Q9:Mt3 P w K mg base 1 Z3 "slots" [] (ar Z1 Z2 Z3 Z4 Z5 Q4 (ai P w)))(Ra:Mt3 P w K mg base 1 Z4 "slots" [] (ar Z1 Z2 Z3 Z4 Z5 Q4 (ai P w)))(Rg:Mt3 P w K mg base 2 Z5 "slots" [] (aP Z1 Z2 Z3 Z4 Z5 Q4 (ai P w)))
  : FnOk P w K mg base cU 3 f fd ["old","strokes"] (ax K (bS Z1 Z2 Z3 Z4 Z5 Q4 (ai P w))):=by
 refine Fun3.ok3 F dC oV (fun cdv A outer s H E hr=>⟨eJ Z1 Z2 Z3 Z4 Z5 Q4 (ai P w),?_,oq _ _ _ _ _ _ _⟩);have hu8:=u8 hr;have hu4:=u4 hr;unfold eJ;exact (au (bb (i:=2) dC.nd rfl (by walk_at "i") (FW hu8 rfl (by rfl) T.b_dict (by rfl) T.b_zip (aa (aH RH (hr.mono (by decide)) (by rfl) (aa (aq 0) al)) (aa (aq 0) al))))
   (au (jl MM rfl (fj (aq 1)) (bo (i:=3) dC.nd rfl (by walk_at "i")) (ay (f_ (i7 (bZ (BV T.ik_Put) (by rfl) T.b_isinstance Ox (aa (aq 3) (aa (xl (by rfl) T.xm_Put) al)))) (ay (jl MM rfl (Hc (by rfl) T.b_zip (aa (hX (k:=2) (all_cons ⟨_,(by decide),Q8⟩ (all_cons ⟨_,(by decide),Rk⟩ (all_cons ⟨_,(by decide),Q9⟩ (all_cons ⟨_,(by decide),Ra⟩ (all_cons ⟨_,(by decide),Rg⟩ (fun _ h=>nomatch h)))))) (hr.mono (by decide)) (aq 3)) (aa (bY T.fa_signs (aq 3)) al))) (BN (n:=2) rfl (lQ (bo (i:=4) dC.nd rfl (by walk_at "i")) (lQ (bo (i:=5) dC.nd rfl (by walk_at "i")) BO))) (ay (iw hu8 (aq 2) (aq 4) (aq 5))))) eu)))
   (ay (aV (aq 2)))))
theorem df{f:Mg}{fd:Mr}(F:Fun3 K "touched" "Stroke.touched" ck f fd)(T:Tx K mg Z1 Z2 Z3 Z4 Z5 Q4) 
  : FnOk P w K mg base cU 1 f fd ["self"] (ax K (ah Z1 Z2 Z3 Z4 Z5 Q4 (ai P w))):=by
 refine Fun3.ok3 F n_ nJ (fun cdv A outer s H E hr=>⟨dZ Z1 Z2 Z3 Z4 Z5 Q4 (ai P w),?_,ni _ _ _ _ _ _ _⟩);have hu8:=u8 hr;have hu4:=u4 hr;unfold dZ;exact (ay (aV (jC b_list (by rfl) T.b_list PyProof.Rows.boot_list (aa (bY T.fa_names (aq 0)) al))))
theorem rp{f:Mg}{fd:Mr}(F:Fun3 K "signs_struck" "signs_struck" iW f fd)(T:Tx K mg Z1 Z2 Z3 Z4 Z5 Q4)(Rc:Mt3 P w K mg base 1 Z1 "touched" [] (ah Z1 Z2 Z3 Z4 Z5 Q4 (ai P w)))(Rp:Mt3 P w K mg base 1 Z2 "touched" [] (ah Z1 Z2 Z3 Z4 Z5 Q4 (ai P w)))(Re:Mt3 P w K mg base 1 Z3 "touched" [] (ah Z1 Z2 Z3 Z4 Z5 Q4 (ai P w)))(Ri:Mt3 P w K mg base 1 Z4 "touched" [] (ah Z1 Z2 Z3 Z4 Z5 Q4 (ai P w)))(Rl:Mt3 P w K mg base 1 Z5 "touched" [] (ah Z1 Z2 Z3 Z4 Z5 Q4 (ai P w)))
  : FnOk P w K mg base cU 2 f fd ["strokes"] (ax K (b8 Z1 Z2 Z3 Z4 Z5 Q4 (ai P w))):=by
 refine Fun3.ok3 F fo ql (fun cdv A outer s H E hr=>⟨fq Z1 Z2 Z3 Z4 Z5 Q4 (ai P w),?_,pX _ _ _ _ _ _ _⟩);have hu8:=u8 hr;have hu4:=u4 hr;unfold fq;exact (au (bb (i:=1) fo.nd rfl (by walk_at "i") p8)
   (au (jl MM rfl (fj (aq 0)) (bo (i:=2) fo.nd rfl (by walk_at "i")) (ay (f_ (i7 (bZ (BV T.ik_Strike) (by rfl) T.b_isinstance Ox (aa (aq 2) (aa (xl (by rfl) T.xm_Strike) al)))) (ay (jl MM rfl (fj (hX (k:=1) (all_cons ⟨_,(by decide),Rc⟩ (all_cons ⟨_,(by decide),Rp⟩ (all_cons ⟨_,(by decide),Re⟩ (all_cons ⟨_,(by decide),Ri⟩ (all_cons ⟨_,(by decide),Rl⟩ (fun _ h=>nomatch h)))))) (hr.mono (by decide)) (aq 2))) (bo (i:=3) fo.nd rfl (by walk_at "i")) (ay (iw hu8 (aq 1) (aq 3) Cr)))) eu)))
   (ay (aV (aq 1)))))
theorem tq{f:Mg}{fd:Mr}(F:Fun3 K "slots_taken" "slots_taken" jr f fd)(T:Tx K mg Z1 Z2 Z3 Z4 Z5 Q4)(Q8:Mt3 P w K mg base 1 Z1 "slots" [] (ar Z1 Z2 Z3 Z4 Z5 Q4 (ai P w)))(Rk:Mt3 P w K mg base 2 Z2 "slots" [] (a_ Z1 Z2 Z3 Z4 Z5 Q4 (ai P w)))(Q9:Mt3 P w K mg base 1 Z3 "slots" [] (ar Z1 Z2 Z3 Z4 Z5 Q4 (ai P w)))(Ra:Mt3 P w K mg base 1 Z4 "slots" [] (ar Z1 Z2 Z3 Z4 Z5 Q4 (ai P w)))(Rg:Mt3 P w K mg base 2 Z5 "slots" [] (aP Z1 Z2 Z3 Z4 Z5 Q4 (ai P w)))(Rc:Mt3 P w K mg base 1 Z1 "touched" [] (ah Z1 Z2 Z3 Z4 Z5 Q4 (ai P w)))(Rp:Mt3 P w K mg base 1 Z2 "touched" [] (ah Z1 Z2 Z3 Z4 Z5 Q4 (ai P w)))(Re:Mt3 P w K mg base 1 Z3 "touched" [] (ah Z1 Z2 Z3 Z4 Z5 Q4 (ai P w)))(Ri:Mt3 P w K mg base 1 Z4 "touched" [] (ah Z1 Z2 Z3 Z4 Z5 Q4 (ai P w)))(Rl:Mt3 P w K mg base 1 Z5 "touched" [] (ah Z1 Z2 Z3 Z4 Z5 Q4 (ai P w)))
  : FnOk P w K mg base cU 3 f fd ["strokes"] (ax K (cz Z1 Z2 Z3 Z4 Z5 Q4 (ai P w))):=by
 refine Fun3.ok3 F eg rK (fun cdv A outer s H E hr=>⟨fO Z1 Z2 Z3 Z4 Z5 Q4 (ai P w),?_,rh _ _ _ _ _ _ _⟩);have hu8:=u8 hr;have hu4:=u4 hr;unfold fO;exact (au (bb (i:=1) eg.nd rfl (by walk_at "i") p8)
   (au (jl MM rfl (fj (aq 0)) (bo (i:=2) eg.nd rfl (by walk_at "i")) (ay (f_ (i7 (bZ (BV T.ik_Move) (by rfl) T.b_isinstance Ox (aa (aq 2) (aa (xl (by rfl) T.xm_Move) al)))) (ay (jl MM rfl (Hc (by rfl) T.b_zip (aa (hX (k:=1) (all_cons ⟨_,(by decide),Rc⟩ (all_cons ⟨_,(by decide),Rp⟩ (all_cons ⟨_,(by decide),Re⟩ (all_cons ⟨_,(by decide),Ri⟩ (all_cons ⟨_,(by decide),Rl⟩ (fun _ h=>nomatch h)))))) (hr.mono (by decide)) (aq 2)) (aa (hX (k:=2) (all_cons ⟨_,(by decide),Q8⟩ (all_cons ⟨_,(by decide),Rk⟩ (all_cons ⟨_,(by decide),Q9⟩ (all_cons ⟨_,(by decide),Ra⟩ (all_cons ⟨_,(by decide),Rg⟩ (fun _ h=>nomatch h)))))) (hr.mono (by decide)) (aq 2)) al))) (BN (n:=2) rfl (lQ (bo (i:=3) eg.nd rfl (by walk_at "i")) (lQ (bo (i:=4) eg.nd rfl (by walk_at "i")) BO))) (ay (iw hu8 (aq 1) (aq 3) (aq 4))))) eu)))
   (ay (aV (aq 1)))))
theorem u0{f:Mg}{fd:Mr}(F:Fun3 K "words_worn" "words_worn" jJ f fd)(T:Tx K mg Z1 Z2 Z3 Z4 Z5 Q4)(Rc:Mt3 P w K mg base 1 Z1 "touched" [] (ah Z1 Z2 Z3 Z4 Z5 Q4 (ai P w)))(Rp:Mt3 P w K mg base 1 Z2 "touched" [] (ah Z1 Z2 Z3 Z4 Z5 Q4 (ai P w)))(Re:Mt3 P w K mg base 1 Z3 "touched" [] (ah Z1 Z2 Z3 Z4 Z5 Q4 (ai P w)))(Ri:Mt3 P w K mg base 1 Z4 "touched" [] (ah Z1 Z2 Z3 Z4 Z5 Q4 (ai P w)))(Rl:Mt3 P w K mg base 1 Z5 "touched" [] (ah Z1 Z2 Z3 Z4 Z5 Q4 (ai P w)))
  : FnOk P w K mg base cU 2 f fd ["strokes"] (ax K (cK Z1 Z2 Z3 Z4 Z5 Q4 (ai P w))):=by
 refine Fun3.ok3 F gJ tN (fun cdv A outer s H E hr=>⟨gL Z1 Z2 Z3 Z4 Z5 Q4 (ai P w),?_,sJ _ _ _ _ _ _ _⟩);have hu8:=u8 hr;have hu4:=u4 hr;unfold gL;exact (au (bb (i:=1) gJ.nd rfl (by walk_at "i") p8)
   (au (jl MM rfl (fj (aq 0)) (bo (i:=2) gJ.nd rfl (by walk_at "i")) (ay (f_ (i7 (bZ (BV T.ik_Dress) (by rfl) T.b_isinstance Ox (aa (aq 2) (aa (xl (by rfl) T.xm_Dress) al)))) (ay (jl MM rfl (fj (hX (k:=1) (all_cons ⟨_,(by decide),Rc⟩ (all_cons ⟨_,(by decide),Rp⟩ (all_cons ⟨_,(by decide),Re⟩ (all_cons ⟨_,(by decide),Ri⟩ (all_cons ⟨_,(by decide),Rl⟩ (fun _ h=>nomatch h)))))) (hr.mono (by decide)) (aq 2))) (bo (i:=3) gJ.nd rfl (by walk_at "i")) (ay (iw hu8 (aq 1) (aq 3) (bY T.fa_word (aq 2)))))) eu)))
   (ay (aV (aq 1)))))
theorem Cs{f:Mg}{fd:Mr}(F:Fun3 K "seated" "seated" sD f fd)(T:Tx K mg Z1 Z2 Z3 Z4 Z5 Q4)(Sq:Fn3 P w K mg base 5 "effective" [] (cZ Z1 Z2 Z3 Z4 Z5 Q4 (ai P w)))(Sf:Fn3 P w K mg base 1 "marked" [] (dR Z1 Z2 Z3 Z4 Z5 Q4 (ai P w)))(RV:Fn3 P w K mg base 3 "signs_brought" [] (bS Z1 Z2 Z3 Z4 Z5 Q4 (ai P w)))(R6:Fn3 P w K mg base 2 "signs_struck" [] (b8 Z1 Z2 Z3 Z4 Z5 Q4 (ai P w)))(SE:Fn3 P w K mg base 5 "slots_of" [] (dH Z1 Z2 Z3 Z4 Z5 Q4 (ai P w)))(Sc:Fn3 P w K mg base 3 "slots_taken" [] (cz Z1 Z2 Z3 Z4 Z5 Q4 (ai P w)))(Sj:Fn3 P w K mg base 2 "words_worn" [] (cK Z1 Z2 Z3 Z4 Z5 Q4 (ai P w)))
  : FnOk P w K mg base cU 6 f fd ["old","strokes","standing"] (ax K (dQ Z1 Z2 Z3 Z4 Z5 Q4 (ai P w))):=by
 refine Fun3.ok3 F dS A2 (fun cdv A outer s H E hr=>⟨l5 Z1 Z2 Z3 Z4 Z5 Q4 (ai P w),?_,Av _ _ _ _ _ _ _⟩);have hu8:=u8 hr;have hu4:=u4 hr;unfold l5;exact (au (bb (i:=3) dS.nd rfl (by walk_at "i") (aH SE (hr.mono (by decide)) (by rfl) (aa (aq 0) (aa (aq 1) al))))
   (au (bb (i:=4) dS.nd rfl (by walk_at "i") (aH Sq (hr.mono (by decide)) (by rfl) (aa (aq 1) (aa (aq 2) (aa (aH Sf (hr.mono (by decide)) (by rfl) (aa (aq 3) al)) al)))))
   (au (bb (i:=5) dS.nd rfl (by walk_at "i") (aH RV (hr.mono (by decide)) (by rfl) (aa (aq 0) (aa (aq 4) al))))
   (au (bb (i:=6) dS.nd rfl (by walk_at "i") (aH R6 (hr.mono (by decide)) (by rfl) (aa (aq 4) al)))
   (au (bb (i:=7) dS.nd rfl (by walk_at "i") (aH Sc (hr.mono (by decide)) (by rfl) (aa (aq 4) al)))
   (au (bb (i:=8) dS.nd rfl (by walk_at "i") (aH Sj (hr.mono (by decide)) (by rfl) (aa (aq 4) al)))
   (au (bb (i:=9) dS.nd rfl (by walk_at "i") p8)
   (au (HG MM rfl (aq 5) (bo (i:=10) dS.nd rfl (by walk_at "i")) (ay (f_ (v_ hu8 (aq 10) (aq 6)) (ay (iw hu8 (aq 9) (xj hu8 (aq 7) (aq 10) (aq 10)) (aq 10))) eu)))
   (au (DN (T:=["slot"]) (M:=["old","strokes","standing","row","working","brought","struck","taken","worn","sitting","name","seats"]) (i:=11) (bJ rfl (by kernel_rfl)) dS.nd rfl rfl (fun cl C s₀ H₀ fp=>⟨(bo (i:=0) zf rfl (by walk_at "i")),(pH (AK hu8 (aq 0) (aq 10))),(i6 (aa (aq 0) (aa (qL hu8 (aq 10) (aq 0)) al)))⟩) (fj (aq 3)))
   (ay (aV (ix (T:=["slot","name"]) (M:=["old","strokes","standing","row","working","brought","struck","taken","worn","sitting","-name","seats"]) (bJ rfl (by kernel_rfl)) (fun cl C s₀ H₀ fp=>⟨(BN (n:=2) rfl (lQ (bo (i:=0) qM rfl (by walk_at "i")) (lQ (bo (i:=1) qM rfl (by walk_at "i")) BO))),ic,(i6 (aa (aq 0) (aa (aq 1) (aa (qL hu8 (aq 7) (aq 1)) (aa (xj hu8 (aq 10) (aq 1) e_) al)))))⟩) (fj (aq 11))))))))))))))
theorem AQ{f:Mg}{fd:Mr}(F:Fun3 K "reading" "reading" pR f fd)(T:Tx K mg Z1 Z2 Z3 Z4 Z5 Q4)(Se:Fn3 P w K mg base 6 "seated" [] (dQ Z1 Z2 Z3 Z4 Z5 Q4 (ai P w)))
  : FnOk P w K mg base cU 7 f fd ["old","strokes","standing"] (ax K (cC Z1 Z2 Z3 Z4 Z5 Q4 (ai P w))):=by
 refine Fun3.ok3 F Ap zn (fun cdv A outer s H E hr=>⟨jW Z1 Z2 Z3 Z4 Z5 Q4 (ai P w),?_,yL _ _ _ _ _ _ _⟩);have hu8:=u8 hr;have hu4:=u4 hr;unfold jW;exact (ay (aV (ix (T:=["seat"]) (M:=["old","strokes","standing"]) (bJ rfl (by kernel_rfl)) (fun cl C s₀ H₀ fp=>⟨(bo (i:=0) xE rfl (by walk_at "i")),ic,(xi Hj (aq 0) (xz aw) Eh)⟩) (fj (aH Se (hr.mono (by decide)) (by rfl) (aa (aq 0) (aa (aq 1) (aa (aq 2) al))))))))
theorem qf{f:Mg}{fd:Mr}(F:Fun3 K "unwiped" "Paper.unwiped" ip f fd)(T:Tx K mg Z1 Z2 Z3 Z4 Z5 Q4) 
  : FnOk P w K mg base cU 1 f fd ["self"] (ax K (bp Z1 Z2 Z3 Z4 Z5 Q4 (ai P w))):=by
 refine Fun3.ok3 F pO o0 (fun cdv A outer s H E hr=>⟨eO Z1 Z2 Z3 Z4 Z5 Q4 (ai P w),?_,oA _ _ _ _ _ _ _⟩);have hu8:=u8 hr;have hu4:=u4 hr;unfold eO;exact (ay (aV (xk (T:=["row"]) (M:=["self"]) (bJ rfl (by kernel_rfl)) (fun cl C s₀ H₀ fp=>⟨(bo (i:=0) nH rfl (by walk_at "i")),(pH (bO (B3 hu8) (qL hu8 (fY T.cl_Paper T.na_Paper_states cG (aq 1)) (dD (aq 0) aw)) (dE (by rfl) T.k_WIPED) (bP _))),(dD (aq 0) aw)⟩) (fY T.cl_Paper T.na_Paper_drawn dF (aq 0)))))
theorem vd{f:Mg}{fd:Mr}(F:Fun3 K "view" "Paper.view" jR f fd)(T:Tx K mg Z1 Z2 Z3 Z4 Z5 Q4)(Ry:Fn3 P w K mg base 7 "reading" [] (cC Z1 Z2 Z3 Z4 Z5 Q4 (ai P w)))(Rt:Mt3 P w K mg base 1 Q4 "unwiped" [] (bp Z1 Z2 Z3 Z4 Z5 Q4 (ai P w)))
  : FnOk P w K mg base cU 8 f fd ["self"] (ax K (bK Z1 Z2 Z3 Z4 Z5 Q4 (ai P w))):=by
 refine Fun3.ok3 F uK tV (fun cdv A outer s H E hr=>⟨gW Z1 Z2 Z3 Z4 Z5 Q4 (ai P w),?_,sR _ _ _ _ _ _ _⟩);have hu8:=u8 hr;have hu4:=u4 hr;unfold gW;exact (ay (aV (aH Ry (hr.mono (by decide)) (by rfl) (aa (fY T.cl_Paper T.na_Paper_old kg (aq 0)) (aa (fY T.cl_Paper T.na_Paper_drawn dF (aq 0)) (aa (ce Rt jD (hr.mono (by decide)) (aq 0)) al))))))
theorem xq{f:Mg}{fd:Mr}(F:Fun3 K "check_gap" "check_gap" k_ f fd)(T:Tx K mg Z1 Z2 Z3 Z4 Z5 Q4) 
  : FnOk P w K mg base cU 1 f fd ["at","length"] (ax K (cu Z1 Z2 Z3 Z4 Z5 Q4 (ai P w))):=by
 refine Fun3.ok3 F wQ vA (fun cdv A outer s H E hr=>⟨iM Z1 Z2 Z3 Z4 Z5 Q4 (ai P w),?_,uS _ _ _ _ _ _ _⟩);have hu8:=u8 hr;have hu4:=u4 hr;unfold iM;exact (ay (f_ (tf (tj Fi Fi aw (aq 0) (aq 1))) (ay oE) eu))
theorem xr{f:Mg}{fd:Mr}(F:Fun3 K "anchor_at" "anchor_at" lb f fd)(T:Tx K mg Z1 Z2 Z3 Z4 Z5 Q4) 
  : FnOk P w K mg base cU 1 f fd ["seats","at"] (ax K (cv Z1 Z2 Z3 Z4 Z5 Q4 (ai P w))):=by
 refine Fun3.ok3 F wR vB (fun cdv A outer s H E hr=>⟨fP Z1 Z2 Z3 Z4 Z5 Q4 (ai P w),?_,uT _ _ _ _ _ _ _⟩);have hu8:=u8 hr;have hu4:=u4 hr;unfold fP;exact (au (f_ (bO (jy hu8) (aq 1) aw (bP _)) (ay (aV (dE (by rfl) T.k_START))) eu)
   (ay (aV (dD (dD (aq 0) (aY yz (aq 1) aw)) aw))))
theorem tw{f:Mg}{fd:Mr}(F:Fun3 K "seats" "Paper.seats" jt f fd)(T:Tx K mg Z1 Z2 Z3 Z4 Z5 Q4)(Se:Fn3 P w K mg base 6 "seated" [] (dQ Z1 Z2 Z3 Z4 Z5 Q4 (ai P w)))(Rt:Mt3 P w K mg base 1 Q4 "unwiped" [] (bp Z1 Z2 Z3 Z4 Z5 Q4 (ai P w)))
  : FnOk P w K mg base cU 7 f fd ["self"] (ax K (aU Z1 Z2 Z3 Z4 Z5 Q4 (ai P w))):=by
 refine Fun3.ok3 F sC rM (fun cdv A outer s H E hr=>⟨fR Z1 Z2 Z3 Z4 Z5 Q4 (ai P w),?_,rl _ _ _ _ _ _ _⟩);have hu8:=u8 hr;have hu4:=u4 hr;unfold fR;exact (ay (aV (aH Se (hr.mono (by decide)) (by rfl) (aa (fY T.cl_Paper T.na_Paper_old kg (aq 0)) (aa (fY T.cl_Paper T.na_Paper_drawn dF (aq 0)) (aa (ce Rt jD (hr.mono (by decide)) (aq 0)) al))))))
theorem AU{f:Mg}{fd:Mr}(F:Fun3 K "row" "Put.row" pV f fd)(T:Tx K mg Z1 Z2 Z3 Z4 Z5 Q4) 
  : FnOk P w K mg base cU 1 f fd ["self"] (ax K (dm Z1 Z2 Z3 Z4 Z5 Q4 (ai P w))):=by
 refine Fun3.ok3 F Aq zr (fun cdv A outer s H E hr=>⟨j0 Z1 Z2 Z3 Z4 Z5 Q4 (ai P w),?_,yP _ _ _ _ _ _ _⟩);have hu8:=u8 hr;have hu4:=u4 hr;unfold j0;exact (ay (aV (i6 (aa (bY T.fa_name (aq 0)) (aa (bY T.fa_time (aq 0)) (aa (i6 (aa e_ (aa (bY T.fa_anchor (aq 0)) (aa (bY T.fa_signs (aq 0)) al)))) al))))))
theorem va{f:Mg}{fd:Mr}(F:Fun3 K "row" "Strike.row" jP f fd)(T:Tx K mg Z1 Z2 Z3 Z4 Z5 Q4) 
  : FnOk P w K mg base cU 1 f fd ["self"] (ax K (bW Z1 Z2 Z3 Z4 Z5 Q4 (ai P w))):=by
 refine Fun3.ok3 F uI tT (fun cdv A outer s H E hr=>⟨gT Z1 Z2 Z3 Z4 Z5 Q4 (ai P w),?_,sP _ _ _ _ _ _ _⟩);have hu8:=u8 hr;have hu4:=u4 hr;unfold gT;exact (ay (aV (i6 (aa (bY T.fa_name (aq 0)) (aa (bY T.fa_time (aq 0)) (aa (i6 (aa e_ (aa (bY T.fa_names (aq 0)) al))) al))))))
theorem xx{f:Mg}{fd:Mr}(F:Fun3 K "row" "Dress.row" lu f fd)(T:Tx K mg Z1 Z2 Z3 Z4 Z5 Q4) 
  : FnOk P w K mg base cU 1 f fd ["self"] (ax K (cy Z1 Z2 Z3 Z4 Z5 Q4 (ai P w))):=by
 refine Fun3.ok3 F wT vG (fun cdv A outer s H E hr=>⟨iR Z1 Z2 Z3 Z4 Z5 Q4 (ai P w),?_,uY _ _ _ _ _ _ _⟩);have hu8:=u8 hr;have hu4:=u4 hr;unfold iR;exact (ay (aV (i6 (aa (bY T.fa_name (aq 0)) (aa (bY T.fa_time (aq 0)) (aa (i6 (aa e_ (aa (bY T.fa_names (aq 0)) (aa (bY T.fa_word (aq 0)) al)))) al))))))
theorem y_{f:Mg}{fd:Mr}(F:Fun3 K "row" "Move.row" m9 f fd)(T:Tx K mg Z1 Z2 Z3 Z4 Z5 Q4) 
  : FnOk P w K mg base cU 1 f fd ["self"] (ax K (cP Z1 Z2 Z3 Z4 Z5 Q4 (ai P w))):=by
 refine Fun3.ok3 F yI xN (fun cdv A outer s H E hr=>⟨jk Z1 Z2 Z3 Z4 Z5 Q4 (ai P w),?_,wX _ _ _ _ _ _ _⟩);have hu8:=u8 hr;have hu4:=u4 hr;unfold jk;exact (ay (aV (i6 (aa (bY T.fa_name (aq 0)) (aa (bY T.fa_time (aq 0)) (aa (i6 (aa e_ (aa (bY T.fa_names (aq 0)) (aa (bY T.fa_anchor (aq 0)) al)))) al))))))
theorem vg{f:Mg}{fd:Mr}(F:Fun3 K "draw" "Paper.draw" jU f fd)(T:Tx K mg Z1 Z2 Z3 Z4 Z5 Q4)(SD:Mt3 P w K mg base 1 Z2 "row" [] (dm Z1 Z2 Z3 Z4 Z5 Q4 (ai P w)))(R9:Mt3 P w K mg base 1 Z3 "row" [] (bW Z1 Z2 Z3 Z4 Z5 Q4 (ai P w)))(Si:Mt3 P w K mg base 1 Z4 "row" [] (cy Z1 Z2 Z3 Z4 Z5 Q4 (ai P w)))(Sn:Mt3 P w K mg base 1 Z5 "row" [] (cP Z1 Z2 Z3 Z4 Z5 Q4 (ai P w)))
  : FnOk P w K mg base cU 2 f fd ["self","stroke"] (ax K (bf Z1 Z2 Z3 Z4 Z5 Q4 (ai P w))):=by
 refine Fun3.ok3 F uM tY (fun cdv A outer s H E hr=>⟨gZ Z1 Z2 Z3 Z4 Z5 Q4 (ai P w),?_,sU _ _ _ _ _ _ _⟩);have hu8:=u8 hr;have hu4:=u4 hr;unfold gZ;exact (au (b_ (lD (fY T.cl_Paper T.na_Paper_drawn dF (aq 0)) (aa (hX (k:=1) (all_cons ⟨_,(by decide),SD⟩ (all_cons ⟨_,(by decide),R9⟩ (all_cons ⟨_,(by decide),Si⟩ (all_cons ⟨_,(by decide),Sn⟩ (fun _ h=>nomatch h))))) (hr.mono (by decide)) (aq 1)) al)))
   (au (iw hu8 (fY T.cl_Paper T.na_Paper_states cG (aq 0)) (bY T.fa_name (aq 1)) (dE (by rfl) T.k_WAITS))
   (au (iw hu8 (fY T.cl_Paper T.na_Paper_greatest jn (aq 0)) (dD (bY T.fa_name (aq 1)) aw) (dD (bY T.fa_name (aq 1)) aw))
   (au (JQ T.cl_Paper T.na_Paper_time mS (by decide) (aq 0) (bY T.fa_time (aq 1)))
   (ay (aV (bY T.fa_name (aq 1))))))))
theorem lF{f:Mg}{fd:Mr}(F:Fun3 K "coming_name" "Paper.coming_name" fc f fd)(T:Tx K mg Z1 Z2 Z3 Z4 Z5 Q4) 
  : FnOk P w K mg base cU 1 f fd ["self","pen"] (ax K (aD Z1 Z2 Z3 Z4 Z5 Q4 (ai P w))):=by
 refine Fun3.ok3 F kT kI (fun cdv A outer s H E hr=>⟨da Z1 Z2 Z3 Z4 Z5 Q4 (ai P w),?_,kA _ _ _ _ _ _ _⟩);have hu8:=u8 hr;have hu4:=u4 hr;unfold da;exact (ay (aV (i6 (aa (aq 1) (aa (aY dU (xj hu8 (fY T.cl_Paper T.na_Paper_greatest jn (aq 0)) (aq 1) aw) aw) al)))))
theorem lE{f:Mg}{fd:Mr}(F:Fun3 K "coming_time" "Paper.coming_time" fb f fd)(T:Tx K mg Z1 Z2 Z3 Z4 Z5 Q4) 
  : FnOk P w K mg base cU 1 f fd ["self"] (ax K (aB Z1 Z2 Z3 Z4 Z5 Q4 (ai P w))):=by
 refine Fun3.ok3 F kS kH (fun cdv A outer s H E hr=>⟨c_ Z1 Z2 Z3 Z4 Z5 Q4 (ai P w),?_,kz _ _ _ _ _ _ _⟩);have hu8:=u8 hr;have hu4:=u4 hr;unfold c_;exact (ay (aV (aY dU (fY T.cl_Paper T.na_Paper_time mS (aq 0)) aw)))
theorem xw{f:Mg}{fd:Mr}(F:Fun3 K "put" "Paper.put" lr f fd)(T:Tx K mg Z1 Z2 Z3 Z4 Z5 Q4)(RJ:Fn3 P w K mg base 1 "anchor_at" [] (cv Z1 Z2 Z3 Z4 Z5 Q4 (ai P w)))(RI:Fn3 P w K mg base 1 "check_gap" [] (cu Z1 Z2 Z3 Z4 Z5 Q4 (ai P w)))(Q6:Mt3 P w K mg base 1 Q4 "coming_name" [] (aD Z1 Z2 Z3 Z4 Z5 Q4 (ai P w)))(Q5:Mt3 P w K mg base 1 Q4 "coming_time" [] (aB Z1 Z2 Z3 Z4 Z5 Q4 (ai P w)))(Rf:Mt3 P w K mg base 2 Q4 "draw" [] (bf Z1 Z2 Z3 Z4 Z5 Q4 (ai P w)))(Q_:Mt3 P w K mg base 7 Q4 "seats" [] (aU Z1 Z2 Z3 Z4 Z5 Q4 (ai P w)))(TC:Mk3 P w K mg base 2 "Put" Z2 [] (bz Z1 Z2 Z3 Z4 Z5 Q4 (ai P w)))
  : FnOk P w K mg base cU 8 f fd ["self","pen","at","signs"] (ax K (cx Z1 Z2 Z3 Z4 Z5 Q4 (ai P w))):=by
 refine Fun3.ok3 F og vF (fun cdv A outer s H E hr=>⟨iQ Z1 Z2 Z3 Z4 Z5 Q4 (ai P w),?_,uX _ _ _ _ _ _ _⟩);have hu8:=u8 hr;have hu4:=u4 hr;unfold iQ;exact (au (bb (i:=4) og.nd rfl (by walk_at "i") (ce Q_ f7 (hr.mono (by decide)) (aq 0)))
   (au (b_ (aH RI (hr.mono (by decide)) (by rfl) (aa (aq 2) (aa (bZ b_len (by rfl) T.b_len PySem.boot_len (aa (aq 4) al)) al))))
   (ay (aV (cE Rf g_ (hr.mono (by decide)) (aq 0) (aa (j6 TC (hr.mono (by decide)) (by rfl) (aa (cE Q6 dh (hr.mono (by decide)) (aq 0) (aa (aq 1) al)) (aa (ce Q5 dg (hr.mono (by decide)) (aq 0)) (aa (aH RJ (hr.mono (by decide)) (by rfl) (aa (aq 4) (aa (aq 2) al))) (aa (aq 3) al))))) al))))))
theorem qa{f:Mg}{fd:Mr}(F:Fun3 K "check_stretch" "check_stretch" ik f fd)(T:Tx K mg Z1 Z2 Z3 Z4 Z5 Q4) 
  : FnOk P w K mg base cU 1 f fd ["at","to","length"] (ax K (aR Z1 Z2 Z3 Z4 Z5 Q4 (ai P w))):=by
 refine Fun3.ok3 F pM oX (fun cdv A outer s H E hr=>⟨eL Z1 Z2 Z3 Z4 Z5 Q4 (ai P w),?_,ou _ _ _ _ _ _ _⟩);have hu8:=u8 hr;have hu4:=u4 hr;unfold eL;exact (au (f_ (tf (tj Fi Fh aw (aq 0) (aq 2))) (ay oE) eu)
   (ay (f_ (tf (tj Fh Fi (aq 0) (aq 1) (aq 2))) (ay oE) eu)))
theorem p_{f:Mg}{fd:Mr}(F:Fun3 K "names_between" "names_between" ij f fd)(T:Tx K mg Z1 Z2 Z3 Z4 Z5 Q4) 
  : FnOk P w K mg base cU 1 f fd ["seats","at","to"] (ax K (aQ Z1 Z2 Z3 Z4 Z5 Q4 (ai P w))):=by
 refine Fun3.ok3 F pL oW (fun cdv A outer s H E hr=>⟨eK Z1 Z2 Z3 Z4 Z5 Q4 (ai P w),?_,ot _ _ _ _ _ _ _⟩);have hu8:=u8 hr;have hu4:=u4 hr;unfold eK;exact (ay (aV (jC b_tuple (by rfl) T.b_tuple PyProof.Rows.boot_tuple (aa (ix (T:=["seat"]) (M:=["seats","at","to"]) (bJ rfl (by kernel_rfl)) (fun cl C s₀ H₀ fp=>⟨(bo (i:=0) nF rfl (by walk_at "i")),ic,(dD (aq 0) aw)⟩) (fj (xi Hj (aq 0) (xz (aq 1)) (xz (aq 2))))) al))))
theorem rB{f:Mg}{fd:Mr}(F:Fun3 K "strike" "Paper.strike" iZ f fd)(T:Tx K mg Z1 Z2 Z3 Z4 Z5 Q4)(Rn:Fn3 P w K mg base 1 "check_stretch" [] (aR Z1 Z2 Z3 Z4 Z5 Q4 (ai P w)))(Rm:Fn3 P w K mg base 1 "names_between" [] (aQ Z1 Z2 Z3 Z4 Z5 Q4 (ai P w)))(Q6:Mt3 P w K mg base 1 Q4 "coming_name" [] (aD Z1 Z2 Z3 Z4 Z5 Q4 (ai P w)))(Q5:Mt3 P w K mg base 1 Q4 "coming_time" [] (aB Z1 Z2 Z3 Z4 Z5 Q4 (ai P w)))(Rf:Mt3 P w K mg base 2 Q4 "draw" [] (bf Z1 Z2 Z3 Z4 Z5 Q4 (ai P w)))(Q_:Mt3 P w K mg base 7 Q4 "seats" [] (aU Z1 Z2 Z3 Z4 Z5 Q4 (ai P w)))(Sd:Mk3 P w K mg base 2 "Strike" Z3 [] (aX Z1 Z2 Z3 Z4 Z5 Q4 (ai P w)))
  : FnOk P w K mg base cU 8 f fd ["self","pen","at","to"] (ax K (b9 Z1 Z2 Z3 Z4 Z5 Q4 (ai P w))):=by
 refine Fun3.ok3 F km qq (fun cdv A outer s H E hr=>⟨fx Z1 Z2 Z3 Z4 Z5 Q4 (ai P w),?_,p4 _ _ _ _ _ _ _⟩);have hu8:=u8 hr;have hu4:=u4 hr;unfold fx;exact (au (bb (i:=4) km.nd rfl (by walk_at "i") (ce Q_ f7 (hr.mono (by decide)) (aq 0)))
   (au (b_ (aH Rn (hr.mono (by decide)) (by rfl) (aa (aq 2) (aa (aq 3) (aa (bZ b_len (by rfl) T.b_len PySem.boot_len (aa (aq 4) al)) al)))))
   (ay (aV (cE Rf g_ (hr.mono (by decide)) (aq 0) (aa (j6 Sd (hr.mono (by decide)) (by rfl) (aa (cE Q6 dh (hr.mono (by decide)) (aq 0) (aa (aq 1) al)) (aa (ce Q5 dg (hr.mono (by decide)) (aq 0)) (aa (aH Rm (hr.mono (by decide)) (by rfl) (aa (aq 4) (aa (aq 2) (aa (aq 3) al)))) al)))) al))))))
theorem tx{f:Mg}{fd:Mr}(F:Fun3 K "dress" "Paper.dress" ju f fd)(T:Tx K mg Z1 Z2 Z3 Z4 Z5 Q4)(Rn:Fn3 P w K mg base 1 "check_stretch" [] (aR Z1 Z2 Z3 Z4 Z5 Q4 (ai P w)))(Rm:Fn3 P w K mg base 1 "names_between" [] (aQ Z1 Z2 Z3 Z4 Z5 Q4 (ai P w)))(Q6:Mt3 P w K mg base 1 Q4 "coming_name" [] (aD Z1 Z2 Z3 Z4 Z5 Q4 (ai P w)))(Q5:Mt3 P w K mg base 1 Q4 "coming_time" [] (aB Z1 Z2 Z3 Z4 Z5 Q4 (ai P w)))(Rf:Mt3 P w K mg base 2 Q4 "draw" [] (bf Z1 Z2 Z3 Z4 Z5 Q4 (ai P w)))(Q_:Mt3 P w K mg base 7 Q4 "seats" [] (aU Z1 Z2 Z3 Z4 Z5 Q4 (ai P w)))(Sw:Mk3 P w K mg base 2 "Dress" Z4 [] (bg Z1 Z2 Z3 Z4 Z5 Q4 (ai P w)))
  : FnOk P w K mg base cU 8 f fd ["self","pen","at","to","word"] (ax K (cA Z1 Z2 Z3 Z4 Z5 Q4 (ai P w))):=by
 refine Fun3.ok3 F kR rN (fun cdv A outer s H E hr=>⟨fT Z1 Z2 Z3 Z4 Z5 Q4 (ai P w),?_,rm _ _ _ _ _ _ _⟩);have hu8:=u8 hr;have hu4:=u4 hr;unfold fT;exact (au (bb (i:=5) kR.nd rfl (by walk_at "i") (ce Q_ f7 (hr.mono (by decide)) (aq 0)))
   (au (b_ (aH Rn (hr.mono (by decide)) (by rfl) (aa (aq 2) (aa (aq 3) (aa (bZ b_len (by rfl) T.b_len PySem.boot_len (aa (aq 5) al)) al)))))
   (ay (aV (cE Rf g_ (hr.mono (by decide)) (aq 0) (aa (j6 Sw (hr.mono (by decide)) (by rfl) (aa (cE Q6 dh (hr.mono (by decide)) (aq 0) (aa (aq 1) al)) (aa (ce Q5 dg (hr.mono (by decide)) (aq 0)) (aa (aH Rm (hr.mono (by decide)) (by rfl) (aa (aq 5) (aa (aq 2) (aa (aq 3) al)))) (aa (aq 4) al))))) al))))))
theorem ve{f:Mg}{fd:Mr}(F:Fun3 K "part" "Paper.part" jS f fd)(T:Tx K mg Z1 Z2 Z3 Z4 Z5 Q4)(Rx:Mt3 P w K mg base 8 Q4 "put" [] (cx Z1 Z2 Z3 Z4 Z5 Q4 (ai P w)))
  : FnOk P w K mg base cU 9 f fd ["self","pen","at"] (ax K (cN Z1 Z2 Z3 Z4 Z5 Q4 (ai P w))):=by
 refine Fun3.ok3 F uL tW (fun cdv A outer s H E hr=>⟨gX Z1 Z2 Z3 Z4 Z5 Q4 (ai P w),?_,sS _ _ _ _ _ _ _⟩);have hu8:=u8 hr;have hu4:=u4 hr;unfold gX;exact (ay (aV (cE Rx oN (hr.mono (by decide)) (aq 0) (aa (aq 1) (aa (aq 2) (aa e_ al))))))
theorem vf{f:Mg}{fd:Mr}(F:Fun3 K "move" "Paper.move" jT f fd)(T:Tx K mg Z1 Z2 Z3 Z4 Z5 Q4)(RJ:Fn3 P w K mg base 1 "anchor_at" [] (cv Z1 Z2 Z3 Z4 Z5 Q4 (ai P w)))(RI:Fn3 P w K mg base 1 "check_gap" [] (cu Z1 Z2 Z3 Z4 Z5 Q4 (ai P w)))(Rn:Fn3 P w K mg base 1 "check_stretch" [] (aR Z1 Z2 Z3 Z4 Z5 Q4 (ai P w)))(Rm:Fn3 P w K mg base 1 "names_between" [] (aQ Z1 Z2 Z3 Z4 Z5 Q4 (ai P w)))(Q6:Mt3 P w K mg base 1 Q4 "coming_name" [] (aD Z1 Z2 Z3 Z4 Z5 Q4 (ai P w)))(Q5:Mt3 P w K mg base 1 Q4 "coming_time" [] (aB Z1 Z2 Z3 Z4 Z5 Q4 (ai P w)))(Rf:Mt3 P w K mg base 2 Q4 "draw" [] (bf Z1 Z2 Z3 Z4 Z5 Q4 (ai P w)))(Q_:Mt3 P w K mg base 7 Q4 "seats" [] (aU Z1 Z2 Z3 Z4 Z5 Q4 (ai P w)))(SU:Mk3 P w K mg base 2 "Move" Z5 [] (br Z1 Z2 Z3 Z4 Z5 Q4 (ai P w)))
  : FnOk P w K mg base cU 8 f fd ["self","pen","at","to","goal"] (ax K (cO Z1 Z2 Z3 Z4 Z5 Q4 (ai P w))):=by
 refine Fun3.ok3 F jq tX (fun cdv A outer s H E hr=>⟨gY Z1 Z2 Z3 Z4 Z5 Q4 (ai P w),?_,sT _ _ _ _ _ _ _⟩);have hu8:=u8 hr;have hu4:=u4 hr;unfold gY;exact (au (bb (i:=5) jq.nd rfl (by walk_at "i") (ce Q_ f7 (hr.mono (by decide)) (aq 0)))
   (au (b_ (aH Rn (hr.mono (by decide)) (by rfl) (aa (aq 2) (aa (aq 3) (aa (bZ b_len (by rfl) T.b_len PySem.boot_len (aa (aq 5) al)) al)))))
   (au (b_ (aH RI (hr.mono (by decide)) (by rfl) (aa (aq 4) (aa (bZ b_len (by rfl) T.b_len PySem.boot_len (aa (aq 5) al)) al))))
   (au (bb (i:=6) jq.nd rfl (by walk_at "i") (aH Rm (hr.mono (by decide)) (by rfl) (aa (aq 5) (aa (aq 2) (aa (aq 3) al)))))
   (ay (aV (cE Rf g_ (hr.mono (by decide)) (aq 0) (aa (j6 SU (hr.mono (by decide)) (by rfl) (aa (cE Q6 dh (hr.mono (by decide)) (aq 0) (aa (aq 1) al)) (aa (ce Q5 dg (hr.mono (by decide)) (aq 0)) (aa (aq 6) (aa (aH RJ (hr.mono (by decide)) (by rfl) (aa (aq 5) (aa (aq 4) al))) al))))) al))))))))
theorem AT{f:Mg}{fd:Mr}(F:Fun3 K "_law_do" "_law_do" pU f fd)(T:Tx K mg Z1 Z2 Z3 Z4 Z5 Q4)(Rz:Fn3 P w K mg base 1 "_law_signs" [] (bV Z1 Z2 Z3 Z4 Z5 Q4 (ai P w)))(R5:Mt3 P w K mg base 8 Q4 "dress" [] (cA Z1 Z2 Z3 Z4 Z5 Q4 (ai P w)))(Sb:Mt3 P w K mg base 8 Q4 "move" [] (cO Z1 Z2 Z3 Z4 Z5 Q4 (ai P w)))(Sa:Mt3 P w K mg base 9 Q4 "part" [] (cN Z1 Z2 Z3 Z4 Z5 Q4 (ai P w)))(Rx:Mt3 P w K mg base 8 Q4 "put" [] (cx Z1 Z2 Z3 Z4 Z5 Q4 (ai P w)))(RU:Mt3 P w K mg base 8 Q4 "strike" [] (b9 Z1 Z2 Z3 Z4 Z5 Q4 (ai P w)))(Ru:Mt3 P w K mg base 8 Q4 "view" [] (bK Z1 Z2 Z3 Z4 Z5 Q4 (ai P w)))
  : FnOk P w K mg base cU 10 f fd ["_law_paper","_law_pen","_law_number"] (ax K (ef Z1 Z2 Z3 Z4 Z5 Q4 (ai P w))):=by
 refine Fun3.ok3 F iV zq (fun cdv A outer s H E hr=>⟨jZ Z1 Z2 Z3 Z4 Z5 Q4 (ai P w),?_,yO _ _ _ _ _ _ _⟩);have hu8:=u8 hr;have hu4:=u4 hr;unfold jZ;exact (au (bb (i:=3) iV.nd rfl (by walk_at "i") (bZ b_len (by rfl) T.b_len PySem.boot_len (aa (ce Ru jv (hr.mono (by decide)) (aq 0)) al)))
   (au (bb (i:=4) iV.nd rfl (by walk_at "i") (aY dy (aq 2) aw))
   (au (bb (i:=5) iV.nd rfl (by walk_at "i") (aY dy (aY iB (aq 2) aw) (aY dU (aq 3) aw)))
   (au (f_ (PW.pt (Dj (AL Fh (aq 4) aw (bP _)) (yA (bO (jy hu8) (aq 5) (aq 3) (bP _))))) (au (b_ (cE Rx oN (hr.mono (by decide)) (aq 0) (aa (aq 1) (aa (aq 5) (aa (aH Rz (hr.mono (by decide)) (by rfl) (aa (aY iB (aq 2) aw) (aa (dD (mO (aa (aY dU aw (aY dy (aY iB (aq 2) aw) aw)) (aa aw al))) (jC Jh (by rfl) T.b_int C1 (aa (AM (jy hu8) (aY dy (aY iB (aq 2) aw) aw) aw (bP _)) al))) al))) al)))))
   (ay HE)) eu)
   (au (bb (i:=6) iV.nd rfl (by walk_at "i") (aY dU (aY dU (aq 5) aw) (aY dy (aY iB (aq 2) aw) (bZ (b_min rfl) (by rfl) T.b_min boot_min (aa aw (aa (aY yz (aq 3) (aq 5)) al))))))
   (ay (f_ (bO (jy hu8) (aq 4) aw (bP _)) (ay (b_ (cE RU rC (hr.mono (by decide)) (aq 0) (aa (aq 1) (aa (aq 5) (aa (aq 6) al)))))) (ay (f_ (bO (jy hu8) (aq 4) aw (bP _)) (ay (b_ (cE R5 tE (hr.mono (by decide)) (aq 0) (aa (aq 1) (aa (aq 5) (aa (aq 6) (aa (dD (mO (aa e_ (aa e_ (aa e_ (aa e_ al))))) (aY dy (aY iB (aq 2) aw) aw)) al))))))) (ay (f_ (bO (jy hu8) (aq 4) aw (bP _)) (ay (b_ (cE Sa vk (hr.mono (by decide)) (aq 0) (aa (aq 1) (aa (aq 5) al))))) (ay (b_ (cE Sb vm (hr.mono (by decide)) (aq 0) (aa (aq 1) (aa (aq 5) (aa (aq 6) (aa (aY dy (aY iB (aq 2) aw) (aY dU (aq 3) aw)) al))))))))))))))))))
theorem mD{f:Mg}{fd:Mr}(F:Fun3 K "strokes_in" "Paper.strokes_in" fB f fd)(T:Tx K mg Z1 Z2 Z3 Z4 Z5 Q4) 
  : FnOk P w K mg base cU 1 f fd ["self","state"] (ax K (aO Z1 Z2 Z3 Z4 Z5 Q4 (ai P w))):=by
 refine Fun3.ok3 F mv lN (fun cdv A outer s H E hr=>⟨dA Z1 Z2 Z3 Z4 Z5 Q4 (ai P w),?_,lA _ _ _ _ _ _ _⟩);have hu8:=u8 hr;have hu4:=u4 hr;unfold dA;exact (ay (aV (xk (T:=["row"]) (M:=["self","state"]) (bJ rfl (by kernel_rfl)) (fun cl C s₀ H₀ fp=>⟨(bo (i:=0) kF rfl (by walk_at "i")),(pH (bO (jy hu8) (qL hu8 (fY T.cl_Paper T.na_Paper_states cG (aq 1)) (dD (aq 0) aw)) (aq 2) (bP _))),(aq 0)⟩) (fY T.cl_Paper T.na_Paper_drawn dF (aq 0)))))
theorem qe{f:Mg}{fd:Mr}(F:Fun3 K "waiting" "Paper.waiting" im f fd)(T:Tx K mg Z1 Z2 Z3 Z4 Z5 Q4)(Rr:Mt3 P w K mg base 1 Q4 "strokes_in" [] (aO Z1 Z2 Z3 Z4 Z5 Q4 (ai P w)))
  : FnOk P w K mg base cU 2 f fd ["self"] (ax K (aS Z1 Z2 Z3 Z4 Z5 Q4 (ai P w))):=by
 refine Fun3.ok3 F pN oZ (fun cdv A outer s H E hr=>⟨eN Z1 Z2 Z3 Z4 Z5 Q4 (ai P w),?_,oz _ _ _ _ _ _ _⟩);have hu8:=u8 hr;have hu4:=u4 hr;unfold eN;exact (ay (aV (ix (T:=["row"]) (M:=["self"]) (bJ rfl (by kernel_rfl)) (fun cl C s₀ H₀ fp=>⟨(bo (i:=0) nG rfl (by walk_at "i")),ic,(dD (aq 0) aw)⟩) (fj (cE Rr iE (hr.mono (by decide)) (aq 0) (aa (dE (by rfl) T.k_WAITS) al))))))
theorem lH{f:Mg}{fd:Mr}(F:Fun3 K "check_known" "Paper.check_known" ff f fd)(T:Tx K mg Z1 Z2 Z3 Z4 Z5 Q4) 
  : FnOk P w K mg base cU 1 f fd ["self","name"] (ax K (bh Z1 Z2 Z3 Z4 Z5 Q4 (ai P w))):=by
 refine Fun3.ok3 F kW kK (fun cdv A outer s H E hr=>⟨de Z1 Z2 Z3 Z4 Z5 Q4 (ai P w),?_,kC _ _ _ _ _ _ _⟩);have hu8:=u8 hr;have hu4:=u4 hr;unfold de;exact (ay (f_ (v_ hu8 (aq 1) (fY T.cl_Paper T.na_Paper_states cG (aq 0))) (ay oE) eu))
theorem tu{f:Mg}{fd:Mr}(F:Fun3 K "state" "Paper.state" js f fd)(T:Tx K mg Z1 Z2 Z3 Z4 Z5 Q4)(Rv:Mt3 P w K mg base 1 Q4 "check_known" [] (bh Z1 Z2 Z3 Z4 Z5 Q4 (ai P w)))
  : FnOk P w K mg base cU 2 f fd ["self","name"] (ax K (aT Z1 Z2 Z3 Z4 Z5 Q4 (ai P w))):=by
 refine Fun3.ok3 F sB rL (fun cdv A outer s H E hr=>⟨fQ Z1 Z2 Z3 Z4 Z5 Q4 (ai P w),?_,rj _ _ _ _ _ _ _⟩);have hu8:=u8 hr;have hu4:=u4 hr;unfold fQ;exact (au (b_ (cE Rv lK (hr.mono (by decide)) (aq 0) (aa (aq 1) al)))
   (ay (aV (qL hu8 (fY T.cl_Paper T.na_Paper_states cG (aq 0)) (aq 1)))))
theorem lG{f:Mg}{fd:Mr}(F:Fun3 K "check_waits" "Paper.check_waits" fe f fd)(T:Tx K mg Z1 Z2 Z3 Z4 Z5 Q4)(Rj:Mt3 P w K mg base 2 Q4 "state" [] (aT Z1 Z2 Z3 Z4 Z5 Q4 (ai P w)))
  : FnOk P w K mg base cU 3 f fd ["self","name"] (ax K (aM Z1 Z2 Z3 Z4 Z5 Q4 (ai P w))):=by
 refine Fun3.ok3 F kU kJ (fun cdv A outer s H E hr=>⟨db Z1 Z2 Z3 Z4 Z5 Q4 (ai P w),?_,kB _ _ _ _ _ _ _⟩);have hu8:=u8 hr;have hu4:=u4 hr;unfold db;exact (ay (f_ (bO (B3 hu8) (cE Rj f6 (hr.mono (by decide)) (aq 0) (aa (aq 1) al)) (dE (by rfl) T.k_WAITS) (bP _)) (ay oE) eu))
theorem nC{f:Mg}{fd:Mr}(F:Fun3 K "let_stand" "Paper.let_stand" fN f fd)(T:Tx K mg Z1 Z2 Z3 Z4 Z5 Q4)(Ro:Mt3 P w K mg base 3 Q4 "check_waits" [] (aM Z1 Z2 Z3 Z4 Z5 Q4 (ai P w)))
  : FnOk P w K mg base cU 4 f fd ["self","name"] (ax K (bw Z1 Z2 Z3 Z4 Z5 Q4 (ai P w))):=by
 refine Fun3.ok3 F m5 mI (fun cdv A outer s H E hr=>⟨dO Z1 Z2 Z3 Z4 Z5 Q4 (ai P w),?_,mz _ _ _ _ _ _ _⟩);have hu8:=u8 hr;have hu4:=u4 hr;unfold dO;exact (au (b_ (cE Ro h9 (hr.mono (by decide)) (aq 0) (aa (aq 1) al)))
   (ay (iw hu8 (fY T.cl_Paper T.na_Paper_states cG (aq 0)) (aq 1) (dE (by rfl) T.k_STANDS))))
theorem vc{f:Mg}{fd:Mr}(F:Fun3 K "wipe" "Paper.wipe" jQ f fd)(T:Tx K mg Z1 Z2 Z3 Z4 Z5 Q4)(Ro:Mt3 P w K mg base 3 Q4 "check_waits" [] (aM Z1 Z2 Z3 Z4 Z5 Q4 (ai P w)))
  : FnOk P w K mg base cU 4 f fd ["self","name"] (ax K (cM Z1 Z2 Z3 Z4 Z5 Q4 (ai P w))):=by
 refine Fun3.ok3 F uJ tU (fun cdv A outer s H E hr=>⟨gU Z1 Z2 Z3 Z4 Z5 Q4 (ai P w),?_,sQ _ _ _ _ _ _ _⟩);have hu8:=u8 hr;have hu4:=u4 hr;unfold gU;exact (au (b_ (cE Ro h9 (hr.mono (by decide)) (aq 0) (aa (aq 1) al)))
   (ay (iw hu8 (fY T.cl_Paper T.na_Paper_states cG (aq 0)) (aq 1) (dE (by rfl) T.k_WIPED))))
theorem xt{f:Mg}{fd:Mr}(F:Fun3 K "_law_step" "_law_step" lf f fd)(T:Tx K mg Z1 Z2 Z3 Z4 Z5 Q4)(SW:Fn3 P w K mg base 10 "_law_do" [] (ef Z1 Z2 Z3 Z4 Z5 Q4 (ai P w)))(Rq:Fn3 P w K mg base 1 "_law_mixed" [] (bd Z1 Z2 Z3 Z4 Z5 Q4 (ai P w)))(RA:Mt3 P w K mg base 4 Q4 "let_stand" [] (bw Z1 Z2 Z3 Z4 Z5 Q4 (ai P w)))(Rh:Mt3 P w K mg base 2 Q4 "waiting" [] (aS Z1 Z2 Z3 Z4 Z5 Q4 (ai P w)))(R_:Mt3 P w K mg base 4 Q4 "wipe" [] (cM Z1 Z2 Z3 Z4 Z5 Q4 (ai P w)))
  : FnOk P w K mg base cU 11 f fd ["_law_paper","_law_pens_here","_law_cell"] (ax K (c7 Z1 Z2 Z3 Z4 Z5 Q4 (ai P w))):=by
 refine Fun3.ok3 F iG vC (fun cdv A outer s H E hr=>⟨iN Z1 Z2 Z3 Z4 Z5 Q4 (ai P w),?_,uU _ _ _ _ _ _ _⟩);have hu8:=u8 hr;have hu4:=u4 hr;unfold iN;exact (au (bb (i:=3) iG.nd rfl (by walk_at "i") (aH Rq (hr.mono (by decide)) (by rfl) (aa (aq 2) (aa aw al))))
   (au (bb (i:=4) iG.nd rfl (by walk_at "i") (ce Rh gB (hr.mono (by decide)) (aq 0)))
   (ay (f_ (PW.pt (Dk (bO (jy hu8) (aY dy (aq 2) aw) aw (bP _)) (Af (bO (B3 hu8) (aq 4) (mO al) (bP _))))) (au (bb (i:=5) iG.nd rfl (by walk_at "i") (dD (aq 4) (aY dy (aY iB (aq 3) aw) (bZ b_len (by rfl) T.b_len PySem.boot_len (aa (aq 4) al)))))
   (ay (f_ (bO (jy hu8) (aY dy (aq 3) aw) aw (bP _)) (ay (b_ (cE RA nE (hr.mono (by decide)) (aq 0) (aa (aq 5) al)))) (ay (b_ (cE R_ vj (hr.mono (by decide)) (aq 0) (aa (aq 5) al))))))) (ay (b_ (aH SW (hr.mono (by decide)) (by rfl) (aa (aq 0) (aa (dD (aq 1) (aY dy (aY iB (aq 2) aw) (bZ b_len (by rfl) T.b_len PySem.boot_len (aa (aq 1) al)))) (aa (aq 3) al))))))))))
theorem qg{f:Mg}{fd:Mr}(F:Fun3 K "strokes" "Paper.strokes" iq f fd)(T:Tx K mg Z1 Z2 Z3 Z4 Z5 Q4) 
  : FnOk P w K mg base cU 1 f fd ["self"] (ax K (aN Z1 Z2 Z3 Z4 Z5 Q4 (ai P w))):=by
 refine Fun3.ok3 F pP o9 (fun cdv A outer s H E hr=>⟨eP Z1 Z2 Z3 Z4 Z5 Q4 (ai P w),?_,oB _ _ _ _ _ _ _⟩);have hu8:=u8 hr;have hu4:=u4 hr;unfold eP;exact (ay (aV (jC b_list (by rfl) T.b_list PyProof.Rows.boot_list (aa (fY T.cl_Paper T.na_Paper_drawn dF (aq 0)) al))))
theorem qc{f:Mg}{fd:Mr}(F:Fun3 K "_law_standing" "_law_standing" il f fd)(T:Tx K mg Z1 Z2 Z3 Z4 Z5 Q4)(Rj:Mt3 P w K mg base 2 Q4 "state" [] (aT Z1 Z2 Z3 Z4 Z5 Q4 (ai P w)))(Rb:Mt3 P w K mg base 1 Q4 "strokes" [] (aN Z1 Z2 Z3 Z4 Z5 Q4 (ai P w)))
  : FnOk P w K mg base cU 3 f fd ["_law_paper","_law_bits"] (ax K (bT Z1 Z2 Z3 Z4 Z5 Q4 (ai P w))):=by
 refine Fun3.ok3 F cQ oY (fun cdv A outer s H E hr=>⟨eM Z1 Z2 Z3 Z4 Z5 Q4 (ai P w),?_,ow _ _ _ _ _ _ _⟩);have hu8:=u8 hr;have hu4:=u4 hr;unfold eM;exact (au (yR (i:=2) cQ.nd rfl (by walk_at "i") (mO al))
   (au (bb (i:=3) cQ.nd rfl (by walk_at "i") aw)
   (au (jl MM rfl (fj (ce Rb eR (hr.mono (by decide)) (aq 0))) (bo (i:=4) cQ.nd rfl (by walk_at "i")) (au (bb (i:=5) cQ.nd rfl (by walk_at "i") (cE Rj f6 (hr.mono (by decide)) (aq 0) (aa (dD (aq 4) aw) al)))
   (au (f_ (PW.pt (Dj (bO (jy hu8) (aq 5) e_ (bP _)) (yA (PW.pt (Dk (bO (jy hu8) (aq 5) e_ (bP _)) (Af (bO (jy hu8) (aY Dg (aY GR (aq 1) (aq 3)) aw) aw (bP _)))))))) (ay (b_ (lD (aq 2) (aa (dD (aq 4) aw) al)))) eu)
   (ay (f_ (bO (jy hu8) (aq 5) e_ (bP _)) (ay (bb (i:=3) cQ.nd rfl (by walk_at "i") (aY dU (aq 3) aw))) eu)))))
   (ay (sX (i:=2) rfl (by first|exact Or.inl rfl|exact Or.inr (Or.inl rfl)))))))
theorem Cu{f:Mg}{fd:Mr}(F:Fun3 K "chosen" "chosen" sG f fd)(T:Tx K mg Z1 Z2 Z3 Z4 Z5 Q4) 
  : FnOk P w K mg base cU 1 f fd ["names","bits"] (ax K (fE Z1 Z2 Z3 Z4 Z5 Q4 (ai P w))):=by
 refine Fun3.ok3 F Ce A4 (fun cdv A outer s H E hr=>⟨l7 Z1 Z2 Z3 Z4 Z5 Q4 (ai P w),?_,Ax _ _ _ _ _ _ _⟩);have hu8:=u8 hr;have hu4:=u4 hr;unfold l7;exact (ay (aV (ix (T:=["k","name"]) (M:=["names","bits"]) (bJ rfl (by kernel_rfl)) (fun cl C s₀ H₀ fp=>⟨(BN (n:=2) rfl (lQ (bo (i:=0) qN rfl (by walk_at "i")) (lQ (bo (i:=1) qN rfl (by walk_at "i")) BO))),(pH (bO (jy hu8) (aY dy (aY GR (aq 3) (aq 0)) aw) aw (bP _))),(aq 1)⟩) (IM (by rfl) T.b_enumerate (aa (aq 0) al)))))
theorem oG{f:Mg}{fd:Mr}(F:Fun3 K "standing" "Paper.standing" gn f fd)(T:Tx K mg Z1 Z2 Z3 Z4 Z5 Q4)(Rr:Mt3 P w K mg base 1 Q4 "strokes_in" [] (aO Z1 Z2 Z3 Z4 Z5 Q4 (ai P w)))
  : FnOk P w K mg base cU 2 f fd ["self"] (ax K (bG Z1 Z2 Z3 Z4 Z5 Q4 (ai P w))):=by
 refine Fun3.ok3 F oa nK (fun cdv A outer s H E hr=>⟨d4 Z1 Z2 Z3 Z4 Z5 Q4 (ai P w),?_,nj _ _ _ _ _ _ _⟩);have hu8:=u8 hr;have hu4:=u4 hr;unfold d4;exact (ay (aV (ix (T:=["row"]) (M:=["self"]) (bJ rfl (by kernel_rfl)) (fun cl C s₀ H₀ fp=>⟨(bo (i:=0) mE rfl (by walk_at "i")),ic,(dD (aq 0) aw)⟩) (fj (cE Rr iE (hr.mono (by decide)) (aq 0) (aa (dE (by rfl) T.k_STANDS) al))))))
theorem oH{f:Mg}{fd:Mr}(F:Fun3 K "old_text" "Paper.old_text" gq f fd)(T:Tx K mg Z1 Z2 Z3 Z4 Z5 Q4) 
  : FnOk P w K mg base cU 1 f fd ["self"] (ax K (bH Z1 Z2 Z3 Z4 Z5 Q4 (ai P w))):=by
 refine Fun3.ok3 F oh nL (fun cdv A outer s H E hr=>⟨d5 Z1 Z2 Z3 Z4 Z5 Q4 (ai P w),?_,nk _ _ _ _ _ _ _⟩);have hu8:=u8 hr;have hu4:=u4 hr;unfold d5;exact (ay (aV (fY T.cl_Paper T.na_Paper_old kg (aq 0))))
theorem AR{f:Mg}{fd:Mr}(F:Fun3 K "outcome" "outcome" pS f fd)(T:Tx K mg Z1 Z2 Z3 Z4 Z5 Q4)(Tl:Fn3 P w K mg base 1 "chosen" [] (fE Z1 Z2 Z3 Z4 Z5 Q4 (ai P w)))(Ry:Fn3 P w K mg base 7 "reading" [] (cC Z1 Z2 Z3 Z4 Z5 Q4 (ai P w)))(RL:Mt3 P w K mg base 1 Q4 "old_text" [] (bH Z1 Z2 Z3 Z4 Z5 Q4 (ai P w)))(RK:Mt3 P w K mg base 2 Q4 "standing" [] (bG Z1 Z2 Z3 Z4 Z5 Q4 (ai P w)))(Rb:Mt3 P w K mg base 1 Q4 "strokes" [] (aN Z1 Z2 Z3 Z4 Z5 Q4 (ai P w)))(Rh:Mt3 P w K mg base 2 Q4 "waiting" [] (aS Z1 Z2 Z3 Z4 Z5 Q4 (ai P w)))
  : FnOk P w K mg base cU 8 f fd ["paper","bits"] (ax K (cD Z1 Z2 Z3 Z4 Z5 Q4 (ai P w))):=by
 refine Fun3.ok3 F sA zo (fun cdv A outer s H E hr=>⟨jX Z1 Z2 Z3 Z4 Z5 Q4 (ai P w),?_,yM _ _ _ _ _ _ _⟩);have hu8:=u8 hr;have hu4:=u4 hr;unfold jX;exact (au (bb (i:=2) sA.nd rfl (by walk_at "i") (aY dU (ce RK oM (hr.mono (by decide)) (aq 0)) (aH Tl (hr.mono (by decide)) (by rfl) (aa (ce Rh gB (hr.mono (by decide)) (aq 0)) (aa (aq 1) al)))))
   (ay (aV (aH Ry (hr.mono (by decide)) (by rfl) (aa (ce RL oO (hr.mono (by decide)) (aq 0)) (aa (Ec (ce Rb eR (hr.mono (by decide)) (aq 0))) (aa (aq 2) al)))))))
theorem u9{f:Mg}{fd:Mr}(F:Fun3 K "_law_right" "_law_right" jN f fd)(T:Tx K mg Z1 Z2 Z3 Z4 Z5 Q4)(RW:Fn3 P w K mg base 3 "_law_standing" [] (bT Z1 Z2 Z3 Z4 Z5 Q4 (ai P w)))(RP:Fn3 P w K mg base 8 "outcome" [] (cD Z1 Z2 Z3 Z4 Z5 Q4 (ai P w)))(Ry:Fn3 P w K mg base 7 "reading" [] (cC Z1 Z2 Z3 Z4 Z5 Q4 (ai P w)))(Rj:Mt3 P w K mg base 2 Q4 "state" [] (aT Z1 Z2 Z3 Z4 Z5 Q4 (ai P w)))(Rb:Mt3 P w K mg base 1 Q4 "strokes" [] (aN Z1 Z2 Z3 Z4 Z5 Q4 (ai P w)))(Ru:Mt3 P w K mg base 8 Q4 "view" [] (bK Z1 Z2 Z3 Z4 Z5 Q4 (ai P w)))(Rh:Mt3 P w K mg base 2 Q4 "waiting" [] (aS Z1 Z2 Z3 Z4 Z5 Q4 (ai P w)))
  : FnOk P w K mg base cU 9 f fd ["_law_paper","_law_old_here","_law_bits"] (ax K (cw Z1 Z2 Z3 Z4 Z5 Q4 (ai P w))):=by
 refine Fun3.ok3 F du tR (fun cdv A outer s H E hr=>⟨gQ Z1 Z2 Z3 Z4 Z5 Q4 (ai P w),?_,sN _ _ _ _ _ _ _⟩);have hu8:=u8 hr;have hu4:=u4 hr;unfold gQ;exact (au (yR (i:=3) du.nd rfl (by walk_at "i") (jC b_list (by rfl) T.b_list PyProof.Rows.boot_list (aa (ce Rb eR (hr.mono (by decide)) (aq 0)) al)))
   (au (FC (T:=["_law_row"]) (M:=["_law_paper","_law_old_here","_law_bits","_law_rows","_law_states","_law_view","_law_due","_law_found","_law_many"]) (i:=4) (bJ rfl (by kernel_rfl)) du.nd rfl rfl (fun cl C s₀ H₀ fp=>⟨(bo (i:=0) rJ rfl (by walk_at "i")),ic,(cE Rj f6 (hr.mono (by decide)) (aq 1) (aa (dD (aq 0) aw) al))⟩) (aq 3))
   (au (bb (i:=5) du.nd rfl (by walk_at "i") (jC b_list (by rfl) T.b_list PyProof.Rows.boot_list (aa (ce Ru jv (hr.mono (by decide)) (aq 0)) al)))
   (au (bb (i:=6) du.nd rfl (by walk_at "i") (aH Ry (hr.mono (by decide)) (by rfl) (aa (aq 1) (aa (aq 3) (aa (aH RW (hr.mono (by decide)) (by rfl) (aa (aq 0) (aa (aq 2) al))) al)))))
   (au (yR (i:=7) du.nd rfl (by walk_at "i") (aH RP (hr.mono (by decide)) (by rfl) (aa (aq 0) (aa (aq 2) al))))
   (au (f_ (PW.pt (Dj (tf (i7 (bZ Kq (by rfl) T.b_isinstance Ox (aa (aq 7) (aa (Lk (by rfl) T.b_list PyProof.Rows.boot_list) al))))) (yA (bO (GS hu8) (aq 7) (aq 6) (bP _))))) (ay (aV Cr)) eu)
   (au (b_ (lD (aq 7) (aa Ed al)))
   (au (bb (i:=8) du.nd rfl (by walk_at "i") (bZ b_len (by rfl) T.b_len PySem.boot_len (aa (ce Rh gB (hr.mono (by decide)) (aq 0)) al)))
   (au (f_ (PW.pt (Dj (bO (B3 hu8) (aH RP (hr.mono (by decide)) (by rfl) (aa (aq 0) (aa (aq 2) al))) (aq 6) (bP _)) (yA (bO (B3 hu8) (aH RP (hr.mono (by decide)) (by rfl) (aa (aq 0) (aa (aY dU (aq 2) (aY Df aw (aq 8))) al))) (aH RP (hr.mono (by decide)) (by rfl) (aa (aq 0) (aa (aY dy (aq 2) (aY Df aw (aq 8))) al))) (bP _))))) (ay (aV Cr)) eu)
   (au (f_ (PW.pt (Dj (bO (GS hu8) (ce Rb eR (hr.mono (by decide)) (aq 0)) (aq 3) (bP _)) (yA (bO (B3 hu8) (xk (T:=["_law_row"]) (M:=["_law_paper","_law_old_here","_law_bits","_law_rows","_law_states","_law_view","_law_due","_law_found","_law_many"]) (bJ rfl (by kernel_rfl)) (fun cl C s₀ H₀ fp=>⟨(bo (i:=0) rH rfl (by walk_at "i")),ic,(cE Rj f6 (hr.mono (by decide)) (aq 1) (aa (dD (aq 0) aw) al))⟩) (aq 3)) (aq 4) (bP _))))) (ay (aV Cr)) eu)
   (ay (aV (J3 (AM (jy hu8) (ce Ru jv (hr.mono (by decide)) (aq 0)) (aq 5) (bP _)) (J1 (AM (jy hu8) (aH RP (hr.mono (by decide)) (by rfl) (aa (aq 0) (aa (aY yz (aY Df aw (aq 8)) aw) al))) (aq 5) (bP _))))))))))))))))
theorem oJ{f:Mg}{fd:Mr}(F:Fun3 K "__init__" "Paper.__init__" gu f fd)(T:Tx K mg Z1 Z2 Z3 Z4 Z5 Q4) 
  : FnOk P w K mg base cU 1 f fd ["self","old"] (ax K (bI Z1 Z2 Z3 Z4 Z5 Q4 (ai P w))):=by
 refine Fun3.ok3 F oj nM (fun cdv A outer s H E hr=>⟨d6 Z1 Z2 Z3 Z4 Z5 Q4 (ai P w),?_,no _ _ _ _ _ _ _⟩);have hu8:=u8 hr;have hu4:=u4 hr;unfold d6;exact (au (sY (L:=[]) T.cl_Paper T.na_Paper_old (by decide +kernel) (by decide) (aq 0) (aq 1))
   (au (sY (L:=["old"]) T.cl_Paper T.na_Paper_drawn (by decide +kernel) (by decide) (aq 0) (Ec (mO al)))
   (au (sY (L:=["old","drawn"]) T.cl_Paper T.na_Paper_states (by decide +kernel) (by decide) (aq 0) p8)
   (au (sY (L:=["old","drawn","states"]) T.cl_Paper T.na_Paper_greatest (by decide +kernel) (by decide) (aq 0) Ia)
   (ay (sY (L:=["old","drawn","states","greatest"]) T.cl_Paper T.na_Paper_time (by decide +kernel) (by decide) (aq 0) aw))))))
theorem Io{f:Mg}{fd:Mr}(F:Fun3 K "law" "law" sF f fd)(T:Tx K mg Z1 Z2 Z3 Z4 Z5 Q4)(RM:Fn3 P w K mg base 1 "_law_cell_at" [] (bM Z1 Z2 Z3 Z4 Z5 Q4 (ai P w)))(Rq:Fn3 P w K mg base 1 "_law_mixed" [] (bd Z1 Z2 Z3 Z4 Z5 Q4 (ai P w)))(SF:Fn3 P w K mg base 2 "_law_old" [] (dI Z1 Z2 Z3 Z4 Z5 Q4 (ai P w)))(Ss:Fn3 P w K mg base 1 "_law_pens" [] (c8 Z1 Z2 Z3 Z4 Z5 Q4 (ai P w)))(R4:Fn3 P w K mg base 9 "_law_right" [] (cw Z1 Z2 Z3 Z4 Z5 Q4 (ai P w)))(Sr:Fn3 P w K mg base 11 "_law_step" [] (c7 Z1 Z2 Z3 Z4 Z5 Q4 (ai P w)))(T1:Mk3 P w K mg base 1 "Paper" Q4 [] (bI Z1 Z2 Z3 Z4 Z5 Q4 (ai P w)))
  : FnOk P w K mg base cU 12 f fd ["_law_script"] (ax K (sm Z1 Z2 Z3 Z4 Z5 Q4 (ai P w))):=by
 refine Fun3.ok3 F mY Gc (fun cdv A outer s H E hr=>⟨wY Z1 Z2 Z3 Z4 Z5 Q4 (ai P w),?_,Fx _ _ _ _ _ _ _⟩);have hu8:=u8 hr;have hu4:=u4 hr;unfold wY;exact (au (bb (i:=1) mY.nd rfl (by walk_at "i") (aH RM (hr.mono (by decide)) (by rfl) (aa (aq 0) (aa aw al))))
   (au (bb (i:=2) mY.nd rfl (by walk_at "i") (aH SF (hr.mono (by decide)) (by rfl) (aa (aH RM (hr.mono (by decide)) (by rfl) (aa (aq 0) (aa aw al))) al)))
   (au (bb (i:=3) mY.nd rfl (by walk_at "i") (aH Ss (hr.mono (by decide)) (by rfl) (aa (aq 1) al)))
   (au (bb (i:=4) mY.nd rfl (by walk_at "i") (j6 T1 (hr.mono (by decide)) (by rfl) (aa (aq 2) al)))
   (au (jl MM rfl (zH (by rfl) T.b_range (aa aw (aa (bZ (b_min rfl) (by rfl) T.b_min boot_min (aa (bZ b_len (by rfl) T.b_len PySem.boot_len (aa (aq 0) al)) (aa aw al))) al))) (bo (i:=5) mY.nd rfl (by walk_at "i")) (au (b_ (aH Sr (hr.mono (by decide)) (by rfl) (aa (aq 4) (aa (aq 3) (aa (dD (aq 0) (aq 5)) al)))))
   (ay (f_ (PW.pt (Dk (bO (jy hu8) (aY dy (aq 5) aw) aw (bP _)) (Af (tf (i7 (aH R4 (hr.mono (by decide)) (by rfl) (aa (aq 4) (aa (aq 2) (aa (aH Rq (hr.mono (by decide)) (by rfl) (aa (dD (aq 0) (aq 5)) (aa aw al))) al))))))))) (ay (aV Cr)) eu))))
   (au (bb (i:=6) mY.nd rfl (by walk_at "i") (mO (aa aw (aa (aY dy (aq 1) (aY Jv aw aw)) (aa (aH Rq (hr.mono (by decide)) (by rfl) (aa (aq 1) (aa aw al))) (aa (aY dy (aH Rq (hr.mono (by decide)) (by rfl) (aa (aq 1) (aa aw al))) aw) al))))))
   (ay (aV (bZ (E2 rfl) (by rfl) T.b_all PyProof.Rows.boot_all (aa (ix (T:=["_law_bits"]) (M:=["_law_script","_law_cell","_law_old_here","_law_pens_here","_law_paper","_law_k","_law_choices"]) (bJ rfl (by kernel_rfl)) (fun cl C s₀ H₀ fp=>⟨(bo (i:=0) El rfl (by walk_at "i")),ic,(aH R4 (hr.mono (by decide)) (by rfl) (aa (aq 5) (aa (aq 3) (aa (aq 0) al))))⟩) (fj (aq 6))) al))))))))))
end
theorem K5{α:Type}:∀ {us:List α},us.length=1->∃ a0,us=[a0]
 | [a0],_=>⟨a0,rfl⟩
theorem K4{α:Type}:∀ {us:List α},us.length=2->∃ a0 a1,us=[a0,a1]
 | [a0,a1],_=>⟨a0,a1,rfl⟩
theorem K3{α:Type}:∀ {us:List α},us.length=3->∃ a0 a1 a2,us=[a0,a1,a2]
 | [a0,a1,a2],_=>⟨a0,a1,a2,rfl⟩
theorem K2{α:Type}:∀ {us:List α},us.length=4->∃ a0 a1 a2 a3,us=[a0,a1,a2,a3]
 | [a0,a1,a2,a3],_=>⟨a0,a1,a2,a3,rfl⟩
theorem K1{α:Type}:∀ {us:List α},us.length=5->∃ a0 a1 a2 a3 a4,us=[a0,a1,a2,a3,a4]
 | [a0,a1,a2,a3,a4],_=>⟨a0,a1,a2,a3,a4,rfl⟩
local macro_rules | `(tactic| walk_at "b") => `(tactic| (intro _ _ _ _ _ _ us hl; first | (obtain ⟨_, e⟩ := K5 hl; subst e; rfl) | (obtain ⟨_, _, e⟩ := K4 hl; subst e; rfl) | (obtain ⟨_, _, _, e⟩ := K3 hl; subst e; rfl) | (obtain ⟨_, _, _, _, e⟩ := K2 hl; subst e; rfl) | (obtain ⟨_, _, _, _, _, e⟩ := K1 hl; subst e; rfl)))
theorem all_mk{P:Mw}{w:ME}{K:PySem.W.Frag}{h:MG}{mg:Str->Option Mh}{fa:Mg}{Z1 Z2 Z3 Z4 Z5 Q4 ka1:Mg}{ks1:Array (Option Mh)}{kt0:Tok}{UP:Tok}{UO:Tok}{UN:Tok}{kt2:Tok}{kt3:Tok}{kz1:Nat}(X:K.In h)(G:h.Ns My mg)(hfa:mg "law"=some (.ref fa))
  (c0a:PySem.W.nsIn K My "Stroke"=some (some (.ref Z1)))
  (c1a:PySem.W.nsIn K My "Put"=some (some (.ref Z2)))
  (c2a:PySem.W.nsIn K My "Strike"=some (some (.ref Z3)))
  (c3a:PySem.W.nsIn K My "Dress"=some (some (.ref Z4)))
  (c4a:PySem.W.nsIn K My "Move"=some (some (.ref Z5)))
  (c5a:PySem.W.nsIn K My "Paper"=some (some (.ref Q4)))
  (RC:PySem.W.specialIn K (.builtin "object.__class__") "__get__"=some (some (.builtin "getset_descriptor.__get__")))
  (RB:PySem.W.takesIn K (.builtin "object.__class__")=some true)
  (RY:PySem.W.findIn K (.ref Z1) "__class__"=some (some (.builtin "object.__class__")))
  (RX:PySem.W.mroIn K Z1 (.type "object")=some true)
  (SX:Nq K (.ref Z1) (.ref Z4)=some false)
  (S9:Nq K (.ref Z1) (.ref Z5)=some false)
  (To:Nq K (.ref Z1) (.ref Z2)=some false)
  (SJ:Nq K (.ref Z1) (.ref Z3)=some false)
  (Sv:PySem.W.findIn K (.ref Z2) "__class__"=some (some (.builtin "object.__class__")))
  (Su:PySem.W.mroIn K Z2 (.type "object")=some true)
  (TD:Nq K (.ref Z2) (.ref Z4)=some false)
  (T2:Nq K (.ref Z2) (.ref Z5)=some false)
  (Uj:Nq K (.ref Z2) (.ref Z2)=some true)
  (Tq:Nq K (.ref Z2) (.ref Z3)=some false)
  (R0:PySem.W.findIn K (.ref Z3) "__class__"=some (some (.builtin "object.__class__")))
  (RZ:PySem.W.mroIn K Z3 (.type "object")=some true)
  (SY:Nq K (.ref Z3) (.ref Z4)=some false)
  (S_:Nq K (.ref Z3) (.ref Z5)=some false)
  (Tp:Nq K (.ref Z3) (.ref Z2)=some false)
  (SK:Nq K (.ref Z3) (.ref Z3)=some true)
  (R8:PySem.W.findIn K (.ref Z4) "__class__"=some (some (.builtin "object.__class__")))
  (R7:PySem.W.mroIn K Z4 (.type "object")=some true)
  (Tc:Nq K (.ref Z4) (.ref Z4)=some true)
  (Ts:Nq K (.ref Z4) (.ref Z5)=some false)
  (TH:Nq K (.ref Z4) (.ref Z2)=some false)
  (SZ:Nq K (.ref Z4) (.ref Z3)=some false)
  (Sh:PySem.W.findIn K (.ref Z5) "__class__"=some (some (.builtin "object.__class__")))
  (Sg:PySem.W.mroIn K Z5 (.type "object")=some true)
  (Tr:Nq K (.ref Z5) (.ref Z4)=some false)
  (TF:Nq K (.ref Z5) (.ref Z5)=some true)
  (T3:Nq K (.ref Z5) (.ref Z2)=some false)
  (Ta:Nq K (.ref Z5) (.ref Z3)=some false)
  (k0:Cls K Z1)
  (c0mk:PySem.W.makesIn K Z1=true)
  (c0kc:PySem.W.keepIn K (.ref Z1)=true)
  (VQ:PySem.W.findIn K (.ref Z1) "anchor"=some none)
  (VP:PySem.W.findIn K (.ref Z1) "name"=some none)
  (VO:PySem.W.findIn K (.ref Z1) "names"=some none)
  (VN:PySem.W.findIn K (.ref Z1) "signs"=some none)
  (VM:PySem.W.findIn K (.ref Z1) "time"=some none)
  (VL:PySem.W.findIn K (.ref Z1) "word"=some none)
  (k1:Cls K Z2)
  (VI:PySem.W.makesIn K Z2=true)
  (VJ:PySem.W.keepIn K (.ref Z2)=true)
  (VH:PySem.W.findIn K (.ref Z2) "anchor"=some none)
  (VG:PySem.W.findIn K (.ref Z2) "name"=some none)
  (VF:PySem.W.findIn K (.ref Z2) "names"=some none)
  (VE:PySem.W.findIn K (.ref Z2) "signs"=some none)
  (VD:PySem.W.findIn K (.ref Z2) "time"=some none)
  (VC:PySem.W.findIn K (.ref Z2) "word"=some none)
  (k2:Cls K Z3)
  (VA:PySem.W.makesIn K Z3=true)
  (VB:PySem.W.keepIn K (.ref Z3)=true)
  (Vz:PySem.W.findIn K (.ref Z3) "anchor"=some none)
  (Vy:PySem.W.findIn K (.ref Z3) "name"=some none)
  (Vx:PySem.W.findIn K (.ref Z3) "names"=some none)
  (Vw:PySem.W.findIn K (.ref Z3) "signs"=some none)
  (Vv:PySem.W.findIn K (.ref Z3) "time"=some none)
  (Vu:PySem.W.findIn K (.ref Z3) "word"=some none)
  (k3:Cls K Z4)
  (Vs:PySem.W.makesIn K Z4=true)
  (Vt:PySem.W.keepIn K (.ref Z4)=true)
  (Vr:PySem.W.findIn K (.ref Z4) "anchor"=some none)
  (Vq:PySem.W.findIn K (.ref Z4) "name"=some none)
  (Vp:PySem.W.findIn K (.ref Z4) "names"=some none)
  (Vo:PySem.W.findIn K (.ref Z4) "signs"=some none)
  (Vn:PySem.W.findIn K (.ref Z4) "time"=some none)
  (Vm:PySem.W.findIn K (.ref Z4) "word"=some none)
  (k4:Cls K Z5)
  (Vk:PySem.W.makesIn K Z5=true)
  (Vl:PySem.W.keepIn K (.ref Z5)=true)
  (Vj:PySem.W.findIn K (.ref Z5) "anchor"=some none)
  (Vi:PySem.W.findIn K (.ref Z5) "name"=some none)
  (Vh:PySem.W.findIn K (.ref Z5) "names"=some none)
  (Vg:PySem.W.findIn K (.ref Z5) "signs"=some none)
  (Vf:PySem.W.findIn K (.ref Z5) "time"=some none)
  (Ve:PySem.W.findIn K (.ref Z5) "word"=some none)
  (k5:Cls K Q4)
  (Vc:PySem.W.makesIn K Q4=true)
  (Vd:PySem.W.keepIn K (.ref Q4)=true)
  (Vb:PySem.W.findIn K (.ref Q4) "old"=some none)
  (Va:PySem.W.findIn K (.ref Q4) "drawn"=some none)
  (U_:PySem.W.findIn K (.ref Q4) "states"=some none)
  (U9:PySem.W.findIn K (.ref Q4) "greatest"=some none)
  (U8:PySem.W.findIn K (.ref Q4) "time"=some none)
  (b_all:PySem.W.nsIn K My "all"=some none)
  (b_dict:PySem.W.nsIn K My "dict"=some none)
  (b_enumerate:PySem.W.nsIn K My "enumerate"=some none)
  (b_int:PySem.W.nsIn K My "int"=some none)
  (b_isinstance:PySem.W.nsIn K My "isinstance"=some none)
  (b_len:PySem.W.nsIn K My "len"=some none)
  (b_list:PySem.W.nsIn K My "list"=some none)
  (b_min:PySem.W.nsIn K My "min"=some none)
  (b_range:PySem.W.nsIn K My "range"=some none)
  (b_sorted:PySem.W.nsIn K My "sorted"=some none)
  (b_tuple:PySem.W.nsIn K My "tuple"=some none)
  (b_zip:PySem.W.nsIn K My "zip"=some none)
  (kn0:PySem.W.nsIn K My "STANDS"=some (some (.str "stands" kt0)))
  (kn1:PySem.W.nsIn K My "START"=some (some (.ref ka1)))
  (kl1:K.lookup ka1=some ⟨.type "tuple",none,.seq #[.str "" UP,.int 0 UO,.int 0 UN] kz1,ks1⟩)
  (kn2:PySem.W.nsIn K My "WAITS"=some (some (.str "waits" kt2)))
  (kn3:PySem.W.nsIn K My "WIPED"=some (some (.str "wiped" kt3)))
  (Tf:FnG K "_law_cell_at" iX)
  (TR:FnG K "_law_mixed" jO)
  (TN:FnG K "_law_signs" jM)
  (Up:FnG K "_law_old" m8)
  (Uf:FnG K "_law_pens" lh)
  (TM:FnG K "lay_behind" jL)
  (TL:FnG K "slots_made" jK)
  (T_:FnG K "old_slots" kY)
  (SL:FnG K "place_in_order" gl)
  (Uo:FnG K "in_order" m7)
  (h_Stroke___init__:MtG K Z1 "__init__" "Stroke.__init__" dX)
  (SB:CfG K Z1 "__init__" "Stroke.__init__" dX)
  (Ti:MtG K Z2 "__init__" "Put.__init__" iY)
  (SH:MtG K Z3 "__init__" "Strike.__init__" fM)
  (SS:MtG K Z4 "__init__" "Dress.__init__" gv)
  (S7:MtG K Z5 "__init__" "Move.__init__" ir)
  (T9:FnG K "stroke_of" kX)
  (Uv:FnG K "chained" pT)
  (TB:MtG K Z4 "slots" "Stroke.slots" eh)
  (Th:MtG K Z3 "slots" "Stroke.slots" eh)
  (Tg:MtG K Z1 "slots" "Stroke.slots" eh)
  (Ug:MtG K Z2 "slots" "Put.slots" lq)
  (T0:MtG K Z5 "slots" "Move.slots" jV)
  (Um:FnG K "slots_of" m6)
  (UB:FnG K "marked" sE)
  (Ua:FnG K "is_placed" kZ)
  (Ub:FnG K "effective" k9)
  (S0:FnG K "signs_brought" ig)
  (S8:MtG K Z4 "touched" "Stroke.touched" ck)
  (Tk:MtG K Z5 "touched" "Stroke.touched" ck)
  (Tu:MtG K Z2 "touched" "Stroke.touched" ck)
  (SN:MtG K Z3 "touched" "Stroke.touched" ck)
  (SM:MtG K Z1 "touched" "Stroke.touched" ck)
  (Te:FnG K "signs_struck" iW)
  (Tt:FnG K "slots_taken" jr)
  (TK:FnG K "words_worn" jJ)
  (UA:FnG K "seated" sD)
  (Ut:FnG K "reading" pR)
  (S5:MtG K Q4 "unwiped" "Paper.unwiped" ip)
  (TW:MtG K Q4 "view" "Paper.view" jR)
  (Uc:FnG K "check_gap" k_)
  (Ud:FnG K "anchor_at" lb)
  (Tw:MtG K Q4 "seats" "Paper.seats" jt)
  (Ux:MtG K Z2 "row" "Put.row" pV)
  (TU:MtG K Z3 "row" "Strike.row" jP)
  (Ui:MtG K Z4 "row" "Dress.row" lu)
  (Uq:MtG K Z5 "row" "Move.row" m9)
  (TZ:MtG K Q4 "draw" "Paper.draw" jU)
  (Sy:MtG K Q4 "coming_name" "Paper.coming_name" fc)
  (Sx:MtG K Q4 "coming_time" "Paper.coming_time" fb)
  (Uh:MtG K Q4 "put" "Paper.put" lr)
  (S2:FnG K "check_stretch" ik)
  (S1:FnG K "names_between" ij)
  (Tj:MtG K Q4 "strike" "Paper.strike" iZ)
  (Tz:MtD K Q4 "dress" "Paper.dress" ju "")
  (TX:MtG K Q4 "part" "Paper.part" jS)
  (TY:MtG K Q4 "move" "Paper.move" jT)
  (Uw:FnG K "_law_do" pU)
  (SC:MtG K Q4 "strokes_in" "Paper.strokes_in" fB)
  (S4:MtG K Q4 "waiting" "Paper.waiting" im)
  (SA:MtG K Q4 "check_known" "Paper.check_known" ff)
  (Tv:MtG K Q4 "state" "Paper.state" js)
  (Sz:MtG K Q4 "check_waits" "Paper.check_waits" fe)
  (SI:MtG K Q4 "let_stand" "Paper.let_stand" fN)
  (TV:MtG K Q4 "wipe" "Paper.wipe" jQ)
  (Ue:FnG K "_law_step" lf)
  (S6:MtG K Q4 "strokes" "Paper.strokes" iq)
  (S3:FnG K "_law_standing" il)
  (UC:FnG K "chosen" sG)
  (SO:MtG K Q4 "standing" "Paper.standing" gn)
  (SQ:MtG K Q4 "old_text" "Paper.old_text" gq)
  (Uu:FnG K "outcome" pS)
  (TQ:FnG K "_law_right" jN)
  (SR:MtG K Q4 "__init__" "Paper.__init__" gu)
  (h_law:FnG K "law" sF):
  ∃ fd:Mr,(∀ (s:Mi) (v:Mh),PH s fd ⟨[v],[]⟩ [("_law_script",v)])/\∀ base:MG,K.In base->base.Ns My mg->FnOk P w K mg base cU 12 fa fd ["_law_script"] (ax K wL):=by
 obtain⟨f,a,⟨⟨_,_,an,_,kV,dc,pm,cd,ct,l,c⟩⟩,_⟩:=h_law.ex;have e:=hfa.symm.trans (PySem.W.mg_of X G a);cases e;have T:Tx K mg Z1 Z2 Z3 Z4 Z5 Q4:=⟨(all_cons ⟨k0,VQ⟩ (all_cons ⟨k1,VH⟩ (all_cons ⟨k2,Vz⟩ (all_cons ⟨k3,Vr⟩ (all_cons ⟨k4,Vj⟩ (fun _ h=>nomatch h)))))),(all_cons ⟨k0,VP⟩ (all_cons ⟨k1,VG⟩ (all_cons ⟨k2,Vy⟩ (all_cons ⟨k3,Vq⟩ (all_cons ⟨k4,Vi⟩ (fun _ h=>nomatch h)))))),(all_cons ⟨k0,VO⟩ (all_cons ⟨k1,VF⟩ (all_cons ⟨k2,Vx⟩ (all_cons ⟨k3,Vp⟩ (all_cons ⟨k4,Vh⟩ (fun _ h=>nomatch h)))))),(all_cons ⟨k0,VN⟩ (all_cons ⟨k1,VE⟩ (all_cons ⟨k2,Vw⟩ (all_cons ⟨k3,Vo⟩ (all_cons ⟨k4,Vg⟩ (fun _ h=>nomatch h)))))),(all_cons ⟨k0,VM⟩ (all_cons ⟨k1,VD⟩ (all_cons ⟨k2,Vv⟩ (all_cons ⟨k3,Vn⟩ (all_cons ⟨k4,Vf⟩ (fun _ h=>nomatch h)))))),(all_cons ⟨k0,VL⟩ (all_cons ⟨k1,VC⟩ (all_cons ⟨k2,Vu⟩ (all_cons ⟨k3,Vm⟩ (all_cons ⟨k4,Ve⟩ (fun _ h=>nomatch h)))))),k0,k1,k2,k3,k4,k5,Vb,Va,U_,U9,U8,Ny X G b_all,Ny X G b_dict,Ny X G b_enumerate,Ny X G b_int,Ny X G b_isinstance,Ny X G b_len,Ny X G b_list,Ny X G b_min,Ny X G b_range,Ny X G b_sorted,Ny X G b_tuple,Ny X G b_zip,qG (PySem.W.mg_of X G kn0),CY (vs:=[.str "",.int 0,.int 0]) (PySem.W.mg_of X G kn1) kl1 (by show 3<=Mp;decide) (.cons ⟨_,rfl⟩ (.cons ⟨_,rfl⟩ (.cons ⟨_,rfl⟩ .nil))) fun _=>(RDs.cons lC (RDs.cons dw (RDs.cons dw RDs.nil))),qG (PySem.W.mg_of X G kn2),qG (PySem.W.mg_of X G kn3),PySem.W.mg_of X G c3a,(all_cons ⟨⟨k0,RY,RC,RB,RX⟩,SX⟩ (all_cons ⟨⟨k1,Sv,RC,RB,Su⟩,TD⟩ (all_cons ⟨⟨k2,R0,RC,RB,RZ⟩,SY⟩ (all_cons ⟨⟨k3,R8,RC,RB,R7⟩,Tc⟩ (all_cons ⟨⟨k4,Sh,RC,RB,Sg⟩,Tr⟩ (fun _ h=>nomatch h)))))),PySem.W.mg_of X G c4a,(all_cons ⟨⟨k0,RY,RC,RB,RX⟩,S9⟩ (all_cons ⟨⟨k1,Sv,RC,RB,Su⟩,T2⟩ (all_cons ⟨⟨k2,R0,RC,RB,RZ⟩,S_⟩ (all_cons ⟨⟨k3,R8,RC,RB,R7⟩,Ts⟩ (all_cons ⟨⟨k4,Sh,RC,RB,Sg⟩,TF⟩ (fun _ h=>nomatch h)))))),PySem.W.mg_of X G c1a,(all_cons ⟨⟨k0,RY,RC,RB,RX⟩,To⟩ (all_cons ⟨⟨k1,Sv,RC,RB,Su⟩,Uj⟩ (all_cons ⟨⟨k2,R0,RC,RB,RZ⟩,Tp⟩ (all_cons ⟨⟨k3,R8,RC,RB,R7⟩,TH⟩ (all_cons ⟨⟨k4,Sh,RC,RB,Sg⟩,T3⟩ (fun _ h=>nomatch h)))))),PySem.W.mg_of X G c2a,(all_cons ⟨⟨k0,RY,RC,RB,RX⟩,SJ⟩ (all_cons ⟨⟨k1,Sv,RC,RB,Su⟩,Tq⟩ (all_cons ⟨⟨k2,R0,RC,RB,RZ⟩,SK⟩ (all_cons ⟨⟨k3,R8,RC,RB,R7⟩,SZ⟩ (all_cons ⟨⟨k4,Sh,RC,RB,Sg⟩,Ta⟩ (fun _ h=>nomatch h))))))⟩
 have F:=mh (st:=sF) l c;refine⟨PySem.W.fnOf "law" "law" (eX sF) (dB sF) (ak sF) .none kV dc pm an cd ct,fun s v=>.of_eq rfl,fun base _ _=>?_⟩;have RM:=mQ P w base X G Tf fun F=>rq F T ;have Rq:=mQ P w base X G TR fun F=>u_ F T ;have Rz:=mQ P w base X G TN fun F=>u7 F T ;have SF:=mQ P w base X G Up fun F=>y9 F T Rq Rz;have Ss:=mQ P w base X G Uf fun F=>xu F T ;have R1:=mQ P w base X G TM fun F=>u6 F T ;have Rs:=mQ P w base X G TL fun F=>u5 F T ;have RH:=mQ P w base X G T_ fun F=>xn F T Rs;have RN:=mQ P w base X G SL fun F=>oF F T ;have RT:=mQ P w base X G Uo fun F=>y8 F T RN;have Q7:=L_ P w base X G c0a SB fun F=>nA F T ;have TC:=J9 P w base X G c1a VI VJ Ti fun F=>rA F T Q7;have Sd:=J9 P w base X G c2a VA VB SH fun F=>nB F T Q7;have Sw:=J9 P w base X G c3a Vs Vt SS fun F=>oK F T Q7;have SU:=J9 P w base X G c4a Vk Vl S7 fun F=>qh F T Q7;have RF:=mQ P w base X G T9 fun F=>xm F T Sw SU TC Sd;have SV:=mQ P w base X G Uv fun F=>AS F T ;have Ra:=l9 P w base T.cl_Dress TB fun F=>iz F T ;have Q9:=l9 P w base T.cl_Strike Th fun F=>iz F T ;have Q8:=l9 P w base T.cl_Stroke Tg fun F=>iz F T ;have Rk:=l9 P w base T.cl_Put Ug fun F=>xv F T Rs;have Rg:=l9 P w base T.cl_Move T0 fun F=>vh F T Rs;have SE:=mQ P w base X G Um fun F=>y6 F T SV RT R1 RH RF Q8 Rk Q9 Ra Rg;have Sf:=mQ P w base X G UB fun F=>Ct F T ;have So:=mQ P w base X G Ua fun F=>xo F T Q8 Rk Q9 Ra Rg;have Sq:=mQ P w base X G Ub fun F=>xp F T RT So Sf RF;have RV:=mQ P w base X G S0 fun F=>p9 F T RH Q8 Rk Q9 Ra Rg;have Ri:=l9 P w base T.cl_Dress S8 fun F=>df F T ;have Rl:=l9 P w base T.cl_Move Tk fun F=>df F T ;have Rp:=l9 P w base T.cl_Put Tu fun F=>df F T ;have Re:=l9 P w base T.cl_Strike SN fun F=>df F T ;have Rc:=l9 P w base T.cl_Stroke SM fun F=>df F T ;have R6:=mQ P w base X G Te fun F=>rp F T Rc Rp Re Ri Rl;have Sc:=mQ P w base X G Tt fun F=>tq F T Q8 Rk Q9 Ra Rg Rc Rp Re Ri Rl;have Sj:=mQ P w base X G TK fun F=>u0 F T Rc Rp Re Ri Rl;have Se:=mQ P w base X G UA fun F=>Cs F T Sq Sf RV R6 SE Sc Sj;have Ry:=mQ P w base X G Ut fun F=>AQ F T Se;have Rt:=l9 P w base T.cl_Paper S5 fun F=>qf F T ;have Ru:=l9 P w base T.cl_Paper TW fun F=>vd F T Ry Rt;have RI:=mQ P w base X G Uc fun F=>xq F T ;have RJ:=mQ P w base X G Ud fun F=>xr F T ;have Q_:=l9 P w base T.cl_Paper Tw fun F=>tw F T Se Rt;have SD:=l9 P w base T.cl_Put Ux fun F=>AU F T ;have R9:=l9 P w base T.cl_Strike TU fun F=>va F T ;have Si:=l9 P w base T.cl_Dress Ui fun F=>xx F T ;have Sn:=l9 P w base T.cl_Move Uq fun F=>y_ F T ;have Rf:=l9 P w base T.cl_Paper TZ fun F=>vg F T SD R9 Si Sn;have Q6:=l9 P w base T.cl_Paper Sy fun F=>lF F T ;have Q5:=l9 P w base T.cl_Paper Sx fun F=>lE F T ;have Rx:=l9 P w base T.cl_Paper Uh fun F=>xw F T RJ RI Q6 Q5 Rf Q_ TC;have Rn:=mQ P w base X G S2 fun F=>qa F T ;have Rm:=mQ P w base X G S1 fun F=>p_ F T ;have RU:=l9 P w base T.cl_Paper Tj fun F=>rB F T Rn Rm Q6 Q5 Rf Q_ Sd;have R5:=Lp P w base T.cl_Paper Tz (fun d s us X hl=>(fun (hl':us.length=5)=>match us,hl' with|[_,_,_,_,_],_=>PySem.W.binds_K X rfl d rfl rfl rfl) (by simpa using hl)) fun F=>tx F T Rn Rm Q6 Q5 Rf Q_ Sw
 have Sa:=l9 P w base T.cl_Paper TX fun F=>ve F T Rx;have Sb:=l9 P w base T.cl_Paper TY fun F=>vf F T RJ RI Rn Rm Q6 Q5 Rf Q_ SU;have SW:=mQ P w base X G Uw fun F=>AT F T Rz R5 Sb Sa Rx RU Ru;have Rr:=l9 P w base T.cl_Paper SC fun F=>mD F T ;have Rh:=l9 P w base T.cl_Paper S4 fun F=>qe F T Rr;have Rv:=l9 P w base T.cl_Paper SA fun F=>lH F T ;have Rj:=l9 P w base T.cl_Paper Tv fun F=>tu F T Rv;have Ro:=l9 P w base T.cl_Paper Sz fun F=>lG F T Rj;have RA:=l9 P w base T.cl_Paper SI fun F=>nC F T Ro;have R_:=l9 P w base T.cl_Paper TV fun F=>vc F T Ro;have Sr:=mQ P w base X G Ue fun F=>xt F T SW Rq RA Rh R_;have Rb:=l9 P w base T.cl_Paper S6 fun F=>qg F T ;have RW:=mQ P w base X G S3 fun F=>qc F T Rj Rb;have Tl:=mQ P w base X G UC fun F=>Cu F T ;have RK:=l9 P w base T.cl_Paper SO fun F=>oG F T Rr;have RL:=l9 P w base T.cl_Paper SQ fun F=>oH F T ;have RP:=mQ P w base X G Uu fun F=>AR F T Tl Ry RL RK Rb Rh;have R4:=mQ P w base X G TQ fun F=>u9 F T RW RP Ry Rj Rb Ru Rh;have T1:=J9 P w base X G c5a Vc Vd SR fun F=>oJ F T ;exact Io F T RM Rq SF Ss R4 Sr T1
end RQ
open PySem PySem.W PyProof.Rows
local macro_rules | `(tactic| walk_at "gq") => `(tactic| first | k_is | kernel_rfl | (refine' L3.fnG_mk ?a ?l ?c ?k; (case a => k_is); (case l => k_is); (case c => k_is); (case k => k_is)) | (refine' L3.mtG_mk ?a ?i ?l ?c ?k; (case a => k_is); (case i => k_is); (case l => k_is); (case c => k_is); (case k => k_is)) | (refine' L2.Cls.mk ?a ?b ?c ?d; (case a => k_is); (case b => k_is); (case c => k_is); (case d => k_is)) | (refine' L3.mtD_mk ?a ?i ?l ?c ?k ?d; (case a => k_is); (case i => k_is); (case l => k_is); (case c => k_is); (case k => k_is); (case d => k_is)) | (refine' L3.cfG_mk ?g ?r ?a ?l ?c ?k; (case g => k_is); (case r => k_is); (case a => k_is); (case l => k_is); (case c => k_is); (case k => k_is)) | skip)
def PySem.W.Fast.tw12588538547120552863 : Nat := 0
def PySem.W.Fast.tw4179289622184474801 : Nat := 0
def PySem.W.Fast.tw15487382392866105682 : Nat := 0
def PySem.W.Fast.tw11518064968251768541 : Nat := 0
def PySem.W.Fast.tw17980375192197615316 : Nat := 0
def PySem.W.Fast.tw914099742194167585 : Nat := 0
def PySem.W.Fast.tw3861083672678147516 : Nat := 0
def PySem.W.Fast.tw16516909429442073559 : Nat := 0
def PySem.W.Fast.tw9744860766799819649 : Nat := 0
def PySem.W.Fast.tw4294092454720304730 : Nat := 0
def PySem.W.Fast.tw14330115881840341540 : Nat := 0
def PySem.W.Fast.tw9498244139285912156 : Nat := 0
def PySem.W.Fast.tw2527123382686499833 : Nat := 0
def PySem.W.Fast.tw7656062955213018713 : Nat := 0
def PySem.W.Fast.tw11490366557259032949 : Nat := 0
def PySem.W.Fast.tw3362217037669209946 : Nat := 0
def PySem.W.Fast.tw4540967771962283556 : Nat := 0
def PySem.W.Fast.tw6647435868872595275 : Nat := 0
def PySem.W.Fast.tw6421033907400323664 : Nat := 0
def PySem.W.Fast.tw3966167604490071375 : Nat := 0
def PySem.W.Fast.tw14567383754818859723 : Nat := 0
def PySem.W.Fast.tw16552738484629259897 : Nat := 0
def PySem.W.Fast.tw5331538530100241035 : Nat := 0
def PySem.W.Fast.tw17527698134539364375 : Nat := 0
def PySem.W.Fast.tw813154705428782177 : Nat := 0
def PySem.W.Fast.tw18118302081032793540 : Nat := 0
def PySem.W.Fast.tw7674525620581351268 : Nat := 0
def PySem.W.Fast.tw1805146536155734650 : Nat := 0
def PySem.W.Fast.tw10004223386238317573 : Nat := 0
def PySem.W.Fast.tw8617078683330647330 : Nat := 0
def PySem.W.Fast.tw12697611611664128262 : Nat := 0
def PySem.W.Fast.tw8047134425306835100 : Nat := 0
def PySem.W.Fast.tw15817555101993890687 : Nat := 0
def PySem.W.Fast.tw12018850076780744187 : Nat := 0
def PySem.W.Fast.tw10542644388380238462 : Nat := 0
def PySem.W.Fast.tw16652577494240955249 : Nat := 0
def PySem.W.Fast.tw590351777302474299 : Nat := 0
def PySem.W.Fast.tw16680395152124964576 : Nat := 0
def PySem.W.Fast.tw10244919117951386667 : Nat := 0
def PySem.W.Fast.tw10911215733272223539 : Nat := 0
def PySem.W.Fast.tw8834944914527234023 : Nat := 0
def PySem.W.Fast.tw7853445980481752615 : Nat := 0
def PySem.W.Fast.tw5360694766288760659 : Nat := 0
def PySem.W.Fast.tw18313584125886041732 : Nat := 0
def PySem.W.Fast.tw18392272589316732120 : Nat := 0
def PySem.W.Fast.tw12038162758457116696 : Nat := 0
def PySem.W.Fast.tw13286953850551404407 : Nat := 0
def PySem.W.Fast.tw4314349853549000584 : Nat := 0
def PySem.W.Fast.tw9118085948562607486 : Nat := 0
def PySem.W.Fast.tw4706987356709005920 : Nat := 0
def PySem.W.Fast.tw17514254446943883546 : Nat := 0
def PySem.W.Fast.tw13011553127298666606 : Nat := 0
def PySem.W.Fast.tw3151008182153208865 : Nat := 0
def PySem.W.Fast.tw14214280816337138383 : Nat := 0
def PySem.W.Fast.tw1564728521750021842 : Nat := 0
def PySem.W.Fast.tw3127995336190909752 : Nat := 0
def PySem.W.Fast.tw15601864026596268066 : Nat := 0
def PySem.W.Fast.tw7945876239978675953 : Nat := 0
def PySem.W.Fast.tw11111216574066896025 : Nat := 0
def PySem.W.Fast.tw9979627796296280332 : Nat := 0
def PySem.W.Fast.tw5832182229561624406 : Nat := 0
def PySem.W.Fast.tw12556102404642997303 : Nat := 0
def PySem.W.Fast.tw7246614824305141705 : Nat := 0
def PySem.W.Fast.tw6052045722279544529 : Nat := 0
def PySem.W.Fast.tw13203720471151802217 : Nat := 0
def PySem.W.Fast.tw11597416456114885915 : Nat := 0
def PySem.W.Fast.tw9762484534080560054 : Nat := 0
def PySem.W.Fast.tw11481365648499519405 : Nat := 0
def PySem.W.Fast.tw7050621551457226643 : Nat := 0
def PySem.W.Fast.tw6341504009146710880 : Nat := 0
def PySem.W.Fast.tw16640342585145182182 : Nat := 0
def PySem.W.Fast.tw13372732843717152629 : Nat := 0
def PySem.W.Fast.tw5503069402342848961 : Nat := 0
def PySem.W.Fast.tw8233275346180127027 : Nat := 0
def PySem.W.Fast.tw12247240654477826281 : Nat := 0
def PySem.W.Fast.tw7291619733570690754 : Nat := 0
def PySem.W.Fast.tw9821000662176529922 : Nat := 0
def PySem.W.Fast.tw9617869317669153065 : Nat := 0
def PySem.W.Fast.tw7387799091421376611 : Nat := 0
def PySem.W.Fast.tw10087679038551701077 : Nat := 0
def PySem.W.Fast.tw17801916088686456849 : Nat := 0
def PySem.W.Fast.tw14483239427190124352 : Nat := 0
def PySem.W.Fast.tw17266965963318735576 : Nat := 0
def PySem.W.Fast.tw17883927033428920487 : Nat := 0
def PySem.W.Fast.tw6401928293611737841 : Nat := 0
def PySem.W.Fast.tw520972552545086410 : Nat := 0
def PySem.W.Fast.tw9398142348968606487 : Nat := 0
def PySem.W.Fast.tw6102710574733573351 : Nat := 0
def PySem.W.Fast.tw13170703022647128000 : Nat := 0
def PySem.W.Fast.tw14510943868701664646 : Nat := 0
def PySem.W.Fast.tw16895983763534871715 : Nat := 0
def PySem.W.Fast.tw2789933186688155023 : Nat := 0
def PySem.W.Fast.tw13721914793523601769 : Nat := 0
def PySem.W.Fast.tw1958511813560587056 : Nat := 0
def PySem.W.Fast.tw13239232073021354782 : Nat := 0
def PySem.W.Fast.tw15226517540244415667 : Nat := 0
def PySem.W.Fast.tw7391758154325348839 : Nat := 0
def PySem.W.Fast.tw7145600321015248970 : Nat := 0
def PySem.W.Fast.tw9815218974201054246 : Nat := 0
def PySem.W.Fast.tw16183578418514445533 : Nat := 0
def PySem.W.Fast.tw6061023801184316166 : Nat := 0
def PySem.W.Fast.tw7068555389971801280 : Nat := 0
def PySem.W.Fast.tw11269883617769454688 : Nat := 0
def PySem.W.Fast.tw3550078181141833177 : Nat := 0
def PySem.W.Fast.tw14756401135975911069 : Nat := 0
def PySem.W.Fast.tw325299534829825271 : Nat := 0
def PySem.W.Fast.tw2422937197860580101 : Nat := 0
def PySem.W.Fast.tw7100018903634734442 : Nat := 0
def PySem.W.Fast.tw4469507149824929142 : Nat := 0
def PySem.W.Fast.tw3633561719391564812 : Nat := 0
def PySem.W.Fast.tw12150190736142748623 : Nat := 0
def PySem.W.Fast.tw13535456782817193374 : Nat := 0
def PySem.W.Fast.tw13103667754216577583 : Nat := 0
def PySem.W.Fast.tw7903249087755400916 : Nat := 0
def PySem.W.Fast.tw9117116173484768672 : Nat := 0
def PySem.W.Fast.tw17535184185760521199 : Nat := 0
def PySem.W.Fast.tw10834708411570428407 : Nat := 0
def PySem.W.Fast.tw12493734197669620822 : Nat := 0
def PySem.W.Fast.tw2799673974276122301 : Nat := 0
def PySem.W.Fast.tw7880117922487233811 : Nat := 0
def PySem.W.Fast.tw16563711390363066621 : Nat := 0
def PySem.W.Fast.tw1454824189146256551 : Nat := 0
def PySem.W.Fast.tw9830459374608939295 : Nat := 0
def PySem.W.Fast.tw4237987406089458847 : Nat := 0
def PySem.W.Fast.tw6538727533484662505 : Nat := 0
def PySem.W.Fast.tw11398997962742087965 : Nat := 0
def PySem.W.Fast.tw928682723464495382 : Nat := 0
def PySem.W.Fast.tw9951379947253775687 : Nat := 0
def PySem.W.Fast.tw12542143479756455111 : Nat := 0
def PySem.W.Fast.tw9910725558960748870 : Nat := 0
def PySem.W.Fast.tw7441460423789644049 : Nat := 0
def PySem.W.Fast.tw4751641472750896197 : Nat := 0
def PySem.W.Fast.tw16223686343957530768 : Nat := 0
def PySem.W.Fast.tw4586442705196876999 : Nat := 0
def PySem.W.Fast.tw11156899340178320260 : Nat := 0
def PySem.W.Fast.tw10897293325321232539 : Nat := 0
def PySem.W.Fast.tw11102069097366993550 : Nat := 0
def PySem.W.Fast.tw6880681275661824722 : Nat := 0
def PySem.W.Fast.tw10756102993677725741 : Nat := 0
def PySem.W.Fast.tw3480750683856513329 : Nat := 0
def PySem.W.Fast.tw11152908065587789435 : Nat := 0
def PySem.W.Fast.tw9489214600562054029 : Nat := 0
def PySem.W.Fast.tw13085871297734734784 : Nat := 0
def PySem.W.Fast.tw6084770861802391408 : Nat := 0
def PySem.W.Fast.tw6651466869101110943 : Nat := 0
def PySem.W.Fast.tw15471707901880517593 : Nat := 0
def PySem.W.Fast.tw8435655347687736778 : Nat := 0
def PySem.W.Fast.tw8945156664871369690 : Nat := 0
def PySem.W.Fast.tw3655208260920769277 : Nat := 0
def PySem.W.Fast.tw17171886182898555539 : Nat := 0
def PySem.W.Fast.tw16477148757456495481 : Nat := 0
def PySem.W.Fast.tw3615725818867595936 : Nat := 0
def PySem.W.Fast.tw382734219894026455 : Nat := 0
def PySem.W.Fast.tw114657096179036856 : Nat := 0
def PySem.W.Fast.tw11756511621430442472 : Nat := 0
def PySem.W.Fast.tw12399174094679315787 : Nat := 0
def PySem.W.Fast.tw4973641308975730316 : Nat := 0
def PySem.W.Fast.tw11824799622231336126 : Nat := 0
def PySem.W.Fast.tw13743356459531732501 : Nat := 0
def PySem.W.Fast.tw15733486882916458332 : Nat := 0
def PySem.W.Fast.tw17315602732411429420 : Nat := 0
def PySem.W.Fast.tw13256629386912627662 : Nat := 0
def PySem.W.Fast.tw4365429445777384085 : Nat := 0
def PySem.W.Fast.tw1383746761396143083 : Nat := 0
def PySem.W.Fast.tw8961727649034097701 : Nat := 0
def PySem.W.Fast.tw13157022247397911992 : Nat := 0
def PySem.W.Fast.tw10818982027656946141 : Nat := 0
def PySem.W.Fast.tw18159970202695370131 : Nat := 0
def PySem.W.Fast.tw7423023642379236234 : Nat := 0
def PySem.W.Fast.tw14183534771399023986 : Nat := 0
def PySem.W.Fast.tw1670784940698261085 : Nat := 0
def PySem.W.Fast.tw10970515763994185228 : Nat := 0
def PySem.W.Fast.tw5636048238214897767 : Nat := 0
def PySem.W.Fast.tw18149473310819667777 : Nat := 0
def PySem.W.Fast.tw588131728357094293 : Nat := 0
def PySem.W.Fast.tw8286596382794167171 : Nat := 0
def PySem.W.Fast.tw23732570904556696 : Nat := 0
def PySem.W.Fast.tw15784813043610080054 : Nat := 0
def PySem.W.Fast.tw18417562669857246445 : Nat := 0
def PySem.W.Fast.tw977716039001200400 : Nat := 0
def PySem.W.Fast.tw13522883298430667727 : Nat := 0
def PySem.W.Fast.tw13630188058023279504 : Nat := 0
def PySem.W.Fast.tw12001690543089521230 : Nat := 0
def PySem.W.Fast.tw2516858942843932793 : Nat := 0
def PySem.W.Fast.tw10690379438857056949 : Nat := 0
def PySem.W.Fast.tw10361207228150809869 : Nat := 0
def PySem.W.Fast.tw14748948782911147061 : Nat := 0
def PySem.W.Fast.tw13102191343437193539 : Nat := 0
def PySem.W.Fast.tw16461923203356065914 : Nat := 0
def PySem.W.Fast.tw6224414024157514022 : Nat := 0
def PySem.W.Fast.tw14100051019903695012 : Nat := 0
def PySem.W.Fast.tw13256130397900659067 : Nat := 0
def PySem.W.Fast.tw14294378883748755567 : Nat := 0
def PySem.W.Fast.tw17793315288858768848 : Nat := 0
def PySem.W.Fast.tw3690738736872663088 : Nat := 0
def PySem.W.Fast.tw14405072388381716077 : Nat := 0
set_option maxRecDepth 100000 in
set_option maxHeartbeats 0 in
theorem PySem.Challenge.cw_redquill_k61_outcomes_of_choices_holds : PySem.Challenge.rw_redquill_k61_outcomes_of_choices.Holds := by
 w_on;o_law;k_head;(case hw=>w_witness2)
 k_fill
 refine L3.walk3 (l:=PySem.Challenge.rw_redquill_k61_outcomes_of_choices) (k:=12) (x:="_law_script") rfl rfl ⟨rfl,by decide,by decide⟩ (fun w h Y=>PySem.W.kIn_of Y) ?F
 case F=>
  intro w mg fa h KX G hmg;refine' RQ.all_mk KX G hmg ?_ ?_ ?_ ?_ ?_ ?_ ?_ ?_ ?_ ?_ ?_ ?_ ?_ ?_ ?_ ?_ ?_ ?_ ?_ ?_ ?_ ?_ ?_ ?_ ?_ ?_ ?_ ?_ ?_ ?_ ?_ ?_ ?_ ?_ ?_ ?_ ?_ ?_ ?_ ?_ ?_ ?_ ?_ ?_ ?_ ?_ ?_ ?_ ?_ ?_ ?_ ?_ ?_ ?_ ?_ ?_ ?_ ?_ ?_ ?_ ?_ ?_ ?_ ?_ ?_ ?_ ?_ ?_ ?_ ?_ ?_ ?_ ?_ ?_ ?_ ?_ ?_ ?_ ?_ ?_ ?_ ?_ ?_ ?_ ?_ ?_ ?_ ?_ ?_ ?_ ?_ ?_ ?_ ?_ ?_ ?_ ?_ ?_ ?_ ?_ ?_ ?_ ?_ ?_ ?_ ?_ ?_ ?_ ?_ ?_ ?_ ?_ ?_ ?_ ?_ ?_ ?_ ?_ ?_ ?_ ?_ ?_ ?_ ?_ ?_ ?_ ?_ ?_ ?_ ?_ ?_ ?_ ?_ ?_ ?_ ?_ ?_ ?_ ?_ ?_ ?_ ?_ ?_ ?_ ?_ ?_ ?_ ?_ ?_ ?_ ?_ ?_ ?_ ?_ ?_ ?_ ?_ ?_ ?_ ?_ ?_ ?_ ?_ ?_ ?_ ?_ ?_ ?_ ?_ ?_ ?_ ?_ ?_ ?_ ?_ ?_ ?_ ?_ ?_ ?_ ?_ ?_ ?_
  all_goals walk_at "gq"
