import PyProof.Rows.All
import Wide.All
import OpenK.AllK
import Wide.FinOn
import Lean
import PyProof.EqAt
import PyProof.EqKinds
import PyProof.TupleCall
import PySem.Challenge.RW_redquill_k52_whole_as_upon_a_plain_text
set_option Elab.async false
set_option linter.all false
set_option maxRecDepth 100000
set_option maxHeartbeats 4000000
open PySem renaming wpAny_bind->MT,Addr->MU,Value->MV,Shared->MW,wpAny_pure->MX,sizeLine->M4,wpAny->M5,FuncData->M7,model->M9,starEach->M_,mainGlobals->Nd,Program->Nf,Around->Nh,World->Nn,Heap->No,Expr->Np,Stmt->Nu,compareOp->NA,wpAny_newObj_type->NC,tupleKind_room_in1->NJ,sysModules->NK,cLine->NM,wpAny_passesOwn->NN,wpAny_holding->NO,behindInMarks->NQ,wpAny_mono->NR,wpAny_call_entry->NU,wpAny_callSpecial?_slot->NV,foldedSetIterable->NZ,sizeLine_eq->N3,wpAny_setField_rec->N5,tupleKind->N6,backTo->N9,wpAny_field->Od,binaryOp->Oi,wpAny_truthy_bool->Om,bootBuiltins->On,attributeBase->Op,wpAny_typeNameOfWhole_valiter->Ow,wpAny_typeNameOfWhole_keyiter->Ox,sliceBounds->Oy,keywordEach->Oz,pyNext->OB,assignEach->OD,wpAny_dictEntries->OL,wpAny_seqItems->ON,swapsWith->OP,wpAny_typeNameOf_valiter->OS,wpAny_typeNameOf_keyiter->OT,wpAny_attempt->OU,wpAny_dictEpoch->OX,letOwnedTupleGo->OY,wpAny_Call_Name_kw->OZ,rawInt->O0,IsPair->O2,Scope->Pc,backToKw->Pl,atKey->Pm,wpAny_execs_nil->Pn,standAt->Pq,codeAny->Ps,getMethod->Pt,pyIter->Pu,getattributeRaised->Px,NameKind->PB,wpAny_pyIter_list->PF,strIterType->PH,Paired->PM,CmpOp->PR,getItem->PX,codeAny_mono->PY,wpAny_notOrdered_dict->P6,wpAny_isOneOf_valiter->P7,builtinLookup_eq_fast->P8,wpAny_updateSeq_pair->P_,wpAny_setField->Qa,wpAny_fieldsOf->Qb,firstArgMember->Qd,storedH->Qg,callerA->Qi,PassesOwn->Qj,Keyword->Qk,wpAny_standAt->Qm,wpAny_onRaise->Qn,wpAny_rule->Qq,typeLookup->Qr,IsPart->Qu,wpAny_pyIter_slot->Qv,valueAt->Qw,getAttr?->Qz,call_meetsIn->QA,callWith->QB,wpAny_isInstance->QF,wpAny_letGo->QI,subscripted->QJ,typeLookup_type->QO,relabel->QP,BindsTo->QR,wpAny_newTuple->QS,isSubtype_stop->QV,wpAny_comprehension_free->QY,meetsH_dict_get_default->Q2,bindL->Q6,bindC->Q7,wpAny_typeOf->Q_,wpAny_pyNext_list_item->Ra,isTrue->Rc,concat_meets->Re,wpAny_pyNext_list_end->Rk,wpAny_isTrue_Compare1->Rl,wpAny_isOneOf_keyiter->Rm,setField->Ro,seqIndex_of->Rp,loadIfAlive->Rq,codeAny_forLoop_any->Rx,wpAny_setItem_heap->Ry,wpAny_getItem_heap->Rz,wpAny_dictSet_heap->RA,wpAny_call->RB,wpAny_Name->RC,typeIs_str->RF,sub_AttributeError->RH,sliceRange->RI,closureFor->RL,call_meets->RM,builtinsNs->RN,Result->RT,wpAny_assign_Name->RV,setItem->RY,Draws->R5
open List renaming length_map->MY,getElem?_eq_getElem->M1,mem_cons_of_mem->M3,mem_cons_self->M8,mem_of_getElem?->Na,size_toArray->Nb,getElem?_map->Ng,length_cons->Ni,length_append->Nj,map_cons->Nk,getD_eq_getElem?_getD->Nl,length_take->Nq,map_map->Nr,map_append->Nv,set_cons_zero->Nw,mem_append_right->Nx,find?_cons->Nz,take_length->ND,take_add_one->NF,length_nil->NG,mem_cons->NH,map_congr_left->NL,set_cons_succ->NP,getElem?_cons_zero->NS,getElem?_cons_succ->NT,length_drop->NW,getElem?_eq_none->NY,filterMap_cons->N0,not_mem_nil->N4,length_filter_le->N7,filter_cons_of_neg->N8,mem_of_mem_take->N_,lookup_cons->Oe,getElem_of_mem->Oh,append_nil->Oj,nodup_cons->Oo,take_append_drop->Ot,filterMap_append->Ou,nil_append->OC,mem_append_left->OG,length_take_le'->OI,getElem?_set_ne->OJ,cons_append->OO,zip_cons_cons->OR,filter_append->OV,forIn_cons->O1,getElem_mem->O4,flatMap_append->O9,of_mem_zip->Pe,map_nil->Pf,map_take->Pi,map_drop->Pj,filter_cons->Pk,pairwise_map->Pr,length_zip->Pw,foldl_cons->Py,drop_length->PJ,forIn_nil->PP,drop_zero->PQ,getElem_map->Qc,countP_cons->Qe,any_cons->Qf,mem_singleton->Qo,nodup_nil->QG,mem_append->RJ
open PySem.Str renaming ofString->MZ,length->PZ
open PySem.Heap renaming get?_push_of_some->M0,get?_push_size->M6,lt_size->Nc,size_push->Ol,SameBut->OE,get?_update_other->O_,get?_update_self->P9,get?_push_ne->R0
open Nat renaming lt_of_lt_of_le->Nt,ne_of_lt->NB,zero_le->NI,add_le_add->Oq,lt_or_ge->OH,lt_succ_self->O6,le_add_right->O7,sub_zero->Qx,ne_of_gt->Qy
open PySem.PassesOwn renaming never->Ny
open PySem.Builtin.SmallTypes renaming nextOf->NE,ownedTupleIsFree->Of,ownedTupleHandOut->Ql
open PySem.W renaming kitOne->Oa,mg_none_of->Og,kas_rev->OM,kas_tail3->O3,emptyDict->O5,kas_desc->O8,kia_one->Pg,methodCall_KW->PL,kas_descPart->PU,instObj->PV,kas_place->Qh,callWith_K->Qt,plainGet_of->QK,kas_bin->QQ,plainGet->QT,keepIn->QU,mroIn->Q0,methodObj->Q1,kas_count->Q4,hasDictIn->Q5,codeIn->Rf,kas_sort->Rr,Frag->Rt,lookIn->RK,KasT->RU,takesIn->RW,takerIn->RX
open PySem.Builtin.Dict_items renaming ownsTuple->Ob
open PySem.Builtin.Str renaming strSliceIndices->Oc
open PySem.Obj renaming mapSeq->Os,data_mapFields->Pz,mapFields->PN,isFreed_of_fields->Rn,cls_mapFields->RZ
open PySem.F renaming slot_dict_valueiterator_next->Ov,slot_dict_keyiterator_next->OK,slot_zip_next->P5,args_dict_valueiterator_next_1->QD,entry_dict_valueiterator_next->QE,args_dict_keyiterator_next_1->QH,entry_dict_keyiterator_next->QN,slot_dict_values_iter->Q8,args_zip_next_1->R4
open PyProof.Rows renaming seqObj->OA,AllBare->PK,get?_update_seq->P3,boot_isinstance->P4,listUpdate_at->Qp,envOfC->Qs,mirror_perm->QL,subscriptTail->QZ,subscriptTail_builtinR->Rb,IntsAre->Rg,bubble_size->Rs,Subscript_->RP,Call_->R6
open PySem.Calls renaming spliced_cons->OF,spliced_nil->Pa,callWith_builtin->P0,Name_function_global->QW,evalArgs_plain->Ru
open PySem.Builtin.Slice renaming slicePlaces->OQ,sliceAdjust->PD,sliceApplied->QX
open PySem.Builtin.Tuple renaming tupleExact->OW
open PySem.Builtin.Dict renaming showsAll->Pd,updateFrom->Q9,pairItems->Ri
open PySem.Paired renaming length->Ph,snoc->QM
open PySem.Heap.SameBut renaming update->Po,refl->R1
open PySem.Txt renaming join->QC
open PySem.Code renaming isFrame->Rh
open PySem.Around renaming under->Rj,under_plainId->Rv
noncomputable section
open PySem.W (binds_K)
open List (mem_filter mem_range mem_filterMap mem_map)
open Nat (le_trans le_of_lt le_refl)
local macro_rules | `(tactic| walk_at "j") => `(tactic| exact ⟨rfl, rfl, rfl, by decide +kernel, rfl, by decide +kernel, by decide +kernel⟩)
local macro_rules | `(tactic| walk_at "o") => `(tactic| first | assumption | exact le_trans (by decide) $(Lean.mkIdent `hs) | exact le_of_lt (by assumption) | exact le_trans (by assumption) (by assumption) | exact Nt (by assumption) (by assumption) | exact Nat.lt_of_le_of_lt (by assumption) (by assumption) | exact le_trans (by assumption) (le_trans (by decide) $(Lean.mkIdent `hs)) | omega)
namespace L2
open PySem PySem.Spec PyProof.Rows
abbrev aM:=Sum Int Str
def wy:aM->MV->Bool
 | .inl k,v=>Value.isInt k v
 | .inr x,v=>Value.isStrOf x v
def L5(w:Nn):aM->Int
 | .inl k=>hashInt k
 | .inr x=>hashStr w x
theorem dD:∀ {k:aM} {v:MV},wy k v=true->(∃ i t,k=Sum.inl i/\v=Value.int i t)\/(∃ x t,k=Sum.inr x/\v=Value.str x t)
 | .inl i,v,h=>by
  obtain⟨t,e⟩:=Value.isInt_shape (k:=i) (v:=v) h;exact .inl ⟨i,t,rfl,e⟩
 | .inr x,v,h=>by
  obtain⟨t,e⟩:=Value.isStrOf_shape (x:=x) (v:=v) h;exact .inr ⟨x,t,rfl,e⟩
theorem Dh(i:Int)(t:Tok):wy (.inl i) (.int i t)=true:=by simp[wy,Value.isInt]
theorem Dg(x:Str)(t:Tok):wy (.inr x) (.str x t)=true:=by simp[wy,Value.isStrOf]
theorem Jo(a b:Int):decide ((Sum.inl a:aM)=Sum.inl b)=(a == b):=by
 by_cases e:a=b
 ·subst e;simp
 ·have h:¬ (Sum.inl a:aM)=Sum.inl b:=fun q=>e (Sum.inl.inj q);rw[decide_eq_false h];exact (beq_eq_false_iff_ne.mpr e).symm
theorem Jk(a b:Str):decide ((Sum.inr a:aM)=Sum.inr b)=decide (a=b):=by
 by_cases e:a=b
 ·subst e;simp
 ·have h:¬ (Sum.inr a:aM)=Sum.inr b:=fun q=>e (Sum.inr.inj q);rw[decide_eq_false h,decide_eq_false e]
theorem Jn(a:Int)(b:Str):decide ((Sum.inl a:aM)=Sum.inr b)=false:=decide_eq_false (fun q=>nomatch q)
theorem Jl(a:Str)(b:Int):decide ((Sum.inr a:aM)=Sum.inl b)=false:=decide_eq_false (fun q=>nomatch q)
def bu(prog:Nf)(w:Nn):PySem.KeyKind prog w aM where
 is:=wy
 hash:=L5 w
 inj:=fun v a b ha hb=>by
  rcases dD ha with ⟨i,t,rfl,rfl⟩|⟨x,t,rfl,rfl⟩
  ·rcases dD hb with ⟨j,u,rfl,e⟩|⟨y,u,rfl,e⟩
   ·injection e with e1 _;rw[e1]
   ·exact nomatch e
  ·rcases dD hb with ⟨j,u,rfl,e⟩|⟨y,u,rfl,e⟩
   ·exact nomatch e
   ·injection e with e1 _;rw[e1]
 byValue:=fun k v h=>by
  rcases dD h with ⟨i,t,rfl,rfl⟩|⟨x,t,rfl,rfl⟩<;>rfl
 pyHash:=fun hv h=>by
  rcases dD hv with ⟨i,t,rfl,rfl⟩|⟨x,t,rfl,rfl⟩
  ·exact wpAny_pyHash_int h
  ·exact wpAny_pyHash_str h
 eqBool:=fun hu hv h=>by
  rcases dD hu with ⟨i,t,rfl,rfl⟩|⟨x,t,rfl,rfl⟩
  ·rcases dD hv with ⟨j,u,rfl,rfl⟩|⟨y,u,rfl,rfl⟩
   ·rw[Jo]at h;exact wpAny_eqBool_int h
   ·rw[Jn]at h;exact SeqAt.EqAt.int_str i t y u _ _ _ _ h
  ·rcases dD hv with ⟨j,u,rfl,rfl⟩|⟨y,u,rfl,rfl⟩
   ·rw[Jl]at h;exact SeqAt.EqAt.str_int x t j u _ _ _ _ h
   ·rw[Jk]at h;exact wpAny_eqBool_str h
 «strs»:=fun k x t v h=>by
  rcases dD h with ⟨i,u,rfl,e⟩|⟨y,u,rfl,e⟩
  ·exact nomatch e
  ·injection e with e1 _
   subst e1;cases v<;>rfl
theorem zJ(prog:Nf)(w:Nn)(i:Int)(t:Tok):(bu prog w).is (.inl i) (.int i t)=true:=Dh i t
theorem zI(prog:Nf)(w:Nn)(x:Str)(t:Tok):(bu prog w).is (.inr x) (.str x t)=true:=Dg x t
set_option genInjectivity false in
inductive V where
 | non|bl (b:Bool)|int (i:Int)|str (x:Str)|byt (b:Array UInt8)|flt (b:UInt64)|ref (a:MU)|ty (n:String)
 deriving DecidableEq
def aN:V->MV->Prop
 | .non,u=>u=Value.none
 | .bl b,u=>u=Value.bool b
 | .int i,u=>∃ t,u=Value.int i t
 | .str x,u=>∃ t,u=Value.str x t
 | .byt b,u=>∃ t,u=Value.bytes b t
 | .flt b,u=>∃ t,u=Value.float b t
 | .ref a,u=>u=Value.ref a
 | .ty n,u=>u=Value.type n
abbrev Vals:List V->List MV->Prop:=PM aN
theorem Vals.length{xs:List V}{us:List MV}(r:Vals xs us):xs.length=us.length:=Ph r
theorem Vals.get:∀ {xs:List V} {us:List MV} {i:Nat} {x:V},Vals xs us->xs[i]?=some x->∃ u,us[i]?=some u/\aN x u
 | _,_,_,_,.nil,e=>by simp at e
 | _,_,0,_,.cons r _,e=>by simp at e;subst e;exact⟨_,rfl,r⟩
 | _,_,i+1,x,.cons _ t,e=>by
  obtain⟨u,h1,h2⟩:=Vals.get (i:=i) (x:=x) t (by simpa using e)
  exact⟨u,by simpa using h1,h2⟩
theorem Vals.set{x:V}{u:MV}(r:aN x u):∀ {xs:List V} {us:List MV} (i:Nat),Vals xs us->Vals (xs.set i x) (us.set i u)
 | _,_,_,.nil=>.nil
 | _,_,0,.cons _ t=>.cons r t
 | _,_,i+1,.cons q t=>.cons q (Vals.set r i t)
theorem Vals.append:∀ {xs ys:List V} {us ws:List MV},Vals xs us->Vals ys ws->Vals (xs ++ ys) (us ++ ws)
 | _,_,_,_,.nil,s=>s
 | _,_,_,_,.cons r t,s=>.cons r (Vals.append t s)
theorem Vals.take:∀ {xs:List V} {us:List MV} (n:Nat),Vals xs us->Vals (xs.take n) (us.take n)
 | _,_,0,_=>.nil
 | _,_,_+1,.nil=>.nil
 | _,_,n+1,.cons r t=>.cons r (Vals.take n t)
theorem Vals.drop:∀ {xs:List V} {us:List MV} (n:Nat),Vals xs us->Vals (xs.drop n) (us.drop n)
 | _,_,0,r=>r
 | _,_,_+1,.nil=>.nil
 | _,_,n+1,.cons _ t=>Vals.drop n t
def lu:Option V->Option MV->Prop
 | some v,some u=>aN v u
 | none,none=>True
 | _,_=>False
def KV{κ:Type}:List (κ×V)->List (κ×MV)->Prop:=PM fun (p:κ×V) (q:κ×MV)=>p.1=q.1/\aN p.2 q.2
def kV:aM->V
 | .inl i=>.int i
 | .inr x=>.str x
set_option genInjectivity false in
inductive HO where
 | lst (xs:List V)
 | tup (xs:List V)
 | dK (kvs:List (aM×V))|dT (kvs:List (List aM×V))
 | set (S:Int->Bool) (n:Nat)
 | ins (C dx:MU) (fs:List (Str×V))
 | own (x:MU)
 | xd (fs:List (Str×V))
 | met (f x:MU)
 | rng (lo hi:Int)
 | frz (o:Obj) (u:HO)
 | tbl (ps:Array MV)
 | ext (φ:No->Prop)
abbrev Hp:=MU->Option HO
def bG(H:Hp)(a:MU)(o:HO):Hp:=fun b=>if b=a then some o else H b
theorem aX{H:Hp}{a:MU}{o:HO}:bG H a o a=some o:=by unfold bG;rw[if_pos rfl]
theorem aB{H:Hp}{a b:MU}{o:HO}(h:b≠a):bG H a o b=H b:=by unfold bG;rw[if_neg h]
theorem KF{H:Hp}{a b:MU}{o u:HO}(h:H a=some o)(h':H b=some u)(d:o≠u):a≠b:=by
 intro e;subst e;rw[h]at h';exact d (Option.some.inj h')
theorem bW{H:Hp}{a b:MU}{o:HO}(h:H a=some o)(h':H b=none):a≠b:=by
 intro e;subst e;rw[h]at h';cases h'
section
variable(P:Nf)(w:Nn)
def v9(h:No)(a:MU)(items:Array MV):Prop:=∃ o,h.get? a=some o/\(o.cls=.type "tuple"/\o.dict=none)/\∃ n,o.data=.seq items n
def ce(H:Hp)(h:No)(a:MU):HO->Prop
 | .lst xs=>xs.length<=M4/\∃ (its:List MV) (n:Nat),Vals xs its/\h.get? a=some { cls:=.type "list",data:=.seq its.toArray n }
 | .tup xs=>xs.length<=M4/\∃ its:List MV,Vals xs its/\v9 h a its.toArray
 | .dK kvs=>kvs.length<=M4/\(a == NK)=false/\∃ vs,KV kvs vs/\h.DictOf (bu P w) a vs
 | .dT kvs=>kvs.length<=M4/\(a == NK)=false/\∃ xs:List (List aM×MU×MV),
   PM (fun (p:List aM×V) (q:List aM×MU×MV)=>p.1=q.1/\H q.2.1=some (.tup (p.1.map kV))/\aN p.2 q.2.2) kvs xs/\
   ∃ o es ep,h.get? a=some o/\o.ExactDict/\o.data=.dict es ep/\es.toList=xs.map (entryOfKey (N6 (bu P w)))/\(xs.map (·.1)).Nodup
 | .set S n=>h.SetOf (intKind P w) a S n
 | .ins C dx fs=>H dx=some (.own a)/\fs.length<=1000/\dx≠a/\h.get? a=some (PV C dx)/\
   ∃ mA,h.Ns1 dx mA/\(∀ f,lu (fs.lookup f) (mA f))/\PySem.Within mA (fs.map (·.1))
 | .own _=>∃ o,h.get? a=some o
 | .xd fs=>∃ mA,h.Ns1 a mA/\∀ f,lu (fs.lookup f) (mA f)
 | .rng lo hi=>∃ t u v,h.get? a=some { cls:=.type "range",data:=.fields #[.int lo t,.int hi u,.int 1 v] }
 | .frz o u=>h.get? a=some o/\ce H h a u
 | .tbl ps=>h.get? a=some { cls:=.none,data:=.fields ps }
 | .met f x=>h.get? a=some (Q1 (.ref f) (.ref x))
 | .ext φ=>φ h/\(∃ o,h.get? a=some o)/\∀ h1 h2:No,φ h1->(∀ o,h1.get? a=some o->h2.get? a=some o)->φ h2
theorem v9.new(h:No)(items:Array MV):v9 (h.push { cls:=.type "tuple",data:=.seq items }) h.objs.size items:=⟨_,M6 _ rfl,⟨rfl,rfl⟩,_,rfl⟩
theorem v9.tup{h:No}{a:MU}{items:Array MV}(x:v9 h a items):IsTup h a items:=let ⟨o,e,c,d⟩:=x;⟨o,e,c.1,d⟩
def oh(H:Hp)(h:No):Prop:=∀ a o,H a=some o->ce P w H h a o
end
section
variable{P:Nf}{w:Nn}{H H':Hp}{h h':No}{a:MU}{o:HO}
theorem ce.lt(x:ce P w H h a o):a < h.objs.size:=by
 cases o with
 | lst xs=>obtain⟨_,_,_,_,e⟩:=x;exact Nc e
 | tup xs=>obtain⟨_,_,_,p⟩:=x;exact p.tup.lt
 | dK kvs=>obtain⟨_,_,_,_,o,_,_,e,_⟩:=x;exact Nc e
 | dT kvs=>obtain⟨_,_,_,_,o,_,_,e,_⟩:=x;exact Nc e
 | set S n=>obtain⟨o,_,_,_,e,_⟩:=x;exact Nc e
 | ins C dx fs=>obtain⟨_,_,_,e,_⟩:=x;exact Nc e
 | own y=>obtain⟨_,e⟩:=x;exact Nc e
 | xd fs=>obtain⟨_,⟨_,_,_,e,_⟩,_⟩:=x;exact Nc e
 | rng lo hi=>obtain⟨_,_,_,e⟩:=x;exact Nc e
 | frz ob u=>obtain⟨e,_⟩:=x;exact Nc e
 | tbl ps=>exact Nc (show h.get? a=some _ from x)
 | met f y=>exact Nc (show h.get? a=some _ from x)
 | ext φ=>obtain⟨_,⟨_,e⟩,_⟩:=x;exact Nc e
theorem Paired.mapP{α β:Type}{F G:α->β->Prop}:∀ {l₁:List α} {l₂:List β},PM F l₁ l₂->(∀ a b,F a b->G a b)->PM G l₁ l₂
 | _,_,.nil,_=>.nil
 | _,_,.cons r t,f=>.cons (f _ _ r) (Paired.mapP t f)
theorem ce.stay(x:ce P w H h a o)(k:∀ b u,(b=a\/H b=some (.own a))->h.get? b=some u->h'.get? b=some u)
  (ho:∀ b,H b=some (.own a)->H' b=some (.own a)) (ht:∀ b xs,H b=some (.tup xs)->H' b=some (.tup xs)):ce P w H' h' a o:=by
 induction o with
 | lst xs=>obtain⟨z,its,n,r,e⟩:=x;exact⟨z,its,n,r,k _ _ (.inl rfl) e⟩
 | tup xs=>obtain⟨z,its,r,ob,e,c⟩:=x;exact⟨z,its,r,ob,k _ _ (.inl rfl) e,c⟩
 | dK kvs=>obtain⟨z,y,vs,r,ob,es,ep,e,c⟩:=x;exact⟨z,y,vs,r,ob,es,ep,k _ _ (.inl rfl) e,c⟩
 | dT kvs=>
  obtain⟨z,y,xs,r,ob,es,ep,e,c⟩:=x;exact⟨z,y,xs,Paired.mapP r fun p q z=>⟨z.1,ht _ _ z.2.1,z.2.2⟩,ob,es,ep,k _ _ (.inl rfl) e,c⟩
 | set S n=>obtain⟨ob,es,ep,t,e,c⟩:=x;exact⟨ob,es,ep,t,k _ _ (.inl rfl) e,c⟩
 | ins C dx fs=>
  obtain⟨d,z,ne,e,mA,⟨od,es,ep,e2,c⟩,r⟩:=x;exact⟨ho _ d,z,ne,k _ _ (.inl rfl) e,mA,⟨od,es,ep,k _ _ (.inr d) e2,c⟩,r⟩
 | own y=>obtain⟨ob,e⟩:=x;exact⟨ob,k _ _ (.inl rfl) e⟩
 | xd fs=>obtain⟨mA,⟨od,es,ep,e,c⟩,r⟩:=x;exact⟨mA,⟨od,es,ep,k _ _ (.inl rfl) e,c⟩,r⟩
 | rng lo hi=>obtain⟨t,u,v,e⟩:=x;exact⟨t,u,v,k _ _ (.inl rfl) e⟩
 | frz ob u ih=>obtain⟨e,q⟩:=x;exact⟨k _ _ (.inl rfl) e,ih q⟩
 | tbl ps=>
  have e:h.get? a=some { cls:=.none,data:=.fields ps }:=x;show h'.get? a=some { cls:=.none,data:=.fields ps }
  exact k a _ (.inl rfl) e
 | met f y=>
  have e:h.get? a=some (Q1 (.ref f) (.ref y)):=x;show h'.get? a=some (Q1 (.ref f) (.ref y))
  exact k a _ (.inl rfl) e
 | ext φ=>obtain⟨p,⟨o,e⟩,st⟩:=x;exact⟨st _ _ p fun o q=>k _ _ (.inl rfl) q,⟨o,k _ _ (.inl rfl) e⟩,st⟩
theorem oh.lt(x:oh P w H h)(e:H a=some o):a < h.objs.size:=(x a o e).lt
theorem oh.fresh(x:oh P w H h)(e:h.objs.size<=a):H a=none:=by
 cases q:H a with
 | none=>rfl
 | some u=>exact absurd (Nt (x.lt q) e) (Nat.lt_irrefl _)
theorem oh.kept(x:oh P w H h)(k:∀ b u,h.get? b=some u->h'.get? b=some u):oh P w H h':=fun a o e=>
 (x a o e).stay (fun b u _ q=>k b u q) (fun _ q=>q) fun _ _ q=>q
theorem oh.laid(x:oh P w H h)(k:∀ b u,h.get? b=some u->h'.get? b=some u)(hp:h.objs.size<=a)(new:ce P w (bG H a o) h' a o):oh P w (bG H a o) h':=fun b u e=>by
 have hn:=x.fresh hp
 by_cases hb:b=a
 ·subst hb;rw[aX]at e;cases e;exact new
 ·rw[aB hb]at e;exact (x b u e).stay (fun c v _ q=>k c v q) (fun c q=>by rw[aB (bW q hn)];exact q) fun c xs q=>by rw[aB (bW q hn)];exact q
end
def Rd(H:Hp)(a:MU)(u:HO):Prop:=H a=some u\/∃ o,H a=some (.frz o u)
theorem Rd.ok{P:Nf}{w:Nn}{H:Hp}{h:No}{a:MU}{u:HO}(r:Rd H a u)(x:oh P w H h):ce P w H h a u:=by
 rcases r with r|⟨o,r⟩
 ·exact x a u r
 ·obtain⟨_,q⟩:=x a _ r;exact q
def FM:Option HO->Prop
 | some (.lst _)=>True
 | some (.dK _)=>True
 | some (.dT _)=>True
 | some (.set _ _)=>True
 | some (.ins _ _ _)=>True
 | some (.ext _)=>True
 | _=>False
section
variable{P:Nf}{w:Nn}{H:Hp}{h h':No}{x e:MU}{o':HO}
theorem oh.write(ok:oh P w H h)(mu:FM (H x))(he:e=x\/H e=some (.own x))(k:∀ b u,b≠e->h.get? b=some u->h'.get? b=some u)(heo:∃ u,h'.get? e=some u)
  (new:ce P w (bG H x o') h' x o'):oh P w (bG H x o') h':=fun b u q=>by
 have VG:∀ c y,H c=some (.own y)->c≠x:=fun c y r z=>by subst z;rw[r]at mu;exact mu
 have VW:∀ c xs,H c=some (.tup xs)->c≠x:=fun c xs r z=>by subst z;rw[r]at mu;exact mu
 by_cases hb:b=x
 ·subst hb;rw[aX]at q;cases q;exact new
 ·rw[aB hb]at q
  by_cases hbe:b=e
  ·have q':H b=some (.own x):=by
    rcases he with z|z
    ·exact absurd (hbe.trans z) hb
    ·rw[hbe];exact z
   rw[q]at q';cases q';obtain⟨v,hv⟩:=heo;exact⟨v,by rw[hbe];exact hv⟩
  ·refine (ok b u q).stay (fun c v hc r=>k c v ?_ r) (fun c r=>by rw[aB (VG c b r)];exact r) fun c xs r=>by rw[aB (VW c xs r)];exact r
   rcases hc with rfl|hc
   ·exact hbe
   ·rintro rfl
    rcases he with z|z
    ·exact VG c b hc z
    ·rw[hc]at z;cases z;exact hb rfl
end
structure Un(fs ex:List MU)(H H':Hp)(h h':No):Prop where
 keep:∀ b o,h.get? b=some o->H b=none->b∉fs->b∉ex->h'.get? b=some o
 slot:∀ b o,h.get? b=some o->H b=none->b∈fs->b∉ex->∃ sl,h'.get? b=some { o with slots:=sl }
 free:∀ b o,h.get? b=some o->H b=none->b∉ex->H' b=none
 there:∀ b o,h.get? b=some o->b∉ex->∃ o',h'.get? b=some o'
 tups:∀ b xs,H b=some (.tup xs)->H' b=some (.tup xs)
 frzs:∀ b o u,H b=some (.frz o u)->H' b=some (.frz o u)
 tbls:∀ b ps,H b=some (.tbl ps)->∃ more,H' b=some (.tbl (ps ++ more))
section
variable{fs fs' ex ex':List MU}{H H1 H2:Hp}{h h1 h2 h':No}{a x e:MU}{o:HO}
theorem Un.any(u:Un fs ex H H1 h h1){b:MU}{ob:Obj}(q:h.get? b=some ob)(n:H b=none)(hx:b∉ex):∃ sl,h1.get? b=some { ob with slots:=sl }:=by
 by_cases hb:b∈fs
 ·exact u.slot b ob q n hb hx
 ·exact⟨ob.slots,u.keep b ob q n hb hx⟩
theorem Un.kept(k:∀ b u,h.get? b=some u->h'.get? b=some u):Un fs ex H H h h':=
 ⟨fun b ob q _ _ _=>k b ob q,fun b ob q _ _ _=>⟨ob.slots,k b ob q⟩,fun _ _ _ n _=>n,fun b ob q _=>⟨ob,k b ob q⟩,fun _ _ q=>q,fun _ _ _ q=>q,fun _ ps q=>⟨#[],by rw[q];simp⟩⟩
theorem Un.refl:Un fs ex H H h h:=Un.kept fun _ _ q=>q
theorem Un.laid(k:∀ b u,h.get? b=some u->h'.get? b=some u)(hp:h.objs.size<=a)(hn:H a=none):Un fs ex H (bG H a o) h h' where
 keep:=fun b u q _ _ _=>k b u q
 slot:=fun b u q _ _ _=>⟨u.slots,k b u q⟩
 free:=fun b u q n _=>by rw[aB (NB (Nt (Nc q) hp))];exact n
 there:=fun b u q _=>⟨u,k b u q⟩
 tups:=fun b xs q=>by rw[aB (bW q hn)];exact q
 frzs:=fun b u xs q=>by rw[aB (bW q hn)];exact q
 tbls:=fun b ps q=>⟨#[],by rw[aB (bW q hn),q];simp⟩
theorem Un.write(mu:FM (H x))(he:e=x\/H e=some (.own x))(k:∀ b u,b≠e->h.get? b=some u->h'.get? b=some u)(heo:∃ u,h'.get? e=some u):Un fs ex H (bG H x o) h h':=by
 have hx:∀ b,H b=none->b≠x:=fun b n z=>by subst z;rw[n]at mu;exact mu
 have hb:∀ b,H b=none->b≠e:=fun b n z=>by
  subst z;rcases he with r|r
  ·exact hx b n r
  ·rw[n]at r;cases r
 have hm:∀ b u,H b=some u->¬ FM (some u)->b≠x:=fun b u q nm z=>by subst z;rw[q]at mu;exact nm mu
 refine⟨fun b u q n _ _=>k b u (hb b n) q,fun b u q n _ _=>⟨u.slots,k b u (hb b n) q⟩,fun b u q n _=>by rw[aB (hx b n)];exact n,fun b u q _=>?_,
  fun b xs q=>by rw[aB (hm b _ q fun z=>z)];exact q,fun b u xs q=>by rw[aB (hm b _ q fun z=>z)];exact q,fun b ps q=>⟨#[],by rw[aB (hm b _ q fun z=>z),q];simp⟩⟩
 by_cases hbe:b=e
 ·subst hbe;exact heo
 ·exact⟨u,k b u hbe q⟩
end
def Lr(h:No)(H:Hp):List MU:=(List.range h.objs.size).filter fun a=>(H a).isSome
def ym(h:No)(H:Hp):No:=PySem.W.hideAll h (Lr h H)
theorem Do(h:No)(H:Hp):(ym h H).objs.size=h.objs.size:=PySem.W.hideAll_size _ _
theorem Fl{h:No}{H:Hp}{b:MU}{o:Obj}(e:h.get? b=some o)(n:H b=none):(ym h H).get? b=some o:=
 PySem.W.hideAll_get _ e fun hm=>by
  have q:(H b).isSome=true:=(mem_filter.mp hm).2;rw[n]at q;simp at q
theorem GN{h:No}{H:Hp}{b:MU}{o:Obj}(e:(ym h H).get? b=some o):h.get? b=some o/\H b=none:=by
 have e':h.get? b=some o:=PySem.W.of_hideAll (Lr h H) e;refine⟨e',?_⟩;cases q:H b with
 | none=>rfl
 | some x=>
  have hm:b∈Lr h H:=mem_filter.mpr ⟨mem_range.mpr (Nc e'),by simp[q]⟩
  have z:(ym h H).get? b=none:=PySem.W.hideAll_none (Lr h H) hm;rw[z]at e;cases e
def Hu(g h:No)(L:MU):List (MU×Obj):=(List.range h.objs.size).filterMap fun a=>if a=L\/(g.get? a).isSome=true then none else (h.get? a).map fun o=>(a,o)
def d8(g h:No)(L d:MU):List (MU×Obj):=(Hu g h L).filter fun p=>decide (p.1≠d)
structure Mod(K:PySem.W.Frag)(mg:Str->Option MV)(base:No):Prop where
 kin:K.In base
 glob:base.Ns Nd mg
 blt:∃ mb,base.Ns RN mb/\∀ x:Str,x≠"__name__"->mb x=On x
 nolimit:base.NoLimit
set_option genInjectivity false in
structure Cx where
 prog:Nf
 w:Nn
 K:PySem.W.Frag
 mg:Str->Option MV
 base:No
 A:Nh
 N:List Str
 s₀:MW
 H₀:Hp
 env:Env
 outer:List Env
 stack:List Env
 ex:List MU
 fn:Str->Bool
 calm:Bool
 pn:List (MU×Obj)
 xe:MV->MW->Prop
def DL(l:List Env):List MU:=l.filterMap (·.frame)
abbrev Cx.fs(X:Cx):List MU:=DL X.outer
def Lg(sc:Pc)(x:Str):Prop:=sc.names.lookup x=some .local\/sc.names.lookup x=some .cell\/sc.names.lookup x=some .free
def JV(sc:Pc)(x:Str):Prop:=sc.names.lookup x=some .local\/sc.names.lookup x=some .cell
def Mj(env:Env)(h:No)(m:Str->Option MV)(x:Str)(u:MV):Prop:=
 (env.kindOf x=some .local/\m x=some u)\/((env.kindOf x=some .cell\/env.kindOf x=some .free)/\∃ c,env.cells.lookup x=some c/\h.IsCell c (some u))
structure Cx.Ok(X:Cx):Prop where
 mod:Mod X.K X.mg X.base
 kind:X.env.scope.kind=.function
 glob:X.env.globals=Nd
 blt:X.env.builtins=RN
 above:X.s₀.heap.objs.size<=X.env.locals
 inj:∀ x y c,X.env.cells.lookup x=some c->X.env.cells.lookup y=some c->x=y
 has:∀ x,(X.env.kindOf x=some .cell\/X.env.kindOf x=some .free)->∃ c,X.env.cells.lookup x=some c
 cab:∀ x c,X.fn x=true->X.env.cells.lookup x=some c->X.s₀.heap.objs.size<=c
 hd:X.calm=true->X.A.handled=none
 frames:X.A.frames=some X.stack
 stk:X.stack=X.outer\/(X.stack=X.env::X.outer/\X.env.frame=some X.env.locals)
 exf:∀ b∈X.ex,b≠X.env.locals/\∀ x c,X.env.cells.lookup x=some c->c≠b
 bs:∀ b o,X.base.get? b=some o->X.s₀.heap.get? b=some o/\X.H₀ b=none
 bsz:X.base.objs.size<=X.s₀.heap.objs.size
 noex:∀ b o,X.base.get? b=some o->b∉X.ex
 exfs:∀ b∈X.ex,b∉X.fs
 funs:X.s₀.heap.FunFrames X.base X.outer
 frf:∀ b∈X.fs,X.H₀ b=none
structure Inv(X:Cx)(pins:List (MU×Obj))(σ:List (Option V))(H:Hp)(s:MW):Prop where
 ok:X.Ok
 os:s.os=X.s₀.os
 bare:PK s.gens
 base:Un X.fs X.ex X.H₀ H X.s₀.heap s.heap
 loc:∃ m,s.heap.Ns X.env.locals m/\∀ (i:Nat) (x:Str) (v:V),X.N[i]?=some x->σ[i]?=some (some v)->Lg X.env.scope x->∃ u,aN v u/\Mj X.env s.heap m x u
 cell:∀ x c,X.env.cells.lookup x=some c->∃ v,s.heap.IsCell c v
 free:H X.env.locals=none
 freeC:∀ x c,X.env.cells.lookup x=some c->H c=none
 pin:∀ p∈X.pn ++ pins,s.heap.get? p.1=some p.2/\H p.1=none/\p.1≠X.env.locals/\p.1∉X.fs/\∀ v,p.2.data≠.cell v
 hok:oh X.prog X.w H s.heap
 len:σ.length=X.N.length
section
variable{X:Cx}{pins:List (MU×Obj)}{σ:List (Option V)}{H H':Hp}{s:MW}{h':No}
theorem Cx.Ok.nofr(ok:X.Ok){b:MU}{o:Obj}(e:X.base.get? b=some o):b∉X.fs:=fun hb=>by
 have:=(ok.funs.mem hb).1;rw[e]at this;cases this
theorem Inv.bs(I:Inv X pins σ H s):∀ b o,X.base.get? b=some o->s.heap.get? b=some o/\H b=none:=fun b o e=>
 ⟨I.base.keep b o (I.ok.bs b o e).1 (I.ok.bs b o e).2 (I.ok.nofr e) (I.ok.noex b o e),I.base.free b o (I.ok.bs b o e).1 (I.ok.bs b o e).2 (I.ok.noex b o e)⟩
theorem Inv.bk(I:Inv X pins σ H s):∀ b o,X.base.get? b=some o->s.heap.get? b=some o:=fun b o e=>(I.bs b o e).1
theorem Inv.mod(I:Inv X pins σ H s):Mod X.K X.mg X.base:=I.ok.mod
theorem Inv.kIn(I:Inv X pins σ H s):X.K.In s.heap:=I.ok.mod.kin.keeps I.bk
theorem Inv.lt(I:Inv X pins σ H s):X.env.locals < s.heap.objs.size:=let ⟨_,hn,_⟩:=I.loc;hn.lt
theorem Inv.sz(I:Inv X pins σ H s):X.s₀.heap.objs.size<=s.heap.objs.size:=le_trans I.ok.above (le_of_lt I.lt)
theorem Inv.nofs(I:Inv X pins σ H s){a:MU}(h:s.heap.objs.size<=a):a∉X.fs:=fun hb=>by
 obtain⟨_,o,ho,_⟩:=I.ok.funs.mem hb;exact absurd (Nt (Nc ho) (le_trans I.sz h)) (Nat.lt_irrefl _)
theorem Inv.cne(I:Inv X pins σ H s):∀ x c,X.env.cells.lookup x=some c->c≠X.env.locals:=fun x c e z=>by
 obtain⟨v,o,ho,hd⟩:=I.cell x c e;obtain⟨m,⟨o',es,ep,ho',hd',_⟩,_⟩:=I.loc;rw[z,ho']at ho;cases ho;rw[hd']at hd;cases hd
theorem Inv.funs(I:Inv X pins σ H s):s.heap.FunFrames X.base X.outer:=by
 have all:∀ (l:List Env),(∀ b∈DL l,b∈X.fs)->X.s₀.heap.FunFrames X.base l->s.heap.FunFrames X.base l:=by
  intro l
  induction l with
  | nil=>intro _ _;trivial
  | cons env r ih=>
   intro hs hl;obtain⟨hk,⟨L,o,hf,hn,ho,hd⟩,hr⟩:=hl;have hL:L∈X.fs:=hs L (by unfold DL;rw[N0,hf];exact M8)
   obtain⟨sl,e⟩:=I.base.slot L o ho (I.ok.frf L hL) hL fun z=>I.ok.exfs L z hL;exact⟨hk,⟨L,_,hf,hn,e,hd⟩,ih (fun b hb=>hs b (by unfold DL;rw[N0,hf];exact M3 _ hb)) hr⟩
 exact all X.outer (fun _ hb=>hb) I.ok.funs
theorem Inv.stack(I:Inv X pins σ H s):s.heap.FunFrames X.base X.stack:=by
 rcases I.ok.stk with e|⟨e,hf⟩
 ·rw[e];exact I.funs
 ·rw[e];obtain⟨m,hn,_⟩:=I.loc;refine .cons (by rw[I.ok.kind];decide) hf hn ?_ I.funs
  exact Heap.get?_none_of_le (le_trans I.ok.bsz I.ok.above)
theorem Inv.stkSub(I:Inv X pins σ H s):∀ b∈DL X.stack,b∈X.env.locals::X.fs:=fun b hb=>by
 rcases I.ok.stk with e|⟨e,hf⟩
 ·rw[e]at hb;exact M3 _ hb
 ·rw[e]at hb;unfold DL at hb;rw[N0,hf]at hb;exact hb
theorem Inv.stkFree(I:Inv X pins σ H s):∀ b∈DL X.stack,H b=none:=fun b hb=>by
 rcases NH.mp (I.stkSub b hb)with e|hb
 ·rw[e];exact I.free
 ·obtain⟨_,o,ho,_⟩:=I.ok.funs.mem hb;exact I.base.free b o ho (I.ok.frf b hb) fun z=>I.ok.exfs b z hb
theorem Inv.step{g':Array GenState}{t':Nat}{d':Drawn}{ch:List MU}(I:Inv X pins σ H s)
  (hch:∀ b∈ch,(b∈X.ex\/X.s₀.heap.objs.size<=b)/\b≠X.env.locals/\(∀ x c,X.env.cells.lookup x=some c->c≠b)/\∀ p∈X.pn ++ pins,p.1≠b)
  (keep:∀ b o,b≠X.env.locals->b∉X.fs->b∉ch->s.heap.get? b=some o->H b=none->h'.get? b=some o)
  (slot:∀ b o,b≠X.env.locals->b∈X.fs->b∉ch->s.heap.get? b=some o->H b=none->∃ sl,h'.get? b=some { o with slots:=sl }) (free:∀ b o,b∉ch->s.heap.get? b=some o->H b=none->H' b=none)
  (there:∀ b o,b∉ch->s.heap.get? b=some o->∃ o',h'.get? b=some o')
  (tups:∀ b xs,H b=some (.tup xs)->H' b=some (.tup xs)) (frzs:∀ b o u,H b=some (.frz o u)->H' b=some (.frz o u)) (tbls:∀ b ps,H b=some (.tbl ps)->∃ more,H' b=some (.tbl (ps ++ more)))
  (ns:∀ m,s.heap.Ns X.env.locals m->h'.Ns X.env.locals m) (hok:oh X.prog X.w H' h') (hg:PK g'):
  Inv X pins σ H' { s with heap:=h',gens:=g',drawn:=d',toks:=t' }:=by
 have neL:∀ b o,X.s₀.heap.get? b=some o->b≠X.env.locals:=fun b o e=>NB (Nt (Nc e) I.ok.above);have neC:∀ b o,X.s₀.heap.get? b=some o->b∉X.ex->b∉ch:=fun b o e hx hb=>by
  rcases (hch b hb).1 with z|z
  ·exact hx z
  ·exact absurd (Nt (Nc e) z) (Nat.lt_irrefl _)
 have cellK:∀ x c,X.env.cells.lookup x=some c->∀ v,s.heap.IsCell c v->h'.IsCell c v:=fun x c e v zz=>by
  obtain⟨o,ho,hd⟩:=zz;have nch:c∉ch:=fun z=>(hch c z).2.2.1 x c e rfl
  by_cases hc:c∈X.fs
  ·obtain⟨sl,q⟩:=slot c o (I.cne x c e) hc nch ho (I.freeC x c e);exact⟨_,q,hd⟩
  ·exact⟨o,keep c o (I.cne x c e) hc nch ho (I.freeC x c e),hd⟩
 refine⟨I.ok,I.os,hg,⟨fun b o e n hb hx=>?_,fun b o e n hb hx=>?_,fun b o e n hx=>?_,fun b o e hx=>?_,fun b xs e=>tups b xs (I.base.tups b xs e),fun b o xs e=>frzs b o xs (I.base.frzs b o xs e),fun b ps e=>?_⟩,?_,fun x c e=>?_,?_,fun x c e=>?_,fun p hp=>?_,hok,I.len⟩
 ·exact keep b o (neL b o e) hb (neC b o e hx) (I.base.keep b o e n hb hx) (I.base.free b o e n hx)
 ·obtain⟨sl,e1⟩:=I.base.slot b o e n hb hx;obtain⟨sl',e2⟩:=slot b _ (neL b o e) hb (neC b o e hx) e1 (I.base.free b o e n hx);exact⟨sl',e2⟩
 ·obtain⟨o',e1⟩:=I.base.there b o e hx;exact free b o' (neC b o e hx) e1 (I.base.free b o e n hx)
 ·obtain⟨o',e1⟩:=I.base.there b o e hx;exact there b o' (neC b o e hx) e1
 ·obtain⟨m1,e1⟩:=I.base.tbls b ps e;obtain⟨m2,e2⟩:=tbls b _ e1;exact⟨m1 ++ m2,by rw[e2,Array.append_assoc]⟩
 ·obtain⟨m,hn,hl⟩:=I.loc;refine⟨m,ns m hn,fun i x v e1 e2 e3=>?_⟩;obtain⟨u,r,l⟩:=hl i x v e1 e2 e3;refine⟨u,r,?_⟩;rcases l with l|⟨k,c,e,z⟩
  ·exact .inl l
  ·exact .inr ⟨k,c,e,cellK x c e _ z⟩
 ·obtain⟨v,z⟩:=I.cell x c e;exact⟨v,cellK x c e v z⟩
 ·obtain⟨m,⟨o,_,_,ho,_⟩,_⟩:=I.loc;exact free _ o (fun z=>(hch _ z).2.1 rfl) ho I.free
 ·obtain⟨v,o,ho,hd⟩:=I.cell x c e;exact free c o (fun z=>(hch c z).2.2.1 x c e rfl) ho (I.freeC x c e)
 ·obtain⟨e,n,ne,nf,d⟩:=I.pin p hp;have nch:p.1∉ch:=fun z=>(hch p.1 z).2.2.2 p hp rfl;exact⟨keep p.1 p.2 ne nf nch e n,free p.1 p.2 nch e n,ne,nf,d⟩
theorem Inv.un{t':Nat}(I:Inv X pins σ H s)(u:Un X.fs [] H H' s.heap h')(hok:oh X.prog X.w H' h'):Inv X pins σ H' { s with heap:=h',toks:=t' }:=by
 obtain⟨m,⟨o,es,ep,ho,r⟩,_⟩:=id I.loc;obtain⟨sl,hL⟩:=u.any ho I.free (by simp)
 exact I.step (g':=s.gens) (d':=s.drawn) (ch:=[]) (fun _ z=>nomatch z) (fun b o _ hb _ e n=>u.keep b o e n hb (by simp)) (fun b o _ hb _ e n=>u.slot b o e n hb (by simp)) (fun b o _ e n=>u.free b o e n (by simp)) (fun b o _ e=>u.there b o e (by simp)) u.tups u.frzs u.tbls (fun m' hm=>by
  obtain⟨o',es',ep',ho',r'⟩:=hm;rw[ho]at ho';cases ho';exact⟨_,es',ep',hL,r'⟩) hok I.bare
theorem Inv.call{g':Array GenState}{t':Nat}{d':Drawn}{ch:List MU}(I:Inv X pins σ H s)(u:Un (DL X.stack) ch H H' s.heap h')(hok:oh X.prog X.w H' h')(hg:PK g')
  (hch:∀ b∈ch,(b∈X.ex\/X.s₀.heap.objs.size<=b)/\b≠X.env.locals/\(∀ x c,X.env.cells.lookup x=some c->c≠b)/\∀ p∈X.pn ++ pins,p.1≠b):
  Inv X pins σ H' { s with heap:=h',gens:=g',drawn:=d',toks:=t' }:=by
 obtain⟨m,⟨o,es,ep,ho,r⟩,_⟩:=id I.loc;obtain⟨sl,hL⟩:=u.any ho I.free fun z=>(hch _ z).2.1 rfl;exact I.step (ch:=ch) hch (fun b o hL hb hc e n=>u.keep b o e n (fun z=>(NH.mp (I.stkSub b z)).elim hL hb) hc) (fun b o _ _ hc e n=>u.any e n hc) (fun b o hc e n=>u.free b o e n hc) (fun b o hc e=>u.there b o e hc) u.tups u.frzs u.tbls (fun m' hm=>by
  obtain⟨o',es',ep',ho',r'⟩:=hm;rw[ho]at ho';cases ho';exact⟨_,es',ep',hL,r'⟩) hok hg
theorem Inv.turned{t':Nat}{it:MU}(I:Inv X pins σ H s)(k:∀ b o,b≠it->s.heap.get? b=some o->h'.get? b=some o)(hn:H it=none)(hL:it≠X.env.locals)
  (h1:it∈X.ex\/X.s₀.heap.objs.size<=it) (h2:∀ x c,X.env.cells.lookup x=some c->c≠it) (h3:∀ p∈X.pn ++ pins,p.1≠it):Inv X pins σ H { s with heap:=h',toks:=t' }:=by
 have nit:∀ b u,H b=some u->b≠it:=fun b u e z=>by rw[z,hn]at e;cases e
 refine I.step (g':=s.gens) (d':=s.drawn) (ch:=[it]) (fun b hb=>?_) (fun b o _ _ hc e _=>k b o (fun z=>hc (by simp[z])) e) (fun b o _ _ hc e _=>⟨o.slots,k b o (fun z=>hc (by simp[z])) e⟩) (fun _ _ _ _ n=>n)
  (fun b o hc e=>⟨o,k b o (fun z=>hc (by simp[z])) e⟩) (fun _ _ e=>e) (fun _ _ _ e=>e) (fun b ps e=>⟨#[],by rw[e];simp⟩) (fun m hm=>?_) (fun b u e=>?_) I.bare
 ·have e:b=it:=by simpa using hb
  subst e;exact⟨h1,hL,h2,h3⟩
 ·obtain⟨o,es,ep,ho,r⟩:=hm;exact⟨o,es,ep,k _ o (Ne.symm hL) ho,r⟩
 ·refine (I.hok b u e).stay (fun c v hc q=>k c v ?_ q) (fun _ q=>q) fun _ _ q=>q;rcases hc with z|z
  ·rw[z];exact nit b u e
  ·exact nit c _ z
theorem Inv.tok(I:Inv X pins σ H s)(t:Nat):Inv X pins σ H { s with toks:=t }:=I.un (h':=s.heap) (t':=t) Un.refl I.hok
theorem Inv.kept{t':Nat}(I:Inv X pins σ H s)(k:∀ b u,s.heap.get? b=some u->h'.get? b=some u):Inv X pins σ H { s with heap:=h',toks:=t' }:=I.un (Un.kept k) (I.hok.kept k)
theorem Inv.laid{a:MU}{o:HO}{t':Nat}(I:Inv X pins σ H s)(k:∀ b u,s.heap.get? b=some u->h'.get? b=some u)(hp:s.heap.objs.size<=a)(new:ce X.prog X.w (bG H a o) h' a o):
  Inv X pins σ (bG H a o) { s with heap:=h',toks:=t' }:=I.un (Un.laid k hp (I.hok.fresh hp)) (I.hok.laid k hp new)
theorem Inv.write{x e:MU}{o:HO}{t':Nat}(I:Inv X pins σ H s)(mu:FM (H x))(he:e=x\/H e=some (.own x))(k:∀ b u,b≠e->s.heap.get? b=some u->h'.get? b=some u)(heo:∃ u,h'.get? e=some u)
  (new:ce X.prog X.w (bG H x o) h' x o):Inv X pins σ (bG H x o) { s with heap:=h',toks:=t' }:=I.un (Un.write mu he k heo) (I.hok.write mu he k heo new)
theorem Inv.pins_of{TJ:List (MU×Obj)}(I:Inv X pins σ H s)(h:∀ p∈TJ,s.heap.get? p.1=some p.2/\H p.1=none/\p.1≠X.env.locals/\p.1∉X.fs/\∀ v,p.2.data≠.cell v):Inv X TJ σ H s:=
 ⟨I.ok,I.os,I.bare,I.base,I.loc,I.cell,I.free,I.freeC,fun p hp=>(RJ.mp hp).elim (fun z=>I.pin p (OG _ z)) (h p),I.hok,I.len⟩
theorem zB{N:List Str}(hN:N.Nodup){i j:Nat}{x:Str}(a:N[i]?=some x)(b:N[j]?=some x):i=j:=by
 obtain⟨h1,e1⟩:=List.getElem?_eq_some_iff.mp a;obtain⟨h2,e2⟩:=List.getElem?_eq_some_iff.mp b;exact (List.getElem_inj hN).mp (e1.trans e2.symm)
theorem wb{M:Model}{A:Nh}{E:MV->MW->Prop}{i:Nat}{x:Str}{v:V}{u:MV}{Q:Unit->MW->Prop}(I:Inv X pins σ H s)(hN:X.N.Nodup)(hi:X.N[i]?=some x)(hx:JV X.env.scope x)(r:aN v u)
  (h:∀ s',Inv X pins (σ.set i (some v)) H s'->(∃ a,OE a s.heap s'.heap/\(a=X.env.locals\/X.env.cells.lookup x=some a))->Q () s') (hf:X.fn x=true\/X.env.scope.names.lookup x=some .local:=by first|exact .inl rfl|exact .inr rfl|assumption):M5 M A (storeName X.env x u) Q E s:=by
 obtain⟨m,hn,hl⟩:=id I.loc;have V3:(X.env.scope.kind == .class || (X.env.scope.kind == .module && X.env.locals != X.env.globals))=false:=by rw[I.ok.kind];rfl
 have hiσ:i < σ.length:=by rw[I.len];exact (List.getElem?_eq_some_iff.mp hi).1
 have cne:=I.cne;have tracked:∀ {a:MU} {h':No},(∃ o,s.heap.get? a=some o/\H a=none)->OE a s.heap h'->oh X.prog X.w H h':=fun {a h'} ha hs b ob e=>by
  obtain⟨_,_,U1⟩:=ha;refine (I.hok b ob e).stay (fun c w' hc q=>(hs.2 c ?_).trans q) (fun _ q=>q) fun _ _ q=>q
  rintro rfl
  rcases hc with rfl|hc
  ·rw[U1]at e;cases e
  ·rw[U1]at hc;cases hc
 rcases hx with hk|hk
 ·refine wpAny_storeName_local hk hn (fun h' hn' hs=>?_) V3;obtain⟨oL,_,_,hoL,_⟩:=id hn;refine h _ ⟨I.ok,I.os,I.bare,⟨fun b o e n hb hx=>?_,fun b o e n hb hx=>?_,I.base.free,fun b o e hx=>?_,I.base.tups,I.base.frzs,I.base.tbls⟩,⟨_,hn',fun j y v' e1 e2 e3=>?_⟩,fun y c e=>?_,I.free,I.freeC,fun p hp=>?_,tracked ⟨oL,hoL,I.free⟩ hs,by simpa using I.len⟩ ⟨_,hs,.inl rfl⟩
  ·exact (hs.2 b (NB (Nt (Nc e) I.ok.above))).trans (I.base.keep b o e n hb hx)
  ·obtain⟨sl,e1⟩:=I.base.slot b o e n hb hx;exact⟨sl,(hs.2 b (NB (Nt (Nc e) I.ok.above))).trans e1⟩
  ·obtain⟨o',e1⟩:=I.base.there b o e hx;exact⟨o',(hs.2 b (NB (Nt (Nc e) I.ok.above))).trans e1⟩
  ·by_cases hj:j=i
   ·subst hj;rw[hi]at e1;cases e1;rw[List.getElem?_set_self hiσ]at e2;cases e2;exact⟨u,r,.inl ⟨hk,by simp⟩⟩
   ·rw[OJ (Ne.symm hj)]at e2;obtain⟨u',r',q⟩:=hl j y v' e1 e2 e3;refine⟨u',r',?_⟩;rcases q with ⟨k,e⟩|⟨k,c,e,z⟩
    ·refine .inl ⟨k,?_⟩;have:y≠x:=fun e=>hj (zB hN e1 (e ▸ hi));simp[this,e]
    ·exact .inr ⟨k,c,e,z.sameBut hs (cne y c e)⟩
  ·obtain⟨w',z⟩:=I.cell y c e;exact⟨w',z.sameBut hs (cne y c e)⟩
  ·obtain⟨e,n,ne,nf,d⟩:=I.pin p hp;exact⟨(hs.2 p.1 ne).trans e,n,ne,nf,d⟩
 ·have hfn:X.fn x=true:=by
   rcases hf with z|z
   ·exact z
   ·rw[z]at hk;cases hk
  obtain⟨c,hc⟩:=I.ok.has x (.inl hk);obtain⟨w',z⟩:=I.cell x c hc;refine wpAny_storeName_cell I.ok.kind hk hc z (fun h' hc' hs=>?_);obtain⟨oc,hoc,hocd⟩:=id z;refine h { s with heap:=h' } ⟨I.ok,I.os,I.bare,⟨fun b o e n hb hx=>?_,fun b o e n hb hx=>?_,I.base.free,fun b o e hx=>?_,I.base.tups,I.base.frzs,I.base.tbls⟩,⟨m,hn.sameBut hs (Ne.symm (cne x c hc)),fun j y v' e1 e2 e3=>?_⟩,fun y c' e=>?_,I.free,I.freeC,fun p hp=>?_,tracked ⟨oc,hoc,I.freeC x c hc⟩ hs,by simpa using I.len⟩ ⟨c,hs,.inr hc⟩
  ·exact (hs.2 b (NB (Nt (Nc e) (I.ok.cab x c hfn hc)))).trans (I.base.keep b o e n hb hx)
  ·obtain⟨sl,e1⟩:=I.base.slot b o e n hb hx;exact⟨sl,(hs.2 b (NB (Nt (Nc e) (I.ok.cab x c hfn hc)))).trans e1⟩
  ·obtain⟨o',e1⟩:=I.base.there b o e hx;exact⟨o',(hs.2 b (NB (Nt (Nc e) (I.ok.cab x c hfn hc)))).trans e1⟩
  ·by_cases hj:j=i
   ·subst hj;rw[hi]at e1;cases e1;rw[List.getElem?_set_self hiσ]at e2;cases e2;exact⟨u,r,.inr ⟨.inl hk,c,hc,hc'⟩⟩
   ·rw[OJ (Ne.symm hj)]at e2;obtain⟨u',r',q⟩:=hl j y v' e1 e2 e3;refine⟨u',r',?_⟩;rcases q with q|⟨k,c',e,z'⟩
    ·exact .inl q
    ·refine .inr ⟨k,c',e,z'.sameBut hs ?_⟩
     rintro rfl
     exact hj (zB hN e1 (I.ok.inj _ _ _ e hc ▸ hi))
  ·by_cases hcc:c'=c
   ·subst hcc;exact⟨_,hc'⟩
   ·obtain⟨w2,z2⟩:=I.cell y c' e;exact⟨w2,z2.sameBut hs hcc⟩
  ·obtain⟨e,n,ne,nf,d⟩:=I.pin p hp;refine⟨(hs.2 p.1 ?_).trans e,n,ne,nf,d⟩;intro q;rw[q,hoc]at e;have q':oc=p.2:=Option.some.inj e;exact d w' (by rw[<- q'];exact hocd)
theorem y0{M:Model}{A:Nh}{E:MV->MW->Prop}{i:Nat}{x:Str}{v:V}{u:MV}{Q:Unit->MW->Prop}(I:Inv X pins σ H s)(hN:X.N.Nodup)(hi:X.N[i]?=some x)(hx:JV X.env.scope x)(r:aN v u)
  (h:∀ s',Inv X pins (σ.set i (some v)) H s'->Q () s') (hf:X.fn x=true\/X.env.scope.names.lookup x=some .local:=by first|exact .inl rfl|exact .inr rfl|assumption):M5 M A (storeName X.env x u) Q E s:=
 wb I hN hi hx r (fun s' I' _=>h s' I') hf
theorem Inv.call'{s':MW}{ch:List MU}(I:Inv X pins σ H s)(ho:s'.os=s.os)(u:Un (DL X.stack) ch H H' s.heap s'.heap)(hok:oh X.prog X.w H' s'.heap)(hg:PK s'.gens)
  (hch:∀ b∈ch,(b∈X.ex\/X.s₀.heap.objs.size<=b)/\b≠X.env.locals/\(∀ x c,X.env.cells.lookup x=some c->c≠b)/\∀ p∈X.pn ++ pins,p.1≠b):Inv X pins σ H' s':=by
 obtain⟨h',g',d',t',o'⟩:=s';have e:o'=s.os:=ho;subst e;exact I.call (g':=g') (t':=t') (d':=d') u hok hg hch
end
abbrev XK:=MV->Option MU->Hp->Prop
abbrev St:=List (Option V)
abbrev VK:=V->Hp->Prop
abbrev TE:=St->Hp->VK->Prop
abbrev TT:=St->Hp->(Bool->Hp->Prop)->Prop
abbrev TA:=St->Hp->(List V->Hp->Prop)->Prop
set_option genInjectivity false in
structure Ends where
 nx:St->Hp->Prop
 rt:VK
 bk:St->Hp->Prop:=fun _ _=>False
 ct:St->Hp->Prop:=fun _ _=>False
abbrev TS:=Ends->St->Hp->Prop
def EP(X:Cx)(pins:List (MU×Obj))(σ:St)(Q:VK)(u:MV)(s':MW):Prop:=∃ v H',Inv X pins σ H' s'/\aN v u/\Q v H'
def TP(X:Cx)(pins:List (MU×Obj))(σ:St)(Q:Bool->Hp->Prop)(b:Bool)(s':MW):Prop:=∃ H',Inv X pins σ H' s'/\Q b H'
def AP(X:Cx)(pins:List (MU×Obj))(σ:St)(Q:List V->Hp->Prop)(us:List MV)(s':MW):Prop:=∃ vs H',Inv X pins σ H' s'/\Vals vs us/\Q vs H'
def SP(X:Cx)(pins:List (MU×Obj))(D:Ends)(f:Flow)(s':MW):Prop:=
 match f with
 | .next=>∃ σ' H',Inv X pins σ' H' s'/\D.nx σ' H'
 | .brk=>∃ σ' H',Inv X pins σ' H' s'/\D.bk σ' H'
 | .cont=>∃ σ' H',Inv X pins σ' H' s'/\D.ct σ' H'
 | .ret u=>∃ v σ' H',Inv X pins σ' H' s'/\aN v u/\D.rt v H'
def PE(X:Cx)(e:Np)(t:TE):Prop:=
 ∀ (pins:List (MU×Obj)) (s:MW) (σ:St) (H:Hp) (Q:VK),Inv X pins σ H s->t σ H Q->M5 (M9 X.prog X.w) X.A (eval e X.env) (EP X pins σ Q) X.xe s
def PT(X:Cx)(e:Np)(t:TT):Prop:=
 ∀ (pins:List (MU×Obj)) (s:MW) (σ:St) (H:Hp) (Q:Bool->Hp->Prop),Inv X pins σ H s->t σ H Q->M5 (M9 X.prog X.w) X.A (Rc e X.env (eval e X.env)) (TP X pins σ Q) X.xe s
def PW(X:Cx)(e:Np)(t:TT):Prop:=
 ∀ (whole:Sem MV) (pins:List (MU×Obj)) (s:MW) (σ:St) (H:Hp) (Q:Bool->Hp->Prop),Inv X pins σ H s->t σ H Q->M5 (M9 X.prog X.w) X.A (Rc e X.env whole) (TP X pins σ Q) X.xe s
theorem PW.pt{X:Cx}{e:Np}{t:TT}(h:PW X e t):PT X e t:=h _
def PA(X:Cx)(es:List Np)(t:TA):Prop:=
 ∀ (pos:Pos) (pins:List (MU×Obj)) (s:MW) (σ:St) (H:Hp) (Q:List V->Hp->Prop),Inv X pins σ H s->t σ H Q->M5 (M9 X.prog X.w) X.A (spliced (N9 pos (M_ es X.env))) (AP X pins σ Q) X.xe s
def PS(X:Cx)(st:Nu)(t:TS):Prop:=
 ∀ (pins:List (MU×Obj)) (s:MW) (σ:St) (H:Hp) (D:Ends),Inv X pins σ H s->t D σ H->M5 (M9 X.prog X.w) X.A (exec st X.env) (SP X pins D) X.xe s
def rF(X:Cx)(st:List Nu)(t:TS):Prop:=
 ∀ (pins:List (MU×Obj)) (s:MW) (σ:St) (H:Hp) (D:Ends),Inv X pins σ H s->t D σ H->M5 (M9 X.prog X.w) X.A (execs st X.env) (SP X pins D) X.xe s
theorem cY{α:Type}{t:Sem α}{Q Q':α->MW->Prop}{M:Model}{A:Nh}{E:MV->MW->Prop}{s:MW}(h:M5 M A t Q E s)(hQ:∀ a s,Q a s->Q' a s):M5 M A t Q' E s:=NR h hQ fun _ _ x=>x
section
variable{X:Cx}
def LD(i:Nat):TE:=fun σ H Q=>∃ v,σ[i]?=some (some v)/\Q v H
def tC(v:V):TE:=fun _ H Q=>Q v H
theorem EM{i:Nat}{x:Str}{pos:Pos}(hN:X.N[i]?=some x)(hv:Lg X.env.scope x)(hd:(x == ("__debug__":Str))=false:=by decide)(hcd:(x == ("__classdict__":Str))=false:=by decide):PE X (.Name x pos) (LD i):=by
 intro pins s σ H Q I h;obtain⟨v,e,h⟩:=h;obtain⟨m,hn,hl⟩:=I.loc;obtain⟨u,r,l⟩:=hl i x v hN e hv;have fin:EP X pins σ Q u s:=⟨v,H,I,r,h⟩;rcases l with ⟨hk,hm⟩|⟨hk,c,hc,U2⟩
 ·exact RC (wpAny_loadName_local I.ok.kind hk hn hm fin) hd
 ·rcases hk with hk|hk
  ·exact RC (wpAny_loadName_cell I.ok.kind hk hc U2 fin) hd
  ·exact RC (wpAny_loadName_free I.ok.kind hk hc U2 fin hcd) hd
theorem IQ{i j pos}:PE X (.Constant (.int i) j pos) (tC (.int i)):=fun _ _ _ H _ I h=>wpAny_Constant_int ⟨.int i,H,I.tok _,⟨_,rfl⟩,h⟩
theorem Kv{b j pos}:PE X (.Constant (.bool b) j pos) (tC (.bl b)):=fun _ _ _ H _ I h=>Constant_bool ⟨.bl b,H,I,rfl,h⟩
theorem IN{j pos}:PE X (.Constant .none j pos) (tC .non):=fun _ _ _ H _ I h=>Constant_none ⟨.non,H,I,rfl,h⟩
theorem IL{x j pos}:PE X (.Constant (.str x) j pos) (tC (.str x)):=fun _ _ _ H _ I h=>Calls.Constant_str ⟨.str x,H,I.tok _,⟨_,rfl⟩,h⟩
def Gl(X:Cx)(x:Str):Prop:=X.env.kindOf x=some .globalImplicit
theorem su{E:MV->MW->Prop}{pins:List (MU×Obj)}{s:MW}{σ:St}{H:Hp}{x:Str}{u:MV}{pos:Pos}{Q:MV->MW->Prop}(I:Inv X pins σ H s)(hg:Gl X x)(hm:X.mg x=some u)(h:Q u s)
  (hd:(x == ("__debug__":Str))=false:=by decide):M5 (M9 X.prog X.w) X.A (eval (.Name x pos) X.env) Q E s:=
 QW I.ok.kind hg (Calls.loadGlobal_global (by rw[I.ok.glob];exact I.mod.glob.keeps I.bk) hm h) hd
theorem kM{E:MV->MW->Prop}{pins:List (MU×Obj)}{s:MW}{σ:St}{H:Hp}{x:Str}{u:MV}{pos:Pos}{Q:MV->MW->Prop}(I:Inv X pins σ H s)(hg:Gl X x)(hm:X.mg x=none)(hv:On x=some u)(h:Q u s)
  (hn:x≠"__name__":=by decide) (hd:(x == ("__debug__":Str))=false:=by decide):M5 (M9 X.prog X.w) X.A (eval (.Name x pos) X.env) Q E s:=by
 obtain⟨mb,h1,h2⟩:=I.mod.blt;exact QW I.ok.kind hg (Calls.loadGlobal_builtin (by rw[I.ok.glob];exact I.mod.glob.keeps I.bk) hm (by rw[I.ok.blt];exact h1.keeps I.bk) ((h2 x hn).trans hv) h) hd
theorem BY{x:Str}{v:V}{u:MV}{pos:Pos}(hg:Gl X x)(hm:X.mg x=some u)(r:aN v u)(hd:(x == ("__debug__":Str))=false:=by decide):PE X (.Name x pos) (tC v):=
 fun _ _ _ H _ I h=>su I hg hm ⟨v,H,I,r,h⟩ hd
variable{a b:Np}{ta tb:TE}{pos:Pos}
def PC(X:Cx)(op:PR)(a b:Np)(t:TE):Prop:=
 ∀ (pins:List (MU×Obj)) (s:MW) (σ:St) (H:Hp) (Q:VK),Inv X pins σ H s->t σ H Q->
  M5 (M9 X.prog X.w) X.A (eval a X.env) (fun v s₁=>M5 (M9 X.prog X.w) X.A (eval b X.env) (fun u s₂=>M5 (M9 X.prog X.w) X.A (NA op v u) (EP X pins σ Q) X.xe s₂) X.xe s₁) X.xe s
def tB(t:TE):TT:=fun σ H Q=>t σ H fun x H1=>∃ c,x=.bl c/\Q c H1
theorem IR{op:PR}{t:TE}(h:PC X op a b t)(h1:NQ op b=false:=by first|exact nobehind _ (by decide) (by decide)|rfl):PE X (.Compare a [op] [b] pos) t:=fun pins s σ H Q I hw=>wpAny_Compare1 (h pins s σ H Q I hw) h1
theorem EB{op:PR}{t:TE}(h:PC X op a b t)(h1:NQ op b=false:=by first|exact nobehind _ (by decide) (by decide)|rfl):PT X (.Compare a [op] [b] pos) (tB t):=by
 intro pins s σ H Q I hw;refine Rl (cY (h pins s σ H _ I hw) fun v s1 h1=>cY h1 fun u s2 h2=>cY h2 fun c s3 zz=>?_) h1;obtain⟨x,H1,I1,r1,q1⟩:=zz;obtain⟨d,rfl,q⟩:=q1;cases r1;exact Om ⟨H1,I1,q⟩
variable{tA tB':TT}{d8:List Np}
def My(t u:TT):TT:=fun σ H Q=>t σ H fun c H1=>if c=true then Q true H1 else u σ H1 Q
def LI(t:TT):TT:=fun σ H Q=>t σ H fun c H1=>Q (!c) H1
theorem IE(ha:PT X a tA):PW X (.BoolOp .Or [a] pos) tA:=by
 intro wh pins s σ H Q I h;refine isTrue_or (cY (ha pins s σ H Q I h) fun c s1 e=>?_);cases c with
 | false=>exact isTrue_or_nil e
 | true=>exact e
theorem Ko(ha:PT X a tA)(hb:PW X (.BoolOp .Or (b::d8) pos) tB'):PW X (.BoolOp .Or (a::b::d8) pos) (My tA tB'):=by
 intro wh pins s σ H Q I h;refine isTrue_or (cY (ha pins s σ H _ I h) fun c s1 zz=>?_);obtain⟨H1,I1,q1⟩:=zz;cases c with
 | true=>exact⟨H1,I1,q1⟩
 | false=>exact hb wh pins s1 σ H1 Q I1 q1
theorem IG(ha:PT X a tA):PT X (.UnaryOp .Not a pos) (LI tA):=by
 intro pins s σ H Q I h;exact isTrue_not (ha pins s σ H (fun c H1=>Q (!c) H1) I h)
def Kc(ta tb:TE):TE:=fun σ H Q=>ta σ H fun x H1=>∃ c,x=.bl c/\if c=true then tb σ H1 Q else Q (.bl false) H1
theorem IM{op}{t:TE}(h:PE X a t):PE X (.BoolOp op [a] pos) t:=fun pins s σ H Q I hw=>BoolOp_one (h pins s σ H Q I hw)
theorem IS(ha:PE X a ta)(hb:PE X (.BoolOp .And (b::d8) pos) tb):PE X (.BoolOp .And (a::b::d8) pos) (Kc ta tb):=by
 intro pins s σ H Q I h;refine BoolOp_and (cY (ha pins s σ H _ I h) fun v s1 zz=>?_);obtain⟨x,H1,I1,r1,q1⟩:=zz;obtain⟨c,rfl,q1⟩:=q1;cases r1;refine Om ?_;cases c with
 | true=>exact hb pins s1 σ H1 Q I1 q1
 | false=>exact⟨.bl false,H1,I1,rfl,q1⟩
end
def kP(K:PySem.W.Frag)(H:Hp)(a:MU)(xs:List V):Prop:=
 Rd H a (.lst xs)\/
  ∃ (o:Obj) (its:Array MV) (n:Nat),K.lookup a=some o/\o.cls=.type "list"/\o.dict=none/\o.data=.seq its n/\its.size<=M4/\Vals xs its.toList
def kT(K:PySem.W.Frag)(H:Hp)(a:MU)(xs:List V):Prop:=
 Rd H a (.tup xs)\/
  ∃ (o:Obj) (its:Array MV) (n:Nat),K.lookup a=some o/\(o.cls=.type "tuple"/\o.dict=none)/\o.data=.seq its n/\its.size<=M4/\Vals xs its.toList
def Mh:MV->Option V
 | .none=>some .non
 | .bool b=>some (.bl b)
 | .int i _=>some (.int i)
 | .str x _=>some (.str x)
 | .bytes b _=>some (.byt b)
 | .float b _=>some (.flt b)
 | .ref a=>some (.ref a)
 | .type n=>some (.ty n)
 | _=>none
theorem aN.abs{x:V}{u:MV}(r:aN x u):Mh u=some x:=by
 cases x with
 | non=>cases r;rfl
 | bl _=>cases r;rfl
 | int _=>obtain⟨t,rfl⟩:=r;rfl
 | str _=>obtain⟨t,rfl⟩:=r;rfl
 | byt _=>obtain⟨t,rfl⟩:=r;rfl
 | flt _=>obtain⟨t,rfl⟩:=r;rfl
 | ref _=>cases r;rfl
 | ty _=>cases r;rfl
theorem aN.inj{x y:V}{u:MV}(r:aN x u)(q:aN y u):x=y:=Option.some.inj (r.abs.symm.trans q.abs)
theorem Vals.inj:∀ {xs ys:List V} {us:List MV},Vals xs us->Vals ys us->xs=ys
 | _,_,_,.nil,.nil=>rfl
 | _,_,_,.cons r t,.cons r' t'=>by rw[r.inj r',Vals.inj t t']
section
variable{X:Cx}{pins:List (MU×Obj)}{σ:St}{H:Hp}{s:MW}{a:MU}{xs ys:List V}
theorem kP.of{K:PySem.W.Frag}(h:H a=some (.lst xs)):kP K H a xs:=.inl (.inl h)
theorem kT.of{K:PySem.W.Frag}(h:H a=some (.tup xs)):kT K H a xs:=.inl (.inl h)
theorem Inv.list(I:Inv X pins σ H s)(h:kP X.K H a xs):∃ its:List MV,Vals xs its/\PlainL s.heap a its.toArray/\xs.length<=M4:=by
 rcases h with h|⟨o,its,n,hk,hc,hd,hs,hz,r⟩
 ·obtain⟨z,its,n,r,e⟩:=h.ok I.hok;exact⟨its,r,⟨_,n,e,rfl,rfl,rfl⟩,z⟩
 ·refine⟨its.toList,r,⟨o,n,I.kIn a o hk,hc,hd,by simpa using hs⟩,?_⟩
  have e:=r.length;simp only[Array.length_toList]at e;omega
theorem Inv.tuple(I:Inv X pins σ H s)(h:kT X.K H a xs):∃ its:List MV,Vals xs its/\IsTup s.heap a its.toArray/\xs.length<=M4:=by
 rcases h with h|⟨o,its,n,hk,hc,hs,hz,r⟩
 ·obtain⟨z,its,r,p⟩:=h.ok I.hok;exact⟨its,r,p.tup,z⟩
 ·refine⟨its.toList,r,⟨o,I.kIn a o hk,hc.1,n,by simpa using hs⟩,?_⟩
  have e:=r.length;simp only[Array.length_toList]at e;omega
theorem Inv.list_inj(I:Inv X pins σ H s)(h:kP X.K H a xs)(h':kP X.K H a ys):xs=ys:=by
 obtain⟨its,r,⟨o,n,e,_,_,d⟩,_⟩:=I.list h;obtain⟨its',r',⟨o',n',e',_,_,d'⟩,_⟩:=I.list h';rw[e]at e';cases e';rw[d]at d';injection d' with d1 _
 have:its=its':=by simpa using congrArg Array.toList d1
 subst this;exact r.inj r'
theorem Inv.tuple_inj(I:Inv X pins σ H s)(h:kT X.K H a xs)(h':kT X.K H a ys):xs=ys:=by
 obtain⟨its,r,⟨o,e,_,n,d⟩,_⟩:=I.tuple h;obtain⟨its',r',⟨o',e',_,n',d'⟩,_⟩:=I.tuple h';rw[e]at e';cases e';rw[d]at d';injection d' with d1 _
 have:its=its':=by simpa using congrArg Array.toList d1
 subst this;exact r.inj r'
end
abbrev Cx.wish(X:Cx)(E:MV->MW->Prop):Cx:={ X with xe:=E }
abbrev Cx.nox(X:Cx):Cx:=X.wish fun _ _=>False
theorem Cx.Ok.wish{X:Cx}(ok:X.Ok)(E:MV->MW->Prop):(X.wish E).Ok:=
 ⟨ok.mod,ok.kind,ok.glob,ok.blt,ok.above,ok.inj,ok.has,ok.cab,ok.hd,ok.frames,ok.stk,ok.exf,ok.bs,ok.bsz,ok.noex,ok.exfs,ok.funs,ok.frf⟩
theorem Cx.Ok.unwish{X:Cx}{E:MV->MW->Prop}(ok:(X.wish E).Ok):X.Ok:=
 ⟨ok.mod,ok.kind,ok.glob,ok.blt,ok.above,ok.inj,ok.has,ok.cab,ok.hd,ok.frames,ok.stk,ok.exf,ok.bs,ok.bsz,ok.noex,ok.exfs,ok.funs,ok.frf⟩
section
variable{X:Cx}{pins:List (MU×Obj)}{σ:St}{H:Hp}{s:MW}{E:MV->MW->Prop}
theorem Inv.wish(I:Inv X pins σ H s)(E:MV->MW->Prop):Inv (X.wish E) pins σ H s:=⟨I.ok.wish E,I.os,I.bare,I.base,I.loc,I.cell,I.free,I.freeC,I.pin,I.hok,I.len⟩
theorem Inv.unwish(I:Inv (X.wish E) pins σ H s):Inv X pins σ H s:=⟨I.ok.unwish,I.os,I.bare,I.base,I.loc,I.cell,I.free,I.freeC,I.pin,I.hok,I.len⟩
theorem SP.unwish{D:Ends}{f:Flow}{s':MW}(h:SP (X.wish E) pins D f s'):SP X pins D f s':=by
 cases f with
 | next=>obtain⟨σ',H',I,q⟩:=h;exact⟨σ',H',I.unwish,q⟩
 | brk=>obtain⟨σ',H',I,q⟩:=h;exact⟨σ',H',I.unwish,q⟩
 | cont=>obtain⟨σ',H',I,q⟩:=h;exact⟨σ',H',I.unwish,q⟩
 | ret u=>obtain⟨v,σ',H',I,r,q⟩:=h;exact⟨v,σ',H',I.unwish,r,q⟩
theorem rF.nox{st:List Nu}{t:TS}(h:rF X.nox st t):rF X st t:=fun pins s σ H D I hw=>
 NR (h pins s σ H D (I.wish _) hw) (fun _ _ q=>q.unwish) fun _ _ z=>False.elim z
end
section
variable{X:Cx}{st:Nu}{d8:List Nu}{t u:TS}{e:Np}{te:TE}{pos:Pos}
def J9:TS:=fun D σ H=>D.nx σ H
def LG(t u:TS):TS:=fun D σ H=>t { D with nx:=u D } σ H
theorem Go:rF X [] J9:=fun _ _ σ H _ I h=>Pn ⟨σ,H,I,h⟩
theorem ED(h1:PS X st t)(h2:rF X d8 u):rF X (st::d8) (LG t u):=by
 intro pins s σ H D I h;refine wpAny_execs_cons (cY (h1 pins s σ H { D with nx:=u D } I h) fun f s1 q=>?_)
 cases f with
 | next=>
  obtain⟨σ',H',I',q⟩:=q;exact h2 pins s1 σ' H' D I' q
 | ret v=>exact q
 | brk=>exact q
 | cont=>exact q
theorem Gn(h1:PS X st t):rF X [st] t:=by
 intro pins s σ H D I h;refine wpAny_execs_cons (cY (h1 pins s σ H D I h) fun f s1 q=>?_);cases f with
 | next=>exact Pn q
 | ret v=>exact q
 | brk=>exact q
 | cont=>exact q
theorem Inv.quiet{pins:List (MU×Obj)}{σ:St}{H:Hp}{s:MW}(I:Inv X pins σ H s):interactive X.env=false:=by simp[interactive,I.ok.kind]
def J_(te:TE):TS:=fun D σ H=>te σ H fun _ H1=>D.nx σ H1
theorem Gr(he:PE X e te)(hs:OP e none pos.line X.env=pure false:=by rfl):PS X (.Expr e pos) (J_ te):=by
 intro pins s σ H D I h;exact wpAny_Expr_any (cY (he pins s σ H _ I h) fun v s1 ⟨x,H1,I1,r1,q1⟩=>⟨σ,H1,I1,q1⟩) I.quiet hs
def LH(te:TE):TS:=fun D σ H=>te σ H D.rt
theorem EG(he:PE X e te):PS X (.Return (some e) pos) (LH te):=by
 intro pins s σ H D I h;exact wpAny_Return_some (cY (he pins s σ H _ I h) fun v s1 ⟨x,H1,I1,r1,q1⟩=>⟨x,σ,H1,I1,r1,q1⟩)
def J6:TS:=fun D _ H=>D.rt .non H
theorem Gq:PS X (.Return none pos) J6:=fun _ _ σ H _ I h=>wpAny_Return_none ⟨.non,σ,H,I,rfl,h⟩
def LK(c:TT)(t u:TS):TS:=fun D σ H=>c σ H fun b H1=>if b=true then t D σ H1 else u D σ H1
theorem Kq{c:Np}{a b:List Nu}{tc:TT}(hc:PT X c tc)(ha:rF X a t)(hb:rF X b u):PS X (.If c a b pos) (LK tc t u):=by
 intro pins s σ H D I h;refine wpAny_If (cY (hc pins s σ H _ I h) fun d s1 zz=>?_);obtain⟨H1,I1,q1⟩:=zz;cases d with
 | true=>exact ha pins s1 σ H1 D I1 q1
 | false=>exact hb pins s1 σ H1 D I1 q1
def Ir:TS:=fun _ _ _=>False
theorem EH:PS X st Ir:=fun _ _ _ _ _ _ h=>h.elim
end
abbrev TG:=V->St->Hp->(St->Hp->Prop)->Prop
abbrev Hw:=List V->St->Hp->(St->Hp->Prop)->Prop
def PG(X:Cx)(target:Np)(t:TG):Prop:=
 ∀ (pins:List (MU×Obj)) (s:MW) (σ:St) (H:Hp) (v:V) (u:MV) (Q:St->Hp->Prop),Inv X pins σ H s->aN v u->t v σ H Q->
  M5 (M9 X.prog X.w) X.A (assign target X.env u) (fun _ s'=>∃ σ' H',Inv X pins σ' H' s'/\Q σ' H') X.xe s
def FK(X:Cx)(ts:List Np)(t:Hw):Prop:=
 ∀ (pins:List (MU×Obj)) (s:MW) (σ:St) (H:Hp) (vs:List V) (us:List MV) (Q:St->Hp->Prop),Inv X pins σ H s->Vals vs us->t vs σ H Q->
  M5 (M9 X.prog X.w) X.A (assignInOrder ((OD ts X.env).map (·.2)) us) (fun _ s'=>∃ σ' H',Inv X pins σ' H' s'/\Q σ' H') X.xe s
abbrev Hv:=V->V->V->Hp->(Hp->Prop)->Prop
def JU(X:Cx)(t:Hv):Prop:=
 ∀ (pins:List (MU×Obj)) (s:MW) (σ:St) (H:Hp) (o i v:V) (ov iv u:MV) (Q:Hp->Prop),Inv X pins σ H s->aN o ov->aN i iv->aN v u->t o i v H Q->
  M5 (M9 X.prog X.w) X.A (RY ov iv u) (fun _ s'=>∃ H',Inv X pins σ H' s'/\Q H') X.xe s
section
variable{X:Cx}{pos:Pos}
def Ah(i:Nat):TG:=fun v σ H Q=>Q (σ.set i (some v)) H
theorem Gy{i:Nat}{x:Str}(hN:X.N.Nodup)(hi:X.N[i]?=some x)(hx:JV X.env.scope x)(hf:X.fn x=true\/X.env.scope.names.lookup x=some .local:=by first|exact .inl rfl|exact .inr rfl|assumption):PG X (.Name x pos) (Ah i):=by
 intro pins s σ H v u Q I r h;exact RV (y0 I hN hi hx r (fun s' I'=>⟨_,H,I',h⟩) hf)
def Ma:Hw:=fun vs σ H Q=>vs=[]/\Q σ H
def KL(t:TG)(u:Hw):Hw:=fun vs σ H Q=>∃ v r,vs=v::r/\t v σ H fun σ' H'=>u r σ' H' Q
theorem Gx:FK X [] Ma:=by
 intro pins s σ H vs us Q I r h;obtain⟨e,h⟩:=h;subst e;cases r;exact assignInOrder_nil ⟨σ,H,I,h⟩
theorem EL{e:Np}{es:List Np}{t:TG}{u:Hw}(h1:PG X e t)(h2:FK X es u)
  (hs:(OD (e::es) X.env).map (·.2)=assign e X.env::(OD es X.env).map (·.2):=by rfl):FK X (e::es) (KL t u):=by
 intro pins s σ H vs us Q I r h;obtain⟨v,vr,e1,h⟩:=h;subst e1;cases r with
 | cons r rr=>
  rw[hs];refine assignInOrder_cons (cY (h1 pins s σ H _ _ _ I r h) fun _ s1 zz=>?_);obtain⟨σ1,H1,I1,q1⟩:=zz;exact h2 pins s1 σ1 H1 _ _ Q I1 rr q1
def L9(K:PySem.W.Frag)(n:Nat)(t:Hw):TG:=fun v σ H Q=>∃ a xs,v=.ref a/\kT K H a xs/\xs.length=n/\t xs σ H Q
theorem II{es:List Np}{k:Nat}{t:Hw}{n:Nat}(hc:X.calm=true)(h:FK X es t)
  (hn:(OD es X.env).length=n:=by rfl) (hst:(OD es X.env).findIdx? (·.1)=none:=by rfl):PG X (.Tuple es k pos) (L9 X.K n t):=by
 intro pins s σ H v u Q I r hw;obtain⟨a,xs,e1,hq,hl,hw⟩:=hw;subst e1;cases r;obtain⟨its,rv,ht,hz⟩:=I.tuple hq;refine assign_Tuple_tuple (I.ok.hd hc) ht (by simp[hn,<- hl,rv.length]) hst fun h' hx=>?_
 have I1:Inv X pins σ H { s with heap:=h' }:=I.kept (t':=s.toks) fun b o e=>hx b o (NB (Nc e)) e
 exact h pins _ σ H xs _ Q I1 (by simpa using rv) hw
def L_(to ti:TE)(t:Hv):TG:=fun v σ H Q=>to σ H fun o H1=>ti σ H1 fun i H2=>t o i v H2 fun H3=>Q σ H3
theorem IJ{o i:Np}{to ti:TE}{t:Hv}(ho:PE X o to)(hi:PE X i ti)(hs:JU X t)
  (ha:∀ v,assign (.Subscript o i pos) X.env v=(do
   let ov <- holding [v] (eval o X.env)
   let iv <- holding [v,ov] (eval i X.env)
   Pq pos
   holding [v,ov,iv] (RY ov iv v)
   release [v,ov,iv] []):=by intro _;rfl):PG X (.Subscript o i pos) (L_ to ti t):=by
 intro pins s σ H v u Q I r h;rw[ha];refine MT (NO (cY (ho pins s σ H _ I h) fun ov s1 zz=>?_));obtain⟨x,H1,I1,r1,q1⟩:=zz;refine MT (NO (cY (hi pins s1 σ H1 _ I1 q1) fun iv s2 zz=>?_));obtain⟨y,H2,I2,r2,q2⟩:=zz;refine MT (Qm (MT (NO (cY (hs pins s2 σ H2 x y v ov iv u _ I2 r1 r2 r q2) fun _ s3 zz=>?_))));obtain⟨H3,I3,q3⟩:=zz;exact wpAny_release ⟨σ,H3,I3,q3⟩
def Iu(te:TE)(g:TG):TS:=fun D σ H=>te σ H fun x H1=>g x σ H1 D.nx
theorem IH{tg e:Np}{te:TE}{g:TG}(he:PE X e te)(hg:PG X tg g)(hs:swapsWithSole [tg] e pos.line X.env=pure false:=by rfl)(hw:swappedStores [tg] e X.env=pure none:=by rfl)
  (h1:(OD [tg] X.env).map (·.2)=[assign tg X.env]:=by rfl):PS X (.Assign [tg] e pos) (Iu te g):=by
 intro pins s σ H D I h;refine wpAny_Assign_stores (cY (he pins s σ H _ I h) fun v s1 zz=>?_) hs hw;obtain⟨x,H1,I1,r1,q1⟩:=zz;rw[h1];exact cY (hg pins s1 σ H1 x v _ I1 r1 q1) fun _ s2 q=>q
theorem EF{i:Nat}{x:Str}{e:Np}{te:TE}{pos':Pos}(hN:X.N.Nodup)(hi:X.N[i]?=some x)(hx:JV X.env.scope x)(he:PE X e te)(hs:OP e (some (.Name x pos')) pos.line X.env=pure false:=by rfl)(hf:X.fn x=true\/X.env.scope.names.lookup x=some .local:=by first|exact .inl rfl|exact .inr rfl|assumption):
  PS X (.Assign [.Name x pos'] e pos) (Iu te (Ah i)):=by
 intro pins s σ H D I h;refine wpAny_Assign_Name (cY (he pins s σ H _ I h) fun v s1 zz=>?_) hs;obtain⟨y,H1,I1,r1,q1⟩:=zz;exact y0 I1 hN hi hx r1 (fun s2 I2=>⟨_,H1,I2,q1⟩) hf
def Iq(c:TT)(tb:TS):TS:=fun D σ H=>∃ W:Nat->St->Hp->Prop,(∃ m,W m σ H)/\∀ m σ H,W m σ H->
 c σ H fun b H1=>if b=true then ∃ N:St->Hp->Prop,(∀ σ' H',N σ' H'->∃ m',m' < m/\W m' σ' H')/\tb { D with nx:=N,ct:=N,bk:=D.nx } σ H1 else D.nx σ H1
theorem EE{c:Np}{body:List Nu}{tc:TT}{tb:TS}(hp:Qj (M9 X.prog X.w) X.A X.env X.xe)(hc:PT X c tc)(hb:rF X body tb):PS X (.While c body [] pos) (Iq tc tb):=by
 intro pins s σ H D I h;obtain⟨W,⟨m0,w0⟩,turn⟩:=h;refine wpAny_While (codeAny_whileLoop (fun n s'=>∃ σ' H',Inv X pins σ' H' s'/\W n σ' H') ?_ m0 ⟨σ,H,I,w0⟩)
 rintro n s1 ⟨σ1,H1,I1,w1⟩
 refine NN hp (cY (hc pins s1 σ1 H1 _ I1 (turn n σ1 H1 w1)) fun b s2 zz=>?_);obtain⟨H2,I2,q2⟩:=zz;cases b with
 | true=>
  obtain⟨N,hN,q2⟩:=q2;rw[if_pos rfl];refine NN hp (cY (hb pins s2 σ1 H2 _ I2 q2) fun f s3 q3=>?_);cases f with
  | next=>
   obtain⟨σ3,H3,I3,n3⟩:=q3;obtain⟨m',hm,w3⟩:=hN σ3 H3 n3;exact⟨m',hm,σ3,H3,I3,w3⟩
  | cont=>
   obtain⟨σ3,H3,I3,n3⟩:=q3;obtain⟨m',hm,w3⟩:=hN σ3 H3 n3;exact⟨m',hm,σ3,H3,I3,w3⟩
  | brk=>exact q3
  | ret v=>exact q3
 | false=>
  rw[if_neg Bool.false_ne_true];exact Pn ⟨σ1,H2,I2,q2⟩
end
set_option genInjectivity false in
structure It where
 go:Nat->Hp->Prop
 yld:Nat->Hp->V->Hp->Prop
 stop:Nat->Hp->Prop
def qW(X:Cx)(pins:List (MU×Obj))(H:Hp)(b:MU):Prop:=
 H b=none/\b≠X.env.locals/\b∉X.fs/\(b∈X.ex\/X.s₀.heap.objs.size<=b)/\(∀ x c,X.env.cells.lookup x=some c->c≠b)/\∀ p∈X.pn ++ pins,p.1≠b
theorem Inv.fpOk{X:Cx}{pins:List (MU×Obj)}{σ:St}{H H':Hp}{s:MW}{b:MU}(I:Inv X pins σ H s)(hb:s.heap.objs.size<=b)(hn:H' b=none):qW X pins H' b:=by
 refine⟨hn,Qy (Nt I.lt hb),I.nofs hb,.inr (le_trans I.sz hb),fun x c e z=>?_,fun p hp z=>?_⟩
 ·obtain⟨v,q⟩:=I.cell x c e;exact absurd (Nt q.lt (by rw[z];exact hb)) (Nat.lt_irrefl _)
 ·exact absurd (Nt (Nc (I.pin p hp).1) (by rw[z];exact hb)) (Nat.lt_irrefl _)
structure Turn(P:Nf)(w:Nn)(K:PySem.W.Frag)(tg:Np)(J:It)(fp:List MU)(it:MU)(tn:Nat->No->Prop):Prop where
 mem:it∈fp
 obj:∀ i h,tn i h->∀ b∈fp,∃ o,h.get? b=some o/\∀ v,o.data≠.cell v
 keep:∀ i h h',tn i h->(∀ b∈fp,∀ o,h.get? b=some o->h'.get? b=some o)->tn i h'
 item:∀ (X:Cx),X.prog=P->X.w=w->X.K=K->X.calm=true->∀ (i:Nat) (pins:List (MU×Obj)) (s:MW) (σ:St) (H:Hp) (E:MV->MW->Prop),Inv X pins σ H s->(∀ b∈fp,qW X pins H b)->tn i s.heap->J.go i H->
  M5 (M9 P w) X.A (OB (.ref it)) (fun r s1=>∃ u,r=some u/\
   M5 (M9 P w) X.A (OY tg (.ref it) u) (fun _ s2=>∃ x H',Inv X pins σ H' s2/\aN x u/\J.yld i H x H'/\tn (i+1) s2.heap/\∀ b∈fp,H' b=none) E s1) E s
 done:∀ (X:Cx),X.prog=P->X.w=w->X.K=K->X.calm=true->∀ (i:Nat) (pins:List (MU×Obj)) (s:MW) (σ:St) (H:Hp) (E:MV->MW->Prop),Inv X pins σ H s->(∀ b∈fp,qW X pins H b)->tn i s.heap->J.stop i H->
  M5 (M9 P w) X.A (OB (.ref it)) (fun r s1=>r=none/\Inv X pins σ H s1) E s
 self:∀ (A:Nh) (i:Nat) (s:MW) (Q:MV->MW->Prop) (E:MV->MW->Prop),tn i s.heap->Q (.ref it) s->M5 (M9 P w) A (Pu (.ref it)) Q E s
abbrev TI:=St->Hp->(It->Hp->Prop)->Prop
def Ib(X:Cx)(pins:List (MU×Obj))(σ:St)(tg:Np)(R:It->Hp->Prop)(itv:MV)(s2:MW):Prop:=
 ∃ (it:MU) (fp:List MU) (tn:Nat->No->Prop) (J:It) (H':Hp),itv=.ref it/\Inv X pins σ H' s2/\Turn X.prog X.w X.K tg J fp it tn/\tn 0 s2.heap/\(∀ b∈fp,qW X pins H' b)/\R J H'
def PI(X:Cx)(tg iter:Np)(wi:TI):Prop:=
 ∀ (pins:List (MU×Obj)) (s:MW) (σ:St) (H:Hp) (R:It->Hp->Prop),Inv X pins σ H s->wi σ H R->
  M5 (M9 X.prog X.w) X.A (eval iter X.env) (fun v s1=>M5 (M9 X.prog X.w) X.A (Pu v) (Ib X pins σ tg R) X.xe s1) X.xe s
theorem Ae{M:Model}{A:Nh}{E:MV->MW->Prop}{s:MW}{tg:Np}{it:MU}{u:MV}{o:Obj}{n:String}{vs:Array MV}{Q:Unit->MW->Prop}(ho:s.heap.get? it=some o)(hc:o.cls=.type n)(hd:o.data=.fields vs)
  (hn:["enumerate","zip","dict_itemiterator","dict_reverseitemiterator","odict_iterator","itertools.zip_longest","itertools.pairwise"].contains n=false) (hQ:Q () s):M5 M A (OY tg (.ref it) u) Q E s:=by
 unfold OY;cases tg<;>first
  | exact MX hQ
  | (cases u<;>first
    | exact MX hQ
    | (refine MT (wpAny_load ho ?_)
       rw[hc,hd];show M5 M A (if (["enumerate","zip","dict_itemiterator","dict_reverseitemiterator","odict_iterator","itertools.zip_longest","itertools.pairwise"].contains n && vs[0]? == some (O0 _))=true then _ else _) Q E s
       rw[if_neg (by intro h;rw[hn,Bool.false_and]at h;cases h)]
       exact MX hQ))
def Ln(K:PySem.W.Frag)(a:MU):It:=
 ⟨fun i H=>∃ xs x,kP K H a xs/\xs[i]?=some x,fun i H x H'=>H'=H/\∀ xs,kP K H a xs->xs[i]?=some x,fun i H=>∃ xs,kP K H a xs/\xs.length<=i⟩
def Ml(K:PySem.W.Frag)(a:MU):It:=
 ⟨fun i H=>∃ xs x,kT K H a xs/\xs[i]?=some x,fun i H x H'=>H'=H/\∀ xs,kT K H a xs->xs[i]?=some x,fun i H=>∃ xs,kT K H a xs/\xs.length<=i⟩
def Lm(lo:Int)(n:Nat):It:=⟨fun i _=>i < n,fun i H x H'=>H'=H/\x=.int (lo+i),fun i _=>n<=i⟩
theorem CC{P:Nf}{w:Nn}{K:PySem.W.Frag}{tg:Np}(a it:MU):Turn P w K tg (Ln K a) [it] it (fun i h=>h.IsListIter it a i) where
 mem:=by simp
 obj:=fun i h st b hb=>by
  have e:b=it:=by simpa using hb
  subst e;obtain⟨o,e,c,d⟩:=st;exact⟨o,e,fun v z=>by rw[d]at z;cases z⟩
 keep:=fun i h h' st k=>st.at fun o e=>k it (by simp) o e
 item:=by
  intro X hP hw hK hc i pins s σ H E I hf st hg;subst hP hw hK;obtain⟨xs,x,hq,hx⟩:=hg;obtain⟨its,rv,p,hz⟩:=I.list hq;obtain⟨u,hu,ru⟩:=rv.get hx;obtain⟨f0,f1,f2,f3,f4,f5⟩:=hf it (by simp)
  refine Ra st p.isList (x:=u) (by simpa using hu) fun h' st' sb=>?_
  have I1:Inv X pins σ H { s with heap:=h' }:=I.turned (t':=s.toks) (fun b o hb e=>(sb.2 b hb).trans e) f0 f1 f3 f4 f5
  obtain⟨o,e,c,d⟩:=id st';exact⟨u,rfl,Ae (s:={ s with heap:=h' }) e c d (by decide) ⟨x,H,I1,ru,⟨rfl,fun ys hy=>by rw[I.list_inj hy hq];exact hx⟩,st',fun b hb=>(hf b hb).1⟩⟩
 done:=by
  intro X hP hw hK hc i pins s σ H E I hf st hg;subst hP hw hK;obtain⟨xs,hq,hx⟩:=hg;obtain⟨its,rv,p,hz⟩:=I.list hq;obtain⟨f0,f1,f2,f3,f4,f5⟩:=hf it (by simp)
  have hl:=rv.length;exact Rk (I.ok.hd hc) st p.isList (by simp;omega) fun h' eb=>⟨rfl,I.turned (t':=s.toks) (fun b o hb e=>eb b o hb e) f0 f1 f3 f4 f5⟩
 self:=fun _ _ _ _ _ st h=>wpAny_pyIter_listiter st h
theorem AF{P:Nf}{w:Nn}{K:PySem.W.Frag}{tg:Np}(a it:MU):Turn P w K tg (Ml K a) [it] it (fun i h=>h.IsTupleIter it a i) where
 mem:=by simp
 obj:=fun i h st b hb=>by
  have e:b=it:=by simpa using hb
  subst e;obtain⟨o,e,c,d⟩:=st;exact⟨o,e,fun v z=>by rw[d]at z;cases z⟩
 keep:=fun i h h' st k=>st.at fun o e=>k it (by simp) o e
 item:=by
  intro X hP hw hK hc i pins s σ H E I hf st hg;subst hP hw hK;obtain⟨xs,x,hq,hx⟩:=hg;obtain⟨its,rv,p,hz⟩:=I.tuple hq;obtain⟨u,hu,ru⟩:=rv.get hx;obtain⟨f0,f1,f2,f3,f4,f5⟩:=hf it (by simp)
  refine wpAny_pyNext_tuple_item st (show s.heap.IsTuple a its.toArray from p) (x:=u) (by simpa using hu) fun h' st' sb=>?_
  have I1:Inv X pins σ H { s with heap:=h' }:=I.turned (t':=s.toks) (fun b o hb e=>(sb.2 b hb).trans e) f0 f1 f3 f4 f5
  obtain⟨o,e,c,d⟩:=id st';exact⟨u,rfl,Ae (s:={ s with heap:=h' }) e c d (by decide) ⟨x,H,I1,ru,⟨rfl,fun ys hy=>by rw[I.tuple_inj hy hq];exact hx⟩,st',fun b hb=>(hf b hb).1⟩⟩
 done:=by
  intro X hP hw hK hc i pins s σ H E I hf st hg;subst hP hw hK;obtain⟨xs,hq,hx⟩:=hg;obtain⟨its,rv,p,hz⟩:=I.tuple hq;obtain⟨f0,f1,f2,f3,f4,f5⟩:=hf it (by simp)
  have hl:=rv.length;exact wpAny_pyNext_tuple_end (I.ok.hd hc) st (show s.heap.IsTuple a its.toArray from p) (by simp;omega) fun h' eb=>⟨rfl,I.turned (t':=s.toks) (fun b o hb e=>eb b o hb e) f0 f1 f3 f4 f5⟩
 self:=fun _ _ _ _ _ st h=>wpAny_pyIter_tupleiter st h
theorem AG{P:Nf}{w:Nn}{K:PySem.W.Frag}{tg:Np}(it:MU)(lo:Int)(n:Nat):Turn P w K tg (Lm lo n) [it] it (fun i h=>IsRangeIter h it (lo+(i:Nat)*1) ((n:Int) - (i:Nat)) 1) where
 mem:=by simp
 obj:=fun i h st b hb=>by
  have e:b=it:=by simpa using hb
  subst e;exact⟨_,st,fun v z=>by
   have z':Data.fields _=Data.cell v:=z;cases z'⟩
 keep:=fun i h h' st k=>k it (by simp) _ st
 item:=by
  intro X hP hw hK hc i pins s σ H E I hf st hg;subst hP hw hK;obtain⟨f0,f1,f2,f3,f4,f5⟩:=hf it (by simp)
  have W:=Walks.range (prog:=X.prog) (w:=X.w) (I.ok.hd hc) it lo 1 n;refine W.item i s _ _ hg st fun v h' tk hv st' kk=>?_;obtain⟨t,rfl⟩:=hv;have I1:Inv X pins σ H { s with heap:=h',toks:=tk }:=I.turned (fun b o hb e=>kk b o (by simpa using hb) e) f0 f1 f3 f4 f5
  refine⟨_,rfl,Ae (s:={ s with heap:=h',toks:=tk }) (n:="range_iterator") st' rfl rfl (by decide) ⟨.int (lo+i),H,I1,⟨t,?_⟩,⟨rfl,rfl⟩,st',fun b hb=>(hf b hb).1⟩⟩
  rw[Int.mul_one]
 done:=by
  intro X hP hw hK hc i pins s σ H E I hf st hg;subst hP hw hK;obtain⟨f0,f1,f2,f3,f4,f5⟩:=hf it (by simp)
  exact wpAny_pyNext_range_end (I.ok.hd hc) st (by have:n<=i:=hg;omega) fun h' eb=>⟨rfl,I.turned (t':=s.toks) (fun b o hb e=>eb b o hb e) f0 f1 f3 f4 f5⟩
 self:=fun _ _ _ _ _ st h=>wpAny_pyIter_rangeiter st h
section
variable{X:Cx}{tg:Np}
theorem zi{pins:List (MU×Obj)}{σ:St}{H:Hp}{s:MW}{R:It->Hp->Prop}{E:MV->MW->Prop}{lo hi:Int}{t u v:Tok}{tk:Nat}(I:Inv X pins σ H s)(h1:-(2 ^ 62)<=lo)(h2:lo < 2 ^ 62)(h3:-(2 ^ 62)<=hi)(h4:hi < 2 ^ 62)
  (q:R (Lm lo (hi - lo).toNat) H):M5 (M9 X.prog X.w) X.A (Pu (.ref s.heap.objs.size)) (Ib X pins σ tg R) E { s with heap:=s.heap.push { cls:=.type "range",data:=.fields #[.int lo t,.int hi u,.int 1 v] },toks:=tk }:=by
 refine wpAny_pyIter_range (IsRange.new ..) (small_one h1 h2 h3 h4) ?_;have I1:Inv X pins σ H { s with heap:=s.heap.push { cls:=.type "range",data:=.fields #[.int lo t,.int hi u,.int 1 v] },toks:=tk }:=I.kept fun b o e=>M0 _ e
 refine⟨(s.heap.push { cls:=.type "range",data:=.fields #[.int lo t,.int hi u,.int 1 v] }).objs.size,[(s.heap.push { cls:=.type "range",data:=.fields #[.int lo t,.int hi u,.int 1 v] }).objs.size],_,_,H,rfl,
  I1.kept (t':=tk) fun b o e=>M0 _ e,AG _ lo (hi - lo).toNat,?_,fun b hb=>?_,q⟩
 ·have e1:lo+((0:Nat):Int)*1=lo:=by simp
  have e2:(((hi - lo).toNat:Nat):Int) - ((0:Nat):Int)=Builtin.Range.rangeSize lo hi 1:=by rw[rangeSize_one];split<;>omega
  show IsRangeIter _ _ (lo+((0:Nat):Int)*1) ((((hi - lo).toNat:Nat):Int) - ((0:Nat):Int)) 1
  rw[e1,e2];exact M6 _ rfl
 ·have e:b=(s.heap.push { cls:=.type "range",data:=.fields #[.int lo t,.int hi u,.int 1 v] }).objs.size:=by simpa using hb
  subst e;exact I1.fpOk (le_refl _) (I1.hok.fresh (le_refl _))
def KJ(ta:TA):TI:=fun σ H R=>ta σ H fun vs H1=>∃ j:Int,vs=[.int j]/\-(2 ^ 62)<=j/\j < 2 ^ 62/\R (Lm 0 j.toNat) H1
def KI(ta:TA):TI:=fun σ H R=>ta σ H fun vs H1=>∃ i j:Int,vs=[.int i,.int j]/\(-(2 ^ 62)<=i/\i < 2 ^ 62/\-(2 ^ 62)<=j/\j < 2 ^ 62)/\R (Lm i (j - i).toNat) H1
theorem CS{a:Np}{ta:TA}{p pos:Pos}(hg:Gl X "range")(hm:X.mg "range"=none)(ha:PA X [a] ta)(hs:M_ [a] X.env=[(false,eval a X.env)]:=by rfl):PI X tg (.Call (.Name "range" p) [a] [] pos) (KJ ta):=by
 intro pins s σ H R I h;refine R6 (kM I hg hm boot_range (PyProof.Rows.callWith_type1 (cY (ha pos pins s σ H _ I h) fun us s1 ⟨vs,H1,I1,r1,q1⟩=>?_) hs rfl));obtain⟨j,e,q1,q2,q⟩:=q1;subst e;cases r1 with
 | cons r rr=>
  cases rr;obtain⟨t,rfl⟩:=r;exact call_range_1 (zi I1 (by walk_at "o") (by walk_at "o") q1 q2 (by simpa using q))
theorem CQ{a b:Np}{ta:TA}{p pos:Pos}(hg:Gl X "range")(hm:X.mg "range"=none)(ha:PA X [a,b] ta)(hs:M_ [a,b] X.env=[(false,eval a X.env),(false,eval b X.env)]:=by rfl)(hs2:M_ [b] X.env=[(false,eval b X.env)]:=by rfl):
  PI X tg (.Call (.Name "range" p) [a,b] [] pos) (KI ta):=by
 intro pins s σ H R I h;refine R6 (kM I hg hm boot_range (PyProof.Rows.callWith_type1 (cY (ha pos pins s σ H _ I h) fun us s1 ⟨vs,H1,I1,r1,q1⟩=>?_) (by rw[hs,hs2]) (by rw[hs2];rfl)))
 obtain⟨i,j,e,⟨q1,q2,q3,q4⟩,q⟩:=q1;subst e;cases r1 with
 | cons r rr=>
  cases rr with
  | cons r' rr=>
   cases rr;obtain⟨t,rfl⟩:=r;obtain⟨t',rfl⟩:=r';exact call_range_2 (zi I1 q1 q2 q3 q4 q)
def LL(wi:TI)(g:TG)(tb:TS):TS:=fun D σ H=>wi σ H fun J H1=>∃ W:Nat->Nat->St->Hp->Prop,(∃ m,W 0 m σ H1)/\∀ i m σ H,W i m σ H->
 (J.stop i H/\D.nx σ H)\/(J.go i H/\∃ N:St->Hp->Prop,(∀ σ' H',N σ' H'->∃ m',m' < m/\W (i+1) m' σ' H')/\∀ x H',J.yld i H x H'->g x σ H' fun σ2 H2=>tb { D with nx:=N,ct:=N,bk:=D.nx } σ2 H2)
def qk(fp:List MU)(h:No):List (MU×Obj):=fp.filterMap fun b=>(h.get? b).map fun o=>(b,o)
theorem je{fp:List MU}{h:No}{b:MU}{o:Obj}(hb:b∈fp)(e:h.get? b=some o):(b,o)∈qk fp h:=mem_filterMap.mpr ⟨b,hb,by rw[e];rfl⟩
theorem C1{fp:List MU}{h:No}{p:MU×Obj}(hp:p∈qk fp h):p.1∈fp/\h.get? p.1=some p.2:=by
 obtain⟨b,hb,e⟩:=mem_filterMap.mp hp;cases q:h.get? b with
 | none=>rw[q]at e;cases e
 | some o=>
  rw[q]at e;have e':(b,o)=p:=Option.some.inj e;subst e';exact⟨hb,q⟩
theorem Inv.pinned{pins:List (MU×Obj)}{σ:St}{H:Hp}{s:MW}{fp:List MU}(I:Inv X pins σ H s)(hf:∀ b∈fp,qW X pins H b)(ho:∀ b∈fp,∃ o,s.heap.get? b=some o/\∀ v,o.data≠.cell v):Inv X (pins ++ qk fp s.heap) σ H s:=
 I.pins_of fun p hp=>(RJ.mp hp).elim (fun z=>I.pin p (Nx _ z)) fun z=>by
  obtain⟨hb,e⟩:=C1 z;obtain⟨f0,f1,f2,_⟩:=hf p.1 hb;obtain⟨o,e',d⟩:=ho p.1 hb;rw[e]at e';cases e';exact⟨e,f0,f1,f2,d⟩
theorem Inv.unpinned{pins pl:List (MU×Obj)}{σ:St}{H:Hp}{s:MW}(I:Inv X (pins ++ pl) σ H s):Inv X pins σ H s:=I.pins_of fun p hp=>I.pin p (Nx _ (OG _ hp))
theorem EI{iter:Np}{body:List Nu}{wi:TI}{g:TG}{tb:TS}{pos:Pos}(hp:Qj (M9 X.prog X.w) X.A X.env X.xe)(hc:X.calm=true)(hi:PI X tg iter wi)(hg:PG X tg g)(hb:rF X body tb)
  (hs:∀ x,NZ iter X.env x=pure x:=by intro _;rfl):PS X (.For tg iter body [] pos) (LL wi g tb):=by
 intro pins s σ H D I h;refine wpAny_For (cY (hi pins s σ H _ I h) fun v s1 h1=>cY h1 fun itv s2 h2=>?_) hs;obtain⟨it,fp,tn,J,H2,e,I2,T,st2,f2,W,⟨m0,w0⟩,turn⟩:=h2;subst e;have Vy:∀ {H':Hp},(∀ b∈fp,H' b=none)->∀ b∈fp,qW X pins H' b:=fun hn b hb=>⟨hn b hb,(f2 b hb).2⟩;refine Rx (fun n s'=>∃ i σ' H',Inv X pins σ' H' s'/\tn i s'.heap/\(∀ b∈fp,H' b=none)/\W i n σ' H') ?_ m0 ⟨0,σ,H2,I2,st2,fun b hb=>(f2 b hb).1,w0⟩
 rintro n s3 ⟨i,σ3,H3,I3,st3,fr3,w3⟩
 rcases turn i n σ3 H3 w3 with ⟨stop,qn⟩|⟨go,N,hN,step⟩
 ·refine NN hp (cY (T.done X rfl rfl rfl hc i pins s3 σ3 H3 X.xe I3 (Vy fr3) st3 stop) fun r s4 zz=>?_);obtain⟨hr,I4⟩:=zz;subst hr;exact Pn ⟨σ3,H3,I4,qn⟩
 ·refine NN hp (cY (T.item X rfl rfl rfl hc i pins s3 σ3 H3 X.xe I3 (Vy fr3) st3 go) fun r s4 zz=>?_);obtain⟨u,hr,h4⟩:=zz;subst hr;refine NN hp (cY h4 fun _ s5 zz=>?_);obtain⟨x,H5,I5,r5,y5,st5,fr5⟩:=zz;have I5':=I5.pinned (Vy fr5) (T.obj _ _ st5);refine NN hp (cY (hg _ s5 σ3 H5 x u _ I5' r5 (step x H5 y5)) fun _ s6 zz=>?_);obtain⟨σ6,H6,I6,q6⟩:=zz;refine NN hp (cY (hb _ s6 σ6 H6 _ I6 q6) fun f s7 q7=>?_);have again:∀ {σ7:St} {H7:Hp},Inv X (pins ++ qk fp s5.heap) σ7 H7 s7->N σ7 H7->∃ m,m < n/\∃ i σ' H',Inv X pins σ' H' s7/\tn i s7.heap/\(∀ b∈fp,H' b=none)/\W i m σ' H':=fun {σ7 H7} I7 n7=>by
   obtain⟨m',hm,w7⟩:=hN σ7 H7 n7;refine⟨m',hm,i+1,σ7,H7,I7.unpinned,T.keep _ _ _ st5 fun b hb o e=>(I7.pin (b,o) (Nx _ (Nx _ (je hb e)))).1,fun b hb=>?_,w7⟩;obtain⟨o,e,d⟩:=T.obj _ _ st5 b hb;exact (I7.pin (b,o) (Nx _ (Nx _ (je hb e)))).2.1
  cases f with
  | next=>obtain⟨σ7,H7,I7,n7⟩:=q7;exact again I7 n7
  | cont=>obtain⟨σ7,H7,I7,n7⟩:=q7;exact again I7 n7
  | brk=>obtain⟨σ7,H7,I7,q7⟩:=q7;exact⟨σ7,H7,I7.unpinned,q7⟩
  | ret v=>obtain⟨x7,σ7,H7,I7,r7,q7⟩:=q7;exact⟨x7,σ7,H7,I7.unpinned,r7,q7⟩
end
abbrev R2:=V->V->Hp->VK->Prop
def iS(X:Cx)(f:MV->MV->Sem MV)(r:R2):Prop:=
 ∀ (pins:List (MU×Obj)) (s:MW) (σ:St) (H:Hp) (x y:V) (v u:MV) (Q:VK),Inv X pins σ H s->aN x v->aN y u->r x y H Q->
  M5 (M9 X.prog X.w) X.A (f v u) (EP X pins σ Q) X.xe s
def d4(X:Cx)(f:MV)(r:List V->Hp->VK->Prop):Prop:=
 ∀ (pins:List (MU×Obj)) (s:MW) (σ:St) (H:Hp) (xs:List V) (us:List MV) (Q:VK),Inv X pins σ H s->Vals xs us->r xs H Q->
  M5 (M9 X.prog X.w) X.A (call f us) (EP X pins σ Q) X.xe s
def Mi(X:Cx)(r:V->Hp->(Bool->Hp->Prop)->Prop):Prop:=
 ∀ (pins:List (MU×Obj)) (s:MW) (σ:St) (H:Hp) (x:V) (v:MV) (Q:Bool->Hp->Prop),Inv X pins σ H s->aN x v->r x H Q->
  M5 (M9 X.prog X.w) X.A (truthy v) (TP X pins σ Q) X.xe s
def JY(r:R2)(ta tb:TE):TE:=fun σ H Q=>ta σ H fun x H1=>tb σ H1 fun y H2=>r x y H2 Q
def rI(C:Int->Int->Prop)(g:Int->Int->V):R2:=fun x y H Q=>∃ i j,x=.int i/\y=.int j/\C i j/\Q (g i j) H
def HI(g:Int->Int->V):R2:=fun x y H Q=>∃ i j,x=.int i/\y=.int j/\Q (g i j) H
section
variable{X:Cx}{a b c:Np}{ta tb tc:TE}{pos:Pos}
theorem JO(ha:PE X a ta)(hb:PE X b tb){pins:List (MU×Obj)}{s:MW}{σ:St}{H:Hp}{R:V->V->Hp->Prop}(I:Inv X pins σ H s)
  (h:ta σ H fun x H1=>tb σ H1 fun y H2=>R x y H2) {Q:MV->MW->Prop} {f:MV->MV->Sem MV}
  (hf:∀ v u s2 x y H2,Inv X pins σ H2 s2->aN x v->aN y u->R x y H2->M5 (M9 X.prog X.w) X.A (f v u) Q X.xe s2):
  M5 (M9 X.prog X.w) X.A (eval a X.env) (fun v s₁=>M5 (M9 X.prog X.w) X.A (eval b X.env) (fun u s₂=>M5 (M9 X.prog X.w) X.A (f v u) Q X.xe s₂) X.xe s₁) X.xe s:=by
 refine cY (ha pins s σ H _ I h) fun v s1 zz=>?_;obtain⟨x,H1,I1,r1,q1⟩:=zz;refine cY (hb pins s1 σ H1 _ I1 q1) fun u s2 zz=>?_;obtain⟨y,H2,I2,r2,q2⟩:=zz;exact hf v u s2 x y H2 I2 r1 r2 q2
theorem Ks{op:Operator}{r:R2}(ho:iS X (Oi op) r)(ha:PE X a ta)(hb:PE X b tb):PE X (.BinOp a op b pos) (JY r ta tb):=by
 intro pins s σ H Q I h;exact wpAny_BinOp (JO ha hb I h fun v u s2 x y H2 I2 rx ry q=>ho pins s2 σ H2 x y v u Q I2 rx ry q)
theorem LW{f:MV->MV->Sem MV}{C:Int->Int->Prop}{g:Int->Int->Int}
  (rule:∀ (i j:Int) (t u:Tok) (s:MW) (Q:MV->MW->Prop) (E:MV->MW->Prop),C i j->Q (.int (g i j) s.toks) { s with toks:=s.toks+1 }->M5 (M9 X.prog X.w) X.A (f (.int i t) (.int j u)) Q E s):
  iS X f (rI C fun i j=>.int (g i j)):=by
 intro pins s σ H x y v u Q I rx ry h;obtain⟨i,j,rfl,rfl,hc,q⟩:=h;obtain⟨t,rfl⟩:=rx;obtain⟨t',rfl⟩:=ry;exact rule i j t t' s _ _ hc ⟨.int (g i j),H,I.tok _,⟨_,rfl⟩,q⟩
theorem KD{f:MV->MV->Sem MV}{g:Int->Int->Int}
  (rule:∀ (i j:Int) (t u:Tok) (s:MW) (Q:MV->MW->Prop) (E:MV->MW->Prop),Q (.int (g i j) s.toks) { s with toks:=s.toks+1 }->M5 (M9 X.prog X.w) X.A (f (.int i t) (.int j u)) Q E s):
  iS X f (HI fun i j=>.int (g i j)):=by
 intro pins s σ H x y v u Q I rx ry h;obtain⟨i,j,rfl,rfl,q⟩:=h;obtain⟨t,rfl⟩:=rx;obtain⟨t',rfl⟩:=ry;exact rule i j t t' s _ _ ⟨.int (g i j),H,I.tok _,⟨_,rfl⟩,q⟩
theorem Ja{f:MV->MV->Sem MV}{g:Int->Int->Bool}
  (rule:∀ (i j:Int) (t u:Tok) (s:MW) (Q:MV->MW->Prop) (E:MV->MW->Prop),Q (.bool (g i j)) s->M5 (M9 X.prog X.w) X.A (f (.int i t) (.int j u)) Q E s):
  iS X f (HI fun i j=>.bl (g i j)):=by
 intro pins s σ H x y v u Q I rx ry h;obtain⟨i,j,rfl,rfl,q⟩:=h;obtain⟨t,rfl⟩:=rx;obtain⟨t',rfl⟩:=ry;exact rule i j t t' s _ _ ⟨.bl (g i j),H,I,rfl,q⟩
def Lq(i j:Int):Prop:=0 < j/\j < 1073741824
def Mo(i j:Int):Prop:=0<=j/\j<=1000000/\i.natAbs < 2 ^ 64
def HA(i j:Int):Prop:=(-(2 ^ 64) < i/\i < 2 ^ 64)\/(-(2 ^ 64) < j/\j < 2 ^ 64)
theorem HA.ok{i j:Int}(h:HA i j):IntMulOk i j:=by
 rcases h with ⟨h1,h2⟩|⟨h1,h2⟩
 ·exact .of_left (intBits_le_64 h1 h2)
 ·exact .of_right (intBits_le_64 h1 h2)
theorem I_:iS X (Oi .Add) (HI fun i j=>.int (i+j)):=KD fun _ _ _ _ _ _ _ q=>add_int q
theorem IX:iS X (Oi .Sub) (HI fun i j=>.int (i - j)):=KD fun _ _ _ _ _ _ _ q=>sub_int q
theorem IY:iS X (Oi .Mult) (rI HA fun i j=>.int (i*j)):=LW fun _ _ _ _ _ _ _ hc q=>mul_int q hc.ok
theorem GJ:iS X (Oi .FloorDiv) (rI Lq fun i j=>.int (i / j)):=LW fun i j _ _ _ _ _ hc q=>by
 have h1:(0:Int) < j:=hc.1;have h2:j < 1073741824:=hc.2;exact floordiv_int (by walk_at "o") (by rw[Int.fdiv_eq_ediv_of_nonneg i (by walk_at "o")];exact q) (.inl (PyProof.noPylong_small (by walk_at "o")))
theorem IZ:iS X (Oi .Mod) (rI (fun _ j=>0 < j) fun i j=>.int (i % j)):=LW fun i j _ _ _ _ _ hc q=>by
 have h1:(0:Int) < j:=hc;exact mod_int' (by walk_at "o") (by rw[Int.fmod_eq_emod_of_nonneg i (by walk_at "o")];exact q)
theorem KA:iS X (NA .Lt) (HI fun i j=>.bl (decide (i < j))):=Ja fun _ _ _ _ _ _ _ q=>lt_int q
theorem KB:iS X (NA .LtE) (HI fun i j=>.bl (decide (i<=j))):=Ja fun _ _ _ _ _ _ _ q=>le_int q
theorem KC:iS X (NA .Gt) (HI fun i j=>.bl (decide (j < i))):=Ja fun _ _ _ _ _ _ _ q=>gt_int q
theorem iS.or{f:MV->MV->Sem MV}{r r':R2}(h:iS X f r)(h':iS X f r'):iS X f (fun x y H Q=>r x y H Q\/r' x y H Q):=by
 intro pins s σ H x y v u Q I rx ry q;rcases q with q|q
 ·exact h pins s σ H x y v u Q I rx ry q
 ·exact h' pins s σ H x y v u Q I rx ry q
theorem c_(b:Np){op:PR}(h:op≠.In:=by decide)(h2:op≠.NotIn:=by decide):NQ op b=false:=by
 have e1:(op == CmpOp.In)=false:=by cases op<;>first|rfl|exact absurd rfl h
 have e2:(op == CmpOp.NotIn)=false:=by cases op<;>first|rfl|exact absurd rfl h2
 cases b<;>simp[NQ,e1,e2]
theorem B1{op:PR}{r:R2}(ho:iS X (NA op) r)(ha:PE X a ta)(hb:PE X b tb)(hm:NQ op b=false):PE X (.Compare a [op] [b] pos) (JY r ta tb):=by
 intro pins s σ H Q I h;exact wpAny_Compare1 (JO ha hb I h fun v u s2 x y H2 I2 rx ry q=>ho pins s2 σ H2 x y v u Q I2 rx ry q) hm
def D6(t:TE):TT:=fun σ H Q=>t σ H fun x H'=>∃ k,x=.bl k/\Q k H'
theorem BW{op:PR}{r:R2}(ho:iS X (NA op) r)(ha:PE X a ta)(hb:PE X b tb)(hm:NQ op b=false):PT X (.Compare a [op] [b] pos) (D6 (JY r ta tb)):=by
 intro pins s σ H Q I h;refine Rl (cY (ha pins s σ H _ I h) fun v s1 zz=>?_) hm;obtain⟨x,H1,I1,r1,q1⟩:=zz;refine cY (hb pins s1 σ H1 _ I1 q1) fun u s2 zz=>?_;obtain⟨y,H2,I2,r2,q2⟩:=zz;refine cY (ho pins s2 σ H2 x y v u _ I2 r1 r2 q2) fun c s3 zz=>?_;obtain⟨z,H3,I3,r3,k,e,q3⟩:=zz;subst e;cases r3;exact Om ⟨H3,I3,q3⟩
def D8(r r':R2)(ta tb tc:TE):TE:=fun σ H Q=>ta σ H fun x H1=>tb σ H1 fun y H2=>r x y H2 fun z H3=>∃ k,z=.bl k/\
 (if k=true then tc σ H3 fun w' H4=>r' y w' H4 Q else Q (.bl false) H3)
theorem EC{op op':PR}{r r':R2}(ho:iS X (NA op) r)(ho':iS X (NA op') r')(ha:PE X a ta)(hb:PE X b tb)(hc:PE X c tc)
  (hm:lastMarks [op,op'] [b,c]=false:=by with_unfolding_all rfl):PT X (.Compare a [op,op'] [b,c] pos) (D6 (D8 r r' ta tb tc)):=by
 intro pins s σ H Q I h;refine isTrue_chain (cY (ha pins s σ H _ I h) fun v s1 ⟨x,H1,I1,r1,q1⟩=>test_link (cY (hb pins s1 σ H1 _ I1 q1) fun u s2 zz=>?_)) hm;obtain⟨y,H2,I2,r2,q2⟩:=zz;refine cY (ho pins s2 σ H2 x y v u _ I2 r1 r2 q2) fun d s3 zz=>?_;obtain⟨z,H3,I3,r3,k,e,q3⟩:=zz;subst e;cases r3;refine Om ?_;cases k with
 | false=>
  obtain⟨k',e',q'⟩:=q3;cases e';exact ite_ff ⟨H3,I3,q'⟩
 | true=>
  refine ite_tt (test_last (cY (hc pins s3 σ H3 _ I3 q3) fun w' s4 zz=>?_));obtain⟨z',H4,I4,r4,q4⟩:=zz;refine cY (ho' pins s4 σ H4 y z' u w' _ I4 r2 r4 q4) fun d' s5 zz=>?_;obtain⟨z2,H5,I5,r5,k2,e2,q5⟩:=zz;subst e2;cases r5;exact Om ⟨H5,I5,q5⟩
def Lh(K:PySem.W.Frag)(x:V)(H:Hp)(k:Bool):Prop:=
 match x with
 | .non=>k=false
 | .bl b=>k=b
 | .int i=>k=(i != 0)
 | .str y=>y.length<=M4/\k=((y.length:Int) != 0)
 | .byt y=>y.size<=M4/\k=((y.size:Int) != 0)
 | .ref p=>(∃ xs,kP K H p xs/\k=!xs.isEmpty)\/(∃ xs,kT K H p xs/\k=!xs.isEmpty)\/∃ kvs,H p=some (.dK kvs)/\k=!kvs.isEmpty
 | _=>False
theorem Bq{κ:Type}{kvs:List (κ×V)}{vs:List (κ×MV)}(r:KV kvs vs):(!vs.isEmpty)=!kvs.isEmpty:=by
 cases r<;>rfl
theorem uq{xs:List V}{its:List MV}(r:Vals xs its):(!its.toArray.isEmpty)=!xs.isEmpty:=by
 cases r<;>simp
theorem mm:(M4:Nat) < 2 ^ 63:=by rw[N3];decide
theorem Io:Mi X (fun x H Q=>∃ k,Lh X.K x H k/\Q k H):=by
 intro pins s σ H x v Q I rx h;obtain⟨k,e,q⟩:=h;have hl:=mm;have hs:M4=16777216:=N3;cases x with
 | non=>
  cases rx;have e':k=false:=e;subst e';exact truthy_none ⟨H,I,q⟩
 | bl b=>
  cases rx;have e':k=b:=e;subst e';exact Om ⟨H,I,q⟩
 | int i=>
  obtain⟨t,rfl⟩:=rx;have e':k=(i != 0):=e;subst e';exact PySem.P.truthy_int ⟨H,I,q⟩
 | str y=>
  obtain⟨t,rfl⟩:=rx;obtain⟨hy,e'⟩:y.length<=M4/\k=((y.length:Int) != 0):=e;subst e';exact PySem.P.truthy_str (by walk_at "o") ⟨H,I.tok _,q⟩
 | byt y=>
  obtain⟨t,rfl⟩:=rx;obtain⟨hy,e'⟩:y.size<=M4/\k=((y.size:Int) != 0):=e;subst e';exact PySem.W.truthy_bytes (by walk_at "o") ⟨H,I.tok _,q⟩
 | ref p=>
  cases rx;have e':(∃ xs,kP X.K H p xs/\k=!xs.isEmpty)\/(∃ xs,kT X.K H p xs/\k=!xs.isEmpty)\/∃ kvs,H p=some (.dK kvs)/\k=!kvs.isEmpty:=e;rcases e' with ⟨xs,hx,e'⟩|⟨xs,hx,e'⟩|⟨kvs,hx,e'⟩
  ·subst e';obtain⟨its,r,pl,hz⟩:=I.list hx;have hlen:=r.length;exact wpAny_truthy_list pl.isList (by simp only[Nb];omega) ⟨H,I.tok _,by rw[uq r];exact q⟩
  ·subst e';obtain⟨its,r,pl,hz⟩:=I.tuple hx;have hlen:=r.length;exact truthy_tuple pl (by simp only[Nb];omega) ⟨H,I.tok _,by rw[uq r];exact q⟩
  ·subst e';obtain⟨hz,hS,vs,r,m⟩:kvs.length<=M4/\(p == NK)=false/\∃ vs,KV kvs vs/\s.heap.DictOf (bu X.prog X.w) p vs:=I.hok p _ hx;have hlen:kvs.length=vs.length:=Ph r;exact wpAny_truthy_dict hS m (by walk_at "o") ⟨H,I.tok _,by rw[Bq r];exact q⟩
 | _=>exact (show False from e).elim
theorem EA(ha:PE X a ta)(he:∀ whole,Rc a X.env whole=(do let v <- whole;Pq a.pos;holding [v] (truthy v))):
  PT X a (fun σ H Q=>ta σ H fun x H'=>∃ k,Lh X.K x H' k/\Q k H'):=by
 intro pins s σ H Q I h;exact isTrue_plain (cY (ha pins s σ H _ I h) fun v s1 ⟨x,H1,I1,r1,q1⟩=>Io pins s1 σ H1 x v Q I1 r1 q1) (he _)
theorem A_:iS X (Oi .Add) (fun x y H Q=>∃ i j,x=.str i/\y=.str j/\i.length+j.length<=M4/\Q (.str (i ++ j)) H):=by
 intro pins s σ H x y v u Q I rx ry h;obtain⟨i,j,rfl,rfl,hz,q⟩:=h;obtain⟨t,rfl⟩:=rx;obtain⟨t',rfl⟩:=ry;exact add_str (fun t' tk=>⟨.str (i ++ j),H,I.tok _,⟨_,rfl⟩,q⟩) hz
theorem sG{x:V}{us:List MV}(r:Vals [x] us):∃ u,us=[u]/\aN x u:=by
 cases r with
 | cons r1 r2=>cases r2;exact⟨_,rfl,r1⟩
theorem DW{x y:V}{us:List MV}(r:Vals [x,y] us):∃ u w',us=[u,w']/\aN x u/\aN y w':=by
 cases r with
 | cons r1 r2=>
  cases r2 with
  | cons r3 r4=>cases r4;exact⟨_,_,rfl,r1,r3⟩
theorem DC(hc:X.calm=true):d4 X (.builtin "max") (fun xs H Q=>∃ i j,xs=[.int i,.int j]/\Q (.int (if j > i then j else i)) H):=by
 intro pins s σ H xs us Q I r h;obtain⟨i,j,rfl,q⟩:=h;obtain⟨u,w',rfl,⟨t,rfl⟩,⟨t',rfl⟩⟩:=DW r;refine max_two_ints (I.ok.hd hc) fun h' tk k=>⟨_,H,I.kept k,?_,q⟩
 by_cases hj:j > i
 ·rw[if_pos hj,if_pos hj];exact⟨_,rfl⟩
 ·rw[if_neg hj,if_neg hj];exact⟨_,rfl⟩
theorem DB(hc:X.calm=true):d4 X (.builtin "min") (fun xs H Q=>∃ i j,xs=[.int i,.int j]/\Q (.int (if j < i then j else i)) H):=by
 intro pins s σ H xs us Q I r h;obtain⟨i,j,rfl,q⟩:=h;obtain⟨u,w',rfl,⟨t,rfl⟩,⟨t',rfl⟩⟩:=DW r;refine min_two_ints (I.ok.hd hc) fun h' tk k=>⟨_,H,I.kept k,?_,q⟩
 by_cases hj:j < i
 ·rw[if_pos hj,if_pos hj];exact⟨_,rfl⟩
 ·rw[if_neg hj,if_neg hj];exact⟨_,rfl⟩
end
structure ObjM(h:No)(x dx C:MU)(mA:Str->Option MV):Prop where
 obj:h.get? x=some (PV C dx)
 ns:h.Ns1 dx mA
 ne:dx≠x
theorem Db{h:No}{dx:MU}{mA:Str->Option MV}(n:h.Ns1 dx mA):∃ od,h.get? dx=some od/\∀ name,RK name od=some (mA name):=by
 obtain⟨o,es,ep,ho,hd,hk,_,hm⟩:=n;refine⟨o,ho,fun name=>?_⟩;have e:=hm name;unfold nsFind findBy at e;rw[<- Array.find?_toList]at e;unfold RK;rw[hd];dsimp only;split
 ·rename_i y q;rw[q]at e;exact congrArg some e
 ·rename_i q;rw[q]at e;have a:es.toList.any (·.refKey)=false:=by
   rw[List.any_eq_false];intro y hy;obtain⟨z,t,hkey⟩:=hk y (Array.mem_toList_iff.mp hy);simp[DictEntry.refKey,hkey]
  have a':¬ es.toList.any (·.refKey)=true:=by rw[a];exact Bool.false_ne_true
  rw[if_neg a'];exact congrArg some e
theorem ObjM.look{h:No}{x dx C:MU}{mA:Str->Option MV}(I:ObjM h x dx C mA):∃ od,PySem.W.InstAt h x (PV C dx) C (some od)/\∀ name,RK name od=some (mA name):=
 let ⟨od,ho,hl⟩:=Db I.ns
 ⟨od,⟨I.obj,rfl,rfl,ho⟩,hl⟩
section
variable{prog:Nf}{w:Nn}{A:Nh}{E:MV->MW->Prop}{s:MW}{K:PySem.W.Frag}{x dx C f:MU}{mA:Str->Option MV}{name:Str}{v:MV}
theorem He{expr:Bool}{Q:MV->MW->Prop}(X:K.In s.heap)(I:ObjM s.heap x dx C mA)(hg:QT K C name=true)(hh:Q5 K C=true)
  (ha:PySem.W.findIn K (.ref C) name=some none) (hv:mA name=some v) (hv':PySem.W.handedIn v=true) (h:Q v { s with toks:=s.toks+1 }):
  M5 (M9 prog w) A (getAttr (.ref x) name expr) Q E s:=by
 obtain⟨od,J,hl⟩:=I.look;exact PySem.W.get_value X J (QK hg).1 (PySem.W.findObj_own hh ha rfl (by rw[hl,hv])) hv' h
theorem Fm{pl:Sem Bool}{Q:MV×List MV->MW->Prop}(X:K.In s.heap)(I:ObjM s.heap x dx C mA)(hg:QT K C name=true)
  (hf:PySem.W.findIn K (.ref C) name=some (some (.ref f))) (ht:PySem.W.isFn K (.ref f)=true) (hv:mA name=none) (h:Q (.ref f,[.ref x]) s):
  M5 (M9 prog w) A (Pt (.ref x) name pl) Q E s:=by
 obtain⟨od,J,hl⟩:=I.look;exact PySem.W.method_fn X J (QK hg).1 (QK hg).2 hf (beq_iff_eq.mp ht) (by show (RK name od).map (·.isSome)=some false;rw[hl,hv];rfl) h
theorem Gb{ns:List Str}{Q:Unit->MW->Prop}(X:K.In s.heap)(I:ObjM s.heap x dx C mA)
  (hs:PySem.W.findIn K (.ref C) "__setattr__"=some (some (.builtin "object.__setattr__"))) (hp:PySem.W.plainOver K C=true) (ht:RX K C name=some none) (hh:Q5 K C=true)
  (hw:PySem.Within mA ns) (hsz:ns.length<=M4)
  (h:∀ h',ObjM h' x dx C (fun y=>if y=name then some v else mA y)->OE dx s.heap h'->Q () { s with heap:=h',toks:=s.toks+2 }):
  M5 (M9 prog w) A (setAttr (.ref x) name v) Q E s:=by
 obtain⟨od,J,hl⟩:=I.look;refine PySem.W.set_plain X J hs (PySem.W.osa_open (s:={ s with toks:=s.toks+1 }) (r:=none) X J hp ht fun b=>?_)
 obtain⟨cd,hc,hd'⟩:=PySem.W.any_some hh;have hx:s.heap.get? x=some ⟨.ref C,some dx,.plain,#[]⟩:=I.obj;refine MT (MX (MT (MT (wpAny_loadPart hx (MT (PySem.W.Looks.here (s:={ s with toks:=s.toks+1 }) (PySem.W.looks_clsIn X hc) ?_))))))
 rw[hd'];refine MX (a:=some dx) (MT (MX (MT ?_)));refine wpAny_nsSet1 (s:={ s with toks:=s.toks+1 }) I.ns fun h' hn2 hs2=>?_
 obtain⟨oD,esD,epD,hoD,hdD,hcD⟩:=hn2.count (PySem.Within.cons name v hw);refine MT (wpAny_lookBehind hoD (by rw[hdD];exact pastItsLine_dict (le_trans hcD (by rw[Ni];omega))) ?_)
 exact MX (h _ ⟨(hs2.2 _ (Ne.symm I.ne)).trans I.obj,hn2,I.ne⟩ hs2)
theorem E7{R:RT->MW->Prop}{vs:List MV}{kw:List (Str×MV)}(X:K.In s.heap)(hm:PySem.W.makesIn K C=true)
  (hi:PySem.W.findIn K (.ref C) "__init__"=some (some (.ref f))) (hf:PySem.W.typeIn K (.ref f)=some (.type "function"))
  (h:Ps (M9 prog w) (A.under (.builtin "type.__call__" ⟨.ref C::vs,kw⟩)) (.call (.ref f) ⟨.ref (s.heap.objs.size+1)::vs,kw⟩) (PySem.W.InitBack (s.heap.objs.size+1) R)
   { s with heap:=(s.heap.push O5).push (PV C s.heap.objs.size) }):
  Ps (M9 prog w) A (.call (.ref C) ⟨vs,kw⟩) R s:=by
 obtain⟨hh,g,d,t,os⟩:=s;exact PySem.W.make_core (PySem.W.makes_of X hm) (PySem.W.looks_findIn X hi) (fun self=>PySem.W.bind_fn X self hf) (.inl rfl) h
end
def gg(f:Str)(v:V):List (Str×V)->List (Str×V)
 | []=>[(f,v)]
 | (g,x)::r=>if g=f then (g,v)::r else (g,x)::gg f v r
theorem rh(f g:Str)(v:V):∀ fs:List (Str×V),(gg f v fs).lookup g=if g=f then some v else fs.lookup g
 | []=>by
  show List.lookup g [(f,v)]=_
  by_cases h:g=f
  ·have hb:(g == f)=true:=beq_iff_eq.mpr h;simp only[List.lookup,hb,if_pos h]
  ·have hb:(g == f)=false:=beq_eq_false_iff_ne.mpr h;simp only[List.lookup,hb,if_neg h]
 | (k,x)::r=>by
  have ih:=rh f g v r;rw[show gg f v ((k,x)::r)=(if k=f then (k,v)::r else (k,x)::gg f v r)from rfl]
  by_cases hk:k=f
  ·rw[if_pos hk]
   by_cases h:g=k
   ·have hb:(g == k)=true:=beq_iff_eq.mpr h;simp only[List.lookup,hb,if_pos (h.trans hk)]
   ·have hb:(g == k)=false:=beq_eq_false_iff_ne.mpr h;simp only[List.lookup,hb,if_neg (fun e:g=f=>h (e.trans hk.symm))]
  ·rw[if_neg hk]
   by_cases h:g=k
   ·have hb:(g == k)=true:=beq_iff_eq.mpr h;simp only[List.lookup,hb,if_neg (fun e:g=f=>hk (h.symm.trans e))]
   ·have hb:(g == k)=false:=beq_eq_false_iff_ne.mpr h;simp only[List.lookup,hb];exact ih
theorem qG(f:Str)(v:V):∀ fs:List (Str×V),f∈(gg f v fs).map (·.1)/\∀ g,g∈fs.map (·.1)->g∈(gg f v fs).map (·.1)
 | []=>⟨by simp[gg],fun g h=>by simp at h⟩
 | (k,x)::r=>by
  obtain⟨i1,i2⟩:=qG f v r;rw[show gg f v ((k,x)::r)=(if k=f then (k,v)::r else (k,x)::gg f v r)from rfl]
  by_cases hk:k=f
  ·rw[if_pos hk];subst hk;exact⟨by simp,fun g h=>by simpa using h⟩
  ·rw[if_neg hk];refine⟨?_,fun g h=>?_⟩
   ·rw[Nk];exact M3 _ i1
   ·rw[Nk]at h ⊢;rcases NH.mp h with e|e
    ·exact NH.mpr (.inl e)
    ·exact M3 _ (i2 g e)
theorem rp(f:Str)(v:V):∀ fs:List (Str×V),(gg f v fs).length<=fs.length+1
 | []=>by simp[gg]
 | (k,x)::r=>by
  have ih:=rp f v r;rw[show gg f v ((k,x)::r)=(if k=f then (k,v)::r else (k,x)::gg f v r)from rfl]
  by_cases hk:k=f
  ·rw[if_pos hk,Ni,Ni];omega
  ·rw[if_neg hk,Ni,Ni];omega
theorem lu.some_of{v:V}{o:Option MV}(r:lu (some v) o):∃ u,o=some u/\aN v u:=by
 cases o with
 | none=>exact (show False from r).elim
 | some u=>exact⟨u,rfl,r⟩
theorem lu.none_of{o:Option MV}(r:lu none o):o=none:=by
 cases o with
 | none=>rfl
 | some u=>exact (show False from r).elim
theorem Dp{v:V}{u:MV}(r:aN v u):PySem.W.handedIn u=true:=by
 cases v with
 | non=>cases (show u=Value.none from r);rfl
 | bl b=>cases (show u=Value.bool b from r);rfl
 | int i=>obtain⟨t,e⟩:=(show ∃ t,u=Value.int i t from r);cases e;rfl
 | str x=>obtain⟨t,e⟩:=(show ∃ t,u=Value.str x t from r);cases e;rfl
 | byt b=>obtain⟨t,e⟩:=(show ∃ t,u=Value.bytes b t from r);cases e;rfl
 | flt b=>obtain⟨t,e⟩:=(show ∃ t,u=Value.float b t from r);cases e;rfl
 | ref a=>cases (show u=Value.ref a from r);rfl
 | ty n=>cases (show u=Value.type n from r);rfl
section
variable{P:Nf}{w:Nn}{H H':Hp}{h h':No}{a C dx:MU}{fs fs':List (Str×V)}
theorem sx(hok:oh P w H h)(e:H a=some (.ins C dx fs)):∃ mA,ObjM h a dx C mA/\(∀ f,lu (fs.lookup f) (mA f))/\PySem.Within mA (fs.map (·.1))/\fs.length<=1000/\H dx=some (.own a):=by
 obtain⟨d,z,ne,ob,mA,n,r,q⟩:=(show ce P w H h a (.ins C dx fs)from hok a _ e)
 exact⟨mA,⟨ob,n,ne⟩,r,q,z,d⟩
end
structure Cls(K:PySem.W.Frag)(C:MU):Prop where
 pg:QT K C Str.empty=true
 hd:Q5 K C=true
 po:PySem.W.plainOver K C=true
 sa:PySem.W.findIn K (.ref C) "__setattr__"=some (some (.builtin "object.__setattr__"))
theorem Cls.get{K:PySem.W.Frag}{C:MU}(c:Cls K C)(f:Str):QT K C f=true:=c.pg
def db(K:PySem.W.Frag)(C:MU)(f:Str):Prop:=PySem.W.findIn K (.ref C) f=some none
theorem db.taker{K:PySem.W.Frag}{C:MU}{f:Str}(n:db K C f):RX K C f=some none:=by
 unfold RX;rw[show PySem.W.findIn K (.ref C) f=some none from n]
 rfl
structure Meth(K:PySem.W.Frag)(C:MU)(m:Str)(f:MU):Prop where
 at_:PySem.W.findIn K (.ref C) m=some (some (.ref f))
 fn:PySem.W.isFn K (.ref f)=true
 kp:PySem.W.keepIn K (.ref f)=true
section
variable{X:Cx}{pins:List (MU×Obj)}{σ:St}{H:Hp}{s:MW}{a C dx:MU}{fs:List (Str×V)}{f:Str}{v:V}{A:Nh}{E:MV->MW->Prop}
theorem Bs{b:Bool}{Q:MV->MW->Prop}(I:Inv X pins σ H s)(e:H a=some (.ins C dx fs))(c:Cls X.K C)(n:db X.K C f)(l:fs.lookup f=some v)
  (h:∀ u s',Inv X pins σ H s'->aN v u->Q u s'):M5 (M9 X.prog X.w) A (getAttr (.ref a) f b) Q E s:=by
 obtain⟨mA,O,r,_,_,_⟩:=sx I.hok e;obtain⟨u,hu,ru⟩:=lu.some_of (v:=v) (o:=mA f) (by rw[<- l];exact r f)
 exact He I.kIn O (c.get f) c.hd n hu (Dp ru) (h u _ (I.tok _) ru)
theorem n6{m:Str}{g:MU}{pl:Sem Bool}{Q:MV×List MV->MW->Prop}(I:Inv X pins σ H s)(e:H a=some (.ins C dx fs))(c:Cls X.K C)(k:Meth X.K C m g)(l:fs.lookup m=none)
  (h:Q (.ref g,[.ref a]) s):M5 (M9 X.prog X.w) A (Pt (.ref a) m pl) Q E s:=by
 obtain⟨mA,O,r,_,_,_⟩:=sx I.hok e;have hn:mA m=none:=lu.none_of (by rw[<- l];exact r m)
 exact Fm I.kIn O (c.get m) k.at_ k.fn hn h
theorem AN{y:V}{u:MV}{Q:Unit->MW->Prop}(I:Inv X pins σ H s)(e:H a=some (.ins C dx fs))(c:Cls X.K C)(n:db X.K C f)(hl:fs.length < 1000)(ry:aN y u)
  (h:∀ s',Inv X pins σ (bG H a (.ins C dx (gg f y fs))) s'->Q () s'):M5 (M9 X.prog X.w) A (setAttr (.ref a) f u) Q E s:=by
 obtain⟨mA,O,r,wi,_,ho⟩:=sx I.hok e;have hz:(fs.map (·.1)).length<=M4:=by rw[MY,N3];omega
 refine Gb I.kIn O c.sa c.po n.taker c.hd wi hz fun h' O' sb=>h _ ?_;have hd:∃ o,h'.get? dx=some o:=let ⟨o,_,_,e',_⟩:=O'.ns;⟨o,e'⟩;refine I.write (x:=a) (e:=dx) (by rw[e];exact True.intro) (.inr ho) (fun b q hb z=>(sb.2 b hb).trans z) hd ?_
 refine⟨by rw[aB O.ne];exact ho,?_,O.ne,O'.obj,_,O'.ns,fun g=>?_,fun g hg=>?_⟩
 ·have:=rp f y fs;omega
 ·show lu ((gg f y fs).lookup g) (if g=f then some u else mA g)
  rw[rh]
  by_cases q:g=f
  ·rw[if_pos q,if_pos q];exact ry
  ·rw[if_neg q,if_neg q];exact r g
 ·by_cases q:g=f
  ·rw[q];exact (qG f y fs).1
  ·refine (qG f y fs).2 g (wi g fun z=>hg ?_);show (if g=f then some u else mA g)=none
   rw[if_neg q];exact z
theorem Inv.made(I:Inv X pins σ H s):Inv X pins σ (bG (bG H s.heap.objs.size (.own (s.heap.objs.size+1))) (s.heap.objs.size+1) (.ins C s.heap.objs.size []))
  { s with heap:=(s.heap.push O5).push (PV C s.heap.objs.size) }:=by
 have e1:(s.heap.push O5).get? s.heap.objs.size=some O5:=M6 s.heap rfl;have e2:((s.heap.push O5).push (PV C s.heap.objs.size)).get? (s.heap.objs.size+1)=some (PV C s.heap.objs.size):=by
  have:=M6 (s.heap.push O5) (o:=PV C s.heap.objs.size) rfl;rwa[Ol]at this
 have e3:(s.heap.push O5).Ns s.heap.objs.size (fun _=>none):=⟨O5,#[],_,e1,rfl,(fun e he=>absurd he (by simp)),fun _=>rfl⟩
 have I1:=I.laid (a:=s.heap.objs.size) (o:=.own (s.heap.objs.size+1)) (h':=s.heap.push O5) (t':=s.toks) (fun b u q=>M0 _ q) (le_refl _) ⟨_,e1⟩;refine I1.laid (a:=s.heap.objs.size+1) (o:=.ins C s.heap.objs.size []) (t':=s.toks) (fun b u q=>M0 _ q) (Nat.le_of_eq (Ol _ _)) ?_;have ne:s.heap.objs.size≠s.heap.objs.size+1:=NB (O6 _);refine⟨by rw[aB ne,aX],NI _,ne,e2,fun _=>none,(Heap.Ns1.of_empty e3).at fun o q=>M0 _ q,fun _=>True.intro,fun y hy=>absurd rfl hy⟩
theorem Hq{prog:Nf}{w:Nn}{env:Env}{e:Np}{f:Str}{pos:Pos}{s:MW}{Q:MV->MW->Prop}(hb:Op e f env (eval e env)=eval e env)
  (h:M5 (M9 prog w) A (eval e env) (fun o s₁=>M5 (M9 prog w) A (getAttr o f true) Q E s₁) E s):M5 (M9 prog w) A (eval (.Attribute e f pos) env) Q E s:=
 Attribute_any_ h (by rw[arm_eval_Attribute,hb])
end
def LM(K:PySem.W.Frag)(ta:TE)(f:Str):TE:=fun σ H Q=>ta σ H fun x H1=>∃ a C dx fs v,x=.ref a/\H1 a=some (.ins C dx fs)/\Cls K C/\db K C f/\fs.lookup f=some v/\Q v H1
def LQ(K:PySem.W.Frag)(ta tv:TE)(f:Str):TS:=fun D σ H=>tv σ H fun y H1=>ta σ H1 fun x H2=>∃ a C dx fs,x=.ref a/\H2 a=some (.ins C dx fs)/\Cls K C/\db K C f/\fs.length < 1000/\
 D.nx σ (bG H2 a (.ins C dx (gg f y fs)))
section
variable{X:Cx}{o e value:Np}{f:Str}{pos pos' tpos:Pos}{ta tv:TE}
theorem ER(he:PE X e ta)(hb:Op e f X.env (eval e X.env)=eval e X.env):PE X (.Attribute e f pos) (LM X.K ta f):=by
 intro pins s σ H Q I h;refine Hq hb (cY (he pins s σ H _ I h) fun u s1 zz=>?_);obtain⟨x,H1,I1,rx,a,C,dx,fs,v,ex,ea,c,n,l,q⟩:=zz;subst ex;obtain rfl:u=Value.ref a:=rx;exact Bs I1 ea c n l fun u' s2 I2 ru=>⟨v,H1,I2,ru,q⟩
theorem A4(ha:PE X o ta)(hv:PE X value tv)(hs:OP value (some (.Attribute o f pos')) pos.line X.env=pure false):PS X (.Assign [.Attribute o f pos'] value pos) (LQ X.K ta tv f):=by
 intro pins s σ H D I h;refine plainObj_wpAny_Assign_Attribute (cY (hv pins s σ H _ I h) fun u s1 zz=>?_) hs;obtain⟨y,H1,I1,ry,q⟩:=zz;refine cY (ha pins s1 σ H1 _ I1 q) fun ov s2 zz=>?_;obtain⟨x,H2,I2,rx,a,C,dx,fs,ex,ea,c,n,l,q2⟩:=zz;subst ex;obtain rfl:ov=Value.ref a:=rx;exact AN I2 ea c n l ry fun s3 I3=>⟨σ,_,I3,q2⟩
end
section
variable{X:Cx}{pins:List (MU×Obj)}{σ:St}{H:Hp}{s:MW}{A:Nh}{E:MV->MW->Prop}{Q:MV->MW->Prop}{c:MV}{b:Bool}
inductive TyOf(K:PySem.W.Frag)(H:Hp):V->MV->Prop where
 | non:TyOf K H .non (.type "NoneType")
 | bl (x:Bool):TyOf K H (.bl x) (.type "bool")
 | int (i:Int):TyOf K H (.int i) (.type "int")
 | str (x:Str):TyOf K H (.str x) (.type "str")
 | flt (x:UInt64):TyOf K H (.flt x) (.type "float")
 | lst {a:MU} {xs:List V} (e:H a=some (.lst xs)):TyOf K H (.ref a) (.type "list")
 | frz {a:MU} {o:Obj} {xs:List V} (e:H a=some (.frz o (.lst xs))):TyOf K H (.ref a) (.type "list")
 | tup {a:MU} {xs:List V} (e:H a=some (.tup xs)):TyOf K H (.ref a) (.type "tuple")
 | dK {a:MU} {kvs:List (aM×V)} (e:H a=some (.dK kvs)):TyOf K H (.ref a) (.type "dict")
 | dT {a:MU} {kvs:List (List aM×V)} (e:H a=some (.dT kvs)):TyOf K H (.ref a) (.type "dict")
 | ins {a C dx:MU} {fs:List (Str×V)} (e:H a=some (.ins C dx fs)) (cl:Cls K C) (ha:PySem.W.findIn K (.ref C) "__class__"=some (some (.builtin "object.__class__")))
   (hn:PySem.W.specialIn K (.builtin "object.__class__") "__get__"=some (some (.builtin "getset_descriptor.__get__"))) (htk:RW K (.builtin "object.__class__")=some true)
   (hm:Q0 K C (.type "object")=some true):TyOf K H (.ref a) (.ref C)
theorem Dl{x:V}{u t:MV}(I:Inv X pins σ H s)(rx:aN x u)(ty:TyOf X.K H x t)(e:Oa X.K t c=some b)(h:∀ tk,Q (.bool b) { s with toks:=tk }):
  M5 (M9 X.prog X.w) A (call (.builtin "isinstance") [u,c]) Q E s:=by
 cases ty with
 | non=>cases (show u=Value.none from rx);exact Pg PySem.W.kitx_none I.kIn True.intro e (fun z=>nomatch z) h
 | bl y=>cases (show u=Value.bool y from rx);exact Pg PySem.W.kitx_bool I.kIn True.intro e (fun z=>nomatch z) h
 | int i=>obtain⟨t,q⟩:=(show ∃ t,u=Value.int i t from rx);cases q;exact Pg PySem.W.kitx_int I.kIn True.intro e (fun z=>nomatch z) h
 | str y=>obtain⟨t,q⟩:=(show ∃ t,u=Value.str y t from rx);cases q;exact Pg PySem.W.kitx_str I.kIn True.intro e (fun z=>nomatch z) h
 | flt y=>obtain⟨t,q⟩:=(show ∃ t,u=Value.float y t from rx);cases q;exact Pg PySem.W.kitx_float I.kIn True.intro e (fun z=>nomatch z) h
 | @lst a xs ea=>
  cases (show u=Value.ref a from rx)
  obtain⟨_,_,n,_,h1⟩:=(show ce X.prog X.w H s.heap a (.lst xs)from I.hok a _ ea)
  exact Pg PySem.W.kitx_list I.kIn ⟨_,h1,rfl⟩ e (fun z=>nomatch z) h
 | @frz a ob xs ea=>
  cases (show u=Value.ref a from rx)
  obtain⟨_,_,_,n,_,h1⟩:=(show ce X.prog X.w H s.heap a (.frz ob (.lst xs))from I.hok a _ ea)
  exact Pg PySem.W.kitx_list I.kIn ⟨_,h1,rfl⟩ e (fun z=>nomatch z) h
 | @tup a xs ea=>
  cases (show u=Value.ref a from rx)
  obtain⟨_,_,_,p⟩:=(show ce X.prog X.w H s.heap a (.tup xs)from I.hok a _ ea)
  obtain⟨o,h1,h2,_⟩:=p;exact Pg PySem.W.kitx_tuple I.kIn ⟨o,h1,h2.1⟩ e (fun z=>nomatch z) h
 | @dK a kvs ea=>
  cases (show u=Value.ref a from rx)
  obtain⟨_,_,vs,_,p⟩:=(show ce X.prog X.w H s.heap a (.dK kvs)from I.hok a _ ea)
  obtain⟨o,es,ep,h1,h2,_⟩:=p;exact Pg PySem.W.kitx_dict I.kIn ⟨o,h1,h2.1⟩ e (fun z=>nomatch z) h
 | @dT a kvs ea=>
  cases (show u=Value.ref a from rx)
  obtain⟨_,_,xs,_,o,es,ep,h1,h2,_⟩:=(show ce X.prog X.w H s.heap a (.dT kvs)from I.hok a _ ea)
  exact Pg PySem.W.kitx_dict I.kIn ⟨o,h1,h2.1⟩ e (fun z=>nomatch z) h
 | @ins a C dx fs ea cl ha hn htk hm=>
  cases (show u=Value.ref a from rx)
  obtain⟨mA,O,_⟩:=sx I.hok ea;obtain⟨od,J,_⟩:=O.look;exact Pg (PySem.W.kitx_own (cl.get _) cl.hd ha hn htk hm) I.kIn J e (fun z=>nomatch z) h
end
structure Room(k:Nat)(A:Nh):Prop where
 hd:A.handled=none
 dp:A.depth+3*k+5 < recursionLimit
 un:A.units+16*k+200 < NM
theorem Room.mono{j k:Nat}{A:Nh}(r:Room k A)(h:j<=k):Room j A:=⟨r.hd,by have:=r.dp;omega,by have:=r.un;omega⟩
theorem Room.deeper{k:Nat}{A:Nh}(r:Room (k+1) A)(env:Env):Room k (A.deeper env):=
 ⟨r.hd,by have:=r.dp;show A.depth+1+3*k+5 < _;omega,by have:=r.un;show A.units+3+16*k+200 < _;omega⟩
theorem Room.in1{k:Nat}{A:Nh}(r:Room (k+1) A):Room k A.in1:=
 ⟨r.hd,by have:=r.dp;show A.depth+3*k+5 < _;omega,by have:=r.un;show A.units+1+16*k+200 < _;omega⟩
theorem Bj{A:Nh}{C:MU}{us:List MV}{kw:List (Str×MV)}:(A.under (.builtin "type.__call__" ⟨.ref C::us,kw⟩)).depth=A.depth+1:=by
 first|rfl|simp[Rj,Code.weight,Code.isCreation,Code.isGuard,Code.isCaller,Code.frames,Rh,guardIds]
theorem Bi{A:Nh}{C:MU}{us:List MV}{kw:List (Str×MV)}:(A.under (.builtin "type.__call__" ⟨.ref C::us,kw⟩)).units=A.units+1:=by
 first|rfl|simp[Rj,Code.cUnits,Code.frames,Rh]
theorem Room.make{k:Nat}{A:Nh}(r:Room (k+1) A)(C:MU)(us:List MV)(kw:List (Str×MV)):Room k (A.under (.builtin "type.__call__" ⟨.ref C::us,kw⟩)):=
 ⟨r.hd,by have:=r.dp;rw[Bj];omega,by have:=r.un;rw[Bi];omega⟩
theorem Room.depth{k:Nat}{A:Nh}(r:Room k A):A.depth < recursionLimit:=by have:=r.dp;omega
theorem Room.units{k:Nat}{A:Nh}(r:Room k A):A.units+64 < NM:=by have:=r.un;omega
def J8:TA:=fun _ H Q=>Q [] H
def Ka(ta:TE)(tr:TA):TA:=fun σ H Q=>ta σ H fun x H1=>tr σ H1 fun xs H2=>Q (x::xs) H2
section
variable{X:Cx}{e:Np}{es:List Np}{te:TE}{t:TA}{pos:Pos}
theorem IT:PA X [] J8:=fun _ _ _ _ H Q I h=>Pa ⟨[],H,I,.nil,h⟩
theorem GC(ha:PE X e te)(hr:PA X es t)(hs:M_ (e::es) X.env=(false,eval e X.env)::M_ es X.env:=by rfl):PA X (e::es) (Ka te t):=by
 intro pos pins s σ H Q I h;rw[hs];show M5 _ _ (spliced ((false,eval e X.env)::N9 pos (M_ es X.env))) _ _ s
 refine OF (cY (ha pins s σ H _ I h) fun u s1 zz=>?_);obtain⟨x,H1,I1,r1,q1⟩:=zz;exact cY (hr pos pins s1 σ H1 _ I1 q1) fun us s2 ⟨xs,H2,I2,r2,q2⟩=>⟨x::xs,H2,I2,.cons r1 r2,q2⟩
def LF(t:TA):TE:=fun σ H Q=>t σ H fun xs H1=>xs.length<=M4/\∀ p,H1 p=none->Q (.ref p) (bG H1 p (.tup xs))
def LJ(t:TA):TE:=fun σ H Q=>t σ H fun xs H1=>xs.length<=M4/\∀ p,H1 p=none->Q (.ref p) (bG H1 p (.lst xs))
theorem IK{x1}(h:PA X es t):PE X (.Tuple es x1 pos) (LF t):=by
 intro pins s σ H Q I hq;refine wpAny_Tuple_spliced (cY (h pos pins s σ H _ I hq) fun us s1 ⟨xs,H1,I1,r,z,q⟩=>⟨by rw[<- r.length];exact z,?_⟩)
 have hf:H1 s1.heap.objs.size=none:=I1.hok.fresh (le_refl _);refine⟨.ref s1.heap.objs.size,bG H1 s1.heap.objs.size (.tup xs),I1.laid (t':=s1.toks) (fun b u e=>M0 _ e) (le_refl _) ?_,rfl,q _ hf⟩;exact⟨z,us,r,v9.new _ _⟩
theorem IP(h:PA X es t):PE X (.List es pos) (LJ t):=by
 intro pins s σ H Q I hq;refine wpAny_List_spliced (cY (h pos pins s σ H _ I hq) fun us s1 ⟨xs,H1,I1,r,z,q⟩=>⟨by rw[<- r.length];exact z,?_⟩)
 have hf:H1 s1.heap.objs.size=none:=I1.hok.fresh (le_refl _);refine⟨.ref s1.heap.objs.size,bG H1 s1.heap.objs.size (.lst xs),I1.laid (t':=s1.toks) (fun b u e=>M0 _ e) (le_refl _) ?_,rfl,q _ hf⟩;exact⟨z,us,0,r,M6 _ rfl⟩
end
abbrev Sp:=List V->Hp->VK->XK->Prop
abbrev FO:=List Env->Hp->MW->XK->MV->MW->Prop
structure Env0(P:Nf)(w:Nn)(K:PySem.W.Frag)(mg:Str->Option MV)(base:No)(A:Nh)(outer:List Env)(s:MW)(H:Hp):Prop where
 frames:A.frames=some outer
 mod:Mod K mg base
 bs:∀ b o,base.get? b=some o->s.heap.get? b=some o/\H b=none
 bsz:base.objs.size<=s.heap.objs.size
 funs:s.heap.FunFrames base outer
 frf:∀ b∈DL outer,H b=none
 hok:oh P w H s.heap
 bare:PK s.gens
def CE(outer:List Env)(P:Nf)(w:Nn)(H:Hp)(s:MW)(Q:VK)(u:MV)(s':MW):Prop:=
 ∃ v H',s'.os=s.os/\PK s'.gens/\Un (DL outer) [] H H' s.heap s'.heap/\oh P w H' s'.heap/\aN v u/\Q v H'
def CR(CX:FO)(outer:List Env)(P:Nf)(w:Nn)(H:Hp)(s:MW)(Q:VK)(E:XK)(r:RT)(s':MW):Prop:=
 match r with
 | .ok (.ret u)=>CE outer P w H s Q u s'
 | .ok _=>False
 | .error e=>CX outer H s E e s'
structure FnOk(P:Nf)(w:Nn)(K:PySem.W.Frag)(mg:Str->Option MV)(base:No)(CX:FO)(k:Nat)(f:MU)(fd:M7)(ps:List Str)(sp:Sp):Prop where
 len:∀ vs H Q E,sp vs H Q E->vs.length=ps.length
 run:∀ (A:Nh) (outer:List Env) (s:MW) (H:Hp) (args:Args) (us:List MV) (vs:List V) (Q:VK) (E:XK),Room k A->Env0 P w K mg base A outer s H->QR s fd args (ps.zip us)->Vals vs us->sp vs H Q E->
  Ps (M9 P w) A (.call (.ref f) args) (CR CX outer P w H s Q E) s
theorem Env0.make{P:Nf}{w:Nn}{K:PySem.W.Frag}{mg:Str->Option MV}{base:No}{A:Nh}{outer:List Env}{s:MW}{H:Hp}(e:Env0 P w K mg base A outer s H)(C:MU)(us:List MV)(kw:List (Str×MV)):
  Env0 P w K mg base (A.under (.builtin "type.__call__" ⟨.ref C::us,kw⟩)) outer s H:=⟨by first|exact e.frames|(simpa[Rj,Code.envs,Rh,pushEnvs]using e.frames),e.mod,e.bs,e.bsz,e.funs,e.frf,e.hok,e.bare⟩
theorem Env0.in1{P:Nf}{w:Nn}{K:PySem.W.Frag}{mg:Str->Option MV}{base:No}{A:Nh}{outer:List Env}{s:MW}{H:Hp}(e:Env0 P w K mg base A outer s H):
  Env0 P w K mg base A.in1 outer s H:=⟨e.frames,e.mod,e.bs,e.bsz,e.funs,e.frf,e.hok,e.bare⟩
section
variable{X:Cx}{pins:List (MU×Obj)}{σ:St}{H:Hp}{s s':MW}
theorem Inv.env0(I:Inv X pins σ H s):Env0 X.prog X.w X.K X.mg X.base X.A X.stack s H:=
 ⟨I.ok.frames,I.ok.mod,I.bs,le_trans I.ok.bsz I.sz,I.stack,I.stkFree,I.hok,I.bare⟩
theorem Inv.after{Q:VK}{u:MV}(I:Inv X pins σ H s)(h:CE X.stack X.prog X.w H s Q u s'):EP X pins σ Q u s':=by
 obtain⟨v,H',os,bare,un,hok,r,q⟩:=h;obtain⟨hh,g,d,t,os'⟩:=s';obtain rfl:os'=s.os:=os;exact⟨v,H',I.call (h':=hh) (g':=g) (d':=d) (t':=t) (ch:=[]) un hok bare (fun b z=>absurd z (by simp)),r,q⟩
end
def HF(sp:Sp)(dvs:List V)(E:XK)(t:TA):TE:=fun σ H Q=>t σ H fun vs H1=>sp (vs ++ dvs) H1 Q E
def D7(C:MU)(m:Str)(sp:Sp)(dvs:List V)(E:XK)(ta:TE)(t:TA):TE:=fun σ H Q=>ta σ H fun x H1=>∃ a dx fs,x=.ref a/\H1 a=some (.ins C dx fs)/\fs.lookup m=none/\
 t σ H1 fun vs H2=>sp (x::(vs ++ dvs)) H2 Q E
def HE(C:MU)(sp:Sp)(dvs:List V)(E:XK)(t:TA):TE:=fun σ H Q=>t σ H fun vs H1=>∀ x dx,H1 x=none->H1 dx=none->dx≠x->
 sp (.ref x::(vs ++ dvs)) (bG (bG H1 dx (.own x)) x (.ins C dx [])) (fun v H2=>v=.non/\Q (.ref x) H2) E
def fW(K:PySem.W.Frag)(fd:M7)(ps:List Str)(ds:List MV):Prop:=
 ∀ (s:MW) (us:List MV),K.In s.heap->(us ++ ds).length=ps.length->QR s fd ⟨us,[]⟩ (ps.zip (us ++ ds))
theorem fW.all{K:PySem.W.Frag}{fd:M7}{ps:List Str}(h:∀ us:List MV,us.length=ps.length->bindArgs fd ⟨us,[]⟩=pure (ps.zip us)):fW K fd ps []:=fun s us _ hl=>by
 rw[Oj]at hl ⊢;exact .of_eq (h us hl)
def og(CX:FO)(X:Cx)(E:XK):Prop:=∀ (pins:List (MU×Obj)) (σ:St) (H:Hp) (s:MW) (e:MV) (s':MW),Inv X pins σ H s->CX X.stack H s E e s'->X.xe e s'
section
variable{X:Cx}{CX:FO}{k:Nat}{f C:MU}{fd:M7}{ps:List Str}{sp:Sp}{dvs:List V}{ds:List MV}{E:XK}{x m:Str}{p pos apos:Pos}{e o:Np}{es:List Np}{ta:TE}{t:TA}
theorem sV{pins:List (MU×Obj)}{σ:St}{H:Hp}{s:MW}{Q:VK}{us:List MV}{vs:List V}(F:FnOk X.prog X.w X.K X.mg X.base CX k f fd ps sp)(hr:Room k X.A)(hb:fW X.K fd ps ds)(hd:Vals dvs ds)(hx:og CX X E)
  (I:Inv X pins σ H s) (r:Vals vs us) (h:sp (vs ++ dvs) H Q E):M5 (M9 X.prog X.w) X.A (call (.ref f) us) (EP X pins σ Q) X.xe s:=by
 have r2:Vals (vs ++ dvs) (us ++ ds):=r.append hd;have hl:(us ++ ds).length=ps.length:=by rw[<- r2.length];exact F.len _ _ _ _ h
 refine RB (PY (F.run X.A X.stack s H ⟨us,[]⟩ (us ++ ds) (vs ++ dvs) Q E hr I.env0 (hb s us I.kIn hl) r2 h) fun r s' hq=>?_);cases r with
 | error e=>exact hx pins σ H s e s' I hq
 | ok fl=>
  cases fl with
  | ret u=>exact I.after hq
  | next=>exact False.elim hq
  | brk=>exact False.elim hq
  | cont=>exact False.elim hq
theorem GB(F:FnOk X.prog X.w X.K X.mg X.base CX k f fd ps sp)(hr:Room k X.A)(hg:Gl X x)(hm:X.mg x=some (.ref f))(hk:PySem.W.keepIn X.K (.ref f)=true)(hb:fW X.K fd ps ds)(hd:Vals dvs ds)(hx:og CX X E)
  (ha:PA X (e::es) t) (hdb:(x == ("__debug__":Str))=false:=by decide) (he:M_ (e::es) X.env=(false,eval e X.env)::M_ es X.env:=by rfl) (hpl:(N9 pos (M_ es X.env)).any (·.1)=false:=by rfl):
  PE X (.Call (.Name x p) (e::es) [] pos) (HF sp dvs E t):=by
 intro pins s σ H Q I h;refine OZ (su I hg hm ?_ hdb);refine Qt (h₀:=X.base) I.ok.mod.kin hk (cY (ha pos pins s σ H _ I h) fun us s1 ⟨vs,H1,I1,r,q⟩=>⟨I1.kIn,?_⟩) he hpl;exact sV F hr hb hd hx I1 r q
theorem Gz{pl:Sem Bool}(he:PE X o ta)(c:Cls X.K C)(hm:Meth X.K C m f)(F:FnOk X.prog X.w X.K X.mg X.base CX k f fd ps sp)(hr:Room k X.A)(hb:fW X.K fd ps ds)(hd:Vals dvs ds)(hx:og CX X E)(ha:PA X (e::es) t)
  (hst:M_ (e::es) X.env=(false,eval e X.env)::M_ es X.env:=by rfl) (hpl:(N9 pos (M_ es X.env)).any (·.1)=false:=by rfl)
  (ht:eval (.Call (.Attribute o m apos) (e::es) [] pos) X.env=(do
   let ov <- eval o X.env
   Pq apos.atName
   let (f,first) <- holding [ov] (Pt ov m pl)
   QB pos f first (N9 pos (M_ (e::es) X.env)) (Pl pos (Oz [] X.env))):=by rfl):
  PE X (.Call (.Attribute o m apos) (e::es) [] pos) (D7 C m sp dvs E ta t):=by
 intro pins s σ H Q I h;refine PL (pl:=pl) (cY (he pins s σ H _ I h) fun u s1 zz=>?_) ht;obtain⟨x,H1,I1,rx,a,dx,fs,ex,ea,l,q⟩:=zz;subst ex;obtain rfl:u=Value.ref a:=rx;refine n6 I1 ea c hm l ?_;refine Qt (first:=[.ref a]) (h₀:=X.base) I.ok.mod.kin hm.kp (cY (ha pos pins s1 σ H1 _ I1 q) fun us s2 ⟨vs,H2,I2,r,q2⟩=>⟨I2.kIn,?_⟩) hst hpl
 exact sV (us:=.ref a::us) (vs:=.ref a::vs) F hr hb hd hx I2 (.cons rfl r) q2
theorem EO{pl:Sem Bool}(he:PE X o ta)(c:Cls X.K C)(hm:Meth X.K C m f)(F:FnOk X.prog X.w X.K X.mg X.base CX k f fd ps sp)(hr:Room k X.A)(hb:fW X.K fd ps ds)(hd:Vals dvs ds)(hx:og CX X E)
  (ht:eval (.Call (.Attribute o m apos) [] [] pos) X.env=(do
   let ov <- eval o X.env
   Pq apos.atName
   let (f,first) <- holding [ov] (Pt ov m pl)
   QB pos f first (N9 pos (M_ [] X.env)) (Pl pos (Oz [] X.env))):=by rfl):
  PE X (.Call (.Attribute o m apos) [] [] pos) (D7 C m sp dvs E ta J8):=by
 intro pins s σ H Q I h;refine PL (pl:=pl) (cY (he pins s σ H _ I h) fun u s1 zz=>?_) ht;obtain⟨x,H1,I1,rx,a,dx,fs,ex,ea,l,q⟩:=zz;subst ex;obtain rfl:u=Value.ref a:=rx;refine n6 I1 ea c hm l ?_;exact PySem.W.callWith_K0 (first:=[.ref a]) I1.kIn hm.kp (sV (us:=[.ref a]) (vs:=[.ref a]) F hr hb hd hx I1 (.cons rfl .nil) q)
structure Mk(K:PySem.W.Frag)(C f:MU):Prop where
 makes:PySem.W.makesIn K C=true
 init:PySem.W.findIn K (.ref C) "__init__"=some (some (.ref f))
 fn:PySem.W.isFn K (.ref f)=true
 kp:PySem.W.keepIn K (.ref C)=true
theorem Eg{pins:List (MU×Obj)}{σ:St}{H:Hp}{s:MW}{Q:VK}{us:List MV}{vs:List V}(M:Mk X.K C f)(F:FnOk X.prog X.w X.K X.mg X.base CX k f fd ps sp)(hr:Room (k+1) X.A)(hb:fW X.K fd ps ds)(hd:Vals dvs ds)
  (hx:og CX X E) (I:Inv X pins σ H s) (r:Vals vs us)
  (h:∀ x dx,H x=none->H dx=none->dx≠x->sp (.ref x::(vs ++ dvs)) (bG (bG H dx (.own x)) x (.ins C dx [])) (fun v H2=>v=.non/\Q (.ref x) H2) E):
  M5 (M9 X.prog X.w) X.A (call (.ref C) us) (EP X pins σ Q) X.xe s:=by
 have hq:=h (s.heap.objs.size+1) s.heap.objs.size (I.hok.fresh (Nat.le_succ _)) (I.hok.fresh (le_refl _)) (NB (O6 _));have I2:=Inv.made (C:=C) I;have r2:Vals (V.ref (s.heap.objs.size+1)::(vs ++ dvs)) (Value.ref (s.heap.objs.size+1)::(us ++ ds)):=.cons rfl (r.append hd);have hl:(Value.ref (s.heap.objs.size+1)::us ++ ds).length=ps.length:=by
  have e:=r2.length;rw[F.len _ _ _ _ hq]at e;exact e.symm
 refine RB (E7 (f:=f) I.kIn M.makes M.init (beq_iff_eq.mp M.fn) (PY (F.run _ X.stack _ _ ⟨Value.ref (s.heap.objs.size+1)::us,[]⟩ (Value.ref (s.heap.objs.size+1)::(us ++ ds)) _ _ E (hr.make C us [])
  (I2.env0.make C us []) (hb _ (Value.ref (s.heap.objs.size+1)::us) I2.kIn hl) r2 hq) fun r s' hq'=>?_))
 cases r with
 | error e=>exact hx pins σ _ _ e s' I2 hq'
 | ok fl=>
  cases fl with
  | ret u=>
   obtain⟨v,H',I3,rv,ev,q3⟩:=I2.after hq';subst ev;exact⟨rv,⟨V.ref (s.heap.objs.size+1),H',I3,rfl,q3⟩⟩
  | next=>exact False.elim hq'
  | brk=>exact False.elim hq'
  | cont=>exact False.elim hq'
theorem GA(M:Mk X.K C f)(F:FnOk X.prog X.w X.K X.mg X.base CX k f fd ps sp)(hr:Room (k+1) X.A)(hg:Gl X x)(hm:X.mg x=some (.ref C))(hb:fW X.K fd ps ds)(hd:Vals dvs ds)(hx:og CX X E)
  (ha:PA X (e::es) t) (hdb:(x == ("__debug__":Str))=false:=by decide) (he:M_ (e::es) X.env=(false,eval e X.env)::M_ es X.env:=by rfl) (hpl:(N9 pos (M_ es X.env)).any (·.1)=false:=by rfl):
  PE X (.Call (.Name x p) (e::es) [] pos) (HE C sp dvs E t):=by
 intro pins s σ H Q I h;refine OZ (su I hg hm ?_ hdb);refine Qt (h₀:=X.base) I.ok.mod.kin M.kp (cY (ha pos pins s σ H _ I h) fun us s1 ⟨vs,H1,I1,r,q⟩=>⟨I1.kIn,?_⟩) he hpl;exact Eg M F hr hb hd hx I1 r q
end
structure FnScope(N P:List Str)(sc:Pc):Prop where
 kind:sc.kind=.function
 co:sc.isCoroutine=false
 gen:sc.isGenerator=false
 nd:N.Nodup
 pre:N.take P.length=P
 par:∀ x∈P,sc.names.lookup x=some .local\/sc.names.lookup x=some .cell
 nofree:∀ y∈sc.names,y.2≠.free
theorem wJ{kindOf:Str->Option PB}{x:Str}:∀ {binds:List (Str×MV)} {m:Str->Option MV},(∀ v,(x,v)∉binds)->Q6 kindOf binds m x=m x
 | [],_,_=>rfl
 | (n,v)::r,m,h=>by
  unfold Q6;rw[wJ fun w hw=>h w (M3 _ hw)];split
  ·have:x≠n:=by rintro rfl;exact h v M8
   simp[this]
  ·rfl
theorem wL{kindOf:Str->Option PB}{x:Str}:∀ {binds:List (Str×MV)} {m:Str->Option MV},(∀ v,(x,v)∉binds)->Q7 kindOf binds m x=m x
 | [],_,_=>rfl
 | (n,v)::r,m,h=>by
  unfold Q7;rw[wL fun w hw=>h w (M3 _ hw)];split
  ·rfl
  ·have:x≠n:=by rintro rfl;exact h v M8
   simp[this]
theorem wK{kindOf:Str->Option PB}{x:Str}{v:MV}:∀ {P:List Str} {vs:List MV} {i:Nat} {m:Str->Option MV},P.Nodup->P[i]?=some x->vs[i]?=some v->kindOf x=some .local->
  Q6 kindOf (P.zip vs) m x=some v
 | [],_,_,_,_,h,_,_=>by simp at h
 | _::_,[],_,_,_,_,h,_=>by simp at h
 | p::P,w::vs,0,m,nd,h1,h2,hk=>by
  simp at h1 h2;subst h1;subst h2;show Q6 kindOf ((p,w)::P.zip vs) m p=_
  unfold Q6;rw[wJ fun v hv=>(Oo.mp nd).1 (Pe hv).1,if_pos hk];simp
 | p::P,w::vs,i+1,m,nd,h1,h2,hk=>by
  show Q6 kindOf ((p,w)::P.zip vs) m x=_
  unfold Q6;exact wK (i:=i) (Oo.mp nd).2 (by simpa using h1) (by simpa using h2) hk
theorem wM{kindOf:Str->Option PB}{x:Str}{v:MV}:∀ {P:List Str} {vs:List MV} {i:Nat} {m:Str->Option MV},P.Nodup->P[i]?=some x->vs[i]?=some v->kindOf x≠some .local->
  Q7 kindOf (P.zip vs) m x=some v
 | [],_,_,_,_,h,_,_=>by simp at h
 | _::_,[],_,_,_,_,h,_=>by simp at h
 | p::P,w::vs,0,m,nd,h1,h2,hk=>by
  simp at h1 h2;subst h1;subst h2;show Q7 kindOf ((p,w)::P.zip vs) m p=_
  unfold Q7;rw[wL fun v hv=>(Oo.mp nd).1 (Pe hv).1,if_neg hk];simp
 | p::P,w::vs,i+1,m,nd,h1,h2,hk=>by
  show Q7 kindOf ((p,w)::P.zip vs) m x=_
  unfold Q7;exact wM (i:=i) (Oo.mp nd).2 (by simpa using h1) (by simpa using h2) hk
def start(N:List Str)(vs:List V):St:=vs.map some ++ List.replicate (N.length - vs.length) none
def Dx(CX:FO)(P:Nf)(w:Nn)(K:PySem.W.Frag)(mg:Str->Option MV)(base:No)(N:List Str)(qual:Str)(scope:Pc)(f:MU)(cd:MV)(A:Nh)(outer:List Env)(s:MW)(H:Hp)(E:XK):Cx where
 prog:=P
 w:=w
 K:=K
 mg:=mg
 base:=base
 A:=A.deeper (Qs qual scope s.heap.objs.size f cd)
 N:=N
 s₀:=s
 H₀:=H
 env:=Qs qual scope s.heap.objs.size f cd
 outer:=outer
 stack:=Qs qual scope s.heap.objs.size f cd::outer
 ex:=[]
 calm:=true
 fn:=fun _=>true
 pn:=[]
 xe:=fun e s'=>M5 (M9 P w) (A.deeper (Qs qual scope s.heap.objs.size f cd)) (leaving (Qs qual scope s.heap.objs.size f cd) e) (fun _ s''=>CX outer H s E e s'') (fun e' s''=>CX outer H s E e' s'') s'
theorem As{sc:Pc}{n:Nat}{x:Str}(h:sc.names.lookup x=some .cell):∃ c,(cellsFrom n sc.names []).lookup x=some c:=by
 have q:=PySem.W.cellsFrom_some sc.names n [] (.inl h);exact Option.isSome_iff_exists.mp q
theorem Dm{CX:FO}{P:Nf}{w:Nn}{K:PySem.W.Frag}{mg:Str->Option MV}{base:No}{N ps:List Str}{qual:Str}{scope:Pc}{f:MU}{cd:MV}{A:Nh}{outer:List Env}{s s1:MW}{H:Hp}{E:XK}{us:List MV}{vs:List V}
  (S:FnScope N ps scope) (hd:A.handled=none) (e0:Env0 P w K mg base A outer s H) (hl:vs.length=ps.length) (r:Vals vs us)
  (x:InCallC s s.heap.objs.size (Q6 (Qs qual scope s.heap.objs.size f cd).kindOf (ps.zip us) fun _=>none) (cellsFrom (s.heap.objs.size+1) scope.names []) (Q7 (Qs qual scope s.heap.objs.size f cd).kindOf (ps.zip us) fun _=>none) s1):
  Inv (Dx CX P w K mg base N qual scope f cd A outer s H E) [] (start N vs) H s1:=by
 have hpl:ps.length<=N.length:=by have:=congrArg List.length S.pre;rw[Nq]at this;omega
 obtain⟨h1,tk,rfl,hk⟩:=x.done;have noA:∀ b:MU,b∉(Dx CX P w K mg base N qual scope f cd A outer s H E).ex:=fun b z=>absurd (show b∈([]:List MU)from z) (by simp)
 refine⟨⟨e0.mod,S.kind,rfl,rfl,le_refl _,fun y z c h1 h2=>?_,fun y hy=>?_,fun y c _ h=>?_,fun _=>hd,Around.frames_deeper e0.frames,.inr ⟨rfl,rfl⟩,fun b z=>absurd z (noA b),e0.bs,e0.bsz,fun b _ _=>noA b,fun b z=>absurd z (noA b),e0.funs,e0.frf⟩,
  rfl,e0.bare,Un.kept hk,⟨_,x.toInCall.ns,fun i y v h1 h2 h3=>?_⟩,fun y c h=>⟨_,x.cell y c h⟩,e0.hok.fresh (le_refl _),fun y c h=>?_,fun p hp=>absurd (show p∈([]:List (MU×Obj))from hp) (by simp),e0.hok.kept hk,?_⟩
 ·exact name_of_addr x.apart (PySem.mem_of_lookup h1) (PySem.mem_of_lookup h2)
 ·have hy:scope.names.lookup y=some .cell\/scope.names.lookup y=some .free:=hy;rcases hy with hy|hy
  ·exact As hy
  ·exact absurd rfl (S.nofree _ (PySem.mem_of_lookup hy))
 ·exact le_of_lt (x.above y c (PySem.mem_of_lookup h))
 ·have hi:i < vs.length:=by
   unfold start at h2
   by_cases hi:i < vs.length
   ·exact hi
   ·rw[List.getElem?_append_right (by simpa using hi)]at h2
    rw[List.getElem?_replicate]at h2;split at h2<;>cases h2
  have ha:vs[i]?=some v:=by
   unfold start at h2;rw[List.getElem?_append_left (by simpa using hi),Ng]at h2
   cases e:vs[i]? with
   | none=>rw[e]at h2;cases h2
   | some a=>rw[e]at h2;cases h2;rfl
  obtain⟨u,hu,rv⟩:=r.get ha;have hp:ps[i]?=some y:=by
   rw[<- S.pre,List.getElem?_take_of_lt (by walk_at "o")];exact h1
  have ndP:ps.Nodup:=by rw[<- S.pre];exact S.nd.sublist (List.take_sublist _ _)
  refine⟨u,rv,?_⟩;rcases S.par y (Na hp)with k|k
  ·exact .inl ⟨k,wK ndP hp hu k⟩
  ·obtain⟨c,e⟩:=As (n:=s.heap.objs.size+1) k;refine .inr ⟨.inl k,c,e,?_⟩;have q:=x.cell y c e;rw[wM ndP hp hu (by show scope.names.lookup y≠_;rw[k];decide)]at q
   exact q
 ·exact e0.hok.fresh (le_of_lt (x.above y c (PySem.mem_of_lookup h)))
 ·unfold start;show _=N.length
  rw[Nj,MY,List.length_replicate];omega
theorem KN{CX:FO}{P:Nf}{w:Nn}{K:PySem.W.Frag}{mg:Str->Option MV}{base:No}{k:Nat}{f:MU}{name qual:Str}{params:Arguments}{body:List Nu}{scope:Pc}{dV kV doc pm cdv ct oc:MV}{an od:Option MU}
  {osl:Array (Option MV)} {N ps:List Str} {sp:Sp} (lk:K.lookup f=some ⟨oc,od,.func (PySem.W.fnOf name qual params body scope dV kV doc pm an cdv ct),osl⟩) (hcd:PySem.W.codeIn K cdv qual=true) (S:FnScope N ps scope)
  (len:∀ vs H Q E,sp vs H Q E->vs.length=ps.length)
  (Vu:∀ (A:Nh) (outer:List Env) (s:MW) (H:Hp) (vs:List V) (Q:VK) (E:XK),Room k (A.deeper (Qs qual scope s.heap.objs.size f cdv))->sp vs H Q E->
   ∃ t,rF (Dx CX P w K mg base N qual scope f cdv A outer s H E) body t/\t { nx:=fun _ H'=>Q .non H',rt:=Q } (start N vs) H):
  FnOk P w K mg base CX (k+1) f (PySem.W.fnOf name qual params body scope dV kV doc pm an cdv ct) ps sp:=by
 refine⟨len,fun A outer s H args us vs Q E hr e0 hb r hsp=>?_⟩;have hl:=len _ _ _ _ hsp;have KX:K.In s.heap:=e0.mod.kin.keeps fun b o e=>(e0.bs b o e).1;have lim:s.heap.NoLimit:=e0.mod.nolimit.keeps fun b o e=>(e0.bs b o e).1;have VN:∀ y∈ps.zip us,scope.names.lookup y.1=some .local\/(scope.names.lookup y.1=some .cell/\((cellsFrom (s.heap.objs.size+1) scope.names []).lookup y.1).isSome=true):=fun⟨n,v⟩ hy=>by
  rcases S.par n (Pe hy).1 with q|q
  ·exact .inl q
  ·exact .inr ⟨q,PySem.W.cellsFrom_some _ _ _ (.inl q)⟩
 refine codeAny_call_function hr.depth (KX _ _ lk) rfl S.co S.gen rfl (PySem.W.codeRec_of KX hcd) (hb _ _ _ _ ?_);refine wpAny_newFunctionEnv_cells S.kind VN fun env he s1 x=>?_;subst he;refine⟨lim.keeps x.toInCall.keep,codeAny_func ?_⟩;obtain⟨t,ht,hq⟩:=Vu A outer s H vs Q E (hr.deeper _) hsp;have I:Inv (Dx CX P w K mg base N qual scope f cdv A outer s H E) [] (start N vs) H s1:=Dm S hr.hd e0 hl r x;refine NR (ht [] s1 (start N vs) H _ I hq) (fun fl s' hs=>?_) fun e s' hs=>hs;have fin:∀ {σ':St} {H':Hp} {v:V} {u:MV},Inv (Dx CX P w K mg base N qual scope f cdv A outer s H E) [] σ' H' s'->aN v u->Q v H'->CE outer P w H s Q u s':=
  fun {σ' H' v u} J rv q=>⟨v,H',J.os,J.bare,J.base,J.hok,rv,q⟩
 cases fl with
 | ret u=>
  obtain⟨v,σ',H',J,rv,q⟩:=hs;exact fin J rv q
 | next=>
  obtain⟨σ',H',J,q⟩:=hs;exact fin (v:=V.non) (u:=Value.none) J rfl q
 | brk=>
  obtain⟨_,_,_,q⟩:=hs;exact False.elim q
 | cont=>
  obtain⟨_,_,_,q⟩:=hs;exact False.elim q
section
variable{X:Cx}{x:Str}{p pos:Pos}{e:Np}{es:List Np}{t:TA}{id T:String}{r:List V->Hp->VK->Prop}
def LN(r:List V->Hp->VK->Prop)(t:TA):TE:=fun σ H Q=>t σ H fun vs H1=>r vs H1 Q
theorem ET(hc:d4 X (.builtin id) r)(hg:Gl X x)(hm:X.mg x=none)(hv:On x=some (.builtin id))(ha:PA X (e::es) t)(hn:x≠"__name__":=by decide)(hdb:(x == ("__debug__":Str))=false:=by decide)
  (he:M_ (e::es) X.env=(false,eval e X.env)::M_ es X.env:=by rfl) (hpl:(N9 pos (M_ es X.env)).any (·.1)=false:=by rfl):PE X (.Call (.Name x p) (e::es) [] pos) (LN r t):=by
 intro pins s σ H Q I h;refine OZ (kM I hg hm hv ?_ hn hdb);exact PyProof.Rows.callWith_builtin1 (cY (ha pos pins s σ H _ I h) fun us s1 ⟨vs,H1,I1,r1,q1⟩=>hc pins s1 σ H1 vs us Q I1 r1 q1) he hpl
theorem CY(hc:d4 X (.type T) r)(hg:Gl X x)(hm:X.mg x=none)(hv:On x=some (.type T))(ha:PA X (e::es) t)(hn:x≠"__name__":=by decide)(hdb:(x == ("__debug__":Str))=false:=by decide)
  (he:M_ (e::es) X.env=(false,eval e X.env)::M_ es X.env:=by rfl) (hpl:(N9 pos (M_ es X.env)).any (·.1)=false:=by rfl):PE X (.Call (.Name x p) (e::es) [] pos) (LN r t):=by
 intro pins s σ H Q I h;refine OZ (kM I hg hm hv ?_ hn hdb);exact PyProof.Rows.callWith_type1 (cY (ha pos pins s σ H _ I h) fun us s1 ⟨vs,H1,I1,r1,q1⟩=>hc pins s1 σ H1 vs us Q I1 r1 q1) he hpl
end
end L2
namespace HT
open PySem PyProof.Rows
section
open PySem.SeqAt
open PySem.AutoSeq1 (wpAny_loadPart')
open PySem.MeetsSeq PySem.MeetsSeq2 PySem.MeetsSeq3
end
section
variable{prog:Nf}{w:Nn}{A:Nh}{E:MV->MW->Prop}{s:MW}
theorem cat_tup{t b:MU}{vs ws:List MV}{Q:MV->MW->Prop}(ht:IsTup s.heap t vs.toArray)(hb:IsTup s.heap b ws.toArray)(hv:vs≠[])
  (h1:ws=[]->Q (.ref t) s) (h2:ws≠[]->Q (.ref s.heap.objs.size) { s with heap:=s.heap.push { cls:=.type "tuple",data:=.seq (vs ++ ws).toArray } })
  (hsz:vs.length+ws.length<=M4):M5 (M9 prog w) A (Oi .Add (.ref t) (.ref b)) Q E s:=by
 obtain⟨⟨cls,dd,data,sl⟩,ho,hc,n,hd⟩:=id ht;obtain⟨⟨cls2,dd2,data2,sl2⟩,ho2,hc2,n2,hd2⟩:=id hb;simp only at hc hd hc2 hd2;subst hc hd hc2 hd2;have e:vs.toArray ++ ws.toArray=(vs ++ ws).toArray:=by simp
 by_cases hw:ws=[]
 ·exact Re ⟨_,ho,rfl⟩ ⟨_,ho2,rfl⟩ noFill_tuple_add seq_tuple_add PySem.F.slot_tuple_add PySem.F.entry_tuple_add (PySem.F.args_tuple_add_2 _ _)
   (tuple_addW1 t b vs.toArray ws.toArray n n2 dd dd2 sl sl2 (by simpa using hv) (by simp[hw])) ⟨ho,ho2,h1 hw⟩
 ·refine Re ⟨_,ho,rfl⟩ ⟨_,ho2,rfl⟩ noFill_tuple_add seq_tuple_add PySem.F.slot_tuple_add PySem.F.entry_tuple_add (PySem.F.args_tuple_add_2 _ _)
   (tuple_addW2 t b vs.toArray ws.toArray n n2 dd dd2 sl sl2 (by simpa using hv) (by simpa using hw) (by rw[Nb,Nb];exact hsz)) ⟨ho,ho2,?_⟩
  rw[e];exact h2 hw
def sIx(n d:Nat):Option Int->Nat
 | none=>d
 | some v=>if v < 0 then (v+(n:Int)).toNat else min v.toNat n
theorem sIx_le(n d:Nat)(hd:d<=n)(o:Option Int):sIx n d o<=n:=by
 cases o with
 | none=>exact hd
 | some v=>
  show (if v < 0 then (v+(n:Int)).toNat else min v.toNat n)<=n
  by_cases hv:v < 0
  ·rw[if_pos hv];omega
  ·rw[if_neg hv];exact Nat.min_le_right _ _
theorem Cn(v:Int)(n d:Nat):(if v < 0 then max (v+(n:Int)) 0 else min v (n:Int))=((sIx n d (some v):Nat):Int):=by
 show (if v < 0 then max (v+(n:Int)) 0 else min v (n:Int))=(((if v < 0 then (v+(n:Int)).toNat else min v.toNat n):Nat):Int)
 by_cases hv:v < 0
 ·simp only[if_pos hv];omega
 ·simp only[if_neg hv];omega
theorem BB(lo hi:Option Int)(n:Nat):PD lo hi 1 (n:Int)=(((sIx n 0 lo:Nat):Int),((sIx n n hi:Nat):Int)):=by
 have h1:¬ ((1:Int) < 0):=by walk_at "o"
 unfold PD;simp only[h1,if_false];refine Prod.ext ?_ ?_
 ·cases lo with
  | none=>rfl
  | some v=>exact Cn v n 0
 ·cases hi with
  | none=>rfl
  | some v=>exact Cn v n n
theorem A5(i j:Nat):OQ (i:Int) (j:Int) 1=j - i:=by
 unfold OQ;have h1:(1:Int) > 0:=by walk_at "o"
 simp only[h1,if_true,Int.ediv_one];split<;>omega
theorem sL{v:MV}{o:Option Int}{Q:Option Int->MW->Prop}(p:Qu v o)(h:Q o s):M5 (M9 prog w) A (Builtin.Slice.slicePartIndex v) Q E s:=by
 cases p with
 | none=>exact slicePart_none h
 | int i t=>exact slicePart_int h
theorem pV{sl:MU}{vl vu:MV}{lo hi:Option Int}{n:Nat}{Q:Int×Int×Nat->MW->Prop}(hs:s.heap.IsSliceOf sl vl vu .none)(pl:Qu vl lo)(pu:Qu vu hi)
  (h:Q (((sIx n 0 lo:Nat):Int),1,sIx n n hi - sIx n 0 lo) s):M5 (M9 prog w) A (QX (.ref sl) (pure (n:Int))) Q E s:=by
 obtain⟨os,hos,hcs,hds⟩:=id hs;unfold QX Builtin.Slice.sliceFields;refine MT (MT (Od hos hds (x:=vl) rfl (MT (Od hos hds (x:=vu) rfl (MT (Od hos hds (x:=.none) rfl (MX ?_)))))));refine MT (slicePart_none ?_);show M5 _ _ (if ((1:Int) == 0)=true then _ else _) _ _ s
 rw[if_neg (by decide)]
 refine MT (sL pl (MT (sL pu (MT (MX ?_)))));show M5 _ _ (match PD lo hi 1 (n:Int) with|(lo,hi)=>pure (lo,(1:Int),OQ lo hi 1)) _ _ s
 rw[BB lo hi n];show M5 _ _ (pure (((sIx n 0 lo:Nat):Int),(1:Int),OQ ((sIx n 0 lo:Nat):Int) ((sIx n n hi:Nat):Int) 1)) _ _ s
 rw[A5];exact MX h
theorem EJ(xs:Array MV)(i k:Nat):((List.range k).filterMap fun (m:Nat)=>xs[((i:Int)+(m:Int)*1).toNat]?).toArray=((xs.toList.drop i).take k).toArray:=by
 have e:(fun (m:Nat)=>xs[((i:Int)+(m:Int)*1).toNat]?)=fun m=>xs[i+m]?:=by
  funext m;have:((i:Int)+(m:Int)*1).toNat=i+m:=by walk_at "o"
  rw[this]
 rw[e];have:=pick_run xs i k;rw[List.filterMap_map]at this;have e2:((fun x=>xs[x]?) ∘ fun x=>i+x)=fun m=>xs[i+m]?:=rfl;rw[e2]at this;rw[this]
theorem getItem_tuple_cut{t sl:MU}{items:Array MV}{vl vu:MV}{lo hi:Option Int}{Q:MV->MW->Prop}(ht:IsTup s.heap t items)(hs:s.heap.IsSliceOf sl vl vu .none)(pl:Qu vl lo)(pu:Qu vu hi)
  (hw:¬ (sIx items.size 0 lo=0/\sIx items.size items.size hi=items.size))
  (h:Q (.ref s.heap.objs.size) { s with heap:=s.heap.push { cls:=.type "tuple",data:=.seq ((items.toList.drop (sIx items.size 0 lo)).take (sIx items.size items.size hi - sIx items.size 0 lo)).toArray } })
  (hsz:items.size<=M4):M5 (M9 prog w) A (PX (.ref t) (.ref sl)) Q E s:=by
 have Vk:sizeOk (.seq ((items.toList.drop (sIx items.size 0 lo)).take (sIx items.size items.size hi - sIx items.size 0 lo)).toArray):=by
  show ((items.toList.drop (sIx items.size 0 lo)).take (sIx items.size items.size hi - sIx items.size 0 lo)).toArray.size<=M4
  rw[Nb,Nq,NW,Array.length_toList];omega
 have hj:sIx items.size items.size hi<=items.size:=sIx_le _ _ (le_refl _) hi;obtain⟨os,hos,hcs,hds⟩:=id hs;have hTs:s.TypeIs (.ref sl) "slice":=⟨os,hos,hcs⟩;unfold PX
 try with_reducible refine NO ?_
 first|refine MT (MX ?_)|skip
 refine MT (wpAny_sequenceKey ht.typeIs (by decide) ?_)
 refine MT (NV (name:=MZ "__getitem__") ht.typeIs PyProof.Rows.slot_tuple_getitem
  (NU PyProof.Rows.slot_tuple_getitem ht.typeIs entry_tuple_getitem ?_ (args_tuple_getitem _ _)))
 show M5 _ _ (Builtin.Tuple.tupleItemsOf (.ref t) >>= _) _ _ s
 refine MT (tupleItemsOf_ ht ?_);refine MT (Q_ hTs ?_);rw[if_pos (by decide)]
 refine MT (pV hs pl pu ?_);have hno:¬ ((((sIx items.size 0 lo:Nat):Int) == 0 && (1:Int) == 1 && (sIx items.size items.size hi - sIx items.size 0 lo) == items.size)=true):=by
  intro q;rw[Bool.and_eq_true,Bool.and_eq_true]at q;have q1:((sIx items.size 0 lo:Nat):Int)=0:=eq_of_beq q.1.1;have q2:sIx items.size items.size hi - sIx items.size 0 lo=items.size:=eq_of_beq q.2;exact hw ⟨by walk_at "o",by walk_at "o"⟩
 show M5 _ _ (if (((sIx items.size 0 lo:Nat):Int) == 0 && (1:Int) == 1 && (sIx items.size items.size hi - sIx items.size 0 lo) == items.size)=true then _ else _) _ _ s
 rw[if_neg hno,EJ]
 first
  | exact MT (m:=OW _) (NC (MX ⟨_,rfl,MX h⟩) Vk)
  | exact MT (m:=OW _) (NC (MT (MX (MX ⟨_,rfl,MX h⟩))) Vk)
  | exact MT (MT (m:=OW _) (NC (MX (MX ⟨_,rfl,MX h⟩)) Vk))
  | exact MT (MT (m:=OW _) (NC (MX ⟨_,rfl,MX h⟩) Vk))
end
end HT
namespace L2
open PySem PySem.Spec PyProof.Rows
abbrev TO:=St->Hp->(Option Int->Hp->Prop)->Prop
def PO(X:Cx)(e:Option Np)(t:TO):Prop:=
 ∀ (pins:List (MU×Obj)) (s:MW) (σ:St) (H:Hp) (Q:Option Int->Hp->Prop),Inv X pins σ H s->t σ H Q->
  M5 (M9 X.prog X.w) X.A (evalPart e X.env) (fun u s'=>∃ o H',Inv X pins σ H' s'/\Qu u o/\Q o H') X.xe s
def F3:TO:=fun _ H Q=>Q none H
def J7(t:TE):TO:=fun σ H Q=>t σ H fun x H1=>∃ i,x=.int i/\Q (some i) H1
section
variable{X:Cx}{e:Np}{te:TE}{lo hi:Option Np}{tl th:TO}{pos p2:Pos}
theorem Gv:PO X none F3:=by
 intro pins s σ H Q I h;rw[evalPart_none];exact MX ⟨none,H,I,.none,h⟩
theorem Gu(h:PE X e te):PO X (some e) (J7 te):=by
 intro pins s σ H Q I hw;rw[evalPart_some];refine cY (h pins s σ H _ I hw) fun u s1 zz=>?_;obtain⟨x,H1,I1,r1,q1⟩:=zz;obtain⟨i,rfl,q⟩:=q1;obtain⟨t,rfl⟩:=r1;exact⟨some i,H1,I1,.int i t,q⟩
def DG(X:Cx)(r:V->Option Int->Option Int->Hp->VK->Prop):Prop:=
 ∀ (pins:List (MU×Obj)) (s:MW) (σ:St) (H:Hp) (x:V) (v vl vu:MV) (lo hi:Option Int) (sl:MU) (Q:VK),Inv X pins σ H s->aN x v->s.heap.IsSliceOf sl vl vu .none->Qu vl lo->Qu vu hi->r x lo hi H Q->
  ∃ T id,Qr (.type T) "__getitem__"=pure (some (.builtin id))/\s.TypeIs v T/\M5 (M9 X.prog X.w) X.A (PX v (.ref sl)) (EP X pins σ Q) X.xe s
theorem DG.or{r r':V->Option Int->Option Int->Hp->VK->Prop}(h:DG X r)(h':DG X r'):DG X (fun x lo hi H Q=>r x lo hi H Q\/r' x lo hi H Q):=by
 intro pins s σ H x v vl vu lo hi sl Q I rx hs pl pu q;rcases q with q|q
 ·exact h pins s σ H x v vl vu lo hi sl Q I rx hs pl pu q
 ·exact h' pins s σ H x v vl vu lo hi sl Q I rx hs pl pu q
def Mx(r:V->Option Int->Option Int->Hp->VK->Prop)(te:TE)(tl th:TO):TE:=fun σ H Q=>te σ H fun x H1=>tl σ H1 fun l H2=>th σ H2 fun u H3=>r x l u H3 Q
theorem EN{r:V->Option Int->Option Int->Hp->VK->Prop}(hr:DG X r)(he:PE X e te)(hl:PO X lo tl)(hu:PO X hi th):PE X (.Subscript e (.Slice lo hi none p2) pos) (Mx r te tl th):=by
 intro pins s σ H Q I h;refine RP (cY (he pins s σ H _ I h) fun v s1 zz=>?_);obtain⟨x,H1,I1,r1,q1⟩:=zz;refine wpAny_Slice (cY (hl pins s1 σ H1 _ I1 q1) fun vl s2 zz=>?_);obtain⟨l,H2,I2,pl,q2⟩:=zz;refine cY (hu pins s2 σ H2 _ I2 q2) fun vu s3 zz=>?_;obtain⟨u,H3,I3,pu,q3⟩:=zz;rw[evalPart_none];refine MX ?_;have I4:Inv X pins σ H3 { s3 with heap:=s3.heap.push { cls:=.type "slice",data:=.fields #[vl,vu,.none] } }:=I3.kept (t':=s3.toks) fun b ob q=>M0 _ q
 obtain⟨T,id,hT,ht,hg⟩:=hr pins { s3 with heap:=s3.heap.push { cls:=.type "slice",data:=.fields #[vl,vu,.none] } } σ H3 x v vl vu l u s3.heap.objs.size Q I4 r1 (Heap.IsSliceOf.new ..) pl pu q3
 show M5 (M9 X.prog X.w) X.A (QZ e (.Slice lo hi none p2) v (.ref s3.heap.objs.size)) (EP X pins σ Q) X.xe { s3 with heap:=s3.heap.push { cls:=.type "slice",data:=.fields #[vl,vu,.none] } }
 exact tail_any (ops:=[.ref s3.heap.objs.size,v]) ht hT hg (by with_unfolding_all rfl)
def An(xs:List V)(lo hi:Option Int):List V:=(xs.drop (HT.sIx xs.length 0 lo)).take (HT.sIx xs.length xs.length hi - HT.sIx xs.length 0 lo)
theorem rD(xs:List V)(lo hi:Option Int):(An xs lo hi).length<=xs.length:=by
 unfold An;rw[Nq,NW];omega
def LS(K:PySem.W.Frag):V->Option Int->Option Int->Hp->VK->Prop:=fun x lo hi H Q=>∃ a xs,x=.ref a/\kT K H a xs/\
 ¬ (HT.sIx xs.length 0 lo=0/\HT.sIx xs.length xs.length hi=xs.length)/\∀ p,H p=none->Q (.ref p) (bG H p (.tup (An xs lo hi)))
theorem Iv:DG X (LS X.K):=by
 intro pins s σ H x v vl vu lo hi sl Q I rx hs pl pu h;obtain⟨a,xs,rfl,hx,hw,q⟩:=h;cases rx;obtain⟨its,r,ht,hz⟩:=I.tuple hx;have hlen:its.toArray.size=xs.length:=by rw[Nb];exact r.length.symm
 refine⟨"tuple",_,PyProof.Rows.slot_tuple_getitem.lookup,ht.typeIs,?_⟩;refine HT.getItem_tuple_cut ht hs pl pu (by rw[hlen];exact hw) ?_ (by rw[hlen];exact hz)
 rw[hlen];refine⟨.ref s.heap.objs.size,_,I.laid (t':=s.toks) (o:=.tup (An xs lo hi)) (fun b ob q=>M0 _ q) (le_refl _) ?_,rfl,q _ (I.hok.fresh (le_refl _))⟩;exact⟨le_trans (rD xs lo hi) hz,_,(r.drop (HT.sIx xs.length 0 lo)).take (HT.sIx xs.length xs.length hi - HT.sIx xs.length 0 lo),v9.new _ _⟩
def Km(K:PySem.W.Frag):R2:=fun x y H Q=>∃ a b xs ys,x=.ref a/\y=.ref b/\kT K H a xs/\kT K H b ys/\xs≠[]/\xs.length+ys.length<=M4/\
 (ys=[]->Q (.ref a) H)/\(ys≠[]->∀ p,H p=none->Q (.ref p) (bG H p (.tup (xs ++ ys))))
theorem Vals.nil_iff{xs:List V}{us:List MV}(r:Vals xs us):us=[]↔xs=[]:=by
 cases r with
 | nil=>simp
 | cons _ _=>simp
theorem GK:iS X (Oi .Add) (Km X.K):=by
 intro pins s σ H x y v u Q I rx ry h;obtain⟨a,b,xs,ys,rfl,rfl,ha,hb,hx,hz,q1,q2⟩:=h;cases rx;cases ry;obtain⟨its,r1,p1,_⟩:=I.tuple ha;obtain⟨its2,r2,p2,_⟩:=I.tuple hb;refine HT.cat_tup p1 p2 (fun z=>hx (r1.nil_iff.mp z)) (fun z=>⟨.ref a,H,I,rfl,q1 (r2.nil_iff.mp z)⟩) (fun z=>?_) (by rw[<- r1.length,<- r2.length];exact hz)
 refine⟨.ref s.heap.objs.size,_,I.laid (t':=s.toks) (o:=.tup (xs ++ ys)) (fun b ob q=>M0 _ q) (le_refl _) ?_,rfl,q2 (fun w=>z (r2.nil_iff.mpr w)) _ (I.hok.fresh (le_refl _))⟩;exact⟨by rw[Nj];exact hz,_,r1.append r2,v9.new _ _⟩
end
def HX(n:Nat)(i:Int):Option Nat:=if 0<=i then (if i < n then some i.toNat else none)else if -(n:Int)<=i then some (i+n).toNat else none
def iT{α:Type}(xs:List α)(i:Int):Option α:=(HX xs.length i).bind fun j=>xs[j]?
theorem Cd{n:Nat}{i:Int}{j:Nat}(h:HX n i=some j):seqIndex? i n=some j/\j < n/\-(n:Int)<=i/\i < n:=by
 unfold HX at h
 by_cases h0:0<=i
 ·rw[if_pos h0]at h
  by_cases h1:i < n
  ·rw[if_pos h1]at h;have e:i.toNat=j:=Option.some.inj h;exact⟨by rw[Rp h0 h1,e],by walk_at "o",by walk_at "o",h1⟩
  ·rw[if_neg h1]at h;cases h
 ·rw[if_neg h0]at h
  by_cases h1:-(n:Int)<=i
  ·rw[if_pos h1]at h;have e:(i+n).toNat=j:=Option.some.inj h;exact⟨by rw[seqIndex_neg (by walk_at "o") h1,e],by walk_at "o",h1,by walk_at "o"⟩
  ·rw[if_neg h1]at h;cases h
theorem yH{α:Type}{xs:List α}{i:Int}{v:α}(h:iT xs i=some v):∃ j,seqIndex? i xs.length=some j/\xs[j]?=some v/\j < xs.length/\-(xs.length:Int)<=i/\i < xs.length:=by
 unfold iT at h;cases e:HX xs.length i with
 | none=>rw[e]at h;cases h
 | some j=>
  rw[e]at h;obtain⟨h1,h2,h3,h4⟩:=Cd e;exact⟨j,h1,h,h2,h3,h4⟩
def Cw(b:Np):Prop:=∀ o i,QJ b false o i=operate [o,i] (PX o i)
def DI(X:Cx)(r:R2):Prop:=
 ∀ (value slice:Np) (pins:List (MU×Obj)) (s:MW) (σ:St) (H:Hp) (x y:V) (v u:MV) (Q:VK),Inv X pins σ H s->aN x v->aN y u->r x y H Q->
  QJ slice false v u=operate [v,u] (PX v u)->M5 (M9 X.prog X.w) X.A (QZ value slice v u) (EP X pins σ Q) X.xe s
def Mv(X:Cx)(id:String)(r:V->List V->Hp->VK->Prop):Prop:=
 ∀ (pins:List (MU×Obj)) (s:MW) (σ:St) (H:Hp) (x:V) (xs:List V) (v:MV) (us:List MV) (Q:VK),Inv X pins σ H s->aN x v->Vals xs us->r x xs H Q->
  M5 (M9 X.prog X.w) X.A (call (.builtin id) (v::us)) (EP X pins σ Q) X.xe s
section
variable{X:Cx}{a b:Np}{ta tb:TE}{pos:Pos}
theorem DI.or{r r':R2}(h:DI X r)(h':DI X r'):DI X (fun x y H Q=>r x y H Q\/r' x y H Q):=by
 intro value slice pins s σ H x y v u Q I rx ry q hs;rcases q with q|q
 ·exact h value slice pins s σ H x y v u Q I rx ry q hs
 ·exact h' value slice pins s σ H x y v u Q I rx ry q hs
theorem Kt{r:R2}(hr:DI X r)(ha:PE X a ta)(hb:PE X b tb)(hs:Cw b):PE X (.Subscript a b pos) (JY r ta tb):=by
 intro pins s σ H Q I h;exact RP (JO ha hb I h fun v u s2 x y H2 I2 rx ry q=>hr a b pins s2 σ H2 x y v u Q I2 rx ry q (hs _ _))
def Kl(K:PySem.W.Frag):R2:=fun x y H Q=>∃ p xs i v,x=.ref p/\y=.int i/\kP K H p xs/\iT xs i=some v/\Q v H
def Kj(K:PySem.W.Frag):R2:=fun x y H Q=>∃ p xs i v,x=.ref p/\y=.int i/\kT K H p xs/\iT xs i=some v/\Q v H
def Kk:R2:=fun x y H Q=>∃ z i c,x=.str z/\y=.int i/\z.length<=M4/\iT z.cps.toList i=some c/\Q (.str ⟨#[c]⟩) H
theorem Hb:DI X (Kl X.K):=by
 intro value slice pins s σ H x y v u Q I rx ry h hs;obtain⟨p,xs,i,z,rfl,rfl,hq,he,q⟩:=h;cases rx;obtain⟨t,rfl⟩:=ry;obtain⟨its,r,pl,hz⟩:=I.list hq;obtain⟨j,h1,h2,h3,h4,h5⟩:=yH he;obtain⟨w,ew,rw'⟩:=r.get h2;have hl:=r.length;have hn:=mm;have fin:EP X pins σ Q w s:=⟨z,H,I,rw',q⟩
 by_cases h0:0<=i
 ·have hj:i.toNat=j:=by
   rw[Rp h0 h5]at h1;exact Option.some.inj h1
  exact item_listR pl.isList h0 (by walk_at "o") (by rw[hj];simpa using ew) fin hs
 ·have hj:(i+(its.toArray.size:Int)).toNat=j:=by
   rw[seqIndex_neg (by walk_at "o") h4]at h1
   rw[Nb,<- hl];exact Option.some.inj h1
  exact Rb (x:=w) pl.isList.typeIs slot_list_getitem.lookup
   (wpAny_getItem_list_neg (Q:=fun r s'=>r=w/\EP X pins σ Q r s') pl.isList (by walk_at "o") (by rw[Nb]<;>omega) (by walk_at "o") (by rw[hj];simpa using ew) ⟨rfl,fin⟩) hs
theorem Jt:DI X (Kj X.K):=by
 intro value slice pins s σ H x y v u Q I rx ry h hs;obtain⟨p,xs,i,z,rfl,rfl,hq,he,q⟩:=h;cases rx;obtain⟨t,rfl⟩:=ry;obtain⟨its,r,pl,hz⟩:=I.tuple hq;obtain⟨j,h1,h2,h3,h4,h5⟩:=yH he;obtain⟨w,ew,rw'⟩:=r.get h2;have hl:=r.length;have hn:=mm;have fin:EP X pins σ Q w s:=⟨z,H,I,rw',q⟩;exact Rb (x:=w) pl.typeIs slot_tuple_getitem.lookup
  (getItem_tuple (j:=j) (Q:=fun r s'=>r=w/\EP X pins σ Q r s') pl (by walk_at "o") (by walk_at "o") (by rw[Nb,<- hl];exact h1) (by simpa using ew) ⟨rfl,fin⟩) hs
theorem Ju:DI X Kk:=by
 intro value slice pins s σ H x y v u Q I rx ry h hs;obtain⟨z,i,c,rfl,rfl,hz,he,q⟩:=h;obtain⟨t,rfl⟩:=rx;obtain⟨t',rfl⟩:=ry;obtain⟨j,h1,h2,h3,h4,h5⟩:=yH he;have hl:z.cps.toList.length=z.length:=by simp[PZ]
 rw[hl]at h1 h4 h5;have hn:=mm;exact tail_any (RF s z t) slot_str_getitem.lookup (getItem_str (c:=c) (by
  have e1:decide (i < -(2 ^ 63:Int))=false:=decide_eq_false (by walk_at "o")
  have e2:decide (i>=2 ^ 63)=false:=decide_eq_false (by walk_at "o")
  rw[e1,e2,Bool.or_false]) (by rw[h1];simpa using h2) ⟨.str ⟨#[c]⟩,H,I.tok _,⟨_,rfl⟩,q⟩) hs
def MC(K:PySem.W.Frag):R2:=fun x y H Q=>Kl K x y H Q\/Kj K x y H Q\/Kk x y H Q
theorem Jv:DI X (MC X.K):=Hb.or (Jt.or Ju)
theorem Bh(its:List MV)(n j:Nat)(u:MV):Os (·.setIfInBounds j u) { cls:=.type "list",data:=.seq its.toArray n }={ cls:=.type "list",data:=.seq (its.set j u).toArray n }:=by
 simp[Os]
theorem Inv.lst{pins:List (MU×Obj)}{σ:St}{H:Hp}{s:MW}{p:MU}{xs:List V}(I:Inv X pins σ H s)(h:H p=some (.lst xs)):
  ∃ (its:List MV) (n:Nat),Vals xs its/\s.heap.get? p=some { cls:=.type "list",data:=.seq its.toArray n }/\xs.length<=M4:=by
 obtain⟨z,its,n,r,e⟩:=I.hok p _ h;exact⟨its,n,r,e,z⟩
theorem Inv.lstUpd{pins:List (MU×Obj)}{σ:St}{H:Hp}{s:MW}{p:MU}{xs ys:List V}{its its':List MV}{n n':Nat}{f:Obj->Obj}(I:Inv X pins σ H s)(h:H p=some (.lst xs))
  (ho:s.heap.get? p=some { cls:=.type "list",data:=.seq its.toArray n }) (hf:f { cls:=.type "list",data:=.seq its.toArray n }={ cls:=.type "list",data:=.seq its'.toArray n' }) (r:Vals ys its') (hz:ys.length<=M4) (t:Nat):
  Inv X pins σ (bG H p (.lst ys)) { s with heap:=s.heap.update p f,toks:=t }:=by
 have e:(s.heap.update p f).get? p=some { cls:=.type "list",data:=.seq its'.toArray n' }:=by
  rw[P9 f ho (by rw[hf]<;>rfl),hf]
 refine I.write (x:=p) (e:=p) (by rw[h];trivial) (.inl rfl) (fun b u hb q=>(O_ _ _ (Ne.symm hb)).trans q) ⟨_,e⟩ ?_
 exact⟨hz,its',n',r,e⟩
def Ki:V->V->V->Hp->(Hp->Prop)->Prop:=fun o i v H Q=>∃ p xs k j,o=.ref p/\i=.int k/\H p=some (.lst xs)/\HX xs.length k=some j/\Q (bG H p (.lst (xs.set j v)))
theorem Ec:JU X Ki:=by
 intro pins s σ H o i v ov iv u Q I ro ri rv h;obtain⟨p,xs,k,j,rfl,rfl,hp,hj,q⟩:=h;cases ro;obtain⟨t,rfl⟩:=ri;obtain⟨its,n,r,ho,hz⟩:=I.lst hp;obtain⟨h1,h2,h3,h4⟩:=Cd hj;have hl:=r.length;have hn:=mm;have I':Inv X pins σ (bG H p (.lst (xs.set j v))) { s with heap:=s.heap.update p (Os (·.setIfInBounds j u)) }:=
  I.lstUpd hp ho (Bh its n j u) (r.set rv j) (by rw[List.length_set];exact hz) s.toks
 by_cases h0:0<=k
 ·have hk:k.toNat=j:=by
   rw[Rp h0 h4]at h1;exact Option.some.inj h1
  exact PySem.W.ki_setAt ho h0 (by walk_at "o") (by rw[Nb,<- hl];exact h4) (by rw[hk];exact⟨_,I',q⟩)
 ·have hk:(k+(its.toArray.size:Int)).toNat=j:=by
   rw[seqIndex_neg (by walk_at "o") h3]at h1
   rw[Nb,<- hl];exact Option.some.inj h1
  exact PySem.W.ki_setBack ho (by walk_at "o") (by rw[Nb,<- hl];exact h3) (by walk_at "o") (by rw[hk];exact⟨_,I',q⟩)
theorem wX(lo hi:Option Int)(n:Nat):(Oy lo hi none n).1=((HT.sIx n 0 lo:Nat):Int)/\(Oy lo hi none n).2.1=((HT.sIx n n hi:Nat):Int)/\(Oy lo hi none n).2.2=1:=by
 refine⟨?_,?_,rfl⟩
 ·cases lo with
  | none=>simp[Oy,HT.sIx]
  | some i=>
   simp only[Oy,HT.sIx,Option.getD_none,show (1:Int) > 0 by decide,if_true]
   by_cases h:i < 0
   ·simp only[h,if_true]<;>omega
   ·simp only[h,if_false]<;>omega
 ·cases hi with
  | none=>simp[Oy,HT.sIx]
  | some i=>
   simp only[Oy,HT.sIx,Option.getD_none,show (1:Int) > 0 by decide,if_true]
   by_cases h:i < 0
   ·simp only[h,if_true]<;>omega
   ·simp only[h,if_false]<;>omega
theorem uQ(its:List MV)(lo hi:Option Int):slicePick its.toArray lo hi none=((its.drop (HT.sIx its.length 0 lo)).take (HT.sIx its.length its.length hi - HT.sIx its.length 0 lo)).toArray:=by
 obtain⟨h1,h2,h3⟩:=wX lo hi its.toArray.size;unfold slicePick;rw[h1,h2,h3];simp only[sliceRange_one,pick_run,Nb]<;>rfl
def LU(K:PySem.W.Frag):V->Option Int->Option Int->Hp->VK->Prop:=fun x lo hi H Q=>∃ a xs,x=.ref a/\kP K H a xs/\∀ p,H p=none->Q (.ref p) (bG H p (.lst (An xs lo hi)))
theorem Ga:DG X (LU X.K):=by
 intro pins s σ H x v vl vu lo hi sl Q I rx hs pl pu h;obtain⟨a,xs,rfl,hx,q⟩:=h;cases rx;obtain⟨its,r,ht,hz⟩:=I.list hx;have hlen:=r.length;refine⟨"list",_,slot_list_getitem.lookup,ht.isList.typeIs,?_⟩;refine wpAny_getItem_list_slice ht.isList hs pl pu .none (by simp) ?_ (by rw[Nb]<;>omega)
 rw[uQ,<- hlen];refine⟨.ref s.heap.objs.size,_,I.laid (t':=s.toks) (o:=.lst (An xs lo hi)) (fun b ob q=>M0 _ q) (le_refl _) ?_,rfl,q _ (I.hok.fresh (le_refl _))⟩;exact⟨le_trans (rD xs lo hi) hz,_,0,(r.drop (HT.sIx xs.length 0 lo)).take (HT.sIx xs.length xs.length hi - HT.sIx xs.length 0 lo),M6 _ rfl⟩
theorem yD:d4 X (.builtin "len") (fun xs H Q=>∃ p ys,xs=[.ref p]/\(kP X.K H p ys\/kT X.K H p ys)/\Q (.int ys.length) H):=by
 intro pins s σ H xs us Q I r h;obtain⟨p,ys,rfl,hq,q⟩:=h;obtain⟨u,rfl,rx⟩:=sG r;cases rx;have hn:=mm;rcases hq with hq|hq
 ·obtain⟨its,r',pl,hz⟩:=I.list hq;have hlen:=r'.length;exact Calls.call_len_list pl.isList (by simp only[Nb]<;>omega) ⟨.int ys.length,H,I.tok _,⟨s.toks+1,by rw[Nb,hlen]⟩,q⟩
 ·obtain⟨its,r',pl,hz⟩:=I.tuple hq;have hlen:=r'.length;exact len_tuple pl (by simp only[Nb]<;>omega) ⟨.int ys.length,H,I.tok _,⟨s.toks+1,by rw[Nb,hlen]⟩,q⟩
theorem yC:d4 X (.builtin "len") (fun xs H Q=>∃ z,xs=[.str z]/\z.length<=M4/\Q (.int z.length) H):=by
 intro pins s σ H xs us Q I r h;obtain⟨z,rfl,hz,q⟩:=h;obtain⟨u,rfl,t,rfl⟩:=sG r;have hn:=mm;exact len_str (by walk_at "o") ⟨.int z.length,H,I.tok _,⟨_,rfl⟩,q⟩
theorem d4.or{f:MV}{r r':List V->Hp->VK->Prop}(h:d4 X f r)(h':d4 X f r'):d4 X f (fun xs H Q=>r xs H Q\/r' xs H Q):=by
 intro pins s σ H xs us Q I rs q;rcases q with q|q
 ·exact h pins s σ H xs us Q I rs q
 ·exact h' pins s σ H xs us Q I rs q
theorem yB:d4 X (.type "list") (fun xs H Q=>∃ p ys,xs=[.ref p]/\(kP X.K H p ys\/kT X.K H p ys)/\∀ l,H l=none->Q (.ref l) (bG H l (.lst ys))):=by
 intro pins s σ H xs us Q I r h;obtain⟨p,ys,rfl,hq,q⟩:=h;obtain⟨u,rfl,rx⟩:=sG r;cases rx;have fin:∀ (its:List MV),Vals ys its->ys.length<=M4->∀ (h':No) (c':Nat),(∀ b o',s.heap.get? b=some o'->h'.get? b=some o')->
   h'.get? s.heap.objs.size=some { cls:=.type "list",dict:=none,data:=.seq its.toArray c',slots:=#[] }->EP X pins σ Q (.ref s.heap.objs.size) { s with heap:=h' }:=fun its r' hz h' c' kp e=>
  ⟨.ref s.heap.objs.size,_,I.laid (t':=s.toks) kp (le_refl _) (show ce X.prog X.w _ h' _ (.lst ys)from ⟨hz,its,c',r',e⟩),rfl,q _ (I.hok.fresh (le_refl _))⟩
 rcases hq with hq|hq
 ·obtain⟨its,r',pl,hz⟩:=I.list hq;have hlen:=r'.length;obtain⟨o,ho,hc,n,hd⟩:=pl.isList;exact call_list_seq p (.inl rfl) ho hc hd (fun h' c' kp e=>fin its r' hz h' c' kp e) (by simp only[Nb]<;>omega)
 ·obtain⟨its,r',pl,hz⟩:=I.tuple hq;have hlen:=r'.length;obtain⟨o,ho,hc,n,hd⟩:=pl;exact call_list_seq p (.inr rfl) ho hc hd (fun h' c' kp e=>fin its r' hz h' c' kp e) (by simp only[Nb]<;>omega)
theorem v8:d4 X (.type "tuple") (fun xs H Q=>∃ p ys,xs=[.ref p]/\((kP X.K H p ys/\∀ l,H l=none->Q (.ref l) (bG H l (.tup ys)))\/(kT X.K H p ys/\Q (.ref p) H))):=by
 intro pins s σ H xs us Q I r h;obtain⟨p,ys,rfl,h⟩:=h;obtain⟨u,rfl,rx⟩:=sG r;cases rx;rcases h with ⟨hq,q⟩|⟨hq,q⟩
 ·obtain⟨its,r',pl,hz⟩:=I.list hq;have hlen:=r'.length;refine call_tuple_list pl.isList (fun h' kp=>?_) (by simp only[Nb]<;>omega)
  have I1:Inv X pins σ H { s with heap:=h' }:=I.kept (t':=s.toks) kp
  have I2:Inv X pins σ (bG H h'.objs.size (.tup ys)) { s with heap:=h'.push { cls:=.type "tuple",data:=.seq its.toArray } }:=
   I1.laid (t':=s.toks) (fun b o e=>M0 _ e) (le_refl _) (show ce X.prog X.w _ _ _ (.tup ys)from ⟨hz,its,r',v9.new _ _⟩)
  exact⟨.ref h'.objs.size,_,I2,rfl,q _ (I1.hok.fresh (le_refl _))⟩
 ·obtain⟨its,r',pl,hz⟩:=I.tuple hq;exact call_tuple_same pl ⟨.ref p,H,I,rfl,q⟩
def Mr(K:PySem.W.Frag)(T:String)(x:V)(H:Hp):Prop:=match x with
 | .str _=>T="str"
 | .int _=>T="int"
 | .ref p=>(T="list"/\∃ xs,kP K H p xs)\/(T="tuple"/\∃ o,K.lookup p=some o/\o.cls=.type "tuple"/\o.dict=none)\/
   (T="dict"/\((∃ kvs,H p=some (.dK kvs))\/∃ kvs,H p=some (.dT kvs)))\/(T="set"/\∃ S n,H p=some (.set S n))
 | _=>False
theorem Il{pins:List (MU×Obj)}{σ:St}{H:Hp}{s:MW}{T:String}{x:V}{v:MV}(I:Inv X pins σ H s)(r:aN x v)(ty:Mr X.K T x H):
  s.TypeIs v T/\∀ a,v=.ref a->∃ ob,s.heap.get? a=some ob/\ob.dict=none:=by
 cases x with
 | str z=>
  obtain⟨t,rfl⟩:=r;cases (show T="str" from ty)
  exact⟨RF s z t,fun _ e=>nomatch e⟩
 | int i=>
  obtain⟨t,rfl⟩:=r;cases (show T="int" from ty)
  exact⟨typeIs_int s i t,fun _ e=>nomatch e⟩
 | ref p=>
  cases r;rcases ty with ⟨rfl,xs,hq⟩|⟨rfl,o,hk,hc,hd⟩|⟨rfl,hk⟩|⟨rfl,S,n,hk⟩
  ·obtain⟨its,_,pl,_⟩:=I.list hq;refine⟨pl.isList.typeIs,fun a e=>?_⟩;cases e;obtain⟨o,n,e,c,hd,_⟩:=pl;exact⟨o,e,hd⟩
  ·refine⟨⟨o,I.kIn p o hk,hc⟩,fun a e=>?_⟩;cases e;exact⟨o,I.kIn _ o hk,hd⟩
  ·have z:∃ o,s.heap.get? p=some o/\o.ExactDict:=by
    rcases hk with ⟨kvs,hk⟩|⟨kvs,hk⟩
    ·obtain⟨_,_,_,_,o,_,_,e,ex,_⟩:=I.hok p _ hk;exact⟨o,e,ex⟩
    ·obtain⟨_,_,_,_,o,_,_,e,ex,_⟩:=I.hok p _ hk;exact⟨o,e,ex⟩
   obtain⟨o,e,ex⟩:=z;refine⟨⟨o,e,ex.1⟩,fun a e2=>?_⟩;cases e2;exact⟨o,e,ex.2.1⟩
  ·obtain⟨o,_,_,_,e,ex,_⟩:=I.hok p _ hk;refine⟨⟨o,e,ex.1⟩,fun a e2=>?_⟩;cases e2;exact⟨o,e,ex.2.1⟩
 | _=>exact False.elim ty
def Mz(K:PySem.W.Frag)(T:String)(r:V->List V->Hp->VK->Prop)(to:TE)(t:TA):TE:=fun σ H Q=>to σ H fun x H1=>Mr K T x H1/\t σ H1 fun xs H2=>r x xs H2 Q
variable{o e:Np}{es:List Np}{to:TE}{t:TA}{name:Str}{apos cpos:Pos}{T id:String}{r:V->List V->Hp->VK->Prop}
theorem HK(pa:PlainAttrs T)(slot:Slot T name id)(hty:typeOf (.builtin id)=pure (.type "method_descriptor"))(hm:Mv X id r)(ho:PE X o to)(ha:PA X (e::es) t)
  (Ui:Op o name X.env (eval o X.env)=eval o X.env:=by rfl)
  (Vt:((N9 cpos (M_ (e::es) X.env)).all (fun x=>!x.1) && (Pl cpos (Oz [] X.env)).all (fun x=>x.1.isSome)
   && decide ((e::es).length+([]:List Qk).length+(if ([]:List Qk).isEmpty then 0 else 1) < 30))=true:=by rfl)
  (Uh:(apos.endLine == cpos.line)=true:=by rfl) (hs:M_ (e::es) X.env=(false,eval e X.env)::M_ es X.env:=by rfl) (Ug:(N9 cpos (M_ es X.env)).any (·.1)=false:=by rfl):
  PE X (.Call (.Attribute o name apos) (e::es) [] cpos) (Mz X.K T r to t):=by
 intro pins s σ H Q I h;refine wpAny_Call_method_late Ui Vt Uh rfl (cY (ho pins s σ H _ I h) fun v s1 zz=>?_);obtain⟨x,H1,I1,r1,ty,q1⟩:=zz;obtain⟨h1,h2⟩:=Il I1 r1 ty;refine⟨T,id,pa,slot,hty,h1,h2,?_⟩;have hA:=ha cpos pins s1 σ H1 _ I1 q1;rw[hs]at hA ⊢;refine P0 (by show (false || (N9 cpos (M_ es X.env)).any (·.1))=false;rw[Ug]<;>rfl) (Ru ?_)
 exact cY hA fun us s2 ⟨vs,H2,I2,r2,q2⟩=>hm pins s2 σ H2 x vs v us Q I2 r1 r2 q2
end
def MM(X:Cx)(id:String)(r:V->List V->Hp->VK->Prop):Prop:=
 ∀ (pins:List (MU×Obj)) (s:MW) (σ:St) (H:Hp) (x:V) (xs:List V) (v:MV) (us:List MV) (Q:VK),Inv X pins σ H s->aN x v->Vals xs us->r x xs H Q->
  M5 (M9 X.prog X.w) X.A (call (.builtin id) (v::us)) (EP X pins σ Q) X.xe s
theorem Vals.one:∀ {x:V} {us:List MV},Vals [x] us->∃ u,us=[u]/\aN x u
 | _,_,.cons r .nil=>⟨_,rfl,r⟩
theorem Vals.two:∀ {x y:V} {us:List MV},Vals [x,y] us->∃ u v,us=[u,v]/\aN x u/\aN y v
 | _,_,_,.cons r (.cons q .nil)=>⟨_,_,rfl,r,q⟩
section
variable{X:Cx}{pins:List (MU×Obj)}{σ:St}{H:Hp}{s:MW}{l b:MU}{xs ys zs:List V}
theorem Inv.lset{its its':List MV}{n:Nat}{f:Array MV->Array MV}{t':Nat}(I:Inv X pins σ H s)(hH:H l=some (.lst xs))
  (e:s.heap.get? l=some { cls:=.type "list",data:=.seq its.toArray n }) (hf:f its.toArray=its'.toArray) (hv:Vals ys its') (hz:ys.length<=M4):
  Inv X pins σ (bG H l (.lst ys)) { s with heap:=s.heap.update l (Os f),toks:=t' }:=by
 have q:=PySem.IsL.update e f;rw[hf]at q;refine I.write (x:=l) (e:=l) (by rw[hH];exact trivial) (.inl rfl) (fun b' u hb hu=>(O_ s.heap (Os f) (Ne.symm hb)).trans hu) ⟨_,q⟩ ?_
 exact⟨hz,its',_,hv,q⟩
theorem Inv.lnew{its:List MV}{t':Nat}(I:Inv X pins σ H s)(hv:Vals ys its)(hz:ys.length<=M4):
  Inv X pins σ (bG H s.heap.objs.size (.lst ys)) { s with heap:=s.heap.push { cls:=.type "list",data:=.seq its.toArray },toks:=t' }:=
 I.laid (fun _ _ q=>M0 _ q) (le_refl _) ⟨hz,its,0,hv,M6 _ rfl⟩
theorem Inv.fresh(I:Inv X pins σ H s):H s.heap.objs.size=none:=I.hok.fresh (le_refl _)
theorem Inv.lstM(I:Inv X pins σ H s)(hH:H l=some (.lst xs)):xs.length<=M4/\∃ (its:List MV) (n:Nat),Vals xs its/\xs.length=its.length/\s.heap.get? l=some { cls:=.type "list",data:=.seq its.toArray n }:=by
 obtain⟨z,its,n,r,e⟩:=I.hok l _ hH;exact⟨z,its,n,r,r.length,e⟩
end
section
variable{X:Cx}
def rAppend:V->List V->Hp->VK->Prop:=fun x vs H Q=>∃ l xs y,x=.ref l/\vs=[y]/\H l=some (.lst xs)/\xs.length < M4/\Q .non (bG H l (.lst (xs ++ [y])))
theorem ww:MM X "list.append" rAppend:=by
 intro pins s σ H x vs v us Q I rx rv h;obtain⟨l,xs,y,rfl,rfl,hH,hz,q⟩:=h;cases rx;obtain⟨u,rfl,ru⟩:=rv.one;obtain⟨z,its,n,r,hl,e⟩:=I.lstM hH;refine RM F.slot_list_append ⟨_,e,rfl⟩ F.entry_list_append (F.args_list_append_2 _ _) (PySem.list_append l its.toArray n u (by rw[Nb];omega)) ⟨e,?_⟩
 refine⟨.non,_,I.lset (its':=its ++ [u]) hH e (by simp) (r.append (.cons ru .nil)) ?_,rfl,q⟩
 rw[Nj,List.length_singleton];omega
end
end L2
namespace Att
open PySem PySem.W PySem.Calls PyProof.Rows
theorem sf{P:Params}{h:No}:∀ (ns:List Int) (vs:List MV),WellAll P h vs (ns.map WData.int)->Rg vs ns:=by
 intro ns
 induction ns with
 | nil=>
  intro vs w;rw[Pf]at w;cases w;exact .nil
 | cons n ns ih=>
  intro vs w;rw[Nk]at w;cases w with
  | cons a b=>
   cases a;exact .cons _ _ (ih _ b)
theorem CK{l:OpenLaw}{n:Nat}(hn:l.most=some n){P:Params}{h:No}{args:List WData}{vals:List MV}
  (Vx:l.row.toRowW.claim.pre args=true) (hwl:WellAll P h vals args):
  ∃ a vs ns,vals=[Value.ref a]/\args=[WData.list (ns.map WData.int)]/\h.get? a=some { cls:=.type "list",data:=.seq vs.toArray }/\Rg vs ns/\ns.length<=n:=by
 have hsh:WShape.hasAll [] args [.list .int]=true:=(pre_splitW Vx).1;have hc:l.pre.holds [] { args:=args }=true:=(pre_splitW Vx).2;obtain⟨d,r,rfl,h1,h2⟩:=hasAllW_cons hsh;obtain rfl:=hasAllW_nil h2;obtain⟨xs,rfl,h3⟩:=hasW_list h1;obtain⟨ns,rfl⟩:=items_int h3;have hlen:ns.length<=n:=by
  unfold OpenLaw.pre at hc;have h4:(WTm.not (.lt (.lit (.int (n:Int))) (.len (.arg 0)))).holds [] { args:=[.list (ns.map .int)] }=true:=by
   have h4:=(holds_andW hc).1;rw[hn]at h4;exact h4
  have h5:=condW_of h4 (w_not (w_lt w_lit (w_len_list (w_arg rfl))));rw[MY]at h5;refine Nat.le_of_not_lt fun q=>?_;have q':(n:Int) < ((ns.length:Nat):Int):=by walk_at "o"
  first
   | (rw[decide_eq_true q']at h5;exact absurd h5 (by decide))
   | (simp at h5;omega)
 cases hwl with
 | cons w1 w2=>
  cases w2;cases w1 with
  | list ho hall=>exact⟨_,_,ns,rfl,rfl,ho,sf ns _ hall,hlen⟩
theorem CP(l:OpenLaw)(args:List WData):l.row.toRowW.claim.post args (.bool true) args=true:=
 postW_of (r:=l.row.toRowW) (X:=(true == true))
  (show WShape.has [] (.bool true) .bool=true by first|rfl|decide|simp[WShape.has,WShape.arms,WShape.armsAll])
  (show (WTm.eq .res (.lit (.bool true))).value [] { args:=args,res:=some (.bool true),after:=args }=some (.bool (true == true))from w_eq_bool (w_res rfl) w_lit) rfl
theorem attach_call{l:OpenLaw}{n:Nat}{q:Nf}{loose:List Str}{XP:(Str->Option MV)->No->Prop}{YP:Nn->No->Prop}{d:DefRec}
  (hn:l.most=some n) (hdf:d.params.defaults=[])
  (call:∀ (w:Nn) (s₀ s₁:MW) (mg mb:Str->Option MV) (fa:MU) (o:Obj) (pm cd doc:MV) (a:MU) (vs:List MV) (ns:List Int),
   Ground q loose [] XP w s₀ mg mb s₁.heap->YP w s₁.heap->
   s₁.heap.get? fa=some o->o.data=.func (docDef d.name d.params d.body d.scope pm cd doc)->s₁.heap.CodeRec cd d.name->mg d.name=some (.ref fa)->
   s₁.heap.get? a=some { cls:=.type "list",data:=.seq vs.toArray }->Rg vs ns->ns.length<=n->s₁.gens=#[]->
   Ps (M9 l.prog w) Qi (.call (.ref fa) ⟨[.ref a],[]⟩) (fun r s'=>r=.ok (.ret (.bool true))/\OldK s₁.heap s'.heap/\s'.os=s₁.os/\PK s'.gens) s₁):
  WalkO q loose XP YP l.row.toRowW d [] (fun f vs=>PySem.call f vs):=by
 intro w s₀ s₁ mg mb G Y fa o pm cd doc dV kV ho hd hcd hD hmg hg args vals as Vx hlay hrd hwl hlo;obtain rfl:dV=.none:=Dflts.none hD hdf;obtain rfl:kV=.none:=Dflts.noKw hD;obtain⟨a,vs,ns,rfl,rfl,UJ,hints,hlen⟩:=CK hn Vx hwl;refine enter_call (PY (call w s₀ s₁ mg mb fa o pm cd doc a vs ns G Y ho (fd_plain hd) hcd hmg UJ hints hlen hg) fun r s' hq=>?_);obtain⟨rfl,h2,h3,h4⟩:=hq;exact⟨.inl ⟨.bool true,.bool true,[],rfl,fun _=>rfl,.bool true,CP l _,fun _=>⟨List.Pairwise.nil,fun _ hm=>(nomatch hm)⟩⟩,h2,h3,h4⟩
end Att
namespace L2
open PySem PySem.Spec PyProof.Rows
theorem v_:∀ {vs:List MV} {ns:List Int},Rg vs ns->Vals (ns.map V.int) vs
 | _,_,.nil=>.nil
 | _,_,.cons n t h=>.cons ⟨t,rfl⟩ (v_ h)
def Hy(H:Hp):Prop:=∀ b,H b=none\/∃ o xs,H b=some (.frz o (.lst xs))
theorem Fd{P:Nf}{w:Nn}{K:PySem.W.Frag}{mg mb:Str->Option MV}{CX:FO}{k:Nat}{fa a:MU}{fd:M7}{x:Str}{sp:Sp}{s₁:MW}{vs:List MV}{ns:List Int}
  (KX:K.In s₁.heap) (hns:s₁.heap.Ns Nd mg) (hb:s₁.heap.Ns RN mb) (hbb:∀ x:Str,x≠"__name__"->mb x=On x) (V2:s₁.heap.NoLimit) (hg:s₁.gens=#[])
  (ha:s₁.heap.get? a=some { cls:=.type "list",data:=.seq vs.toArray }) (hi:Rg vs ns) (hl:ns.length<=M4) (hr:Room k Qi)
  (F:∀ base:No,K.In base->base.Ns Nd mg->FnOk P w K mg base CX k fa fd [x] sp) (VQ:∀ (s:MW) (u:MV),QR s fd ⟨[u],[]⟩ [(x,u)])
  (hsp:∀ H:Hp,Hy H->kP K H a (ns.map V.int)->sp [.ref a] H (fun v _=>v=.bl true) fun _ _ _=>False)
  (hCX:∀ H e s',CX [] H s₁ (fun _ _ _=>False) e s'->False):
  Ps (M9 P w) Qi (.call (.ref fa) ⟨[.ref a],[]⟩) (fun r s'=>r=.ok (.ret (.bool true))/\OldK s₁.heap s'.heap/\s'.os=s₁.os/\PK s'.gens) s₁:=by
 have rv:=v_ hi;have VX:=hi.length;have core:∀ H:Hp,Hy H->kP K H a (ns.map V.int)->oh P w H s₁.heap->(∀ b,H b≠none->b=a)->(H a≠none->K.lookup a=none)->
   Ps (M9 P w) Qi (.call (.ref fa) ⟨[.ref a],[]⟩) (fun r s'=>r=.ok (.ret (.bool true))/\OldK s₁.heap s'.heap/\s'.os=s₁.os/\PK s'.gens) s₁:=by
  intro H hO hS hok hA hK;have Vl:∀ {b:MU} {o:Obj},s₁.heap.get? b=some o->H b=none->(ym s₁.heap H).get? b=some o:=fun e n=>Fl e n;have noA:∀ {b:MU} {o:Obj} {es:Array DictEntry} {ep:Nat},s₁.heap.get? b=some o->o.data=.dict es ep->H b=none:=fun {b o es ep} e d=>by
   cases q:H b with
   | none=>rfl
   | some u=>
    have e':b=a:=hA b (by rw[q];simp)
    subst e';rw[ha]at e;cases e;have d':Data.seq vs.toArray _=Data.dict es ep:=d;cases d'
  have nsK:∀ {b:MU} {m:Str->Option MV},s₁.heap.Ns b m->(ym s₁.heap H).Ns b m:=fun {b m} ⟨o,es,ep,e,d,r⟩=>⟨o,es,ep,Vl e (noA e d),d,r⟩;have hKb:K.In (ym s₁.heap H):=fun b o e=>Vl (KX b o e) (by
   cases q:H b with
   | none=>rfl
   | some u=>
    have e':b=a:=hA b (by rw[q];simp)
    subst e';rw[hK (by rw[q];simp)]at e;cases e)
  have hM:Mod K mg (ym s₁.heap H):=⟨hKb,nsK hns,⟨mb,nsK hb,hbb⟩,let ⟨mc,h1,h2⟩:=V2;⟨mc,nsK h1,h2⟩⟩;have e0:Env0 P w K mg (ym s₁.heap H) Qi [] s₁ H:=⟨rfl,hM,fun b o e=>GN e,Nat.le_of_eq (Do _ _),trivial,fun b hb=>absurd (show b∈([]:List MU)from hb) (by simp),hok,.of_eq hg⟩
  refine PY ((F _ hKb (nsK hns)).run Qi [] s₁ H ⟨[.ref a],[]⟩ [.ref a] [.ref a] _ _ hr e0 (VQ s₁ (.ref a)) (.cons rfl .nil) (hsp H hO hS)) fun r s' h=>?_;cases r with
  | error e=>exact (hCX H e s' h).elim
  | ok fl=>
   cases fl with
   | next=>exact False.elim h
   | brk=>exact False.elim h
   | cont=>exact False.elim h
   | ret u=>
    obtain⟨v,H',os,bare,un,hok',r',q⟩:=h;have q':v=.bl true:=q;subst q';obtain rfl:u=Value.bool true:=r';refine⟨rfl,OldK.of_keep fun b o e=>?_,os,bare⟩;cases q:H b with
    | none=>exact un.keep b o e q (by intro z;exact absurd (show b∈([]:List MU)from z) (by simp)) (by simp)
    | some u=>
     rcases hO b with z|⟨ob,xs,z⟩
     ·rw[q]at z;cases z
     ·have z2:=un.frzs b ob _ z;obtain⟨e1,_⟩:=hok b _ z;obtain⟨e2,_⟩:=hok' b _ z2;rw[e]at e1;cases e1;exact e2
 cases hk:K.lookup a with
 | some o=>
  have e:=KX a o hk;rw[ha]at e;cases e;refine core (fun _=>none) (fun _=>.inl rfl) (.inr ⟨_,vs.toArray,_,hk,rfl,rfl,rfl,by rw[Nb,VX];exact hl,by simpa using rv⟩) (fun b u z=>by have z':(none:Option HO)=some u:=z;cases z') (fun b z=>absurd rfl z) fun z=>absurd rfl z
 | none=>
  refine core (fun b=>if b=a then some (.frz { cls:=.type "list",data:=.seq vs.toArray } (.lst (ns.map V.int)))else none) (fun b=>?_) (.inl (.inr ⟨{ cls:=.type "list",data:=.seq vs.toArray },if_pos rfl⟩)) (fun b u z=>?_) (fun b z=>?_) fun _=>hk
  ·by_cases hb:b=a
   ·exact .inr ⟨_,_,if_pos hb⟩
   ·exact .inl (if_neg hb)
  ·by_cases hb:b=a
   ·have z':=(if_pos hb).symm.trans z;cases z';subst hb;exact⟨ha,by rw[MY];exact hl,vs,_,rv,ha⟩
   ·have z':=(if_neg hb).symm.trans z;cases z'
  ·by_cases hb:b=a
   ·exact hb
   ·exact absurd (if_neg hb) z
abbrev MR{K:PySem.W.Frag}{h:No}(_:K.In h):PySem.W.Frag:=K
theorem walk_of{l:PySem.W.OpenLaw}{n k:Nat}{q:Nf}{loose:List Str}{XP:(Str->Option MV)->No->Prop}{YP:Nn->No->Prop}{d:DefRec}{K:Params->PySem.W.Frag}{CX:Nn->FO}{sp:Nn->Sp}{x:Str}
  (hn:l.most=some n) (hn2:n<=M4) (hdf:d.params.defaults=[]) (hr:Room k Qi)
  (hY:∀ (w:Nn) (h:No),YP w h->(K w.params).In h)
  (F:∀ (w:Nn) (mg:Str->Option MV) (fa:MU) (h:No),(K w.params).In h->h.Ns Nd mg->mg d.name=some (.ref fa)->
   ∃ fd:M7,(∀ (s:MW) (u:MV),QR s fd ⟨[u],[]⟩ [(x,u)])/\
    ∀ base:No,(K w.params).In base->base.Ns Nd mg->FnOk l.prog w (K w.params) mg base (CX w) k fa fd [x] (sp w))
  (hsp:∀ (w:Nn) (H:Hp) (a:MU) (ns:List Int),ns.length<=n->Hy H->kP (K w.params) H a (ns.map V.int)->sp w [.ref a] H (fun v _=>v=.bl true) fun _ _ _=>False)
  (hCX:∀ (w:Nn) (H:Hp) (s:MW) (e:MV) (s':MW),CX w [] H s (fun _ _ _=>False) e s'->False):
  PySem.W.WalkO q loose XP YP l.row.toRowW d [] (fun f vs=>PySem.call f vs):=by
 refine Att.attach_call hn hdf fun w s₀ s₁ mg mb fa o pm cd doc a vs ns G Y ho hd hcd hmg UJ hints hlen hg=>?_;have KX:=hY w _ Y;obtain⟨fd,hb,hF⟩:=F w mg fa _ KX G.T.g hmg;exact Fd KX G.T.g G.T.b G.T.builtins G.T.nolimit hg UJ hints (le_trans hlen hn2) hr hF hb (fun H hO hS=>hsp w H a ns hlen hO hS) fun H e s'=>hCX w H s₁ e s'
def aP(s:Nu)(j:Nat):Nu:=match s with
 | .ClassDef _ _ _ body _ _ _ _ _ _ _=>body.getD j (.Pass ⟨0,0,0,0⟩)
 | _=>.Pass ⟨0,0,0,0⟩
def fO(s:Nu):Arguments:=match s with
 | .FunctionDef _ a _ _ _ _ _ _ _ _=>a
 | _=>{ posonlyargs:=[],args:=[],vararg:=none,kwonlyargs:=[],kw_defaults:=[],kwarg:=none,defaults:=[] }
def fi(s:Nu):List Nu:=match s with
 | .FunctionDef _ _ b _ _ _ _ _ _ _=>b
 | _=>[]
def aj(s:Nu):Pc:=match s with
 | .FunctionDef _ _ _ _ _ _ sc _ _ _=>sc
 | _=>{ kind:=.function,names:=[],isGenerator:=false,isCoroutine:=false }
abbrev dE:FO:=fun _ _ _ _ _ _=>False
abbrev E0:XK:=fun _ _ _=>False
theorem wp{X:Cx}:og dE X E0:=fun _ _ _ _ _ _ _ h=>h.elim
theorem iteF{A B:Prop}(h:B):if false=true then A else B:=by
 rw[if_neg Bool.false_ne_true];exact h
theorem iteT{A B:Prop}(h:A):if true=true then A else B:=by
 rw[if_pos rfl];exact h
section
variable{κ:Type}[DecidableEq κ]
def nl(kvs:List (κ×V))(k:κ):Option V:=(kvs.find? fun kv=>decide (kv.1=k)).map (·.2)
def oY(kvs:List (κ×V))(k:κ)(v:V):List (κ×V):=
 if (kvs.any fun kv=>decide (kv.1=k))=true then kvs.map (fun kv=>if kv.1=k then (kv.1,v)else kv)else kvs ++ [(k,v)]
theorem ot{p:κ×V}{r:List (κ×V)}{k:κ}(e:p.1=k):nl (p::r) k=some p.2:=by simp[nl,Nz,e]
theorem ou{p:κ×V}{r:List (κ×V)}{k:κ}(e:¬ p.1=k):nl (p::r) k=nl r k:=by simp[nl,Nz,e]
theorem sH(k:κ):∀ kvs:List (κ×V),(kvs.any fun kv=>decide (kv.1=k))=(nl kvs k).isSome
 | []=>rfl
 | p::r=>by
  rw[Qf]
  by_cases e:p.1=k
  ·simp only[ot e,decide_eq_true e,Bool.true_or,Option.isSome_some]
  ·rw[ou e,decide_eq_false e,Bool.false_or];exact sH k r
theorem rl(kvs:List (κ×V))(k:κ)(v:V):(oY kvs k v).length<=kvs.length+1:=by
 unfold oY;split
 ·rw[MY];omega
 ·rw[Nj,Ni,NG];omega
theorem lu.isSome_eq{o:Option V}{u:Option MV}(r:lu o u):o.isSome=u.isSome:=by
 cases o with
 | none=>cases u with
  | none=>rfl
  | some _=>exact (show False from r).elim
 | some _=>cases u with
  | none=>exact (show False from r).elim
  | some _=>rfl
theorem lu.getD{o:Option V}{u:Option MV}{d:V}{d':MV}(r:lu o u)(rd:aN d d'):aN (o.getD d) (u.getD d'):=by
 cases o with
 | none=>cases u with
  | none=>exact rd
  | some _=>exact (show False from r).elim
 | some _=>cases u with
  | none=>exact (show False from r).elim
  | some _=>exact r
theorem KV.val{kvs:List (κ×V)}{vs:List (κ×MV)}(r:KV kvs vs)(k:κ):lu (nl kvs k) (Qw vs k):=by
 unfold KV at r
 induction r with
 | nil=>exact True.intro
 | @cons p q ps qs h t ih=>
  obtain⟨h1,h2⟩:=h
  by_cases e:p.1=k
  ·have e':q.1=k:=h1.symm.trans e;have b:Qw (q::qs) k=some q.2:=by simp[Qw,Nz,e']
   rw[ot e,b];exact h2
  ·have e':¬ q.1=k:=fun z=>e (h1.trans z);have b:Qw (q::qs) k=Qw qs k:=by simp[Qw,Nz,e']
   rw[ou e,b];exact ih
theorem KV.any{kvs:List (κ×V)}{vs:List (κ×MV)}(r:KV kvs vs)(k:κ):(kvs.any fun kv=>decide (kv.1=k))=vs.any fun kv=>decide (kv.1=k):=by
 unfold KV at r
 induction r with
 | nil=>rfl
 | cons h t ih=>rw[Qf,Qf,ih,h.1]
theorem KV.repl{kvs:List (κ×V)}{vs:List (κ×MV)}(r:KV kvs vs)(k:κ){y:V}{u:MV}(ry:aN y u):
  KV (kvs.map fun kv=>if kv.1=k then (kv.1,y)else kv) (vs.map fun kv=>if kv.1=k then (kv.1,u)else kv):=by
 unfold KV at r ⊢
 induction r with
 | nil=>exact .nil
 | @cons p q ps qs h t ih=>
  rw[Nk,Nk];refine .cons ?_ ih;obtain⟨h1,h2⟩:=h
  by_cases e:p.1=k
  ·rw[if_pos e,if_pos (h1.symm.trans e)];exact⟨h1,ry⟩
  ·rw[if_neg e,if_neg (fun z=>e (h1.trans z))];exact⟨h1,h2⟩
theorem KV.put{kvs:List (κ×V)}{vs:List (κ×MV)}(r:KV kvs vs)(k:κ){y:V}{u:MV}(ry:aN y u):KV (oY kvs k y) (stored vs k u):=by
 unfold oY stored;rw[r.any k]
 by_cases e:(vs.any fun kv=>decide (kv.1=k))=true
 ·rw[if_pos e,if_pos e];exact r.repl k ry
 ·rw[if_neg e,if_neg e];exact QM r ⟨rfl,ry⟩
theorem KV.length{kvs:List (κ×V)}{vs:List (κ×MV)}(r:KV kvs vs):kvs.length=vs.length:=Ph r
end
theorem wz{P:Nf}{w:Nn}{k:aM}{u:MV}(r:aN (kV k) u):(bu P w).is k u=true:=by
 cases k with
 | inl i=>obtain⟨t,e⟩:=(show ∃ t,u=Value.int i t from r);subst e;exact zJ P w i t
 | inr x=>obtain⟨t,e⟩:=(show ∃ t,u=Value.str x t from r);subst e;exact zI P w x t
theorem qJ{P:Nf}{w:Nn}:∀ {ks:List aM} {us:List MV},Vals (ks.map kV) us->ItemsAre (bu P w) ks us
 | [],_,r=>by rw[Pf]at r;cases r;exact .nil
 | k::ks,_,r=>by
  rw[Nk]at r;cases r with
  | cons h t=>exact .cons (wz h) (qJ t)
abbrev KT(H:Hp):List (List aM×V)->List (List aM×MU×MV)->Prop:=PM fun p q=>p.1=q.1/\H q.2.1=some (.tup (p.1.map kV))/\aN p.2 q.2.2
theorem KT.val{H:Hp}{kvs:List (List aM×V)}{xs:List (List aM×MU×MV)}(r:KT H kvs xs)(k:List aM):lu (nl kvs k) ((Pm xs k).map (·.2)):=by
 induction r with
 | nil=>exact True.intro
 | @cons p q ps qs h t ih=>
  obtain⟨h1,_,h2⟩:=h
  by_cases e:p.1=k
  ·have e':q.1=k:=h1.symm.trans e;have b:Pm (q::qs) k=some q.2:=by simp[Pm,Nz,e']
   rw[ot e,b];exact h2
  ·have e':¬ q.1=k:=fun z=>e (h1.trans z);have b:Pm (q::qs) k=Pm qs k:=by simp[Pm,Nz,e']
   rw[ou e,b];exact ih
theorem KT.repl{H:Hp}{kvs:List (List aM×V)}{xs:List (List aM×MU×MV)}(r:KT H kvs xs)(k:List aM){y:V}{u:MV}(ry:aN y u):
  KT H (kvs.map fun kv=>if kv.1=k then (kv.1,y)else kv) (xs.map (putAt k u)):=by
 induction r with
 | nil=>exact .nil
 | @cons p q ps qs h t ih=>
  rw[Nk,Nk];refine .cons ?_ ih;obtain⟨h1,h2,h3⟩:=h;unfold putAt
  by_cases e:p.1=k
  ·rw[if_pos e,if_pos (h1.symm.trans e)];exact⟨h1,h2,ry⟩
  ·rw[if_neg e,if_neg (fun z=>e (h1.trans z))];exact⟨h1,h2,h3⟩
theorem KT.put{H:Hp}{kvs:List (List aM×V)}{xs:List (List aM×MU×MV)}(r:KT H kvs xs)(k:List aM){b:MU}{y:V}{u:MV}(hb:H b=some (.tup (k.map kV)))(ry:aN y u):
  KT H (oY kvs k y) (Qg xs k b u):=by
 have e:(kvs.any fun kv=>decide (kv.1=k))=(Pm xs k).isSome:=by
  rw[sH,(r.val k).isSome_eq,Option.isSome_map]
 unfold oY Qg;rw[e]
 by_cases q:(Pm xs k).isSome=true
 ·rw[if_pos q,if_pos q];exact r.repl k ry
 ·rw[if_neg q,if_neg q];exact QM r ⟨rfl,hb,ry⟩
theorem KT.keeps{H H':Hp}{kvs:List (List aM×V)}{xs:List (List aM×MU×MV)}(r:KT H kvs xs)(ht:∀ b ys,H b=some (.tup ys)->H' b=some (.tup ys)):KT H' kvs xs:=
 Paired.mapP r fun _ _ z=>⟨z.1,ht _ _ z.2.1,z.2.2⟩
section
variable{P:Nf}{w:Nn}{H:Hp}{h:No}{a:MU}
theorem HH{u:HO}(ok:oh P w H h)(e:Rd H a u):ce P w H h a u:=e.ok ok
theorem wE{kvs:List (aM×V)}(ok:oh P w H h)(e:Rd H a (.dK kvs)):kvs.length<=M4/\(a == NK)=false/\∃ vs,KV kvs vs/\h.DictOf (bu P w) a vs:=
 show ce P w H h a (.dK kvs)from HH ok e
theorem KW{kvs:List (aM×V)}(ok:oh P w H h)(e:H a=some (.dK kvs)):kvs.length<=M4/\(a == NK)=false/\∃ vs,KV kvs vs/\h.DictOf (bu P w) a vs:=wE ok (.inl e)
theorem qH{ks:List aM}(ok:oh P w H h)(e:H a=some (.tup (ks.map kV))):(N6 (bu P w)).is h ks a:=by
 obtain⟨_,its,r,o,h1,h2,n,h3⟩:=(show ce P w H h a (.tup (ks.map kV))from ok a _ e)
 exact⟨o,its.toArray,n,h1,h2.1,h3,by simpa using qJ r⟩
theorem wD{kvs:List (List aM×V)}(ok:oh P w H h)(e:Rd H a (.dT kvs)):kvs.length<=M4/\(a == NK)=false/\
  ∃ xs,KT H kvs xs/\h.DictOfH (N6 (bu P w)) a xs:=by
 obtain⟨z,y,xs,r,o,es,ep,h1,h2,h3,h4,h5⟩:=(show ce P w H h a (.dT kvs)from HH ok e)
 refine⟨z,y,xs,r,o,es,ep,h1,h2,h3,h4,fun x hx=>?_,h5⟩;have all:∀ {l:List (List aM×V)} {m:List (List aM×MU×MV)},KT H l m->∀ x∈m,(N6 (bu P w)).is h x.1 x.2.1:=by
  intro l m q
  induction q with
  | nil=>intro x hx;exact nomatch hx
  | @cons p q ps qs hq t ih=>
   intro x hx;rcases NH.mp hx with e|hx
   ·subst e;exact qH ok (by rw[<- hq.1];exact hq.2.1)
   ·exact ih x hx
 exact all r x hx
theorem KU{kvs:List (List aM×V)}(ok:oh P w H h)(e:H a=some (.dT kvs)):kvs.length<=M4/\(a == NK)=false/\
  ∃ xs,KT H kvs xs/\h.DictOfH (N6 (bu P w)) a xs:=wD ok (.inl e)
end
def yN(H:Hp)(a:MU)(y:V)(r:Option V):Prop:=
 (∃ kvs k,Rd H a (.dK kvs)/\y=kV k/\r=nl kvs k)\/∃ kvs k b,Rd H a (.dT kvs)/\y=.ref b/\H b=some (.tup (k.map kV))/\r=nl kvs k
def Hz(H:Hp)(a:MU)(y v:V)(H':Hp):Prop:=
 (∃ kvs k,H a=some (.dK kvs)/\y=kV k/\kvs.length < M4/\H'=bG H a (.dK (oY kvs k v)))\/
 ∃ kvs k b,H a=some (.dT kvs)/\y=.ref b/\H b=some (.tup (k.map kV))/\kvs.length < M4/\H'=bG H a (.dT (oY kvs k v))
theorem yN.k{H:Hp}{a:MU}{kvs:List (aM×V)}{k:aM}(e:H a=some (.dK kvs)):yN H a (kV k) (nl kvs k):=.inl ⟨kvs,k,.inl e,rfl,rfl⟩
theorem Hz.k{H:Hp}{a:MU}{kvs:List (aM×V)}{k:aM}{v:V}(e:H a=some (.dK kvs))(hl:kvs.length < M4):Hz H a (kV k) v (bG H a (.dK (oY kvs k v))):=.inl ⟨kvs,k,e,rfl,hl,rfl⟩
section
variable{X:Cx}{pins:List (MU×Obj)}{σ:St}{H:Hp}{s:MW}{a:MU}{y v:V}{u r:MV}{o:Option V}{A:Nh}{E:MV->MW->Prop}
theorem Inv.big(I:Inv X pins σ H s):NK < s.heap.objs.size:=by
 have h:Nd < s.heap.objs.size:=(I.mod.glob.keeps I.bk).lt;exact Nat.lt_trans (by decide) h
theorem Dw{Q:MV->MW->Prop}(hu:A.units+1 < NM)(I:Inv X pins σ H s)(g:yN H a y (some v))(ry:aN y u)(h:∀ w' s',Inv X pins σ H s'->aN v w'->Q w' s'):
  M5 (M9 X.prog X.w) A (PX (.ref a) u) Q E s:=by
 rcases g with ⟨kvs,k,e,ey,l⟩|⟨kvs,k,b,e,ey,eb,l⟩
 ·subst ey;obtain⟨z,hd,vs,rel,dd⟩:=wE I.hok e;obtain⟨w',hw,rw'⟩:=lu.some_of (v:=v) (o:=Qw vs k) (by rw[l];exact rel.val k)
  exact wpAny_getItem_of (wz ry) dd.mapOf hw (h w' _ (I.tok _) rw')
 ·subst ey;cases (show u=Value.ref b from ry)
  obtain⟨z,hd,xs,rel,dd⟩:=wD I.hok e;obtain⟨w',hw,rw'⟩:=lu.some_of (v:=v) (o:=(Pm xs k).map (·.2)) (by rw[l];exact rel.val k)
  obtain⟨p,hp,hp2⟩:=Option.map_eq_some_iff.mp hw;refine Rz (NJ hu) (qH I.hok eb) dd hp ?_;rw[hp2];exact h w' _ (I.tok _) rw'
theorem Md{Q:MV->MW->Prop}(hu:A.units+1 < NM)(I:Inv X pins σ H s)(g:yN H a y o)(ry:aN y u)(h:∀ s',Inv X pins σ H s'->Q (.bool o.isSome) s'):
  M5 (M9 X.prog X.w) A (NA .In u (.ref a)) Q E s:=by
 rcases g with ⟨kvs,k,e,ey,l⟩|⟨kvs,k,b,e,ey,eb,l⟩
 ·subst ey;obtain⟨z,hd,vs,rel,dd⟩:=wE I.hok e;refine wpAny_in_of (wz ry) hd dd.mapOf ?_;rw[<- (rel.val k).isSome_eq,<- l];exact h _ (I.tok _)
 ·subst ey;cases (show u=Value.ref b from ry)
  obtain⟨z,hd,xs,rel,dd⟩:=wD I.hok e;refine wpAny_in_heap (NJ hu) (qH I.hok eb) hd dd ?_;have q:=(rel.val k).isSome_eq;rw[Option.isSome_map]at q;rw[<- q,<- l];exact h _ (I.tok _)
theorem Hk{Q:MV->MW->Prop}(hu:A.units+1 < NM)(I:Inv X pins σ H s)(g:yN H a y o)(ry:aN y u)(h:∀ s',Inv X pins σ H s'->Q (.bool (!o.isSome)) s'):
  M5 (M9 X.prog X.w) A (NA .NotIn u (.ref a)) Q E s:=by
 rcases g with ⟨kvs,k,e,ey,l⟩|⟨kvs,k,b,e,ey,eb,l⟩
 ·subst ey;obtain⟨z,hd,vs,rel,dd⟩:=wE I.hok e;refine wpAny_notIn_of (wz ry) hd dd.mapOf ?_;rw[<- (rel.val k).isSome_eq,<- l];exact h _ (I.tok _)
 ·subst ey;cases (show u=Value.ref b from ry)
  obtain⟨z,hd,xs,rel,dd⟩:=wD I.hok e;refine wpAny_notIn_heap (NJ hu) (qH I.hok eb) hd dd ?_;have q:=(rel.val k).isSome_eq;rw[Option.isSome_map]at q;rw[<- q,<- l];exact h _ (I.tok _)
theorem sC{h':No}{t':Nat}{ob:HO}(I:Inv X pins σ H s)(mu:FM (H a))(hs:OE a s.heap h')(he:∃ q,h'.get? a=some q)(new:ce X.prog X.w (bG H a ob) h' a ob):
  Inv X pins σ (bG H a ob) { s with heap:=h',toks:=t' }:=
 I.write (x:=a) (e:=a) mu (.inl rfl) (fun b q hb z=>(hs.2 b hb).trans z) he new
theorem JC{P:Nf}{w:Nn}{H':Hp}{h':No}{kvs:List (aM×V)}{vs:List (aM×MV)}(z:kvs.length<=M4)(hd:(a == NK)=false)(rel:KV kvs vs)(dd:h'.DictOf (bu P w) a vs):
  ce P w H' h' a (.dK kvs):=⟨z,hd,vs,rel,dd⟩
theorem Dv{H':Hp}{Q:Unit->MW->Prop}(hu:A.units+1 < NM)(I:Inv X pins σ H s)(g:Hz H a y v H')(ry:aN y u)(rv:aN v r)(h:∀ s',Inv X pins σ H' s'->Q () s'):
  M5 (M9 X.prog X.w) A (RY (.ref a) u r) Q E s:=by
 rcases g with ⟨kvs,k,e,ey,l,eH⟩|⟨kvs,k,b,e,ey,eb,l,eH⟩
 ·subst ey eH;obtain⟨z,hd,vs,rel,dd⟩:=KW I.hok e;have hz:vs.length<=M4:=by rw[<- rel.length];exact z
  have hl:(oY kvs k v).length<=M4:=by have:=rl kvs k v;omega
  refine wpAny_setItem_pairs (hsz:=hz) (wz ry) dd fun h' dd' hs=>h _ ?_;have he:∃ q,h'.get? a=some q:=let ⟨q,_,_,hq,_⟩:=dd';⟨q,hq⟩;exact sC I (by rw[e];exact True.intro) hs he (JC hl hd (rel.put k rv) dd')
 ·subst ey eH;cases (show u=Value.ref b from ry)
  obtain⟨z,hd,xs,rel,dd⟩:=KU I.hok e;have hz:xs.length<=M4:=by rw[<- Ph rel];exact z
  have hl:(oY kvs k v).length<=M4:=by have:=rl kvs k v;omega
  refine Ry (hsz:=hz) (NJ hu) (qH I.hok eb) dd fun h' dd' hs=>h _ ?_;obtain⟨q,es,ep,hq,h2,h3,h4,_,h5⟩:=dd';refine sC I (by rw[e];exact True.intro) hs ⟨q,hq⟩ ⟨hl,hd,_,(rel.put k eb rv).keeps fun c ys ec=>?_,q,es,ep,hq,h2,h3,h4,h5⟩
  rw[aB (KF ec e (fun z=>nomatch z))];exact ec
end
def Ll(i:Np):Prop:=∀ ov iv,QJ i false ov iv=operate [ov,iv] (PX ov iv)
theorem F4{prog:Nf}{w:Nn}{A:Nh}{E:MV->MW->Prop}{s:MW}{env:Env}{value slice:Np}{pos:Pos}{T id:String}{Q:MV->MW->Prop}
  (hl:Qr (.type T) "__getitem__"=pure (some (.builtin id))) (hs:Ll slice)
  (h:M5 (M9 prog w) A (eval value env) (fun o s₁=>M5 (M9 prog w) A (eval slice env) (fun i s₂=>s₂.TypeIs o T/\M5 (M9 prog w) A (PX o i) Q E s₂) E s₁) E s):
  M5 (M9 prog w) A (eval (.Subscript value slice pos) env) Q E s:=by
 refine RP (NR h (fun o s₁ h₁=>NR h₁ (fun i s₂ h₂=>?_) fun _ _ x=>x) fun _ _ x=>x);obtain⟨hT,h₂⟩:=h₂;unfold QZ;refine MT ?_;rw[getitemInPython_of_ne hT.not_modules];refine MT (wpAny_specialOf hT hl ?_);have fin:M5 (M9 prog w) A (QJ slice false o i) (fun r s₃=>M5 (M9 prog w) A (letTemporaryGo value o r >>= fun _=>pure r) Q E s₃) E s₂:=by
  rw[hs o i];exact wpAny_operating (NR h₂ (fun r s₃ h₃=>MT (wpAny_letTemporaryGo (MX h₃))) fun _ _ x=>x)
 first
  | exact MX (MT fin)
  | exact MT (MX (MT fin))
  | exact MT fin
theorem Fx{P:Nf}{w:Nn}{H:Hp}(h:No)(hb:NK < h.objs.size):ce P w H (h.push { cls:=.type "dict",data:=.dict #[] }) h.objs.size (.dK []):=
 ⟨NI _,beq_eq_false_iff_ne.mpr (Ne.symm (NB hb)),[],.nil,Heap.DictOf.new h⟩
def Is:TE:=fun _ H Q=>∀ p,H p=none->Q (.ref p) (bG H p (.dK []))
section
variable{X:Cx}{pos:Pos}
theorem ES:PE X (.Dict [] [] pos) Is:=fun pins s σ H Q I h=>
 wpAny_Dict_empty ⟨.ref s.heap.objs.size,_,I.laid (a:=s.heap.objs.size) (o:=.dK []) (t':=s.toks) (fun _ _ q=>M0 _ q) (le_refl _) (Fx s.heap I.big),rfl,h _ (I.hok.fresh (le_refl _))⟩
end
structure M2(X:Cx)(o:Np)(m:Str)(apos:Pos)(e f:Np)(cpos:Pos):Prop where
 base:Op o m X.env (eval o X.env)=eval o X.env
 few:((N9 cpos (M_ [e,f] X.env)).all (fun x=>!x.1) && (Pl cpos (Oz [] X.env)).all (fun x=>x.1.isSome)
  && decide (([e,f]:List Np).length+([]:List Qk).length+(if ([]:List Qk).isEmpty then 0 else 1) < 30))=true
 line:(apos.endLine == cpos.line)=true
 trees:N9 cpos (M_ [e,f] X.env)=[(false,eval e X.env),(false,eval f X.env)]
def MN(H:Hp)(a:MU):Prop:=(∃ kvs,Rd H a (.dK kvs))\/∃ kvs,Rd H a (.dT kvs)
theorem Jx{X:Cx}{pins:List (MU×Obj)}{σ:St}{H:Hp}{s:MW}{a:MU}(I:Inv X pins σ H s)(d:MN H a):
  s.TypeIs (.ref a) "dict"/\(∀ b,Value.ref a=.ref b->∃ ob,s.heap.get? b=some ob/\ob.dict=none)/\(a == NK)=false:=by
 rcases d with ⟨kvs,e⟩|⟨kvs,e⟩
 ·obtain⟨_,hd,vs,_,dd⟩:=wE I.hok e;refine⟨dd.typeIs,fun b q=>?_,hd⟩;cases q;obtain⟨ob,_,_,h1,h2,_⟩:=dd;exact⟨ob,h1,h2.2.1⟩
 ·obtain⟨_,hd,xs,_,dd⟩:=wD I.hok e;refine⟨dd.typeIs,fun b q=>?_,hd⟩;cases q;obtain⟨ob,_,_,h1,h2,_⟩:=dd;exact⟨ob,h1,h2.2.1⟩
section
variable{X:Cx}{pins:List (MU×Obj)}{σ:St}{H:Hp}{s:MW}{a:MU}{y d:V}{u r:MV}{o:Option V}{A:Nh}{E:MV->MW->Prop}
theorem JE{Q:MV->MW->Prop}(hu:A.units+1 < NM)(I:Inv X pins σ H s)(g:yN H a y o)(ry:aN y u)(rd:aN d r)(h:∀ w' s',Inv X pins σ H s'->aN (o.getD d) w'->Q w' s'):
  M5 (M9 X.prog X.w) A (call (.builtin "dict.get") [.ref a,u,r]) Q E s:=by
 rcases g with ⟨kvs,k,e,ey,l⟩|⟨kvs,k,b,e,ey,eb,l⟩
 ·subst ey;obtain⟨z,hd,vs,rel,dd⟩:=wE I.hok e;refine QA PySem.F.slot_dict_get dd.typeIs PySem.F.entry_dict_get (PySem.F.args_dict_get_3 _ _ _) (meets_dict_get_default (bu X.prog X.w) a (wz ry) hd r) ⟨_,dd.mapOf,h _ _ (I.tok _) ?_⟩;rw[l];exact (rel.val k).getD rd
 ·subst ey;cases (show u=Value.ref b from ry)
  obtain⟨z,hd,xs,rel,dd⟩:=wD I.hok e;refine QA PySem.F.slot_dict_get dd.typeIs PySem.F.entry_dict_get (PySem.F.args_dict_get_3 _ _ _) (Q2 (N6 (bu X.prog X.w)) a b hd r) ⟨NJ hu,k,xs,qH I.hok eb,dd,h _ _ (I.tok _) ?_⟩;rw[l];exact (rel.val k).getD rd
end
end L2
namespace L3
open PySem PySem.Spec PyProof.Rows L2
abbrev St:=L2.St
inductive D where
 | non|bl (b:Bool)|int (i:Int)|str (x:Str)|tup (ds:List D)|lst (ds:List D)|fl (ds:List D)|ref (a:MU)|ty (n:String)
inductive GO where
 | lst (ds:List D)
 | ins (C:MU) (L:List Str) (ds:List D)
 | dK (kvs:List (aM×D))
 | dT (hw:List aM->Int) (kvs:List (List aM×D))
abbrev Gp:=MU->Option GO
def gset(G:Gp)(a:MU)(o:GO):Gp:=fun b=>if b=a then some o else G b
def gO(G:Gp)(a:MU):Gp:=fun b=>if b=a then none else G b
theorem aA{G:Gp}{a:MU}{o:GO}:gset G a o a=some o:=by unfold gset;rw[if_pos rfl]
theorem al{G:Gp}{a b:MU}{o:GO}(h:b≠a):gset G a o b=G b:=by unfold gset;rw[if_neg h]
theorem ff{G:Gp}{a:MU}{o u:GO}:gset (gset G a o) a u=gset G a u:=by
 funext b;unfold gset;split<;>rfl
theorem fg{G:Gp}{a:MU}:gO G a a=none:=by unfold gO;rw[if_pos rfl]
theorem fh{G:Gp}{a b:MU}(h:b≠a):gO G a b=G b:=by unfold gO;rw[if_neg h]
def FN(K:PySem.W.Frag)(H:Hp)(a:MU)(xs:List V):Prop:=
 (∃ o,H a=some (.frz o (.lst xs)))\/
  ∃ (o:Obj) (its:Array MV) (n:Nat),K.lookup a=some o/\o.cls=.type "list"/\o.dict=none/\o.data=.seq its n/\its.size<=M4/\Vals xs its.toList
theorem FN.sq{K:PySem.W.Frag}{H:Hp}{a:MU}{xs:List V}(h:FN K H a xs):kP K H a xs:=by
 rcases h with ⟨o,e⟩|h
 ·exact .inl (.inr ⟨o,e⟩)
 ·exact .inr h
mutual
def RD(K:PySem.W.Frag)(H:Hp):D->V->Prop
 | .non,v=>v=.non
 | .bl b,v=>v=.bl b
 | .int i,v=>v=.int i
 | .str x,v=>v=.str x
 | .ref a,v=>v=.ref a
 | .ty n,v=>v=.ty n
 | .fl _,_=>False
 | .tup ds,v=>∃ a xs,v=.ref a/\kT K H a xs/\RDs K H ds xs
 | .lst ds,v=>∃ a xs,v=.ref a/\FN K H a xs/\RDs K H ds xs
def RDs(K:PySem.W.Frag)(H:Hp):List D->List V->Prop
 | [],xs=>xs=[]
 | d::ds,xs=>∃ x r,xs=x::r/\RD K H d x/\RDs K H ds r
end
structure Stb(K:PySem.W.Frag)(H H':Hp):Prop where
 t:∀ a xs,kT K H a xs->kT K H' a xs
 l:∀ a xs,FN K H a xs->FN K H' a xs
mutual
theorem RD.mono{K:PySem.W.Frag}{H H':Hp}(s:Stb K H H'):∀ (d:D) (v:V),RD K H d v->RD K H' d v
 | .non,v,h=>by simp only[RD]at h ⊢;exact h
 | .bl b,v,h=>by simp only[RD]at h ⊢;exact h
 | .int i,v,h=>by simp only[RD]at h ⊢;exact h
 | .str x,v,h=>by simp only[RD]at h ⊢;exact h
 | .ref a,v,h=>by simp only[RD]at h ⊢;exact h
 | .ty n,v,h=>by simp only[RD]at h ⊢;exact h
 | .fl _,v,h=>by simp only[RD]at h
 | .tup ds,v,h=>by
  simp only[RD]at h ⊢;obtain⟨a,xs,e,q,r⟩:=h;exact⟨a,xs,e,s.t _ _ q,RDs.mono s ds xs r⟩
 | .lst ds,v,h=>by
  simp only[RD]at h ⊢;obtain⟨a,xs,e,q,r⟩:=h;exact⟨a,xs,e,s.l _ _ q,RDs.mono s ds xs r⟩
theorem RDs.mono{K:PySem.W.Frag}{H H':Hp}(s:Stb K H H'):∀ (ds:List D) (xs:List V),RDs K H ds xs->RDs K H' ds xs
 | [],xs,h=>by simp only[RDs]at h ⊢;exact h
 | d::ds,xs,h=>by
  simp only[RDs]at h ⊢;obtain⟨x,r,e,h1,h2⟩:=h;exact⟨x,r,e,RD.mono s d x h1,RDs.mono s ds r h2⟩
end
section
variable{K:PySem.W.Frag}{H:Hp}
theorem RDs.nil:RDs K H [] []:=by simp only[RDs]
theorem RDs.cons{d:D}{x:V}{ds:List D}{xs:List V}(h:RD K H d x)(t:RDs K H ds xs):RDs K H (d::ds) (x::xs):=by
 simp only[RDs];exact⟨x,xs,rfl,h,t⟩
theorem RDs.inv_nil{xs:List V}(h:RDs K H [] xs):xs=[]:=by simpa only[RDs]using h
theorem RDs.inv_cons{d:D}{ds:List D}{xs:List V}(h:RDs K H (d::ds) xs):∃ x r,xs=x::r/\RD K H d x/\RDs K H ds r:=by simpa only[RDs]using h
theorem RDs.length:∀ {ds:List D} {xs:List V},RDs K H ds xs->ds.length=xs.length
 | [],xs,h=>by rw[h.inv_nil];rfl
 | d::ds,xs,h=>by
  obtain⟨x,r,e,_,h2⟩:=h.inv_cons;subst e;simp[RDs.length h2]
theorem RDs.get:∀ {ds:List D} {xs:List V} {i:Nat} {d:D},RDs K H ds xs->ds[i]?=some d->∃ x,xs[i]?=some x/\RD K H d x
 | [],xs,i,d,h,e=>by simp at e
 | c::ds,xs,0,d,h,e=>by
  obtain⟨x,r,e1,h1,h2⟩:=h.inv_cons;subst e1;simp at e;subst e;exact⟨x,rfl,h1⟩
 | c::ds,xs,i+1,d,h,e=>by
  obtain⟨x,r,e1,h1,h2⟩:=h.inv_cons;subst e1;obtain⟨y,q1,q2⟩:=RDs.get (i:=i) (d:=d) h2 (by simpa using e)
  exact⟨y,by simpa using q1,q2⟩
theorem RDs.append:∀ {ds es:List D} {xs ys:List V},RDs K H ds xs->RDs K H es ys->RDs K H (ds ++ es) (xs ++ ys)
 | [],es,xs,ys,h,h'=>by rw[h.inv_nil];exact h'
 | d::ds,es,xs,ys,h,h'=>by
  obtain⟨x,r,e,h1,h2⟩:=h.inv_cons;subst e;exact RDs.cons h1 (RDs.append h2 h')
theorem RDs.take:∀ {ds:List D} {xs:List V} (n:Nat),RDs K H ds xs->RDs K H (ds.take n) (xs.take n)
 | _,_,0,_=>by simp only[List.take_zero];exact RDs.nil
 | [],xs,n+1,h=>by rw[h.inv_nil];simp only[List.take_nil];exact RDs.nil
 | d::ds,xs,n+1,h=>by
  obtain⟨x,r,e,h1,h2⟩:=h.inv_cons;subst e;exact RDs.cons h1 (RDs.take n h2)
theorem RDs.drop:∀ {ds:List D} {xs:List V} (n:Nat),RDs K H ds xs->RDs K H (ds.drop n) (xs.drop n)
 | _,_,0,h=>by simpa only[PQ]using h
 | [],xs,n+1,h=>by rw[h.inv_nil];simp only[List.drop_nil];exact RDs.nil
 | d::ds,xs,n+1,h=>by
  obtain⟨x,r,e,h1,h2⟩:=h.inv_cons;subst e;exact RDs.drop n h2
theorem RDs.set:∀ {ds:List D} {xs:List V} {d:D} {x:V} (n:Nat),RDs K H ds xs->RD K H d x->RDs K H (ds.set n d) (xs.set n x)
 | [],xs,d,x,n,h,_=>by rw[h.inv_nil];simp only[List.set_nil];exact RDs.nil
 | c::ds,xs,d,x,0,h,h'=>by
  obtain⟨y,r,e,h1,h2⟩:=h.inv_cons;subst e;exact RDs.cons h' h2
 | c::ds,xs,d,x,n+1,h,h'=>by
  obtain⟨y,r,e,h1,h2⟩:=h.inv_cons;subst e;exact RDs.cons h1 (RDs.set n h2 h')
theorem RDs.ints:∀ ns:List Int,RDs K H (ns.map D.int) (ns.map V.int)
 | []=>RDs.nil
 | n::r=>RDs.cons (by simp only[RD]) (RDs.ints r)
theorem RDs.strs:∀ ns:List Str,RDs K H (ns.map D.str) (ns.map V.str)
 | []=>RDs.nil
 | n::r=>RDs.cons (by simp only[RD]) (RDs.strs r)
theorem RDs.strs_inv:∀ (ns:List Str) {xs:List V},RDs K H (ns.map D.str) xs->xs=ns.map V.str
 | [],xs,h=>h.inv_nil
 | n::r,xs,h=>by
  obtain⟨x,t,e,h1,h2⟩:=RDs.inv_cons (d:=.str n) (ds:=r.map D.str) h;simp only[RD]at h1;subst e h1;rw[RDs.strs_inv r h2];rfl
end
def yP(hw:List aM->Int)(a:MU)(xs:List (List aM×MU×MV)):No->Prop:=fun h=>(a == NK)=false/\∃ o es ep,h.get? a=some o/\o.ExactDict/\o.data=.dict es ep/\es.toList=xs.map fun x=>(⟨hw x.1,.ref x.2.1,x.2.2⟩:DictEntry)
def pR(K:PySem.W.Frag)(H:Hp):List (List aM×D)->List (List aM×MU×MV)->Prop:=PM fun p q=>p.1=q.1/\kT K H q.2.1 (p.1.map kV)/\∃ v,RD K H p.2 v/\aN v q.2.2
def Az(K:PySem.W.Frag)(H:Hp):List (aM×D)->List (aM×V)->Prop:=PM fun p q=>p.1=q.1/\RD K H p.2 q.2
def RO(K:PySem.W.Frag)(H:Hp)(a:MU):GO->HO->Prop
 | .lst ds,.lst xs=>RDs K H ds xs
 | .ins C L ds,.ins C' _ gs=>C'=C/\gs.map (·.1)=L/\RDs K H ds (gs.map (·.2))
 | .dK kvs,.dK hs=>Az K H kvs hs
 | .dT hw kvs,.ext φ=>∃ xs,φ=yP hw a xs/\pR K H kvs xs/\(kvs.map (·.1)).Nodup/\kvs.length<=M4
 | _,_=>False
def RG(K:PySem.W.Frag)(H:Hp)(G:Gp):Prop:=∀ a o,G a=some o->∃ h,H a=some h/\RO K H a o h
def Kp(G:Gp)(H:Hp)(G':Gp)(H':Hp):Prop:=∀ a h,H a=some h->G a=none->H' a=some h/\G' a=none
def JW(G:Gp)(H:Hp)(p:MU):Prop:=∀ h,H p=some h->G p≠none
section
variable{K:PySem.W.Frag}{H H' H1 H2:Hp}{G G' G1 G2:Gp}{p:MU}
theorem pR.mono(s:Stb K H H'){kvs:List (List aM×D)}{xs:List (List aM×MU×MV)}(r:pR K H kvs xs):pR K H' kvs xs:=Paired.mapP r fun _ _ zz=>by
 obtain⟨a,b,v,c,d⟩:=zz;exact (
  ⟨a,s.t _ _ b,v,RD.mono s _ _ c,d⟩)
theorem Az.mono(s:Stb K H H'){kvs:List (aM×D)}{xs:List (aM×V)}(r:Az K H kvs xs):Az K H' kvs xs:=Paired.mapP r fun _ _ zz=>by
 obtain⟨a,b⟩:=zz;exact (
  ⟨a,RD.mono s _ _ b⟩)
theorem RO.mono(s:Stb K H H'){a:MU}{o:GO}{h:HO}(r:RO K H a o h):RO K H' a o h:=by
 cases o<;>cases h<;>first
  | exact r.elim
  | exact RDs.mono s _ _ r
  | exact⟨r.1,r.2.1,RDs.mono s _ _ r.2.2⟩
  | exact Az.mono s r
  | (obtain⟨xs,e,q,n⟩:=r;exact⟨xs,e,q.mono s,n⟩)
theorem RG.none_of(rg:RG K H G){a:MU}{h:HO}(e:H a=some h)(n:∀ o,¬ RO K H a o h):G a=none:=by
 cases q:G a with
 | none=>rfl
 | some o=>
  obtain⟨h',e',r⟩:=rg a o q;rw[e]at e';cases e';exact absurd r (n o)
theorem RG.free(rg:RG K H G)(e:H p=none):G p=none:=by
 cases q:G p with
 | none=>rfl
 | some o=>
  obtain⟨h',e',r⟩:=rg p o q;rw[e]at e';cases e'
theorem Jf{a:MU}(o:GO)(xs:List V):¬ RO K H a o (.tup xs):=by cases o<;>exact id
theorem E2{a:MU}(o:GO)(ob:Obj)(u:HO):¬ RO K H a o (.frz ob u):=by cases o<;>exact id
theorem Kp.refl:Kp G H G H:=fun _ _ e n=>⟨e,n⟩
theorem Kp.trans(a:Kp G H G1 H1)(b:Kp G1 H1 G2 H2):Kp G H G2 H2:=fun x h e n=>b x h (a x h e n).1 (a x h e n).2
theorem Kp.stb(k:Kp G H G' H')(rg:RG K H G):Stb K H H' where
 t:=fun a xs q=>by
  rcases q with (q|⟨o,q⟩)|q
  ·exact .inl (.inl (k a _ q (rg.none_of q fun o=>Jf o xs)).1)
  ·exact .inl (.inr ⟨o,(k a _ q (rg.none_of q fun o'=>E2 o' o _)).1⟩)
  ·exact .inr q
 l:=fun a xs q=>by
  rcases q with ⟨o,q⟩|q
  ·exact .inl ⟨o,(k a _ q (rg.none_of q fun o'=>E2 o' o _)).1⟩
  ·exact .inr q
theorem Kp.fr(k:Kp G H G1 H1)(f:JW G1 H1 p):JW G H p:=fun h e n=>f h (k p h e n).1 (k p h e n).2
theorem sy(e:H p=none):JW G H p:=fun h q=>by rw[e]at q;cases q
theorem Kp.laid{o:HO}(e:H p=none):Kp G H G (bG H p o):=fun a h q n=>⟨by rw[aB (bW q e)];exact q,n⟩
theorem RG.laid{o:HO}(rg:RG K H G)(e:H p=none):RG K (bG H p o) G:=fun a o' q=>by
 obtain⟨h,e1,r⟩:=rg a o' q;exact⟨h,by rw[aB (bW e1 e)];exact e1,r.mono ((Kp.laid (G:=G) e).stb rg)⟩
end
abbrev gv:=List (Option D)
def DM(K:PySem.W.Frag)(H:Hp):Option D->Option V->Prop
 | some d,some v=>RD K H d v
 | none,_=>True
 | some _,none=>False
def RS(K:PySem.W.Frag)(H:Hp)(σ:gv)(τ:St):Prop:=PM (DM K H) σ τ
section
variable{K:PySem.W.Frag}{H H':Hp}
theorem DM.mono(s:Stb K H H'):∀ {a:Option D} {b:Option V},DM K H a b->DM K H' a b
 | some d,some v,r=>RD.mono s d v r
 | none,_,_=>trivial
 | some _,none,r=>r.elim
theorem RS.mono(s:Stb K H H'){σ:gv}{τ:St}(r:RS K H σ τ):RS K H' σ τ:=Paired.mapP r fun _ _ q=>q.mono s
theorem RS.get:∀ {σ:gv} {τ:St} {i:Nat} {d:D},RS K H σ τ->σ[i]?=some (some d)->∃ v,τ[i]?=some (some v)/\RD K H d v
 | _,_,_,_,.nil,e=>by simp at e
 | _,_,0,d,.cons (b:=b) r _,e=>by
  simp at e;subst e;cases b with
  | none=>exact r.elim
  | some v=>exact⟨v,rfl,r⟩
 | _,_,i+1,d,.cons _ t,e=>by
  obtain⟨v,h1,h2⟩:=RS.get (i:=i) (d:=d) t (by simpa using e)
  exact⟨v,by simpa using h1,h2⟩
theorem RS.set{d:D}{v:V}(r:RD K H d v):∀ {σ:gv} {τ:St} (i:Nat),RS K H σ τ->RS K H (σ.set i (some d)) (τ.set i (some v))
 | _,_,_,.nil=>.nil
 | _,_,0,.cons _ t=>.cons (show DM K H (some d) (some v)from r) t
 | _,_,i+1,.cons q t=>.cons q (RS.set r i t)
end
def RE(K:PySem.W.Frag)(G:Gp)(H:Hp)(G':Gp)(H':Hp)(d:D)(v:V):Prop:=
 (∃ ds p xs,d=.fl ds/\v=.ref p/\H' p=some (.lst xs)/\G' p=none/\RDs K H' ds xs/\JW G H p)\/RD K H' d v
section
variable{K:PySem.W.Frag}{H H' H1 H2:Hp}{G G' G1 G2:Gp}{d:D}{v:V}
theorem RE.of(r:RD K H' d v):RE K G H G' H' d v:=.inr r
theorem RE.wait(r:RE K G H G1 H1 d v)(k:Kp G1 H1 G2 H2)(rg:RG K H1 G1):RE K G H G2 H2 d v:=by
 rcases r with ⟨ds,p,xs,e1,e2,e3,e4,e5,e6⟩|r
 ·exact .inl ⟨ds,p,xs,e1,e2,(k p _ e3 e4).1,(k p _ e3 e4).2,RDs.mono (k.stb rg) _ _ e5,e6⟩
 ·exact .inr (RD.mono (k.stb rg) _ _ r)
theorem RE.base(r:RE K G1 H1 G2 H2 d v)(k:Kp G H G1 H1):RE K G H G2 H2 d v:=by
 rcases r with ⟨ds,p,xs,e1,e2,e3,e4,e5,e6⟩|r
 ·exact .inl ⟨ds,p,xs,e1,e2,e3,e4,e5,k.fr e6⟩
 ·exact .inr r
theorem RE.rd(r:RE K G H G' H' d v)(h:∀ ds,d≠.fl ds):RD K H' d v:=by
 rcases r with ⟨ds,p,xs,e1,_⟩|r
 ·exact absurd e1 (h ds)
 ·exact r
theorem RE.int{i:Int}(r:RE K G H G' H' (.int i) v):v=.int i:=by
 have:=r.rd (by intro ds h;cases h);simpa only[RD]using this
theorem RE.str{i:Str}(r:RE K G H G' H' (.str i) v):v=.str i:=by
 have:=r.rd (by intro ds h;cases h);simpa only[RD]using this
theorem RE.bl{i:Bool}(r:RE K G H G' H' (.bl i) v):v=.bl i:=by
 have:=r.rd (by intro ds h;cases h);simpa only[RD]using this
theorem RE.non(r:RE K G H G' H' .non v):v=.non:=by
 have:=r.rd (by intro ds h;cases h);simpa only[RD]using this
theorem RE.ref{a:MU}(r:RE K G H G' H' (.ref a) v):v=.ref a:=by
 have:=r.rd (by intro ds h;cases h);simpa only[RD]using this
theorem RE.tup{ds:List D}(r:RE K G H G' H' (.tup ds) v):∃ a xs,v=.ref a/\kT K H' a xs/\RDs K H' ds xs:=by
 have:=r.rd (by intro ds h;cases h);simpa only[RD]using this
theorem RE.lst{ds:List D}(r:RE K G H G' H' (.lst ds) v):∃ a xs,v=.ref a/\FN K H' a xs/\RDs K H' ds xs:=by
 have:=r.rd (by intro ds h;cases h);simpa only[RD]using this
theorem RE.fl{ds:List D}(r:RE K G H G' H' (.fl ds) v):∃ p xs,v=.ref p/\H' p=some (.lst xs)/\G' p=none/\RDs K H' ds xs/\JW G H p:=by
 rcases r with ⟨ds',p,xs,e1,e2,e3,e4,e5,e6⟩|r
 ·cases e1;exact⟨p,xs,e2,e3,e4,e5,e6⟩
 ·simp only[RD]at r
theorem eT{i:Int}:RD K H (.int i) (.int i):=by simp only[RD]
theorem kB{i:Str}:RD K H (.str i) (.str i):=by simp only[RD]
theorem iB{i:Bool}:RD K H (.bl i) (.bl i):=by simp only[RD]
theorem xn:RD K H .non .non:=by simp only[RD]
theorem iu{a:MU}:RD K H (.ref a) (.ref a):=by simp only[RD]
theorem qi{ds:List D}{xs:List V}{a:MU}(h:kT K H a xs)(r:RDs K H ds xs):RD K H (.tup ds) (.ref a):=by
 simp only[RD];exact⟨a,xs,rfl,h,r⟩
theorem tF{ds:List D}{xs:List V}{a:MU}(h:FN K H a xs)(r:RDs K H ds xs):RD K H (.lst ds) (.ref a):=by
 simp only[RD];exact⟨a,xs,rfl,h,r⟩
end
def yJ(G:Gp):D->Option (List D)
 | .lst ds=>some ds
 | .fl ds=>some ds
 | .ref a=>match G a with
  | some (.lst ds)=>some ds
  | _=>none
 | _=>none
def FP(G:Gp):D->Option (List D)
 | .tup ds=>some ds
 | d=>yJ G d
section
variable{K:PySem.W.Frag}{H H':Hp}{G G':Gp}{d:D}{v:V}{ds:List D}
theorem n_(h:yJ G' d=some ds)(r:RE K G H G' H' d v)(rg:RG K H' G'):∃ a xs,v=.ref a/\kP K H' a xs/\RDs K H' ds xs:=by
 cases d with
 | lst es=>
  obtain⟨a,xs,e,f,q⟩:=r.lst;simp only[yJ,Option.some.injEq]at h;subst h;exact⟨a,xs,e,f.sq,q⟩
 | fl es=>
  obtain⟨a,xs,e,f,_,q,_⟩:=r.fl;simp only[yJ,Option.some.injEq]at h;subst h;exact⟨a,xs,e,kP.of f,q⟩
 | ref a=>
  have e:=r.ref;simp only[yJ]at h;cases q:G' a with
  | none=>rw[q]at h;cases h
  | some o=>
   rw[q]at h;cases o with
   | ins _ _ _=>cases h
   | dK _=>cases h
   | dT _ _=>cases h
   | lst es=>
    simp only[Option.some.injEq]at h;subst h;obtain⟨ho,e1,e2⟩:=rg a _ q;cases ho with
    | lst xs=>exact⟨a,xs,e,kP.of e1,e2⟩
    | _=>exact e2.elim
 | _=>simp[yJ]at h
theorem uJ(h:FP G' d=some ds)(r:RE K G H G' H' d v)(rg:RG K H' G'):∃ a xs,v=.ref a/\(kP K H' a xs\/kT K H' a xs)/\RDs K H' ds xs:=by
 cases d with
 | tup es=>
  obtain⟨a,xs,e,f,q⟩:=r.tup;simp only[FP,Option.some.injEq]at h;subst h;exact⟨a,xs,e,.inr f,q⟩
 | _=>
  obtain⟨a,xs,e,f,q⟩:=n_ (by simpa only[FP]using h) r rg
  exact⟨a,xs,e,.inl f,q⟩
theorem yr{xs:List V}{p:MU}(rg:RG K H G)(e:H p=none)(r:RDs K H ds xs):RE K G H G (bG H p (.lst xs)) (.fl ds) (.ref p):=
 .inl ⟨ds,p,xs,rfl,rfl,aX,rg.free e,RDs.mono ((Kp.laid (G:=G) e).stb rg) _ _ r,sy e⟩
theorem ow{xs:List V}{p:MU}(rg:RG K H G)(e:H p=none)(r:RDs K H ds xs):RD K (bG H p (.tup xs)) (.tup ds) (.ref p):=
 qi (kT.of aX) (RDs.mono ((Kp.laid (G:=G) e).stb rg) _ _ r)
end
end L3
namespace L2
open PySem PySem.Spec PyProof.Rows
section
variable{X:Cx}
theorem PE.imp{e:Np}{t t':TE}(h:PE X e t)(i:∀ σ H Q,t' σ H Q->t σ H Q):PE X e t':=fun pins s σ H Q I q=>h pins s σ H Q I (i σ H Q q)
theorem PT.imp{e:Np}{t t':TT}(h:PT X e t)(i:∀ σ H Q,t' σ H Q->t σ H Q):PT X e t':=fun pins s σ H Q I q=>h pins s σ H Q I (i σ H Q q)
theorem PW.imp{e:Np}{t t':TT}(h:PW X e t)(i:∀ σ H Q,t' σ H Q->t σ H Q):PW X e t':=fun wh pins s σ H Q I q=>h wh pins s σ H Q I (i σ H Q q)
theorem PA.imp{es:List Np}{t t':TA}(h:PA X es t)(i:∀ σ H Q,t' σ H Q->t σ H Q):PA X es t':=fun pos pins s σ H Q I q=>h pos pins s σ H Q I (i σ H Q q)
theorem PS.imp{e:Nu}{t t':TS}(h:PS X e t)(i:∀ D σ H,t' D σ H->t D σ H):PS X e t':=fun pins s σ H D I q=>h pins s σ H D I (i D σ H q)
theorem rF.imp{e:List Nu}{t t':TS}(h:rF X e t)(i:∀ D σ H,t' D σ H->t D σ H):rF X e t':=fun pins s σ H D I q=>h pins s σ H D I (i D σ H q)
theorem iS.imp{f:MV->MV->Sem MV}{r r':R2}(h:iS X f r)(i:∀ x y H Q,r' x y H Q->r x y H Q):iS X f r':=fun pins s σ H x y v u Q I rx ry q=>h pins s σ H x y v u Q I rx ry (i x y H Q q)
theorem d4.imp{f:MV}{r r':List V->Hp->VK->Prop}(h:d4 X f r)(i:∀ xs H Q,r' xs H Q->r xs H Q):d4 X f r':=fun pins s σ H xs us Q I r q=>h pins s σ H xs us Q I r (i xs H Q q)
theorem DG.imp{r r':V->Option Int->Option Int->Hp->VK->Prop}(h:DG X r)(i:∀ x lo hi H Q,r' x lo hi H Q->r x lo hi H Q):DG X r':=fun pins s σ H x v vl vu lo hi sl Q I rx hs pl pu q=>h pins s σ H x v vl vu lo hi sl Q I rx hs pl pu (i x lo hi H Q q)
theorem DI.imp{r r':R2}(h:DI X r)(i:∀ x y H Q,r' x y H Q->r x y H Q):DI X r':=fun value slice pins s σ H x y v u Q I rx ry q hs=>h value slice pins s σ H x y v u Q I rx ry (i x y H Q q) hs
theorem Inv.freeze{pins:List (MU×Obj)}{σ:St}{H:Hp}{s:MW}{p:MU}{xs:List V}(I:Inv X pins σ H s)(e:H p=some (.lst xs)):∃ o,Inv X pins σ (bG H p (.frz o (.lst xs))) s:=by
 obtain⟨its,n,rv,ho,hz⟩:=I.lst e;have stay:∀ b,H b=none->(bG H p (.frz { cls:=.type "list",data:=.seq its.toArray n } (.lst xs))) b=none:=fun b hb=>by
  rw[aB (fun z=>by subst z;rw[hb]at e;cases e)];exact hb
 refine⟨{ cls:=.type "list",data:=.seq its.toArray n },⟨I.ok,I.os,I.bare,⟨I.base.keep,I.base.slot,fun b o h1 h2 h3=>stay b (I.base.free b o h1 h2 h3),I.base.there,fun b ys q=>?_,fun b o u q=>?_,fun b ps q=>?_⟩,I.loc,I.cell,stay _ I.free,fun x c hc=>stay c (I.freeC x c hc),fun q hq=>?_,fun b u q=>?_,I.len⟩⟩
 ·have q':=I.base.tups b ys q;rw[aB (fun z=>by subst z;rw[e]at q';cases q')];exact q'
 ·have q':=I.base.frzs b o u q;rw[aB (fun z=>by subst z;rw[e]at q';cases q')];exact q'
 ·obtain⟨more,q'⟩:=I.base.tbls b ps q;exact⟨more,by rw[aB (fun z=>by subst z;rw[e]at q';cases q')];exact q'⟩
 ·obtain⟨h1,h2,h3⟩:=I.pin q hq;exact⟨h1,stay _ h2,h3⟩
 ·by_cases hb:b=p
  ·subst hb;rw[aX]at q;cases q;exact⟨ho,hz,its,n,rv,ho⟩
  ·rw[aB hb]at q;refine (I.hok b u q).stay (fun _ _ _ z=>z) (fun c z=>?_) fun c ys z=>?_
   ·rw[aB (fun y=>by subst y;rw[e]at z;cases z)];exact z
   ·rw[aB (fun y=>by subst y;rw[e]at z;cases z)];exact z
def gh(t:TE):TE:=fun σ H Q=>t σ H fun v H1=>Q v H1\/∃ p xs,v=.ref p/\H1 p=some (.lst xs)/\∀ o,Q v (bG H1 p (.frz o (.lst xs)))
theorem Ku{e:Np}{t:TE}(h:PE X e t):PE X e (gh t):=fun pins s σ H Q I q=>
 cY (h pins s σ H _ I q) fun u s' zz=>by
  obtain⟨v,H',I',r,q'⟩:=zz;rcases q' with q'|⟨p,xs,rfl,e,q'⟩
  ·exact⟨v,H',I',r,q'⟩
  ·obtain⟨o,I2⟩:=I'.freeze e;exact⟨.ref p,_,I2,r,q' o⟩
end
end L2
namespace L3
open PySem PySem.Spec PyProof.Rows L2
abbrev oa:=D->Gp->Prop
abbrev bJ:=gv->Gp->oa->Prop
abbrev pP:=gv->Gp->(Bool->Gp->Prop)->Prop
abbrev pQ:=gv->Gp->(List D->Gp->Prop)->Prop
set_option genInjectivity false in
structure Ends3 where
 nx:gv->Gp->Prop
 rt:oa
 bk:gv->Gp->Prop:=fun _ _=>False
 ct:gv->Gp->Prop:=fun _ _=>False
abbrev cj:=Ends3->gv->Gp->Prop
def uL(K:PySem.W.Frag)(G:Gp)(H:Hp)(Q3:oa)(Q:VK):Prop:=∀ d G' v H',Q3 d G'->Kp G H G' H'->RG K H' G'->RE K G H G' H' d v->Q v H'
def aJ(K:PySem.W.Frag)(t:bJ):TE:=fun τ H Q=>∃ σ G Q3,RS K H σ τ/\RG K H G/\t σ G Q3/\uL K G H Q3 Q
def dY(K:PySem.W.Frag)(t:pP):TT:=fun τ H Q=>∃ σ G Q3,RS K H σ τ/\RG K H G/\t σ G Q3/\∀ b G' H',Q3 b G'->Kp G H G' H'->RG K H' G'->Q b H'
def fC(K:PySem.W.Frag)(t:pQ):TA:=fun τ H Q=>∃ σ G Q3,RS K H σ τ/\RG K H G/\t σ G Q3/\∀ ds G' vs H',Q3 ds G'->Kp G H G' H'->RG K H' G'->RDs K H' ds vs->Q vs H'
structure EndsOk(K:PySem.W.Frag)(G:Gp)(H:Hp)(D3:Ends3)(D:Ends):Prop where
 nx:∀ σ G' τ H',D3.nx σ G'->Kp G H G' H'->RG K H' G'->RS K H' σ τ->D.nx τ H'
 rt:uL K G H D3.rt D.rt
 bk:∀ σ G' τ H',D3.bk σ G'->Kp G H G' H'->RG K H' G'->RS K H' σ τ->D.bk τ H'
 ct:∀ σ G' τ H',D3.ct σ G'->Kp G H G' H'->RG K H' G'->RS K H' σ τ->D.ct τ H'
def cL(K:PySem.W.Frag)(t:cj):TS:=fun D τ H=>∃ σ G D3,RS K H σ τ/\RG K H G/\t D3 σ G/\EndsOk K G H D3 D
theorem uL.base{K:PySem.W.Frag}{G G1:Gp}{H H1:Hp}{Q3:oa}{Q:VK}(f:uL K G H Q3 Q)(k:Kp G H G1 H1):uL K G1 H1 Q3 Q:=
 fun d G' v H' q k' rg re=>f d G' v H' q (k.trans k') rg (re.base k)
theorem EndsOk.base{K:PySem.W.Frag}{G G1:Gp}{H H1:Hp}{D3:Ends3}{D:Ends}(f:EndsOk K G H D3 D)(k:Kp G H G1 H1):EndsOk K G1 H1 D3 D:=
 ⟨fun σ G' τ H' q k'=>f.nx σ G' τ H' q (k.trans k'),f.rt.base k,fun σ G' τ H' q k'=>f.bk σ G' τ H' q (k.trans k'),fun σ G' τ H' q k'=>f.ct σ G' τ H' q (k.trans k')⟩
def val:D->D
 | .fl ds=>.lst ds
 | d=>d
def wx(K:PySem.W.Frag)(t:bJ):TE:=fun τ H Q=>∃ σ G Q3,RS K H σ τ/\RG K H G/\t σ G Q3/\∀ d G' v H',Q3 d G'->Kp G H G' H'->RG K H' G'->RD K H' (val d) v->Q v H'
section
variable{X:Cx}{e:Np}{t:bJ}
theorem Fp{K:PySem.W.Frag}{G G':Gp}{H H':Hp}{p:MU}{o:HO}(k:Kp G H G' H')(f:JW G H p):Kp G H G' (bG H' p o):=fun a h e n=>by
 have:a≠p:=fun z=>by subst z;exact f h e n
 exact⟨by rw[aB this];exact (k a h e n).1,(k a h e n).2⟩
theorem Fo{K:PySem.W.Frag}{G':Gp}{H':Hp}{p:MU}{xs:List V}{o:Obj}(rg:RG K H' G')(e:H' p=some (.lst xs))(n:G' p=none):RG K (bG H' p (.frz o (.lst xs))) G'/\Stb K H' (bG H' p (.frz o (.lst xs))):=by
 have st:Stb K H' (bG H' p (.frz o (.lst xs))):=by
  constructor
  ·intro a ys q;rcases q with (q|⟨ob,q⟩)|q
   ·exact .inl (.inl (by rw[aB (fun z=>by subst z;rw[e]at q;cases q)];exact q))
   ·exact .inl (.inr ⟨ob,by rw[aB (fun z=>by subst z;rw[e]at q;cases q)];exact q⟩)
   ·exact .inr q
  ·intro a ys q;rcases q with ⟨ob,q⟩|q
   ·exact .inl ⟨ob,by rw[aB (fun z=>by subst z;rw[e]at q;cases q)];exact q⟩
   ·exact .inr q
 refine⟨fun a o' q=>?_,st⟩;obtain⟨h,e1,r⟩:=rg a o' q;exact⟨h,by rw[aB (fun z=>by subst z;rw[n]at q;cases q)];exact e1,r.mono st⟩
theorem d9(h:PE X e (aJ X.K t)):PE X e (wx X.K t):=(Ku h).imp fun τ H Q zz=>by
 obtain⟨σ,G,Q3,rs,rg,ht,hk⟩:=zz;refine⟨σ,G,Q3,rs,rg,ht,fun d G' v H' q k rg' re=>?_⟩;cases d with
 | fl ds=>
  obtain⟨p,xs,rfl,e1,e2,e3,e4⟩:=re.fl;refine .inr ⟨p,xs,rfl,e1,fun o=>?_⟩;obtain⟨rg2,st⟩:=Fo (o:=o) rg' e1 e2;exact hk _ G' _ _ q (Fp (K:=X.K) k e4) rg2 (tF (.inl ⟨o,aX⟩) (RDs.mono st _ _ e3))
 | _=>exact .inl (hk _ G' v H' q k rg' (re.rd (by intro ds z;cases z)))
end
def eY:cj:=fun D σ G=>D.nx σ G
def sSeq(t u:cj):cj:=fun D σ G=>t { D with nx:=u D } σ G
section
variable{X:Cx}{st:Nu}{d8:List Nu}{t u:cj}{e:Np}{te:bJ}{pos:Pos}
theorem fj:rF X [] (cL X.K eY):=Go.imp fun D τ H zz=>by
 obtain⟨σ,G,D3,rs,rg,h,k⟩:=zz;exact (
  k.nx σ G τ H h Kp.refl rg rs)
theorem aq(h1:PS X st (cL X.K t))(h2:rF X d8 (cL X.K u)):rF X (st::d8) (cL X.K (sSeq t u)):=(ED h1 h2).imp fun D τ H zz=>by
 obtain⟨σ,G,D3,rs,rg,h,k⟩:=zz;exact (
   ⟨σ,G,{ D3 with nx:=u D3 },rs,rg,h,⟨fun σ' G' τ' H' q k' rg' rs'=>⟨σ',G',D3,rs',rg',q,k.base k'⟩,k.rt,k.bk,k.ct⟩⟩)
theorem az(h1:PS X st (cL X.K t)):rF X [st] (cL X.K t):=Gn h1
def bQ(te:bJ):cj:=fun D σ G=>te σ G fun _ G'=>D.nx σ G'
theorem bv(he:PE X e (aJ X.K te))(hs:OP e none pos.line X.env=pure false:=by rfl):PS X (.Expr e pos) (cL X.K (bQ te)):=(Gr he hs).imp fun D τ H zz=>by
 obtain⟨σ,G,D3,rs,rg,h,k⟩:=zz;exact (
   ⟨σ,G,fun _ G'=>D3.nx σ G',rs,rg,h,fun d G' v H' q k' rg' _=>k.nx σ G' τ H' q k' rg' (rs.mono (k'.stb rg))⟩)
def bU(te:bJ):cj:=fun D σ G=>te σ G D.rt
theorem bc(he:PE X e (aJ X.K te)):PS X (.Return (some e) pos) (cL X.K (bU te)):=(EG he).imp fun D τ H zz=>by
 obtain⟨σ,G,D3,rs,rg,h,k⟩:=zz;exact (
  ⟨σ,G,D3.rt,rs,rg,h,k.rt⟩)
def BR:cj:=fun D _ G=>D.rt .non G
theorem Ew:PS X (.Return none pos) (cL X.K BR):=Gq.imp fun D τ H zz=>by
 obtain⟨σ,G,D3,rs,rg,h,k⟩:=zz;exact (
  k.rt _ G _ H h Kp.refl rg (.of xn))
def IA:cj:=fun D σ G=>D.bk σ G
def Kh:cj:=fun D σ G=>D.ct σ G
def oH(c:pP)(t u:cj):cj:=fun D σ G=>c σ G fun b G'=>if b=true then t D σ G' else u D σ G'
theorem iw{c:Np}{a b:List Nu}{tc:pP}(hc:PT X c (dY X.K tc))(ha:rF X a (cL X.K t))(hb:rF X b (cL X.K u)):PS X (.If c a b pos) (cL X.K (oH tc t u)):=
 (Kq hc ha hb).imp fun D τ H zz=>by
 obtain⟨σ,G,D3,rs,rg,h,k⟩:=zz;exact (
  ⟨σ,G,_,rs,rg,h,fun b G' H' q k' rg'=>by
    cases b with
    | true=>exact⟨σ,G',D3,rs.mono (k'.stb rg),rg',q,k.base k'⟩
    | false=>exact⟨σ,G',D3,rs.mono (k'.stb rg),rg',q,k.base k'⟩⟩)
def nE:cj:=fun _ _ _=>False
theorem oV:PS X st (cL X.K nE):=EH.imp fun D τ H zz=>by
 obtain⟨σ,G,D3,rs,rg,h,k⟩:=zz;exact (
  h)
def bZ(i:Nat)(te:bJ):cj:=fun D σ G=>te σ G fun d G'=>D.nx (σ.set i (some (val d))) G'
theorem bo{i:Nat}{x:Str}{pos':Pos}(hN:X.N.Nodup)(hi:X.N[i]?=some x)(hx:JV X.env.scope x)(he:PE X e (aJ X.K te))(hs:OP e (some (.Name x pos')) pos.line X.env=pure false:=by rfl)
  (hf:X.fn x=true\/X.env.scope.names.lookup x=some .local:=by first|exact .inl rfl|exact .inr rfl|assumption):PS X (.Assign [.Name x pos'] e pos) (cL X.K (bZ i te)):=
 (EF hN hi hx (d9 he) hs hf).imp fun D τ H zz=>by
 obtain⟨σ,G,D3,rs,rg,h,k⟩:=zz;exact (
  ⟨σ,G,_,rs,rg,h,fun d G' v H' q k' rg' rd=>k.nx _ G' _ H' q k' rg' ((rs.mono (k'.stb rg)).set rd i)⟩)
def Gc(i:Nat)(te:bJ):cj:=fun D σ G=>te σ G fun d G'=>∃ ds,d=.fl ds/\∀ p,G' p=none->D.nx (σ.set i (some (.ref p))) (gset G' p (.lst ds))
theorem EV{K:PySem.W.Frag}{G:Gp}{H:Hp}{p:MU}{xs:List V}{ds:List D}(rg:RG K H G)(e:H p=some (.lst xs))(r:RDs K H ds xs):RG K H (gset G p (.lst ds)):=fun a o q=>by
 by_cases ha:a=p
 ·subst ha;rw[aA]at q;cases q;exact⟨_,e,r⟩
 ·rw[al ha]at q;exact rg a o q
theorem EW{G G':Gp}{H H':Hp}{p:MU}{o:GO}(k:Kp G H G' H')(f:JW G H p):Kp G H (gset G' p o) H':=fun a h e n=>by
 have:a≠p:=fun z=>by subst z;exact f h e n
 exact⟨(k a h e n).1,by rw[al this];exact (k a h e n).2⟩
theorem HJ{i:Nat}{x:Str}{pos':Pos}(hN:X.N.Nodup)(hi:X.N[i]?=some x)(hx:JV X.env.scope x)(he:PE X e (aJ X.K te))(hs:OP e (some (.Name x pos')) pos.line X.env=pure false:=by rfl)
  (hf:X.fn x=true\/X.env.scope.names.lookup x=some .local:=by first|exact .inl rfl|exact .inr rfl|assumption):PS X (.Assign [.Name x pos'] e pos) (cL X.K (Gc i te)):=
 (EF hN hi hx he hs hf).imp fun D τ H zz=>by
 obtain⟨σ,G,D3,rs,rg,h,k⟩:=zz;exact (
  ⟨σ,G,_,rs,rg,h,fun d G' v H' q k' rg' re=>by
    obtain⟨ds,rfl,q⟩:=q;obtain⟨p,xs,rfl,e1,e2,e3,e4⟩:=re.fl;exact k.nx _ _ _ H' (q p e2) (EW k' e4) (EV rg' e1 e3) ((rs.mono (k'.stb rg)).set iu i)⟩)
def kt(i:Nat):cj:=fun D σ G=>match σ[i]? with
 | some (some (.ref p))=>match G p with
  | some (.lst ds)=>D.rt (.fl ds) (gO G p)
  | _=>False
 | _=>False
theorem zj{i:Nat}{x:Str}{pos':Pos}(hN:X.N[i]?=some x)(hv:Lg X.env.scope x)(hd:(x == ("__debug__":Str))=false:=by decide)(hcd:(x == ("__classdict__":Str))=false:=by decide):
  PS X (.Return (some (.Name x pos')) pos) (cL X.K (kt i)):=(EG (EM hN hv hd hcd)).imp fun D τ H zz=>by
 obtain⟨σ,G,D3,rs,rg,h,k⟩:=zz;unfold kt at h;split at h
 ·rename_i p hp;split at h
  ·rename_i ds hg;obtain⟨v,e1,r⟩:=rs.get hp;simp only[RD]at r;subst r;obtain⟨ho,e2,ro⟩:=rg p _ hg;refine⟨_,e1,?_⟩;cases ho with
   | lst xs=>
    have rg2:RG X.K H (gO G p):=fun a o q=>by
     by_cases ha:a=p
     ·subst ha;rw[fg]at q;cases q
     ·rw[fh ha]at q;exact rg a o q
    refine k.rt _ _ _ H h (fun a ha e n=>⟨e,?_⟩) rg2 (.inl ⟨ds,p,xs,rfl,rfl,e2,fg,ro,fun h' _=>by rw[hg];exact fun z=>nomatch z⟩)
    by_cases hap:a=p
    ·subst hap;exact fg
    ·rw[fh hap];exact n
   | _=>exact ro.elim
  ·exact h.elim
 ·exact h.elim
end
def ab(i:Nat):bJ:=fun σ G Q=>match σ[i]? with
 | some (some d)=>Q d G
 | _=>False
def eC(d:D):bJ:=fun _ G Q=>Q d G
section
variable{X:Cx}{pos:Pos}{j:Nat}
theorem Kw{i:Nat}{x:Str}(hN:X.N[i]?=some x)(hv:Lg X.env.scope x)(hd:(x == ("__debug__":Str))=false:=by decide)(hcd:(x == ("__classdict__":Str))=false:=by decide):PE X (.Name x pos) (aJ X.K (ab i)):=
 (EM hN hv hd hcd).imp fun τ H Q zz=>by
  obtain⟨σ,G,Q3,rs,rg,h,k⟩:=zz;unfold ab at h;split at h
  ·rename_i d hp;obtain⟨v,e1,r⟩:=rs.get hp;exact⟨v,e1,k d G v H h Kp.refl rg (.of r)⟩
  ·exact h.elim
theorem ak(i:Nat){x:Str}(hN:X.N[i]?=some x:=by rfl)(hv:Lg X.env.scope x:=by first|exact Or.inl rfl|exact Or.inr (Or.inl rfl)|exact Or.inr (Or.inr rfl))(hd:(x == ("__debug__":Str))=false:=by decide)
  (hcd:(x == ("__classdict__":Str))=false:=by decide):PE X (.Name x pos) (aJ X.K (ab i)):=Kw hN hv hd hcd
theorem Kz{e:Np}{d:D}{v:V}(h:PE X e (tC v))(r:∀ H,RD X.K H d v):PE X e (aJ X.K (eC d)):=h.imp fun τ H Q zz=>by
 obtain⟨σ,G,Q3,rs,rg,hq,k⟩:=zz;exact (
  k d G v H hq Kp.refl rg (.of (r H)))
theorem aD{i:Int}:PE X (.Constant (.int i) j pos) (aJ X.K (eC (.int i))):=Kz IQ fun _=>eT
theorem GH{b:Bool}:PE X (.Constant (.bool b) j pos) (aJ X.K (eC (.bl b))):=Kz Kv fun _=>iB
theorem HM:PE X (.Constant .none j pos) (aJ X.K (eC .non)):=Kz IN fun _=>xn
theorem eG{x:Str}:PE X (.Constant (.str x) j pos) (aJ X.K (eC (.str x))):=Kz IL fun _=>kB
end
abbrev R3:=D->D->Gp->oa->Prop
def dM(K:PySem.W.Frag)(r3:R3):R2:=fun v u H Q=>∃ x y G0 H0 G Q3,RE K G0 H0 G H x v/\RE K G0 H0 G H y u/\RG K H G/\r3 x y G Q3/\uL K G H Q3 Q
def bY(r:R3)(ta tb:bJ):bJ:=fun σ G Q=>ta σ G fun x G1=>tb σ G1 fun y G2=>r x y G2 Q
section
variable{X:Cx}{a b c:Np}{ta tb tc:bJ}{pos:Pos}{r r':R3}
theorem two{K:PySem.W.Frag}{r2:R2}{Q:VK}{τ:St}{H:Hp}(hr:r2=dM K r)(h:aJ K (bY r ta tb) τ H Q):JY r2 (aJ K ta) (aJ K tb) τ H Q:=by
 subst hr;obtain⟨σ,G,Q3,rs,rg,h,k⟩:=h;refine⟨σ,G,fun x G1=>tb σ G1 fun y G2=>r x y G2 Q3,rs,rg,h,fun x G1 v H1 h1 k1 rg1 re1=>⟨σ,G1,fun y G2=>r x y G2 Q3,rs.mono (k1.stb rg),rg1,h1,fun y G2 u H2 h2 k2 rg2 re2=>?_⟩⟩;exact⟨x,y,G,H,G2,Q3,re1.wait k2 rg1,re2.base k1,rg2,h2,k.base (k1.trans k2)⟩
theorem cx{op:Operator}(ho:iS X (Oi op) (dM X.K r))(ha:PE X a (aJ X.K ta))(hb:PE X b (aJ X.K tb)):PE X (.BinOp a op b pos) (aJ X.K (bY r ta tb)):=
 (Ks ho ha hb).imp fun _ _ _ h=>two rfl h
theorem Ky{op:PR}(ho:iS X (NA op) (dM X.K r))(ha:PE X a (aJ X.K ta))(hb:PE X b (aJ X.K tb))(hm:NQ op b=false):PE X (.Compare a [op] [b] pos) (aJ X.K (bY r ta tb)):=
 (B1 ho ha hb hm).imp fun _ _ _ h=>two rfl h
def eK(t:bJ):pP:=fun σ G Q=>t σ G fun d G'=>match d with
 | .bl b=>Q b G'
 | _=>False
theorem wS{K:PySem.W.Frag}{t:bJ}{τ:St}{H:Hp}{Q:Bool->Hp->Prop}(h:dY K (eK t) τ H Q):D6 (aJ K t) τ H Q:=by
 obtain⟨σ,G,Q3,rs,rg,h,k⟩:=h;refine⟨σ,G,_,rs,rg,h,fun d G' v H' q k' rg' re=>?_⟩;cases d with
 | bl b=>exact⟨b,re.bl,k b G' H' q k' rg'⟩
 | _=>exact q.elim
theorem ql{op:PR}(ho:iS X (NA op) (dM X.K r))(ha:PE X a (aJ X.K ta))(hb:PE X b (aJ X.K tb))(hm:NQ op b=false):PT X (.Compare a [op] [b] pos) (dY X.K (eK (bY r ta tb))):=
 (BW ho ha hb hm).imp fun _ _ _ h=>two rfl (wS h)
def qP(r r':R3)(ta tb tc:bJ):bJ:=fun σ G Q=>ta σ G fun x G1=>tb σ G1 fun y G2=>r x y G2 fun z G3=>match z with
 | .bl k=>if k=true then tc σ G3 fun w G4=>r' y w G4 Q else Q (.bl false) G3
 | _=>False
theorem KZ{K:PySem.W.Frag}{Q:VK}{τ:St}{H:Hp}(h:aJ K (qP r r' ta tb tc) τ H Q):D8 (dM K r) (dM K r') (aJ K ta) (aJ K tb) (aJ K tc) τ H Q:=by
 obtain⟨σ,G,Q3,rs,rg,h,k⟩:=h;refine⟨σ,G,_,rs,rg,h,fun x G1 v H1 h1 k1 rg1 re1=>⟨σ,G1,_,rs.mono (k1.stb rg),rg1,h1,fun y G2 u H2 h2 k2 rg2 re2=>?_⟩⟩;refine⟨x,y,G,H,G2,_,re1.wait k2 rg1,re2.base k1,rg2,h2,fun z G3 w H3 h3 k3 rg3 re3=>?_⟩;have k13:=k1.trans (k2.trans k3);cases z with
 | bl kk=>
  refine⟨kk,re3.bl,?_⟩;cases kk with
  | true=>
   refine iteT ?_;refine⟨σ,G3,_,rs.mono (k13.stb rg),rg3,h3,fun w' G4 w4 H4 h4 k4 rg4 re4=>?_⟩;exact⟨y,w',G,H,G4,Q3,(re2.base k1).wait (k3.trans k4) rg2,re4.base k13,rg4,h4,k.base (k13.trans k4)⟩
  | false=>exact iteF (k _ G3 _ H3 h3 k13 rg3 (.of iB))
 | _=>exact h3.elim
theorem tJ{op op':PR}(ho:iS X (NA op) (dM X.K r))(ho':iS X (NA op') (dM X.K r'))(ha:PE X a (aJ X.K ta))(hb:PE X b (aJ X.K tb))(hc:PE X c (aJ X.K tc))
  (hm:lastMarks [op,op'] [b,c]=false:=by with_unfolding_all rfl):PT X (.Compare a [op,op'] [b,c] pos) (dY X.K (eK (qP r r' ta tb tc))):=
 (EC ho ho' ha hb hc hm).imp fun τ H Q h=>by
  obtain⟨σ,G,Q3,rs,rg,h,k⟩:=h;refine KZ (Q:=fun x H'=>∃ k,x=.bl k/\Q k H') ⟨σ,G,_,rs,rg,h,fun d G' v H' q k' rg' re=>?_⟩;cases d with
  | bl b=>exact⟨b,re.bl,k b G' H' q k' rg'⟩
  | _=>exact q.elim
def Kd(t u:pP):pP:=fun σ G Q=>t σ G fun c G1=>if c=true then u σ G1 Q else Q false G1
def CF(t u:pP):pP:=fun σ G Q=>t σ G fun c G1=>if c=true then Q true G1 else u σ G1 Q
def wa(t:pP):pP:=fun σ G Q=>t σ G fun c G1=>Q (!c) G1
variable{tA tB:pP}{es:List Np}
theorem HC(ha:PT X a (dY X.K tA)):PW X (.BoolOp .Or [a] pos) (dY X.K tA):=IE ha
theorem J3(ha:PT X a (dY X.K tA))(hb:PW X (.BoolOp .Or (b::es) pos) (dY X.K tB)):PW X (.BoolOp .Or (a::b::es) pos) (dY X.K (CF tA tB)):=(Ko ha hb).imp fun τ H Q zz=>by
 obtain⟨σ,G,Q3,rs,rg,h,k⟩:=zz;exact (
   ⟨σ,G,_,rs,rg,h,fun c G1 H1 q k1 rg1=>by
    cases c with
    | false=>exact iteF ⟨σ,G1,Q3,rs.mono (k1.stb rg),rg1,q,fun b' G' H' q' k' rg'=>k b' G' H' q' (k1.trans k') rg'⟩
    | true=>exact iteT (k true G1 H1 q k1 rg1)⟩)
theorem xB(ha:PT X a (dY X.K tA)):PT X (.UnaryOp .Not a pos) (dY X.K (wa tA)):=(IG ha).imp fun τ H Q zz=>by
 obtain⟨σ,G,Q3,rs,rg,h,k⟩:=zz;exact (
  ⟨σ,G,_,rs,rg,h,fun c G1 H1 q k1 rg1=>k (!c) G1 H1 q k1 rg1⟩)
def Hj(ta tb:bJ):bJ:=fun σ G Q=>ta σ G fun x G1=>match x with
 | .bl c=>if c=true then tb σ G1 Q else Q (.bl false) G1
 | _=>False
def MI(ta tb:bJ):bJ:=fun σ G Q=>ta σ G fun x G1=>match x with
 | .bl c=>if c=true then Q (.bl true) G1 else tb σ G1 Q
 | _=>False
theorem HL{op}(h:PE X a (aJ X.K ta)):PE X (.BoolOp op [a] pos) (aJ X.K ta):=IM h
theorem HN(ha:PE X a (aJ X.K ta))(hb:PE X (.BoolOp .And (b::es) pos) (aJ X.K tb)):PE X (.BoolOp .And (a::b::es) pos) (aJ X.K (Hj ta tb)):=(IS ha hb).imp fun τ H Q zz=>by
 obtain⟨σ,G,Q3,rs,rg,h,k⟩:=zz;exact (
   ⟨σ,G,_,rs,rg,h,fun x G1 v H1 q k1 rg1 re=>by
    cases x with
    | bl c=>
     refine⟨c,re.bl,?_⟩;cases c with
     | true=>exact iteT ⟨σ,G1,Q3,rs.mono (k1.stb rg),rg1,q,k.base k1⟩
     | false=>exact iteF (k _ G1 _ H1 q k1 rg1 (.of iB))
    | _=>exact q.elim⟩)
def KR(ta:bJ):bJ:=fun σ G Q=>ta σ G fun x G1=>match x with
 | .bl c=>Q (.bl (!c)) G1
 | _=>False
def MJ(c:pP)(ta tb:bJ):bJ:=fun σ G Q=>c σ G fun b G1=>if b=true then ta σ G1 Q else tb σ G1 Q
def Ip(G:Gp):D->Option Bool
 | .non=>some false
 | .bl b=>some b
 | .int i=>some (i != 0)
 | .str y=>some ((y.length:Int) != 0)
 | d=>(FP G d).map fun ds=>!ds.isEmpty
def uP(t:bJ):pP:=fun σ G Q=>t σ G fun d G'=>match Ip G' d with
 | some b=>(match d with|.str y=>y.length<=M4|_=>True)/\Q b G'
 | none=>False
theorem jH(ha:PE X a (aJ X.K ta))(he:∀ whole,Rc a X.env whole=(do let v <- whole;Pq a.pos;holding [v] (truthy v)):=by intro _;rfl):PT X a (dY X.K (uP ta)):=
 (EA ha he).imp fun τ H Q zz=>by
 obtain⟨σ,G,Q3,rs,rg,h,k⟩:=zz;exact (
  ⟨σ,G,_,rs,rg,h,fun d G' v H' q k' rg' re=>by
    cases d with
    | non=>rw[re.non];exact⟨false,rfl,k _ G' H' q.2 k' rg'⟩
    | bl b=>rw[re.bl];exact⟨b,rfl,k _ G' H' q.2 k' rg'⟩
    | int i=>rw[re.int];exact⟨_,rfl,k _ G' H' q.2 k' rg'⟩
    | str y=>rw[re.str];exact⟨_,⟨q.1,rfl⟩,k _ G' H' q.2 k' rg'⟩
    | ty n=>exact q.elim
    | _=>
     split at q
     ·rename_i b hb;simp only[Ip,Option.map_eq_some_iff]at hb;obtain⟨ds,hq,rfl⟩:=hb;obtain⟨a,xs,rfl,s,r⟩:=uJ hq re rg';have el:(!ds.isEmpty)=!xs.isEmpty:=by
       have:=r.length;cases ds<;>cases xs<;>simp_all
      refine⟨!xs.isEmpty,?_,k _ G' H' (by rw[<- el];exact q.2) k' rg'⟩
      rcases s with s|s
      ·exact .inl ⟨xs,s,rfl⟩
      ·exact .inr (.inl ⟨xs,s,rfl⟩)
     ·exact q.elim⟩)
end
end L3
namespace L2
open PySem PySem.Spec PyProof.Rows
section
variable{X:Cx}
def Kn(K:PySem.W.Frag):R2:=fun x y H Q=>∃ l b xs zs,x=.ref l/\y=.ref b/\kP K H l xs/\kP K H b zs/\xs.length+zs.length<=M4/\∀ p,H p=none->Q (.ref p) (bG H p (.lst (xs ++ zs)))
theorem GL:iS X (Oi .Add) (Kn X.K):=by
 intro pins s σ H x y v u Q I rx ry h;obtain⟨l,b,xs,zs,rfl,rfl,hH,hB,hz,q⟩:=h;cases rx;cases ry;obtain⟨its,r,pl,z⟩:=I.list hH;obtain⟨its2,r2,pl2,z2⟩:=I.list hB;obtain⟨⟨cls,dd,data,sl⟩,ho,hc,n,hd⟩:=pl.isList;obtain⟨⟨cls2,dd2,data2,sl2⟩,ho2,hc2,n2,hd2⟩:=pl2.isList;simp only at hc hd hc2 hd2;subst hc hd hc2 hd2;have hl:=r.length;have hl2:=r2.length;have e:its.toArray ++ its2.toArray=(its ++ its2).toArray:=by simp
 refine Re ⟨_,ho,rfl⟩ ⟨_,ho2,rfl⟩ noFill_list_add seq_list_add PySem.F.slot_list_add PySem.F.entry_list_add (PySem.F.args_list_add_2 _ _) (list_addW l b its.toArray its2.toArray n n2 dd dd2 sl sl2 (by simp only[Nb];omega)) ⟨ho,ho2,?_⟩
 rw[e];exact⟨.ref _,_,I.lnew (t':=s.toks) (r.append r2) (by rw[Nj];omega),rfl,q _ I.fresh⟩
end
end L2
namespace L3
open PySem PySem.Spec PyProof.Rows L2
section
variable{X:Cx}
def h9:R3:=fun x y G Q=>match x,y with
 | .int i,.int j=>Q (.int (i+j)) G
 | .str i,.str j=>i.length+j.length<=M4/\Q (.str (i ++ j)) G
 | .tup xs,.tup ys=>xs≠[]/\xs.length+ys.length<=M4/\Q (.tup (xs ++ ys)) G
 | x,y=>match yJ G x,yJ G y with
  | some xs,some ys=>xs.length+ys.length<=M4/\Q (.fl (xs ++ ys)) G
  | _,_=>False
theorem eM:iS X (Oi .Add) (dM X.K h9):=by
 refine ((I_ (X:=X)).or ((A_ (X:=X)).or ((GK (X:=X)).or (GL (X:=X))))).imp fun v u H Q zz=>?_;obtain⟨x,y,G0,H0,G,Q3,rx,ry,rg,h,k⟩:=zz;unfold h9 at h;split at h
 ·rename_i i j;exact .inl ⟨i,j,rx.int,ry.int,k _ G _ H h Kp.refl rg (.of eT)⟩
 ·rename_i i j;exact .inr (.inl ⟨i,j,rx.str,ry.str,h.1,k _ G _ H h.2 Kp.refl rg (.of kB)⟩)
 ·rename_i ds es;obtain⟨a,xs,rfl,s1,r1⟩:=rx.tup;obtain⟨b,ys,rfl,s2,r2⟩:=ry.tup;have l1:=r1.length;have l2:=r2.length;refine .inr (.inr (.inl ⟨a,b,xs,ys,rfl,rfl,s1,s2,fun z=>h.1 ?_,by have:=h.2.1;omega,fun z=>?_,fun _ p hp=>?_⟩))
  ·subst z;exact List.length_eq_zero_iff.mp l1
  ·subst z;have:es=[]:=List.length_eq_zero_iff.mp l2;subst this;have hh:=h.2.2;rw[Oj]at hh;exact k _ G _ H hh Kp.refl rg (.of (qi s1 r1))
  ·exact k _ G _ _ h.2.2 (Kp.laid hp) (rg.laid hp) (.of (ow rg hp (r1.append r2)))
 ·split at h
  ·rename_i ds es hx hy;obtain⟨a,xs,rfl,s1,r1⟩:=n_ hx rx rg;obtain⟨b,ys,rfl,s2,r2⟩:=n_ hy ry rg;have l1:=r1.length;have l2:=r2.length;exact .inr (.inr (.inr ⟨a,b,xs,ys,rfl,rfl,s1,s2,by have:=h.1;omega,fun p hp=>k _ G _ _ h.2 (Kp.laid hp) (rg.laid hp) (yr rg hp (r1.append r2))⟩))
  ·exact h.elim
def oI(C:Int->Int->Prop)(g:Int->Int->D):R3:=fun x y G Q=>match x,y with
 | .int i,.int j=>C i j/\Q (g i j) G
 | _,_=>False
def HP(g:Int->Int->D):R3:=fun x y G Q=>match x,y with
 | .int i,.int j=>Q (g i j) G
 | _,_=>False
theorem Mp{f:MV->MV->Sem MV}{C:Int->Int->Prop}{g:Int->Int->V}{g3:Int->Int->D}(h:iS X f (rI C g))(r:∀ i j H,RD X.K H (g3 i j) (g i j)):iS X f (dM X.K (oI C g3)):=
 h.imp fun v u H Q zz=>by
  obtain⟨x,y,G0,H0,G,Q3,rx,ry,rg,h,k⟩:=zz;unfold oI at h;split at h
  ·rename_i i j;exact⟨i,j,rx.int,ry.int,h.1,k _ G _ H h.2 Kp.refl rg (.of (r i j H))⟩
  ·exact h.elim
theorem FX{f:MV->MV->Sem MV}{g:Int->Int->V}{g3:Int->Int->D}(h:iS X f (HI g))(r:∀ i j H,RD X.K H (g3 i j) (g i j)):iS X f (dM X.K (HP g3)):=
 h.imp fun v u H Q zz=>by
  obtain⟨x,y,G0,H0,G,Q3,rx,ry,rg,h,k⟩:=zz;unfold HP at h;split at h
  ·rename_i i j;exact⟨i,j,rx.int,ry.int,k _ G _ H h Kp.refl rg (.of (r i j H))⟩
  ·exact h.elim
def E1:R3:=HP fun i j=>.int (i - j)
theorem DO:iS X (Oi .Sub) (dM X.K E1):=FX IX fun _ _ _=>eT
def jc:R3:=oI (fun _ j=>0 < j) fun i j=>.int (i % j)
theorem fA:iS X (Oi .Mod) (dM X.K jc):=Mp IZ fun _ _ _=>eT
def C5:R3:=oI Lq fun i j=>.int (i / j)
theorem BI:iS X (Oi .FloorDiv) (dM X.K C5):=Mp GJ fun _ _ _=>eT
def LZ:R3:=oI Mo fun i j=>.int (i ^ j.toNat)
def GP:R3:=HP fun i j=>.bl (decide (i < j))
theorem AE:iS X (NA .Lt) (dM X.K GP):=FX KA fun _ _ _=>iB
def J0:R3:=HP fun i j=>.bl (decide (i<=j))
theorem FW:iS X (NA .LtE) (dM X.K J0):=FX KB fun _ _ _=>iB
def Ls:R3:=HP fun i j=>.bl (decide (j < i))
theorem Lx:iS X (NA .Gt) (dM X.K Ls):=FX KC fun _ _ _=>iB
def MG:R3:=HP fun i j=>.bl (decide (j<=i))
def av:pQ:=fun _ G Q=>Q [] G
def ae(ta:bJ)(tr:pQ):pQ:=fun σ G Q=>ta σ G fun x G1=>tr σ G1 fun xs G2=>Q (val x::xs) G2
variable{e:Np}{es:List Np}{te:bJ}{t:pQ}{pos:Pos}
theorem ao:PA X [] (fC X.K av):=IT.imp fun τ H Q zz=>by
 obtain⟨σ,G,Q3,rs,rg,h,k⟩:=zz;exact (
  k [] G [] H h Kp.refl rg RDs.nil)
theorem aa(ha:PE X e (aJ X.K te))(hr:PA X es (fC X.K t))(hs:M_ (e::es) X.env=(false,eval e X.env)::M_ es X.env:=by rfl):PA X (e::es) (fC X.K (ae te t)):=
 (GC (d9 ha) hr hs).imp fun τ H Q zz=>by
 obtain⟨σ,G,Q3,rs,rg,h,k⟩:=zz;exact (
  ⟨σ,G,_,rs,rg,h,fun x G1 v H1 q k1 rg1 rd=>⟨σ,G1,_,rs.mono (k1.stb rg),rg1,q,fun ds G2 vs H2 q2 k2 rg2 rds=>
    k _ G2 _ H2 q2 (k1.trans k2) rg2 (RDs.cons (RD.mono (k2.stb rg1) _ _ rd) rds)⟩⟩)
def jP(t:pQ):bJ:=fun σ G Q=>t σ G fun ds G1=>ds.length<=M4/\Q (.tup ds) G1
def qN(t:pQ):bJ:=fun σ G Q=>t σ G fun ds G1=>ds.length<=M4/\Q (.fl ds) G1
theorem gw{x1}(h:PA X es (fC X.K t)):PE X (.Tuple es x1 pos) (aJ X.K (jP t)):=(IK h).imp fun τ H Q zz=>by
 obtain⟨σ,G,Q3,rs,rg,h,k⟩:=zz;exact (
  ⟨σ,G,_,rs,rg,h,fun ds G1 vs H1 q k1 rg1 rds=>
   ⟨by rw[<- rds.length];exact q.1,fun p hp=>k _ G1 _ _ q.2 (k1.trans (Kp.laid hp)) (rg1.laid hp) (.of (ow rg1 hp rds))⟩⟩)
theorem l7(h:PA X es (fC X.K t)):PE X (.List es pos) (aJ X.K (qN t)):=(IP h).imp fun τ H Q zz=>by
 obtain⟨σ,G,Q3,rs,rg,h,k⟩:=zz;exact (
  ⟨σ,G,_,rs,rg,h,fun ds G1 vs H1 q k1 rg1 rds=>
   ⟨by rw[<- rds.length];exact q.1,fun p hp=>k _ G1 _ _ q.2 (k1.trans (Kp.laid hp)) (rg1.laid hp) ((yr rg1 hp rds).base k1)⟩⟩)
def HG(x:Str)(i:Int):Option D:=(iT x.cps.toList i).map fun c=>.str ⟨#[c]⟩
def h8:R3:=fun x y G Q=>match x,y with
 | .str z,.int i=>z.length<=M4/\match HG z i with
  | some d=>Q d G
  | none=>False
 | x,.int i=>match FP G x with
  | some ds=>match iT ds i with
   | some d=>Q d G
   | none=>False
  | none=>False
 | _,_=>False
theorem Hs{K:PySem.W.Frag}{H:Hp}{ds:List D}{xs:List V}{i:Int}{d:D}(r:RDs K H ds xs)(h:iT ds i=some d):∃ v,iT xs i=some v/\RD K H d v:=by
 unfold iT at h ⊢;rw[<- r.length];cases e:HX ds.length i with
 | none=>rw[e]at h;cases h
 | some j=>
  rw[e]at h;exact r.get h
theorem Lw:DI X (dM X.K h8):=(Jv (X:=X)).imp fun v u H Q zz=>by
 obtain⟨x,y,G0,H0,G,Q3,rx,ry,rg,h,k⟩:=zz;unfold h8 at h;split at h
 ·rename_i z i;obtain⟨h1,h2⟩:=h;split at h2
  ·rename_i d hd;unfold HG at hd;rw[Option.map_eq_some_iff]at hd;obtain⟨c,hc,rfl⟩:=hd;exact .inr (.inr ⟨z,i,c,rx.str,ry.int,h1,hc,k _ G _ H h2 Kp.refl rg (.of kB)⟩)
  ·exact h2.elim
 ·rename_i i _;split at h
  ·rename_i ds hds;split at h
   ·rename_i d hd;obtain⟨a,xs,rfl,s,r⟩:=uJ hds rx rg;obtain⟨w,hw,rd⟩:=Hs r hd;have fin:=k _ G _ H h Kp.refl rg (.of rd);rcases s with s|s
    ·exact .inl ⟨a,xs,i,w,rfl,ry.int,s,hw,fin⟩
    ·exact .inr (.inl ⟨a,xs,i,w,rfl,ry.int,s,hw,fin⟩)
   ·exact h.elim
  ·exact h.elim
 ·exact h.elim
variable{a b:Np}{ta tb:bJ}
theorem cZ(ha:PE X a (aJ X.K ta))(hb:PE X b (aJ X.K tb))(hs:Cw b:=by exact fun _ _=>rfl):PE X (.Subscript a b pos) (aJ X.K (bY h8 ta tb)):=(Kt Lw ha hb hs).imp fun _ _ _ h=>two rfl h
abbrev JT:=gv->Gp->(Option Int->Gp->Prop)->Prop
def Ca(K:PySem.W.Frag)(t:JT):TO:=fun τ H Q=>∃ σ G Q3,RS K H σ τ/\RG K H G/\t σ G Q3/\∀ o G' H',Q3 o G'->Kp G H G' H'->RG K H' G'->Q o H'
theorem PO.imp{e:Option Np}{t t':TO}(h:PO X e t)(i:∀ σ H Q,t' σ H Q->t σ H Q):PO X e t':=fun pins s σ H Q I q=>h pins s σ H Q I (i σ H Q q)
def C3:JT:=fun _ G Q=>Q none G
def dL(t:bJ):JT:=fun σ G Q=>t σ G fun x G1=>match x with
 | .int i=>Q (some i) G1
 | _=>False
theorem i_:PO X none (Ca X.K C3):=PO.imp Gv fun τ H Q zz=>by
 obtain⟨σ,G,Q3,rs,rg,h,k⟩:=zz;exact (
  k none G H h Kp.refl rg)
theorem cH(h:PE X e (aJ X.K te)):PO X (some e) (Ca X.K (dL te)):=PO.imp (Gu h) fun τ H Q ⟨σ,G,Q3,rs,rg,h,k⟩=>⟨σ,G,_,rs,rg,h,fun d G1 v H1 q k1 rg1 re=>by
 cases d with
 | int i=>exact⟨i,re.int,k _ G1 H1 q k1 rg1⟩
 | _=>exact q.elim⟩
abbrev Lj:=D->Option Int->Option Int->Gp->oa->Prop
def Fc(K:PySem.W.Frag)(r:Lj):V->Option Int->Option Int->Hp->VK->Prop:=fun v lo hi H Q=>∃ x G0 H0 G Q3,RE K G0 H0 G H x v/\RG K H G/\r x lo hi G Q3/\uL K G H Q3 Q
def wC(r:Lj)(te:bJ)(tl th:JT):bJ:=fun σ G Q=>te σ G fun x G1=>tl σ G1 fun l G2=>th σ G2 fun u G3=>r x l u G3 Q
theorem de{r:Lj}{lo hi:Option Np}{tl th:JT}{p2:Pos}(hr:DG X (Fc X.K r))(he:PE X e (aJ X.K te))(hl:PO X lo (Ca X.K tl))(hu:PO X hi (Ca X.K th)):PE X (.Subscript e (.Slice lo hi none p2) pos) (aJ X.K (wC r te tl th)):=
 (EN hr he hl hu).imp fun τ H Q zz=>by
 obtain⟨σ,G,Q3,rs,rg,h,k⟩:=zz;exact (
  ⟨σ,G,_,rs,rg,h,fun x G1 v H1 q1 k1 rg1 re=>⟨σ,G1,_,rs.mono (k1.stb rg),rg1,q1,fun l G2 H2 q2 k2 rg2=>
    ⟨σ,G2,_,rs.mono ((k1.trans k2).stb rg),rg2,q2,fun u G3 H3 q3 k3 rg3=>⟨x,G,H,G3,Q3,re.wait (k2.trans k3) rg1,rg3,q3,k.base (k1.trans (k2.trans k3))⟩⟩⟩⟩)
def cutD(ds:List D)(lo hi:Option Int):List D:=(ds.drop (HT.sIx ds.length 0 lo)).take (HT.sIx ds.length ds.length hi - HT.sIx ds.length 0 lo)
theorem Cj{K:PySem.W.Frag}{H:Hp}{ds:List D}{xs:List V}(r:RDs K H ds xs)(lo hi:Option Int):RDs K H (cutD ds lo hi) (An xs lo hi):=by
 unfold cutD An;rw[r.length];exact (r.drop _).take _
end
end L3
namespace L2
open PySem PySem.Spec PyProof.Rows
def Mm(xs:List V):It:=⟨fun i _=>i < xs.length,fun i H x H'=>H'=H/\xs[i]?=some x,fun i _=>i=xs.length⟩
def dQ(x:Str):List V:=x.cps.toList.map fun c=>V.str ⟨#[c]⟩
theorem m9(x:Str):(dQ x).length=x.cps.size:=by simp[dQ]
theorem DY{P:Nf}{w:Nn}{K:PySem.W.Frag}{tg:Np}(it:MU)(x:Str)(t:Tok)(ty:String)(hty:ty="str_ascii_iterator"\/ty="str_iterator"):
  Turn P w K tg (Mm (dQ x)) [it] it (fun i h=>h.IsStrIter it ty x t i) where
 mem:=by simp
 obj:=fun i h st b hb=>by
  have e:b=it:=by simpa using hb
  subst e;obtain⟨o,e,c,d⟩:=st;exact⟨o,e,fun v z=>by rw[d]at z;cases z⟩
 keep:=fun i h h' st k=>let ⟨o,ho,r⟩:=st;⟨o,k it (by simp) o ho,r⟩
 item:=by
  intro X hP hw hK hc i pins s σ H E I hf st hg;subst hP hw hK;obtain⟨f0,f1,f2,f3,f4,f5⟩:=hf it (by simp)
  have W:Walks X.prog X.w X.A it [it] [it] x.cps.size (SignAt x) (fun i h=>h.IsStrIter it ty x t i):=by
   rcases hty with rfl|rfl
   ·exact Walks.strAscii (I.ok.hd hc) it x t
   ·exact Walks.strWide (I.ok.hd hc) it x t
  refine W.item i s _ _ (by have:i < (dQ x).length:=hg;rw[m9]at this;exact this) st fun v h' tk hv st' kk=>?_
  obtain⟨c,u,hc',rfl⟩:=hv;have I1:Inv X pins σ H { s with heap:=h',toks:=tk }:=I.turned (fun b o hb e=>kk b o (by simpa using hb) e) f0 f1 f3 f4 f5
  obtain⟨o,e,c1,d⟩:=id st';refine⟨_,rfl,Ae (s:={ s with heap:=h',toks:=tk }) e c1 d (by rcases hty with rfl|rfl<;>decide) ⟨.str ⟨#[c]⟩,H,I1,⟨u,rfl⟩,⟨rfl,?_⟩,st',fun b hb=>(hf b hb).1⟩⟩
  simp only[dQ,Ng,Array.getElem?_toList,hc',Option.map_some]
 done:=by
  intro X hP hw hK hc i pins s σ H E I hf st hg;subst hP hw hK;obtain⟨f0,f1,f2,f3,f4,f5⟩:=hf it (by simp)
  have W:Walks X.prog X.w X.A it [it] [it] x.cps.size (SignAt x) (fun i h=>h.IsStrIter it ty x t i):=by
   rcases hty with rfl|rfl
   ·exact Walks.strAscii (I.ok.hd hc) it x t
   ·exact Walks.strWide (I.ok.hd hc) it x t
  have e:i=x.cps.size:=by have:i=(dQ x).length:=hg;rw[m9]at this;exact this
  subst e;exact W.done s _ _ st fun h' tk kk=>⟨rfl,I.turned (fun b o hb e=>kk b o (by simpa using hb) e) f0 f1 f3 f4 f5⟩
 self:=fun A i s Q E st h=>by
  rcases hty with rfl|rfl
  ·exact wpAny_pyIter_striter_ascii st h
  ·exact wpAny_pyIter_striter_wide st h
section
variable{X:Cx}{tg:Np}
theorem By{env:Env}:∀ (names:List (Str×PB)) (sc:Pc),sc.names=names->(∀ x∈names,x.2=.free->∃ c,env.cells.lookup x.1=some c)->
  ∃ cl,RL sc env=pure cl/\(∀ x c,cl.lookup x=some c->env.cells.lookup x=some c)/\(∀ x∈names,x.2=.free->∃ c,cl.lookup x.1=some c):=by
 have loop:∀ (names:List (Str×PB)) (cs:List (Str×MU)),(∀ x∈names,x.2=.free->∃ c,env.cells.lookup x.1=some c)->(∀ x c,cs.lookup x=some c->env.cells.lookup x=some c)->
   ∃ cl,(forIn names cs fun (x:Str×PB) (r:List (Str×MU))=>(match x with
    | (name,kind)=>if (kind == NameKind.free)=true then (do let a <- cellOf env name;pure (ForInStep.yield ((name,a)::r)))else pure (ForInStep.yield r):Sem (ForInStep (List (Str×MU)))))=(pure cl:Sem (List (Str×MU)))/\
    (∀ x c,cl.lookup x=some c->env.cells.lookup x=some c)/\(∀ x,(∃ c,cs.lookup x=some c)->∃ c,cl.lookup x=some c)/\(∀ x∈names,x.2=.free->∃ c,cl.lookup x.1=some c):=by
  intro names
  induction names with
  | nil=>intro cs _ h2;exact⟨cs,rfl,h2,fun _ z=>z,fun _ z=>nomatch z⟩
  | cons y r ih=>
   obtain⟨name,kind⟩:=y;intro cs h1 h2;cases hk:(kind == NameKind.free) with
   | false=>
    obtain⟨cl,e,a,b,c⟩:=ih cs (fun x hx=>h1 x (M3 _ hx)) h2;refine⟨cl,?_,a,b,fun x hx hf=>?_⟩
    ·rw[O1];simp only[hk,Bool.false_eq_true,if_false];exact e
    ·rcases NH.mp hx with rfl|hx
     ·rw[show kind=NameKind.free from hf]at hk;cases hk
     ·exact c x hx hf
   | true=>
    have hkf:kind=NameKind.free:=by simpa using hk
    obtain⟨ca,hca⟩:=h1 (name,kind) M8 hkf;have VP:env.cells.lookup name=some ca:=hca;have nx:∀ x c,((name,ca)::cs).lookup x=some c->env.cells.lookup x=some c:=fun x c hx=>by
     rw[Oe]at hx;split at hx
     ·rename_i hb;have:x=name:=by simpa using hb
      cases hx;rw[this];exact VP
     ·exact h2 x c hx
    obtain⟨cl,e,a,b,c⟩:=ih ((name,ca)::cs) (fun x hx=>h1 x (M3 _ hx)) nx;refine⟨cl,?_,a,fun x ⟨c',hx⟩=>?_,fun x hx hf=>?_⟩
    ·rw[O1];simp only[hk,if_true];unfold cellOf;rw[VP];exact e
    ·by_cases hxn:x=name
     ·exact b x ⟨ca,by rw[Oe,hxn,beq_self_eq_true]⟩
     ·exact b x ⟨c',by rw[Oe,show (x == name)=false by simpa using hxn];exact hx⟩
    ·rcases NH.mp hx with rfl|hx
     ·exact b name ⟨ca,by rw[Oe,beq_self_eq_true]⟩
     ·exact c x hx hf
 intro names sc hsc h;subst hsc;obtain⟨cl,e,a,_,c⟩:=loop sc.names [] h (fun x c z=>by simp at z)
 refine⟨cl,?_,a,c⟩;unfold RL;show (forIn sc.names [] _ >>= fun r=>pure r)=_
 refine Eq.trans ?_ (congrArg (fun m=>m >>= fun r=>(pure r:Sem (List (Str×MU)))) e);rfl
def bP(X:Cx)(N':List Str)(scope:Pc)(cl:List (Str×MU))(C:MU)(s₀:MW)(H₀:Hp)(fp:List MU):Cx:=
 { X with N:=N',s₀:=s₀,H₀:=H₀,env:=compEnvC scope cl C X.env,outer:=X.stack,ex:=fp,fn:=fun _=>false,pn:=[],xe:=fun _ _=>False }
end
section
variable{prog:Nf}{w:Nn}{A:Nh}{R:RT->MW->Prop}{s:MW}
theorem my{elt target iter:Np}{ifs:List Np}{scope:Pc}{pos:Pos}{it acc:MV}{env:Env}(J:Nat->MW->Prop)
  (turn:∀ n s,J n s->M5 (M9 prog w) A (OB it) (fun r s₁=>match r with
   | none=>R (.ok .next) s₁
   | some v=>M5 (M9 prog w) A (OY target it v) (fun _ s₁'=>M5 (M9 prog w) A (assign target env v) (fun _ s₂=>
     M5 (M9 prog w) A (forIn ifs true fun c r=>if r=true then do let ok <- Rc c env (eval c env);pure (ForInStep.yield ok)else pure (ForInStep.yield r)) (fun ok s₃=>
      if ok=true then M5 (M9 prog w) A (eval elt env) (fun x s₄=>
       M5 (M9 prog w) A (call (.builtin "list.append") [acc,x]) (fun _ s₅=>∃ m,m < n/\J m s₅) (fun _ _=>False) s₄) (fun _ _=>False) s₃
      else ∃ m,m < n/\J m s₃) (fun _ _=>False) s₂) (fun _ _=>False) s₁') (fun _ _=>False) s₁) (fun _ _=>False) s)
  (n:Nat) (h:J n s):Ps (M9 prog w) A (.compLoop (.ListComp elt [⟨target,iter,ifs,0⟩] scope pos) 0 it acc env) R s:=by
 refine codeAny_loop rfl J (fun n s hI=>?_) n h;show M5 _ A ((compTurn (.ListComp elt [⟨target,iter,ifs,0⟩] scope pos) 0 it acc env).onRaise (fun x=>do noteFrame x env;theTreesLotGoes x)) _ _ s
 refine wpAny_noted ?_;rw[compTurn_list];refine MT (Qm (MT (NR (turn n s hI) (fun r s₁ h₁=>?_) fun _ _ h'=>h'.elim)));cases r with
 | none=>exact MX h₁
 | some v=>
  refine MT (NR h₁ (fun _ s₁' h₁'=>?_) fun _ _ h'=>h'.elim);refine MT (NR h₁' (fun _ s₂ h₂=>MT (NR h₂ (fun ok s₃ h₃=>?_) fun _ _ h'=>h'.elim)) fun _ _ h'=>h'.elim);cases ok with
  | false=>exact MX ⟨rfl,h₃⟩
  | true=>exact MT (MT (NR h₃ (fun x s₄ h₄=>MT (NR h₄ (fun _ s₅ h₅=>MX (MX ⟨rfl,h₅⟩)) fun _ _ h'=>h'.elim)) fun _ _ h'=>h'.elim))
end
def FR(X:Cx)(ifs:List Np)(tt:TT):Prop:=
 ∀ (pins:List (MU×Obj)) (s:MW) (σ:St) (H:Hp) (Q:Bool->Hp->Prop),Inv X pins σ H s->tt σ H Q->
  M5 (M9 X.prog X.w) X.A (forIn ifs true fun c r=>if r=true then do let ok <- Rc c X.env (eval c X.env);pure (ForInStep.yield ok)else pure (ForInStep.yield r)) (TP X pins σ Q) X.xe s
theorem Gm{X:Cx}:FR X [] (fun _ H Q=>Q true H):=fun pins s σ H Q I h=>wpAny_tests_nil ⟨H,I,h⟩
theorem Gk{X:Cx}{c:Np}{tt:TT}(h:PT X c tt):FR X [c] tt:=fun pins s σ H Q I q=>wpAny_tests_one (h pins s σ H Q I q)
def BM(ent:St->St)(wi:TI)(g:TG)(tt:TT)(te:TE):TE:=fun σ H Q=>wi σ H fun J H1=>∀ D,H1 D=none->∃ W:Nat->Nat->List V->St->Hp->Prop,(∃ m,W 0 m [] (ent σ) (bG H1 D (.lst [])))/\
 ∀ i m ys σ1 H2,W i m ys σ1 H2->H2 D=some (.lst ys)/\((J.stop i H2/\Q (.ref D) H2)\/(J.go i H2/\∃ N:List V->St->Hp->Prop,(∀ ys' σ' H',N ys' σ' H'->∃ m',m' < m/\W (i+1) m' ys' σ' H')/\
  ∀ x H',J.yld i H2 x H'->g x σ1 H' fun σ2 H3=>tt σ2 H3 fun b H4=>if b=true then te σ2 H4 fun y H5=>H5 D=some (.lst ys)/\ys.length < M4/\N (ys ++ [y]) σ2 (bG H5 D (.lst (ys ++ [y])))else N ys σ2 H4))
theorem iF{scope:Pc}{env:Env}(U2:∀ y∈scope.names,y.2≠.cell){x:Str}(h:(QP scope env).names.lookup x=some .cell\/(QP scope env).names.lookup x=some .free):∃ y∈scope.names,y.1=x/\y.2=.free:=by
 have go:∀ (names:List (Str×PB)),(∀ y∈names,y.2≠.cell)->∀ k,(names.map fun (n,k)=>if (k == .free && env.scope.kind == .function && env.kindOf n == some .cell)then (n,NameKind.cell)else (n,k)).lookup x=some k->(k=.cell\/k=.free)->∃ y∈names,y.1=x/\y.2=.free:=by
  intro names
  induction names with
  | nil=>intro _ k e _;simp at e
  | cons y r ih=>
   obtain⟨n,kd⟩:=y;intro hc k e hk;rw[Nk,Oe]at e;split at e
   ·rename_i hb;cases e;have nc:kd≠.cell:=hc (n,kd) M8;refine⟨(n,kd),M8,?_,?_⟩
    ·split at hb
     ·simpa using (eq_of_beq hb).symm
     ·simpa using (eq_of_beq hb).symm
    ·split at hk
     ·rename_i hq;simp only[Bool.and_eq_true]at hq
      simpa using hq.1.1
     ·rcases hk with hk|hk
      ·exact absurd hk nc
      ·exact hk
   ·obtain⟨y,hy,q⟩:=ih (fun y hy=>hc y (M3 _ hy)) k e hk;exact⟨y,M3 _ hy,q⟩
 rcases h with h|h
 ·exact go scope.names U2 _ h (.inl rfl)
 ·exact go scope.names U2 _ h (.inr rfl)
theorem m_{scope:Pc}{env:Env}{x:Str}(h:(QP scope env).names.lookup x=some .local):∃ y∈scope.names,y.1=x/\y.2=.local:=by
 have go:∀ (names:List (Str×PB)),(names.map fun (n,k)=>if (k == .free && env.scope.kind == .function && env.kindOf n == some .cell)then (n,NameKind.cell)else (n,k)).lookup x=some .local->∃ y∈names,y.1=x/\y.2=.local:=by
  intro names
  induction names with
  | nil=>intro e;simp at e
  | cons y r ih=>
   obtain⟨n,kd⟩:=y;intro e;rw[Nk,Oe]at e;split at e
   ·rename_i hb;refine⟨(n,kd),M8,?_,?_⟩
    ·split at hb
     ·simpa using (eq_of_beq hb).symm
     ·simpa using (eq_of_beq hb).symm
    ·split at e
     ·cases e
     ·simpa using e
   ·obtain⟨y,hy,q⟩:=ih e;exact⟨y,M3 _ hy,q⟩
 exact go scope.names h
structure CompOk(X:Cx)(scope:Pc)(T M:List Str):Prop where
 calm:X.calm=true
 kind:scope.kind=.function
 cell:∀ y∈scope.names,y.2≠.cell
 names:∀ y∈scope.names,y.2=.local->scope.names.lookup y.1=some .local
 loc:∀ y∈scope.names,y.2=.local->y.1∈((".0":Str)::T)
 len:M.length=X.N.length
 sub:∀ (i:Nat) x,M[i]?=some x->X.N[i]?=some x\/∀ y∈scope.names,y.1≠x
 off:∀ x∈M,x∉((".0":Str)::T)
 free:∀ y∈scope.names,y.2=.free->X.env.kindOf y.1=some .cell\/X.env.kindOf y.1=some .free
def ent(T:List Str)(σ:St):St:=T.map (fun _=>none) ++ σ
section
variable{X:Cx}{pins:List (MU×Obj)}{σ:St}{H:Hp}{s:MW}
theorem Inv.block{scope:Pc}{T M:List Str}{fp:List MU}{h₁:No}{tk:Nat}{cl:List (Str×MU)}(I:Inv X pins σ H s)(ok:CompOk X scope T M)(hf:∀ b∈fp,qW X pins H b)(ho:∀ b∈fp,∃ o,s.heap.get? b=some o)
  (hc1:∀ x c,cl.lookup x=some c->X.env.cells.lookup x=some c) (hc2:∀ x∈scope.names,x.2=.free->∃ c,cl.lookup x.1=some c)
  (hns:h₁.Ns s.heap.objs.size fun _=>none) (kp:∀ b o,s.heap.get? b=some o->h₁.get? b=some o):
  Inv (bP X (T ++ M) scope cl s.heap.objs.size s H fp) [] (ent T σ) H { s with heap:=h₁,toks:=tk }:=by
 have fpC:∀ b∈fp,b≠s.heap.objs.size:=fun b hb z=>by
  obtain⟨o,e⟩:=ho b hb;exact absurd (Nc e) (by rw[z];exact Nat.lt_irrefl _)
 have cellsOk:∀ x c,(bP X (T ++ M) scope cl s.heap.objs.size s H fp).env.cells.lookup x=some c->X.env.cells.lookup x=some c:=hc1;refine⟨⟨I.ok.mod,ok.kind,I.ok.glob,I.ok.blt,le_refl _,fun x y c h1 h2=>I.ok.inj x y c (hc1 x c h1) (hc1 y c h2),fun x hx=>?_,(fun x c h=>absurd h (by show ¬ (false=true);decide)),I.ok.hd,I.ok.frames,.inl rfl,fun b hb=>⟨fpC b hb,fun x c e=>(hf b hb).2.2.2.2.1 x c (hc1 x c e)⟩,I.bs,le_trans I.ok.bsz I.sz,fun b o e hb=>?_,fun b hb hs=>?_,I.stack,I.stkFree⟩,
  rfl,I.bare,Un.kept kp,⟨_,hns,fun i x v e1 e2 e3=>?_⟩,fun x c e=>?_,I.hok.fresh (le_refl _),fun x c e=>I.freeC x c (hc1 x c e),fun p hp=>absurd (show p∈([]:List (MU×Obj))from hp) (by simp),I.hok.kept kp,?_⟩
 ·obtain⟨y,hy,e,hfr⟩:=iF ok.cell hx;rw[<- e];exact hc2 y hy hfr
 ·rcases (hf b hb).2.2.2.1 with z|z
  ·exact I.ok.noex b o e z
  ·exact absurd (Nt (Nc e) (le_trans I.ok.bsz z)) (Nat.lt_irrefl _)
 ·rcases NH.mp (I.stkSub b hs)with z|z
  ·exact (hf b hb).2.1 z
  ·exact (hf b hb).2.2.1 z
 ·-- a name that is known: it is drawn from around
  have hi:T.length<=i:=by
   refine Nat.le_of_not_lt fun hlt=>?_;unfold ent at e2;rw[List.getElem?_append_left (by simpa using hlt),Ng]at e2
   cases q:T[i]? with
   | none=>rw[q]at e2;cases e2
   | some z=>rw[q]at e2;cases e2
  have e0':M[i - T.length]?=some x:=by
   have:=e1;show M[i - T.length]?=some x
   rw[<- List.getElem?_append_right hi];exact this
  have e1':X.N[i - T.length]?=some x:=by
   rcases ok.sub _ x e0' with z|z
   ·exact z
   ·exfalso;rcases e3 with e3|e3|e3
    ·obtain⟨y,hy,e,hl⟩:=m_ e3;exact z y hy e
    ·obtain⟨y,hy,e,_⟩:=iF ok.cell (.inl e3);exact z y hy e
    ·obtain⟨y,hy,e,_⟩:=iF ok.cell (.inr e3);exact z y hy e
  have e2':σ[i - T.length]?=some (some v):=by
   unfold ent at e2;rw[List.getElem?_append_right (by simpa using hi),MY]at e2
   exact e2
  have U1:(QP scope X.env).names.lookup x=some .cell\/(QP scope X.env).names.lookup x=some .free:=by
   rcases e3 with e3|e3|e3
   ·obtain⟨y,hy,e,hl⟩:=m_ e3;exact absurd (by rw[<- e];exact ok.loc y hy hl) (ok.off x (Na e0'))
   ·exact .inl e3
   ·exact .inr e3
  obtain⟨y,hy,e,hfr⟩:=iF ok.cell U1;subst e;have hk:=ok.free y hy hfr;obtain⟨m,hn,hl⟩:=I.loc;obtain⟨u,r,l⟩:=hl _ _ v e1' e2' (by rcases hk with hk|hk;exact .inr (.inl hk);exact .inr (.inr hk))
  refine⟨u,r,.inr ⟨U1,?_⟩⟩;rcases l with ⟨l1,_⟩|⟨_,c,ec,z⟩
  ·rcases hk with hk|hk
   ·rw[hk]at l1;cases l1
   ·rw[hk]at l1;cases l1
  ·obtain⟨c',ec'⟩:=hc2 y hy hfr;have:=hc1 _ _ ec';rw[ec]at this;cases this;obtain⟨o,ho',hd⟩:=z;exact⟨c,ec',o,kp _ _ ho',hd⟩
 ·obtain⟨v,o,ho',hd⟩:=I.cell x c (hc1 x c e);exact⟨v,o,kp _ _ ho',hd⟩
 ·show (ent T σ).length=(T ++ M).length;unfold ent;rw[Nj,Nj,MY,I.len,ok.len]
end
section
variable{X:Cx}{elt tg iter:Np}{ifs:List Np}{scope:Pc}{T M:List Str}{pos:Pos}{wi:TI}{g:TG}{tt:TT}{te:TE}
theorem Ao{pins:List (MU×Obj)}{s2:MW}{σ:St}{H1:Hp}{Q:VK}{J:It}{it:MU}{fp:List MU}{tn:Nat->No->Prop}{cl:List (Str×MU)}{RR:MV->MU->RT->MW->Prop}{E:MV->MW->Prop}(ok:CompOk X scope T M)
  (hin:∀ cl C s₀ H₀ fp,PG (bP X (T ++ M) scope cl C s₀ H₀ fp) tg g/\FR (bP X (T ++ M) scope cl C s₀ H₀ fp) ifs tt/\PE (bP X (T ++ M) scope cl C s₀ H₀ fp) elt te)
  (hc1:∀ x c,cl.lookup x=some c->X.env.cells.lookup x=some c) (hc2:∀ x∈scope.names,x.2=.free->∃ c,cl.lookup x.1=some c)
  (I2:Inv X pins σ H1 s2) (Tn:Turn X.prog X.w X.K tg J fp it tn) (st2:tn 0 s2.heap) (f2:∀ b∈fp,qW X pins H1 b)
  (h:∀ D,H1 D=none->∃ W:Nat->Nat->List V->St->Hp->Prop,(∃ m,W 0 m [] (ent T σ) (bG H1 D (.lst [])))/\
   ∀ i m ys σ1 H2,W i m ys σ1 H2->H2 D=some (.lst ys)/\((J.stop i H2/\Q (.ref D) H2)\/(J.go i H2/\∃ N:List V->St->Hp->Prop,(∀ ys' σ' H',N ys' σ' H'->∃ m',m' < m/\W (i+1) m' ys' σ' H')/\
    ∀ x H',J.yld i H2 x H'->g x σ1 H' fun σ2 H3=>tt σ2 H3 fun b H4=>if b=true then te σ2 H4 fun y H5=>H5 D=some (.lst ys)/\ys.length < M4/\N (ys ++ [y]) σ2 (bG H5 D (.lst (ys ++ [y])))else N ys σ2 H4)))
  (hRR:∀ D C H' s',Inv X pins σ H' s'->(∃ m,s'.heap.Ns C m)->H' C=none->C≠X.env.locals->X.s₀.heap.objs.size<=C->(∀ x c,X.env.cells.lookup x=some c->c≠C)->(∀ p∈X.pn ++ pins,p.1≠C)->Q (.ref D) H'->RR (.ref D) C (.ok .next) s'):
  M5 (M9 X.prog X.w) X.A (newList []) (fun acc s₃=>M5 (M9 X.prog X.w) X.A (newFunctionEnv scope X.env.globals cl [] X.env.qual none .none (some X.env)) (fun cenv s₄=>
   Ps (M9 X.prog X.w) X.A (.compStart (.ListComp elt [⟨tg,iter,ifs,0⟩] scope pos) 0 (.ref it) acc { cenv with scope:=QP scope X.env }) (RR acc cenv.locals) s₄) E s₃) E s2:=by
 refine NC ?_;have hD:H1 s2.heap.objs.size=none:=I2.hok.fresh (le_refl _);obtain⟨W,⟨m0,w0⟩,turn⟩:=h _ hD;have I3:Inv X pins σ (bG H1 s2.heap.objs.size (.lst [])) { s2 with heap:=s2.heap.push { cls:=.type "list",data:=.seq ([]:List MV).toArray } }:=I2.lnew (t':=s2.toks) .nil (NI _)
 have f3:∀ b∈fp,qW X pins (bG H1 s2.heap.objs.size (.lst [])) b:=fun b hb=>by
  have q:=f2 b hb;obtain⟨o,e,_⟩:=Tn.obj 0 _ st2 b hb;exact⟨by rw[aB (NB (Nc e))];exact q.1,q.2⟩
 have st3:tn 0 (s2.heap.push { cls:=.type "list",data:=.seq ([]:List MV).toArray }):=Tn.keep _ _ _ st2 fun b _ o e=>M0 _ e;generalize hs3:({ s2 with heap:=s2.heap.push { cls:=.type "list",data:=.seq ([]:List MV).toArray } }:MW)=s3 at I3 ⊢
 have VD:tn 0 s3.heap:=by rw[<- hs3];exact st3
 generalize hH3:bG H1 s2.heap.objs.size (.lst [])=H3 at I3 f3 w0;generalize hDD:s2.heap.objs.size=D at *
 refine wpAny_newFunctionEnv ok.cell (by intro y hy;simp at hy) (fun h₁ V1 hsb₁=>?_) ok.kind
 have kp:∀ b o,s3.heap.get? b=some o->h₁.get? b=some o:=fun b o e=>hsb₁.extBut b o (NB (Nc e)) (M0 _ e);have hns:h₁.Ns s3.heap.objs.size fun _=>none:=by simpa using V1
 have I4:Inv (bP X (T ++ M) scope cl s3.heap.objs.size s3 H3 fp) [] (ent T σ) H3 { s3 with heap:=h₁,toks:=s3.toks+([]:List (Str×MV)).length }:=
  I3.block ok f3 (fun b hb=>let ⟨o,e,_⟩:=Tn.obj 0 _ VD b hb;⟨o,e⟩) hc1 hc2 hns kp
 have st4:tn 0 h₁:=Tn.keep _ _ _ VD fun b _ o e=>kp b o e;obtain⟨hG,hT,hE⟩:=hin cl s3.heap.objs.size s3 H3 fp;have back:∀ {TJ:List (MU×Obj)} {σ':St} {H':Hp} {s':MW},Inv (bP X (T ++ M) scope cl s3.heap.objs.size s3 H3 fp) TJ σ' H' s'->Inv X pins σ H' s':=fun {TJ σ' H' s'} I'=>
  I3.call' (ch:=fp) I'.os I'.base I'.hok I'.bare fun b hb=>let q:=f3 b hb;⟨q.2.2.2.1,q.2.1,q.2.2.2.2.1,q.2.2.2.2.2⟩
 have loop:∀ s4:MW,Inv (bP X (T ++ M) scope cl s3.heap.objs.size s3 H3 fp) [] (ent T σ) H3 s4->tn 0 s4.heap->
   Ps (M9 X.prog X.w) X.A (.compLoop (.ListComp elt [⟨tg,iter,ifs,0⟩] scope pos) 0 (.ref it) (.ref D) (compEnvC scope cl s3.heap.objs.size X.env)) (RR (.ref D) s3.heap.objs.size) s4:=by
  intro s4 I4 st4;have fpX:∀ {TJ:List (MU×Obj)} {H':Hp},TJ=[]->(∀ b∈fp,H' b=none)->∀ b∈fp,qW (bP X (T ++ M) scope cl s3.heap.objs.size s3 H3 fp) TJ H' b:=fun {TJ H'} ep hn b hb=>by
   subst ep;refine⟨hn b hb,(I4.ok.exf b hb).1,I4.ok.exfs b hb,.inl hb,(I4.ok.exf b hb).2,fun p hp=>absurd (show p∈([]:List (MU×Obj))from hp) (by simp)⟩
  refine my (fun n s'=>∃ i ys σ' H',Inv (bP X (T ++ M) scope cl s3.heap.objs.size s3 H3 fp) [] σ' H' s'/\tn i s'.heap/\(∀ b∈fp,H' b=none)/\W i n ys σ' H') ?_ m0 ⟨0,[],ent T σ,H3,I4,st4,fun b hb=>(f3 b hb).1,w0⟩
  rintro n s5 ⟨i,ys,σ5,H5,I5,st5,fr5,w5⟩
  obtain⟨hDl,hstep⟩:=turn i n ys σ5 H5 w5;rcases hstep with ⟨stop,qn⟩|⟨go,N,hN,step⟩
  ·refine cY (Tn.done (bP X (T ++ M) scope cl s3.heap.objs.size s3 H3 fp) rfl rfl rfl ok.calm i [] s5 _ H5 _ I5 (fpX rfl fr5) st5 stop) fun r s6 zz=>?_;obtain⟨hr,I6⟩:=zz;subst hr;have I7:=back I6;obtain⟨m,hm,_⟩:=I6.loc;refine hRR D s3.heap.objs.size H5 s6 I7 ⟨m,hm⟩ I6.free ?_ ?_ ?_ ?_ qn
   ·exact Qy I3.lt
   ·exact I3.sz
   ·intro x c e z;obtain⟨v,q⟩:=I3.cell x c e;exact absurd q.lt (by rw[z];exact Nat.lt_irrefl _)
   ·intro p hp z;exact absurd (Nc (I3.pin p hp).1) (by rw[z];exact Nat.lt_irrefl _)
  ·refine cY (Tn.item (bP X (T ++ M) scope cl s3.heap.objs.size s3 H3 fp) rfl rfl rfl ok.calm i [] s5 _ H5 _ I5 (fpX rfl fr5) st5 go) fun r s6 zz=>?_;obtain⟨u,hr,h6⟩:=zz;subst hr;refine cY h6 fun _ s7 zz=>?_;obtain⟨x,H7,I7,r7,y7,st7,fr7⟩:=zz;have I7':=I7.pinned (fpX rfl fr7) (Tn.obj _ _ st7);refine cY (hG _ s7 _ H7 x u _ I7' r7 (step x H7 y7)) fun _ s8 zz=>?_;obtain⟨σ8,H8,I8,q8⟩:=zz;have again:∀ {s9:MW} {H9:Hp} {ys':List V},Inv (bP X (T ++ M) scope cl s3.heap.objs.size s3 H3 fp) ([] ++ qk fp s7.heap) σ8 H9 s9->N ys' σ8 H9->
     ∃ m,m < n/\∃ i ys σ' H',Inv (bP X (T ++ M) scope cl s3.heap.objs.size s3 H3 fp) [] σ' H' s9/\tn i s9.heap/\(∀ b∈fp,H' b=none)/\W i m ys σ' H':=fun {s9 H9 ys'} I9 n9=>by
    obtain⟨m',hm,w9⟩:=hN ys' σ8 H9 n9;refine⟨m',hm,i+1,ys',σ8,H9,I9.unpinned,Tn.keep _ _ _ st7 fun b hb o e=>(I9.pin (b,o) (Nx _ (Nx _ (je hb e)))).1,fun b hb=>?_,w9⟩;obtain⟨o,e,d⟩:=Tn.obj _ _ st7 b hb;exact (I9.pin (b,o) (Nx _ (Nx _ (je hb e)))).2.1
   refine cY (hT _ s8 σ8 H8 _ I8 q8) fun b s9 zz=>?_;obtain⟨H9,I9,q9⟩:=zz;cases b with
   | false=>exact again I9 q9
   | true=>
    refine cY (hE _ s9 σ8 H9 _ I9 q9) fun u10 s10 zz=>?_;obtain⟨y,H10,I10,r10,e10,l10,n10⟩:=zz;refine cY (ww (X:=bP X (T ++ M) scope cl s3.heap.objs.size s3 H3 fp) _ s10 σ8 H10 (.ref D) [y] (.ref D) [u10] (fun v H'=>v=.non/\H'=bG H10 D (.lst (ys ++ [y]))) I10 rfl (.cons r10 .nil) ⟨D,ys,y,rfl,rfl,e10,l10,rfl,rfl⟩) fun u11 s11 zz=>?_;obtain⟨z,H11,I11,r11,_,e11⟩:=zz;subst e11;exact again I11 n10
 exact codeAny_compStart_list (loop _ I4 st4) (Tn.self _ 0 _ _ _ st4 (loop _ I4 st4))
theorem Cm(ok:CompOk X scope T M){pins:List (MU×Obj)}{σ:St}{H:Hp}{s:MW}(I:Inv X pins σ H s):∃ cl,RL scope X.env=pure cl/\(∀ x c,cl.lookup x=some c->X.env.cells.lookup x=some c)/\(∀ x∈scope.names,x.2=.free->∃ c,cl.lookup x.1=some c):=
 By scope.names scope rfl fun x hx hf=>I.ok.has x.1 (ok.free x hx hf)
theorem BZ(ok:CompOk X scope T M)
  (hin:∀ cl C s₀ H₀ fp,PG (bP X (T ++ M) scope cl C s₀ H₀ fp) tg g/\FR (bP X (T ++ M) scope cl C s₀ H₀ fp) ifs tt/\PE (bP X (T ++ M) scope cl C s₀ H₀ fp) elt te)
  (hi:PI X tg iter wi) (hs:∀ x,NZ iter X.env x=pure x:=by intro _;rfl):PE X (.ListComp elt [⟨tg,iter,ifs,0⟩] scope pos) (BM (ent T) wi g tt te):=by
 intro pins s σ H Q I h;obtain⟨cl,hcl,hc1,hc2⟩:=Cm ok I;rw[eval_ListComp];refine QY (use:=none) rfl hs hcl ok.kind ok.names (cY (hi pins s σ H _ I h) fun v s1 h1=>cY h1 fun itv s2 h2=>?_);obtain⟨it,fp,tn,J,H2,e,I2,Tn,st2,f2,hh⟩:=h2;subst e;refine Ao (Q:=Q) (RR:=fun acc C=>compPost (M9 X.prog X.w) X.A X.xe none (EP X pins σ Q) acc C) ok hin hc1 hc2 I2 Tn st2 f2 hh ?_;intro D C H' s' I' hm hn n1 n2 n3 n4 q;obtain⟨m,hm⟩:=hm;exact⟨m,hm,fun h' sb=>⟨.ref D,H',I'.turned (t':=s'.toks) (fun b o hb e=>(sb.2 b hb).trans e) hn (Ne.symm (Ne.symm n1)) (.inr n2) n3 n4,rfl,q⟩⟩
theorem Gs{i:Nat}{x:Str}{px spos:Pos}(ok:CompOk X scope T M)(hN:X.N.Nodup)(hix:X.N[i]?=some x)(hx:X.env.scope.names.lookup x=some .local)
  (hin:∀ cl C s₀ H₀ fp,PG (bP X (T ++ M) scope cl C s₀ H₀ fp) tg g/\FR (bP X (T ++ M) scope cl C s₀ H₀ fp) ifs tt/\PE (bP X (T ++ M) scope cl C s₀ H₀ fp) elt te)
  (hi:PI X tg iter wi) (hsw:OP (.ListComp elt [⟨tg,iter,ifs,0⟩] scope pos) (some (.Name x px)) spos.line X.env=pure true:=by rfl) (hs:∀ x,NZ iter X.env x=pure x:=by intro _;rfl):
  PS X (.Assign [.Name x px] (.ListComp elt [⟨tg,iter,ifs,0⟩] scope pos) spos) (Iu (gh (BM (ent T) wi g tt te)) (Ah i)):=by
 intro pins s σ H D3 I h;obtain⟨cl,hcl,hc1,hc2⟩:=Cm ok I;rw[exec_Assign_Name_used _ _ _ _ hsw];refine MT (Qm (MT ?_));show M5 _ X.A (do let _ <- comprehension (.ListComp elt [⟨tg,iter,ifs,0⟩] scope pos) scope X.env _ (newList []) false (eval iter X.env) (some (assign (.Name x px) X.env))) _ _ s
 refine MT (NR (QY (use:=some (assign (.Name x px) X.env)) (Q:=fun _ s'=>SP X pins D3 .next s') rfl hs hcl ok.kind ok.names
  (cY (hi pins s σ H _ I h) fun v s1 h1=>cY h1 fun itv s2 h2=>?_)) (fun _ s' hq=>MX (MX hq)) fun _ _ e=>e)
 obtain⟨it,fp,tn,J,H2,e,I2,Tn,st2,f2,hh⟩:=h2;subst e;refine Ao (Q:=fun v H1=>Ah i v σ H1 D3.nx\/∃ p xs,v=.ref p/\H1 p=some (.lst xs)/\∀ o,Ah i v σ (bG H1 p (.frz o (.lst xs))) D3.nx) (RR:=fun acc C=>compPost (M9 X.prog X.w) X.A X.xe (some (assign (.Name x px) X.env)) (fun _ s'=>SP X pins D3 .next s') acc C) ok hin hc1 hc2 I2 Tn st2 f2 hh ?_;intro D C H' s' I' hm hn n1 n2 n3 n4 q;obtain⟨m,hm⟩:=hm;have fin:∀ {H'':Hp},Inv X pins σ H'' s'->H'' C=none->D3.nx (σ.set i (some (.ref D))) H''->
   M5 (M9 X.prog X.w) X.A (assign (.Name x px) X.env (.ref D)) (fun _ s''=>∃ m,s''.heap.Ns C m/\∀ h',OE C s''.heap h'->SP X pins D3 .next { s'' with heap:=h' }) X.xe s':=fun {H''} J' hn' q'=>by
  refine RV (wb (v:=V.ref D) J' hN hix (.inl hx) rfl (fun s'' I'' ⟨a,sb,ha⟩=>?_) (.inr hx));have aC:C≠a:=by
   rcases ha with z|z
   ·rw[z];exact n1
   ·exact fun y=>n3 _ _ z y.symm
  refine⟨m,hm.sameBut sb aC,fun h' sb'=>⟨_,H'',I''.turned (t':=s''.toks) (fun b o hb e=>(sb'.2 b hb).trans e) hn' n1 (.inr n2) n3 n4,q'⟩⟩
 rcases q with q|⟨p,xs,ep,e1,q⟩
 ·exact fin I' hn q
 ·obtain⟨o,I''⟩:=I'.freeze e1;refine fin I'' ?_ (q o);rw[aB (fun z=>by subst z;rw[hn]at e1;cases e1)];exact hn
end
section
variable{X:Cx}{tg:Np}
theorem PG.imp{e:Np}{t t':TG}(h:PG X e t)(i:∀ v σ H Q,t' v σ H Q->t v σ H Q):PG X e t':=fun pins s σ H v u Q I r q=>h pins s σ H v u Q I r (i v σ H Q q)
theorem FK.imp{es:List Np}{t t':Hw}(h:FK X es t)(i:∀ vs σ H Q,t' vs σ H Q->t vs σ H Q):FK X es t':=fun pins s σ H v u Q I r q=>h pins s σ H v u Q I r (i v σ H Q q)
theorem PI.imp{e:Np}{t t':TI}(h:PI X tg e t)(i:∀ σ H R,t' σ H R->t σ H R):PI X tg e t':=fun pins s σ H R I q=>h pins s σ H R I (i σ H R q)
variable{pins:List (MU×Obj)}{σ:St}{H:Hp}{s:MW}{R:It->Hp->Prop}{E:MV->MW->Prop}{a:MU}{xs:List V}
theorem qI(I:Inv X pins σ H s)(hq:kP X.K H a xs)(q:R (Ln X.K a) H):M5 (M9 X.prog X.w) X.A (Pu (.ref a)) (Ib X pins σ tg R) E s:=by
 obtain⟨its,rv,p,hz⟩:=I.list hq;refine PF p.isList ?_;refine⟨s.heap.objs.size,[s.heap.objs.size],_,_,H,rfl,I.kept (t':=s.toks) fun b o e=>M0 _ e,CC a _,⟨_,M6 _ rfl,rfl,rfl⟩,fun b hb=>?_,q⟩;have e:b=s.heap.objs.size:=by simpa using hb
 subst e;exact I.fpOk (le_refl _) (I.hok.fresh (le_refl _))
theorem zX(I:Inv X pins σ H s)(hq:kT X.K H a xs)(q:R (Ml X.K a) H):M5 (M9 X.prog X.w) X.A (Pu (.ref a)) (Ib X pins σ tg R) E s:=by
 obtain⟨its,rv,p,hz⟩:=I.tuple hq;refine wpAny_pyIter_tuple (show s.heap.IsTuple a its.toArray from p) ?_
 refine⟨s.heap.objs.size,[s.heap.objs.size],_,_,H,rfl,I.kept (t':=s.toks) fun b o e=>M0 _ e,AF a _,⟨_,M6 _ rfl,rfl,rfl⟩,fun b hb=>?_,q⟩;have e:b=s.heap.objs.size:=by simpa using hb
 subst e;exact I.fpOk (le_refl _) (I.hok.fresh (le_refl _))
theorem zY{z:Str}{t:Tok}(I:Inv X pins σ H s)(q:R (Mm (dQ z)) H):M5 (M9 X.prog X.w) X.A (Pu (.str z t)) (Ib X pins σ tg R) E s:=by
 have fin:∀ (ty:String),(ty="str_ascii_iterator"\/ty="str_iterator")->Ib X pins σ tg R (.ref s.heap.objs.size) { s with heap:=s.heap.push { cls:=.type ty,data:=.fields #[.str z t,.int 0 0] } }:=fun ty hty=>by
  refine⟨s.heap.objs.size,[s.heap.objs.size],_,_,H,rfl,I.kept (t':=s.toks) fun b o e=>M0 _ e,DY _ z t ty hty,⟨_,M6 _ rfl,rfl,rfl⟩,fun b hb=>?_,q⟩;have e:b=s.heap.objs.size:=by simpa using hb
  subst e;exact I.fpOk (le_refl _) (I.hok.fresh (le_refl _))
 cases ha:z.cps.all (· < 128)
 ·exact wpAny_pyIter_wide ha (fin _ (.inr rfl))
 ·exact wpAny_pyIter_ascii ha (fin _ (.inl rfl))
end
end L2
namespace L3
open PySem PySem.Spec PyProof.Rows L2
abbrev uO:=D->gv->Gp->(gv->Gp->Prop)->Prop
abbrev DF:=List D->gv->Gp->(gv->Gp->Prop)->Prop
def jN(K:PySem.W.Frag)(g:uO):TG:=fun v τ H Q=>∃ d σ G Q3,RD K H d v/\RS K H σ τ/\RG K H G/\g d σ G Q3/\∀ σ' G' τ' H',Q3 σ' G'->Kp G H G' H'->RG K H' G'->RS K H' σ' τ'->Q τ' H'
def x8(K:PySem.W.Frag)(g:DF):Hw:=fun vs τ H Q=>∃ ds σ G Q3,RDs K H ds vs/\RS K H σ τ/\RG K H G/\g ds σ G Q3/\∀ σ' G' τ' H',Q3 σ' G'->Kp G H G' H'->RG K H' G'->RS K H' σ' τ'->Q τ' H'
def gN(i:Nat):uO:=fun d σ G Q=>Q (σ.set i (some d)) G
def pD:DF:=fun ds σ G Q=>match ds with
 | []=>Q σ G
 | _=>False
def fx(t:uO)(u:DF):DF:=fun ds σ G Q=>match ds with
 | d::r=>t d σ G fun σ' G'=>u r σ' G' Q
 | []=>False
def pC(n:Nat)(t:DF):uO:=fun d σ G Q=>match d with
 | .tup ds=>ds.length=n/\t ds σ G Q
 | _=>False
section
variable{X:Cx}{pos:Pos}{e:Np}{es:List Np}{t:uO}{u:DF}
theorem bg{i:Nat}{x:Str}(hN:X.N.Nodup)(hi:X.N[i]?=some x)(hx:JV X.env.scope x)(hf:X.fn x=true\/X.env.scope.names.lookup x=some .local:=by first|exact .inl rfl|exact .inr rfl|assumption):PG X (.Name x pos) (jN X.K (gN i)):=
 (Gy hN hi hx hf).imp fun v τ H Q zz=>by
 obtain⟨d,σ,G,Q3,rd,rs,rg,h,k⟩:=zz;exact (
  k _ G _ H h Kp.refl rg (rs.set rd i))
theorem Ag:FK X [] (x8 X.K pD):=Gx.imp fun vs τ H Q zz=>by
 obtain⟨ds,σ,G,Q3,rd,rs,rg,h,k⟩:=zz;cases ds with
 | nil=>exact⟨rd.inv_nil,k _ G _ H h Kp.refl rg rs⟩
 | cons _ _=>exact h.elim
theorem jg(h1:PG X e (jN X.K t))(h2:FK X es (x8 X.K u))(hs:(OD (e::es) X.env).map (·.2)=assign e X.env::(OD es X.env).map (·.2):=by rfl):FK X (e::es) (x8 X.K (fx t u)):=
 (EL h1 h2 hs).imp fun vs τ H Q zz=>by
  obtain⟨ds,σ,G,Q3,rd,rs,rg,h,k⟩:=zz;cases ds with
  | nil=>exact h.elim
  | cons d r=>
   obtain⟨x,xs,e1,r1,r2⟩:=rd.inv_cons;refine⟨x,xs,e1,d,σ,G,_,r1,rs,rg,h,fun σ' G' τ' H' q k' rg' rs'=>⟨r,σ',G',Q3,RDs.mono (k'.stb rg) _ _ r2,rs',rg',q,fun σ2 G2 τ2 H2 q2 k2=>k σ2 G2 τ2 H2 q2 (k'.trans k2)⟩⟩
theorem Af{k:Nat}{n:Nat}(hc:X.calm=true)(h:FK X es (x8 X.K u))(hn:(OD es X.env).length=n:=by rfl)(hst:(OD es X.env).findIdx? (·.1)=none:=by rfl):PG X (.Tuple es k pos) (jN X.K (pC n u)):=
 (II hc h hn hst).imp fun v τ H Q zz=>by
  obtain⟨d,σ,G,Q3,rd,rs,rg,h,k⟩:=zz;cases d with
  | tup ds=>
   simp only[RD]at rd;obtain⟨a,xs,e1,q,r⟩:=rd;exact⟨a,xs,e1,q,by rw[<- r.length];exact h.1,ds,σ,G,Q3,r,rs,rg,h.2,k⟩
  | _=>exact h.elim
end
abbrev FQ:=gv->Gp->(List D->Gp->Prop)->Prop
def yM(K:PySem.W.Frag)(G0:Gp)(H0:Hp)(ds:List D)(J:It):Prop:=∀ i G H,Kp G0 H0 G H->RG K H G->
 (i < ds.length->J.go i H/\∀ x H',J.yld i H x H'->Kp G H G H'/\RG K H' G/\∃ d,ds[i]?=some d/\RD K H' d x)/\(i=ds.length->J.stop i H)
def rj(K:PySem.W.Frag)(ti:FQ):TI:=fun τ H R=>∃ σ G Q3,RS K H σ τ/\RG K H G/\ti σ G Q3/\∀ ds G' J H',Q3 ds G'->Kp G H G' H'->RG K H' G'->yM K G' H' ds J->R J H'
def signs(x:Str):List D:=x.cps.toList.map fun c=>D.str ⟨#[c]⟩
theorem Ce{K:PySem.W.Frag}{G0:Gp}{H0:Hp}{ds:List D}{xs:List V}(r:∀ H,RDs K H ds xs):yM K G0 H0 ds (Mm xs):=fun i G H _ rg=>by
 have hl:=(r H).length;refine⟨fun hi=>⟨(show i < xs.length by walk_at "o"),fun x H' y=>?_⟩,fun e=>(show i=xs.length by walk_at "o")⟩
 obtain⟨rfl,hx⟩:=y;refine⟨Kp.refl,rg,ds[i],by simp[hi],?_⟩
 obtain⟨y,e,q⟩:=(r H').get (i:=i) (d:=ds[i]) (by simp[hi])
 rw[hx]at e;cases e;exact q
theorem Cf{K:PySem.W.Frag}{G0:Gp}{H0:Hp}{ds:List D}{xs:List V}{a:MU}(rg0:RG K H0 G0)(f:FN K H0 a xs)(r:RDs K H0 ds xs):yM K G0 H0 ds (Ln K a):=fun i G H k rg=>by
 have hl:=r.length;have f':=(k.stb rg0).l _ _ f;have r':=RDs.mono (k.stb rg0) _ _ r;refine⟨fun hi=>⟨⟨xs,xs[i]'(by walk_at "o"),f'.sq,by simp[show i < xs.length by walk_at "o"]⟩,fun x H' y=>?_⟩,fun e=>⟨xs,f'.sq,by walk_at "o"⟩⟩
 obtain⟨rfl,hx⟩:=y;refine⟨Kp.refl,rg,ds[i],by simp[hi],?_⟩
 obtain⟨y,e,q⟩:=r'.get (i:=i) (d:=ds[i]) (by simp[hi])
 rw[hx xs f'.sq]at e;cases e;exact q
theorem Fg{K:PySem.W.Frag}{G0:Gp}{H0:Hp}{ds:List D}{xs:List V}{a:MU}(rg0:RG K H0 G0)(f:kT K H0 a xs)(r:RDs K H0 ds xs):yM K G0 H0 ds (Ml K a):=fun i G H k rg=>by
 have hl:=r.length;have f':=(k.stb rg0).t _ _ f;have r':=RDs.mono (k.stb rg0) _ _ r;refine⟨fun hi=>⟨⟨xs,xs[i]'(by walk_at "o"),f',by simp[show i < xs.length by walk_at "o"]⟩,fun x H' y=>?_⟩,fun e=>⟨xs,f',by walk_at "o"⟩⟩
 obtain⟨rfl,hx⟩:=y;refine⟨Kp.refl,rg,ds[i],by simp[hi],?_⟩
 obtain⟨y,e,q⟩:=r'.get (i:=i) (d:=ds[i]) (by simp[hi])
 rw[hx xs f']at e;cases e;exact q
def fN:D->Option (List D)
 | .lst ds=>some ds
 | .fl ds=>some ds
 | .tup ds=>some ds
 | .str x=>some (signs x)
 | _=>none
def fQ(te:bJ):FQ:=fun σ G Q=>te σ G fun d G'=>match fN d with
 | some ds=>Q ds G'
 | none=>False
def gJ(lo:Int)(n:Nat):List D:=(List.range n).map fun k=>D.int (lo+(k:Nat))
theorem z9{K:PySem.W.Frag}{G0:Gp}{H0:Hp}{lo:Int}{n:Nat}:yM K G0 H0 (gJ lo n) (Lm lo n):=fun i G H _ rg=>by
 have hl:(gJ lo n).length=n:=by simp[gJ]
 rw[hl];refine⟨fun hi=>⟨hi,fun x H' y=>?_⟩,fun e=>(show n<=i by walk_at "o")⟩
 obtain⟨rfl,rfl⟩:=y;exact⟨Kp.refl,rg,.int (lo+(i:Nat)),by simp[gJ,hi],eT⟩
def L8(ta:pQ):FQ:=fun σ G Q=>ta σ G fun ds G'=>match ds with
 | [.int j]=>(-(2 ^ 62)<=j/\j < 2 ^ 62)/\Q (gJ 0 j.toNat) G'
 | _=>False
def L7(ta:pQ):FQ:=fun σ G Q=>ta σ G fun ds G'=>match ds with
 | [.int i,.int j]=>(-(2 ^ 62)<=i/\i < 2 ^ 62/\-(2 ^ 62)<=j/\j < 2 ^ 62)/\Q (gJ i (j - i).toNat) G'
 | _=>False
section
variable{X:Cx}{tg e:Np}{te:bJ}
theorem eJ(h:PE X e (aJ X.K te)):PI X tg e (rj X.K (fQ te)):=by
 intro pins s τ H R I hq;obtain⟨σ,G,Q3,rs,rg,hq,k⟩:=hq;refine cY (d9 h pins s τ H (fun v H1=>∃ d G1,Kp G H G1 H1/\RG X.K H1 G1/\RD X.K H1 (val d) v/\(match fN d with|some ds=>Q3 ds G1|none=>False)) I ⟨σ,G,_,rs,rg,hq,fun d G' v H' q k' rg' rd=>⟨d,G',k',rg',rd,q⟩⟩) fun u s1 zz=>?_
 obtain⟨v,H1,I1,r1,d,G1,k1,rg1,rd,q⟩:=zz;have seq:∀ {a:MU} {xs:List V} {ds:List D},FN X.K H1 a xs->RDs X.K H1 ds xs->Q3 ds G1->M5 (M9 X.prog X.w) X.A (Pu (.ref a)) (Ib X pins τ tg R) X.xe s1:=fun f r q=>qI I1 f.sq (k _ G1 _ H1 q k1 rg1 (Cf rg1 f r));cases d with
 | lst ds=>
  simp only[val,RD]at rd;obtain⟨a,xs,rfl,f,r⟩:=rd;cases r1;exact seq f r q
 | fl ds=>
  simp only[val,RD]at rd;obtain⟨a,xs,rfl,f,r⟩:=rd;cases r1;exact seq f r q
 | tup ds=>
  simp only[val,RD]at rd;obtain⟨a,xs,rfl,f,r⟩:=rd;cases r1;exact zX I1 f (k _ G1 _ H1 q k1 rg1 (Fg rg1 f r))
 | str z=>
  simp only[val,RD]at rd;subst rd;obtain⟨t,rfl⟩:=r1;refine zY I1 (k _ G1 _ H1 q k1 rg1 (Ce fun H'=>?_));have:signs z=(z.cps.toList.map fun c=>(⟨#[c]⟩:Str)).map D.str:=by simp[signs]
  rw[this];have e2:dQ z=(z.cps.toList.map fun c=>(⟨#[c]⟩:Str)).map V.str:=by simp[dQ]
  rw[e2];exact RDs.strs _
 | _=>exact q.elim
theorem Fk{a:Np}{ta:pQ}{p pos:Pos}(hg:Gl X "range")(hm:X.mg "range"=none)(ha:PA X [a] (fC X.K ta))(hs:M_ [a] X.env=[(false,eval a X.env)]:=by rfl):PI X tg (.Call (.Name "range" p) [a] [] pos) (rj X.K (L8 ta)):=
 (CS hg hm ha hs).imp fun τ H R zz=>by
 obtain⟨σ,G,Q3,rs,rg,h,k⟩:=zz;exact (
  ⟨σ,G,_,rs,rg,h,fun ds G1 vs H1 q k1 rg1 rds=>by
    split at q
    ·rename_i j;obtain⟨x,r,e1,r1,r2⟩:=rds.inv_cons;have:=r2.inv_nil;simp only[RD]at r1;subst e1 this r1;exact⟨j,rfl,q.1.1,q.1.2,k _ G1 _ H1 q.2 k1 rg1 z9⟩
    ·exact q.elim⟩)
theorem Fj{a b:Np}{ta:pQ}{p pos:Pos}(hg:Gl X "range")(hm:X.mg "range"=none)(ha:PA X [a,b] (fC X.K ta))(hs:M_ [a,b] X.env=[(false,eval a X.env),(false,eval b X.env)]:=by rfl)(hs2:M_ [b] X.env=[(false,eval b X.env)]:=by rfl):
  PI X tg (.Call (.Name "range" p) [a,b] [] pos) (rj X.K (L7 ta)):=
 (CQ hg hm ha hs hs2).imp fun τ H R zz=>by
 obtain⟨σ,G,Q3,rs,rg,h,k⟩:=zz;exact (
  ⟨σ,G,_,rs,rg,h,fun ds G1 vs H1 q k1 rg1 rds=>by
    split at q
    ·rename_i i j;obtain⟨x,r,e1,r1,r2⟩:=rds.inv_cons;obtain⟨x',r',e1',r1',r2'⟩:=r2.inv_cons;have:=r2'.inv_nil;simp only[RD]at r1 r1';subst e1 e1' this r1 r1';exact⟨i,j,rfl,q.1,k _ G1 _ H1 q.2 k1 rg1 z9⟩
    ·exact q.elim⟩)
end
def ForIn(g:uO)(tb:cj)(E:Ends3)(σ:gv)(ds:List D)(G1:Gp):Prop:=∃ Pv:Nat->gv->Gp->Prop,Pv 0 σ G1/\
 (∀ (i:Nat) d σ' G',ds[i]?=some d->Pv i σ' G'->g d σ' G' fun σ2 G2=>tb { E with nx:=Pv (i+1),ct:=Pv (i+1),bk:=E.nx } σ2 G2)/\∀ σ' G',Pv ds.length σ' G'->E.nx σ' G'
def kz(ti:FQ)(g:uO)(tb:cj):cj:=fun D σ G=>ti σ G fun ds G1=>ForIn g tb D σ ds G1
theorem jF{X:Cx}{tg iter:Np}{body:List Nu}{ti:FQ}{g:uO}{tb:cj}{pos:Pos}(hp:Qj (M9 X.prog X.w) X.A X.env X.xe)(hc:X.calm=true)(hi:PI X tg iter (rj X.K ti))(hg:PG X tg (jN X.K g))(hb:rF X body (cL X.K tb))
  (hs:∀ x,NZ iter X.env x=pure x:=by intro _;rfl):PS X (.For tg iter body [] pos) (cL X.K (kz ti g tb)):=
 (EI hp hc hi hg hb hs).imp fun D τ H zz=>by
 obtain⟨σ,G,D3,rs,rg,h,k⟩:=zz;exact (
  ⟨σ,G,_,rs,rg,h,fun ds G1 J H1 q k1 rg1 it=>by
    obtain⟨Pv,p0,step,fin⟩:=q;refine⟨fun i m τ' H'=>m=ds.length - i/\i<=ds.length/\∃ σ' G',RS X.K H' σ' τ'/\RG X.K H' G'/\Pv i σ' G'/\Kp G1 H1 G' H',⟨ds.length,rfl,NI _,σ,G1,rs.mono (k1.stb rg),rg1,p0,Kp.refl⟩,?_⟩
    rintro i m τ' H' ⟨rfl,hi',σ',G',rs',rg',pv,k'⟩
    obtain⟨hgo,hstop⟩:=it i G' H' k' rg'
    by_cases hlt:i < ds.length
    ·obtain⟨go,yld⟩:=hgo hlt;refine .inr ⟨go,fun τ2 H2=>∃ σ2 G2,RS X.K H2 σ2 τ2/\RG X.K H2 G2/\Pv (i+1) σ2 G2/\Kp G1 H1 G2 H2,fun τ2 H2 ⟨σ2,G2,a,b,c,d⟩=>⟨ds.length - (i+1),by walk_at "o",rfl,hlt,σ2,G2,a,b,c,d⟩,fun x H2 y=>?_⟩
     obtain⟨ky,rgy,d,hd,rd⟩:=yld x H2 y;refine⟨d,σ',G',_,rd,rs'.mono (ky.stb rg'),rgy,step i d σ' G' hd pv,fun σ3 G3 τ3 H3 q3 k3 rg3 rs3=>?_⟩;have kk:Kp G1 H1 G3 H3:=k'.trans (ky.trans k3);have kG:Kp G H G3 H3:=k1.trans kk;refine⟨σ3,G3,_,rs3,rg3,q3,⟨fun σ4 G4 τ4 H4 q4 k4 rg4 rs4=>⟨σ4,G4,rs4,rg4,q4,kk.trans k4⟩,k.rt.base kG,fun σ4 G4 τ4 H4 q4 k4=>k.nx σ4 G4 τ4 H4 q4 (kG.trans k4),fun σ4 G4 τ4 H4 q4 k4 rg4 rs4=>⟨σ4,G4,rs4,rg4,q4,kk.trans k4⟩⟩⟩
    ·have e:i=ds.length:=by walk_at "o"
     refine .inl ⟨hstop e,k.nx σ' G' τ' H' (fin σ' G' (by rw[<- e];exact pv)) (k1.trans k') rg' rs'⟩⟩)
def iU:pP:=fun _ G Q=>Q true G
def yO(k:Nat)(g:uO)(tt:pP)(te:bJ)(σ:gv)(ds:List D)(G1:Gp)(Q:oa):Prop:=ds.length<=M4/\∃ Pv:Nat->List D->Gp->Prop,Pv 0 [] G1/\
 (∀ (i:Nat) d acc G',ds[i]?=some d->Pv i acc G'->g d (List.replicate k none ++ σ) G' fun σ2 G2=>(k<=σ2.length/\σ2.drop k=σ)/\tt σ2 G2 fun b G3=>if b=true then te σ2 G3 fun y G4=>Pv (i+1) (acc ++ [val y]) G4 else Pv (i+1) acc G3)/\
 ∀ acc G',Pv ds.length acc G'->Q (.fl acc) G'
def fk(k:Nat)(ti:FQ)(g:uO)(tt:pP)(te:bJ):bJ:=fun σ G Q=>ti σ G fun ds G1=>yO k g tt te σ ds G1 Q
theorem dZ{k:Nat}{g:uO}{te:bJ}{σ:gv}{ds:List D}{G1:Gp}{Q:oa}(f:D->D)(hl:ds.length<=M4)
  (he:∀ d∈ds,∀ P:oa,(∀ y,val y=f d->P y G1)->g d (List.replicate k none ++ σ) G1 fun σ2 G2=>(k<=σ2.length/\σ2.drop k=σ)/\te σ2 G2 P) (hq:Q (.fl (ds.map f)) G1):yO k g iU te σ ds G1 Q:=by
 refine⟨hl,fun i acc G'=>acc=(ds.take i).map f/\G'=G1,⟨by simp,rfl⟩,fun i d acc G' hd ⟨ha,hG⟩=>?_,fun acc G' ⟨ha,hG⟩=>?_⟩
 ·subst hG;exact he d (Na hd) (fun y G4=>acc ++ [val y]=(ds.take (i+1)).map f/\G4=G') fun y hy=>⟨by rw[ha,hy,NF,hd];simp,rfl⟩
 ·subst hG;rw[ha,ND];exact hq
theorem Ap{k:Nat}{g:uO}{tt:pP}{te:bJ}{σ:gv}{ds:List D}{G1:Gp}{Q:oa}(p:D->Bool)(f:D->D)(hl:ds.length<=M4)
  (he:∀ d∈ds,∀ (P:oa) (R:Gp->Prop),(p d=true->∀ y,val y=f d->P y G1)->(p d=false->R G1)->g d (List.replicate k none ++ σ) G1 fun σ2 G2=>(k<=σ2.length/\σ2.drop k=σ)/\tt σ2 G2 fun b G3=>if b=true then te σ2 G3 P else R G3)
  (hq:Q (.fl ((ds.filter p).map f)) G1):yO k g tt te σ ds G1 Q:=by
 refine⟨hl,fun i acc G'=>acc=((ds.take i).filter p).map f/\G'=G1,⟨by simp,rfl⟩,fun i d acc G' hd ⟨ha,hG⟩=>?_,fun acc G' ⟨ha,hG⟩=>?_⟩
 ·subst hG;have e:(ds.take (i+1)).filter p=(ds.take i).filter p ++ (if p d=true then [d]else []):=by
   rw[NF,hd,OV];cases hp:p d<;>simp[hp]
  refine he d (Na hd) (fun y G4=>acc ++ [val y]=((ds.take (i+1)).filter p).map f/\G4=G') (fun G4=>acc=((ds.take (i+1)).filter p).map f/\G4=G') (fun hp y hy=>⟨?_,rfl⟩) fun hp=>⟨?_,rfl⟩
  ·rw[e,hp,ha,hy];simp
  ·rw[e,hp,ha];simp
 ·subst hG;rw[ha,ND];exact hq
section
variable{X:Cx}{elt tg iter:Np}{ifs:List Np}{scope:Pc}{T M:List Str}{pos:Pos}{ti:FQ}{g:uO}{tt:pP}{te:bJ}
theorem Ej{K:PySem.W.Frag}{H:Hp}{σ:gv}{τ:St}(T:List Str)(r:RS K H σ τ):RS K H (List.replicate T.length none ++ σ) (ent T τ):=by
 unfold ent
 induction T with
 | nil=>exact r
 | cons a t ih=>exact .cons (show DM K H none none from trivial) ih
theorem p_{K:PySem.W.Frag}{H:Hp}:∀ (k:Nat) {σ:gv} {τ:St},k<=σ.length->RS K H σ τ->RS K H (List.replicate k none ++ σ.drop k) τ
 | 0,_,_,_,r=>r
 | k+1,[],_,h,_=>absurd h (by simp)
 | k+1,a::t,_,h,.cons _ r=>.cons (show DM K H none _ from trivial) (p_ k (by simpa using h) r)
theorem wG{K:PySem.W.Frag}{τ:St}{H:Hp}{Q:VK}(h:aJ K (fk T.length ti g tt te) τ H Q):
  BM (ent T) (rj K ti) (jN K g) (dY K tt) (wx K te) τ H Q:=by
 obtain⟨σ,G,Q3,rs,rg,h,k⟩:=h;refine⟨σ,G,_,rs,rg,h,fun ds G1 J H1 q k1 rg1 it Da hD=>?_⟩;obtain⟨hsz,Pv,p0,step,fin⟩:=q;have kD:Kp G1 H1 G1 (bG H1 Da (.lst [])):=Kp.laid hD;have rgD:RG K (bG H1 Da (.lst [])) G1:=rg1.laid hD;have gD:G1 Da=none:=rg1.free hD;refine⟨fun i m ys τ2 H2=>m=ds.length - i/\i<=ds.length/\∃ acc G2,H2 Da=some (.lst ys)/\G2 Da=none/\RG K H2 G2/\RS K H2 (List.replicate T.length none ++ σ) τ2/\RDs K H2 acc ys/\acc.length<=i/\Pv i acc G2/\(∀ a h,a≠Da->H1 a=some h->G1 a=none->H2 a=some h/\G2 a=none),
  ⟨ds.length,rfl,NI _,[],G1,aX,gD,rgD,Ej T (rs.mono ((k1.trans kD).stb rg)),RDs.nil,le_refl _,p0,fun a h ha e n=>⟨by rw[aB ha];exact e,n⟩⟩,?_⟩
 rintro i m ys τ2 H2 ⟨rfl,hi',acc,G2,eD,nD,rg2,rs2,ra,la,pv,k2⟩
 have k2':Kp G1 H1 G2 H2:=fun a h e n=>k2 a h (bW e hD) e n;refine⟨eD,?_⟩;obtain⟨hgo,hstop⟩:=it i G2 H2 k2' rg2
 by_cases hlt:i < ds.length
 ·obtain⟨go,yld⟩:=hgo hlt;refine .inr ⟨go,fun ys' τ' H'=>∃ acc G',H' Da=some (.lst ys')/\G' Da=none/\RG K H' G'/\RS K H' (List.replicate T.length none ++ σ) τ'/\RDs K H' acc ys'/\acc.length<=i+1/\Pv (i+1) acc G'/\(∀ a h,a≠Da->H1 a=some h->G1 a=none->H' a=some h/\G' a=none),
   fun ys' τ' H' q'=>⟨ds.length - (i+1),by walk_at "o",rfl,hlt,q'⟩,fun x H3 y=>?_⟩
  obtain⟨ky,rgy,d,hd,rd⟩:=yld x H3 y;refine⟨d,List.replicate T.length none ++ σ,G2,_,rd,rs2.mono (ky.stb rg2),rgy,step i d acc G2 hd pv,fun σ4 G4 τ4 H4 q4 k4 rg4 rs4=>?_⟩;obtain⟨⟨hlen,hdrop⟩,q4⟩:=q4;have rs4':RS K H4 (List.replicate T.length none ++ σ) τ4:=by
   have:=p_ T.length hlen rs4;rw[hdrop]at this;exact this
  refine⟨σ4,G4,_,rs4,rg4,q4,fun b G5 H5 q5 k5 rg5=>?_⟩;have e3:H3 Da=some (.lst ys):=(ky Da _ eD nD).1;have e4:=k4 Da _ e3 nD;have e5:=k5 Da _ e4.1 e4.2;have kk:∀ {G6:Gp} {H6:Hp},Kp G5 H5 G6 H6->∀ a h,a≠Da->H1 a=some h->G1 a=none->H6 a=some h/\G6 a=none:=fun k6 a h ha e n=>((((Kp.trans k2' ky).trans k4).trans k5).trans k6) a h e n;cases b with
  | false=>
   refine iteF ⟨acc,G5,e5.1,e5.2,rg5,rs4'.mono (k5.stb rg4),RDs.mono (((ky.trans k4).trans k5).stb rg2) _ _ ra,by walk_at "o",q5,kk Kp.refl⟩
  | true=>
   refine iteT ⟨σ4,G5,_,rs4.mono (k5.stb rg4),rg5,q5,fun yv G6 v H6 q6 k6 rg6 rd6=>?_⟩;have e6:=k6 Da _ e5.1 e5.2;have la':=ra.length;have st:Stb K H6 (bG H6 Da (.lst (ys ++ [v]))):=by
    constructor
    ·intro a zs q;rcases q with (q|⟨o,q⟩)|q
     ·exact .inl (.inl (by rw[aB (fun z=>by subst z;rw[e6.1]at q;cases q)];exact q))
     ·exact .inl (.inr ⟨o,by rw[aB (fun z=>by subst z;rw[e6.1]at q;cases q)];exact q⟩)
     ·exact .inr q
    ·intro a zs q;rcases q with ⟨o,q⟩|q
     ·exact .inl ⟨o,by rw[aB (fun z=>by subst z;rw[e6.1]at q;cases q)];exact q⟩
     ·exact .inr q
   refine⟨e6.1,by walk_at "o",acc ++ [val yv],G6,aX,e6.2,fun a o q=>?_,(rs4'.mono ((k5.trans k6).stb rg4)).mono st,?_,by simp;omega,q6,fun a h ha e n=>?_⟩
   ·obtain⟨h',q1,q2⟩:=rg6 a o q;exact⟨h',by rw[aB (fun z=>by subst z;rw[e6.2]at q;cases q)];exact q1,q2.mono st⟩
   ·exact RDs.append (RDs.mono st _ _ (RDs.mono ((((ky.trans k4).trans k5).trans k6).stb rg2) _ _ ra)) (RDs.cons (RD.mono st _ _ rd6) RDs.nil)
   ·rw[aB ha];exact kk k6 a h ha e n
 ·have e:i=ds.length:=by walk_at "o"
  refine .inl ⟨hstop e,k _ G2 _ H2 (fin acc G2 (by rw[<- e];exact pv)) (k1.trans k2') rg2 (.inl ⟨acc,Da,ys,rfl,rfl,eD,nD,ra,?_⟩)⟩
  exact k1.fr (sy hD)
theorem ig:FR X [] (dY X.K iU):=fun pins s τ H Q I h=>by
 obtain⟨σ,G,Q3,rs,rg,h,k⟩:=h;exact Gm pins s τ H Q I (k true G H h Kp.refl rg)
theorem sJ{c:Np}{tc:pP}(h:PT X c (dY X.K tc)):FR X [c] (dY X.K tc):=Gk h
theorem ix(ok:CompOk X scope T M)
  (hin:∀ cl C s₀ H₀ fp,PG (bP X (T ++ M) scope cl C s₀ H₀ fp) tg (jN X.K g)/\FR (bP X (T ++ M) scope cl C s₀ H₀ fp) ifs (dY X.K tt)/\PE (bP X (T ++ M) scope cl C s₀ H₀ fp) elt (aJ X.K te))
  (hi:PI X tg iter (rj X.K ti)) (hs:∀ x,NZ iter X.env x=pure x:=by intro _;rfl):PE X (.ListComp elt [⟨tg,iter,ifs,0⟩] scope pos) (aJ X.K (fk T.length ti g tt te)):=
 (BZ ok (fun cl C s₀ H₀ fp=>let ⟨a,b,c⟩:=hin cl C s₀ H₀ fp;⟨a,b,d9 c⟩) hi hs).imp fun _ _ _ h=>wG h
theorem A1{i:Nat}{x:Str}{px spos:Pos}(ok:CompOk X scope T M)(hN:X.N.Nodup)(hix:X.N[i]?=some x)(hx:X.env.scope.names.lookup x=some .local)
  (hin:∀ cl C s₀ H₀ fp,PG (bP X (T ++ M) scope cl C s₀ H₀ fp) tg (jN X.K g)/\FR (bP X (T ++ M) scope cl C s₀ H₀ fp) ifs (dY X.K tt)/\PE (bP X (T ++ M) scope cl C s₀ H₀ fp) elt (aJ X.K te))
  (hi:PI X tg iter (rj X.K ti)) (hsw:OP (.ListComp elt [⟨tg,iter,ifs,0⟩] scope pos) (some (.Name x px)) spos.line X.env=pure true:=by rfl) (hs:∀ x,NZ iter X.env x=pure x:=by intro _;rfl):
  PS X (.Assign [.Name x px] (.ListComp elt [⟨tg,iter,ifs,0⟩] scope pos) spos) (cL X.K (bZ i (fk T.length ti g tt te))):=
 (Gs ok hN hix hx (fun cl C s₀ H₀ fp=>let ⟨a,b,c⟩:=hin cl C s₀ H₀ fp;⟨a,b,d9 c⟩) hi hsw hs).imp fun D τ H zz=>by
  obtain⟨σ,G,D3,rs,rg,h,k⟩:=zz;refine wG (Q:=fun v H1=>D.nx (τ.set i (some v)) H1\/∃ p xs,v=.ref p/\H1 p=some (.lst xs)/\∀ o,D.nx (τ.set i (some v)) (bG H1 p (.frz o (.lst xs)))) ⟨σ,G,_,rs,rg,h,fun d G' v H' q k' rg' re=>?_⟩;cases d with
  | fl ds=>
   obtain⟨p,xs,rfl,e1,e2,e3,e4⟩:=re.fl;refine .inr ⟨p,xs,rfl,e1,fun o=>?_⟩;obtain⟨rg2,st⟩:=Fo (o:=o) rg' e1 e2;exact k.nx _ G' _ _ q (Fp (K:=X.K) k' e4) rg2 (((rs.mono (k'.stb rg)).mono st).set (tF (.inl ⟨o,aX⟩) (RDs.mono st _ _ e3)) i)
  | _=>exact .inl (k.nx _ G' _ H' q k' rg' ((rs.mono (k'.stb rg)).set (re.rd (by intro ds z;cases z)) i))
end
open PySem.SeqAt
def fE(x y:D):Bool:=@decide (x=y) (Classical.propDecidable _)
theorem mO{x y:D}:fE x y=true↔x=y:=by unfold fE;exact @decide_eq_true_iff _ (Classical.propDecidable _)
theorem bX(x:D):fE x x=true:=mO.mpr rfl
theorem Fv{x y:D}(h:x=y):fE x y=true:=mO.mpr h
theorem cb{x y:D}(h:x≠y):fE x y=false:=by
 cases e:fE x y with
 | false=>rfl
 | true=>exact absurd (mO.mp e) h
theorem pH{x y:D}{b:Bool}(h:(b=true)↔x=y):fE x y=b:=by
 cases b with
 | true=>exact Fv (h.mp rfl)
 | false=>exact cb fun e=>nomatch h.mpr e
def pl:Nat->D->Prop
 | _,.non=>True
 | _,.int _=>True
 | _,.str _=>True
 | n+1,.tup ds=>∀ d∈ds,pl n d
 | n+1,.lst ds=>∀ d∈ds,pl n d
 | _,_=>False
section
variable{X:Cx}{pins:List (MU×Obj)}{σ:St}{H:Hp}{s:MW}
theorem B5(I:Inv X pins σ H s){a:MU}{xs ys:List V}(h1:kT X.K H a xs)(h2:kP X.K H a ys):False:=by
 obtain⟨_,_,⟨o,e,c,_⟩,_⟩:=I.tuple h1;obtain⟨_,_,p,_⟩:=I.list h2;obtain⟨o',e',c',_⟩:=p.isList;rw[e]at e';cases e';rw[c]at c';injection c' with z
 exact absurd z (by decide)
theorem Er(I:Inv X pins σ H s):∀ (n:Nat) {x y:D} {v:V},pl n x->pl n y->RD X.K H x v->RD X.K H y v->x=y:=by
 intro n
 induction n with
 | zero=>
  intro x y v px py rx ry;cases x<;>first|exact px.elim|(cases y<;>first|exact py.elim|(simp only[RD]at rx ry;subst rx;first|rfl|(cases ry;rfl)|cases ry))
 | succ n ih=>
  have seq:∀ {ds es:List D} {xs:List V},(∀ d∈ds,pl n d)->(∀ d∈es,pl n d)->RDs X.K H ds xs->RDs X.K H es xs->ds=es:=by
   intro ds
   induction ds with
   | nil=>
    intro es xs _ _ r1 r2;have:=r1.inv_nil;subst this;cases es with
    | nil=>rfl
    | cons e t=>have:=r2.length;simp at this
   | cons d t ihd=>
    intro es xs p1 p2 r1 r2;obtain⟨v,vs,e1,a1,b1⟩:=r1.inv_cons;subst e1;cases es with
    | nil=>have:=r2.length;simp at this
    | cons e u=>
     obtain⟨v',vs',e2,a2,b2⟩:=r2.inv_cons;cases e2;rw[ih (p1 d M8) (p2 e M8) a1 a2,ihd (fun z hz=>p1 z (M3 _ hz)) (fun z hz=>p2 z (M3 _ hz)) b1 b2]
  intro x y v px py rx ry;cases x with
  | tup ds=>
   simp only[RD]at rx;obtain⟨a,xs,rfl,s1,r1⟩:=rx;cases y with
   | tup es=>
    simp only[RD]at ry;obtain⟨b,ys,e,s2,r2⟩:=ry;cases e;have:=I.tuple_inj s1 s2;subst this;rw[seq px py r1 r2]
   | lst es=>
    simp only[RD]at ry;obtain⟨b,ys,e,s2,r2⟩:=ry;cases e;exact (B5 I s1 s2.sq).elim
   | _=>first|exact py.elim|(simp only[RD]at ry;cases ry)
  | lst ds=>
   simp only[RD]at rx;obtain⟨a,xs,rfl,s1,r1⟩:=rx;cases y with
   | lst es=>
    simp only[RD]at ry;obtain⟨b,ys,e,s2,r2⟩:=ry;cases e;have:=I.list_inj s1.sq s2.sq;subst this;rw[seq px py r1 r2]
   | tup es=>
    simp only[RD]at ry;obtain⟨b,ys,e,s2,r2⟩:=ry;cases e;exact (B5 I s2 s1.sq).elim
   | _=>first|exact py.elim|(simp only[RD]at ry;cases ry)
  | _=>first|exact px.elim|(cases y with
   | tup es=>simp only[RD]at rx ry;obtain⟨b,ys,e,_⟩:=ry;rw[rx]at e;cases e
   | lst es=>simp only[RD]at rx ry;obtain⟨b,ys,e,_⟩:=ry;rw[rx]at e;cases e
   | _=>first|exact py.elim|(simp only[RD]at rx ry;subst rx;first|rfl|(cases ry;rfl)|cases ry))
structure Cmp3(A:Nh)(s:MW)(v u:MV)(b:Bool):Prop where
 eq:EqAt A s v u b
 rc:RcAt A s v u b
 ne:RcNeAt A s v u (!b)
theorem yK{ds es:List D}(n:Nat)(hn:n=min ds.length es.length):((List.range n).all (fun j=>fE (ds.getD j .non) (es.getD j .non)) && ds.length == es.length)=fE (.tup ds) (.tup es):=by
 symm;refine pH ?_;rw[Bool.and_eq_true,List.all_eq_true,beq_iff_eq];constructor
 ·rintro⟨h1,h2⟩
  congr 1;refine List.ext_getElem h2 fun i hi hj=>?_;have:=mO.mp (h1 i (mem_range.mpr (by walk_at "o")))
  rw[Nl,Nl,M1 hi,M1 hj]at this
  simpa using this
 ·intro h;cases h;exact⟨fun i _=>bX _,rfl⟩
theorem Hg{ds es:List D}:fE (.lst ds) (.lst es)=fE (.tup ds) (.tup es):=pH (by rw[mO];constructor<;>(intro h;cases h;rfl))
theorem Vals.getV:∀ {xs:List V} {us:List MV} {i:Nat} {u:MV},Vals xs us->us[i]?=some u->∃ x,xs[i]?=some x/\aN x u
 | _,_,_,_,.nil,e=>by simp at e
 | _,_,0,_,.cons r _,e=>by simp at e;subst e;exact⟨_,rfl,r⟩
 | _,_,i+1,u,.cons _ t,e=>by
  obtain⟨x,h1,h2⟩:=Vals.getV (i:=i) (u:=u) t (by simpa using e)
  exact⟨x,by simpa using h1,h2⟩
theorem RDs.getV{K:PySem.W.Frag}{H:Hp}:∀ {ds:List D} {xs:List V} {i:Nat} {x:V},RDs K H ds xs->xs[i]?=some x->∃ d,ds[i]?=some d/\RD K H d x
 | [],xs,i,x,h,e=>by rw[h.inv_nil]at e;simp at e
 | d::ds,xs,i,x,h,e=>by
  obtain⟨y,r,e1,h1,h2⟩:=h.inv_cons;subst e1;cases i with
  | zero=>simp at e;subst e;exact⟨d,rfl,h1⟩
  | succ i=>
   obtain⟨z,q1,q2⟩:=RDs.getV (i:=i) (x:=x) h2 (by simpa using e)
   exact⟨z,by simpa using q1,q2⟩
def sc:D->Prop
 | .non=>True
 | .int _=>True
 | .str _=>True
 | _=>False
theorem JK{j:Int}{t:Tok}{A:Nh}:Cmp3 A s .none (.int j t) (fE .non (.int j)):=by rw[cb (by intro z;cases z)];exact⟨EqAt.none_int _ _,RcAt.none_int _ _,RcNeAt.none_int _ _⟩
theorem JI{j:Str}{t:Tok}{A:Nh}:Cmp3 A s .none (.str j t) (fE .non (.str j)):=by rw[cb (by intro z;cases z)];exact⟨EqAt.none_str _ _,RcAt.none_str _ _,RcNeAt.none_str _ _⟩
theorem JM{j:Int}{t:Tok}{A:Nh}:Cmp3 A s (.int j t) .none (fE (.int j) .non):=by rw[cb (by intro z;cases z)];exact⟨EqAt.int_none _ _,RcAt.int_none _ _,RcNeAt.int_none _ _⟩
theorem JG{j:Str}{t:Tok}{A:Nh}:Cmp3 A s (.str j t) .none (fE (.str j) .non):=by rw[cb (by intro z;cases z)];exact⟨EqAt.str_none _ _,RcAt.str_none _ _,RcNeAt.str_none _ _⟩
theorem JL{i:Int}{j:Str}{t u:Tok}{A:Nh}:Cmp3 A s (.int i t) (.str j u) (fE (.int i) (.str j)):=by rw[cb (by intro z;cases z)];exact⟨EqAt.int_str _ _ _ _,RcAt.int_str _ _ _ _,RcNeAt.int_str _ _ _ _⟩
theorem JH{i:Str}{j:Int}{t u:Tok}{A:Nh}:Cmp3 A s (.str i t) (.int j u) (fE (.str i) (.int j)):=by rw[cb (by intro z;cases z)];exact⟨EqAt.str_int _ _ _ _,RcAt.str_int _ _ _ _,RcNeAt.str_int _ _ _ _⟩
theorem JN{i j:Int}{t u:Tok}{A:Nh}:Cmp3 A s (.int i t) (.int j u) (fE (.int i) (.int j)):=by
 have e:fE (.int i) (.int j)=(i == j):=pH (by rw[beq_iff_eq];exact⟨fun z=>by rw[z],fun z=>by cases z;rfl⟩)
 rw[e];exact⟨EqAt.int_int _ _ _ _,RcAt.int_int _ _ _ _,RcNeAt.int_int _ _ _ _⟩
theorem JF{i j:Str}{t u:Tok}{A:Nh}:Cmp3 A s (.str i t) (.str j u) (fE (.str i) (.str j)):=by
 have e:fE (.str i) (.str j)=(i == j):=pH (by rw[beq_iff_eq];exact⟨fun z=>by rw[z],fun z=>by cases z;rfl⟩)
 rw[e];exact⟨EqAt.str_str _ _ _ _,RcAt.str_str _ _ _ _,RcNeAt.str_str _ _ _ _⟩
theorem JJ{A:Nh}:Cmp3 A s .none .none (fE .non .non):=by rw[bX];exact⟨EqAt.same _,RcAt.none_none,RcNeAt.none_none⟩
theorem pW{K:PySem.W.Frag}{x:D}{v:V}{v':MV}(h:sc x)(r:RD K H x v)(l:aN v v'):(x=.non/\v'=.none)\/(∃ i t,x=.int i/\v'=.int i t)\/(∃ i t,x=.str i/\v'=.str i t):=by
 cases x with
 | non=>simp only[RD]at r;subst r;exact .inl ⟨rfl,l⟩
 | int i=>simp only[RD]at r;subst r;obtain⟨t,e⟩:=l;exact .inr (.inl ⟨i,t,rfl,e⟩)
 | str i=>simp only[RD]at r;subst r;obtain⟨t,e⟩:=l;exact .inr (.inr ⟨i,t,rfl,e⟩)
 | _=>exact h.elim
theorem FE{K:PySem.W.Frag}{A:Nh}{x y:D}{v u:V}{v' u':MV}(h1:sc x)(h2:sc y)(rx:RD K H x v)(ry:RD K H y u)(lx:aN v v')(ly:aN u u'):Cmp3 A s v' u' (fE x y):=by
 rcases pW h1 rx lx with ⟨rfl,rfl⟩|⟨i,t,rfl,rfl⟩|⟨i,t,rfl,rfl⟩
 ·rcases pW h2 ry ly with ⟨rfl,rfl⟩|⟨j,u,rfl,rfl⟩|⟨j,u,rfl,rfl⟩
  ·exact JJ
  ·exact JK
  ·exact JI
 ·rcases pW h2 ry ly with ⟨rfl,rfl⟩|⟨j,u,rfl,rfl⟩|⟨j,u,rfl,rfl⟩
  ·exact JM
  ·exact JN
  ·exact JL
 ·rcases pW h2 ry ly with ⟨rfl,rfl⟩|⟨j,u,rfl,rfl⟩|⟨j,u,rfl,rfl⟩
  ·exact JG
  ·exact JH
  ·exact JF
theorem wo{n:Nat}{x:D}(p:pl n x):sc x\/(∃ m ds,n=m+1/\x=.tup ds/\∀ d∈ds,pl m d)\/(∃ m ds,n=m+1/\x=.lst ds/\∀ d∈ds,pl m d):=by
 cases x with
 | non=>exact .inl trivial
 | int _=>exact .inl trivial
 | str _=>exact .inl trivial
 | tup ds=>cases n with
  | zero=>exact p.elim
  | succ m=>exact .inr (.inl ⟨m,ds,rfl,rfl,p⟩)
 | lst ds=>cases n with
  | zero=>exact p.elim
  | succ m=>exact .inr (.inr ⟨m,ds,rfl,rfl,p⟩)
 | bl _=>cases n<;>exact p.elim
 | fl _=>cases n<;>exact p.elim
 | ref _=>cases n<;>exact p.elim
 | ty _=>cases n<;>exact p.elim
theorem FC{K:PySem.W.Frag}{A:Nh}{b:MU}{its:Array MV}{es:List D}(hu0:A.units < NM)(t2:s.heap.IsTuple b its){x:D}{v:V}{v':MV}(h:sc x)(rx:RD K H x v)(lx:aN v v'):Cmp3 A s v' (.ref b) (fE x (.tup es))/\Cmp3 A s (.ref b) v' (fE (.tup es) x):=by
 rcases pW h rx lx with ⟨rfl,rfl⟩|⟨i,t,rfl,rfl⟩|⟨i,t,rfl,rfl⟩
 ·rw[cb (by intro z;cases z),cb (by intro z;cases z)]
  exact⟨⟨EqAt.none_tuple t2 hu0,RcAt.none_tuple t2 hu0,RcNeAt.none_tuple t2 hu0⟩,⟨EqAt.tuple_none t2 hu0,RcAt.tuple_none t2 hu0,RcNeAt.tuple_none t2 hu0⟩⟩
 ·rw[cb (by intro z;cases z),cb (by intro z;cases z)]
  exact⟨⟨EqAt.int_tuple _ _ t2 hu0,RcAt.int_tuple _ _ t2 hu0,RcNeAt.int_tuple _ _ t2 hu0⟩,⟨EqAt.tuple_int _ _ t2 hu0,RcAt.tuple_int _ _ t2 hu0,RcNeAt.tuple_int _ _ t2 hu0⟩⟩
 ·rw[cb (by intro z;cases z),cb (by intro z;cases z)]
  exact⟨⟨EqAt.str_tuple _ _ t2 hu0,RcAt.str_tuple _ _ t2 hu0,RcNeAt.str_tuple _ _ t2 hu0⟩,⟨EqAt.tuple_str _ _ t2 hu0,RcAt.tuple_str _ _ t2 hu0,RcNeAt.tuple_str _ _ t2 hu0⟩⟩
theorem FD{K:PySem.W.Frag}{A:Nh}{b:MU}{its:Array MV}{es:List D}(hu0:A.units < NM)(t2:s.heap.IsList b its){x:D}{v:V}{v':MV}(h:sc x)(rx:RD K H x v)(lx:aN v v'):Cmp3 A s v' (.ref b) (fE x (.lst es))/\Cmp3 A s (.ref b) v' (fE (.lst es) x):=by
 rcases pW h rx lx with ⟨rfl,rfl⟩|⟨i,t,rfl,rfl⟩|⟨i,t,rfl,rfl⟩
 ·rw[cb (by intro z;cases z),cb (by intro z;cases z)]
  exact⟨⟨EqAt.none_list t2 hu0,RcAt.none_list t2 hu0,RcNeAt.none_list t2 hu0⟩,⟨EqAt.list_none t2 hu0,RcAt.list_none t2 hu0,RcNeAt.list_none t2 hu0⟩⟩
 ·rw[cb (by intro z;cases z),cb (by intro z;cases z)]
  exact⟨⟨EqAt.int_list _ _ t2 hu0,RcAt.int_list _ _ t2 hu0,RcNeAt.int_list _ _ t2 hu0⟩,⟨EqAt.list_int _ _ t2 hu0,RcAt.list_int _ _ t2 hu0,RcNeAt.list_int _ _ t2 hu0⟩⟩
 ·rw[cb (by intro z;cases z),cb (by intro z;cases z)]
  exact⟨⟨EqAt.str_list _ _ t2 hu0,RcAt.str_list _ _ t2 hu0,RcNeAt.str_list _ _ t2 hu0⟩,⟨EqAt.list_str _ _ t2 hu0,RcAt.list_str _ _ t2 hu0,RcNeAt.list_str _ _ t2 hu0⟩⟩
theorem Aq(I:Inv X pins σ H s):∀ (n:Nat) {x y:D} {v u:V} {v' u':MV} {A:Nh},pl n x->pl n y->RD X.K H x v->RD X.K H y u->aN v v'->aN u u'->A.units+n < NM->Cmp3 A s v' u' (fE x y):=by
 intro n
 induction n with
 | zero=>
  intro x y v u v' u' A px py rx ry lx ly hu;rcases wo px with h1|⟨m,_,e,_⟩|⟨m,_,e,_⟩
  ·rcases wo py with h2|⟨m,_,e,_⟩|⟨m,_,e,_⟩
   ·exact FE h1 h2 rx ry lx ly
   ·cases e
   ·cases e
  ·cases e
  ·cases e
 | succ n ih=>
  intro x y v u v' u' A px py rx ry lx ly hu;have hu0:A.units < NM:=by walk_at "o"
  have hu1:A.in1.units+n < NM:=by show A.units+1+n < NM;omega
  have items:∀ {ds es:List D} {xs ys:List V} {its its2:List MV},(∀ d∈ds,pl n d)->(∀ d∈es,pl n d)->RDs X.K H ds xs->RDs X.K H es ys->Vals xs its->Vals ys its2->
    ∀ j (h1:j < its.toArray.size) (h2:j < its2.toArray.size),EqAt A.in1 s its.toArray[j] its2.toArray[j] (fE (ds.getD j .non) (es.getD j .non)):=by
   intro ds es xs ys its its2 p1 p2 r1 r2 w1 w2 j h1 h2;obtain⟨x1,e1,q1⟩:=Vals.getV (i:=j) (u:=its.toArray[j]) w1 (by simp at h1;simp[h1])
   obtain⟨x2,e2,q2⟩:=Vals.getV (i:=j) (u:=its2.toArray[j]) w2 (by simp at h2;simp[h2])
   obtain⟨d1,f1,g1⟩:=RDs.getV r1 e1;obtain⟨d2,f2,g2⟩:=RDs.getV r2 e2;have:=(ih (A:=A.in1) (p1 d1 (Na f1)) (p2 d2 (Na f2)) g1 g2 q1 q2 hu1).eq;rw[Nl,Nl,f1,f2];exact this
  rcases wo px with h1|⟨m,ds,e1,rfl,p1⟩|⟨m,ds,e1,rfl,p1⟩
  ·rcases wo py with h2|⟨m,es,e2,rfl,p2⟩|⟨m,es,e2,rfl,p2⟩
   ·exact FE h1 h2 rx ry lx ly
   ·simp only[RD]at ry;obtain⟨b,ys,rfl,s2,r2⟩:=ry;cases ly;obtain⟨its2,w2,t2,z2⟩:=I.tuple s2;exact (FC hu0 t2 h1 rx lx).1
   ·simp only[RD]at ry;obtain⟨b,ys,rfl,s2,r2⟩:=ry;cases ly;obtain⟨its2,w2,t2,z2⟩:=I.list s2.sq;exact (FD hu0 t2.isList h1 rx lx).1
  ·cases e1;simp only[RD]at rx;obtain⟨a,xs,rfl,s1,r1⟩:=rx;cases lx;obtain⟨its,w1,t1,z1⟩:=I.tuple s1;have l1:=w1.length;have l1':=r1.length;rcases wo py with h2|⟨m,es,e2,rfl,p2⟩|⟨m,es,e2,rfl,p2⟩
   ·exact (FC hu0 t1 h2 ry ly).2
   ·cases e2;simp only[RD]at ry;obtain⟨b,ys,rfl,s2,r2⟩:=ry;cases ly;obtain⟨its2,w2,t2,z2⟩:=I.tuple s2;have l2:=w2.length;have l2':=r2.length;have he:=items p1 p2 r1 r2 w1 w2;have hsz:its.toArray.size=ds.length:=by simp only[Nb];omega
    have Vs:its2.toArray.size=es.length:=by simp only[Nb];omega
    have rc:=RcAt.tuples (A:=A) t1 t2 hu0 he;have rn:=RcNeAt.tuples (A:=A) t1 t2 hu0 he;rw[hsz,Vs,yK _ rfl]at rc;rw[hsz,Vs,yK _ rfl]at rn;refine⟨?_,rc,rn⟩
    by_cases hab:a=b
    ·subst hab;have:D.tup ds=D.tup es:=Er I (n+1) (v:=.ref a) px py (qi s1 r1) (qi s2 r2);rw[this,bX];exact EqAt.same _
    ·exact EqAt.of_refs hab rc
   ·simp only[RD]at ry;obtain⟨b,ys,rfl,s2,r2⟩:=ry;cases ly;obtain⟨its2,w2,t2,z2⟩:=I.list s2.sq;rw[cb (by intro z;cases z)]
    exact⟨EqAt.tuple_list t1 t2.isList hu0,RcAt.tuple_list t1 t2.isList hu0,RcNeAt.tuple_list t1 t2.isList hu0⟩
  ·cases e1;simp only[RD]at rx;obtain⟨a,xs,rfl,s1,r1⟩:=rx;cases lx;obtain⟨its,w1,t1,z1⟩:=I.list s1.sq;have l1:=w1.length;have l1':=r1.length;rcases wo py with h2|⟨m,es,e2,rfl,p2⟩|⟨m,es,e2,rfl,p2⟩
   ·exact (FD hu0 t1.isList h2 ry ly).2
   ·simp only[RD]at ry;obtain⟨b,ys,rfl,s2,r2⟩:=ry;cases ly;obtain⟨its2,w2,t2,z2⟩:=I.tuple s2;rw[cb (by intro z;cases z)]
    exact⟨EqAt.list_tuple t1.isList t2 hu0,RcAt.list_tuple t1.isList t2 hu0,RcNeAt.list_tuple t1.isList t2 hu0⟩
   ·cases e2;simp only[RD]at ry;obtain⟨b,ys,rfl,s2,r2⟩:=ry;cases ly;obtain⟨its2,w2,t2,z2⟩:=I.list s2.sq;have l2:=w2.length;have l2':=r2.length;have he:=items p1 p2 r1 r2 w1 w2;have hsz:its.toArray.size=ds.length:=by simp only[Nb];omega
    have Vs:its2.toArray.size=es.length:=by simp only[Nb];omega
    have rc:RcAt A s (.ref a) (.ref b) (fE (.lst ds) (.lst es))/\RcNeAt A s (.ref a) (.ref b) (!fE (.lst ds) (.lst es)):=by
     rw[Hg]
     by_cases hl:ds.length=es.length
     ·have rc:=RcAt.lists (A:=A) t1.isList t2.isList (by walk_at "o") hu0 he
      have rn:=RcNeAt.lists (A:=A) t1.isList t2.isList (by walk_at "o") hu0 he
      have e:=yK (ds:=ds) (es:=es) its.toArray.size (by walk_at "o")
      rw[hl,beq_self_eq_true,Bool.and_true]at e;rw[e]at rc rn;exact⟨rc,rn⟩
     ·rw[cb (by intro z;cases z;exact hl rfl)]
      exact⟨RcAt.lists_lengths t1.isList t2.isList (by rw[hsz,Vs];simpa using hl) hu0,RcNeAt.lists_lengths t1.isList t2.isList (by rw[hsz,Vs];simpa using hl) hu0⟩
    refine⟨?_,rc.1,rc.2⟩
    by_cases hab:a=b
    ·subst hab;have:D.lst ds=D.lst es:=Er I (n+1) (v:=.ref a) px py (tF s1 r1) (tF s2 r2);rw[this,bX];exact EqAt.same _
    ·exact EqAt.of_refs hab rc.1
end
end L3
namespace L2
open PySem PySem.Spec PyProof.Rows
def n8(cs:List Nat)(lo hi:Option Int):List Nat:=(cs.drop (HT.sIx cs.length 0 lo)).take (HT.sIx cs.length cs.length hi - HT.sIx cs.length 0 lo)
theorem EK(cs:Array Nat)(i k:Nat):(List.range k).filterMap (fun m=>cs[i+m]?)=(cs.toList.drop i).take k:=by
 induction k generalizing i with
 | zero=>simp
 | succ k ih=>
  rw[List.range_succ_eq_map,N0,List.filterMap_map];have e:(fun m=>cs[i+m]?) ∘ Nat.succ=fun m=>cs[(i+1)+m]?:=by funext m;simp[Nat.succ_eq_add_one];congr 1;omega
  rw[e,ih (i+1)];cases h:cs.toList.drop i with
  | nil=>
   have hl:cs.toList.length<=i:=List.drop_eq_nil_iff.mp h;have h1:cs[i+0]?=none:=by simp at hl;simp[hl]
   have h2:cs.toList.drop (i+1)=[]:=List.drop_eq_nil_iff.mpr (by walk_at "o")
   rw[h1,h2];simp
  | cons c r=>
   have hlt:i < cs.toList.length:=by
    refine Nat.lt_of_not_le fun hle=>?_;rw[List.drop_eq_nil_iff.mpr hle]at h;cases h
   have h0:=List.drop_eq_getElem_cons hlt;rw[h]at h0;cases h0;have h1:cs[i+0]?=some cs.toList[i]:=by simp at hlt;simp[hlt]
   rw[h1,List.take_succ_cons]
theorem Ar(n:Nat)(o:Option Int)(d:Nat)(hd:d<=n):(match o with
  | none=>(d:Int)
  | some i=>max 0 (min (if i < 0 then i+(n:Int)else i) (n:Int)))=((HT.sIx n d o:Nat):Int):=by
 cases o with
 | none=>rfl
 | some i=>
  simp only[HT.sIx]
  by_cases h:i < 0
  ·simp only[h,if_true];omega
  ·simp only[h,if_false];omega
theorem uu(lo hi:Option Int)(n:Nat):Oc lo hi 1 n=(List.range (HT.sIx n n hi - HT.sIx n 0 lo)).map fun m=>HT.sIx n 0 lo+m:=by
 have h1:=Ar n lo 0 (NI _);have h2:=Ar n hi n (le_refl _);have e:Oc lo hi 1 n=RI ((HT.sIx n 0 lo:Nat):Int) ((HT.sIx n n hi:Nat):Int) 1:=by
  rw[<- h1,<- h2];unfold Oc;cases lo<;>cases hi<;>simp
 rw[e];unfold RI;simp only[show (1:Int) > 0 by decide,if_true]
 have c:(if ((HT.sIx n 0 lo:Nat):Int) < ((HT.sIx n n hi:Nat):Int)then (((HT.sIx n n hi:Nat):Int) - ((HT.sIx n 0 lo:Nat):Int)+1 - 1) / 1 else 0).toNat=HT.sIx n n hi - HT.sIx n 0 lo:=by
  rw[Int.ediv_one];split<;>omega
 rw[c];refine NL fun k _=>?_;omega
theorem uG(cs:List Nat)(lo hi:Option Int):(n8 cs lo hi).length<=cs.length:=by
 unfold n8;rw[Nq,NW];omega
theorem CI(x:Str)(lo hi:Option Int):Txt.slice x lo hi=⟨(n8 x.cps.toList lo hi).toArray⟩:=by
 have hn:x.length=x.cps.toList.length:=by simp[PZ]
 have key:(Oc lo hi 1 x.length).filterMap (x.cps[·]?)=n8 x.cps.toList lo hi:=by
  rw[uu,List.filterMap_map];unfold n8;rw[<- hn,<- EK];rfl
 unfold Txt.slice;split
 ·rename_i h;rw[Bool.and_eq_true]at h;have hl:(Oc lo hi 1 x.length).length=x.length:=by simpa using h.2
  rw[uu,MY,List.length_range]at hl;have b1:HT.sIx x.length x.length hi<=x.length:=HT.sIx_le _ _ (le_refl _) _;have h0:HT.sIx x.length 0 lo=0\/x.length=0:=by walk_at "o"
  have e:n8 x.cps.toList lo hi=x.cps.toList:=by
   unfold n8;rw[<- hn];rcases h0 with h0|h0
   ·have h3:HT.sIx x.length x.length hi=x.length:=by walk_at "o"
    rw[h0,h3,PQ,Qx,hn,ND]
   ·have:x.cps.toList=[]:=List.length_eq_zero_iff.mp (by walk_at "o")
    rw[this];simp
  rw[e]
 ·rw[key]
section
variable{X:Cx}
theorem F5{ns:List Str}:∀ {us:List MV},Vals (ns.map V.str) us->StrsAre us ns:=by
 induction ns with
 | nil=>intro us r;cases r;exact .nil
 | cons n t ih=>
  intro us r;cases r with
  | cons a b=>
   obtain⟨tk,rfl⟩:=a;exact .cons n tk (ih b)
theorem GR:Mv X "str.join" (fun x xs H Q=>∃ (z:Str) (a:MU) (ys:List Str),x=.str z/\xs=[.ref a]/\kP X.K H a (ys.map V.str)/\(ys.map (·.length)).sum+ys.length*z.length<=16777216/\Q (.str (QC z ys)) H):=by
 intro pins s σ H x xs v us Q I rx rs h;obtain⟨z,a,ys,rfl,rfl,hq,hl,q⟩:=h;obtain⟨t,rfl⟩:=rx;obtain⟨u,rfl,ru⟩:=sG rs;cases ru;obtain⟨its,rv,p,hz⟩:=I.list hq;exact join_list p.isList (by simpa using F5 rv) hl fun t' k=>⟨.str _,H,I.tok k,⟨t',rfl⟩,q⟩
def zh(x:Str)(k:Nat):Str:=⟨(List.replicate k x.cps.toList).flatten.toArray⟩
theorem qL(x:Array Nat):∀ (k:Nat) (acc:List Nat),(List.replicate k x).foldl (· ++ ·) acc.toArray=(acc ++ (List.replicate k x.toList).flatten).toArray
 | 0,acc=>by simp
 | k+1,acc=>by
  rw[List.replicate_succ,Py,List.replicate_succ,List.flatten_cons];have:acc.toArray ++ x=(acc ++ x.toList).toArray:=by simp
  rw[this,qL x k];simp
theorem A9:iS X (Oi .Mult) (fun x y H Q=>∃ z n,x=.str z/\y=.int n/\-(2 ^ 63)<=n/\n < 2 ^ 63/\z.length*n.toNat<=M4/\Q (.str (zh z n.toNat)) H):=by
 intro pins s σ H x y v u Q I rx ry h;obtain⟨z,n,rfl,rfl,h1,h2,hl,q⟩:=h;obtain⟨t,rfl⟩:=rx;obtain⟨t',rfl⟩:=ry;have hn:=mm;have len_rep:(zh z n.toNat).length=z.length*n.toNat:=by
  simp[zh,PZ,Nat.mul_comm]
 have bound:¬ n < 1->(z.length:Int)<=(2 ^ 63 - 1) / n:=fun h=>by
  rw[Int.le_ediv_iff_mul_le (by walk_at "o")]
  have e:(z.length:Int)*n=((z.length*n.toNat:Nat):Int):=by
   rw[Int.natCast_mul,Int.toNat_of_nonneg (by walk_at "o")]
  rw[e];omega
 refine PySem.P.mul_str (by rw[decide_eq_false (by walk_at "o"),decide_eq_false (by walk_at "o")];rfl) (fun h _=>by have:=bound h;omega) (fun h _=>?_) ?_
 ·unfold Builtin.Str.tooLong;exact decide_eq_false (by walk_at "o")
 ·have fin:∀ tk s',Inv X pins σ H s'->∀ w,w=zh z n.toNat->EP X pins σ Q (.str w tk) s':=fun tk s' I' w e=>⟨.str (zh z n.toNat),H,I',⟨tk,by rw[e]⟩,q⟩
  split
  ·rename_i hlt;have:n.toNat=0:=by walk_at "o"
   exact⟨by decide,fin _ _ (I.tok _) _ (by rw[this];rfl)⟩
  ·split
   ·rename_i hlt he;refine fin _ _ I _ ?_;rw[Bool.or_eq_true]at he;rcases he with he|he
    ·have:n=1:=by simpa using he
     subst this;simp[zh]
    ·have hz:z.length=0:=by simpa using he
     have hz':z.cps=#[]:=Array.eq_empty_of_size_eq_zero hz;cases z;simp only at hz';subst hz';simp[zh]
   ·refine⟨?_,fin _ _ (I.tok _) _ ?_⟩
    ·show (⟨_⟩:Str).length<=M4;have e:=qL z.cps n.toNat [];simp only[OC]at e;rw[show (#[]:Array Nat)=[].toArray from rfl,e]
     exact le_trans (Nat.le_of_eq len_rep) hl
    ·have e:=qL z.cps n.toNat [];simp only[OC]at e;rw[show (#[]:Array Nat)=[].toArray from rfl,e]
     rfl
theorem Iw:DG X (fun x lo hi H Q=>∃ z,x=.str z/\z.length<=M4/\Q (.str ⟨(n8 z.cps.toList lo hi).toArray⟩) H):=by
 intro pins s σ H x v vl vu lo hi sl Q I rx hs pl pu h;obtain⟨z,rfl,hz,q⟩:=h;obtain⟨t,rfl⟩:=rx;refine⟨"str",_,PySem.F.slot_str_getitem.lookup,RF _ _ _,?_⟩;have part:∀ {v:MV} {o:Option Int},Qu v o->∃ p:Option (Int×Tok),v=partValue p/\p.map (·.1)=o:=by
  intro v o h;cases h with
  | none=>exact⟨none,rfl,rfl⟩
  | int i t=>exact⟨some (i,t),rfl,rfl⟩
 obtain⟨pl',e1,f1⟩:=part pl;obtain⟨pu',e2,f2⟩:=part pu;subst e1 e2;refine wpAny_getItem_str_slice (l:=pl') (u:=pu') (st:=none) ?_ rfl ?_
 ·obtain⟨o,a,b,c⟩:=hs;exact⟨o,a,b,c⟩
 ·unfold sliceMade;subst f1 f2;have e:(if (((none:Option (Int×Tok)).map (·.1)).getD 1 == 1 && (slicePicked z pl' pu' none).length == z.length)=true then z else ⟨((slicePicked z pl' pu' none).filterMap (z.cps[·]?)).toArray⟩)=(⟨(n8 z.cps.toList (pl'.map (·.1)) (pu'.map (·.1))).toArray⟩:Str):=by
   rw[<- CI];rfl
  refine post_val_or_str ⟨?_,fun t' k=>?_⟩
  ·rw[e];show (n8 z.cps.toList (pl'.map (·.1)) (pu'.map (·.1))).toArray.size<=M4
   rw[Nb];refine le_trans (uG _ _ _) ?_
   simpa[PZ]using hz
  ·rw[e];exact⟨.str _,H,I.tok k,⟨t',rfl⟩,q⟩
end
end L2
namespace L3
open PySem PySem.Spec PyProof.Rows L2
def pc(K:PySem.W.Frag)(r3:R3):R2:=fun v u H Q=>∃ x y G Q3,RD K H x v/\RD K H y u/\RG K H G/\r3 x y G Q3/\uL K G H Q3 Q
def jQ(r:R3)(ta tb:bJ):bJ:=fun σ G Q=>ta σ G fun x G1=>tb σ G1 fun y G2=>r (val x) (val y) G2 Q
section
variable{X:Cx}{a b c:Np}{ta tb tc:bJ}{pos:Pos}{r:R3}
theorem J4{K:PySem.W.Frag}{Q:VK}{τ:St}{H:Hp}(h:aJ K (jQ r ta tb) τ H Q):JY (pc K r) (wx K ta) (wx K tb) τ H Q:=by
 obtain⟨σ,G,Q3,rs,rg,h,k⟩:=h;refine⟨σ,G,_,rs,rg,h,fun x G1 v H1 h1 k1 rg1 re1=>⟨σ,G1,_,rs.mono (k1.stb rg),rg1,h1,fun y G2 u H2 h2 k2 rg2 re2=>?_⟩⟩;exact⟨val x,val y,G2,Q3,RD.mono (k2.stb rg1) _ _ re1,re2,rg2,h2,k.base (k1.trans k2)⟩
theorem A8{op:PR}(ho:iS X (NA op) (pc X.K r))(ha:PE X a (aJ X.K ta))(hb:PE X b (aJ X.K tb))(hm:NQ op b=false):PE X (.Compare a [op] [b] pos) (aJ X.K (jQ r ta tb)):=
 (B1 ho (d9 ha) (d9 hb) hm).imp fun _ _ _ h=>J4 h
theorem fe{op:PR}(ho:iS X (NA op) (pc X.K r))(ha:PE X a (aJ X.K ta))(hb:PE X b (aJ X.K tb))(hm:NQ op b=false):PT X (.Compare a [op] [b] pos) (dY X.K (eK (jQ r ta tb))):=
 (BW ho (d9 ha) (d9 hb) hm).imp fun _ _ _ h=>J4 (wS h)
def AA:R3:=fun x y G Q=>match x,y with
 | .bl a,.bl b=>Q (.bl (a == b)) G
 | x,y=>pl 8 x/\pl 8 y/\Q (.bl (fE x y)) G
def JZ:R3:=fun x y G Q=>match x,y with
 | .bl a,.bl b=>Q (.bl (!(a == b))) G
 | x,y=>pl 8 x/\pl 8 y/\Q (.bl (!fE x y)) G
theorem pT(hu:X.A.units+8 < NM):iS X (NA .Eq) (pc X.K AA):=by
 rintro pins s σ H v u v' u' Q I rv ru ⟨x,y,G,Q3,rx,ry,rg,h,k⟩
 unfold AA at h;split at h
 ·rename_i a b;simp only[RD]at rx ry;subst rx ry;cases rv;cases ru;exact SeqAt.RcAt.bool_bool a b X.prog X.w X.xe _ ⟨.bl (a == b),H,I,rfl,k _ G _ H h Kp.refl rg (.of iB)⟩
 ·obtain⟨p1,p2,q⟩:=h;exact (Aq I 8 p1 p2 rx ry rv ru hu).rc X.prog X.w X.xe _ ⟨.bl _,H,I,rfl,k _ G _ H q Kp.refl rg (.of iB)⟩
theorem Ih(hu:X.A.units+8 < NM):iS X (NA .NotEq) (pc X.K JZ):=by
 rintro pins s σ H v u v' u' Q I rv ru ⟨x,y,G,Q3,rx,ry,rg,h,k⟩
 unfold JZ at h;split at h
 ·rename_i a b;simp only[RD]at rx ry;subst rx ry;cases rv;cases ru;exact SeqAt.RcNeAt.bool_bool a b X.prog X.w X.xe _ ⟨.bl (!(a == b)),H,I,rfl,k _ G _ H h Kp.refl rg (.of iB)⟩
 ·obtain⟨p1,p2,q⟩:=h;exact (Aq I 8 p1 p2 rx ry rv ru hu).ne X.prog X.w X.xe _ ⟨.bl _,H,I,rfl,k _ G _ H q Kp.refl rg (.of iB)⟩
abbrev df:=List D->Gp->oa->Prop
def ax(K:PySem.W.Frag)(sp:df):Sp:=fun vs H Q _=>∃ ds G Q3,RDs K H ds vs/\RG K H G/\sp ds G Q3/\uL K G H Q3 Q
def js(N:List Str)(ds:List D):gv:=ds.map some ++ List.replicate (N.length - ds.length) none
theorem Ei{K:PySem.W.Frag}{H:Hp}{N:List Str}{ds:List D}{vs:List V}(r:RDs K H ds vs):RS K H (js N ds) (L2.start N vs):=by
 unfold js L2.start;have hl:=r.length;rw[hl];have rep:∀ n:Nat,PM (DM K H) (List.replicate n none) (List.replicate n none):=fun n=>by
  induction n with
  | zero=>exact .nil
  | succ n ih=>exact .cons (show DM K H none none from trivial) ih
 have go:∀ {ds:List D} {vs:List V} {σ:gv} {τ:St},RDs K H ds vs->PM (DM K H) σ τ->PM (DM K H) (ds.map some ++ σ) (vs.map some ++ τ):=by
  intro ds
  induction ds with
  | nil=>intro vs σ τ r q;rw[r.inv_nil];exact q
  | cons d t ih=>
   intro vs σ τ r q;obtain⟨x,xs,e,h1,h2⟩:=r.inv_cons;subst e;exact .cons (show DM K H (some d) (some x)from h1) (ih h2 q)
 exact go r (rep _)
variable{P:Nf}{w:Nn}{K:PySem.W.Frag}{mg:Str->Option MV}{base:No}
structure Fn3(P:Nf)(w:Nn)(K:PySem.W.Frag)(mg:Str->Option MV)(base:No)(k:Nat)(x:Str)(dds:List D)(sp:df):Prop where
 ex:∃ f fd ps ds dvs,FnOk P w K mg base dE k f fd ps (ax K sp)/\mg x=some (.ref f)/\PySem.W.keepIn K (.ref f)=true/\fW K fd ps ds/\Vals dvs ds/\∀ H,RDs K H dds dvs
structure Mt3(P:Nf)(w:Nn)(K:PySem.W.Frag)(mg:Str->Option MV)(base:No)(k:Nat)(C:MU)(m:Str)(dds:List D)(sp:df):Prop where
 cl:Cls K C
 ex:∃ f fd ps ds dvs,FnOk P w K mg base dE k f fd ps (ax K sp)/\Meth K C m f/\fW K fd ps ds/\Vals dvs ds/\∀ H,RDs K H dds dvs
structure Mk3(P:Nf)(w:Nn)(K:PySem.W.Frag)(mg:Str->Option MV)(base:No)(k:Nat)(x:Str)(C:MU)(dds:List D)(sp:df):Prop where
 ex:∃ f fd ps ds dvs,Mk K C f/\mg x=some (.ref C)/\FnOk P w K mg base dE k f fd ps (ax K sp)/\fW K fd ps ds/\Vals dvs ds/\∀ H,RDs K H dds dvs
def aT(sp:df)(dds:List D)(ta:pQ):bJ:=fun σ G Q=>ta σ G fun ds G1=>sp (ds ++ dds) G1 Q
def bA(C:MU)(L:List Str)(sp:df)(dds:List D)(to:bJ)(ta:pQ):bJ:=fun σ G Q=>to σ G fun x G1=>match x with
 | .ref a=>match G1 a with
  | some (.ins C' L' _)=>(C'=C/\L'=L)/\ta σ G1 fun ds G2=>sp (.ref a::(ds ++ dds)) G2 Q
  | _=>False
 | _=>False
def jR(C:MU)(sp:df)(dds:List D)(ta:pQ):bJ:=fun σ G Q=>ta σ G fun ds G1=>∀ a,G1 a=none->sp (.ref a::(ds ++ dds)) (gset G1 a (.ins C [] [])) fun d G2=>d=.non/\Q (.ref a) G2
variable{e o:Np}{es:List Np}{t:pQ}{te to:bJ}{k:Nat}{x m:Str}{p apos:Pos}{dds:List D}{sp:df}{C:MU}
theorem DA{Q:VK}{τ:St}{H:Hp}{dvs:List V}(hd:∀ H,RDs K H dds dvs)(h:aJ K (aT sp dds t) τ H Q)(E:XK):HF (ax K sp) dvs E (fC K t) τ H Q:=by
 obtain⟨σ,G,Q3,rs,rg,h,kk⟩:=h;exact⟨σ,G,_,rs,rg,h,fun ds G1 vs H1 q k1 rg1 rds=>⟨ds ++ dds,G1,Q3,rds.append (hd H1),rg1,q,kk.base k1⟩⟩
theorem aO(F:Fn3 X.prog X.w X.K X.mg X.base k x dds sp)(hr:Room k X.A)(hg:Gl X x)(ha:PA X (e::es) (fC X.K t))(hdb:(x == ("__debug__":Str))=false:=by decide)(he:M_ (e::es) X.env=(false,eval e X.env)::M_ es X.env:=by rfl)
  (hpl:(N9 pos (M_ es X.env)).any (·.1)=false:=by rfl):PE X (.Call (.Name x p) (e::es) [] pos) (aJ X.K (aT sp dds t)):=by
 obtain⟨f,fd,ps,ds,dvs,ok,hm,hk,hb,hv,hd⟩:=F.ex;exact (GB ok hr hg hm hk hb hv wp ha hdb he hpl).imp fun _ _ _ h=>DA hd h E0
theorem qy{K:PySem.W.Frag}{gs:List (Str×V)}{L:List Str}{m:Str}(h:gs.map (·.1)=L)(n:m∉L):gs.lookup m=none:=by
 subst h
 induction gs with
 | nil=>rfl
 | cons g r ih=>
  obtain⟨y,v⟩:=g;rw[Nk,NH,not_or]at n;rw[Oe,show (m == y)=false by simpa using n.1]
  exact ih n.2
theorem C9{Q:VK}{τ:St}{H:Hp}{dvs:List V}{L:List Str}(hL:m∉L)(hd:∀ H,RDs K H dds dvs)(h:aJ K (bA C L sp dds to t) τ H Q)(E:XK):D7 C m (ax K sp) dvs E (aJ K to) (fC K t) τ H Q:=by
 obtain⟨σ,G,Q3,rs,rg,h,kk⟩:=h;refine⟨σ,G,_,rs,rg,h,fun d G1 v H1 q k1 rg1 re=>?_⟩;cases d with
 | ref a=>
  dsimp only at q;split at q
  ·rename_i C' L' ds hg;obtain⟨⟨rfl,rfl⟩,q⟩:=q;obtain⟨ho,e1,ro⟩:=rg1 a _ hg;cases ho with
   | ins C2 dx gs=>
    obtain⟨rfl,r2,r3⟩:=ro;refine⟨a,dx,gs,re.ref,e1,qy (K:=K) r2 hL,σ,G1,_,rs.mono (k1.stb rg),rg1,q,fun ds' G2 vs H2 q2 k2 rg2 rds=>?_⟩;rw[re.ref];exact⟨.ref a::(ds' ++ dds),G2,Q3,RDs.cons iu (rds.append (hd H2)),rg2,q2,kk.base (k1.trans k2)⟩
   | _=>exact ro.elim
  ·exact q.elim
 | _=>exact q.elim
theorem cG{pl:Sem Bool}{L:List Str}(F:Mt3 X.prog X.w X.K X.mg X.base k C m dds sp)(hL:m∉L)(hr:Room k X.A)(ho:PE X o (aJ X.K to))(ha:PA X (e::es) (fC X.K t))
  (hst:M_ (e::es) X.env=(false,eval e X.env)::M_ es X.env:=by rfl) (hpl:(N9 pos (M_ es X.env)).any (·.1)=false:=by rfl)
  (ht:eval (.Call (.Attribute o m apos) (e::es) [] pos) X.env=(do
   let ov <- eval o X.env
   Pq apos.atName
   let (f,first) <- holding [ov] (Pt ov m pl)
   QB pos f first (N9 pos (M_ (e::es) X.env)) (Pl pos (Oz [] X.env))):=by rfl):
  PE X (.Call (.Attribute o m apos) (e::es) [] pos) (aJ X.K (bA C L sp dds to t)):=by
 obtain⟨f,fd,ps,ds,dvs,ok,hm,hb,hv,hd⟩:=F.ex;exact (Gz ho F.cl hm ok hr hb hv wp ha hst hpl ht).imp fun _ _ _ h=>C9 hL hd h E0
theorem dy{pl:Sem Bool}{L:List Str}(F:Mt3 X.prog X.w X.K X.mg X.base k C m dds sp)(hL:m∉L)(hr:Room k X.A)(ho:PE X o (aJ X.K to))
  (ht:eval (.Call (.Attribute o m apos) [] [] pos) X.env=(do
   let ov <- eval o X.env
   Pq apos.atName
   let (f,first) <- holding [ov] (Pt ov m pl)
   QB pos f first (N9 pos (M_ [] X.env)) (Pl pos (Oz [] X.env))):=by rfl):
  PE X (.Call (.Attribute o m apos) [] [] pos) (aJ X.K (bA C L sp dds to av)):=by
 obtain⟨f,fd,ps,ds,dvs,ok,hm,hb,hv,hd⟩:=F.ex;refine (EO ho F.cl hm ok hr hb hv wp ht).imp fun τ H Q h=>?_;obtain⟨σ,G,Q3,rs,rg,h,kk⟩:=h;refine⟨σ,G,_,rs,rg,h,fun d G1 v H1 q k1 rg1 re=>?_⟩;cases d with
 | ref a=>
  dsimp only at q;split at q
  ·rename_i C' L' ds hg;obtain⟨⟨rfl,rfl⟩,q⟩:=q;obtain⟨ho,e1,ro⟩:=rg1 a _ hg;cases ho with
   | ins C2 dx gs=>
    obtain⟨rfl,r2,r3⟩:=ro;refine⟨a,dx,gs,re.ref,e1,qy (K:=X.K) r2 hL,?_⟩;rw[re.ref];exact⟨.ref a::([] ++ dds),G1,Q3,RDs.cons iu (hd H1),rg1,q,kk.base k1⟩
   | _=>exact ro.elim
  ·exact q.elim
 | _=>exact q.elim
theorem C_{Q:VK}{τ:St}{H:Hp}{dvs:List V}(hd:∀ H,RDs K H dds dvs)(h:aJ K (jR C sp dds t) τ H Q)(E:XK):HE C (ax K sp) dvs E (fC K t) τ H Q:=by
 obtain⟨σ,G,Q3,rs,rg,h,kk⟩:=h;refine⟨σ,G,_,rs,rg,h,fun ds G1 vs H1 q k1 rg1 rds a dx na nd ne=>?_⟩;have kd:Kp G1 H1 G1 (bG H1 dx (.own a)):=Kp.laid nd;have rgd:RG K (bG H1 dx (.own a)) G1:=rg1.laid nd;have na':bG H1 dx (.own a) a=none:=by rw[aB (Ne.symm ne)];exact na
 have ka:Kp G1 H1 (gset G1 a (.ins C [] [])) (bG (bG H1 dx (.own a)) a (.ins C dx [])):=fun b h' e n=>by
  have:b≠a:=bW e na;exact⟨by rw[aB this,aB (bW e nd)];exact e,by rw[al this];exact n⟩
 have st:Stb K H1 (bG (bG H1 dx (.own a)) a (.ins C dx [])):=ka.stb rg1;have rga:RG K (bG (bG H1 dx (.own a)) a (.ins C dx [])) (gset G1 a (.ins C [] [])):=fun b o q=>by
  by_cases hb:b=a
  ·subst hb;rw[aA]at q;cases q;exact⟨_,aX,rfl,rfl,RDs.nil⟩
  ·rw[al hb]at q;obtain⟨h',e1,r⟩:=rg1 b o q;exact⟨h',by rw[aB hb,aB (bW e1 nd)];exact e1,r.mono st⟩
 refine⟨.ref a::(ds ++ dds),_,_,RDs.cons iu (RDs.append (RDs.mono st _ _ rds) (hd _)),rga,q a (rg1.free na),fun d G2 v H2 q2 k2 rg2 re=>?_⟩;obtain⟨rfl,q2⟩:=q2;exact⟨re.non,kk _ G2 _ H2 q2 (k1.trans (ka.trans k2)) rg2 (.of iu)⟩
theorem jC(F:Mk3 X.prog X.w X.K X.mg X.base k x C dds sp)(hr:Room (k+1) X.A)(hg:Gl X x)(ha:PA X (e::es) (fC X.K t))(hdb:(x == ("__debug__":Str))=false:=by decide)(he:M_ (e::es) X.env=(false,eval e X.env)::M_ es X.env:=by rfl)
  (hpl:(N9 pos (M_ es X.env)).any (·.1)=false:=by rfl):PE X (.Call (.Name x p) (e::es) [] pos) (aJ X.K (jR C sp dds t)):=by
 obtain⟨f,fd,ps,ds,dvs,M,hm,ok,hb,hv,hd⟩:=F.ex;exact (GA M ok hr hg hm hb hv wp ha hdb he hpl).imp fun _ _ _ h=>C_ hd h E0
def dX(C:MU)(L:List Str)(i:Nat)(to:bJ):bJ:=fun σ G Q=>to σ G fun x G1=>match x with
 | .ref a=>match G1 a with
  | some (.ins C' L' ds)=>(C'=C/\L'=L)/\match ds[i]? with
   | some d=>Q d G1
   | none=>False
  | _=>False
 | _=>False
def uK(L:List Str)(f:Str)(i:Nat):Prop:=L[i]?=some f/\∀ j,j < i->L[j]?≠some f
theorem B_:∀ {gs:List (Str×V)} {f:Str} {i:Nat} {v:V},uK (gs.map (·.1)) f i->(gs.map (·.2))[i]?=some v->gs.lookup f=some v
 | [],f,i,v,h,e=>by simp at e
 | (g,u)::r,f,0,v,h,e=>by
  have:g=f:=by simpa using h.1
  subst this;simp at e;subst e;rw[Oe,beq_self_eq_true]
 | (g,u)::r,f,i+1,v,h,e=>by
  have ne:g≠f:=fun z=>h.2 0 (Nat.succ_pos _) (by simp[z])
  rw[Oe,show (f == g)=false by simpa using Ne.symm ne]
  exact B_ (i:=i) ⟨by simpa using h.1,fun j hj z=>h.2 (j+1) (Nat.succ_lt_succ hj) (by simpa using z)⟩ (by simpa using e)
theorem Ex:∀ {gs:List (Str×V)} {f:Str} {i:Nat} (v:V),uK (gs.map (·.1)) f i->(gg f v gs).map (·.1)=gs.map (·.1)/\(gg f v gs).map (·.2)=(gs.map (·.2)).set i v
 | [],f,i,v,h=>by have:=h.1;simp at this
 | (g,u)::r,f,0,v,h=>by
  have:g=f:=by simpa using h.1
  subst this;simp[gg]
 | (g,u)::r,f,i+1,v,h=>by
  have ne:g≠f:=fun z=>h.2 0 (Nat.succ_pos _) (by simp[z])
  have ih:=Ex (gs:=r) (i:=i) v ⟨by simpa using h.1,fun j hj z=>h.2 (j+1) (Nat.succ_lt_succ hj) (by simpa using z)⟩
  simp only[gg,if_neg ne,Nk,NP,ih.1,ih.2,and_self]
theorem put_new:∀ {gs:List (Str×V)} {f:Str} (v:V),f∉gs.map (·.1)->gg f v gs=gs ++ [(f,v)]
 | [],f,v,h=>rfl
 | (g,u)::r,f,v,h=>by
  rw[Nk,NH,not_or]at h;simp only[gg,if_neg (Ne.symm h.1),put_new v h.2,OO]
theorem cE{f:Str}{L:List Str}{i:Nat}(cl:Cls X.K C)(na:db X.K C f)(hi:uK L f i)(ho:PE X o (aJ X.K to))(hb:Op o f X.env (eval o X.env)=eval o X.env:=by rfl):PE X (.Attribute o f pos) (aJ X.K (dX C L i to)):=
 (ER ho hb).imp fun τ H Q zz=>by
 obtain⟨σ,G,Q3,rs,rg,h,kk⟩:=zz;exact (
  ⟨σ,G,_,rs,rg,h,fun d G1 v H1 q k1 rg1 re=>by
    cases d with
    | ref a=>
     dsimp only at q;split at q
     ·rename_i C' L' ds hg;obtain⟨⟨rfl,rfl⟩,q⟩:=q;split at q
      ·rename_i d hd;obtain⟨ho,e1,ro⟩:=rg1 a _ hg;cases ho with
       | ins C2 dx gs=>
        obtain⟨rfl,r2,r3⟩:=ro;subst r2;obtain⟨w,hw,rd⟩:=r3.get hd;exact⟨a,_,dx,gs,w,re.ref,e1,cl,na,B_ hi hw,kk _ G1 _ H1 q k1 rg1 (.of rd)⟩
       | _=>exact ro.elim
      ·exact q.elim
     ·exact q.elim
    | _=>exact q.elim⟩)
def qY(C:MU)(L:List Str)(i:Nat)(to tv:bJ):cj:=fun D σ G=>tv σ G fun d G1=>to σ G1 fun x G2=>match x with
 | .ref a=>match G2 a with
  | some (.ins C' L' ds)=>(C'=C/\L'=L)/\D.nx σ (gset G2 a (.ins C L (ds.set i (val d))))
  | _=>False
 | _=>False
def qX(C:MU)(L:List Str)(f:Str)(to tv:bJ):cj:=fun D σ G=>tv σ G fun d G1=>to σ G1 fun x G2=>match x with
 | .ref a=>match G2 a with
  | some (.ins C' L' ds)=>(C'=C/\L'=L)/\D.nx σ (gset G2 a (.ins C (L ++ [f]) (ds ++ [val d])))
  | _=>False
 | _=>False
theorem A3{H:Hp}{G:Gp}{a:MU}{C2 dx:MU}{gs gs':List (Str×V)}{L':List Str}{ds':List D}(rg:RG K H G)(e1:H a=some (.ins C2 dx gs))(r1:gs'.map (·.1)=L')(r2:RDs K H ds' (gs'.map (·.2)))(hg:G a≠none):
  Kp G H (gset G a (.ins C2 L' ds')) (bG H a (.ins C2 dx gs'))/\RG K (bG H a (.ins C2 dx gs')) (gset G a (.ins C2 L' ds')):=by
 have kp:Kp G H (gset G a (.ins C2 L' ds')) (bG H a (.ins C2 dx gs')):=fun b h e n=>by
  have:b≠a:=fun z=>by subst z;exact hg n
  exact⟨by rw[aB this];exact e,by rw[al this];exact n⟩
 have st:=kp.stb rg;refine⟨kp,fun b o q=>?_⟩
 by_cases hb:b=a
 ·subst hb;rw[aA]at q;cases q;exact⟨_,aX,rfl,r1,RDs.mono st _ _ r2⟩
 ·rw[al hb]at q;obtain⟨h',e2,r⟩:=rg b o q;exact⟨h',by rw[aB hb];exact e2,r.mono st⟩
theorem zk{f:Str}{L:List Str}{i:Nat}{pos':Pos}(cl:Cls X.K C)(na:db X.K C f)(hi:uK L f i)(hl:L.length < 1000)(ho:PE X o (aJ X.K to))(hv:PE X e (aJ X.K te))(hs:OP e (some (.Attribute o f pos')) pos.line X.env=pure false:=by rfl):
  PS X (.Assign [.Attribute o f pos'] e pos) (cL X.K (qY C L i to te)):=
 (A4 ho (d9 hv) hs).imp fun D τ H zz=>by
 obtain⟨σ,G,D3,rs,rg,h,kk⟩:=zz;exact (
  ⟨σ,G,_,rs,rg,h,fun d G1 v H1 q1 k1 rg1 rd=>⟨σ,G1,_,rs.mono (k1.stb rg),rg1,q1,fun x G2 u H2 q2 k2 rg2 re=>by
    cases x with
    | ref a=>
     dsimp only at q2;split at q2
     ·rename_i C' L' ds hg;obtain⟨⟨rfl,rfl⟩,q2⟩:=q2;obtain⟨ho,e1,ro⟩:=rg2 a _ hg;cases ho with
      | ins C2 dx gs=>
       obtain⟨rfl,r2,r3⟩:=ro;subst r2;obtain⟨p1,p2⟩:=Ex (gs:=gs) v hi;have rd2:=RD.mono (k2.stb rg1) _ _ rd;obtain⟨kp,rg3⟩:=A3 (gs':=gg f v gs) (L':=gs.map (·.1)) (ds':=ds.set i (val d)) rg2 e1 p1 (by rw[p2];exact r3.set i rd2) (by rw[hg];exact fun z=>nomatch z)
       exact⟨a,_,dx,gs,re.ref,e1,cl,na,by simpa using hl,kk.nx _ _ _ _ q2 ((k1.trans k2).trans kp) rg3 (rs.mono ((((k1.trans k2).trans kp)).stb rg))⟩
      | _=>exact ro.elim
     ·exact q2.elim
    | _=>exact q2.elim⟩⟩)
theorem qj{f:Str}{L:List Str}{pos':Pos}(cl:Cls X.K C)(na:db X.K C f)(hi:f∉L)(hl:L.length < 1000)(ho:PE X o (aJ X.K to))(hv:PE X e (aJ X.K te))(hs:OP e (some (.Attribute o f pos')) pos.line X.env=pure false:=by rfl):
  PS X (.Assign [.Attribute o f pos'] e pos) (cL X.K (qX C L f to te)):=
 (A4 ho (d9 hv) hs).imp fun D τ H zz=>by
 obtain⟨σ,G,D3,rs,rg,h,kk⟩:=zz;exact (
  ⟨σ,G,_,rs,rg,h,fun d G1 v H1 q1 k1 rg1 rd=>⟨σ,G1,_,rs.mono (k1.stb rg),rg1,q1,fun x G2 u H2 q2 k2 rg2 re=>by
    cases x with
    | ref a=>
     dsimp only at q2;split at q2
     ·rename_i C' L' ds hg;obtain⟨⟨rfl,rfl⟩,q2⟩:=q2;obtain⟨ho,e1,ro⟩:=rg2 a _ hg;cases ho with
      | ins C2 dx gs=>
       obtain⟨rfl,r2,r3⟩:=ro;subst r2;have rd2:=RD.mono (k2.stb rg1) _ _ rd;obtain⟨kp,rg3⟩:=A3 (gs':=gg f v gs) (L':=gs.map (·.1) ++ [f]) (ds':=ds ++ [val d]) rg2 e1 (by rw[put_new v hi];simp) (by rw[put_new v hi,Nv];exact r3.append (RDs.cons rd2 RDs.nil)) (by rw[hg];exact fun z=>nomatch z)
       exact⟨a,_,dx,gs,re.ref,e1,cl,na,by simpa using hl,kk.nx _ _ _ _ q2 ((k1.trans k2).trans kp) rg3 (rs.mono ((((k1.trans k2).trans kp)).stb rg))⟩
      | _=>exact ro.elim
     ·exact q2.elim
    | _=>exact q2.elim⟩⟩)
def LR(te:bJ)(g:uO):cj:=fun D σ G=>te σ G fun d G'=>g (val d) σ G' D.nx
abbrev Cv:=List D->Gp->oa->Prop
def mn(K:PySem.W.Frag)(r3:Cv):List V->Hp->VK->Prop:=fun vs H Q=>∃ ds G Q3,RDs K H ds vs/\RG K H G/\r3 ds G Q3/\uL K G H Q3 Q
def eB(r:Cv)(ta:pQ):bJ:=fun σ G Q=>ta σ G fun ds G1=>r ds G1 Q
variable{id T:String}{r3:Cv}
theorem Ia{Q:VK}{τ:St}{H:Hp}(h:aJ K (eB r3 t) τ H Q):LN (mn K r3) (fC K t) τ H Q:=by
 obtain⟨σ,G,Q3,rs,rg,h,kk⟩:=h;exact⟨σ,G,_,rs,rg,h,fun ds G1 vs H1 q k1 rg1 rds=>⟨ds,G1,Q3,rds,rg1,q,kk.base k1⟩⟩
theorem bO(hc:d4 X (.builtin id) (mn X.K r3))(hg:Gl X x)(hm:X.mg x=none)(hv:On x=some (.builtin id))(ha:PA X (e::es) (fC X.K t))(hn:x≠"__name__":=by decide)(hdb:(x == ("__debug__":Str))=false:=by decide)
  (he:M_ (e::es) X.env=(false,eval e X.env)::M_ es X.env:=by rfl) (hpl:(N9 pos (M_ es X.env)).any (·.1)=false:=by rfl):PE X (.Call (.Name x p) (e::es) [] pos) (aJ X.K (eB r3 t)):=
 (ET hc hg hm hv ha hn hdb he hpl).imp fun _ _ _ h=>Ia h
theorem l8(hc:d4 X (.type T) (mn X.K r3))(hg:Gl X x)(hm:X.mg x=none)(hv:On x=some (.type T))(ha:PA X (e::es) (fC X.K t))(hn:x≠"__name__":=by decide)(hdb:(x == ("__debug__":Str))=false:=by decide)
  (he:M_ (e::es) X.env=(false,eval e X.env)::M_ es X.env:=by rfl) (hpl:(N9 pos (M_ es X.env)).any (·.1)=false:=by rfl):PE X (.Call (.Name x p) (e::es) [] pos) (aJ X.K (eB r3 t)):=
 (CY hc hg hm hv ha hn hdb he hpl).imp fun _ _ _ h=>Ia h
def kO:Cv:=fun ds G Q=>match ds with
 | [.str z]=>z.length<=M4/\Q (.int z.length) G
 | [d]=>match FP G d with
  | some es=>Q (.int es.length) G
  | none=>False
 | _=>False
theorem gn{H:Hp}{d:D}{vs:List V}(r:RDs K H [d] vs):∃ v,vs=[v]/\RD K H d v:=by
 obtain⟨v,t,e,h1,h2⟩:=r.inv_cons;have:=h2.inv_nil;subst this;exact⟨v,e,h1⟩
theorem b_len:d4 X (.builtin "len") (mn X.K kO):=((yC (X:=X)).or (yD (X:=X))).imp fun vs H Q zz=>by
 obtain⟨ds,G,Q3,rds,rg,h,kk⟩:=zz;unfold kO at h;split at h
 ·rename_i z;obtain⟨v,rfl,rd⟩:=gn rds;simp only[RD]at rd;subst rd;exact .inl ⟨z,rfl,h.1,kk _ G _ H h.2 Kp.refl rg (.of eT)⟩
 ·rename_i d _;obtain⟨v,rfl,rd⟩:=gn rds;split at h
  ·rename_i es he;obtain⟨a,xs,rfl,s,r⟩:=uJ (G:=G) (H:=H) he (.of rd) rg;exact .inr ⟨a,xs,rfl,s,by rw[<- r.length];exact kk _ G _ H h Kp.refl rg (.of eT)⟩
  ·exact h.elim
 ·exact h.elim
def wN:Cv:=fun ds G Q=>match ds with
 | [d]=>match FP G d with
  | some es=>Q (.fl es) G
  | none=>False
 | _=>False
theorem b_list:d4 X (.type "list") (mn X.K wN):=(yB (X:=X)).imp fun vs H Q zz=>by
 obtain⟨ds,G,Q3,rds,rg,h,kk⟩:=zz;unfold wN at h;split at h
 ·rename_i d;obtain⟨v,rfl,rd⟩:=gn rds;split at h
  ·rename_i es he;obtain⟨a,xs,rfl,s,r⟩:=uJ (G:=G) (H:=H) he (.of rd) rg;exact⟨a,xs,rfl,s,fun p hp=>kk _ G _ _ h (Kp.laid hp) (rg.laid hp) (yr rg hp r)⟩
  ·exact h.elim
 ·exact h.elim
def yF:Cv:=fun ds G Q=>match ds with
 | [d]=>match FP G d with
  | some es=>Q (.tup es) G
  | none=>False
 | _=>False
theorem b_tuple:d4 X (.type "tuple") (mn X.K yF):=(v8 (X:=X)).imp fun vs H Q zz=>by
 obtain⟨ds,G,Q3,rds,rg,h,kk⟩:=zz;unfold yF at h;split at h
 ·rename_i d;obtain⟨v,rfl,rd⟩:=gn rds;split at h
  ·rename_i es he;obtain⟨a,xs,rfl,s,r⟩:=uJ (G:=G) (H:=H) he (.of rd) rg;refine⟨a,xs,rfl,?_⟩;rcases s with s|s
   ·exact .inl ⟨s,fun p hp=>kk _ G _ _ h (Kp.laid hp) (rg.laid hp) (.of (ow rg hp r))⟩
   ·exact .inr ⟨s,kk _ G _ H h Kp.refl rg (.of (qi s r))⟩
  ·exact h.elim
 ·exact h.elim
def Me:Cv:=fun ds G Q=>match ds with
 | [d]=>∃ ns:List Int,yJ G d=some (ns.map D.int)/\Q (.int ns.sum) G
 | _=>False
def DE:Cv:=fun ds G Q=>match ds with
 | [.int i,.int j]=>Q (.int (if j < i then j else i)) G
 | _=>False
def FI:Cv:=fun ds G Q=>match ds with
 | [.int i,.int j]=>Q (.int (if j > i then j else i)) G
 | _=>False
theorem yT{H:Hp}{i j:Int}{vs:List V}(r:RDs K H [.int i,.int j] vs):vs=[.int i,.int j]:=by
 obtain⟨v,t,e,h1,h2⟩:=r.inv_cons;obtain⟨u,e2,h3⟩:=gn h2;simp only[RD]at h1 h3;subst e e2 h1 h3;rfl
theorem b_min(hc:X.calm=true):d4 X (.builtin "min") (mn X.K DE):=(DB (X:=X) hc).imp fun vs H Q zz=>by
 obtain⟨ds,G,Q3,rds,rg,h,kk⟩:=zz;unfold DE at h;split at h
 ·rename_i i j;exact⟨i,j,yT rds,kk _ G _ H h Kp.refl rg (.of eT)⟩
 ·exact h.elim
theorem b_max(hc:X.calm=true):d4 X (.builtin "max") (mn X.K FI):=(DC (X:=X) hc).imp fun vs H Q zz=>by
 obtain⟨ds,G,Q3,rds,rg,h,kk⟩:=zz;unfold FI at h;split at h
 ·rename_i i j;exact⟨i,j,yT rds,kk _ G _ H h Kp.refl rg (.of eT)⟩
 ·exact h.elim
end
section
variable{X:Cx}
def C4:R3:=fun x y G Q=>match x,y with
 | .int i,.int j=>HA i j/\Q (.int (i*j)) G
 | .str z,.int n=>(-(2 ^ 63)<=n/\n < 2 ^ 63/\z.length*n.toNat<=M4)/\Q (.str (zh z n.toNat)) G
 | _,_=>False
theorem DP:iS X (Oi .Mult) (dM X.K C4):=((IY (X:=X)).or (A9 (X:=X))).imp fun v u H Q zz=>by
 obtain⟨x,y,G0,H0,G,Q3,rx,ry,rg,h,k⟩:=zz;unfold C4 at h;split at h
 ·rename_i i j;exact .inl ⟨i,j,rx.int,ry.int,h.1,k _ G _ H h.2 Kp.refl rg (.of eT)⟩
 ·rename_i z n;exact .inr ⟨z,n,rx.str,ry.int,h.1.1,h.1.2.1,h.1.2.2,k _ G _ H h.2 Kp.refl rg (.of kB)⟩
 ·exact h.elim
def uR:Lj:=fun x lo hi G Q=>match x with
 | .str z=>z.length<=M4/\Q (.str ⟨(n8 z.cps.toList lo hi).toArray⟩) G
 | .tup ds=>¬ (HT.sIx ds.length 0 lo=0/\HT.sIx ds.length ds.length hi=ds.length)/\Q (.tup (cutD ds lo hi)) G
 | x=>match yJ G x with
  | some ds=>Q (.fl (cutD ds lo hi)) G
  | none=>False
theorem kU:DG X (Fc X.K uR):=((Iw (X:=X)).or ((Iv (X:=X)).or (Ga (X:=X)))).imp fun v lo hi H Q zz=>by
 obtain⟨x,G0,H0,G,Q3,rx,rg,h,k⟩:=zz;unfold uR at h;split at h
 ·rename_i z;exact .inl ⟨z,rx.str,h.1,k _ G _ H h.2 Kp.refl rg (.of kB)⟩
 ·rename_i ds;obtain⟨a,xs,rfl,s,r⟩:=rx.tup;refine .inr (.inl ⟨a,xs,rfl,s,by rw[<- r.length];exact h.1,fun p hp=>k _ G _ _ h.2 (Kp.laid hp) (rg.laid hp) (.of (ow rg hp (Cj r lo hi)))⟩)
 ·split at h
  ·rename_i ds hds;obtain⟨a,xs,rfl,s,r⟩:=n_ hds rx rg;exact .inr (.inr ⟨a,xs,rfl,s,fun p hp=>k _ G _ _ h (Kp.laid hp) (rg.laid hp) (yr rg hp (Cj r lo hi))⟩)
  ·exact h.elim
def Ci(to:bJ)(ta:pQ):bJ:=fun σ G Q=>to σ G fun x G1=>match x with
 | .str z=>ta σ G1 fun ds G2=>match ds with
  | [d]=>∃ ys:List Str,yJ G2 d=some (ys.map D.str)/\(ys.map (·.length)).sum+ys.length*z.length<=16777216/\Q (.str (QC z ys)) G2
  | _=>False
 | _=>False
variable{o e:Np}{es:List Np}{to te:bJ}{t:pQ}{apos cpos pos p:Pos}
theorem IU(ho:PE X o (aJ X.K to))(ha:PA X [e] (fC X.K t))(Ui:Op o "join" X.env (eval o X.env)=eval o X.env:=by rfl)
  (Vt:((N9 cpos (M_ [e] X.env)).all (fun x=>!x.1) && (Pl cpos (Oz [] X.env)).all (fun x=>x.1.isSome)
   && decide (([e]:List Np).length+([]:List Qk).length+(if ([]:List Qk).isEmpty then 0 else 1) < 30))=true:=by rfl)
  (Uh:(apos.endLine == cpos.line)=true:=by rfl) (hs:M_ [e] X.env=(false,eval e X.env)::M_ [] X.env:=by rfl) (Ug:(N9 cpos (M_ [] X.env)).any (·.1)=false:=by rfl):
  PE X (.Call (.Attribute o "join" apos) [e] [] cpos) (aJ X.K (Ci to t)):=
 (HK PySem.F.plainAttrs_str PySem.F.slot_str_join PySem.F.type_str_join GR ho ha Ui Vt Uh hs Ug).imp fun τ H Q zz=>by
 obtain⟨σ,G,Q3,rs,rg,h,k⟩:=zz;exact (
  ⟨σ,G,_,rs,rg,h,fun d G1 v H1 q k1 rg1 re=>by
    cases d with
    | str z=>
     rw[re.str];refine⟨rfl,σ,G1,_,rs.mono (k1.stb rg),rg1,q,fun ds G2 vs H2 q2 k2 rg2 rds=>?_⟩;split at q2
     ·rename_i d;obtain⟨v2,rfl,rd⟩:=gn rds;obtain⟨ys,he,hl,q2⟩:=q2;obtain⟨a,xs,rfl,s,r⟩:=n_ (G:=G2) (H:=H2) he (.of rd) rg2;rw[r.strs_inv ys]at s;exact⟨z,a,ys,rfl,rfl,s,hl,k _ G2 _ H2 q2 (k1.trans k2) rg2 (.of kB)⟩
     ·exact q2.elim
    | _=>exact q.elim⟩)
def kN(to:bJ)(ta:pQ):bJ:=fun σ G Q=>to σ G fun x G1=>match x with
 | .ref a=>(∃ ds,G1 a=some (.lst ds))/\ta σ G1 fun es G2=>match es with
  | [d]=>match G2 a with
   | some (.lst ds)=>ds.length < M4/\Q .non (gset G2 a (.lst (ds ++ [d])))
   | _=>False
  | _=>False
 | _=>False
theorem GU{K:PySem.W.Frag}{H:Hp}{G:Gp}{a:MU}{xs ys:List V}{ds':List D}(rg:RG K H G)(e1:H a=some (.lst xs))(r2:RDs K H ds' ys)(hg:G a≠none):
  Kp G H (gset G a (.lst ds')) (bG H a (.lst ys))/\RG K (bG H a (.lst ys)) (gset G a (.lst ds')):=by
 have kp:Kp G H (gset G a (.lst ds')) (bG H a (.lst ys)):=fun b h e n=>by
  have:b≠a:=fun z=>by subst z;exact hg n
  exact⟨by rw[aB this];exact e,by rw[al this];exact n⟩
 have st:=kp.stb rg;refine⟨kp,fun b o q=>?_⟩
 by_cases hb:b=a
 ·subst hb;rw[aA]at q;cases q;exact⟨_,aX,RDs.mono st _ _ r2⟩
 ·rw[al hb]at q;obtain⟨h',e2,r⟩:=rg b o q;exact⟨h',by rw[aB hb];exact e2,r.mono st⟩
theorem t3{K:PySem.W.Frag}{H:Hp}{G:Gp}{a:MU}{ds:List D}(rg:RG K H G)(e:G a=some (.lst ds)):∃ xs,H a=some (.lst xs)/\RDs K H ds xs:=by
 obtain⟨ho,e1,ro⟩:=rg a _ e;cases ho with
 | lst xs=>exact⟨xs,e1,ro⟩
 | _=>exact ro.elim
theorem tK(ho:PE X o (aJ X.K to))(ha:PA X [e] (fC X.K t))(Ui:Op o "append" X.env (eval o X.env)=eval o X.env:=by rfl)
  (Vt:((N9 cpos (M_ [e] X.env)).all (fun x=>!x.1) && (Pl cpos (Oz [] X.env)).all (fun x=>x.1.isSome)
   && decide (([e]:List Np).length+([]:List Qk).length+(if ([]:List Qk).isEmpty then 0 else 1) < 30))=true:=by rfl)
  (Uh:(apos.endLine == cpos.line)=true:=by rfl) (hs:M_ [e] X.env=(false,eval e X.env)::M_ [] X.env:=by rfl) (Ug:(N9 cpos (M_ [] X.env)).any (·.1)=false:=by rfl):
  PE X (.Call (.Attribute o "append" apos) [e] [] cpos) (aJ X.K (kN to t)):=
 (HK PySem.F.plainAttrs_list PySem.F.slot_list_append PySem.F.type_list_append ww ho ha Ui Vt Uh hs Ug).imp fun τ H Q zz=>by
 obtain⟨σ,G,Q3,rs,rg,h,k⟩:=zz;exact (
  ⟨σ,G,_,rs,rg,h,fun d G1 v H1 q k1 rg1 re=>by
    cases d with
    | ref a=>
     rw[re.ref];obtain⟨⟨ds,hg⟩,q⟩:=q;obtain⟨xs,e1,r1⟩:=t3 rg1 hg;refine⟨.inl ⟨rfl,xs,kP.of e1⟩,σ,G1,_,rs.mono (k1.stb rg),rg1,q,fun es G2 vs H2 q2 k2 rg2 rds=>?_⟩;split at q2
     ·rename_i d;obtain⟨v2,rfl,rd⟩:=gn rds;split at q2
      ·rename_i ds2 hg2;obtain⟨xs2,e2,r2⟩:=t3 rg2 hg2;have rr:RDs X.K H2 (ds2 ++ [d]) (xs2 ++ [v2]):=r2.append (RDs.cons rd RDs.nil);obtain⟨kp,rg3⟩:=GU rg2 e2 rr (by rw[hg2];exact fun z=>nomatch z)
       exact⟨a,xs2,v2,rfl,rfl,e2,by rw[<- r2.length];exact q2.1,k _ _ _ _ q2.2 ((k1.trans k2).trans kp) rg3 (.of xn)⟩
      ·exact q2.elim
     ·exact q2.elim
    | _=>exact q.elim⟩)
def yc(G:Gp):D->Option String
 | .int _=>some "int"
 | .str _=>some "str"
 | .bl _=>some "bool"
 | .tup _=>some "tuple"
 | d=>(yJ G d).map fun _=>"list"
def Mf:Cv:=fun ds G Q=>match ds with
 | [d,.ty T]=>yc G d=some T/\Q (.bl true) G
 | _=>False
theorem B2{x:Str}{d:D}{v:V}{u:MV}(hg:Gl X x)(hm:X.mg x=some u)(r:aN v u)(rd:∀ H,RD X.K H d v)(hd:(x == ("__debug__":Str))=false:=by decide):PE X (.Name x pos) (aJ X.K (eC d)):=Kz (BY hg hm r hd) rd
def Mc(te:bJ):bJ:=fun σ G Q=>te σ G fun x G1=>match x with
 | .int i=>Q (.int (-i)) G1
 | _=>False
end
theorem mL{L:List Str}{f:Str}{i:Nat}(h:L.findIdx? (· == f)=some i):uK L f i:=by
 rw[List.findIdx?_eq_some_iff_getElem]at h;obtain⟨hi,h1,h2⟩:=h;refine⟨?_,fun j hj e=>?_⟩
 ·rw[M1 hi]
  simpa using h1
 ·have hj':j < L.length:=Nat.lt_trans hj hi;have:=h2 j hj;rw[M1 hj']at e;simp only[Option.some.injEq]at e;rw[e]at this;simp at this
def Ck(N:List Str)(osc scope:Pc)(T M:List Str):Bool:=
 decide (scope.kind=.function) && scope.names.all (fun y=>decide (y.2≠.cell) && (decide (y.2≠.local) || (decide (scope.names.lookup y.1=some .local) && ((".0":Str)::T).contains y.1)) &&
  (decide (y.2≠.free) || (decide (osc.names.lookup y.1=some .cell) || decide (osc.names.lookup y.1=some .free)))) && (M.all fun x=>!((".0":Str)::T).contains x) && decide (M.length=N.length) &&
  ((M.zip N).all fun p=>decide (p.1=p.2) || scope.names.all fun y=>decide (y.1≠p.1))
theorem bN{X:Cx}{scope:Pc}{T M:List Str}(hc:X.calm=true)(h:Ck X.N X.env.scope scope T M=true):CompOk X scope T M:=by
 unfold Ck at h;rw[Bool.and_eq_true,Bool.and_eq_true,Bool.and_eq_true]at h;obtain⟨⟨⟨h12,h3⟩,h4⟩,h5⟩:=h;have hlen:M.length=X.N.length:=of_decide_eq_true h4;simp only[Bool.and_eq_true,List.all_eq_true,Bool.or_eq_true,decide_eq_true_eq,Bool.not_eq_true',List.contains_eq_mem]at h12 h3 h5;obtain⟨h1,h2⟩:=h12;refine⟨hc,h1,fun y hy=>(h2 y hy).1.1,fun y hy hl=>?_,fun y hy hl=>?_,hlen,fun i x hx=>?_,fun x hx=>?_,fun y hy hf=>?_⟩
 ·rcases (h2 y hy).1.2 with z|z
  ·exact absurd hl z
  ·exact z.1
 ·rcases (h2 y hy).1.2 with z|z
  ·exact absurd hl z
  ·simpa using z.2
 ·have hi:i < M.length:=(List.getElem?_eq_some_iff.mp hx).1;have hi2:i < X.N.length:=by walk_at "o"
  have hm:(x,X.N[i])∈M.zip X.N:=by
   refine Na (i:=i) ?_;rw[List.getElem?_zip_eq_some];exact⟨hx,M1 hi2⟩
  rcases h5 _ hm with z|z
  ·left;rw[M1 hi2];exact congrArg some (show x=X.N[i]from z).symm
  ·exact .inr fun y hy=>z y hy
 ·simpa using h3 x hx
 ·rcases (h2 y hy).2 with z|z
  ·exact absurd hf z
  ·exact z
structure Fun3(K:PySem.W.Frag)(x qual:Str)(st:Nu)(f:MU)(fd:M7):Prop where
 ex:∃ (oc:MV) (od:Option MU) (dV kV doc pm:MV) (an:Option MU) (cdv ct:MV) (osl:Array (Option MV)),
  fd=PySem.W.fnOf x qual (fO st) (fi st) (aj st) dV kV doc pm an cdv ct/\K.lookup f=some ⟨oc,od,.func fd,osl⟩/\PySem.W.codeIn K cdv qual=true
section
variable{P:Nf}{w:Nn}{K:PySem.W.Frag}{mg:Str->Option MV}{base:No}
theorem Fun3.ok3{x qual:Str}{st:Nu}{f:MU}{fd:M7}{N ps:List Str}{k:Nat}{sp:df}(F:Fun3 K x qual st f fd)(S:FnScope N ps (aj st))(len:∀ ds G Q,sp ds G Q->ds.length=ps.length)
  (Vu:∀ (cdv:MV) (A:Nh) (outer:List Env) (s:MW) (H:Hp) (E:XK),Room k (A.deeper (Qs qual (aj st) s.heap.objs.size f cdv))->
   ∃ t:cj,rF (Dx dE P w K mg base N qual (aj st) f cdv A outer s H E).nox (fi st) (cL K t)/\∀ ds G Q,sp ds G Q->t { nx:=fun _ G'=>Q .non G',rt:=Q } (js N ds) G):FnOk P w K mg base dE (k+1) f fd ps (ax K sp):=by
 obtain⟨oc,od,dV,kV,doc,pm,an,cdv,ct,osl,rfl,lk,hcd⟩:=F.ex;refine KN lk hcd S (fun vs H Q E ⟨ds,G,Q3,rds,rg,h,kk⟩=>by rw[<- rds.length];exact len ds G Q3 h) fun A outer s H vs Q E hr hsp=>?_
 obtain⟨ds,G,Q3,rds,rg,h,kk⟩:=hsp;obtain⟨t,ht,hq⟩:=Vu cdv A outer s H E hr;refine⟨cL K t,ht.nox,js N ds,G,{ nx:=fun _ G'=>Q3 .non G',rt:=Q3 },Ei rds,rg,hq ds G Q3 h,⟨fun σ' G' τ' H' q k' rg' rs'=>kk _ G' _ H' q k' rg' (.of xn),kk,fun _ _ _ _ q=>q.elim,fun _ _ _ _ q=>q.elim⟩⟩
theorem mM{x qual:Str}{st:Nu}{f:MU}{oc:MV}{od an:Option MU}{osl:Array (Option MV)}{dV kV doc pm cdv ct:MV}(l:K.lookup f=some ⟨oc,od,.func (PySem.W.fnOf x qual (fO st) (fi st) (aj st) dV kV doc pm an cdv ct),osl⟩)
  (c:PySem.W.codeIn K cdv qual=true):Fun3 K x qual st f (PySem.W.fnOf x qual (fO st) (fi st) (aj st) dV kV doc pm an cdv ct):=⟨⟨oc,od,dV,kV,doc,pm,an,cdv,ct,osl,rfl,l,c⟩⟩
end
theorem ag{t u:cj}{D:Ends3}{σ:gv}{G:Gp}:sSeq t u D σ G=t { D with nx:=u D } σ G:=rfl
theorem pI{ds:List D}{i:Int}(h:0<=i):cutD ds none (some i)=ds.take i.toNat:=by
 have:HT.sIx ds.length ds.length (some i)=min i.toNat ds.length:=by simp only[HT.sIx];rw[if_neg (by walk_at "o")]
 unfold cutD;rw[this];simp only[HT.sIx,PQ,Qx];rw[List.take_eq_take_iff];omega
theorem mR{ds:List D}{i:Int}(h:0<=i):cutD ds (some i) none=ds.drop i.toNat:=by
 have:HT.sIx ds.length 0 (some i)=min i.toNat ds.length:=by simp only[HT.sIx];rw[if_neg (by walk_at "o")]
 unfold cutD;rw[this];simp only[HT.sIx];rw[List.take_of_length_le (by simp)]
 by_cases hi:i.toNat<=ds.length
 ·rw[Nat.min_eq_left hi]
 ·rw[Nat.min_eq_right (by walk_at "o"),PJ,List.drop_eq_nil_of_le (by walk_at "o")]
theorem jS{ds:List D}{i j:Int}(h:0<=i)(h2:0<=j):cutD ds (some i) (some j)=(ds.drop i.toNat).take (j.toNat - i.toNat):=by
 have e1:HT.sIx ds.length 0 (some i)=min i.toNat ds.length:=by simp only[HT.sIx];rw[if_neg (by walk_at "o")]
 have e2:HT.sIx ds.length ds.length (some j)=min j.toNat ds.length:=by simp only[HT.sIx];rw[if_neg (by walk_at "o")]
 unfold cutD;rw[e1,e2]
 by_cases hi:i.toNat<=ds.length
 ·rw[Nat.min_eq_left hi,List.take_eq_take_iff,NW]
  by_cases hj:j.toNat<=ds.length
  ·rw[Nat.min_eq_left hj]
  ·have hj':=Nat.le_of_not_le hj;rw[Nat.min_eq_right hj',Nat.min_self,Nat.min_eq_right (Nat.sub_le_sub_right hj' _)]
 ·rw[Nat.min_eq_right (Nat.le_of_not_le hi),PJ,List.drop_eq_nil_of_le (le_of_lt (Nat.lt_of_not_le hi))];simp
theorem Hn{cs:List Nat}{i:Int}(h:0<=i):n8 cs none (some i)=cs.take i.toNat:=by
 have:HT.sIx cs.length cs.length (some i)=min i.toNat cs.length:=by simp only[HT.sIx];rw[if_neg (by walk_at "o")]
 unfold n8;rw[this];simp only[HT.sIx,PQ,Qx];rw[List.take_eq_take_iff];omega
def S(cs:List Nat):Str:=⟨cs.toArray⟩
theorem Li(x:Str):S x.cps.toList=x:=by cases x;simp[S]
theorem Ax{a b:List Nat}:S a ++ S b=S (a ++ b):=by
 show Str.append (S a) (S b)=_
 simp[Str.append,S]
theorem signs_length(x:Str):(signs x).length=x.length:=by simp[signs,PZ]
theorem uI{ds:List D}{i:Int}(h0:0<=i)(h:i < ds.length):iT ds i=some (ds[i.toNat]'(by walk_at "o")):=by
 unfold iT HX;rw[if_pos h0,if_pos h];simp[show i.toNat < ds.length by walk_at "o"]
theorem Dj(ys:List Str):QC (S []) ys=S (ys.map (·.cps.toList)).flatten:=by
 rw[eq_of_beq (join_plain_closes (S []) ys)]
 induction ys with
 | nil=>rfl
 | cons y r ih=>
  cases r with
  | nil=>simp only[Str.join,Nk,Pf,List.flatten_cons,List.flatten_nil,Oj,Li]
  | cons z r=>
   rw[Str.join,ih,Nk,List.flatten_cons]
   conv=>lhs;rw[<- Li y]
   rw[Ax,Ax,Oj]
   all_goals first|rfl|simp
theorem Bp(cs:List Nat):QC (S []) (cs.map fun c=>(⟨#[c]⟩:Str))=S cs:=by
 rw[Dj];congr 1
 induction cs with
 | nil=>rfl
 | cons c r ih=>simp only[Nk,List.flatten_cons,ih];rfl
theorem ai:1000000<=M4:=by decide
theorem jB(lo:Int)(n:Nat):(gJ lo n).length=n:=by simp[gJ]
theorem AZ{lo:Int}{n i:Nat}{d:D}(h:(gJ lo n)[i]?=some d):i < n/\d=.int (lo+(i:Nat)):=by
 have hl:i < (gJ lo n).length:=(List.getElem?_eq_some_iff.mp h).1;rw[jB]at hl;refine⟨hl,?_⟩;rw[gJ,Ng,List.getElem?_range hl]at h
 simpa using h.symm
def wW:df:=fun vs _ Q=>match vs with
 | [.lst ds]=>∃ ns:List Int,ds=ns.map D.int/\ns.length<=63/\∀ G',Q (.bl true) G'
 | _=>False
theorem Df{K:PySem.W.Frag}{H:Hp}{a:MU}{ns:List Int}(hl:ns.length<=63)(hO:Hy H)(hS:kP K H a (ns.map V.int))(E:XK):ax K wW [.ref a] H (fun v _=>v=.bl true) E:=by
 have hF:FN K H a (ns.map V.int):=by
  rcases hS with (h|⟨o,h⟩)|h
  ·rcases hO a with e|⟨o,xs,e⟩
   ·rw[h]at e;cases e
   ·rw[h]at e;cases e
  ·exact .inl ⟨o,h⟩
  ·exact .inr h
 refine⟨[.lst (ns.map D.int)],fun _=>none,fun d _=>d=.bl true,RDs.cons (tF hF (RDs.ints ns)) RDs.nil,(fun b o q=>nomatch q),⟨ns,rfl,hl,fun _=>rfl⟩,fun d G' v H' q _ _ re=>?_⟩;subst q;exact re.bl
theorem walk3{l:PySem.W.OpenLaw}{q:Nf}{loose:List Str}{XP:(Str->Option MV)->No->Prop}{YP:Nn->No->Prop}{d:DefRec}{K:Params->PySem.W.Frag}{k:Nat}{x:Str}(hn:l.most=some 63)(hdf:d.params.defaults=[])(hr:Room k Qi)
  (hY:∀ (w:Nn) (h:No),YP w h->(K w.params).In h)
  (F:∀ (w:Nn) (mg:Str->Option MV) (fa:MU) (h:No),(K w.params).In h->h.Ns Nd mg->mg d.name=some (.ref fa)->
   ∃ fd:M7,(∀ (s:MW) (u:MV),QR s fd ⟨[u],[]⟩ [(x,u)])/\∀ base:No,(K w.params).In base->base.Ns Nd mg->FnOk l.prog w (K w.params) mg base dE k fa fd [x] (ax (K w.params) wW)):
  PySem.W.WalkO q loose XP YP l.row.toRowW d [] (fun f vs=>PySem.call f vs):=
 L2.walk_of (n:=63) (k:=k) (x:=x) (CX:=fun _=>dE) (sp:=fun w=>ax (K w.params) wW) hn (by decide) hdf hr hY F (fun _ _ _ _ hl hO hS=>Df hl hO hS _) fun _ _ _ _ _ z=>z
end L3
namespace L2
open PySem PySem.Spec PyProof.Rows
end L2
namespace L3
open PySem PySem.Spec PyProof.Rows L2
def LP(i:Nat)(t:cj):cj:=fun D σ G=>match σ[i]? with
 | some (some (.ref p))=>match G p with
  | some (.lst ds)=>t D (σ.set i (some (.lst ds))) (gO G p)
  | _=>False
 | some (some (.lst _))=>t D σ G
 | _=>False
def L6(ta:pQ):FQ:=fun σ G Q=>ta σ G fun ds G'=>match ds with
 | [.lst es]=>Q es.reverse G'
 | _=>False
theorem Le{a:D}:iT [a] 0=some a:=rfl
theorem Ld{a b:D}:iT [a,b] 0=some a:=rfl
theorem Lc{a b:D}:iT [a,b] 1=some b:=rfl
theorem Lb{a b c:D}:iT [a,b,c] 0=some a:=rfl
theorem La{a b c:D}:iT [a,b,c] 1=some b:=rfl
theorem K_{a b c:D}:iT [a,b,c] 2=some c:=rfl
theorem K9{a b c d:D}:iT [a,b,c,d] 0=some a:=rfl
theorem K8{a b c d:D}:iT [a,b,c,d] 1=some b:=rfl
theorem K7{a b c d:D}:iT [a,b,c,d] 2=some c:=rfl
theorem K6{a b c d:D}:iT [a,b,c,d] 3=some d:=rfl
theorem K5{a b c d e:D}:iT [a,b,c,d,e] 0=some a:=rfl
theorem K4{a b c d e:D}:iT [a,b,c,d,e] 1=some b:=rfl
theorem K3{a b c d e:D}:iT [a,b,c,d,e] 2=some c:=rfl
theorem K2{a b c d e:D}:iT [a,b,c,d,e] 3=some d:=rfl
theorem K1{a b c d e:D}:iT [a,b,c,d,e] 4=some e:=rfl
theorem cO{c:pP}{t u:cj}{E:Ends3}{σ:gv}{G:Gp}(b:Bool)(hc:∀ K:Bool->Gp->Prop,K b G->c σ G K)(h:if b=true then t E σ G else u E σ G):oH c t u E σ G:=hc _ h
theorem sP{t u:cj}{E:Ends3}{σ:gv}{G:Gp}{NX:gv->Gp->Prop}(h2:∀ σ' G',NX σ' G'->u E σ' G')(h1:∀ NX':gv->Gp->Prop,(∀ σ' G',NX σ' G'->NX' σ' G')->t { E with nx:=NX' } σ G):sSeq t u E σ G:=h1 (u E) h2
open PySem.SeqAt
def L4(x:D)(ds:List D):Bool:=ds.any fun d=>fE d x
def Jd:R3:=fun x y G Q=>match FP G y with
 | some ds=>(pl 7 x/\∀ d∈ds,pl 7 d)/\Q (.bl (!L4 x ds)) G
 | none=>False
section
variable{κ:Type}[DecidableEq κ]
def c7(kvs:List (κ×D))(k:κ):Option D:=(kvs.find? fun kv=>decide (kv.1=k)).map (·.2)
def bH(kvs:List (κ×D))(k:κ)(v:D):List (κ×D):=
 if (kvs.any fun kv=>decide (kv.1=k))=true then kvs.map (fun kv=>if kv.1=k then (kv.1,v)else kv)else kvs ++ [(k,v)]
theorem pK(k:κ):∀ kvs:List (κ×D),(kvs.any fun kv=>decide (kv.1=k))=(c7 kvs k).isSome
 | []=>rfl
 | p::r=>by
  by_cases e:p.1=k
  ·simp[c7,Nz,e]
  ·have ih:=pK k r;simp only[Qf,e,decide_false,Bool.false_or,ih];simp[c7,Nz,e]
theorem fT(kvs:List (κ×D))(k:κ)(v:D):(bH kvs k v).length<=kvs.length+1:=by
 unfold bH;split<;>simp
theorem CO(kvs:List (κ×D))(k:κ)(v:D):(bH kvs k v).map (·.1)=if k∈kvs.map (·.1)then kvs.map (·.1)else kvs.map (·.1) ++ [k]:=by
 unfold bH;have e:((kvs.any fun kv=>decide (kv.1=k))=true)↔k∈kvs.map (·.1):=by
  rw[List.any_eq_true,mem_map];constructor
  ·rintro⟨p,hp,q⟩;exact⟨p,hp,of_decide_eq_true q⟩
  ·rintro⟨p,hp,rfl⟩;exact⟨p,hp,decide_eq_true rfl⟩
 by_cases h:k∈kvs.map (·.1)
 ·rw[if_pos (e.mpr h),if_pos h,Nr];refine NL fun p _=>?_;simp only[Function.comp_apply];split<;>rfl
 ·rw[if_neg (fun z=>h (e.mp z)),if_neg h];simp
theorem nK{kvs:List (κ×D)}(k:κ)(v:D)(h:(kvs.map (·.1)).Nodup):((bH kvs k v).map (·.1)).Nodup:=by
 rw[CO];split
 ·exact h
 ·rename_i hk;rw[List.nodup_append];refine⟨h,by simp,fun a ha b hb=>?_⟩
  have:b=k:=by simpa using hb
  subst this;exact fun z=>hk (z ▸ ha)
end
def Ha:D->Option aM
 | .int i=>some (.inl i)
 | .str x=>some (.inr x)
 | _=>none
def kD:aM->D
 | .inl i=>.int i
 | .inr x=>.str x
def zU:List D->Option (List aM)
 | []=>some []
 | d::r=>match Ha d,zU r with
  | some k,some ks=>some (k::ks)
  | _,_=>none
def pA:D->Option (List aM)
 | .tup ds=>zU ds
 | _=>none
theorem Js(k:aM):Ha (kD k)=some k:=by cases k<;>rfl
theorem Cc:∀ ks:List aM,zU (ks.map kD)=some ks
 | []=>rfl
 | k::r=>by simp only[Nk,zU,Js,Cc r]
section
variable{K:PySem.W.Frag}{H:Hp}
theorem Bo{d:D}{k:aM}{v:V}(h:Ha d=some k)(r:RD K H d v):v=kV k:=by
 cases d with
 | int i=>simp only[Ha,Option.some.injEq]at h;subst h;simp only[RD]at r;exact r
 | str i=>simp only[Ha,Option.some.injEq]at h;subst h;simp only[RD]at r;exact r
 | _=>simp[Ha]at h
theorem zT:∀ {ds:List D} {ks:List aM} {vs:List V},zU ds=some ks->RDs K H ds vs->vs=ks.map kV
 | [],ks,vs,h,r=>by
  simp only[zU,Option.some.injEq]at h;subst h;exact r.inv_nil
 | d::t,ks,vs,h,r=>by
  obtain⟨x,u,e,h1,h2⟩:=r.inv_cons;subst e;simp only[zU]at h;split at h
  ·rename_i k kr e1 e2;simp only[Option.some.injEq]at h;subst h;rw[Bo e1 h1,zT e2 h2];rfl
  ·cases h
theorem sv{d:D}{ks:List aM}{v:V}(h:pA d=some ks)(r:RD K H d v):∃ b,v=.ref b/\kT K H b (ks.map kV):=by
 cases d with
 | tup ds=>
  simp only[RD]at r;obtain⟨a,xs,e,q,rr⟩:=r;exact⟨a,e,by rw[<- zT h rr];exact q⟩
 | _=>simp[pA]at h
theorem pR.keys{kvs:List (List aM×D)}{xs:List (List aM×MU×MV)}(r:pR K H kvs xs):kvs.map (·.1)=xs.map (·.1):=by
 unfold pR at r
 induction r with
 | nil=>rfl
 | cons h _ ih=>rw[Nk,Nk,h.1,ih]
theorem pR.val{kvs:List (List aM×D)}{xs:List (List aM×MU×MV)}(r:pR K H kvs xs)(k:List aM):
  (c7 kvs k=none/\Pm xs k=none)\/∃ d b u v,c7 kvs k=some d/\Pm xs k=some (b,u)/\RD K H d v/\aN v u:=by
 unfold pR at r
 induction r with
 | nil=>exact .inl ⟨rfl,rfl⟩
 | @cons p q ps qs h t ih=>
  obtain⟨h1,_,v,h2,h3⟩:=h
  by_cases e:p.1=k
  ·have e':q.1=k:=h1.symm.trans e;exact .inr ⟨p.2,q.2.1,q.2.2,v,by simp[c7,Nz,e],by simp[Pm,Nz,e'],h2,h3⟩
  ·have e':¬ q.1=k:=fun z=>e (h1.trans z);have a1:c7 (p::ps) k=c7 ps k:=by simp[c7,Nz,e]
   have a2:Pm (q::qs) k=Pm qs k:=by simp[Pm,Nz,e']
   rw[a1,a2];exact ih
theorem pR.put{kvs:List (List aM×D)}{xs:List (List aM×MU×MV)}(r:pR K H kvs xs)(k:List aM){b:MU}{d:D}{v:V}{u:MV}(hb:kT K H b (k.map kV))(hd:RD K H d v)(hu:aN v u):pR K H (bH kvs k d) (Qg xs k b u):=by
 have e:(kvs.any fun kv=>decide (kv.1=k))=(Pm xs k).isSome:=by
  rw[pK];rcases r.val k with ⟨a,b⟩|⟨_,_,_,_,a,b,_⟩<;>rw[a,b]<;>rfl
 unfold bH Qg;rw[e]
 by_cases q:(Pm xs k).isSome=true
 ·rw[if_pos q,if_pos q];unfold pR at r ⊢;clear e q
  induction r with
  | nil=>exact .nil
  | @cons p q ps qs h t ih=>
   rw[Nk,Nk];refine .cons ?_ ih;obtain⟨h1,h2,v',h3,h4⟩:=h;unfold putAt
   by_cases e:p.1=k
   ·rw[if_pos e,if_pos (h1.symm.trans e)];exact⟨h1,h2,v,hd,hu⟩
   ·rw[if_neg e,if_neg (fun z=>e (h1.trans z))];exact⟨h1,h2,v',h3,h4⟩
 ·rw[if_neg q,if_neg q];exact QM r ⟨rfl,hb,v,hd,hu⟩
theorem Az.val{kvs:List (aM×D)}{xs:List (aM×V)}(r:Az K H kvs xs)(k:aM):(c7 kvs k=none/\nl xs k=none)\/∃ d v,c7 kvs k=some d/\nl xs k=some v/\RD K H d v:=by
 unfold Az at r
 induction r with
 | nil=>exact .inl ⟨rfl,rfl⟩
 | @cons p q ps qs h t ih=>
  obtain⟨h1,h2⟩:=h
  by_cases e:p.1=k
  ·have e':q.1=k:=h1.symm.trans e;exact .inr ⟨p.2,q.2,by simp[c7,Nz,e],ot e',h2⟩
  ·have e':¬ q.1=k:=fun z=>e (h1.trans z);have a1:c7 (p::ps) k=c7 ps k:=by simp[c7,Nz,e]
   rw[a1,ou e'];exact ih
theorem Az.put{kvs:List (aM×D)}{xs:List (aM×V)}(r:Az K H kvs xs)(k:aM){d:D}{v:V}(hd:RD K H d v):Az K H (bH kvs k d) (oY xs k v):=by
 have e:(kvs.any fun kv=>decide (kv.1=k))=(xs.any fun kv=>decide (kv.1=k)):=by
  rw[pK,sH];rcases r.val k with ⟨a,b⟩|⟨_,_,a,b,_⟩<;>rw[a,b]<;>rfl
 unfold bH oY;rw[e]
 by_cases q:(xs.any fun kv=>decide (kv.1=k))=true
 ·rw[if_pos q,if_pos q];unfold Az at r ⊢;clear e q
  induction r with
  | nil=>exact .nil
  | @cons p q ps qs h t ih=>
   rw[Nk,Nk];refine .cons ?_ ih;obtain⟨h1,h2⟩:=h
   by_cases e:p.1=k
   ·rw[if_pos e,if_pos (h1.symm.trans e)];exact⟨h1,hd⟩
   ·rw[if_neg e,if_neg (fun z=>e (h1.trans z))];exact⟨h1,h2⟩
 ·rw[if_neg q,if_neg q];exact QM r ⟨rfl,hd⟩
theorem Az.length{kvs:List (aM×D)}{xs:List (aM×V)}(r:Az K H kvs xs):kvs.length=xs.length:=Ph r
theorem pR.length{kvs:List (List aM×D)}{xs:List (List aM×MU×MV)}(r:pR K H kvs xs):kvs.length=xs.length:=Ph r
end
def ah(P:Nf)(w:Nn):List aM->Int:=tupleKeyHash (bu P w)
section
variable{X:Cx}{pins:List (MU×Obj)}{σ:St}{H:Hp}{s:MW}{a:MU}
theorem key_at(I:Inv X pins σ H s){b:MU}{ks:List aM}(h:kT X.K H b (ks.map kV)):(N6 (bu X.prog X.w)).is s.heap ks b:=by
 obtain⟨its,r,⟨o,h1,h2,n,h3⟩,_⟩:=I.tuple h;exact⟨o,its.toArray,n,h1,h2,h3,by simpa using qJ r⟩
theorem yx(I:Inv X pins σ H s){kvs:List (List aM×D)}{xs:List (List aM×MU×MV)}(e:H a=some (.ext (yP (ah X.prog X.w) a xs)))(r:pR X.K H kvs xs)(nd:(kvs.map (·.1)).Nodup):
  (a == NK)=false/\s.heap.DictOfH (N6 (bu X.prog X.w)) a xs:=by
 obtain⟨hd,o,es,ep,h1,h2,h3,h4⟩:=(show ce X.prog X.w H s.heap a (.ext (yP (ah X.prog X.w) a xs))from I.hok a _ e).1
 refine⟨hd,o,es,ep,h1,h2,h3,h4,?_,by rw[<- r.keys];exact nd⟩
 unfold pR at r;clear h4 e nd
 induction r with
 | nil=>intro x hx;exact nomatch hx
 | @cons p q ps qs hq t ih=>
  intro x hx;rcases NH.mp hx with e|hx
  ·subst e;exact key_at I (by rw[<- hq.1];exact hq.2.1)
  ·exact ih x hx
theorem qQ{P:Nf}{w:Nn}{H':Hp}{h:No}{hw:List aM->Int}{xs:List (List aM×MU×MV)}(h1:yP hw a xs h):ce P w H' h a (.ext (yP hw a xs)):=by
 obtain⟨hd,o,es,ep,e,r⟩:=h1;exact⟨⟨hd,o,es,ep,e,r⟩,⟨o,e⟩,fun h1 h2 ⟨hd,o,es,ep,e,r⟩ k=>⟨hd,o,es,ep,k o e,r⟩⟩
end
section
variable{K:PySem.W.Frag}{H:Hp}{G:Gp}
theorem Hd{p:MU}{o:GO}{ho:HO}(rg:RG K H G)(e:H p=none)(ro:∀ H':Hp,Stb K H H'->RO K H' p o ho):Kp G H (gset G p o) (bG H p ho)/\RG K (bG H p ho) (gset G p o):=by
 have kp:Kp G H (gset G p o) (bG H p ho):=fun b h q n=>by
  have:b≠p:=bW q e;exact⟨by rw[aB this];exact q,by rw[al this];exact n⟩
 refine⟨kp,fun b u q=>?_⟩
 by_cases hb:b=p
 ·subst hb;rw[aA]at q;cases q;exact⟨_,aX,ro _ (kp.stb rg)⟩
 ·rw[al hb]at q;obtain⟨h,q1,q2⟩:=rg b u q;exact⟨h,by rw[aB hb];exact q1,q2.mono (kp.stb rg)⟩
theorem yn{a:MU}{o:GO}{ho:HO}(rg:RG K H G)(hg:G a≠none)(ro:∀ H':Hp,Stb K H H'->RO K H' a o ho):Kp G H (gset G a o) (bG H a ho)/\RG K (bG H a ho) (gset G a o):=by
 have kp:Kp G H (gset G a o) (bG H a ho):=fun b h e n=>by
  have:b≠a:=fun z=>by subst z;exact hg n
  exact⟨by rw[aB this];exact e,by rw[al this];exact n⟩
 refine⟨kp,fun b u q=>?_⟩
 by_cases hb:b=a
 ·subst hb;rw[aA]at q;cases q;exact⟨_,aX,ro _ (kp.stb rg)⟩
 ·rw[al hb]at q;obtain⟨h,q1,q2⟩:=rg b u q;exact⟨h,by rw[aB hb];exact q1,q2.mono (kp.stb rg)⟩
end
def rA(hw:List aM->Int):bJ:=fun _ G Q=>∀ p,G p=none->Q (.ref p) (gset G p (.dT hw []))
def Fw:bJ:=fun _ G Q=>∀ p,G p=none->Q (.ref p) (gset G p (.dK []))
section
variable{X:Cx}{pos:Pos}
theorem qm:PE X (.Dict [] [] pos) (aJ X.K (rA (ah X.prog X.w))):=fun pins s τ H Q I zz=>by
 obtain⟨σ,G,Q3,rs,rg,h,k⟩:=zz;have hf:H s.heap.objs.size=none:=I.hok.fresh (le_refl _);obtain⟨kp,rg2⟩:=Hd (o:=.dT (ah X.prog X.w) []) (ho:=.ext (yP (ah X.prog X.w) s.heap.objs.size [])) rg hf fun H' _=>⟨[],rfl,.nil,QG,NI _⟩;have hd:(s.heap.objs.size == NK)=false:=beq_eq_false_iff_ne.mpr (Ne.symm (NB I.big));exact wpAny_Dict_empty ⟨.ref s.heap.objs.size,_,I.laid (a:=s.heap.objs.size) (t':=s.toks) (fun _ _ q=>M0 _ q) (le_refl _) (qQ ⟨hd,_,#[],0,M6 _ rfl,⟨rfl,rfl,rfl⟩,rfl,rfl⟩),rfl,
  k _ _ _ _ (h _ (rg.free hf)) kp rg2 (.of iu)⟩
theorem IV:PE X (.Dict [] [] pos) (aJ X.K Fw):=ES.imp fun τ H Q ⟨σ,G,Q3,rs,rg,h,k⟩ p hp=>by
 obtain⟨kp,rg2⟩:=Hd (o:=.dK []) (ho:=.dK []) rg hp fun H' _=>(show Az X.K H' [] []from .nil)
 exact k _ _ _ _ (h _ (rg.free hp)) kp rg2 (.of iu)
end
def me(hw:List aM->Int):D->D->D->Gp->(Gp->Prop)->Prop:=fun o i v G Q=>match o with
 | .ref a=>match G a with
  | some (.dT hw' kvs)=>hw'=hw/\∃ ks,pA i=some ks/\kvs.length < M4/\Q (gset G a (.dT hw (bH kvs ks v)))
  | some (.dK kvs)=>∃ k,Ha i=some k/\kvs.length < M4/\Q (gset G a (.dK (bH kvs k v)))
  | some (.lst ds)=>match i with
   | .int j=>∃ m,HX ds.length j=some m/\Q (gset G a (.lst (ds.set m v)))
   | _=>False
  | _=>False
 | _=>False
def GW(K:PySem.W.Frag)(r:D->D->D->Gp->(Gp->Prop)->Prop):Hv:=fun o i v H Q=>∃ x y z G Q3,RD K H x o/\RD K H y i/\RD K H z v/\RG K H G/\r x y z G Q3/\∀ G' H',Q3 G'->Kp G H G' H'->RG K H' G'->Q H'
def fB(hw:List aM->Int)(to ti te:bJ):cj:=fun E σ G=>te σ G fun v G1=>to σ G1 fun o G2=>ti σ G2 fun i G3=>me hw (val o) (val i) (val v) G3 fun G4=>E.nx σ G4
section
variable{X:Cx}
theorem Ie(hu:X.A.units+8 < NM):JU X (GW X.K (me (ah X.prog X.w))):=by
 rintro pins s σ H o i v ov iv u Q I ro ri rv ⟨x,y,z,G,Q3,rx,ry,rz,rg,h,k⟩
 unfold me at h;split at h
 ·rename_i a;simp only[RD]at rx;subst rx;cases ro;split at h
  ·rename_i hw' kvs hg;obtain⟨rfl,ks,hk,hl,h⟩:=h;obtain⟨b,rfl,sq⟩:=sv hk ry;cases ri;obtain⟨ho,e,r⟩:=rg a _ hg;cases ho with
   | ext φ=>
    obtain⟨xs,rfl,rt,nd,_⟩:=r;obtain⟨hd,dd⟩:=yx I e rt nd;have hz:xs.length<=M4:=by rw[<- rt.length];omega
    refine Ry (hsz:=hz) (NJ (show X.A.units+1 < NM by walk_at "o")) (key_at I sq) dd fun h' dd' hs=>?_
    obtain⟨q,es,ep,hq,h2,h3,h4,_,h5⟩:=dd';obtain⟨kp,rg2⟩:=yn (a:=a) (o:=.dT (ah X.prog X.w) (bH kvs ks z)) (ho:=.ext (yP (ah X.prog X.w) a (Qg xs ks b u))) rg (by rw[hg];exact fun z=>nomatch z)
     fun H' st=>⟨_,rfl,(rt.put ks sq rz rv).mono st,nK ks z nd,by have:=fT kvs ks z;omega⟩
    exact⟨_,sC I (by rw[e];exact True.intro) hs ⟨q,hq⟩ (qQ ⟨hd,q,es,ep,hq,h2,h3,h4⟩),k _ _ h kp rg2⟩
   | _=>exact r.elim
  ·rename_i kvs hg;obtain⟨kk,hk,hl,h⟩:=h;have ei:=Bo hk ry;subst ei;obtain⟨ho,e,r⟩:=rg a _ hg;cases ho with
   | dK xs=>
    have r':Az X.K H kvs xs:=r;obtain⟨kp,rg2⟩:=yn (a:=a) (o:=.dK (bH kvs kk z)) (ho:=.dK (oY xs kk v)) rg (by rw[hg];exact fun z=>nomatch z) fun H' st=>(r'.put kk rz).mono st
    exact Dv (by walk_at "o") I (Hz.k e (by rw[<- r'.length];exact hl)) ri rv fun s' I'=>⟨_,I',k _ _ h kp rg2⟩
   | _=>exact r.elim
  ·rename_i ds hg;split at h
   ·rename_i j;obtain⟨m,hm,h⟩:=h;simp only[RD]at ry;subst ry;obtain⟨ho,e,r⟩:=rg a _ hg;cases ho with
    | lst xs=>
     have r':RDs X.K H ds xs:=r;obtain⟨kp,rg2⟩:=yn (a:=a) (o:=.lst (ds.set m z)) (ho:=.lst (xs.set m v)) rg (by rw[hg];exact fun z=>nomatch z) fun H' st=>RDs.mono st _ _ (r'.set m rz)
     exact Ec pins s σ H (.ref a) _ _ _ _ _ _ I rfl ri rv ⟨a,xs,j,m,rfl,rfl,e,by rw[<- r'.length];exact hm,k _ _ h kp rg2⟩
    | _=>exact r.elim
   ·exact h.elim
  ·exact h.elim
 ·exact h.elim
theorem i7{o i e:Np}{to ti te:bJ}{pos pos':Pos}(hu:X.A.units+8 < NM)(ho:PE X o (aJ X.K to))(hi:PE X i (aJ X.K ti))(he:PE X e (aJ X.K te))
  (hs:swapsWithSole [.Subscript o i pos'] e pos.line X.env=pure false:=by rfl) (hw:swappedStores [.Subscript o i pos'] e X.env=pure none:=by rfl) (h1:(OD [.Subscript o i pos'] X.env).map (·.2)=[assign (.Subscript o i pos') X.env]:=by rfl)
  (ha:∀ v,assign (.Subscript o i pos') X.env v=(do
   let ov <- holding [v] (eval o X.env)
   let iv <- holding [v,ov] (eval i X.env)
   Pq pos'
   holding [v,ov,iv] (RY ov iv v)
   release [v,ov,iv] []):=by intro _;rfl):PS X (.Assign [.Subscript o i pos'] e pos) (cL X.K (fB (ah X.prog X.w) to ti te)):=
 (IH (d9 he) (IJ (d9 ho) (d9 hi) (Ie hu) ha) hs hw h1).imp fun E τ H zz=>by
 obtain⟨σ,G,E3,rs,rg,h,k⟩:=zz;exact (
  ⟨σ,G,_,rs,rg,h,fun v G1 u H1 q1 k1 rg1 rd1=>
    ⟨σ,G1,_,rs.mono (k1.stb rg),rg1,q1,fun o G2 u2 H2 q2 k2 rg2 rd2=>⟨σ,G2,_,rs.mono ((k1.trans k2).stb rg),rg2,q2,fun i G3 u3 H3 q3 k3 rg3 rd3=>
     ⟨val o,val i,val v,G3,_,RD.mono (k3.stb rg2) _ _ rd2,rd3,RD.mono ((k2.trans k3).stb rg1) _ _ rd1,rg3,q3,fun G4 H4 q4 k4 rg4=>k.nx σ G4 τ H4 q4 (k1.trans (k2.trans (k3.trans k4))) rg4 (rs.mono ((k1.trans (k2.trans (k3.trans k4))).stb rg))⟩⟩⟩⟩)
end
def da(hw:List aM->Int)(G:Gp)(o i:D)(r:Option D):Prop:=match o with
 | .ref a=>match G a with
  | some (.dT hw' kvs)=>hw'=hw/\∃ ks,pA i=some ks/\r=c7 kvs ks
  | some (.dK kvs)=>∃ k,Ha i=some k/\r=c7 kvs k
  | _=>False
 | _=>False
def kS(G:Gp)(o:D):Prop:=match o with
 | .ref a=>match G a with
  | some (.dT _ _)=>True
  | some (.dK _)=>True
  | _=>False
 | _=>False
section
variable{X:Cx}{pins:List (MU×Obj)}{σ:St}{H:Hp}{s:MW}{G:Gp}{A:Nh}{E:MV->MW->Prop}{x y d z:D}{o i zv:V}{ov iv zu:MV}{r:Option D}
theorem da.split(h:da (ah X.prog X.w) G x y r)(I:Inv X pins σ H s)(rg:RG X.K H G)(rx:RD X.K H x o)(ro:aN o ov)(ry:RD X.K H y i)(ri:aN i iv):
  ∃ a,ov=.ref a/\((∃ hs k,H a=some (.dK hs)/\i=kV k/\((r=none/\nl hs k=none)\/∃ d v,r=some d/\nl hs k=some v/\RD X.K H d v))\/
   ∃ xs ks b,(a == NK)=false/\s.heap.DictOfH (N6 (bu X.prog X.w)) a xs/\iv=.ref b/\(N6 (bu X.prog X.w)).is s.heap ks b/\
    ((r=none/\Pm xs ks=none)\/∃ d b' u v,r=some d/\Pm xs ks=some (b',u)/\RD X.K H d v/\aN v u)):=by
 unfold da at h;split at h
 ·rename_i a;simp only[RD]at rx;subst rx;cases ro;refine⟨a,rfl,?_⟩;split at h
  ·rename_i hw' kvs hg;obtain⟨rfl,ks,hk,rfl⟩:=h;obtain⟨b,rfl,sq⟩:=sv hk ry;cases ri;obtain⟨ho,e,q⟩:=rg a _ hg;cases ho with
   | ext φ=>
    obtain⟨xs,rfl,rt,nd,_⟩:=q;obtain⟨hd,dd⟩:=yx I e rt nd;exact .inr ⟨xs,ks,b,hd,dd,rfl,key_at I sq,rt.val ks⟩
   | _=>exact q.elim
  ·rename_i kvs hg;obtain⟨k,hk,rfl⟩:=h;obtain⟨ho,e,q⟩:=rg a _ hg;cases ho with
   | dK hs=>
    have q':Az X.K H kvs hs:=q;exact .inl ⟨hs,k,e,Bo hk ry,q'.val k⟩
   | _=>exact q.elim
  ·exact h.elim
 ·exact h.elim
theorem kS.at(h:kS G x)(I:Inv X pins σ H s)(rg:RG X.K H G)(rx:RD X.K H x o)(ro:aN o ov):
  s.TypeIs ov "dict"/\(∀ b,ov=.ref b->∃ ob,s.heap.get? b=some ob/\ob.dict=none):=by
 unfold kS at h;split at h
 ·rename_i a;simp only[RD]at rx;subst rx;cases ro;split at h
  ·rename_i hw' kvs hg;obtain⟨ho,e,q⟩:=rg a _ hg;cases ho with
   | ext φ=>
    obtain⟨xs,rfl,rt,nd,_⟩:=q;obtain⟨hd,ob,es,ep,h1,h2,h3,h4⟩:=(show ce X.prog X.w H s.heap a (.ext (yP hw' a xs))from I.hok a _ e).1
    refine⟨⟨ob,h1,h2.1⟩,fun b hb=>?_⟩;cases hb;exact⟨ob,h1,h2.2.1⟩
   | _=>exact q.elim
  ·rename_i kvs hg;obtain⟨ho,e,q⟩:=rg a _ hg;cases ho with
   | dK hs=>
    obtain⟨t1,t2,_⟩:=Jx I (.inl ⟨hs,.inl e⟩);exact⟨t1,t2⟩
   | _=>exact q.elim
  ·exact h.elim
 ·exact h.elim
theorem da.dct{hw:List aM->Int}(h:da hw G x y r):kS G x:=by
 unfold da at h;unfold kS;split at h
 ·split at h
  ·rename_i e;simp only[e]
  ·rename_i e;simp only[e]
  ·exact h.elim
 ·exact h.elim
theorem Hl{Q:MV->MW->Prop}(hu:A.units+1 < NM)(I:Inv X pins σ H s)(rg:RG X.K H G)(h:da (ah X.prog X.w) G x y (some d))(rx:RD X.K H x o)(ro:aN o ov)(ry:RD X.K H y i)(ri:aN i iv)
  (q:∀ v u s',Inv X pins σ H s'->RD X.K H d v->aN v u->Q u s'):M5 (M9 X.prog X.w) A (PX ov iv) Q E s:=by
 obtain⟨a,rfl,⟨hs,k,e,rfl,r⟩|⟨xs,ks,b,hd,dd,rfl,hk,r⟩⟩:=h.split I rg rx ro ry ri
 ·rcases r with ⟨z,_⟩|⟨d',v,e1,e2,rd⟩
  ·cases z
  ·cases e1;exact Dw hu I (.inl ⟨hs,k,.inl e,rfl,e2.symm⟩) ri fun u s' I' rv=>q v u s' I' rd rv
 ·rcases r with ⟨z,_⟩|⟨d',b',u,v,e1,e2,rd,rv⟩
  ·cases z
  ·cases e1;exact Rz (NJ hu) hk dd e2 (q v u _ (I.tok _) rd rv)
theorem H_{Q:MV->MW->Prop}(hu:A.units+1 < NM)(I:Inv X pins σ H s)(rg:RG X.K H G)(h:da (ah X.prog X.w) G x y r)(rx:RD X.K H x o)(ro:aN o ov)(ry:RD X.K H y i)(ri:aN i iv)
  (q:∀ s',Inv X pins σ H s'->Q (.bool r.isSome) s'):M5 (M9 X.prog X.w) A (NA .In iv ov) Q E s:=by
 obtain⟨a,rfl,⟨hs,k,e,rfl,l⟩|⟨xs,ks,b,hd,dd,rfl,hk,l⟩⟩:=h.split I rg rx ro ry ri
 ·refine Md hu I (yN.k e) ri fun s' I'=>?_;rcases l with ⟨rfl,e2⟩|⟨d,v,rfl,e2,_⟩<;>rw[e2]<;>exact q s' I'
 ·refine wpAny_in_heap (NJ hu) hk hd dd ?_;rcases l with ⟨rfl,e2⟩|⟨d,b',u,v,rfl,e2,_⟩<;>rw[e2]<;>exact q _ (I.tok _)
theorem Fy{Q:MV->MW->Prop}(hu:A.units+1 < NM)(I:Inv X pins σ H s)(rg:RG X.K H G)(h:da (ah X.prog X.w) G x y r)(rx:RD X.K H x o)(ro:aN o ov)(ry:RD X.K H y i)(ri:aN i iv)
  (q:∀ s',Inv X pins σ H s'->Q (.bool (!r.isSome)) s'):M5 (M9 X.prog X.w) A (NA .NotIn iv ov) Q E s:=by
 obtain⟨a,rfl,⟨hs,k,e,rfl,l⟩|⟨xs,ks,b,hd,dd,rfl,hk,l⟩⟩:=h.split I rg rx ro ry ri
 ·refine Hk hu I (yN.k e) ri fun s' I'=>?_;rcases l with ⟨rfl,e2⟩|⟨d,v,rfl,e2,_⟩<;>rw[e2]<;>exact q s' I'
 ·refine wpAny_notIn_heap (NJ hu) hk hd dd ?_;rcases l with ⟨rfl,e2⟩|⟨d,b',u,v,rfl,e2,_⟩<;>rw[e2]<;>exact q _ (I.tok _)
theorem Hm{Q:MV->MW->Prop}(hu:A.units+1 < NM)(I:Inv X pins σ H s)(rg:RG X.K H G)(h:da (ah X.prog X.w) G x y r)(rx:RD X.K H x o)(ro:aN o ov)(ry:RD X.K H y i)(ri:aN i iv)(rz:RD X.K H z zv)(rzu:aN zv zu)
  (q:∀ v u s',Inv X pins σ H s'->RD X.K H (r.getD z) v->aN v u->Q u s'):M5 (M9 X.prog X.w) A (call (.builtin "dict.get") [ov,iv,zu]) Q E s:=by
 obtain⟨a,rfl,⟨hs,k,e,rfl,l⟩|⟨xs,ks,b,hd,dd,rfl,hk,l⟩⟩:=h.split I rg rx ro ry ri
 ·refine JE hu I (yN.k e) ri rzu fun u s' I' rv=>?_;rcases l with ⟨rfl,e2⟩|⟨d,v,rfl,e2,rd⟩<;>rw[e2]at rv
  ·exact q _ u s' I' rz rv
  ·exact q _ u s' I' rd rv
 ·refine QA PySem.F.slot_dict_get dd.typeIs PySem.F.entry_dict_get (PySem.F.args_dict_get_3 _ _ _) (Q2 (N6 (bu X.prog X.w)) a b hd zu) ⟨NJ hu,ks,xs,hk,dd,?_⟩;rcases l with ⟨rfl,e2⟩|⟨d,b',u,v,rfl,e2,rd,rv⟩<;>rw[e2]
  ·exact q zv _ _ (I.tok _) rz rzu
  ·exact q v _ _ (I.tok _) rd rv
end
def v7(hw:List aM->Int)(to ti:bJ):bJ:=fun σ G Q=>to σ G fun x G1=>ti σ G1 fun y G2=>∃ d,da hw G2 (val x) (val y) (some d)/\Q d G2
def yw(hw:List aM->Int)(ti to:bJ):bJ:=fun σ G Q=>ti σ G fun y G1=>to σ G1 fun x G2=>∃ r,da hw G2 (val x) (val y) r/\Q (.bl r.isSome) G2
def mP(hw:List aM->Int)(ti to:bJ):bJ:=fun σ G Q=>ti σ G fun y G1=>to σ G1 fun x G2=>∃ r,da hw G2 (val x) (val y) r/\Q (.bl (!r.isSome)) G2
def qO(hw:List aM->Int)(to ti tz:bJ):bJ:=fun σ G Q=>to σ G fun x G1=>kS G1 (val x)/\ti σ G1 fun y G2=>tz σ G2 fun z G3=>∃ r,da hw G3 (val x) (val y) r/\Q (r.getD (val z)) G3
section
variable{X:Cx}{o i e f:Np}{to ti tz:bJ}{pos apos cpos:Pos}
theorem eU{t:bJ}{e:Np}(h:PE X e (aJ X.K t)){pins:List (MU×Obj)}{s:MW}{τ:St}{H:Hp}{σ:gv}{G:Gp}{Q3:oa}(I:Inv X pins τ H s)(rs:RS X.K H σ τ)(rg:RG X.K H G)(ht:t σ G Q3):
  M5 (M9 X.prog X.w) X.A (eval e X.env) (EP X pins τ fun v H1=>∃ d G1,Q3 d G1/\Kp G H G1 H1/\RG X.K H1 G1/\RD X.K H1 (val d) v) X.xe s:=
 d9 h pins s τ H _ I ⟨σ,G,Q3,rs,rg,ht,fun d G' v H' q k rg' rd=>⟨d,G',q,k,rg',rd⟩⟩
theorem qZ(hu:X.A.units+8 < NM)(ho:PE X o (aJ X.K to))(hi:PE X i (aJ X.K ti))(hs:Ll i:=by exact fun _ _=>rfl):PE X (.Subscript o i pos) (aJ X.K (v7 (ah X.prog X.w) to ti)):=by
 rintro pins s τ H Q I ⟨σ,G,Q3,rs,rg,h,k⟩
 refine F4 PySem.F.slot_dict_getitem.lookup hs (cY (eU ho I rs rg h) fun ov s1 zz=>?_);obtain⟨ox,H1,I1,rox,x,G1,q1,k1,rg1,rd1⟩:=zz;refine cY (eU hi I1 (rs.mono (k1.stb rg)) rg1 q1) fun iv s2 zz=>?_;obtain⟨iy,H2,I2,riy,y,G2,q2,k2,rg2,rd2⟩:=zz;obtain⟨d,l,q2⟩:=q2;have rx:=RD.mono (k2.stb rg1) _ _ rd1;exact⟨(l.dct.at I2 rg2 rx rox).1,Hl (by walk_at "o") I2 rg2 l rx rox rd2 riy fun v u s3 I3 rd rv=>⟨v,H2,I3,rv,k _ G2 _ H2 q2 (k1.trans k2) rg2 (.of rd)⟩⟩
theorem Kx(hu:X.A.units+8 < NM)(hi:PE X i (aJ X.K ti))(ho:PE X o (aJ X.K to))(hm:NQ .In o=false:=by rfl):PE X (.Compare i [.In] [o] pos) (aJ X.K (yw (ah X.prog X.w) ti to)):=by
 refine IR (op:=.In) (fun pins s τ H Q I zz=>?_) hm;obtain⟨σ,G,Q3,rs,rg,h,k⟩:=zz;refine cY (eU hi I rs rg h) fun iv s1 zz=>?_;obtain⟨iy,H1,I1,riy,y,G1,q1,k1,rg1,rd1⟩:=zz;refine cY (eU ho I1 (rs.mono (k1.stb rg)) rg1 q1) fun ov s2 zz=>?_;obtain⟨ox,H2,I2,rox,x,G2,q2,k2,rg2,rd2⟩:=zz;obtain⟨r,l,q2⟩:=q2;exact H_ (by walk_at "o") I2 rg2 l rd2 rox (RD.mono (k2.stb rg1) _ _ rd1) riy fun s3 I3=>⟨.bl r.isSome,H2,I3,rfl,k _ G2 _ H2 q2 (k1.trans k2) rg2 (.of iB)⟩
theorem xC(hu:X.A.units+8 < NM)(ho:PE X o (aJ X.K to))(he:PE X e (aJ X.K ti))(hf:PE X f (aJ X.K tz))(m:M2 X o "get" apos e f cpos:=by exact⟨rfl,rfl,rfl,rfl⟩):PE X (.Call (.Attribute o "get" apos) [e,f] [] cpos) (aJ X.K (qO (ah X.prog X.w) to ti tz)):=by
 rintro pins s τ H Q I ⟨σ,G,Q3,rs,rg,h,k⟩
 refine wpAny_Call_method m.base m.few m.line PySem.F.plainAttrs_dict PySem.F.slot_dict_get PySem.F.type_dict_get (cY (eU ho I rs rg h) fun ov s1 zz=>?_);obtain⟨ox,H1,I1,rox,x,G1,q1,k1,rg1,rd1⟩:=zz;obtain⟨t1,t2⟩:=q1.1.at I1 rg1 rd1 rox;refine⟨t1,t2,?_⟩;rw[m.trees];refine P0 rfl (Ru (OF (cY (eU he I1 (rs.mono (k1.stb rg)) rg1 q1.2) fun iv s2 ⟨iy,H2,I2,riy,y,G2,q2,k2,rg2,rd2⟩=>OF (cY (eU hf I2 (rs.mono ((k1.trans k2).stb rg)) rg2 q2) fun fv s3 zz=>?_))));obtain⟨fz,H3,I3,rfz,z,G3,q3,k3,rg3,rd3⟩:=zz;refine Pa ?_;obtain⟨r,l,q3⟩:=q3;exact Hm (by walk_at "o") I3 rg3 l (RD.mono ((k2.trans k3).stb rg1) _ _ rd1) rox (RD.mono (k3.stb rg2) _ _ rd2) riy rd3 rfz fun v u s4 I4 rd rv=>⟨v,H3,I4,rv,k _ G3 _ H3 q3 (k1.trans (k2.trans k3)) rg3 (.of rd)⟩
end
end L3
namespace PySem.W
open PySem PyProof.Rows
def KasT.run{α:Type}(lt:Nat->Nat->Bool):RU α->α
 | .ret a=>a
 | .ask i j k=>(k (lt i j)).run lt
theorem KasT.run_bind{α β:Type}(lt:Nat->Nat->Bool)(f:α->RU β):∀ t:RU α,(t.bind f).run lt=(f (t.run lt)).run lt
 | .ret _=>rfl
 | .ask i j k=>by
  show ((k (lt i j)).bind f).run lt=_
  rw[KasT.run_bind lt f (k (lt i j))];rfl
section
variable(r:Nat->Nat)
def m8(i j:Nat):Bool:=decide (r i < r j)
def RR(p:Array Nat)(i:Nat):Nat:=r (p.getD i 0)
def nk(p:Array Nat)(n:Nat):Prop:=∀ i,i+1 < n->RR r p i<=RR r p (i+1)
def uM(p:Array Nat)(n:Nat):Prop:=∀ i,i+1 < n->RR r p (i+1)<=RR r p i
end
section
variable{r:Nat->Nat}{p:Array Nat}
theorem nk.le{n:Nat}(h:nk r p n){i j:Nat}(hij:i<=j)(hj:j < n):RR r p i<=RR r p j:=by
 induction j with
 | zero=>
      have:i=0:=by walk_at "o"
      subst this;exact le_refl _
 | succ j ih=>
  rcases OH i (j+1)with h1|h1
  ·exact le_trans (ih (by walk_at "o") (by walk_at "o")) (h j hj)
  ·have:i=j+1:=by walk_at "o"
   subst this;exact le_refl _
theorem uM.le{n:Nat}(h:uM r p n){i j:Nat}(hij:i<=j)(hj:j < n):RR r p j<=RR r p i:=by
 induction j with
 | zero=>
      have:i=0:=by walk_at "o"
      subst this;exact le_refl _
 | succ j ih=>
  rcases OH i (j+1)with h1|h1
  ·exact le_trans (h j hj) (ih (by walk_at "o") (by walk_at "o"))
  ·have:i=j+1:=by walk_at "o"
   subst this;exact le_refl _
theorem Ay{p q:Array Nat}{i j:Nat}(h:p[i]?=q[j]?):RR r p i=RR r q j:=by
 unfold RR;rw[Array.getD_eq_getD_getElem?,Array.getD_eq_getD_getElem?,h]
theorem yL{i j:Nat}(hj:j<=p.size)(k:Nat):RR r (OM p i j) k=if i<=k/\k < j then RR r p (i+j - 1 - k)else RR r p k:=by
 have e:=getElem?_mirror_all (xs:=p) (i:=i) hj k;unfold OM;split
 ·rename_i h;rw[if_pos h]at e;exact Ay e
 ·rename_i h;rw[if_neg h]at e;exact Ay e
theorem i6(i j:Nat):(OM p i j).size=p.size:=mirror_size _ _ _ _
theorem qU{i j:Nat}(hj:j<=p.size)(he:∀ k,i<=k->k < j->RR r p k=RR r p (j - 1))(k:Nat):RR r (OM p i j) k=RR r p k:=by
 rw[yL hj];split
 ·rename_i h;rw[he _ (by walk_at "o") (by walk_at "o"),he k h.1 h.2]
 ·rfl
theorem uH{i j:Nat}:m8 r i j=true↔r i < r j:=by unfold m8;exact decide_eq_true_iff
theorem jU{i j:Nat}:m8 r i j=false↔r j<=r i:=by unfold m8;rw[decide_eq_false_iff_not];omega
theorem Bz:∀ (f n:Nat),1<=n->∃ m,(kas_asc p f n).run (m8 r)=m/\n<=m/\m<=n+f/\(∀ i,n<=i->i < m->RR r p (i - 1)<=RR r p i)/\(m < n+f->RR r p m < RR r p (m - 1))
 | 0,n,_=>⟨n,rfl,le_refl _,le_refl _,fun i h1 h2=>absurd h1 (by walk_at "o"),fun h=>absurd h (by walk_at "o")⟩
 | f+1,n,hn=>by
  show ∃ m,((fun c=>if c=true then KasT.ret n else kas_asc p f (n+1)) (m8 r (p.getD n 0) (p.getD (n - 1) 0))).run (m8 r)=m/\_
  cases e:m8 r (p.getD n 0) (p.getD (n - 1) 0) with
  | true=>exact⟨n,rfl,le_refl _,by walk_at "o",fun i h1 h2=>absurd h1 (by walk_at "o"),fun _=>uH.mp e⟩
  | false=>
   obtain⟨m,e1,h1,h2,h3,h4⟩:=Bz f (n+1) (by walk_at "o")
   refine⟨m,e1,by walk_at "o",by walk_at "o",fun i h5 h6=>?_,fun h=>h4 (by walk_at "o")⟩
   rcases OH n i with h7|h7
   ·exact h3 i h7 h6
   ·have:i=n:=by walk_at "o"
    subst this;exact jU.mp e
structure DSt(r:Nat->Nat)(p:Array Nat)(n q:Nat):Prop where
 hq:q+1<=n
 hn:n<=p.size
 dec:uM r p n
 eq:∀ k,n - (q+1)<=k->k < n->RR r p k=RR r p (n - 1)
theorem EY{n:Nat}:∀ k,n+1 - (0+1)<=k->k < n+1->RR r p k=RR r p (n+1 - 1):=fun k h1 h2=>by
 have:k=n+1 - 1:=by walk_at "o"
 subst this;rfl
theorem yz:∀ (f:Nat) (p:Array Nat) (n q:Nat),DSt r p n q->n+f<=p.size->∃ p' n' q',(O8 f p n q).run (m8 r)=(p',n',q')/\DSt r p' n' q'/\n<=n'/\n'<=n+f/\p'.size=p.size/\p'.Perm p
 | 0,p,n,q,h,_=>⟨p,n,q,rfl,h,le_refl _,le_refl _,rfl,Array.Perm.refl _⟩
 | f+1,p,n,q,h,hf=>by
  have hq:=h.hq;show ∃ p' n' q',((fun c=>if c=true then (if q > 0 then O8 f (OM p (n - (q+1)) n) (n+1) 0 else O8 f p (n+1) 0)
   else .ask (p.getD (n - 1) 0) (p.getD n 0) fun d=>if d=true then .ret (p,n,q)else O8 f p (n+1) (q+1)) (m8 r (p.getD n 0) (p.getD (n - 1) 0))).run (m8 r)=(p',n',q')/\_
  cases e:m8 r (p.getD n 0) (p.getD (n - 1) 0) with
  | true=>
   have lt:RR r p n < RR r p (n - 1):=uH.mp e;have next:∀ p1:Array Nat,p1.size=p.size->p1.Perm p->(∀ k,RR r p1 k=RR r p k)->∃ p' n' q',(O8 f p1 (n+1) 0).run (m8 r)=(p',n',q')/\DSt r p' n' q'/\n<=n'/\n'<=n+(f+1)/\p'.size=p.size/\p'.Perm p:=fun p1 hz hp hR=>by
    have hn:=h.hn;have dc:uM r p1 (n+1):=fun i hi=>by
     rw[hR,hR];rcases OH (i+1) n with h7|h7
     ·exact h.dec i h7
     ·have e2:n=i+1:=by walk_at "o"
      have e3:i=n - 1:=by walk_at "o"
      rw[<- e2,e3];exact le_of_lt lt
    obtain⟨p',n',q',e1,h1,h2,h3,h4,h5⟩:=yz f p1 (n+1) 0 ⟨by walk_at "o",by walk_at "o",dc,EY⟩ (by walk_at "o")
    exact⟨p',n',q',e1,h1,by walk_at "o",by walk_at "o",by walk_at "o",h5.trans hp⟩
   show ∃ p' n' q',(if q > 0 then O8 f (OM p (n - (q+1)) n) (n+1) 0 else O8 f p (n+1) 0).run (m8 r)=(p',n',q')/\_
   by_cases hq0:q > 0
   ·rw[if_pos hq0];exact next _ (i6 _ _) (QL _ _ _ _) (qU (by walk_at "o") h.eq)
   ·rw[if_neg hq0];exact next p rfl (Array.Perm.refl _) fun _=>rfl
  | false=>
   have ge:RR r p (n - 1)<=RR r p n:=jU.mp e;show ∃ p' n' q',((fun d=>if d=true then KasT.ret (p,n,q)else O8 f p (n+1) (q+1)) (m8 r (p.getD (n - 1) 0) (p.getD n 0))).run (m8 r)=(p',n',q')/\_
   cases e2:m8 r (p.getD (n - 1) 0) (p.getD n 0) with
   | true=>exact⟨p,n,q,rfl,h,le_refl _,by walk_at "o",rfl,Array.Perm.refl _⟩
   | false=>
    have le:RR r p n<=RR r p (n - 1):=jU.mp e2;have dc:uM r p (n+1):=fun i hi=>by
     rcases OH (i+1) n with h7|h7
     ·exact h.dec i h7
     ·have e2:n=i+1:=by walk_at "o"
      have e3:i=n - 1:=by walk_at "o"
      rw[<- e2,e3];exact le
    have eqq:∀ k,n+1 - (q+1+1)<=k->k < n+1->RR r p k=RR r p (n+1 - 1):=fun k h1 h2=>by
     show RR r p k=RR r p n
     rcases OH k n with h7|h7
     ·rw[h.eq k (by walk_at "o") h7];omega
     ·have:k=n:=by walk_at "o"
      subst this;rfl
    obtain⟨p',n',q',e1,h1,h2,h3,h4,h5⟩:=yz f p (n+1) (q+1) ⟨by walk_at "o",by walk_at "o",dc,eqq⟩ (by walk_at "o")
    exact⟨p',n',q',e1,h1,by walk_at "o",by walk_at "o",h4,h5⟩
theorem yW{n nrem:Nat}(h1:1<=n)(hn:n<=nrem)(hz:nrem<=p.size)(hd:uM r p n):∃ m p',(O3 n nrem p).run (m8 r)=(m,p')/\1<=m/\m<=nrem/\p'.size=p.size/\p'.Perm p/\nk r p' m:=by
 unfold O3;rw[KasT.run_bind];obtain⟨m,e,a1,a2,a3,_⟩:=Bz (r:=r) (p:=OM p 0 n) (nrem - n) n h1;rw[e];refine⟨m,_,rfl,by walk_at "o",by walk_at "o",i6 _ _,QL _ _ _ _,fun i hi=>?_⟩
 rcases OH (i+1) n with h7|h7
 ·rw[yL (by walk_at "o"),yL (by walk_at "o"),if_pos (by walk_at "o"),if_pos (by walk_at "o")]
  exact hd.le (by walk_at "o") (by walk_at "o")
 ·exact a3 (i+1) h7 hi
theorem rB{n nrem:Nat}(h1:1<=n)(hn:n+1<=nrem)(hz:nrem<=p.size)(hd:uM r p (n+1)):∃ m p',(PU n nrem p).run (m8 r)=(m,p')/\1<=m/\m<=nrem/\p'.size=p.size/\p'.Perm p/\nk r p' m:=by
 unfold PU;rw[KasT.run_bind];obtain⟨p1,n1,q1,e,d,a1,a2,a3,a4⟩:=yz (r:=r) (nrem - (n+1)) p (n+1) 0 ⟨by walk_at "o",by walk_at "o",hd,EY⟩ (by walk_at "o")
 rw[e];have hq:=d.hq
 by_cases hq0:q1 > 0
 ·show ∃ m p',(if q1 > 0 then O3 n1 nrem (OM p1 (n1 - (q1+1)) n1)else O3 n1 nrem p1).run (m8 r)=(m,p')/\_
  rw[if_pos hq0];have hR:=qU (r:=r) (p:=p1) (i:=n1 - (q1+1)) (j:=n1) d.hn d.eq;obtain⟨m,p',b1,b2,b3,b4,b5,b6⟩:=yW (r:=r) (p:=OM p1 (n1 - (q1+1)) n1) (n:=n1) (nrem:=nrem) (by walk_at "o") (by walk_at "o") (by rw[i6];omega) (fun i hi=>by rw[hR,hR];exact d.dec i hi)
  exact⟨m,p',b1,b2,b3,by rw[b4,i6,a3],(b5.trans (QL _ _ _ _)).trans a4,b6⟩
 ·show ∃ m p',(if q1 > 0 then O3 n1 nrem (OM p1 (n1 - (q1+1)) n1)else O3 n1 nrem p1).run (m8 r)=(m,p')/\_
  rw[if_neg hq0];obtain⟨m,p',b1,b2,b3,b4,b5,b6⟩:=yW (r:=r) (p:=p1) (n:=n1) (nrem:=nrem) (by walk_at "o") (by walk_at "o") (by walk_at "o") d.dec
  exact⟨m,p',b1,b2,b3,by rw[b4,a3],b5.trans a4,b6⟩
theorem FA{nrem:Nat}(h1:1<=nrem)(hz:nrem<=p.size):∃ m p',(Q4 nrem p).run (m8 r)=(m,p')/\1<=m/\m<=nrem/\p'.size=p.size/\p'.Perm p/\nk r p' m:=by
 unfold Q4;rw[KasT.run_bind];obtain⟨n,e,a1,a2,a3,a4⟩:=Bz (r:=r) (p:=p) (nrem - 1) 1 (le_refl _);rw[e];have adj:nk r p n:=fun i hi=>a3 (i+1) (by walk_at "o") hi
 by_cases h2:n=nrem
 ·rw[if_pos (by simpa using h2)]
  exact⟨n,p,rfl,by walk_at "o",by walk_at "o",rfl,Array.Perm.refl _,adj⟩
 ·rw[if_neg (by simpa using h2)]
  have dn:RR r p n < RR r p (n - 1):=a4 (by walk_at "o")
  by_cases h3:n > 1
  ·rw[if_pos h3];show ∃ m p',((fun c=>if c=true then KasT.ret (n,p)else PU n nrem (OM p 0 n)) (m8 r (p.getD 0 0) (p.getD (n - 1) 0))).run (m8 r)=(m,p')/\_
   cases e2:m8 r (p.getD 0 0) (p.getD (n - 1) 0) with
   | true=>exact⟨n,p,rfl,by walk_at "o",by walk_at "o",rfl,Array.Perm.refl _,adj⟩
   | false=>
    have ge:RR r p (n - 1)<=RR r p 0:=jU.mp e2;have eq:∀ k,0<=k->k < n->RR r p k=RR r p (n - 1):=fun k _ hk=>by
     have:=adj.le (NI k) hk;have:=adj.le (show k<=n - 1 by walk_at "o") (by walk_at "o")
     omega
    have hR:=qU (r:=r) (p:=p) (i:=0) (j:=n) (by walk_at "o") eq
    obtain⟨m,p',b1,b2,b3,b4,b5,b6⟩:=rB (r:=r) (p:=OM p 0 n) (n:=n) (nrem:=nrem) (by walk_at "o") (by walk_at "o") (by rw[i6];omega) (fun i hi=>by
     rw[hR,hR];rcases OH (i+1) n with h7|h7
     ·rw[eq i (by walk_at "o") (by walk_at "o"),eq (i+1) (by walk_at "o") h7];exact le_refl _
     ·have e3:n=i+1:=by walk_at "o"
      have e4:i=n - 1:=by walk_at "o"
      rw[<- e3,e4];exact le_of_lt dn)
    exact⟨m,p',b1,b2,b3,by rw[b4,i6],b5.trans (QL _ _ _ _),b6⟩
  ·rw[if_neg h3];have e1:n=1:=by walk_at "o"
   subst e1;exact rB (by walk_at "o") (by walk_at "o") hz (fun i hi=>by
    have:i=0:=by walk_at "o"
    subst this;exact le_of_lt dn)
theorem tH{k:Nat}(hs:nk r p k):∀ (f l u:Nat),l<=u->u<=k->u - l<=f->(∀ i,i < l->RR r p i<=RR r p k)->(∀ i,u<=i->i < k->RR r p k < RR r p i)->
  ∃ m,(Qh p k f l u).run (m8 r)=m/\m<=k/\(∀ i,i < m->RR r p i<=RR r p k)/\(∀ i,m<=i->i < k->RR r p k < RR r p i)
 | 0,l,u,h1,h2,h3,h4,h5=>⟨l,rfl,by walk_at "o",h4,fun i a b=>h5 i (by walk_at "o") b⟩
 | f+1,l,u,h1,h2,h3,h4,h5=>by
  unfold Qh
  by_cases hlu:l>=u
  ·rw[if_pos hlu];exact⟨l,rfl,by walk_at "o",h4,fun i a b=>h5 i (by walk_at "o") b⟩
  ·rw[if_neg hlu];show ∃ m,((fun c=>if c=true then Qh p k f l ((l+u) / 2)else Qh p k f ((l+u) / 2+1) u) (m8 r (p.getD k 0) (p.getD ((l+u) / 2) 0))).run (m8 r)=m/\_
   cases e:m8 r (p.getD k 0) (p.getD ((l+u) / 2) 0) with
   | true=>
    have lt:RR r p k < RR r p ((l+u) / 2):=uH.mp e;exact tH hs f l ((l+u) / 2) (by walk_at "o") (by walk_at "o") (by walk_at "o") h4 fun i a b=>Nt lt (hs.le a b)
   | false=>
    have ge:RR r p ((l+u) / 2)<=RR r p k:=jU.mp e;exact tH hs f ((l+u) / 2+1) u (by walk_at "o") h2 (by walk_at "o") (fun i a=>le_trans (hs.le (show i<=(l+u) / 2 by walk_at "o") (by walk_at "o")) ge) h5
theorem qV{src d:Nat}(hs:src < p.size)(hd:d<=src)(k:Nat):RR r (bubble p src d) k=if k=src - d then RR r p src else if src - d < k/\k<=src then RR r p (k - 1)else RR r p k:=by
 have e:=getElem?_bubble hs d hd k;split
 ·rename_i h;rw[if_pos h]at e;exact Ay e
 ·rename_i h;rw[if_neg h]at e;split
  ·rename_i h2;rw[if_pos h2]at e;exact Ay e
  ·rename_i h2;rw[if_neg h2]at e;exact Ay e
theorem FG:∀ (f:Nat) (p:Array Nat) (k:Nat),k+f=p.size->nk r p k->∃ p',(QQ f p k).run (m8 r)=p'/\p'.size=p.size/\p'.Perm p/\nk r p' p.size
 | 0,p,k,h,a=>⟨p,rfl,rfl,Array.Perm.refl _,by rw[<- h];exact a⟩
 | f+1,p,k,h,a=>by
  unfold QQ;rw[KasT.run_bind];obtain⟨l,e,b1,b2,b3⟩:=tH (r:=r) a k 0 k (by walk_at "o") (le_refl _) (by walk_at "o") (fun i z=>absurd z (by walk_at "o")) (fun i x y=>absurd x (by walk_at "o"))
  rw[e];have hk:k < p.size:=by walk_at "o"
  obtain⟨p',c1,c2,c3,c4⟩:=FG f (bubble p k (k - l)) (k+1) (by rw[Rs];omega) (fun i hi=>by
   have e1:=qV (r:=r) hk (show k - l<=k by walk_at "o") i
   have e2:=qV (r:=r) hk (show k - l<=k by walk_at "o") (i+1)
   have ek:k - (k - l)=l:=by walk_at "o"
   rw[ek]at e1 e2;rw[e1,e2];rcases Nat.lt_trichotomy i l with hil|hil|hil
   ·rw[if_neg (by walk_at "o"),if_neg (by walk_at "o")]
    by_cases h2:i+1=l
    ·rw[if_pos h2];exact b2 i hil
    ·rw[if_neg h2,if_neg (by walk_at "o")];exact a i (by walk_at "o")
   ·rw[if_pos hil,if_neg (by walk_at "o"),if_pos (by walk_at "o")]
    have:i+1 - 1=i:=by walk_at "o"
    rw[this];exact le_of_lt (b3 i (by walk_at "o") (by walk_at "o"))
   ·rw[if_neg (by walk_at "o"),if_pos (by walk_at "o"),if_neg (by walk_at "o"),if_pos (by walk_at "o")]
    have:i+1 - 1=(i - 1)+1:=by walk_at "o"
    rw[this];exact a (i - 1) (by walk_at "o"))
  rw[Rs]at c2 c4;exact⟨p',c1,c2,c3.trans (bubble_perm _ _ _),c4⟩
theorem F8(r:Nat->Nat)(n:Nat)(hn:1<=n):∃ p,(Rr n).run (m8 r)=p/\p.toList.Perm (List.range n)/\nk r p n:=by
 unfold Rr;rw[KasT.run_bind];have hz:(List.toArray (List.range n)).size=n:=by simp
 obtain⟨m,p1,e,a1,a2,a3,a4,a5⟩:=FA (r:=r) (p:=List.toArray (List.range n)) (nrem:=n) hn (by rw[hz];exact le_refl _)
 rw[e];have toL:∀ {p:Array Nat},p.Perm (List.toArray (List.range n))->p.toList.Perm (List.range n):=fun h=>by simpa using Array.perm_iff_toList_perm.mp h
 show ∃ p,(if m < n then QQ (n - max m 1) p1 (max m 1)else KasT.ret p1).run (m8 r)=p/\_
 by_cases h:m < n
 ·rw[if_pos h];obtain⟨p',b1,b2,b3,b4⟩:=FG (r:=r) (n - max m 1) p1 (max m 1) (by rw[a3,hz];omega) (by rw[show max m 1=m by walk_at "o"];exact a5)
  exact⟨p',b1,toL (b3.trans a4),by rw[a3,hz]at b4;exact b4⟩
 ·rw[if_neg h];have:m=n:=by walk_at "o"
  subst this;exact⟨p1,rfl,toL a4,a5⟩
end
section
variable{κ:Type}(blt:κ->κ->Bool)
structure SWO:Prop where
 irrefl:∀ a,blt a a=false
 trans:∀ a b c,blt a b=true->blt b c=true->blt a c=true
 neg:∀ a b c,blt a c=true->blt a b=true\/blt b c=true
def rankIn(ks:List κ)(a:κ):Nat:=ks.countP fun k=>blt k a
end
section
variable{κ:Type}{blt:κ->κ->Bool}
theorem wF{p q:κ->Bool}(ks:List κ)(h:∀ x,p x=true->q x=true):ks.countP p<=ks.countP q:=by
 induction ks with
 | nil=>exact le_refl _
 | cons x r ih=>
  rw[Qe,Qe];cases hp:p x with
  | false=>simp;split<;>omega
  | true=>rw[h x hp];simp;omega
theorem Dy{p q:κ->Bool}{ks:List κ}(h:∀ x,p x=true->q x=true){y:κ}(hy:y∈ks)(h1:p y=false)(h2:q y=true):ks.countP p < ks.countP q:=by
 induction ks with
 | nil=>simp at hy
 | cons x r ih=>
  rw[Qe,Qe];rcases NH.mp hy with rfl|hy
  ·have:=wF r h;rw[h1,h2];simp;omega
  ·have:=ih hy;cases hp:p x with
   | false=>simp;split<;>omega
   | true=>rw[h x hp];simp;omega
theorem rank_lt(o:SWO blt){ks:List κ}{a b:κ}(ha:a∈ks):blt a b=decide (rankIn blt ks a < rankIn blt ks b):=by
 cases e:blt a b with
 | true=>
  symm;rw[decide_eq_true_iff];exact Dy (fun x hx=>o.trans _ _ _ hx e) ha (o.irrefl a) e
 | false=>
  symm;rw[decide_eq_false_iff_not,Nat.not_lt];refine wF ks fun x hx=>?_;rcases o.neg x a b hx with h|h
  ·exact h
  ·rw[e]at h;cases h
end
def KasT.allR{α:Type}(n:Nat)(P:α->Prop):RU α->Prop
 | .ret a=>P a
 | .ask i j k=>i < n/\j < n/\∀ b,(k b).allR n P
theorem KasT.allR_mono{α:Type}{n:Nat}{P P':α->Prop}(h:∀ a,P a->P' a):∀ {t:RU α},t.allR n P->t.allR n P'
 | .ret a,q=>h a q
 | .ask i j k,q=>⟨q.1,q.2.1,fun b=>KasT.allR_mono h (q.2.2 b)⟩
theorem KasT.allR_bind{α β:Type}{n:Nat}{P:α->Prop}{P':β->Prop}{f:α->RU β}(h:∀ a,P a->(f a).allR n P'):∀ {t:RU α},t.allR n P->(t.bind f).allR n P'
 | .ret a,q=>h a q
 | .ask i j k,q=>⟨q.1,q.2.1,fun b=>KasT.allR_bind h (q.2.2 b)⟩
theorem KasT.walked{α:Type}{n:Nat}{P:α->Prop}{lt:Nat->Nat->Bool}{J:MW->Prop}{cmp:Nat->Nat->(Bool->MW->Prop)->MW->Prop}{Q:α->MW->Prop}
  (hc:∀ i j C s,i < n->j < n->J s->(∀ s',J s'->C (lt i j) s')->cmp i j C s):∀ (t:RU α) (s:MW),t.allR n P->J s->(∀ s',J s'->P (t.run lt)->Q (t.run lt) s')->t.kasWp cmp Q s
 | .ret a,s,q,j,h=>h s j q
 | .ask i j k,s,q,hj,h=>hc i j _ s q.1 q.2.1 hj fun s' hj'=>KasT.walked hc (k (lt i j)) s' (q.2.2 _) hj' h
structure EntN(n:Nat)(p:Array Nat):Prop where
 size:p.size=n
 ent:∀ i,p.getD i 0 < n
section
variable{N:Nat}{p:Array Nat}
theorem EntN.rev(e:EntN N p){i j:Nat}(hj:j<=N):EntN N (OM p i j):=by
 refine⟨by rw[i6];exact e.size,fun k=>?_⟩
 have h:=yL (r:=id) (p:=p) (i:=i) (j:=j) (by rw[e.size];exact hj) k
 unfold RR at h;simp only[id]at h;rw[h];split<;>exact e.ent _
theorem EntN.bub(e:EntN N p){src d:Nat}(hs:src < N)(hd:d<=src):EntN N (bubble p src d):=by
 refine⟨by rw[Rs];exact e.size,fun k=>?_⟩
 have h:=qV (r:=id) (p:=p) (src:=src) (d:=d) (by rw[e.size];exact hs) hd k
 unfold RR at h;simp only[id]at h;rw[h];split
 ·exact e.ent _
 ·split<;>exact e.ent _
theorem BA(e:EntN N p):∀ (f n:Nat),(kas_asc p f n).allR N fun m=>n<=m/\m<=n+f
 | 0,n=>⟨le_refl _,le_refl _⟩
 | f+1,n=>⟨e.ent _,e.ent _,fun b=>by
   cases b with
   | true=>exact⟨le_refl _,by walk_at "o"⟩
   | false=>exact KasT.allR_mono (fun m h=>⟨by walk_at "o",by walk_at "o"⟩) (BA e f (n+1))⟩
theorem sB:∀ (f:Nat) (p:Array Nat) (n q:Nat),EntN N p->n+f<=N->(O8 f p n q).allR N fun r=>EntN N r.1/\n<=r.2.1/\r.2.1<=n+f
 | 0,p,n,q,e,_=>⟨e,le_refl _,le_refl _⟩
 | f+1,p,n,q,e,h=>⟨e.ent _,e.ent _,fun b=>by
   have mono:∀ {t:RU (Array Nat×Nat×Nat)},(t.allR N fun r=>EntN N r.1/\n+1<=r.2.1/\r.2.1<=n+1+f)->t.allR N fun r=>EntN N r.1/\n<=r.2.1/\r.2.1<=n+(f+1):=fun h=>KasT.allR_mono (fun r z=>⟨z.1,by walk_at "o",by walk_at "o"⟩) h
   cases b with
   | true=>
    show KasT.allR N _ (if q > 0 then O8 f (OM p (n - (q+1)) n) (n+1) 0 else O8 f p (n+1) 0)
    split
    ·exact mono (sB f _ (n+1) 0 (e.rev (by walk_at "o")) (by walk_at "o"))
    ·exact mono (sB f _ (n+1) 0 e (by walk_at "o"))
   | false=>exact⟨e.ent _,e.ent _,fun d=>by
     cases d with
     | true=>exact⟨e,le_refl _,show n<=n+(f+1)by walk_at "o"⟩
     | false=>exact mono (sB f p (n+1) (q+1) e (by walk_at "o"))⟩⟩
theorem yX(e:EntN N p){n nrem:Nat}(hn:n<=N):(O3 n nrem p).allR N fun r=>EntN N r.2:=by
 unfold O3;refine KasT.allR_bind (fun m _=>?_) (BA (e.rev (i:=0) hn) (nrem - n) n);exact (e.rev hn:EntN N (OM p 0 n))
theorem rC(e:EntN N p){n nrem:Nat}(hn:n+1<=nrem)(hz:nrem<=N):(PU n nrem p).allR N fun r=>EntN N r.2:=by
 unfold PU;refine KasT.allR_bind (fun r h=>?_) (sB (nrem - (n+1)) p (n+1) 0 e (by walk_at "o"))
 obtain⟨p1,n1,q1⟩:=r;obtain⟨h1,h2,h3⟩:=h;show KasT.allR N _ (if q1 > 0 then O3 n1 nrem (OM p1 (n1 - (q1+1)) n1)else O3 n1 nrem p1)
 have hn1:n1<=N:=by simp only at h3;omega
 split
 ·exact yX (h1.rev hn1) hn1
 ·exact yX h1 hn1
theorem FB(e:EntN N p){nrem:Nat}(h1:1<=nrem)(hz:nrem<=N):(Q4 nrem p).allR N fun r=>EntN N r.2:=by
 unfold Q4;refine KasT.allR_bind (fun n h=>?_) (BA e _ _)
 by_cases h2:n=nrem
 ·rw[if_pos (by simpa using h2)];exact e
 ·rw[if_neg (by simpa using h2)]
  by_cases h3:n > 1
  ·rw[if_pos h3];refine⟨e.ent _,e.ent _,fun b=>?_⟩;cases b with
   | true=>exact e
   | false=>exact rC (e.rev (by walk_at "o")) (by walk_at "o") hz
  ·rw[if_neg h3];exact rC e (by walk_at "o") hz
theorem tI(e:EntN N p)(k:Nat):∀ (f l u:Nat),(Qh p k f l u).allR N fun _=>True
 | 0,l,u=>trivial
 | f+1,l,u=>by
  unfold Qh;split
  ·exact trivial
  ·exact⟨e.ent _,e.ent _,fun b=>by
    cases b with
    | true=>exact tI e k f _ _
    | false=>exact tI e k f _ _⟩
theorem FH:∀ (f:Nat) (p:Array Nat) (k:Nat),EntN N p->k+f<=N->(QQ f p k).allR N (EntN N)
 | 0,p,k,e,_=>e
 | f+1,p,k,e,h=>by
  unfold QQ;refine KasT.allR_bind (fun l _=>?_) (tI e k k 0 k);exact FH f _ (k+1) (e.bub (by walk_at "o") (by walk_at "o")) (by walk_at "o")
theorem F9{n:Nat}(hn:1<=n):(Rr n).allR n (EntN n):=by
 have e:EntN n (List.toArray (List.range n)):=⟨by simp,fun i=>by
  rw[Array.getD_eq_getD_getElem?,List.getElem?_toArray];cases h:(List.range n)[i]? with
  | none=>exact hn
  | some x=>exact mem_range.mp (Na h)⟩
 unfold Rr;refine KasT.allR_bind (fun r h=>?_) (FB e hn (le_refl _));obtain⟨m,p⟩:=r;show KasT.allR n _ (if m < n then QQ (n - max m 1) p (max m 1)else KasT.ret p)
 split
 ·exact FH _ _ _ h (by walk_at "o")
 ·exact h
end
section
variable{α:Type}(blt:α->α->Bool)
structure STO:Prop where
 irrefl:∀ a,blt a a=false
 trans:∀ a b c,blt a b=true->blt b c=true->blt a c=true
 tot:∀ a b,blt a b=false->blt b a=false->a=b
def vG[DecidableEq α]:List α->List α->Bool
 | [],[]=>false
 | [],_::_=>true
 | _::_,[]=>false
 | a::r,b::t=>if a=b then vG r t else blt a b
end
section
variable{α:Type}{blt:α->α->Bool}
variable[DecidableEq α]
theorem mK(a b:α)(r t:List α):vG blt (a::r) (b::t)=if a=b then vG blt r t else blt a b:=rfl
theorem Cb(o:STO blt):STO (vG blt) where
 irrefl:=by
  intro a
  induction a with
  | nil=>rfl
  | cons x r ih=>rw[mK,if_pos rfl,ih]
 trans:=by
  intro a
  induction a with
  | nil=>
   intro b c h1 h2;cases c with
   | nil=>cases b<;>cases h2
   | cons _ _=>rfl
  | cons x r ih=>
   intro b c h1 h2;cases b with
   | nil=>cases h1
   | cons y t=>
    cases c with
    | nil=>cases h2
    | cons z u=>
     rw[mK]at h1 h2 ⊢
     by_cases e1:x=y
     ·subst e1;rw[if_pos rfl]at h1
      by_cases e2:x=z
      ·subst e2;rw[if_pos rfl]at h2 ⊢;exact ih t u h1 h2
      ·rw[if_neg e2]at h2 ⊢;exact h2
     ·rw[if_neg e1]at h1
      by_cases e2:y=z
      ·subst e2;rw[if_neg e1];exact h1
      ·rw[if_neg e2]at h2;have h3:=o.trans _ _ _ h1 h2;rw[if_neg (fun e=>by subst e;rw[o.irrefl]at h3;cases h3)]
       exact h3
 tot:=by
  intro a
  induction a with
  | nil=>
   intro b h1 h2;cases b with
   | nil=>rfl
   | cons _ _=>cases h1
  | cons x r ih=>
   intro b h1 h2;cases b with
   | nil=>cases h2
   | cons y t=>
    rw[mK]at h1 h2
    by_cases e1:x=y
    ·subst e1;rw[if_pos rfl]at h1 h2;rw[ih t h1 h2]
    ·rw[if_neg e1]at h1;rw[if_neg (Ne.symm e1)]at h2;exact absurd (o.tot _ _ h1 h2) e1
end
def zF(a b:Nat):Bool:=decide (a < b)
theorem B7:STO zF:=⟨fun a=>by simp[zF],fun a b c h1 h2=>by simp only[zF,decide_eq_true_eq]at *;omega,fun a b h1 h2=>by simp only[zF,decide_eq_false_iff_not]at *;omega⟩
theorem t5:∀ a b:List Nat,vG zF a b=decide (a < b)
 | [],[]=>by simp[vG]
 | [],b::t=>by simp[vG]
 | a::r,[]=>by simp[vG]
 | a::r,b::t=>by
  rw[mK]
  by_cases e:a=b
  ·subst e;rw[if_pos rfl,t5 r t];simp
  ·rw[if_neg e];simp[zF,List.cons_lt_cons_iff,e]
end PySem.W
namespace L3
open PySem PySem.Spec PyProof.Rows L2 PySem.SeqAt
open PySem.AutoSeq1 (wpAny_loadPart')
open PySem.MeetsSeq PySem.MeetsSeq2 PySem.MeetsSeq3
def eL(blt:D->D->Bool):List D->List D->Bool
 | [],[]=>false
 | [],_::_=>true
 | _::_,[]=>false
 | a::r,b::t=>if fE a b=true then eL blt r t else blt a b
def m4:Nat->D->D->Bool
 | _,.int a,.int b=>decide (a < b)
 | _,.str x,.str y=>decide (x.cps.toList < y.cps.toList)
 | n+1,.tup xs,.tup ys=>eL (m4 n) xs ys
 | _,_,_=>false
def KY(n:Nat)(P:D->D->Prop):List D->List D->Prop
 | a::r,b::t=>(pl n a/\pl n b)/\(a≠b->P a b)/\KY n P r t
 | _,_=>True
def Fz:Nat->D->D->Prop
 | _,.int _,.int _=>True
 | _,.str _,.str _=>True
 | n+1,.tup xs,.tup ys=>KY n (Fz n) xs ys
 | _,_,_=>False
def Hx(op:PR)(A:Nh)(s:MW)(v u:MV)(b:Bool):Prop:=
 ∀ (prog:Nf) (w:Nn) (E:MV->MW->Prop) (Q:MV->MW->Prop),Q (.bool b) s->M5 (M9 prog w) A (richCompare op v u) Q E s
def wQ(op:PR)(fin:Bool)(A:Nh)(s:MW):List MV->List MV->Bool->Prop
 | v::vs,u::us,out=>∃ e,EqAt A s v u e/\(e=true->wQ op fin A s vs us out)/\(e=false->Hx op A s v u out)
 | _,_,out=>out=fin
theorem De{op:PR}{fin out:Bool}{A:Nh}{s:MW}:∀ {vs us:List MV},wQ op fin A s vs us out->vs.zip us=[]->out=fin
 | [],_,h,_=>h
 | _::_,[],h,_=>h
 | _::_,_::_,_,e=>by rw[OR]at e;cases e
theorem AH(l b:MU)(items items2:Array MV)(n n2:Nat)(dd dd2:Option MU)(sl sl2:Array (Option MV))(out:Bool):
  Meets (Builtin.«tuple.__lt__» ⟨[.ref l,.ref b],[]⟩)
   (fun A R s=>s.heap.get? l=some { cls:=.type "tuple",dict:=dd,data:=.seq items n,slots:=sl }/\s.heap.get? b=some { cls:=.type "tuple",dict:=dd2,data:=.seq items2 n2,slots:=sl2 }/\
    wQ .Lt (decide (items.size < items2.size)) A.in1 s items.toList items2.toList out/\R (.ok (.ret (.bool out))) s):=
 .of_wp fun prog w A R s h=>by
  obtain⟨hp,g,d,tk,os⟩:=s;obtain⟨hl,hb,hx,h⟩:=h;have f2:=AutoSeq1.sub_tuple_tuple
  wp_walk using wpAny_loadPart' hl,wpAny_loadPart' hb,wpAny_forIn_list _ (fun d8 b s'=>b.1=none/\s'=⟨hp,g,d,tk,os⟩/\∃ vs ws,d8=vs.zip ws/\wQ .Lt (decide (items.size < items2.size)) A.in1 ⟨hp,g,d,tk,os⟩ vs ws out) _
  case turn=>
   rintro⟨y,x⟩ d8 b s' ⟨hb',rfl,vs,ws,hz,lx⟩
   cases vs with
   | nil=>rw[List.zip_nil_left]at hz;cases hz
   | cons v vs=>
    cases ws with
    | nil=>rw[List.zip_nil_right]at hz;cases hz
    | cons u ws=>
     rw[OR]at hz;injection hz with hyx hrest
     injection hyx with hy hx'
     subst hy hx';obtain⟨e,he,l1,l2⟩:=lx;refine MT (he prog w _ _ ?_);cases e with
     | true=>
      wp_walk
      exact⟨rfl,rfl,_,_,hrest,l1 rfl⟩
     | false=>
      have hri:=l2 rfl prog w
      wp_walk using hri
      exact⟨_,rfl,by simpa using h⟩
  case fin=>
   rintro⟨b1,b2⟩ s' ⟨hb',rfl,vs,ws,hz,lx⟩
   simp only at hb';subst hb';have hv:=De lx hz.symm;rw[hv]at h
   wp_walk
   exact⟨_,rfl,by simpa[Builtin.Tuple.tupleCompareSizes]using h⟩
  case h=>
   exact⟨rfl,rfl,items.toList,items2.toList,rfl,hx⟩
theorem E8{A:Nh}{s:MW}{l b:MU}{items items2:Array MV}{out:Bool}(hl:s.heap.IsTuple l items)(hb:s.heap.IsTuple b items2)(hu:A.units < NM)
  (hx:wQ .Lt (decide (items.size < items2.size)) A.in1 s items.toList items2.toList out):Hx .Lt A s (.ref l) (.ref b) out:=fun prog w E Q h=>by
 obtain⟨⟨cls,dd,data,sl⟩,ho,hc,n,hd⟩:=id hl;obtain⟨⟨cls2,dd2,data2,sl2⟩,ho2,hc2,n2,hd2⟩:=id hb;simp only at hc hd hc2 hd2;subst hc hd hc2 hd2;exact richCompare_meets_room (op:=.Lt) ⟨_,ho,rfl⟩ ⟨_,ho2,rfl⟩ PySem.F.slot_tuple_lt PySem.F.entry_tuple_lt (PySem.F.args_tuple_lt_2 _ _) (AH l b items items2 n n2 dd dd2 sl sl2 out)
  ⟨ho,ho2,hx,show Value.bool out≠Value.notImplemented/\Q (.bool out) s from ⟨(fun x=>nomatch x),h⟩⟩ hu
section
variable{X:Cx}{pins:List (MU×Obj)}{σ:St}{H:Hp}{s:MW}
theorem zO(I:Inv X pins σ H s){n:Nat}{A:Nh}(hu:A.units+n < NM){N1 N2:Nat}
  (ih:∀ {x y:D} {v u:V} {v' u':MV},Fz n x y->RD X.K H x v->RD X.K H y u->aN v v'->aN u u'->Hx .Lt A s v' u' ( m4 n x y)):
  ∀ {ds es:List D} {xs ys:List V} {us ws:List MV},KY n (Fz n) ds es->RDs X.K H ds xs->RDs X.K H es ys->Vals xs us->Vals ys ws->ds.length+N2=es.length+N1->wQ .Lt (decide (N1 < N2)) A s us ws ( eL (m4 n) ds es)
 | [],es,xs,ys,us,ws,_,r1,r2,w1,w2,hl=>by
  rw[r1.inv_nil]at w1;cases w1;show ( eL (m4 n) [] es)=decide (N1 < N2)
  cases es with
  | nil=>
   simp only[NG]at hl;have e1:N2=N1:=by walk_at "o"
   subst e1;simp[eL]
  | cons b t=>
   simp only[NG,Ni]at hl;have:N1 < N2:=by walk_at "o"
   simp[eL];omega
 | a::r,[],xs,ys,us,ws,_,r1,r2,w1,w2,hl=>by
  rw[r2.inv_nil]at w2;cases w2;obtain⟨x1,t1,e1,_,_⟩:=r1.inv_cons;subst e1;cases w1;show ( eL (m4 n) (a::r) [])=decide (N1 < N2)
  simp only[NG,Ni]at hl;have:N2 < N1:=by walk_at "o"
  simp[eL];omega
 | a::r,b::t,xs,ys,us,ws,⟨p,c,q⟩,r1,r2,w1,w2,hl=>by
  obtain⟨x1,t1,e1,g1,g2⟩:=r1.inv_cons;subst e1;obtain⟨x2,t2,e2,f1,f2⟩:=r2.inv_cons;subst e2;cases w1 with
  | cons k1 w1=>
  cases w2 with
  | cons k2 w2=>
   refine⟨fE a b,(Aq I n p.1 p.2 g1 f1 k1 k2 hu).eq,fun e=>?_,fun e=>?_⟩
   ·rw[show eL (m4 n) (a::r) (b::t)=eL (m4 n) r t by simp[eL,e]]
    simp only[Ni]at hl;exact zO I hu ih q g2 f2 w1 w2 (by walk_at "o")
   ·rw[show eL (m4 n) (a::r) (b::t)=m4 n a b by simp[eL,e]]
    exact ih (c fun z=>by rw[z,bX]at e;cases e) g1 f1 k1 k2
theorem IW(I:Inv X pins σ H s):∀ (n:Nat) {x y:D} {v u:V} {v' u':MV} {A:Nh},Fz n x y->RD X.K H x v->RD X.K H y u->aN v v'->aN u u'->A.units+n < NM->Hx .Lt A s v' u' ( m4 n x y):=by
 intro n
 induction n with
 | zero=>
  intro x y v u v' u' A c rx ry lx ly hu;cases x<;>cases y<;>first|exact c.elim|skip
  ·simp only[RD]at rx ry;subst rx ry;obtain⟨t,rfl⟩:=lx;obtain⟨t',rfl⟩:=ly;intro prog w E Q h;exact (PyProof.Rows.lt_int h:M5 (M9 prog w) A (NA .Lt (.int _ t) (.int _ t')) Q E s)
  ·simp only[RD]at rx ry;subst rx ry;obtain⟨t,rfl⟩:=lx;obtain⟨t',rfl⟩:=ly;intro prog w E Q h;exact (PySem.P.lt_str h:M5 (M9 prog w) A (NA .Lt (.str _ t) (.str _ t')) Q E s)
 | succ n ih=>
  intro x y v u v' u' A c rx ry lx ly hu;cases x<;>cases y<;>first|exact c.elim|skip
  ·simp only[RD]at rx ry;subst rx ry;obtain⟨t,rfl⟩:=lx;obtain⟨t',rfl⟩:=ly;intro prog w E Q h;exact (PyProof.Rows.lt_int h:M5 (M9 prog w) A (NA .Lt (.int _ t) (.int _ t')) Q E s)
  ·simp only[RD]at rx ry;subst rx ry;obtain⟨t,rfl⟩:=lx;obtain⟨t',rfl⟩:=ly;intro prog w E Q h;exact (PySem.P.lt_str h:M5 (M9 prog w) A (NA .Lt (.str _ t) (.str _ t')) Q E s)
  ·rename_i ds es;simp only[RD]at rx ry;obtain⟨a,xs,rfl,s1,r1⟩:=rx;obtain⟨b,ys,rfl,s2,r2⟩:=ry;cases lx;cases ly;obtain⟨its,w1,t1,z1⟩:=I.tuple s1;obtain⟨its2,w2,t2,z2⟩:=I.tuple s2;have l1:=w1.length;have l1':=r1.length;have l2:=w2.length;have l2':=r2.length;refine E8 t1 t2 (by walk_at "o") ?_
   exact zO I (A:=A.in1) (by show A.units+1+n < NM;omega) (fun c rx ry lx ly=>ih c rx ry lx ly (by show A.units+1+n < NM;omega)) c r1 r2 w1 w2 (by simp only[Nb];omega)
end
def LY:R3:=fun x y G Q=>Fz 4 x y/\Q (.bl (! m4 4 x y)) G
open PySem.W
def oj(h:No)(d:MU)(vs:List MV)(ep:Nat):Prop:=∃ o es,h.get? d=some o/\o.ExactDict/\o.data=.dict es ep/\es.toList.map (·.val)=vs
section
variable{prog:Nf}{w:Nn}{A:Nh}{E:MV->MW->Prop}{s:MW}{d r it:MU}{vs:List MV}{ep i:Nat}
theorem oj.ty(x:oj s.heap d vs ep):s.TypeIs (.ref d) "dict":=let ⟨o,_,e,z,_⟩:=x;⟨o,e,z.1⟩
theorem oj.there{h:No}(x:oj h d vs ep):d < h.objs.size:=let ⟨_,_,e,_⟩:=x;Nc e
theorem oj.stay{h h':No}(x:oj h d vs ep)(k:∀ o,h.get? d=some o->h'.get? d=some o):oj h' d vs ep:=let ⟨o,es,e,z⟩:=x;⟨o,es,k o e,z⟩
theorem AY(hs:(d == NK)=false):MeetsIn prog w (Builtin.«dict.values» ⟨[.ref d],[]⟩) (fun _ R s=>(∃ vs ep,oj s.heap d vs ep)/\
  R (.ok (.ret (.ref s.heap.objs.size))) { s with heap:=s.heap.push { cls:=.type "dict_values",data:=.fields #[.ref d] } }):=
 .of_wp fun A R s zz=>by
  obtain⟨⟨vs,ep,x⟩,q⟩:=zz;refine MT ?_;unfold Builtin.Dict.noArgs;refine MT (P6 x.ty ?_);show M5 _ _ (pure d) _ _ s;refine MX ?_
  show M5 _ _ (Pd d >>= _) _ _ s;unfold Pd
  rw[if_neg (fun z=>by rw[hs]at z;cases z)];refine MT (MX ?_)
  exact MT (NC (MX ⟨_,rfl,q⟩))
theorem Et{Q:MV->MW->Prop}(hr:s.heap.IsValuesView r d)(x:oj s.heap d vs ep)
  (q:Q (.ref s.heap.objs.size) { s with heap:=s.heap.push { cls:=.type "dict_valueiterator",data:=.fields #[.ref d,.int 0 0,.int vs.length 0,.int ep 0] } }):M5 (M9 prog w) A (Pu (.ref r)) Q E s:=by
 obtain⟨ov,e1,c1,d1⟩:=id hr;obtain⟨o,es,e2,c2,d2,rfl⟩:=x;refine Qv hr.typeIs Q8 (NU Q8 hr.typeIs F.entry_dict_values_iter ?_ (F.args_dict_values_iter_1 _));unfold Builtin.«dict_values.__iter__»;refine MT (MX ?_);refine MT ?_;unfold Builtin.Dict_items.dictOf;refine MT (Od e1 d1 (x:=.ref d) rfl (MX ?_));refine MT ?_;unfold Builtin.Dict_items.newIterator;refine MT (OL e2 d2 ?_);refine MT (OX e2 d2 ?_);have own:Ob "dict_valueiterator"=false:=by decide
 simp only[own,Bool.false_eq_true,if_false];refine NC (MX ⟨_,rfl,"dict_valueiterator",_,⟨_,M6 _ rfl,rfl⟩,Ov.lookup,?_⟩)
 simpa[O0]using q
theorem Eu{v:MV}{Q:Option MV->MW->Prop}(hi:s.heap.IsValIter it d i vs.length ep)(x:oj s.heap d vs ep)(hv:vs[i]?=some v)
  (q:∀ h',h'.IsValIter it d (i+1) vs.length ep->OE it s.heap h'->Q (some v) { s with heap:=h' }):M5 (M9 prog w) A (OB (.ref it)) Q E s:=by
 obtain⟨o,e1,c1,d1⟩:=id hi;obtain⟨od,es,e2,c2,d2,rfl⟩:=x;unfold OB;refine MT (OU (NV (name:=MZ "__next__") hi.typeIs Ov (NU Ov hi.typeIs QE ?_ (QD _))));refine MT (MX ?_);refine MT ?_;refine MT ?_
 first|refine MT (Ow hi.typeIs (MX ?_))|refine MT (OS hi.typeIs (MX ?_))
 refine MT (Qb e1 d1 ?_);have own:Ob "dict_valueiterator"=false:=by decide
 simp only[own,Bool.false_eq_true,if_false];show M5 _ _ (if (Value.ref d == Value.none)=true then _ else _) _ _ s;rw[if_neg (show ¬ ((Value.ref d == Value.none)=true)from Bool.false_ne_true)]
 refine MT (MX ?_);refine MT (OL e2 d2 ?_);have z:es.size=(es.toList.map (·.val)).length:=by simp
 rw[if_neg (by rw[z];simp)];refine MT (MX ?_);refine MT (OX e2 d2 ?_)
 rw[if_neg (by simp)];refine MX ?_
 have lt:i < es.size:=by
  rw[z];rcases OH i (es.toList.map (·.val)).length with h|h
  ·exact h
  ·rw[NY h]at hv;cases hv
 have val:es[i].val=v:=by
  rw[Ng]at hv
  simpa[lt]using hv
 simp only[show ¬ ((i:Int) < 0)from by walk_at "o",if_false,Int.toNat_natCast,Array.getElem?_eq_getElem lt];refine MT ?_
 first|refine MT (Ow hi.typeIs (MX ?_))|refine MT (OS hi.typeIs (MX ?_))
 refine MT (P7 hi.typeIs ?_);show M5 _ _ (Ro (.ref it) 1 (O0 ((i:Int)+1)) >>= _) _ _ s;refine MT (Qa e1 d1 (by simp) ?_)
 have hi':(s.heap.update it (PN (·.setIfInBounds 1 (O0 ((i:Int)+1))))).IsValIter it d (i+1) (es.toList.map (·.val)).length ep:=
  ⟨_,P9 _ e1 (Rn (Pz d1 _)),(RZ ..).trans c1,by rw[Pz d1];simp[O0]⟩
 refine MT (NO ?_);refine MT (P7 (s:={ s with heap:=s.heap.update it (PN (·.setIfInBounds 1 (O0 ((i:Int)+1)))) }) hi'.typeIs ?_)
 refine MT (P7 (s:={ s with heap:=s.heap.update it (PN (·.setIfInBounds 1 (O0 ((i:Int)+1)))) }) hi'.typeIs ?_);show M5 _ _ (pure es[i].val) _ _ _
 exact MX (MX ⟨_,rfl,MX (val ▸ q _ hi' (Po ..))⟩)
theorem Gg{Q:Option MV->MW->Prop}(hh:A.handled=none)(hi:s.heap.IsValIter it d i vs.length ep)(x:oj s.heap d vs ep)(hv:vs[i]?=none)
  (q:∀ h',Heap.ExtBut it s.heap h'->Q none { s with heap:=h' }):M5 (M9 prog w) A (OB (.ref it)) Q E s:=by
 obtain⟨o,e1,c1,d1⟩:=id hi;obtain⟨od,es,e2,c2,d2,rfl⟩:=x;unfold OB;refine MT (OU (NV (name:=MZ "__next__") hi.typeIs Ov (NU Ov hi.typeIs QE ?_ (QD _))));refine MT (MX ?_);refine MT ?_;refine MT ?_
 first|refine MT (Ow hi.typeIs (MX ?_))|refine MT (OS hi.typeIs (MX ?_))
 refine MT (Qb e1 d1 ?_);have own:Ob "dict_valueiterator"=false:=by decide
 simp only[own,Bool.false_eq_true,if_false];show M5 _ _ (if (Value.ref d == Value.none)=true then _ else _) _ _ s;rw[if_neg (show ¬ ((Value.ref d == Value.none)=true)from Bool.false_ne_true)]
 refine MT (MX ?_);refine MT (OL e2 d2 ?_);have z:es.size=(es.toList.map (·.val)).length:=by simp
 rw[if_neg (by rw[z];simp)];refine MT (MX ?_);refine MT (OX e2 d2 ?_)
 rw[if_neg (by simp)];refine MX ?_
 have ge:es.size<=i:=by rw[z];simpa using hv
 simp only[show ¬ ((i:Int) < 0)from by walk_at "o",if_false,Int.toNat_natCast,Array.getElem?_eq_none ge];refine MT ?_
 first|refine MT (Ow hi.typeIs (MX ?_))|refine MT (OS hi.typeIs (MX ?_))
 show M5 _ _ (Ro (.ref it) 0 .none >>= _) _ _ s;refine MT (Qa e1 d1 (by simp) ?_)
 show M5 _ _ (newExc (.type "StopIteration") [] >>= _) _ _ _;refine MT ?_
 simp only[newExc,newTuple];refine MT (NC ?_ (by size_fits))
 refine MT (m:=Qd _ _) (wpAny_of_eq (a:=Value.none) (by first|rfl|(simp only[Qd];rfl)) ?_);refine NC ?_ (by size_fits)
 simp only[raiseNew];refine MT (wpAny_handled ?_);rw[show A.in1.handled=none from hh]
 refine MT (MX (wpAny_throw ?_));refine MT (QF (T:="StopIteration") (b:=true) ⟨_,M6 _ rfl,rfl⟩ QV ?_);exact MX (q _ (((Po ..).extBut.push _).push _))
theorem Es(hh:A.handled=none)(hne:d≠it):Walks prog w A it [it,d] [it] vs.length (fun i v=>vs[i]?=some v) (fun i h=>h.IsValIter it d i vs.length ep/\oj h d vs ep) where
 sub:=fun b hb=>by rw[Qo.mp hb];exact M8
 frame:=fun _ _ _ t k=>⟨t.1.at fun o e=>k it M8 o e,t.2.stay fun o e=>k d (M3 _ M8) o e⟩
 item:=fun i s Q E hi t q=>by
  obtain⟨v,hv⟩:∃ v,vs[i]?=some v:=⟨vs[i],by simp[hi]⟩
  refine Eu t.1 t.2 hv fun h' a b=>?_;exact q v h' s.toks hv ⟨a,t.2.stay fun o e=>b.extBut d o hne e⟩ fun c o hc e=>b.extBut c o (fun z=>hc (by rw[z];exact M8)) e
 done:=fun s Q E t q=>Gg hh t.1 t.2 (by simp) fun h' b=>q h' s.toks fun c o hc e=>b c o (fun z=>hc (by rw[z];exact M8)) e
 self:=fun _ _ _ _ t q=>wpAny_pyIter_valiter t.1 q
theorem Gf:KdlSrc prog w "dict_values" r d vs.length (fun i v=>vs[i]?=some v) (fun h=>h.IsValuesView r d/\oj h d vs ep) where
 type:=fun _ x=>x.1.typeIs
 there:=fun _ x=>⟨let ⟨_,e,_⟩:=x.1;Nc e,x.2.there⟩
 keep:=fun _ _ x k=>⟨let ⟨o,e,z⟩:=x.1;⟨o,k r (.inl rfl) o e,z⟩,x.2.stay fun o e=>k d (.inr rfl) o e⟩
 notList:=by decide
 notTuple:=by decide
 hint:=fun _ _ _ _ x q=>kdl_hint_values x.1.typeIs q
 iter:=fun _ _ hh x=>⟨_,_,(fun _ _ q=>Et x.1 x.2 q),Es hh (NB x.2.there),⟨⟨_,M6 _ rfl,rfl,rfl⟩,x.2.stay fun o e=>M0 _ e⟩⟩
end
def XO(a:MU)(o:Obj):HO:=.ext fun h=>h.get? a=some o
theorem HB{P:Nf}{w:Nn}{H:Hp}{h:No}{a:MU}{o:Obj}(e:h.get? a=some o):ce P w H h a (XO a o):=⟨e,⟨o,e⟩,fun _ _ p k=>k _ p⟩
section
variable{X:Cx}{pins:List (MU×Obj)}{τ:St}{H H0:Hp}{s:MW}{G:Gp}{a:MU}{o:Obj}{u:HO}
theorem qK(I:Inv X pins τ H s)(e:H a=some (XO a o)):s.heap.get? a=some o:=(show ce X.prog X.w H s.heap a (XO a o)from I.hok a _ e).1
theorem wA{t':Nat}{h':No}(I:Inv X pins τ H s)(ha:s.heap.objs.size=a)(hh:h'=s.heap.push o)(hf:o.isFreed=false:=by rfl):Inv X pins τ (bG H a (XO a o)) { s with heap:=h',toks:=t' }:=by
 subst ha hh;exact I.laid (fun _ _ e=>M0 _ e) (le_refl _) (HB (M6 _ hf))
theorem ur{t':Nat}{o':Obj}{f:Obj->Obj}(I:Inv X pins τ H s)(e:H a=some (XO a o))(e':(s.heap.update a f).get? a=some o'):Inv X pins τ (bG H a (XO a o')) { s with heap:=s.heap.update a f,toks:=t' }:=
 I.write (x:=a) (e:=a) (by rw[e];exact trivial) (.inl rfl) (fun b u hb hu=>(O_ s.heap f (Ne.symm hb)).trans hu) ⟨_,e'⟩ (HB e')
theorem nq{K:PySem.W.Frag}(mu:FM (H a)):Stb K H (bG H a u) where
 t:=fun b xs q=>by
  rcases q with (q|⟨z,q⟩)|q
  ·exact .inl (.inl (by rw[aB (fun e=>by subst e;rw[q]at mu;exact mu)];exact q))
  ·exact .inl (.inr ⟨z,by rw[aB (fun e=>by subst e;rw[q]at mu;exact mu)];exact q⟩)
  ·exact .inr q
 l:=fun b xs q=>by
  rcases q with ⟨z,q⟩|q
  ·exact .inl ⟨z,by rw[aB (fun e=>by subst e;rw[q]at mu;exact mu)];exact q⟩
  ·exact .inr q
theorem BU{K:PySem.W.Frag}(rg:RG K H G)(g:G a=none)(mu:FM (H a)):RG K (bG H a u) G:=fun b z q=>by
 obtain⟨h,e1,r⟩:=rg b z q;have hb:b≠a:=fun e=>by subst e;rw[q]at g;cases g
 exact⟨h,by rw[aB hb];exact e1,r.mono (nq mu)⟩
theorem zV(k:Kp G H0 G H)(n:H0 a=none):Kp G H0 G (bG H a u):=fun b h e g=>⟨by rw[aB (bW e n)];exact (k b h e g).1,g⟩
theorem GY{k:Nat}{f:MU}{fd:M7}{ps:List Str}{sp:df}{d kd:D}{v:V}{x:MV}{A:Nh}{E:MV->MW->Prop}(F:FnOk X.prog X.w X.K X.mg X.base dE k f fd ps (ax X.K sp))(hb:fW X.K fd ps [])(hr:Room k A)(hA:Env0 X.prog X.w X.K X.mg X.base A X.stack s H)
  (I:Inv X pins τ H s) (rg:RG X.K H G) (rd:RD X.K H d v) (rv:aN v x) (hs:sp [d] G fun z G'=>z=kd/\G'=G) (nf:∀ l,kd≠.fl l) {Q:MV->MW->Prop}
  (q:∀ u v' H' s',Inv X pins τ H' s'->Kp G H G H'->RG X.K H' G->RD X.K H' kd v'->aN v' u->Q u s'):M5 (M9 X.prog X.w) A (call (.ref f) [x]) Q E s:=by
 have sp1:ax X.K sp [v] H (fun v' H'=>Kp G H G H'/\RG X.K H' G/\RD X.K H' kd v') (fun _ _ _=>False):=
  ⟨[d],G,_,RDs.cons rd RDs.nil,rg,hs,fun z G' v' H' e k1 rg1 re=>by obtain⟨rfl,rfl⟩:=e;exact⟨k1,rg1,re.rd nf⟩⟩
 have r2:Vals [v] [x]:=.cons rv .nil;have hl:([x] ++ ([]:List MV)).length=ps.length:=by
  have:=F.len _ _ _ _ sp1
  simpa using this
 refine RB (PY (F.run A X.stack s H ⟨[x],[]⟩ ([x] ++ []) [v] _ _ hr hA (hb s [x] I.kIn hl) (by simpa using r2) sp1) fun r s' hq=>?_)
 cases r with
 | error e=>exact False.elim hq
 | ok fl=>
  cases fl with
  | ret u=>
   obtain⟨v',H',I',rv',k1,rg1,rd1⟩:=I.after hq;exact q u v' H' s' I' k1 rg1 rd1 rv'
  | next=>exact False.elim hq
  | brk=>exact False.elim hq
  | cont=>exact False.elim hq
end
theorem zW{X:Cx}{pins:List (MU×Obj)}{τ:St}{H0:Hp}{G:Gp}{k:Nat}{f:MU}{fd:M7}{ps:List Str}{sp:df}{A:Nh}{E:MV->MW->Prop}(F:FnOk X.prog X.w X.K X.mg X.base dE k f fd ps (ax X.K sp))(hb:fW X.K fd ps [])(hr:Room k A)
  (hA:∀ {s H},Inv X pins τ H s->Env0 X.prog X.w X.K X.mg X.base A X.stack s H) {S D0:MU} {oD:Obj} (nS:H0 S=none) (nD:H0 D0=none) (gS:G S=none) (gD:G D0=none) (hne:S≠D0)
  {body:MV->PUnit->Sem (ForInStep PUnit)}
  (hbd:∀ x s Q,M5 (M9 X.prog X.w) A (call (.ref f) [x]) (fun u s'=>M5 (M9 X.prog X.w) A (Builtin.List.listUpdate (.ref S) (·.push u)) (fun _=>Q (.yield ⟨⟩)) E s') (fun _ _=>False) s->M5 (M9 X.prog X.w) A (body x ⟨⟩) Q E s):
  ∀ {ds ks:List D} {vs:List V} {us:List MV},ks.length=ds.length->(∀ (i:Nat) d kd,ds[i]?=some d->ks[i]?=some kd->(sp [d] G fun z G'=>z=kd/\G'=G)/\∀ l,kd≠.fl l)->
   ∀ {H:Hp} {s:MW} {done:List D} {kv:List V} {ku:List MV} {n:Nat},Inv X pins τ H s->Kp G H0 G H->RG X.K H G->RDs X.K H ds vs->Vals vs us->H D0=some (XO D0 oD)->H S=some (XO S (OA "list" ku.toArray n))->RDs X.K H done kv->Vals kv ku->ku.length+us.length < 64->
   ∀ {Q:PUnit->MW->Prop},(∀ H' s' kv' ku' n',Inv X pins τ H' s'->Kp G H0 G H'->RG X.K H' G->H' D0=some (XO D0 oD)->H' S=some (XO S (OA "list" ku'.toArray n'))->RDs X.K H' (done ++ ks) kv'->Vals kv' ku'->Stb X.K H H'->Q ⟨⟩ s')->
   M5 (M9 X.prog X.w) A (forIn us PUnit.unit body) Q E s
 | [],ks,vs,us,hl,hk,H,s,done,kv,ku,n,I,kp,rg,rds,rv,eD,eS,rdk,rvk,hz,Q,q=>by
  rw[rds.inv_nil]at rv;cases rv;rw[PP];have:ks=[]:=List.length_eq_zero_iff.mp (by simpa using hl)
  subst this;exact MX (q H s kv ku n I kp rg eD eS (by rw[Oj];exact rdk) rvk ⟨fun _ _ z=>z,fun _ _ z=>z⟩)
 | d::ds,[],vs,us,hl,_,_,_,_,_,_,_,_,_,_,_,_,_,_,_,_,_,_,_=>by simp at hl
 | d::ds,kd::ks,vs,us,hl,hk,H,s,done,kv,ku,n,I,kp,rg,rds,rv,eD,eS,rdk,rvk,hz,Q,q=>by
  obtain⟨v,t,e,h1,h2⟩:=rds.inv_cons;subst e;cases rv with
  | @cons _ x _ us l rv=>
   rw[O1];obtain⟨hs,nf⟩:=hk 0 d kd rfl rfl;refine MT (hbd x s _ (GY F hb hr (hA I) I rg h1 l hs nf fun u v' H' s' I' k1 rg1 rd1 rv1=>?_));have eS':=(k1 S _ eS gS).1;have eD':=(k1 D0 _ eD gD).1;have st1:=k1.stb rg;have oS:=qK I' eS';simp only[Ni]at hz;refine Qp oS rfl ?_ (by rw[Nb,N3];omega) (by rw[Array.size_push,Nb,N3];omega)
   have ea:ku.toArray.push u=(ku ++ [u]).toArray:=by simp
   have e2:=P3 oS (·.push u);rw[ea]at e2;generalize (if ((ku ++ [u]).toArray.size == ku.toArray.size)=true then n else n+1)=n2 at e2
   have mu:FM (H' S):=by rw[eS'];exact trivial
   have I2:=ur (t':=s'.toks) I' eS' e2;have st2:Stb X.K H' (bG H' S (XO S (OA "list" (ku ++ [u]).toArray n2))):=nq mu;refine zW F hb hr hA nS nD gS gD hne hbd (ds:=ds) (ks:=ks) (by simpa using hl) (fun i d' kd' a b=>hk (i+1) d' kd' (by simpa using a) (by simpa using b)) I2 (zV (kp.trans k1) nS) (BU rg1 gS mu)
    (RDs.mono st2 _ _ (RDs.mono st1 _ _ h2)) rv (by rw[aB hne.symm];exact eD') aX (done:=done ++ [kd]) (kv:=kv ++ [v']) (RDs.append (RDs.mono st2 _ _ (RDs.mono st1 _ _ rdk)) (RDs.cons (RD.mono st2 _ _ rd1) RDs.nil)) (rvk.append (.cons rv1 .nil)) (by simp;omega)
    fun H3 s3 kv3 ku3 n3 I3 kp3 rg3 eD3 eS3 rd3 rv3 st3=>q H3 s3 kv3 ku3 n3 I3 kp3 rg3 eD3 eS3 (by simpa using rd3) rv3 ⟨fun b xs z=>st3.t _ _ (st2.t _ _ (st1.t _ _ z)),fun b xs z=>st3.l _ _ (st2.l _ _ (st1.l _ _ z))⟩
section
variable{X:Cx}{pins:List (MU×Obj)}{τ:St}{H H0:Hp}{s:MW}{G:Gp}
theorem HU(I:L2.Inv X pins τ H s){n:Nat}{A:Nh}(hu:A.units+n < NM){b:Bool}{N1 N2:Nat}{Q:Bool->MW->Prop}:
  ∀ {ds es:List D} {xs ys:List V} {us ws:List MV} {i:Nat},(b && i == 0)=false->KY n (Fz n) ds es->RDs X.K H ds xs->RDs X.K H es ys->Vals xs us->Vals ys ws->ds.length+N2=es.length+N1->Q (eL (m4 n) ds es) s->
   KatLex X.prog X.w A b (decide (N1 < N2)) Q (us.zip ws) i s
 | [],es,xs,ys,us,ws,i,hb,c,r1,r2,w1,w2,hl,q=>by
  rw[r1.inv_nil]at w1;cases w1;rw[List.zip_nil_left];refine kat_nil ?_;cases es with
  | nil=>
   simp only[NG]at hl;rw[decide_eq_false (by walk_at "o")]
   exact q
  | cons b t=>
   simp only[NG,Ni]at hl;rw[decide_eq_true (by walk_at "o")]
   exact q
 | a::r,[],xs,ys,us,ws,i,hb,c,r1,r2,w1,w2,hl,q=>by
  rw[r2.inv_nil]at w2;cases w2;rw[List.zip_nil_right];refine kat_nil ?_;simp only[NG,Ni]at hl;rw[decide_eq_false (by walk_at "o")]
  exact q
 | a::r,b'::t,xs,ys,us,ws,i,hb,⟨p,c,z⟩,r1,r2,w1,w2,hl,q=>by
  obtain⟨x1,t1,e1,g1,g2⟩:=r1.inv_cons;subst e1;obtain⟨x2,t2,e2,f1,f2⟩:=r2.inv_cons;subst e2;cases w1 with
  | cons k1 w1=>
  cases w2 with
  | cons k2 w2=>
   rw[OR];refine kat_cons ((Aq I n p.1 p.2 g1 f1 k1 k2 hu).eq X.prog X.w _ _ (kat_go (fun e=>kat_yes ?_) fun e=>kat_no ?_))
   ·rw[show eL (m4 n) (a::r) (b'::t)=eL (m4 n) r t by simp[eL,e]]at q
    simp only[Ni]at hl;exact HU I hu (by simp) z g2 f2 w1 w2 (by walk_at "o") q
   ·rw[show eL (m4 n) (a::r) (b'::t)=m4 n a b' by simp[eL,e]]at q
    rw[hb];refine kat_one _ _ ?_;exact (IW I n (c fun y=>by rw[y,bX]at e;cases e) g1 f1 k1 k2 hu) X.prog X.w _ _ q
def Di(d:D):Prop:=∃ t r,d=.tup (.int t::r)
theorem Lf(I:L2.Inv X pins τ H s){A:Nh}(hu:A.units+4 < NM){kx ky:D}{v u:V}{v' u':MV}(cp:Fz 4 kx ky)(hx:Di kx)(hy:Di ky)(rx:RD X.K H kx v)(ry:RD X.K H ky u)(lx:aN v v')(ly:aN u u'){C:Bool->MW->Prop}{E:MV->MW->Prop}
  (q:C (m4 4 kx ky) s):M5 (M9 X.prog X.w) A (keyLt' (tuples' true) v' u') C E s:=by
 obtain⟨i,r,rfl⟩:=hx;obtain⟨j,t,rfl⟩:=hy;simp only[RD]at rx ry;obtain⟨a,xs,rfl,s1,r1⟩:=rx;obtain⟨b,ys,rfl,s2,r2⟩:=ry;cases lx;cases ly;obtain⟨its,w1,⟨o1,h1,c1,n1,d1⟩,z1⟩:=I.tuple s1;obtain⟨its2,w2,⟨o2,h2,c2,n2,d2⟩,z2⟩:=I.tuple s2;refine kat_lt h1 d1 h2 d2 ?_;have l1:=w1.length;have l1':=r1.length;have l2:=w2.length;have l2':=r2.length;obtain⟨x1,t1,e1,g1,g2⟩:=RDs.inv_cons (d:=.int i) (ds:=r) r1;subst e1;obtain⟨x2,t2,e2,f1,f2⟩:=RDs.inv_cons (d:=.int j) (ds:=t) r2;subst e2;simp only[RD]at g1 f1;subst g1 f1;cases w1 with
 | @cons _ u1 _ m1 k1 w1=>
 cases w2 with
 | @cons _ u2 _ m2 k2 w2=>
  obtain⟨tk,rfl⟩:=k1;obtain⟨tk',rfl⟩:=k2;obtain⟨p,c,z⟩:=(show KY 3 (Fz 3) (.int i::r) (.int j::t)from cp)
  have q':C (eL (m4 3) (.int i::r) (.int j::t)) s:=q;show KatLex _ _ _ _ _ _ ((_::m1).zip (_::m2)) 0 s
  rw[OR];refine kat_cons ((Aq I 3 (x:=.int i) (y:=.int j) (v:=.int i) (u:=.int j) p.1 p.2 eT eT ⟨tk,rfl⟩ ⟨tk',rfl⟩ (by walk_at "o")).eq X.prog X.w _ _ (kat_go (fun e=>kat_yes ?_) fun e=>kat_no ?_))
  ·rw[show eL (m4 3) (.int i::r) (.int j::t)=eL (m4 3) r t by simp[eL,e]]at q'
   simp only[Ni]at l1 l1' l2 l2';exact HU I (by walk_at "o") (by simp) z g2 f2 w1 w2 (by simp only[Nb,Ni];omega) q'
  ·rw[show eL (m4 3) (.int i::r) (.int j::t)=m4 3 (.int i) (.int j)by simp[eL,e]]at q'
   show M5 _ _ (oneLt' true _ _) _ _ _
   exact oneLt_int q'
theorem Jj(I:L2.Inv X pins τ H s){A:Nh}{E:MV->MW->Prop}{Q:SortKind->MW->Prop}{ks:List D}{kv:List V}{ku:List MV}(hk:∀ d∈ks,Di d)(r:RDs X.K H ks kv)(w:Vals kv ku)(hn:0 < ks.length)(q:Q (tuples' true) s):
  M5 (M9 X.prog X.w) A (keyKind' ku.toArray) Q E s:=by
 have go:∀ {ks:List D} {kv:List V} {ku:List MV},(∀ d∈ks,Di d)->RDs X.K H ks kv->Vals kv ku->∃ fs,KatTups s.heap ku fs/\fs.length=ks.length/\∀ v∈fs,∃ i t,v=Value.int i t:=by
  intro ks
  induction ks with
  | nil=>
   intro kv ku _ r w;rw[r.inv_nil]at w;cases w;exact⟨[],KatTups.nil,rfl,fun v hv=>by simp at hv⟩
  | cons d t ih=>
   intro kv ku hk r w;obtain⟨x1,t1,e1,g1,g2⟩:=r.inv_cons;subst e1;cases w with
   | cons k1 w=>
    obtain⟨fs,h1,h2,h3⟩:=ih (fun d hd=>hk d (M3 _ hd)) g2 w;obtain⟨i,rr,rfl⟩:=hk d M8;simp only[RD]at g1;obtain⟨a,xs,rfl,s1,r1⟩:=g1;cases k1;obtain⟨its,w1,⟨o1,e1,c1,n1,d1⟩,z1⟩:=I.tuple s1;obtain⟨y1,u1,e2,g3,_⟩:=RDs.inv_cons (d:=.int i) (ds:=rr) r1;subst e2;simp only[RD]at g3;subst g3;cases w1 with
    | cons k2 w1=>
     obtain⟨tk,rfl⟩:=k2;refine⟨.int i tk::fs,KatTups.cons e1 c1 d1 (by simp) h1,by simp[h2],fun v hv=>?_⟩
     rcases NH.mp hv with rfl|hv
     ·exact⟨i,tk,rfl⟩
     ·exact h3 v hv
 obtain⟨fs,h1,h2,h3⟩:=go hk r w;refine kat_kind (T:=.type "int") h1 (by walk_at "o") (fun v hv=>?_) (by decide) ?_
 ·obtain⟨i,t,rfl⟩:=h3 v hv;exact Looks.of_pure rfl
 ·rw[show (Value.type "int" != Value.type "tuple")=true by decide]
  exact q
end
section
variable{X:Cx}{pins:List (MU×Obj)}{τ:St}{H H0:Hp}{s:MW}{G:Gp}{S D0:MU}{A:Nh}{E:MV->MW->Prop}{P:PySem.Fin->MW->Prop}
theorem yV(I:L2.Inv X pins τ H s)(rg:RG X.K H G)(kp:Kp G H0 G H)(nS:H0 S=none)(nD:H0 D0=none)(gS:G S=none)(gD:G D0=none)(hne:S≠D0){e1 n:Nat}{ku out:List MV}{ov:List V}{st:SortSt}
  (eD:H D0=some (XO D0 (OA "list" #[] e1))) (eS:H S=some (XO S (OA "list" ku.toArray n))) (hz:ku.length < 64) (ho:(arrOf st).map (·.2)=out.toArray) (hf:failedOf st=none) (hv:Vals ov out) (hl:out.length < 64)
  (q:∀ H' s',L2.Inv X pins τ H' s'->Kp G H0 G H'->RG X.K H' G->H' D0=some (.lst ov)->Stb X.K H H'->P (.done (.ret .none)) s'):M5 (M9 X.prog X.w) A (ksk_tail D0 false e1 (.ref S) st) P E s:=by
 unfold ksk_tail;dsimp only;rw[ho];simp only[Bool.false_eq_true,if_false];have oS:=qK I eS;have e2:=P3 oS (fun _=>(#[]:Array MV));have mu:FM (H S):=by rw[eS];exact trivial
 have I1:=ur (t':=s.toks) I eS e2;have eD1:(bG H S (XO S (OA "list" #[] (if ((#[]:Array MV).size == ku.toArray.size)=true then n else n+1)))) D0=some (XO D0 (OA "list" #[] e1)):=by rw[aB hne.symm];exact eD
 have oD:=qK I1 eD1;have mu2:FM ((bG H S (XO S (OA "list" #[] (if ((#[]:Array MV).size == ku.toArray.size)=true then n else n+1)))) D0):=by rw[eD1];exact trivial
 have e3:=P3 oD (fun _=>out.toArray);refine MT (Qp oS rfl ?_ (by rw[Nb,N3];omega) (NI _))
 refine MT (QI ?_);refine MT (seqEpoch_at oD rfl ?_);refine MT (Qp oD rfl ?_ (NI _) (by rw[Nb,N3];omega))
 rw[hf];simp only[bne_self_eq_false,Bool.false_eq_true,if_false];have I2:=I1.write (x:=D0) (e:=D0) (o:=.lst ov) (t':=s.toks) mu2 (.inl rfl) (fun b u hb hu=>(O_ _ (Os fun _=>out.toArray) (Ne.symm hb)).trans hu) ⟨_,e3⟩ ⟨by rw[hv.length,N3];omega,out,_,hv,e3⟩
 refine MX (q _ _ I2 (zV (zV kp nS) nD) (BU (BU rg gS mu) gD mu2) aX ?_);exact⟨fun b xs z=>(nq mu2).t _ _ ((nq mu).t _ _ z),fun b xs z=>(nq mu2).l _ _ ((nq mu).l _ _ z)⟩
theorem Dq{vs:List V}{us:List MV}(w:Vals vs us)(i:Nat)(hi:i < vs.length):aN (vs.getD i .non) (us.getD i .none):=by
 have hl:=w.length;obtain⟨v,e,r⟩:=Vals.getV (i:=i) (u:=us[i]'(by walk_at "o")) w (by simp)
 rw[Nl,Nl,e,M1 (by walk_at "o")]
 exact r
theorem zK{vs:List V}{us:List MV}(w:Vals vs us):∀ {p:List Nat},(∀ i∈p,i < vs.length)->Vals (p.map fun i=>vs.getD i .non) (p.map fun i=>us.getD i .none)
 | [],_=>.nil
 | i::r,h=>.cons (Dq w i (h i M8)) (zK w fun j hj=>h j (M3 _ hj))
theorem Fn{K:PySem.W.Frag}{ds:List D}{vs:List V}(r:RDs K H ds vs)(i:Nat)(hi:i < vs.length):RD K H (ds.getD i .non) (vs.getD i .non):=by
 obtain⟨d,e,q⟩:=RDs.getV (i:=i) r (M1 hi);rw[Nl,Nl,e,M1 hi];exact q
theorem B9{K:PySem.W.Frag}{ds:List D}{vs:List V}(r:RDs K H ds vs):∀ {p:List Nat},(∀ i∈p,i < vs.length)->RDs K H (p.map fun i=>ds.getD i .non) (p.map fun i=>vs.getD i .non)
 | [],_=>RDs.nil
 | i::t,h=>RDs.cons (Fn r i (h i M8)) (B9 r fun j hj=>h j (M3 _ hj))
theorem range_getD{α:Type}(l:List α)(d:α):(List.range l.length).map (fun i=>l.getD i d)=l:=by
 refine List.ext_getElem (by simp) fun i h1 h2=>?_
 simp[h2]
theorem Hh(I:L2.Inv X pins τ H s)(rg:RG X.K H G)(kp:Kp G H0 G H)(nS:H0 S=none)(nD:H0 D0=none)(gS:G S=none)(gD:G D0=none)(hne:S≠D0){e1 n:Nat}{ks:List D}{kv vs:List V}{ku us:List MV}
  (eD:H D0=some (XO D0 (OA "list" #[] e1))) (eS:H S=some (XO S (OA "list" ku.toArray n))) (rk:RDs X.K H ks kv) (wk:Vals kv ku) (wv:Vals vs us) (hl:ku.length=us.length) (hz:us.length < 64) (hu:A.units+4 < NM)
  (hk:∀ d∈ks,Di d) (hc:∀ a∈ks,∀ b∈ks,Fz 4 a b) (r:Nat->Nat) (hr:∀ i j a b,ks[i]?=some a->ks[j]?=some b->m4 4 a b=decide (r i < r j))
  (q:∀ (p:List Nat) H' s',p.Perm (List.range us.length)->(p.map r).Pairwise (·<=·)->L2.Inv X pins τ H' s'->Kp G H0 G H'->RG X.K H' G->H' D0=some (.lst (p.map fun i=>vs.getD i .non))->Stb X.K H H'->P (.done (.ret .none)) s'):
  M5 (M9 X.prog X.w) A (ksk_end D0 false us.toArray e1 (.ref S) ku.toArray) P E s:=by
 have lk:=wk.length;have lk':=rk.length;have lv:=wv.length;unfold ksk_end;dsimp only;simp only[Bool.false_eq_true,if_false]
 by_cases h2:us.length < 2
 ·have hs:us.toArray.size < 2:=by rw[Nb];exact h2
  rw[if_pos hs,if_pos hs];refine MT (MX ?_);refine MT (MX ?_);refine yV I rg kp nS nD gS gD hne eD eS (by walk_at "o") (out:=us) (ov:=vs) (st:=SortSt.mk' general' (ku.toArray.zip us.toArray) #[] 7 none) ?_ rfl wv hz fun H' s' I' kp' rg' e' st'=>?_
  ·apply Array.toList_inj.mp;show ((ku.toArray.zip us.toArray).map (·.2)).toList=_
   rw[Array.toList_map,ksk_zip];simp[List.map_snd_zip,hl]
  ·refine q (List.range us.length) H' s' (List.Perm.refl _) ?_ I' kp' rg' (by rw[<- lv,range_getD];exact e') st'
   have:us.length=0\/us.length=1:=by walk_at "o"
   rcases this with e|e<;>rw[e]<;>simp[List.range_succ]
 ·have hs:¬ us.toArray.size < 2:=by rw[Nb];exact h2
  rw[if_neg hs,if_neg hs];obtain⟨p,ep,hp,adj⟩:=F8 r us.length (by walk_at "o")
  refine MT (Jj I hk rk wk (by walk_at "o") ?_)
  refine MT (NR (kat_run (Q:=fun st' s'=>∃ p':Array Nat,arrOf st'=p'.map (kas_item (ku.toArray.zip us.toArray))/\failedOf st'=none/\s'=s/\p'=p) hl (by walk_at "o") hz (G:=fun p' s'=>s'=s/\p'=p)
   (fun p' st' s' a1 a2 a3 a4=>⟨p',a2,a3,a4.1,a4.2⟩) ?_) ?_ fun _ _ x=>x)
  ·refine KasT.walked (lt:=m8 r) (J:=fun s'=>s'=s) (fun i j C s' hi hj e c=>?_) _ s (F9 (by walk_at "o")) rfl fun s' e _=>⟨e,ep⟩
   subst e;unfold kas_ask;obtain⟨v1,f1,g1⟩:=Vals.getV (i:=i) (u:=ku[i]'(by walk_at "o")) wk (by simp)
   obtain⟨v2,f2,g2⟩:=Vals.getV (i:=j) (u:=ku[j]'(by walk_at "o")) wk (by simp)
   obtain⟨d1,b1,c1⟩:=RDs.getV rk f1;obtain⟨d2,b2,c2⟩:=RDs.getV rk f2;have m1:=Na b1;have m2:=Na b2;rw[show ku.getD i Value.none=ku[i]'(by walk_at "o")by simp[show i < ku.length by walk_at "o"],show ku.getD j Value.none=ku[j]'(by walk_at "o")by simp[show j < ku.length by walk_at "o"]]
   refine Lf I hu (hc _ m1 _ m2) (hk _ m1) (hk _ m2) c1 c2 g1 g2 ?_;rw[hr i j d1 d2 b1 b2];exact c _ rfl
  ·rintro⟨⟨⟩,st'⟩ s' ⟨p',har,hf,rfl,rfl⟩
   dsimp only;have lp:p'.toList.length=us.length:=by rw[hp.length_eq,List.length_range]
   have inr:∀ i∈p'.toList,i < us.length:=fun i hi=>mem_range.mp (hp.mem_iff.mp hi);refine yV I rg kp nS nD gS gD hne eD eS (by walk_at "o") (out:=p'.toList.map fun i=>us.getD i Value.none) (ov:=p'.toList.map fun i=>vs.getD i .non) (kat_snds hl har) hf (zK wv fun i hi=>by rw[lv];exact inr i hi) (by rw[MY,lp];exact hz) fun H' s' I' kp' rg' e' st'=>?_
   refine q p'.toList H' s' hp ?_ I' kp' rg' e' st';rw[Pr,List.pairwise_iff_getElem];intro i j hi hj hij;have h:=adj.le (le_of_lt hij) (by walk_at "o")
   unfold RR at h;have gi:p'.getD i 0=p'.toList[i]:=by
    have:i < p'.size:=by simpa using hi
    simp[Array.getD,this]
   have gj:p'.getD j 0=p'.toList[j]:=by
    have:j < p'.size:=by simpa using hj
    simp[Array.getD,this]
   rw[gi,gj]at h;exact h
end
structure SortBy(sp:df)(G:Gp)(ds:List D)(ks:List D)(r:Nat->Nat):Prop where
 few:ds.length < 64
 len:ks.length=ds.length
 key:∀ (i:Nat) d kd,ds[i]?=some d->ks[i]?=some kd->sp [d] G fun z G'=>z=kd/\G'=G
 ki:∀ d∈ks,Di d
 cp:∀ a∈ks,∀ b∈ks,Fz 4 a b
 lt:∀ i j a b,ks[i]?=some a->ks[j]?=some b->m4 4 a b=decide (r i < r j)
section
variable{X:Cx}{pins:List (MU×Obj)}{τ:St}{H H0:Hp}{s:MW}{G:Gp}{S D0:MU}{A:Nh}{E:MV->MW->Prop}{P:PySem.Fin->MW->Prop}
 {k:Nat} {f:MU} {fd:M7} {ps:List Str} {sp:df} {ds ks:List D} {r:Nat->Nat} {vs:List V} {us:List MV}
theorem Eo(F:FnOk X.prog X.w X.K X.mg X.base dE k f fd ps (ax X.K sp))(hb:fW X.K fd ps [])(hr:Room k A)(hA:∀ {s H},L2.Inv X pins τ H s->Env0 X.prog X.w X.K X.mg X.base A X.stack s H)(sb:SortBy sp G ds ks r)(hu:A.units+4 < NM)
  (I:L2.Inv X pins τ H s) (rg:RG X.K H G) (kp:Kp G H0 G H) (nS:H0 S=none) (nD:H0 D0=none) (gS:G S=none) (gD:G D0=none) (hne:S≠D0) {e1:Nat}
  (eD:H D0=some (XO D0 (OA "list" #[] e1))) (eS:H S=some (XO S (OA "list" #[] 0))) (rd:RDs X.K H ds vs) (wv:Vals vs us)
  (q:∀ (p:List Nat) H' s',p.Perm (List.range ds.length)->(p.map r).Pairwise (·<=·)->L2.Inv X pins τ H' s'->Kp G H0 G H'->RG X.K H' G->H' D0=some (.lst (p.map fun i=>vs.getD i .non))->Stb X.K H H'->P (.done (.ret .none)) s'):
  M5 (M9 X.prog X.w) A (ksk_rest D0 (.ref f) false us.toArray e1 (.ref S)) P E s:=by
 have l1:=rd.length;have l2:=wv.length;have few:=sb.few;unfold ksk_rest;refine MT (Qq ?_)
 first
  | rw[List.forIn_toArray]
  | (rw[<- Array.forIn_toList];simp only[List.toList_toArray])
  | rw[<- Array.forIn_toList]
 refine MT (zW F hb hr hA nS nD gS gD hne (fun x s' Q' h=>?_) sb.len (fun i d kd a b=>⟨sb.key i d kd a b,fun l e=>?_⟩) I kp rg rd wv eD (ku:=[]) (n:=0) (done:=[]) (kv:=[]) eS RDs.nil .nil (by simp only[NG];omega)
  fun H' s' kv' ku' n' I' kp' rg' eD' eS' rk wk st=>?_)
 ·refine MT (OU (NR h (fun u s'' hu'=>?_) fun _ _ hF=>hF.elim));dsimp only;exact MT (NR hu' (fun _ s3 hq=>MX hq) fun _ _ x=>x)
 ·obtain⟨t,rr,e2⟩:=sb.ki kd (Na b);rw[e2]at e;cases e
 ·have l3:=rk.length;have l4:=wk.length;have sl:=sb.len;simp only[OC]at rk l3;refine MT (listItems_at (qK I' eS') rfl ?_);refine Hh I' rg' kp' nS nD gS gD hne eD' eS' rk wk wv (by walk_at "o") (by walk_at "o") hu sb.ki sb.cp r sb.lt fun p H'' s'' hp hs I'' VZ VT e'' st''=>?_
  refine q p H'' s'' (by rw[show ds.length=us.length by walk_at "o"];exact hp) hs I'' VZ VT e'' ⟨fun b xs z=>st''.t _ _ (st.t _ _ z),fun b xs z=>st''.l _ _ (st.l _ _ z)⟩
theorem D4(F:FnOk X.prog X.w X.K X.mg X.base dE k f fd ps (ax X.K sp))(hb:fW X.K fd ps [])(hr:Room k A)(hA:∀ {s H},L2.Inv X pins τ H s->Env0 X.prog X.w X.K X.mg X.base A X.stack s H)(sb:SortBy sp G ds ks r)(hu:A.units+4 < NM)
  (I:L2.Inv X pins τ H s) (rg:RG X.K H G) (kp:Kp G H0 G H) (h0:∀ a,H a=none->H0 a=none) (nD:H0 D0=none) (gD:G D0=none) {n:Nat}
  (eD:H D0=some (XO D0 (OA "list" us.toArray n))) (rd:RDs X.K H ds vs) (wv:Vals vs us)
  (q:∀ (p:List Nat) H' s',p.Perm (List.range ds.length)->(p.map r).Pairwise (·<=·)->L2.Inv X pins τ H' s'->Kp G H0 G H'->RG X.K H' G->H' D0=some (.lst (p.map fun i=>vs.getD i .non))->Stb X.K H H'->P (.done (.ret .none)) s'):
  M5 (M9 X.prog X.w) A (ksk_tree D0 (.ref f) false) P E s:=by
 have l1:=rd.length;have l2:=wv.length;have few:=sb.few;have oD:=qK I eD;have mu:FM (H D0):=by rw[eD];exact trivial
 have e2:=P3 oD (fun _=>(#[]:Array MV));generalize (if ((#[]:Array MV).size == us.toArray.size)=true then n else n+1)=e1 at e2
 have I1:=ur (t':=s.toks) I eD e2;unfold ksk_tree;refine MT (listItems_at oD rfl ?_);refine MT (Qp oD rfl ?_ (by rw[Nb,N3];omega) (NI _))
 refine MT (seqEpoch_at e2 rfl ?_);refine MT (QS ?_ (by show us.length<=_;rw[N3];omega))
 refine MT (wpAny_newList ?_ (NI _));refine NO ?_;have I2:L2.Inv X pins τ _ { s with heap:=(s.heap.update D0 (Os fun _=>#[])).push { cls:=.type "tuple",data:=.seq us.toArray } }:=I1.kept (t':=s.toks) fun b u e=>M0 _ e
 have fS:=I2.fresh;have I3:=wA (t':=s.toks) (o:=OA "list" #[] 0) I2 rfl rfl;have hS0:H ((s.heap.update D0 (Os fun _=>(#[]:Array MV))).push { cls:=.type "tuple",data:=.seq us.toArray }).objs.size=none:=by
  by_cases e:((s.heap.update D0 (Os fun _=>(#[]:Array MV))).push { cls:=.type "tuple",data:=.seq us.toArray }).objs.size=D0
  ·rw[e]at fS;rw[aX]at fS;cases fS
  ·rw[aB e]at fS;exact fS
 have hne:((s.heap.update D0 (Os fun _=>(#[]:Array MV))).push { cls:=.type "tuple",data:=.seq us.toArray }).objs.size≠D0:=fun e=>by rw[e,eD]at hS0;cases hS0
 have rg1:RG X.K (bG H D0 (XO D0 (OA "list" #[] e1))) G:=BU rg gD mu;have st1:Stb X.K H (bG H D0 (XO D0 (OA "list" #[] e1))):=nq mu;have st2:Stb X.K (bG H D0 (XO D0 (OA "list" #[] e1))) (bG (bG H D0 (XO D0 (OA "list" #[] e1))) ((s.heap.update D0 (Os fun _=>(#[]:Array MV))).push { cls:=.type "tuple",data:=.seq us.toArray }).objs.size (XO ((s.heap.update D0 (Os fun _=>(#[]:Array MV))).push { cls:=.type "tuple",data:=.seq us.toArray }).objs.size (OA "list" #[] 0))):=(Kp.laid (G:=G) fS).stb rg1;refine Eo F hb hr hA sb hu I3 (rg1.laid fS) (zV (zV kp nD) (h0 _ hS0)) (h0 _ hS0) nD (rg.free hS0) gD hne (by rw[aB hne.symm,aX]) aX (RDs.mono st2 _ _ (RDs.mono st1 _ _ rd)) wv fun p H' s' hp hs I' kp' rg' e' st'=>?_
 exact q p H' s' hp hs I' kp' rg' e' ⟨fun b xs z=>st'.t _ _ (st2.t _ _ (st1.t _ _ z)),fun b xs z=>st'.l _ _ (st2.l _ _ (st1.l _ _ z))⟩
theorem AM{d vw:MU}{Q:MV->MW->Prop}(F:FnOk X.prog X.w X.K X.mg X.base dE k f fd ps (ax X.K sp))(hb:fW X.K fd ps [])(hr:Room (k+2) X.A)(sb:SortBy sp G ds ks r)(hu:X.A.units+8 < NM)(hh:X.A.handled=none)
  (I:L2.Inv X pins τ H s) (rg:RG X.K H G) {ep:Nat} (hv:s.heap.IsValuesView vw d) (dr:oj s.heap d us ep) (rd:RDs X.K H ds vs) (wv:Vals vs us)
  (q:∀ (p:List Nat) D0 H' s',p.Perm (List.range ds.length)->(p.map r).Pairwise (·<=·)->L2.Inv X pins τ H' s'->Kp G H G H'->RG X.K H' G->H D0=none->H' D0=some (.lst (p.map fun i=>vs.getD i .non))->RDs X.K H' (p.map fun i=>ds.getD i .non) (p.map fun i=>vs.getD i .non)->Q (.ref D0) s'):
  M5 (M9 X.prog X.w) X.A (call (.builtin "sorted") [.ref vw] [(MZ "key",.ref f)]) Q E s:=by
 have l1:=rd.length;have l2:=wv.length;have few:=sb.few;refine call_function_entry_kw kind_sorted plain_sorted entry_sorted (ksk_s1 _ _) ?_;unfold Builtin.«sorted»;refine MT (m:=checkCount "sorted" 1 1 _) (MX ?_);refine MT (kdu_collect (A:=X.A.in1) (Gf (r:=vw) (d:=d) (vs:=us) (ep:=ep)) hh ⟨hv,dr⟩ (by rw[N3];omega) fun h' tk acc hk hacc=>?_)
 have ea:acc.toList=us:=by
  refine List.ext_getElem? fun i=>?_;rcases OH i acc.size with h|h
  ·have e:acc[i]?=some acc[i]:=by simp[h]
   have:=hacc.2 i _ e;rw[this];simp[h]
  ·rw[NY (by simpa using h),NY (by rw[<- hacc.1];exact h)]
 rw[ea];have I1:L2.Inv X pins τ H { s with heap:=h',toks:=tk }:=I.kept hk
 refine MT (wpAny_newList ?_ (by rw[N3];omega))
 have fD:=I1.fresh;have I2:=wA (t':=tk) (o:=OA "list" us.toArray 0) I1 rfl rfl;have st:Stb X.K H (bG H h'.objs.size (XO h'.objs.size (OA "list" us.toArray 0))):=(Kp.laid (G:=G) fD).stb rg;refine MT (NO (wpAny_call_entry_kw slot_list_sort ⟨_,qK I2 aX,rfl⟩ entry_list_sort ?_ (ksk_l1 _ _)));rw[ksk_t1];refine D4 F hb (hr.in1.in1) (fun J=>J.env0.in1.in1) sb (by show X.A.units+1+1+4 < NM;omega) I2 (rg.laid fD) (Kp.laid fD) (fun a e=>?_) fD (rg.free fD) aX (RDs.mono st _ _ rd) wv fun p H' s' hp hs I' kp' rg' e' st'=>⟨_,rfl,?_⟩
 ·by_cases h:a=h'.objs.size
  ·subst h;exact fD
  ·rw[aB h]at e;exact e
 ·refine MX ⟨_,rfl,q p _ H' s' hp hs I' kp' rg' fD e' (B9 (RDs.mono st' _ _ (RDs.mono st _ _ rd)) fun i hi=>?_)⟩;rw[<- l1];exact mem_range.mp (hp.mem_iff.mp hi)
end
def Bt(sp:df)(to:bJ):bJ:=fun σ G Q=>to σ G fun x G1=>match val x with
 | .ref a=>match G1 a with
  | some (.dT _ kvs)=>∃ ks r,SortBy sp G1 (kvs.map (·.2)) ks r/\∀ p:List Nat,p.Perm (List.range (kvs.map (·.2)).length)->(p.map r).Pairwise (·<=·)->Q (.fl (p.map fun i=>(kvs.map (·.2)).getD i .non)) G1
  | _=>False
 | _=>False
theorem Eh{K:PySem.W.Frag}{H:Hp}{kvs:List (List aM×D)}{xs:List (List aM×MU×MV)}(r:pR K H kvs xs):∃ vs,RDs K H (kvs.map (·.2)) vs/\Vals vs (xs.map (·.2.2)):=by
 unfold pR at r
 induction r with
 | nil=>exact⟨[],RDs.nil,.nil⟩
 | cons h _ ih=>
  obtain⟨_,_,v,h1,h2⟩:=h;obtain⟨vs,a,b⟩:=ih;exact⟨v::vs,RDs.cons h1 a,.cons h2 b⟩
theorem GD{X:Cx}{k:Nat}{f:Str}{sp:df}{o:Np}{to:bJ}{p0 apos cpos np VY pos:Pos}(F:Fn3 X.prog X.w X.K X.mg X.base k f [] sp)(hr:Room (k+2) X.A)(hc:X.calm=true)(hgf:Gl X f)(hg:Gl X "sorted")(hm:X.mg "sorted"=none)(ho:PE X o (aJ X.K to))
  (Ui:Op o "values" X.env (eval o X.env)=eval o X.env:=by rfl) (Uh:(apos.endLine == cpos.line)=true:=by rfl) (hdf:(f == ("__debug__":Str))=false:=by decide):
  PE X (.Call (.Name "sorted" p0) [.Call (.Attribute o "values" apos) [] [] cpos] [⟨some "key",.Name f np,VY⟩] pos) (aJ X.K (Bt sp to)):=by
 obtain⟨fa,fd,ps,dv,dvs,ok,hmf,_,hb,hv0,hd0⟩:=F.ex;have e0:dvs=[]:=(hd0 (fun _=>none)).inv_nil;subst e0;cases hv0;have hu:=hr.units
 rintro pins s τ H Q I ⟨σ,G,Q3,rs,rg,h,kf⟩
 refine OZ (kM I hg hm (u:=.builtin "sorted") (by decide +kernel) ?_ (by decide) (by decide))
 refine callWith_kw (id:="sorted") ?_;show M5 _ _ (spliced [(false,eval (.Call (.Attribute o "values" apos) [] [] cpos) X.env)]) _ _ _
 refine OF (wpAny_Call_method0_late Ui Uh (cY (eU ho I rs rg h) fun ov s1 zz=>?_));obtain⟨ox,H1,I1,rox,x,G1,q1,k1,rg1,rd1⟩:=zz;split at q1
 ·rename_i a hx;rw[hx]at rd1;simp only[RD]at rd1;subst rd1;cases rox;split at q1
  ·rename_i hw kvs hga;obtain⟨ks,r,sb,q1⟩:=q1;obtain⟨hob,eo,ro⟩:=rg1 a _ hga;cases hob with
   | ext φ=>
    obtain⟨xs,rfl,rt,nd,hz⟩:=ro;obtain⟨hsm,o1,es,ep,g1,g2,g3,g4⟩:=(show ce X.prog X.w H1 s1.heap a (.ext (yP hw a xs))from I1.hok a _ eo).1
    obtain⟨vs,rv,wv⟩:=Eh rt;have dr:oj s1.heap a (xs.map (·.2.2)) ep:=⟨o1,es,g1,g2,g3,by rw[g4,Nr];rfl⟩
    refine⟨"dict","dict.values",PySem.F.plainAttrs_dict,PySem.F.slot_dict_values,PySem.F.type_dict_values,dr.ty,fun b e=>?_,?_⟩
    ·cases e;exact⟨o1,g1,g2.2.1⟩
    ·refine P0 rfl (PySem.evalArgs_none (QA PySem.F.slot_dict_values dr.ty PySem.F.entry_dict_values (PySem.F.args_dict_values_1 _) (AY hsm) ⟨⟨_,ep,dr⟩,?_⟩));refine Pa ?_;have I2:L2.Inv X pins τ H1 { s1 with heap:=s1.heap.push { cls:=.type "dict_values",data:=.fields #[.ref a] } }:=I1.kept (t':=s1.toks) fun b u e=>M0 _ e
     show M5 _ _ (evalAll [(do let v <- eval (.Name f np) X.env;Pq pos;pure v)]) _ _ _
     refine wpAny_evalAll_cons (MT (su I2 hgf hmf (MT (Qm (MX (wpAny_evalAll_nil ?_)))) hdf));show M5 _ _ (call (.builtin "sorted") [.ref s1.heap.objs.size] [(MZ "key",.ref fa)]) _ _ _
     refine AM ok hb hr sb (by walk_at "o") (I.ok.hd hc) I2 rg1 (ep:=ep) ⟨_,M6 _ rfl,rfl,rfl⟩ (dr.stay fun b e=>M0 _ e) rv wv fun p D0 H' s' hp hs I' kp' rg' n0 e' rd'=>?_
     exact⟨.ref D0,H',I',rfl,kf _ G1 _ H' (q1 p hp hs) (k1.trans kp') rg' (.inl ⟨_,D0,_,rfl,rfl,e',rg1.free n0,rd',k1.fr (sy n0)⟩)⟩
   | _=>exact ro.elim
  ·exact q1.elim
 ·exact q1.elim
def KS(te:bJ):bJ:=fun σ G Q=>te σ G fun x G1=>match yJ G1 (val x) with
 | some ds=>Q (.fl ds.reverse) G1
 | none=>False
def JB(to:bJ):bJ:=fun σ G Q=>to σ G fun x G1=>match x with
 | .ref a=>match G1 a with
  | some (.lst _)=>Q .non (gset G1 a (.lst []))
  | _=>False
 | _=>False
def Kr{α:Type}(xs:List α)(lo hi st:Option Int):List α:=
 (RI (Oy lo hi st xs.length).1 (Oy lo hi st xs.length).2.1 (Oy lo hi st xs.length).2.2).filterMap (xs[·]?)
def KQ(te:bJ)(tl th ts:JT):bJ:=fun σ G Q=>te σ G fun x G1=>tl σ G1 fun l G2=>th σ G2 fun u G3=>ts σ G3 fun st G4=>st≠some 0/\match yJ G4 (val x) with
 | some ds=>Q (.fl (Kr ds l u st)) G4
 | none=>False
def kQ(K:PySem.W.Frag)(mg:Str->Option MV)(x:Str)(d:D):Prop:=∃ u v,mg x=some u/\aN v u/\∀ H,RD K H d v
theorem eV{X:Cx}{x:Str}{d:D}{pos:Pos}(hg:Gl X x)(h:kQ X.K X.mg x d)(hd:(x == ("__debug__":Str))=false:=by decide):PE X (.Name x pos) (aJ X.K (eC d)):=by
 obtain⟨u,v,hm,r,rd⟩:=h;exact B2 hg hm r rd hd
theorem Dz{K:PySem.W.Frag}{mg:Str->Option MV}{x:Str}{ds:List D}{vs:List V}{its:Array MV}{a:MU}{n:Nat}{sl:Array (Option MV)}(hm:mg x=some (.ref a))(hl:K.lookup a=some ⟨.type "tuple",none,.seq its n,sl⟩)
  (hz:its.size<=M4) (w:Vals vs its.toList) (r:∀ H,RDs K H ds vs):kQ K mg x (.tup ds):=
 ⟨.ref a,.ref a,hm,rfl,fun H=>qi (.inr ⟨_,its,n,hl,⟨rfl,rfl⟩,rfl,hz,w⟩) (r H)⟩
end L3
namespace L2
open PySem PySem.Spec PyProof.Rows
theorem Inv.turnedL{X:Cx}{pins:List (MU×Obj)}{σ:St}{H:Hp}{s:MW}{h':No}{t':Nat}{fp:List MU}(I:Inv X pins σ H s)(k:∀ b o,b∉fp->s.heap.get? b=some o->h'.get? b=some o)(hf:∀ b∈fp,qW X pins H b):
  Inv X pins σ H { s with heap:=h',toks:=t' }:=by
 have nit:∀ b u,H b=some u->b∉fp:=fun b u e z=>by rw[(hf b z).1]at e;cases e
 have hL:X.env.locals∉fp:=fun z=>(hf _ z).2.1 rfl;refine I.step (g':=s.gens) (d':=s.drawn) (ch:=fp) (fun b hb=>⟨(hf b hb).2.2.2.1,(hf b hb).2.1,(hf b hb).2.2.2.2.1,(hf b hb).2.2.2.2.2⟩) (fun b o _ _ hc e _=>k b o hc e) (fun b o _ _ hc e _=>⟨o.slots,k b o hc e⟩) (fun _ _ _ _ n=>n)
  (fun b o hc e=>⟨o,k b o hc e⟩) (fun _ _ e=>e) (fun _ _ _ e=>e) (fun b ps e=>⟨#[],by rw[e];simp⟩) (fun m hm=>?_) (fun b u e=>?_) I.bare
 ·obtain⟨o,es,ep,ho,r⟩:=hm;exact⟨o,es,ep,k _ o hL ho,r⟩
 ·refine (I.hok b u e).stay (fun c v hc q=>k c v ?_ q) (fun _ q=>q) fun _ _ q=>q;rcases hc with z|z
  ·rw[z];exact nit b u e
  ·exact nit c _ z
end L2
namespace L3
open PySem PySem.Spec PyProof.Rows L2
def ib(a b:String):Bool:=(a == b) || ((a == "bool") && (b == "int"))
def jf(b:String):Prop:=b="int"\/b="bool"\/b="str"\/b="tuple"\/b="list"
def Mg:Cv:=fun ds G Q=>match ds with
 | [d,.ty T]=>jf T/\∃ T',yc G d=some T'/\Q (.bl (ib T' T)) G
 | _=>False
def Cq:Cv:=fun ds G Q=>match ds with
 | [.bl b]=>Q (.int (if b then 1 else 0)) G
 | _=>False
theorem JP{X:Cx}:d4 X (.type "int") (mn X.K Cq):=by
 rintro pins s σ H vs us Q I rv ⟨ds,G,Q3,rds,rg,h,kk⟩
 unfold Cq at h;split at h
 ·rename_i b;obtain⟨v,rfl,h1⟩:=gn rds;simp only[RD]at h1;subst h1;obtain⟨u,rfl,ru⟩:=sG rv;cases ru;exact call_int_bool ⟨.int _,H,I.tok _,⟨_,rfl⟩,kk _ G _ H h Kp.refl rg (.of eT)⟩
 ·exact h.elim
theorem DD:On "int"=some (.type "int"):=by kernel_rfl
theorem qR{K:PySem.W.Frag}{mg:Str->Option MV}{x z:Str}{t:Tok}(hm:mg x=some (.str z t)):kQ K mg x (.str z):=⟨.str z t,.str z,hm,⟨t,rfl⟩,fun _=>kB⟩
end L3
namespace L2
open PySem PySem.Spec PyProof.Rows
end L2
namespace L3
open PySem PySem.Spec PyProof.Rows L2
section
variable{X:Cx}{a b c d:Np}{ta tb tc td:bJ}{pos:Pos}{r r' r2:R3}
def Kb(r r' r2:R3)(ta tb tc td:bJ):pP:=fun σ G Q=>ta σ G fun x G1=>tb σ G1 fun y G2=>r x y G2 fun z G3=>match z with
 | .bl k=>if k=true then tc σ G3 fun w G4=>r' y w G4 fun z5 G5=>match z5 with
   | .bl k5=>if k5=true then td σ G5 fun w6 G6=>r2 w w6 G6 fun z7 G7=>match z7 with
     | .bl k7=>Q k7 G7
     | _=>False
    else Q false G5
   | _=>False
  else Q false G3
 | _=>False
end
def Lo(a:MU)(g:uO)(tb:cj)(E:Ends3)(σ:gv)(ds:List D)(G1:Gp):Prop:=∃ Pv:Nat->gv->Gp->Prop,Pv 0 σ G1/\(∀ i σ' G',Pv i σ' G'->G' a=some (.lst ds))/\
 (∀ (i:Nat) d σ' G',ds[i]?=some d->Pv i σ' G'->g d σ' G' fun σ2 G2=>tb { E with nx:=Pv (i+1),ct:=Pv (i+1),bk:=E.nx } σ2 G2)/\∀ σ' G',Pv ds.length σ' G'->E.nx σ' G'
def Ed(te:bJ)(g:uO)(tb:cj):cj:=fun E σ G=>te σ G fun d G1=>match d with
 | .ref a=>∃ ds,G1 a=some (.lst ds)/\Lo a g tb E σ ds G1
 | d=>match fN d with
  | some ds=>ForIn g tb E σ ds G1
  | none=>False
section
variable{X:Cx}{tg e:Np}{te:bJ}
theorem BX(h:PE X e (aJ X.K te)):PI X tg e (fun τ H R=>∃ σ G Q3,RS X.K H σ τ/\RG X.K H G/\te σ G Q3/\∀ d G1 H1,Q3 d G1->Kp G H G1 H1->RG X.K H1 G1->match d with
  | .ref a=>(∃ ds,G1 a=some (.lst ds))/\R (Ln X.K a) H1
  | d=>∃ ds,fN d=some ds/\∀ J,yM X.K G1 H1 ds J->R J H1):=by
 intro pins s τ H R I hq;obtain⟨σ,G,Q3,rs,rg,hq,k⟩:=hq;refine cY (d9 h pins s τ H (fun v H1=>∃ d G1,Kp G H G1 H1/\RG X.K H1 G1/\RD X.K H1 (val d) v/\Q3 d G1) I ⟨σ,G,_,rs,rg,hq,fun d G' v H' q k' rg' rd=>⟨d,G',k',rg',rd,q⟩⟩) fun u s1 zz=>?_;obtain⟨v,H1,I1,r1,d,G1,k1,rg1,rd,q⟩:=zz;have kk:=k d G1 H1 q k1 rg1;have seq:∀ {a:MU} {xs:List V} {ds:List D},FN X.K H1 a xs->RDs X.K H1 ds xs->(∀ J,yM X.K G1 H1 ds J->R J H1)->M5 (M9 X.prog X.w) X.A (Pu (.ref a)) (Ib X pins τ tg R) X.xe s1:=fun f r q=>qI I1 f.sq (q _ (Cf rg1 f r));cases d with
 | ref a=>
  simp only[val,RD]at rd;subst rd;cases r1;obtain⟨⟨ds,hg⟩,kr⟩:=kk;obtain⟨xs,e1,r⟩:=t3 rg1 hg;exact qI I1 (kP.of e1) kr
 | lst ds=>
  simp only[val,RD]at rd;obtain⟨a,xs,rfl,f,r⟩:=rd;cases r1;obtain⟨ds',e,kr⟩:=kk;cases e;exact seq f r kr
 | fl ds=>
  simp only[val,RD]at rd;obtain⟨a,xs,rfl,f,r⟩:=rd;cases r1;obtain⟨ds',e,kr⟩:=kk;cases e;exact seq f r kr
 | tup ds=>
  simp only[val,RD]at rd;obtain⟨a,xs,rfl,f,r⟩:=rd;cases r1;obtain⟨ds',e,kr⟩:=kk;cases e;exact zX I1 f (kr _ (Fg rg1 f r))
 | str z=>
  simp only[val,RD]at rd;subst rd;obtain⟨t,rfl⟩:=r1;obtain⟨ds',e,kr⟩:=kk;cases e;refine zY I1 (kr _ (Ce fun H'=>?_));have:signs z=(z.cps.toList.map fun c=>(⟨#[c]⟩:Str)).map D.str:=by simp[signs]
  rw[this];have e2:dQ z=(z.cps.toList.map fun c=>(⟨#[c]⟩:Str)).map V.str:=by simp[dQ]
  rw[e2];exact RDs.strs _
 | _=>
  obtain⟨ds',e,_⟩:=kk;cases e
end
theorem IC{X:Cx}{tg iter:Np}{body:List Nu}{te:bJ}{g:uO}{tb:cj}{pos:Pos}(hp:Qj (M9 X.prog X.w) X.A X.env X.xe)(hc:X.calm=true)(hi:PE X iter (aJ X.K te))(hg:PG X tg (jN X.K g))(hb:rF X body (cL X.K tb))
  (hs:∀ x,NZ iter X.env x=pure x:=by intro _;rfl):PS X (.For tg iter body [] pos) (cL X.K (Ed te g tb)):=
 (EI hp hc (BX hi) hg hb hs).imp fun Dd τ H zz=>by
 obtain⟨σ,G,D3,rs,rg,h,k⟩:=zz;exact (
  ⟨σ,G,_,rs,rg,h,fun d G1 H1 q k1 rg1=>by
    have core:∀ (ds:List D) (J:It) (Pv:Nat->gv->Gp->Prop),Pv 0 σ G1->
      (∀ i σ' G' H',Pv i σ' G'->Kp G1 H1 G' H'->RG X.K H' G'->(i < ds.length->J.go i H'/\∀ x H2,J.yld i H' x H2->Kp G' H' G' H2/\RG X.K H2 G'/\∃ d,ds[i]?=some d/\RD X.K H2 d x)/\(i=ds.length->J.stop i H'))->
      (∀ (i:Nat) d σ' G',ds[i]?=some d->Pv i σ' G'->g d σ' G' fun σ2 G2=>tb { D3 with nx:=Pv (i+1),ct:=Pv (i+1),bk:=D3.nx } σ2 G2)->(∀ σ' G',Pv ds.length σ' G'->D3.nx σ' G')->
      ∃ W:Nat->Nat->St->Hp->Prop,(∃ m,W 0 m τ H1)/\∀ i m σ H,W i m σ H->
       (J.stop i H/\Dd.nx σ H)\/(J.go i H/\∃ N:St->Hp->Prop,(∀ σ' H',N σ' H'->∃ m',m' < m/\W (i+1) m' σ' H')/\∀ x H',J.yld i H x H'->jN X.K g x σ H' fun σ2 H2=>cL X.K tb { Dd with nx:=N,ct:=N,bk:=Dd.nx } σ2 H2):=by
     intro ds J Pv p0 it step fin;refine⟨fun i m τ' H'=>m=ds.length - i/\i<=ds.length/\∃ σ' G',RS X.K H' σ' τ'/\RG X.K H' G'/\Pv i σ' G'/\Kp G1 H1 G' H',⟨ds.length,rfl,NI _,σ,G1,rs.mono (k1.stb rg),rg1,p0,Kp.refl⟩,?_⟩
     rintro i m τ' H' ⟨rfl,hi',σ',G',rs',rg',pv,k'⟩
     obtain⟨hgo,hstop⟩:=it i σ' G' H' pv k' rg'
     by_cases hlt:i < ds.length
     ·obtain⟨go,yld⟩:=hgo hlt;refine .inr ⟨go,fun τ2 H2=>∃ σ2 G2,RS X.K H2 σ2 τ2/\RG X.K H2 G2/\Pv (i+1) σ2 G2/\Kp G1 H1 G2 H2,fun τ2 H2 ⟨σ2,G2,a,b,c,d⟩=>⟨ds.length - (i+1),by walk_at "o",rfl,hlt,σ2,G2,a,b,c,d⟩,fun x H2 y=>?_⟩
      obtain⟨ky,rgy,d,hd,rd⟩:=yld x H2 y;refine⟨d,σ',G',_,rd,rs'.mono (ky.stb rg'),rgy,step i d σ' G' hd pv,fun σ3 G3 τ3 H3 q3 k3 rg3 rs3=>?_⟩;have kk:Kp G1 H1 G3 H3:=k'.trans (ky.trans k3);have kG:Kp G H G3 H3:=k1.trans kk;refine⟨σ3,G3,_,rs3,rg3,q3,⟨fun σ4 G4 τ4 H4 q4 k4 rg4 rs4=>⟨σ4,G4,rs4,rg4,q4,kk.trans k4⟩,k.rt.base kG,fun σ4 G4 τ4 H4 q4 k4=>k.nx σ4 G4 τ4 H4 q4 (kG.trans k4),fun σ4 G4 τ4 H4 q4 k4 rg4 rs4=>⟨σ4,G4,rs4,rg4,q4,kk.trans k4⟩⟩⟩
     ·have e:i=ds.length:=by walk_at "o"
      refine .inl ⟨hstop e,k.nx σ' G' τ' H' (fin σ' G' (by rw[<- e];exact pv)) (k1.trans k') rg' rs'⟩
    cases d with
    | ref a=>
     obtain⟨ds,hg,Pv,p0,live,step,fin⟩:=q;refine⟨⟨ds,hg⟩,core ds _ Pv p0 (fun i σ' G' H' pv k' rg'=>?_) step fin⟩;obtain⟨xs,e1,r⟩:=t3 rg' (live i σ' G' pv);have hl:=r.length;refine⟨fun hi=>⟨⟨xs,xs[i]'(by walk_at "o"),kP.of e1,by simp[show i < xs.length by walk_at "o"]⟩,fun x H2 y=>?_⟩,fun e=>⟨xs,kP.of e1,by walk_at "o"⟩⟩
     obtain⟨rfl,hx⟩:=y;refine⟨Kp.refl,rg',ds[i],by simp[hi],?_⟩
     obtain⟨y,e,q⟩:=r.get (i:=i) (d:=ds[i]) (by simp[hi])
     rw[hx xs (kP.of e1)]at e;cases e;exact q
    | lst ds=>
     obtain⟨Pv,p0,step,fin⟩:=q;exact⟨_,rfl,fun J it=>core _ J Pv p0 (fun i σ' G' H' _ k' rg'=>it i G' H' k' rg') step fin⟩
    | fl ds=>
     obtain⟨Pv,p0,step,fin⟩:=q;exact⟨_,rfl,fun J it=>core _ J Pv p0 (fun i σ' G' H' _ k' rg'=>it i G' H' k' rg') step fin⟩
    | tup ds=>
     obtain⟨Pv,p0,step,fin⟩:=q;exact⟨_,rfl,fun J it=>core _ J Pv p0 (fun i σ' G' H' _ k' rg'=>it i G' H' k' rg') step fin⟩
    | str z=>
     obtain⟨Pv,p0,step,fin⟩:=q;exact⟨_,rfl,fun J it=>core _ J Pv p0 (fun i σ' G' H' _ k' rg'=>it i G' H' k' rg') step fin⟩
    | _=>exact q.elim⟩)
def AS(c:pP)(tb:cj):cj:=fun E σ G=>∃ W:Nat->gv->Gp->Prop,(∃ m,W m σ G)/\∀ m σ' G',W m σ' G'->
 c σ' G' fun b G1=>if b=true then ∃ N:gv->Gp->Prop,(∀ σ2 G2,N σ2 G2->∃ m',m' < m/\W m' σ2 G2)/\tb { E with nx:=N,ct:=N,bk:=E.nx } σ' G1 else E.nx σ' G1
theorem Gi{X:Cx}{c:Np}{body:List Nu}{tc:pP}{tb:cj}{pos:Pos}(hp:Qj (M9 X.prog X.w) X.A X.env X.xe)(hc:PT X c (dY X.K tc))(hb:rF X body (cL X.K tb)):PS X (.While c body [] pos) (cL X.K (AS tc tb)):=
 (EE hp hc hb).imp fun D τ H ⟨σ,G,D3,rs,rg,⟨W,⟨m0,w0⟩,turn⟩,k⟩=>by
  refine⟨fun m τ' H'=>∃ σ' G',RS X.K H' σ' τ'/\RG X.K H' G'/\W m σ' G'/\Kp G H G' H',⟨m0,σ,G,rs,rg,w0,Kp.refl⟩,?_⟩
  rintro m τ' H' ⟨σ',G',rs',rg',w',k'⟩
  refine⟨σ',G',_,rs',rg',turn m σ' G' w',fun b G1 H1 q k1 rg1=>?_⟩;cases b with
  | true=>
   rw[if_pos rfl]at q ⊢;obtain⟨N,hN,q⟩:=q;refine⟨fun τ2 H2=>∃ σ2 G2,RS X.K H2 σ2 τ2/\RG X.K H2 G2/\N σ2 G2/\Kp G H G2 H2,fun τ2 H2 ⟨σ2,G2,a,b,n,d⟩=>?_,?_⟩
   ·obtain⟨m',hm,w2⟩:=hN σ2 G2 n;exact⟨m',hm,σ2,G2,a,b,w2,d⟩
   ·have kG:=k'.trans k1;exact⟨σ',G1,_,rs'.mono (k1.stb rg'),rg1,q,⟨fun σ4 G4 τ4 H4 q4 k4 rg4 rs4=>⟨σ4,G4,rs4,rg4,q4,kG.trans k4⟩,k.rt.base kG,fun σ4 G4 τ4 H4 q4 k4=>k.nx σ4 G4 τ4 H4 q4 (kG.trans k4),fun σ4 G4 τ4 H4 q4 k4 rg4 rs4=>⟨σ4,G4,rs4,rg4,q4,kG.trans k4⟩⟩⟩
  | false=>
   rw[if_neg Bool.false_ne_true]at q ⊢;exact k.nx σ' G1 τ' H1 q (k'.trans k1) rg1 (rs'.mono (k1.stb rg'))
theorem Jr:jf "int"=True:=eq_true (by unfold jf;simp)
theorem Ac:ib "int" "int"=true:=by decide
theorem yj:ib "int" "bool"=false:=by decide
theorem Ab:ib "int" "str"=false:=by decide
theorem vY:ib "int" "tuple"=false:=by decide
theorem yi:ib "int" "list"=false:=by decide
theorem G_:jf "bool"=True:=eq_true (by unfold jf;simp)
theorem yl:ib "bool" "int"=true:=by decide
theorem v0:ib "bool" "bool"=true:=by decide
theorem yk:ib "bool" "str"=false:=by decide
theorem um:ib "bool" "tuple"=false:=by decide
theorem vZ:ib "bool" "list"=false:=by decide
theorem Jq:jf "str"=True:=eq_true (by unfold jf;simp)
theorem Aa:ib "str" "int"=false:=by decide
theorem yf:ib "str" "bool"=false:=by decide
theorem z_:ib "str" "str"=true:=by decide
theorem vV:ib "str" "tuple"=false:=by decide
theorem ye:ib "str" "list"=false:=by decide
theorem Ff:jf "tuple"=True:=eq_true (by unfold jf;simp)
theorem vU:ib "tuple" "int"=false:=by decide
theorem uk:ib "tuple" "bool"=false:=by decide
theorem vT:ib "tuple" "str"=false:=by decide
theorem se:ib "tuple" "tuple"=true:=by decide
theorem uj:ib "tuple" "list"=false:=by decide
theorem GZ:jf "list"=True:=eq_true (by unfold jf;simp)
theorem yh:ib "list" "int"=false:=by decide
theorem vX:ib "list" "bool"=false:=by decide
theorem yg:ib "list" "str"=false:=by decide
theorem ul:ib "list" "tuple"=false:=by decide
theorem vW:ib "list" "list"=true:=by decide
def gy:List Str->List D->Str->Option D
 | g::L,d::ds,f=>if g=f then some d else gy L ds f
 | _,_,_=>none
def jG(L:List Str)(f:Str):List Str:=match L with
 | []=>[f]
 | g::r=>if g=f then g::r else g::jG r f
def i9:List Str->List D->Str->D->List D
 | g::L,x::ds,f,d=>if g=f then d::ds else x::i9 L ds f d
 | _,_,_,d=>[d]
section
variable{K:PySem.W.Frag}{H:Hp}
theorem uB:∀ {gs:List (Str×V)} {ds:List D} {f:Str} {d:D},RDs K H ds (gs.map (·.2))->gy (gs.map (·.1)) ds f=some d->∃ v,gs.lookup f=some v/\RD K H d v
 | [],ds,f,d,r,e=>by simp[gy]at e
 | (g,u)::t,ds,f,d,r,e=>by
  cases ds with
  | nil=>simp[gy]at e
  | cons x ds=>
   obtain⟨y,q,e1,h1,h2⟩:=r.inv_cons;rw[Nk,List.cons.injEq]at e1;obtain⟨rfl,e1⟩:=e1;simp only[Nk,gy]at e;split at e
   ·rename_i hg;cases e;subst hg;exact⟨u,by rw[Oe,beq_self_eq_true],h1⟩
   ·rename_i hg;obtain⟨v,e2,h3⟩:=uB (gs:=t) (by rw[e1];exact h2) e
    exact⟨v,by rw[Oe,show (f == g)=false by simpa using Ne.symm hg];exact e2,h3⟩
theorem zm:∀ {gs:List (Str×V)} {f:Str} {v:V},(gg f v gs).map (·.1)=jG (gs.map (·.1)) f
 | [],f,v=>rfl
 | (g,u)::t,f,v=>by
  simp only[gg,Nk,jG];split
  ·rename_i hg;simp[hg]
  ·simp[zm (gs:=t)]
theorem zn:∀ {gs:List (Str×V)} {ds:List D} {f:Str} {v:V} {d:D},RDs K H ds (gs.map (·.2))->RD K H d v->RDs K H (i9 (gs.map (·.1)) ds f d) ((gg f v gs).map (·.2))
 | [],ds,f,v,d,r,h=>by
  have:i9 ([]:List Str) ds f d=[d]:=by unfold i9;rfl
  exact RDs.cons h RDs.nil
 | (g,u)::t,ds,f,v,d,r,h=>by
  cases ds with
  | nil=>exact absurd r.length (by simp)
  | cons x ds=>
   obtain⟨y,q,e1,h1,h2⟩:=r.inv_cons;rw[Nk,List.cons.injEq]at e1;obtain⟨rfl,e1⟩:=e1;simp only[gg,Nk,i9];split
   ·rename_i hg;subst e1;exact RDs.cons h h2
   ·exact RDs.cons h1 (zn (gs:=t) (by rw[e1];exact h2) h)
end
def bM(cs:List MU)(f:Str)(to:bJ):bJ:=fun σ G Q=>to σ G fun x G1=>match x with
 | .ref a=>match G1 a with
  | some (.ins C L ds)=>C∈cs/\match gy L ds f with
   | some d=>Q d G1
   | none=>False
  | _=>False
 | _=>False
def jE(cs:List MU)(f:Str)(to tv:bJ):cj:=fun D σ G=>tv σ G fun d G1=>to σ G1 fun x G2=>match x with
 | .ref a=>match G2 a with
  | some (.ins C L ds)=>(C∈cs/\L.length < 1000)/\D.nx σ (gset G2 a (.ins C (jG L f) (i9 L ds f (val d))))
  | _=>False
 | _=>False
def fy(cs:List (MU×df))(m:Str)(dds:List D)(to:bJ)(ta:pQ):bJ:=fun σ G Q=>to σ G fun x G1=>match x with
 | .ref a=>match G1 a with
  | some (.ins C L _)=>m∉L/\∃ sp,(C,sp)∈cs/\ta σ G1 fun ds G2=>sp (.ref a::(ds ++ dds)) G2 Q
  | _=>False
 | _=>False
section
variable{X:Cx}{o e:Np}{es:List Np}{to te:bJ}{t:pQ}{pos apos:Pos}{k:Nat}{m:Str}{dds:List D}{sp:df}
theorem bV{f:Str}{cs:List MU}(tab:∀ C∈cs,Cls X.K C/\db X.K C f)(ho:PE X o (aJ X.K to))(hb:Op o f X.env (eval o X.env)=eval o X.env:=by rfl):PE X (.Attribute o f pos) (aJ X.K (bM cs f to)):=
 (ER ho hb).imp fun τ H Q zz=>by
 obtain⟨σ,G,Q3,rs,rg,h,kk⟩:=zz;exact (
  ⟨σ,G,_,rs,rg,h,fun d G1 v H1 q k1 rg1 re=>by
    cases d with
    | ref a=>
     dsimp only at q;split at q
     ·rename_i C L ds hg;obtain⟨hc,q⟩:=q;split at q
      ·rename_i d hd;obtain⟨ho,e1,ro⟩:=rg1 a _ hg;cases ho with
       | ins C2 dx gs=>
        obtain⟨rfl,r2,r3⟩:=ro;subst r2;obtain⟨w,hw,rd⟩:=uB r3 hd;exact⟨a,_,dx,gs,w,re.ref,e1,(tab _ hc).1,(tab _ hc).2,hw,kk _ G1 _ H1 q k1 rg1 (.of rd)⟩
       | _=>exact ro.elim
      ·exact q.elim
     ·exact q.elim
    | _=>exact q.elim⟩)
theorem i8{f:Str}{cs:List MU}{pos':Pos}(tab:∀ C∈cs,Cls X.K C/\db X.K C f)(ho:PE X o (aJ X.K to))(hv:PE X e (aJ X.K te))(hs:OP e (some (.Attribute o f pos')) pos.line X.env=pure false:=by rfl):
  PS X (.Assign [.Attribute o f pos'] e pos) (cL X.K (jE cs f to te)):=
 (A4 ho (d9 hv) hs).imp fun Dd τ H zz=>by
 obtain⟨σ,G,D3,rs,rg,h,kk⟩:=zz;exact (
  ⟨σ,G,_,rs,rg,h,fun d G1 v H1 q1 k1 rg1 rd=>⟨σ,G1,_,rs.mono (k1.stb rg),rg1,q1,fun x G2 u H2 q2 k2 rg2 re=>by
    cases x with
    | ref a=>
     dsimp only at q2;split at q2
     ·rename_i C L ds hg;obtain⟨⟨hc,hl⟩,q2⟩:=q2;obtain⟨ho,e1,ro⟩:=rg2 a _ hg;cases ho with
      | ins C2 dx gs=>
       obtain⟨rfl,r2,r3⟩:=ro;subst r2;have rd2:=RD.mono (k2.stb rg1) _ _ rd;obtain⟨kp,rg3⟩:=A3 (gs':=gg f v gs) (L':=jG (gs.map (·.1)) f) (ds':=i9 (gs.map (·.1)) ds f (val d)) rg2 e1 zm (zn r3 rd2) (by rw[hg];exact fun z=>nomatch z)
       exact⟨a,_,dx,gs,re.ref,e1,(tab _ hc).1,(tab _ hc).2,by simpa using hl,kk.nx _ _ _ _ q2 ((k1.trans k2).trans kp) rg3 (rs.mono ((((k1.trans k2).trans kp)).stb rg))⟩
      | _=>exact ro.elim
     ·exact q2.elim
    | _=>exact q2.elim⟩⟩)
theorem hZ{pl:Sem Bool}{cs:List (MU×df)}(tab:∀ c∈cs,∃ k',k'<=k/\Mt3 X.prog X.w X.K X.mg X.base k' c.1 m dds c.2)(hr:Room k X.A)(ho:PE X o (aJ X.K to))
  (ht:eval (.Call (.Attribute o m apos) [] [] pos) X.env=(do
   let ov <- eval o X.env
   Pq apos.atName
   let (f,first) <- holding [ov] (Pt ov m pl)
   QB pos f first (N9 pos (M_ [] X.env)) (Pl pos (Oz [] X.env))):=by rfl):
  PE X (.Call (.Attribute o m apos) [] [] pos) (aJ X.K (fy cs m dds to av)):=by
 rintro pins s τ H Q I ⟨σ,G,Q3,rs,rg,h,kk⟩
 refine PL (pl:=pl) (cY (eU ho I rs rg h) fun u s1 zz=>?_) ht;obtain⟨x,H1,I1,rx,d,G1,q,k1,rg1,rd⟩:=zz;cases d with
 | ref a=>
  simp only[val,RD]at rd;subst rd;obtain rfl:u=Value.ref a:=rx;dsimp only at q;split at q
  ·rename_i C L ds hg;obtain⟨hL,sp,hc,q⟩:=q;obtain⟨k',hk,F⟩:=tab _ hc;obtain⟨f,fd,ps,ds',dvs,ok,hm,hb,hv,hd⟩:=F.ex;obtain⟨ho,e1,ro⟩:=rg1 a _ hg;cases ho with
   | ins C2 dx gs=>
    obtain⟨rfl,r2,r3⟩:=ro;refine n6 I1 e1 F.cl hm (qy (K:=X.K) r2 hL) ?_;exact PySem.W.callWith_K0 (first:=[.ref a]) I1.kIn hm.kp (sV (us:=[.ref a]) (vs:=[.ref a]) ok (hr.mono hk) hb hv wp I1 (.cons rfl .nil) ⟨.ref a::([] ++ dds),G1,Q3,RDs.cons iu (hd H1),rg1,q,kk.base k1⟩)
   | _=>exact ro.elim
  ·exact q.elim
 | _=>exact q.elim
structure Cf3(P:Nf)(w:Nn)(K:PySem.W.Frag)(mg:Str->Option MV)(base:No)(k:Nat)(x m:Str)(dds:List D)(sp:df):Prop where
 ex:∃ C f fd ps ds dvs,FnOk P w K mg base dE k f fd ps (ax K sp)/\mg x=some (.ref C)/\PySem.W.specialIn K (.ref C) "__getattribute__"=some (some (.builtin "type.__getattribute__"))/\PySem.W.readsIn K C (.type "type")=true/\
  PySem.W.findCls K (.ref C) (.type "type") m=some (.val (.ref f))/\PySem.W.keepIn K (.ref f)=true/\fW K fd ps ds/\Vals dvs ds/\∀ H,RDs K H dds dvs
theorem mG{pl:Sem Bool}{x:Str}{p:Pos}(F:Cf3 X.prog X.w X.K X.mg X.base k x m dds sp)(hr:Room k X.A)(hg:Gl X x)(ha:PA X (e::es) (fC X.K t))(hdb:(x == ("__debug__":Str))=false:=by decide)
  (hst:M_ (e::es) X.env=(false,eval e X.env)::M_ es X.env:=by rfl) (hpl:(N9 pos (M_ es X.env)).any (·.1)=false:=by rfl)
  (ht:eval (.Call (.Attribute (.Name x p) m apos) (e::es) [] pos) X.env=(do
   let ov <- eval (.Name x p) X.env
   Pq apos.atName
   let (f,first) <- holding [ov] (Pt ov m pl)
   QB pos f first (N9 pos (M_ (e::es) X.env)) (Pl pos (Oz [] X.env))):=by rfl):
  PE X (.Call (.Attribute (.Name x p) m apos) (e::es) [] pos) (aJ X.K (aT sp dds t)):=by
 obtain⟨C,f,fd,ps,ds,dvs,ok,hm,hga,hrd,hfc,hk,hb,hv,hd⟩:=F.ex;intro pins s τ H Q I h;refine PL (pl:=pl) (cY (BY (v:=.ref C) hg hm rfl hdb pins s τ H (fun v H1=>v=.ref C/\H1=H) I ⟨rfl,rfl⟩) fun u s1 zz=>?_) ht;obtain⟨v,H1,I1,rx,e1,e2⟩:=zz;subst e1 e2;obtain rfl:u=Value.ref C:=rx;refine PySem.W.method_cls I1.kIn hga (PySem.W.cls_value I1.kIn hrd hfc rfl ?_);have I2:=I1.tok (s1.toks+1);obtain⟨σ,G,Q3,rs,rg,h,kk⟩:=h;refine Qt (first:=[]) (h₀:=X.base) I.ok.mod.kin hk (cY (ha pos pins _ τ H1 (fun vs H2=>∃ ds G1,sp (ds ++ dds) G1 Q3/\Kp G H1 G1 H2/\RG X.K H2 G1/\RDs X.K H2 ds vs) I2 ⟨σ,G,_,rs,rg,h,fun ds G1 vs H2 q k1 rg1 rds=>⟨ds,G1,q,k1,rg1,rds⟩⟩) fun us s2 ⟨vs,H2,I3,r,ds1,G1,q2,k1,rg1,rds⟩=>⟨I3.kIn,?_⟩) hst hpl
 exact sV (us:=us) (vs:=vs) ok hr hb hv wp I3 r ⟨ds1 ++ dds,G1,Q3,rds.append (hd _),rg1,q2,kk.base k1⟩
end
end L3
theorem L3.all_cons{α:Type}{p:α->Prop}{a:α}{l:List α}(h:p a)(t:∀ x∈l,p x):∀ x∈a::l,p x:=fun x hx=>by
 rcases NH.mp hx with rfl|hx
 ·exact h
 ·exact t x hx
namespace L3
open PySem PySem.Spec PyProof.Rows L2 PySem.SeqAt PySem.W
def uo:D->Bool
 | .non=>true
 | _=>false
def L0:R3:=fun x y G Q=>match y with
 | .non=>Q (.bl (uo x)) G
 | _=>False
def zA:R3:=fun x y G Q=>match y with
 | .non=>Q (.bl (!uo x)) G
 | _=>False
section
variable{X:Cx}
theorem Ep{K:PySem.W.Frag}{G0 G:Gp}{H0 H:Hp}{x:D}{v:V}{u:MV}(r:RE K G0 H0 G H x v)(l:aN v u):(u == Value.none)=uo x:=by
 cases x with
 | non=>rw[r.non]at l;cases l;rfl
 | fl ds=>
  obtain⟨p,xs,rfl,_⟩:=r.fl;cases l;rfl
 | lst ds=>
  obtain⟨a,xs,rfl,_⟩:=r.lst;cases l;rfl
 | tup ds=>
  obtain⟨a,xs,rfl,_⟩:=r.tup;cases l;rfl
 | int i=>rw[r.int]at l;obtain⟨t,rfl⟩:=l;rfl
 | str i=>rw[r.str]at l;obtain⟨t,rfl⟩:=l;rfl
 | bl i=>rw[r.bl]at l;cases l;rfl
 | ref a=>rw[r.ref]at l;cases l;rfl
 | ty T=>
  have:=r.rd (by intro ds z;cases z)
  simp only[RD]at this;subst this;cases l;rfl
theorem Ig:iS X (NA .IsNot) (dM X.K zA):=by
 rintro pins s σ H v u v' u' Q I rv ru ⟨x,y,G0,H0,G,Q3,rx,ry,rg,h,k⟩
 unfold zA at h;split at h
 ·rw[ry.non]at ru;cases ru;refine isnot_none_gen ?_;rw[Ep rx rv];exact⟨.bl _,H,I,rfl,k _ G _ H h Kp.refl rg (.of iB)⟩
 ·exact h.elim
end
section
variable{X:Cx}{o i:Np}{to ti:bJ}{pos:Pos}
theorem A7(hu:X.A.units+8 < NM)(hi:PE X i (aJ X.K ti))(ho:PE X o (aJ X.K to))(hm:NQ .In o=false:=by rfl):PT X (.Compare i [.In] [o] pos) (dY X.K (eK (yw (ah X.prog X.w) ti to))):=by
 refine (EB (op:=.In) (t:=aJ X.K (yw (ah X.prog X.w) ti to)) (fun pins s τ H Q I ⟨σ,G,Q3,rs,rg,h,k⟩=>?_) hm).imp fun τ H Q h=>wS h;refine cY (eU hi I rs rg h) fun iv s1 zz=>?_;obtain⟨iy,H1,I1,riy,y,G1,q1,k1,rg1,rd1⟩:=zz;refine cY (eU ho I1 (rs.mono (k1.stb rg)) rg1 q1) fun ov s2 zz=>?_;obtain⟨ox,H2,I2,rox,x,G2,q2,k2,rg2,rd2⟩:=zz;obtain⟨r,l,q2⟩:=q2;exact H_ (by walk_at "o") I2 rg2 l rd2 rox (RD.mono (k2.stb rg1) _ _ rd1) riy fun s3 I3=>⟨.bl r.isSome,H2,I3,rfl,k _ G2 _ H2 q2 (k1.trans k2) rg2 (.of iB)⟩
theorem wq(hu:X.A.units+8 < NM)(hi:PE X i (aJ X.K ti))(ho:PE X o (aJ X.K to))(hm:NQ .NotIn o=false:=by rfl):PT X (.Compare i [.NotIn] [o] pos) (dY X.K (eK (mP (ah X.prog X.w) ti to))):=by
 refine (EB (op:=.NotIn) (t:=aJ X.K (mP (ah X.prog X.w) ti to)) (fun pins s τ H Q I ⟨σ,G,Q3,rs,rg,h,k⟩=>?_) hm).imp fun τ H Q h=>wS h;refine cY (eU hi I rs rg h) fun iv s1 zz=>?_;obtain⟨iy,H1,I1,riy,y,G1,q1,k1,rg1,rd1⟩:=zz;refine cY (eU ho I1 (rs.mono (k1.stb rg)) rg1 q1) fun ov s2 zz=>?_;obtain⟨ox,H2,I2,rox,x,G2,q2,k2,rg2,rd2⟩:=zz;obtain⟨r,l,q2⟩:=q2;exact Fy (by walk_at "o") I2 rg2 l rd2 rox (RD.mono (k2.stb rg1) _ _ rd1) riy fun s3 I3=>⟨.bl (!r.isSome),H2,I3,rfl,k _ G2 _ H2 q2 (k1.trans k2) rg2 (.of iB)⟩
end
def Bw(hw:List aM->Int)(tk tv:bJ):bJ:=fun σ G Q=>∀ p,G p=none->tk σ (gset G p (.dT hw [])) fun x G1=>tv σ G1 fun y G2=>match G2 p with
 | some (.dT hw' [])=>hw'=hw/\∃ ks,pA (val x)=some ks/\Q (.ref p) (gset G2 p (.dT hw [(ks,val y)]))
 | _=>False
section
variable{X:Cx}{pos:Pos}
theorem GG{k v:Np}{tk tv:bJ}(hu:X.A.units+8 < NM)(hk:PE X k (aJ X.K tk))(hv:PE X v (aJ X.K tv)):PE X (.Dict [some k] [v] pos) (aJ X.K (Bw (ah X.prog X.w) tk tv)):=fun pins s τ H Q I zz=>by
 obtain⟨σ,G,Q3,rs,rg,h,kk⟩:=zz;have hf:H s.heap.objs.size=none:=I.hok.fresh (le_refl _);obtain⟨kp,rg2⟩:=Hd (o:=.dT (ah X.prog X.w) []) (ho:=.ext (yP (ah X.prog X.w) s.heap.objs.size [])) rg hf fun H' _=>⟨[],rfl,.nil,QG,NI _⟩;have hd:(s.heap.objs.size == NK)=false:=beq_eq_false_iff_ne.mpr (Ne.symm (NB I.big));have I1:=I.laid (a:=s.heap.objs.size) (t':=s.toks) (fun _ _ q=>M0 _ q) (le_refl _) (qQ (P:=X.prog) (w:=X.w) (hw:=ah X.prog X.w) (xs:=[]) ⟨hd,_,#[],0,M6 (h:=s.heap) (o:={ cls:=.type "dict",data:=.dict #[] }) rfl,⟨rfl,rfl,rfl⟩,rfl,rfl⟩);refine wpAny_Dict_any (by rfl) (by rfl) (by simp) (by simp) ?_
 refine pairTrees_cons_walk (cY (eU hk I1 (rs.mono (kp.stb rg)) rg2 (h _ (rg.free hf))) fun kv s1 zz=>?_);obtain⟨ox,H1,I2,rox,x,G1,q1,k1,rg1,rd1⟩:=zz;refine cY (eU hv I2 (rs.mono ((kp.trans k1).stb rg)) rg1 q1) fun vv s2 zz=>?_;obtain⟨oy,H2,I3,roy,y,G2,q2,k2,rgb,rd2⟩:=zz;refine pairTrees_nil_walk ?_;unfold storeAll;rw[O1];split at q2
 ·rename_i hw' hg;obtain⟨rfl,ks,hks,q2⟩:=q2;have VU:=RD.mono (k2.stb rg1) _ _ rd1;obtain⟨b,rfl,sq⟩:=sv hks VU;cases rox;obtain⟨ho,e,r⟩:=rgb _ _ hg;cases ho with
  | ext φ=>
   obtain⟨xs,rfl,rt,nd,_⟩:=r;have e0:xs=[]:=by
    have:=rt.length;exact List.length_eq_zero_iff.mp this.symm
   subst e0;obtain⟨hd2,dd⟩:=yx I3 e rt nd;refine MT (MT (RA (hsz:=NI _) (show X.A.units < NM by walk_at "o") (key_at I3 sq) dd fun h' dd' hs=>MX ?_))
   dsimp only;rw[PP];refine MX ?_;obtain⟨q,es,ep,hq,h2,h3,h4,_,h5⟩:=dd';obtain⟨kp3,rg3⟩:=yn (a:=s.heap.objs.size) (o:=.dT (ah X.prog X.w) (bH [] ks (val y))) (ho:=.ext (yP (ah X.prog X.w) s.heap.objs.size (Qg [] ks b vv))) rgb (by rw[hg];exact fun z=>nomatch z)
    fun H' st=>⟨_,rfl,(rt.put ks sq rd2 roy).mono st,nK ks (val y) nd,by have:=fT ([]:List (List aM×D)) ks (val y);have hs:=ai;simp only[NG]at this;omega⟩
   exact⟨.ref _,_,sC I3 (by rw[e];exact True.intro) hs ⟨q,hq⟩ (qQ ⟨hd2,q,es,ep,hq,h2,h3,h4⟩),rfl,kk _ _ _ _ q2 (kp.trans (k1.trans (k2.trans kp3))) rg3 (.of iu)⟩
  | _=>exact r.elim
 ·exact q2.elim
end
def Fi(x:D):List D->Nat
 | []=>0
 | d::r=>if fE d x then 0 else Fi x r+1
def JA(to:bJ)(ta:pQ):bJ:=fun σ G Q=>to σ G fun x G1=>match x with
 | .lst ds=>ta σ G1 fun es G2=>match es with
  | [y]=>(pl 7 y/\(∀ d∈ds,pl 7 d)/\y∈ds)/\Q (.int (Fi y ds)) G2
  | _=>False
 | _=>False
def Jz(sp:df)(to:bJ):bJ:=fun σ G Q=>to σ G fun x G1=>match yJ G1 (val x) with
 | some ds=>∃ ks r,SortBy sp G1 ds ks r/\∀ p:List Nat,p.Perm (List.range ds.length)->(p.map r).Pairwise (·<=·)->Q (.fl (p.map fun i=>ds.getD i .non)) G1
 | none=>False
section
variable{X:Cx}{pins:List (MU×Obj)}{τ:St}{H H0:Hp}{s:MW}{G:Gp}{E:MV->MW->Prop}
 {k:Nat} {f:MU} {fd:M7} {ps:List Str} {sp:df} {ds ks:List D} {r:Nat->Nat} {vs:List V} {us:List MV}
end
def tm(c:Bool):Nat:=if c then 31 else 7
def Tb(c:Bool)(pl:Array Nat)(led plain:Bool):SetTable:={ mask:=tm c,place:=pl,dummies:=#[],finger:=0,led:=led,moves:=if c then 1 else 0,plain:=plain }
abbrev Pb:=SetTable.Probe
def fm(m i:Nat):Nat:=(i*5+1) % (m+1)
def look(c:Bool)(pl:Array Nat)(hs:Nat->Int)(same:Nat->Bool)(h:Int):Nat->Pb->Option (Option Nat)
 | 0,_=>none
 | f+1,p=>match (Tb c pl false false).probe hs h p with
  | none=>none
  | some (.empty j _)=>some (some j)
  | some (.candidate _ i next)=>if same i then some none else look c pl hs same h f next
def MB(es:Array (Int×MV))(ep:Nat)(t:SetTable):Obj:={ cls:=.type "set",dict:=none,data:=.set es ep t }
section
variable{prog:Nf}{w:Nn}{κ:Type}[DecidableEq κ]{kn:KeyKind prog w κ}{A:Nh}{E:MV->MW->Prop}{s:MW}{a b:MU}
abbrev hK(kn:KeyKind prog w κ):List κ->Int:=tupleKeyHash kn
def MH(kn:KeyKind prog w κ)(xs:List (List κ×MU)):Array (Int×MV):=(xs.map fun x=>(hK kn x.1,Value.ref x.2)).toArray
end
set_option maxRecDepth 100000
def MQ(first:MV)(i n ep:Nat)(S:MU):Obj:={ cls:=.type "set_iterator",data:=.fields #[first,.int i 0,.ref S,.int n 0,.int ep 0] }
set_option maxRecDepth 100000
set_option maxRecDepth 100000
set_option maxRecDepth 100000
def MF(a b:Str×Int):Bool:=if a.1=b.1 then decide (a.2 < b.2)else decide (a.1.cps.toList < b.1.cps.toList)
def Srt(l:List (Str×Int)):Prop:=l.Pairwise fun a b=>MF b a=false
structure InsAsk(K:PySem.W.Frag)(C:MU):Prop where
 cl:Cls K C
 ca:PySem.W.findIn K (.ref C) "__class__"=some (some (.builtin "object.__class__"))
 gs:PySem.W.specialIn K (.builtin "object.__class__") "__get__"=some (some (.builtin "getset_descriptor.__get__"))
 tk:RW K (.builtin "object.__class__")=some true
 mo:Q0 K C (.type "object")=some true
def yG(cs:List (MU×Bool))(c:MU):Cv:=fun ds G Q=>match ds with
 | [.ref a,.ref c']=>c'=c/\match G a with
  | some (.ins C _ _)=>∃ b,(C,b)∈cs/\Q (.bl b) G
  | _=>False
 | _=>False
theorem xD{X:Cx}{nm:Str}{C:MU}{pos:Pos}(hg:Gl X nm)(hm:X.mg nm=some (.ref C))(hd:(nm == ("__debug__":Str))=false:=by decide):PE X (.Name nm pos) (aJ X.K (eC (.ref C))):=B2 (v:=.ref C) hg hm rfl (fun _=>by simp only[RD]) hd
theorem Cp{X:Cx}{cs:List (MU×Bool)}{c:MU}(tab:∀ p∈cs,InsAsk X.K p.1/\Oa X.K (.ref p.1) (.ref c)=some p.2):d4 X (.builtin "isinstance") (mn X.K (yG cs c)):=by
 rintro pins s σ H vs us Q I rv ⟨ds,G,Q3,rds,rg,h,kk⟩
 unfold yG at h;split at h
 ·rename_i a c';obtain⟨rfl,h⟩:=h;split at h
  ·rename_i C L es hg;obtain⟨b,hb,hq⟩:=h;obtain⟨v,t,e,h1,h2⟩:=rds.inv_cons;obtain⟨u2,e2,h3⟩:=gn h2;simp only[RD]at h1 h3;subst e e2 h1 h3;obtain⟨u,w',rfl,ru,rw'⟩:=DW rv;cases ru;cases rw';obtain⟨ho,e1,ro⟩:=rg a _ hg;cases ho with
   | ins C2 dx gs=>
    obtain⟨rfl,r2,r3⟩:=ro;obtain⟨t1,t2⟩:=tab _ hb;exact Dl (x:=V.ref a) I rfl (TyOf.ins e1 t1.cl t1.ca t1.gs t1.tk t1.mo) t2 fun tk=>⟨.bl _,H,I.tok tk,rfl,kk _ G _ H hq Kp.refl rg (.of iB)⟩
   | _=>exact ro.elim
  ·exact h.elim
 ·exact h.elim
end L3
namespace RQ
open PySem PySem.Spec PyProof.Rows L2 L3
structure Rw where
 pen:Str
 num:Int
 time:Int
 act:D
instance:Inhabited Rw:=⟨⟨"",0,0,.non⟩⟩
def Rw.d(r:Rw):D:=.tup [.tup [.str r.pen,.int r.num],.int r.time,r.act]
def Rw.key(r:Rw):D:=.tup [.int r.time,.tup [.str r.pen,.int r.num]]
def Rw.ok(r:Rw):Prop:=pl 4 r.act
def Rw.lt(a b:Rw):Bool:=if a.time=b.time then (if a.pen=b.pen then decide (a.num < b.num)else decide (a.pen.cps.toList < b.pen.cps.toList))else decide (a.time < b.time)
def fR(rs:List Rw):Prop:=rs.Pairwise fun a b=>a.lt b=true
def mB(a b:Rw):Prop:=¬ (a.pen=b.pen/\a.num=b.num)
def mT(rs:List Rw):Prop:=∀ a∈rs,∀ b∈rs,a.pen=b.pen->a.num=b.num->a=b
abbrev HW:=List aM->Int
open PySem.W (SWO STO vG zF B7 Cb t5 rankIn rank_lt)
theorem yA:STO (fun a b:List Nat=>decide (a < b)):=by
 have e:(fun a b:List Nat=>decide (a < b))=vG zF:=by funext a b;exact (t5 a b).symm
 rw[e];exact Cb B7
theorem Ho{x y:Str}(h:x.cps.toList=y.cps.toList):x=y:=by
 cases x;cases y;simp only at h;rw[Array.toList_inj.mp h]
theorem lt_irrefl(a:Rw):a.lt a=false:=by simp[Rw.lt]
theorem lt_trans(a b c:Rw)(h1:a.lt b=true)(h2:b.lt c=true):a.lt c=true:=by
 unfold Rw.lt at *
 by_cases e1:a.time=b.time
 ·rw[if_pos e1]at h1
  by_cases e2:b.time=c.time
  ·rw[if_pos e2]at h2;rw[if_pos (e1.trans e2)]
   by_cases p1:a.pen=b.pen
   ·rw[if_pos p1]at h1
    by_cases p2:b.pen=c.pen
    ·rw[if_pos p2]at h2;rw[if_pos (p1.trans p2)];simp only[decide_eq_true_eq]at *
     omega
    ·rw[if_neg p2]at h2;rw[p1,if_neg p2];exact h2
   ·rw[if_neg p1]at h1
    by_cases p2:b.pen=c.pen
    ·rw[<- p2,if_neg p1];exact h1
    ·rw[if_neg p2]at h2;have h3:=yA.trans _ _ _ h1 h2;rw[if_neg (fun e=>by rw[e,yA.irrefl]at h3;cases h3)]
     exact h3
  ·rw[if_neg e2]at h2;rw[e1,if_neg e2];exact h2
 ·rw[if_neg e1]at h1
  by_cases e2:b.time=c.time
  ·rw[<- e2,if_neg e1];exact h1
  ·rw[if_neg e2]at h2;simp only[decide_eq_true_eq]at *
   rw[if_neg (by walk_at "o")]
   simp only[decide_eq_true_eq];omega
theorem E9(a b:Rw)(h1:a.lt b=false)(h2:b.lt a=false):a.pen=b.pen/\a.num=b.num/\a.time=b.time:=by
 unfold Rw.lt at *
 by_cases e1:a.time=b.time
 ·rw[if_pos e1]at h1;rw[if_pos e1.symm]at h2
  by_cases p1:a.pen=b.pen
  ·rw[if_pos p1]at h1;rw[if_pos p1.symm]at h2;simp only[decide_eq_false_iff_not]at *
   exact⟨p1,by walk_at "o",e1⟩
  ·rw[if_neg p1]at h1;rw[if_neg (Ne.symm p1)]at h2;exact absurd (Ho (yA.tot _ _ h1 h2)) p1
 ·rw[if_neg e1]at h1;rw[if_neg (Ne.symm e1)]at h2;simp only[decide_eq_false_iff_not]at *
  omega
theorem E_{a b:Rw}(h:a.lt b=true):b.lt a=false:=by
 cases e:b.lt a with
 | false=>rfl
 | true=>have:=lt_trans _ _ _ h e;rw[lt_irrefl]at this;cases this
theorem GT{a b c:Rw}(p:a.pen=b.pen)(n:a.num=b.num)(t:a.time=b.time):a.lt c=b.lt c/\c.lt a=c.lt b:=by
 unfold Rw.lt;rw[p,n,t];exact⟨rfl,rfl⟩
theorem Ef:SWO Rw.lt where
 irrefl:=lt_irrefl
 trans:=lt_trans
 neg:=fun a b c h=>by
  cases e:a.lt b with
  | true=>exact .inl rfl
  | false=>
   cases e2:b.lt c with
   | true=>exact .inr rfl
   | false=>
    cases e3:b.lt a with
    | true=>have:=lt_trans _ _ _ e3 h;rw[e2]at this;cases this
    | false=>
     obtain⟨p,n,t⟩:=E9 a b e e3;rw[(GT (c:=c) p n t).1,e2]at h;cases h
theorem jr:∀ {xs ys:List Rw},fR xs->fR ys->(∀ r,r∈xs↔r∈ys)->xs=ys
 | [],ys,_,_,h=>by
  cases ys with
  | nil=>rfl
  | cons y t=>have:=(h y).mpr M8;simp at this
 | x::xs,[],_,_,h=>by have:=(h x).mp M8;simp at this
 | x::xs,y::ys,h1,h2,h=>by
  unfold fR at h1 h2;rw[List.pairwise_cons]at h1 h2;have hxy:x=y:=by
   rcases NH.mp ((h x).mp M8)with e|m1
   ·exact e
   ·rcases NH.mp ((h y).mpr M8)with e|m2
    ·exact e.symm
    ·have a1:=h2.1 x m1;have a2:=h1.1 y m2;rw[E_ a1]at a2;cases a2
  subst hxy;have nx:x∉xs:=fun m=>by have:=h1.1 x m;rw[lt_irrefl]at this;cases this
  have ny:x∉ys:=fun m=>by have:=h2.1 x m;rw[lt_irrefl]at this;cases this
  rw[jr h1.2 h2.2 fun r=>⟨fun m=>?_,fun m=>?_⟩]
  ·rcases NH.mp ((h r).mp (M3 _ m))with e|m'
   ·subst e;exact absurd m nx
   ·exact m'
  ·rcases NH.mp ((h r).mpr (M3 _ m))with e|m'
   ·subst e;exact absurd m ny
   ·exact m'
theorem fY{xs:List Rw}(h:fR xs):xs.Nodup:=List.Pairwise.imp (fun {a b} q e=>by subst e;rw[lt_irrefl]at q;cases q) h
theorem rE{xs:List Rw}(h:xs.Pairwise mB):xs.Nodup:=List.Pairwise.imp (fun {a b} q e=>by subst e;exact q ⟨rfl,rfl⟩) h
open Classical in
theorem h_:∀ {xs ys:List Rw},xs.Nodup->(∀ r∈xs,r∈ys)->xs.length<=ys.length
 | [],_,_,_=>NI _
 | x::xs,ys,h,s=>by
  rw[Oo]at h;have hx:=s x M8;have:=h_ (ys:=ys.erase x) h.2 fun r hr=>(List.mem_erase_of_ne (fun e=>by subst e;exact h.1 hr)).mpr (s r (M3 _ hr))
  rw[List.length_erase_of_mem hx]at this;have hp:0 < ys.length:=List.length_pos_of_mem hx;rw[Ni];omega
theorem qT{rs:List Rw}(h:rs.Pairwise mB):mT rs:=by
 induction h with
 | nil=>intro a ha;simp at ha
 | @cons x xs h1 h2 ih=>
  intro a ha b hb p n;rcases NH.mp ha with e|ha
  ·rcases NH.mp hb with e'|hb
   ·rw[e,e']
   ·rw[e]at p n;exact absurd ⟨p,n⟩ (h1 b hb)
  ·rcases NH.mp hb with e|hb
   ·rw[e]at p n;exact absurd ⟨p.symm,n.symm⟩ (h1 a ha)
   ·exact ih a ha b hb p n
theorem Jm(a b:Rw):m4 4 a.key b.key=a.lt b:=by
 show eL (m4 3) [.int a.time,.tup [.str a.pen,.int a.num]] [.int b.time,.tup [.str b.pen,.int b.num]]=_
 unfold Rw.lt
 by_cases e:a.time=b.time
 ·rw[if_pos e];have h1:fE (.int a.time) (.int b.time)=true:=by rw[e];exact bX _
  rw[show eL (m4 3) [.int a.time,.tup [.str a.pen,.int a.num]] [.int b.time,.tup [.str b.pen,.int b.num]]=eL (m4 3) [.tup [.str a.pen,.int a.num]] [.tup [.str b.pen,.int b.num]]by simp[eL,h1]]
  have inner:m4 3 (.tup [.str a.pen,.int a.num]) (.tup [.str b.pen,.int b.num])=if a.pen=b.pen then decide (a.num < b.num)else decide (a.pen.cps.toList < b.pen.cps.toList):=by
   show eL (m4 2) [.str a.pen,.int a.num] [.str b.pen,.int b.num]=_
   by_cases p:a.pen=b.pen
   ·have h2:fE (.str a.pen) (.str b.pen)=true:=by rw[p];exact bX _
    rw[if_pos p]
    by_cases n:a.num=b.num
    ·have h3:fE (.int a.num) (.int b.num)=true:=by rw[n];exact bX _
     simp[eL,h2,n,bX]
    ·have h3:fE (.int a.num) (.int b.num)=false:=cb (by simpa using n)
     simp[eL,h2,h3,m4]
   ·have h2:fE (.str a.pen) (.str b.pen)=false:=cb (by simpa using p)
    rw[if_neg p];simp[eL,h2,m4]
  by_cases t:(D.tup [.str a.pen,.int a.num])=.tup [.str b.pen,.int b.num]
  ·have h2:=Fv t;simp only[D.tup.injEq,List.cons.injEq,D.str.injEq,D.int.injEq,and_true]at t;simp[eL,t.1,t.2,bX]
  ·rw[<- inner];simp[eL,cb t]
 ·rw[if_neg e];have h1:fE (.int a.time) (.int b.time)=false:=cb (by simpa using e)
  simp[eL,h1,m4]
theorem Jp(a b:Rw):Fz 4 a.key b.key:=by
 refine⟨⟨trivial,trivial⟩,fun _=>trivial,⟨fun d hd=>?_,fun d hd=>?_⟩,fun _=>?_,trivial⟩
 ·simp only[NH,N4,or_false]at hd;rcases hd with rfl|rfl<;>trivial
 ·simp only[NH,N4,or_false]at hd;rcases hd with rfl|rfl<;>trivial
 ·exact⟨⟨trivial,trivial⟩,fun _=>trivial,⟨trivial,trivial⟩,fun _=>trivial,trivial⟩
def rf(r:Rw):List aM:=[.inr r.pen,.inl r.num]
def qF(r:Rw):List aM×D:=(rf r,r.d)
theorem wu{a b:Rw}:rf a=rf b↔a.pen=b.pen/\a.num=b.num:=by
 simp[rf]
theorem IF{vs:List Rw}{r:Rw}(h:r∈vs)(o:∀ a∈vs,a.pen=r.pen->a.num=r.num->a=r):bH (vs.map qF) (rf r) r.d=vs.map qF:=by
 unfold bH;rw[if_pos (by rw[List.any_eq_true];exact⟨qF r,List.mem_map_of_mem h,decide_eq_true rfl⟩),Nr]
 refine NL fun a ha=>?_;simp only[Function.comp_apply];split
 ·rename_i e;obtain⟨p,n⟩:=wu.mp e;have:=o a ha p n;subst this;rfl
 ·rfl
theorem put_new{vs:List Rw}{r:Rw}(h:∀ a∈vs,mB a r):bH (vs.map qF) (rf r) r.d=(vs ++ [r]).map qF:=by
 unfold bH;rw[if_neg]
 ·rw[Nv];rfl
 ·rw[Bool.not_eq_true,List.any_eq_false];intro kv hkv;obtain⟨a,ha,rfl⟩:=mem_map.mp hkv;simp only[decide_eq_true_eq];intro e;exact h a ha (wu.mp e)
theorem D9{vs:List Rw}(hv:vs.Pairwise mB){p:List Nat}(hp:p.Perm (List.range vs.length))(hs:(p.map fun i=>rankIn Rw.lt vs (vs.getD i default)).Pairwise (·<=·)):
  fR (p.map fun i=>vs.getD i default)/\∀ r,r∈(p.map fun i=>vs.getD i default)↔r∈vs:=by
 have inr:∀ i∈p,i < vs.length:=fun i hi=>mem_range.mp (hp.mem_iff.mp hi);have gm:∀ i,i < vs.length->vs.getD i default∈vs:=fun i hi=>by rw[Nl,M1 hi];exact O4 hi
 constructor
 ·unfold fR;rw[Pr]at hs ⊢;have nd:p.Nodup:=hp.nodup_iff.mpr List.nodup_range;refine (hs.and nd).imp_of_mem fun {i j} hi hj h=>?_;have li:=inr i hi;have lj:=inr j hj;have nlt:(vs.getD j default).lt (vs.getD i default)=false:=by
   rw[rank_lt Ef (gm j lj),decide_eq_false_iff_not,Nat.not_lt];exact h.1
  cases e:(vs.getD i default).lt (vs.getD j default) with
  | true=>rfl
  | false=>
   obtain⟨pp,nn,_⟩:=E9 _ _ e nlt;have ap:mB (vs.getD i default) (vs.getD j default):=by
    rw[Nl,Nl,M1 li,M1 lj];rcases Nat.lt_or_gt_of_ne h.2 with l|l
    ·exact List.pairwise_iff_getElem.mp hv i j li lj l
    ·exact fun z=>List.pairwise_iff_getElem.mp hv j i lj li l ⟨z.1.symm,z.2.symm⟩
   exact absurd ⟨pp,nn⟩ ap
 ·intro r;have e:((List.range vs.length).map fun i=>vs.getD i default)=vs:=L3.range_getD vs default;have q:=hp.map fun i=>vs.getD i default;rw[e]at q;exact q.mem_iff
theorem gu{κ:Type}[DecidableEq κ](k k':κ)(v:D):∀ kvs:List (κ×D),c7 (bH kvs k v) k'=if k'=k then some v else c7 kvs k':=by
 have go:∀ kvs:List (κ×D),(kvs.any fun kv=>decide (kv.1=k))=true->c7 (kvs.map fun kv=>if kv.1=k then (kv.1,v)else kv) k'=if k'=k then some v else c7 kvs k':=by
  intro kvs
  induction kvs with
  | nil=>intro h;simp at h
  | cons p r ih=>
   intro h
   by_cases e:p.1=k
   ·by_cases e':k'=k
    ·rw[if_pos e'];simp[c7,Nz,e,e']
    ·rw[if_neg e'];have n1:¬ k=k':=fun z=>e' z.symm;have skip:∀ q:List (κ×D),c7 (((p.1,v):κ×D)::q) k'=c7 q k':=fun q=>by simp[c7,Nz,e,n1]
     have VE:c7 (p::r) k'=c7 r k':=by simp[c7,Nz,e,n1]
     rw[Nk,if_pos e,skip,VE]
     by_cases hr:(r.any fun kv=>decide (kv.1=k))=true
     ·have:=ih hr;rw[if_neg e']at this;exact this
     ·have:r.map (fun kv=>if kv.1=k then (kv.1,v)else kv)=r:=by
       rw[Bool.not_eq_true,List.any_eq_false]at hr
       conv=>rhs;rw[<- List.map_id r]
       refine NL fun a ha=>?_;have:=hr a ha;simp only[decide_eq_true_eq]at this;rw[if_neg this];rfl
      rw[this]
   ·have hr:(r.any fun kv=>decide (kv.1=k))=true:=by simpa[e]using h
    rw[Nk,if_neg e]
    by_cases e2:p.1=k'
    ·have n1:¬ k'=k:=fun z=>e (e2.trans z);rw[if_neg n1];simp[c7,Nz,e2]
    ·have s1:∀ q:List (κ×D),c7 (p::q) k'=c7 q k':=fun q=>by simp[c7,Nz,e2]
     rw[s1,s1];exact ih hr
 intro kvs;unfold bH
 by_cases h:(kvs.any fun kv=>decide (kv.1=k))=true
 ·rw[if_pos h];exact go kvs h
 ·rw[if_neg h]
  by_cases e':k'=k
  ·rw[if_pos e'];subst e';have hn:c7 kvs k'=none:=by
    have:=pK k' kvs;rw[Bool.not_eq_true]at h;rw[h]at this;cases q:c7 kvs k' with
    | none=>rfl
    | some _=>rw[q]at this;cases this
   unfold c7 at hn ⊢;rw[List.find?_append];cases q:kvs.find? fun kv=>decide (kv.1=k') with
   | none=>simp
   | some z=>rw[q]at hn;cases hn
  ·rw[if_neg e'];unfold c7;rw[List.find?_append];cases q:kvs.find? fun kv=>decide (kv.1=k') with
   | none=>simp;exact fun z=>e' z.symm
   | some z=>rfl
set_option genInjectivity false in
structure Sl where
 pen:Str
 n:Int
 k:Int
deriving DecidableEq
instance:Inhabited Sl:=⟨⟨"",0,0⟩⟩
def Sl.d(s:Sl):D:=.tup [.str s.pen,.int s.n,.int s.k]
def Sl.key(s:Sl):List aM:=[.inr s.pen,.inl s.n,.inl s.k]
theorem Sl.key_inj{a b:Sl}(h:a.key=b.key):a=b:=by
 obtain⟨a1,a2,a3⟩:=a;obtain⟨b1,b2,b3⟩:=b;simp only[Sl.key,List.cons.injEq,Sum.inr.injEq,Sum.inl.injEq,and_true]at h;obtain⟨rfl,rfl,rfl⟩:=h;rfl
theorem Sl.d_inj{a b:Sl}(h:a.d=b.d):a=b:=by
 obtain⟨a1,a2,a3⟩:=a;obtain⟨b1,b2,b3⟩:=b;simp only[Sl.d,D.tup.injEq,List.cons.injEq,D.str.injEq,D.int.injEq,and_true]at h;obtain⟨rfl,rfl,rfl⟩:=h;rfl
theorem yd(s:Sl):pA s.d=some s.key:=rfl
def ar:Sl:=⟨MZ "",0,0⟩
set_option genInjectivity false in
inductive Act where
 | put (a:Sl) (x:Str)
 | strike (ns:List Sl)
 | dress (ns:List Sl) (w:Str)
 | move (ns:List Sl) (a:Sl)
def Act.d:Act->D
 | .put a x=>.tup [.str "put",a.d,.str x]
 | .strike ns=>.tup [.str "strike",.tup (ns.map Sl.d)]
 | .dress ns w=>.tup [.str "dress",.tup (ns.map Sl.d),.str w]
 | .move ns a=>.tup [.str "move",.tup (ns.map Sl.d),a.d]
def Act.many:Act->Nat
 | .put _ x=>x.length
 | .move ns _=>ns.length
 | _=>0
def Act.anch:Act->Sl
 | .put a _=>a
 | .move _ a=>a
 | _=>ar
set_option genInjectivity false in
structure Sk where
 pen:Str
 num:Int
 time:Int
 act:Act
instance:Inhabited Sk:=⟨⟨"",0,0,.strike []⟩⟩
def Sk.rw(s:Sk):Rw:=⟨s.pen,s.num,s.time,s.act.d⟩
def Sk.d(s:Sk):D:=.tup [.tup [.str s.pen,.int s.num],.int s.time,s.act.d]
def Sk.ok(s:Sk):Prop:=1<=s.num/\s.act.many<=1000
def eW(pen:Str)(n:Int)(m:Nat):List Sl:=(List.range m).map fun (k:Nat)=>⟨pen,n,(k:Int)+1⟩
def made(s:Sk):List Sl:=eW s.pen s.num s.act.many
def c9(m:Nat):List Sl:=eW (MZ "") 0 m
theorem bz(p:Str)(n:Int)(m:Nat):(eW p n m).length=m:=by simp[eW]
theorem bI(p:Str)(n:Int)(m:Nat):(eW p n m).Nodup:=by
 unfold eW List.Nodup;rw[Pr];refine List.Pairwise.imp ?_ (List.nodup_range (n:=m));intro a b h e;injection e with e1 e2 e3
 exact h (by walk_at "o")
theorem dA{p:Str}{n:Int}{m:Nat}{x:Sl}(h:x∈eW p n m):x.pen=p/\x.n=n/\1<=x.k:=by
 unfold eW at h;obtain⟨k,_,rfl⟩:=mem_map.mp h;exact⟨rfl,rfl,by show 1<=(k:Int)+1;omega⟩
def DK:List Sl->D
 | []=>.non
 | s::_=>s.d
def nx:List Sl->Sl->D
 | [],_=>.non
 | a::t,c=>if a=c then DK t else nx t c
def jO:List Sl->Sl->Sl->List Sl
 | [],_,_=>[]
 | a::t,b,x=>if a=b then a::x::t else a::jO t b x
def bB:List Sl->Sl->List Sl->List Sl
 | W,_,[]=>W
 | W,b,x::t=>bB (jO W b x) x t
theorem eX{W:List Sl}{b x:Sl}(hb:b∈W):∀ c,c∈jO W b x↔c∈W\/c=x:=by
 induction W with
 | nil=>simp at hb
 | cons a t ih=>
  intro c;unfold jO
  by_cases e:a=b
  ·rw[if_pos e];simp only[NH];constructor
   ·rintro (h|h|h)
    ·exact .inl (.inl h)
    ·exact .inr h
    ·exact .inl (.inr h)
   ·rintro ((h|h)|h)
    ·exact .inl h
    ·exact .inr (.inr h)
    ·exact .inr (.inl h)
  ·rw[if_neg e];have hb':b∈t:=by
    rcases NH.mp hb with z|z
    ·exact absurd z.symm e
    ·exact z
   simp only[NH,ih hb' c];constructor
   ·rintro (h|h|h)
    ·exact .inl (.inl h)
    ·exact .inl (.inr h)
    ·exact .inr h
   ·rintro ((h|h)|h)
    ·exact .inl h
    ·exact .inr (.inl h)
    ·exact .inr (.inr h)
theorem ms{W:List Sl}{b x:Sl}(hb:b∈W):(jO W b x).length=W.length+1:=by
 induction W with
 | nil=>simp at hb
 | cons a t ih=>
  unfold jO
  by_cases e:a=b
  ·rw[if_pos e];simp
  ·rw[if_neg e];have hb':b∈t:=by
    rcases NH.mp hb with z|z
    ·exact absurd z.symm e
    ·exact z
   simp[ih hb']
theorem ut{W:List Sl}{b x:Sl}(hW:W.Nodup)(hx:x∉W)(hb:b∈W):(jO W b x).Nodup:=by
 induction W with
 | nil=>simp at hb
 | cons a t ih=>
  unfold jO;rw[Oo]at hW
  by_cases e:a=b
  ·rw[if_pos e,Oo,Oo];simp only[NH,not_or]at hx;refine⟨?_,hx.2,hW.2⟩;rw[NH,not_or];exact⟨Ne.symm hx.1,hW.1⟩
  ·rw[if_neg e];have hb':b∈t:=by
    rcases NH.mp hb with z|z
    ·exact absurd z.symm e
    ·exact z
   simp only[NH,not_or]at hx;rw[Oo];refine⟨fun z=>?_,ih hW.2 hx.2 hb'⟩;rcases (eX hb' a).mp z with z|z
   ·exact hW.1 z
   ·exact hx.1 z.symm
theorem Fh{W:List Sl}{b x:Sl}:DK (jO W b x)=DK W:=by
 cases W with
 | nil=>rfl
 | cons a t=>
  unfold jO;split<;>rfl
theorem Hc{W:List Sl}{b x:Sl}(hW:W.Nodup)(hx:x∉W)(hb:b∈W):∀ c,nx (jO W b x) c=if c=x then nx W b else if c=b then x.d else nx W c:=by
 induction W with
 | nil=>simp at hb
 | cons a t ih=>
  intro c;rw[Oo]at hW;simp only[NH,not_or]at hx;unfold jO
  by_cases e:a=b
  ·subst e;rw[if_pos rfl];simp only[nx]
   by_cases c1:c=x
   ·subst c1;rw[if_neg (Ne.symm hx.1),if_pos rfl,if_pos rfl];simp
   ·rw[if_neg c1]
    by_cases c2:c=a
    ·subst c2;simp[DK]
    ·rw[if_neg (Ne.symm c2),if_neg (fun z=>c1 z.symm),if_neg c2,if_neg (Ne.symm c2)]
  ·rw[if_neg e];have hb':b∈t:=by
    rcases NH.mp hb with z|z
    ·exact absurd z.symm e
    ·exact z
   simp only[nx];rw[Fh,ih hW.2 hx.2 hb' c]
   by_cases c0:a=c
   ·subst c0;rw[if_pos rfl,if_neg (fun z=>hx.1 z.symm),if_neg e,if_pos rfl]
   ·rw[if_neg c0,if_neg c0,if_neg e]
def DJ(kvs:List (List aM×D))(W:List Sl):Prop:=W.Nodup/\kvs.length=W.length/\(∀ s,s∉W->c7 kvs s.key=none)/\∀ s∈W,c7 kvs s.key=some (nx W s)
theorem tG{κ:Type}[DecidableEq κ]{kvs:List (κ×D)}{k:κ}{v:D}:(bH kvs k v).length=if (c7 kvs k).isSome=true then kvs.length else kvs.length+1:=by
 unfold bH;rw[pK];split<;>simp
theorem Fq{kvs:List (List aM×D)}{W:List Sl}{b x:Sl}(h:DJ kvs W)(hb:b∈W)(hx:x∉W):DJ (bH (bH kvs x.key (nx W b)) b.key x.d) (jO W b x):=by
 obtain⟨h1,h2,h3,h4⟩:=h;have hne:b≠x:=fun z=>hx (z ▸ hb);have at2:∀ c:Sl,c7 (bH (bH kvs x.key (nx W b)) b.key x.d) c.key=if c=b then some x.d else if c=x then some (nx W b)else c7 kvs c.key:=fun c=>by
  rw[gu,gu]
  by_cases e1:c=b
  ·subst e1;rw[if_pos rfl,if_pos rfl]
  ·rw[if_neg (fun z=>e1 (Sl.key_inj z)),if_neg e1]
   by_cases e2:c=x
   ·subst e2;rw[if_pos rfl,if_pos rfl]
   ·rw[if_neg (fun z=>e2 (Sl.key_inj z)),if_neg e2]
 refine⟨ut h1 hx hb,?_,fun c hc=>?_,fun c hc=>?_⟩
 ·rw[tG,tG,h3 x hx,gu,if_neg (fun z=>hne (Sl.key_inj z)),h4 b hb,ms hb,h2];simp
 ·have hc':c∉W/\c≠x:=⟨fun z=>hc ((eX hb c).mpr (.inl z)),fun z=>hc ((eX hb c).mpr (.inr z))⟩;rw[at2,if_neg (fun (z:c=b)=>hc'.1 (by rw[z];exact hb)),if_neg hc'.2]
  exact h3 c hc'.1
 ·rw[at2,Hc h1 hx hb]
  by_cases e1:c=b
  ·subst e1;rw[if_pos rfl,if_neg hne,if_pos rfl]
  ·rw[if_neg e1]
   by_cases e2:c=x
   ·rw[if_pos e2,if_pos e2]
   ·rw[if_neg e2,if_neg e2,if_neg e1];rcases (eX hb c).mp hc with z|z
    ·exact h4 c z
    ·exact absurd z e2
theorem Ds(v:List Sl->Prop):DJ [(ar.key,.non)] [ar]:=by
 refine⟨by simp,rfl,fun s hs=>?_,fun s hs=>?_⟩
 ·have:s≠ar:=by simpa using hs
  simp only[c7,Nz,List.find?_nil];rw[decide_eq_false (fun z=>this (Sl.key_inj z).symm)];rfl
 ·have:s=ar:=by simpa using hs
  subst this;simp[c7,nx,DK]
def cJ(W:List Sl)(s:Sk):List Sl:=if s.act.anch∈W then bB W s.act.anch (made s)else W
def mV(n:Nat)(out:List Sk):List Sl:=out.foldl cJ (bB [ar] ar (c9 n))
theorem nZ:∀ {ss W:List Sl} {b:Sl},b∈W->∀ c,c∈bB W b ss↔c∈W\/c∈ss
 | [],W,b,hb,c=>by simp[bB]
 | x::t,W,b,hb,c=>by
  unfold bB;rw[nZ (ss:=t) ((eX hb x).mpr (.inr rfl)) c,eX hb c,NH];constructor
  ·rintro ((h|h)|h)
   ·exact .inl h
   ·exact .inr (.inl h)
   ·exact .inr (.inr h)
  ·rintro (h|h|h)
   ·exact .inl (.inl h)
   ·exact .inl (.inr h)
   ·exact .inr h
theorem nh:∀ {ss W:List Sl} {b:Sl},b∈W->(bB W b ss).length=W.length+ss.length
 | [],W,b,hb=>by simp[bB]
 | x::t,W,b,hb=>by
  unfold bB;rw[nh (ss:=t) ((eX hb x).mpr (.inr rfl)),ms hb,Ni];omega
theorem Br{pre post:List Sl}{b x:Sl}(h:b∉pre):jO (pre ++ b::post) b x=pre ++ b::x::post:=by
 induction pre with
 | nil=>simp[jO]
 | cons a t ih=>
  simp only[NH,not_or]at h;simp only[OO,jO];rw[if_neg (Ne.symm h.1),ih h.2]
theorem iR:∀ {ss pre post:List Sl} {b:Sl},b∉pre->ss.Nodup->(∀ x∈ss,x∉pre/\x≠b)->bB (pre ++ b::post) b ss=pre ++ b::(ss ++ post)
 | [],pre,post,b,_,_,_=>by simp[bB]
 | x::t,pre,post,b,h,nd,hs=>by
  unfold bB;rw[Br h];rw[Oo]at nd;have hx:=hs x M8;have e:pre ++ b::x::post=(pre ++ [b]) ++ x::post:=by simp
  rw[e,iR (ss:=t) (pre:=pre ++ [b]) (post:=post) (b:=x) (by simp[hx.1,hx.2]) nd.2 (fun y hy=>?_)]
  ·simp
  ·have hy':=hs y (M3 _ hy);refine⟨by simp[hy'.1,hy'.2],fun z=>nd.1 (z ▸ hy)⟩
def BE(done:List Sk)(W:List Sl):Prop:=∀ x∈W,x.n=0\/∃ s∈done,x.pen=s.pen/\x.n=s.num
theorem Ai{done:List Sk}{W:List Sl}{s:Sk}(h:BE done W)(hs:1<=s.num)(ap:∀ r∈done,¬ (r.pen=s.pen/\r.num=s.num)):∀ x∈made s,x∉W:=fun x hx hW=>by
 obtain⟨p1,p2,_⟩:=dA hx;rcases h x hW with z|⟨r,hr,z1,z2⟩
 ·omega
 ·exact ap r hr ⟨z1.symm.trans p1,z2.symm.trans p2⟩
theorem Dr{done:List Sk}{W:List Sl}{s:Sk}(h:BE done W):BE (done ++ [s]) (cJ W s):=fun x hx=>by
 unfold cJ at hx;have up:x∈W->x.n=0\/∃ r∈done ++ [s],x.pen=r.pen/\x.n=r.num:=fun z=>by
  rcases h x z with q|⟨r,hr,q⟩
  ·exact .inl q
  ·exact .inr ⟨r,OG _ hr,q⟩
 split at hx
 ·rename_i ha;rcases (nZ ha x).mp hx with z|z
  ·exact up z
  ·obtain⟨p1,p2,_⟩:=dA z;exact .inr ⟨s,by simp,p1,p2⟩
 ·exact up hx
theorem cM(n:Nat):bB [ar] ar (c9 n)=ar::c9 n:=by
 have:=iR (ss:=c9 n) (pre:=[]) (post:=[]) (b:=ar) (by simp) (bI _ _ _) (fun x hx=>⟨by simp,fun z=>by
  obtain⟨_,_,h⟩:=dA hx;rw[z]at h;exact absurd h (by decide)⟩)
 simpa using this
theorem uv(n:Nat):BE [] (bB [ar] ar (c9 n)):=fun x hx=>by
 rw[cM]at hx;rcases NH.mp hx with z|z
 ·subst z;exact .inl rfl
 ·exact .inl (dA z).2.1
theorem uw(n:Nat):∀ (out done:List Sk) (W:List Sl),BE done W->BE (done ++ out) (out.foldl cJ W)
 | [],done,W,h=>by simpa using h
 | s::t,done,W,h=>by
  have:=uw n t (done ++ [s]) (cJ W s) (Dr h)
  simpa using this
theorem CH{W:List Sl}{s:Sk}{R:List Sl}(h:W=ar::R):∃ R',cJ W s=ar::R':=by
 unfold cJ;split
 ·rename_i ha;clear ha;generalize made s=ss;generalize s.act.anch=b
  induction ss generalizing W b R with
  | nil=>exact⟨R,h⟩
  | cons x t ih=>
   unfold bB;subst h;unfold jO;split
   ·exact ih rfl _
   ·exact ih rfl _
 ·exact⟨R,h⟩
theorem zc(n:Nat):∀ (out:List Sk) (W R:List Sl),W=ar::R->∃ R',out.foldl cJ W=ar::R'
 | [],W,R,h=>⟨R,h⟩
 | s::t,W,R,h=>by
  obtain⟨R',h'⟩:=CH (s:=s) h;exact zc n t _ R' h'
def aE(n:Nat)(out:List Sk):List Sl:=(mV n out).tail
theorem iE(n:Nat)(out:List Sk):mV n out=ar::aE n out:=by
 obtain⟨R,h⟩:=zc n out _ (c9 n) (cM n);unfold aE;have:mV n out=ar::R:=h;rw[this];rfl
theorem mD(n:Nat)(out:List Sk)(s:Sk):mV n (out ++ [s])=cJ (mV n out) s:=by simp[mV]
theorem xS(W:List Sl):val (DK W)=DK W:=by cases W<;>rfl
theorem Je(W:List Sl)(c:Sl):val (nx W c)=nx W c:=by
 induction W with
 | nil=>rfl
 | cons a t ih=>
  unfold nx;split
  ·exact xS t
  ·exact ih
theorem AK{d8:List Sl}{s:Sk}(h:s.act.anch=ar)(fr:∀ x∈made s,x∉ar::d8):(cJ (ar::d8) s).tail=made s ++ d8:=by
 unfold cJ;rw[h,if_pos (by simp)]
 have:=iR (ss:=made s) (pre:=[]) (post:=d8) (b:=ar) (by simp) (bI _ _ _) fun x hx=>⟨by simp,fun z=>fr x hx (by rw[z];simp)⟩
 rw[OC]at this;rw[this];rfl
theorem CG{d8:List Sl}{s:Sk}(h:made s=[]):(cJ (ar::d8) s).tail=d8:=by
 unfold cJ;rw[h];split<;>rfl
theorem F6{d8:List Sl}{s:Sk}{i:Nat}(hi:i < d8.length)(h:d8[i]=s.act.anch)(nod:(ar::d8).Nodup)(fr:∀ x∈made s,x∉ar::d8):(cJ (ar::d8) s).tail=d8.take (i+1) ++ made s ++ d8.drop (i+1):=by
 have hin:s.act.anch∈ar::d8:=by rw[<- h];exact M3 _ (O4 hi)
 have e:ar::d8=(ar::d8.take i) ++ s.act.anch::d8.drop (i+1):=by
  rw[<- h,OO,<- List.drop_eq_getElem_cons hi,Ot]
 have nn:s.act.anch∉ar::d8.take i:=by
  rw[e]at nod;rw[List.nodup_append]at nod;exact fun z=>nod.2.2 _ z _ (by simp) rfl
 unfold cJ;rw[if_pos hin];have hs:=iR (ss:=made s) (pre:=ar::d8.take i) (post:=d8.drop (i+1)) (b:=s.act.anch) nn (bI _ _ _) fun x hx=>⟨fun z=>fr x hx (by rw[e];exact OG _ z),fun z=>fr x hx (by rw[z];exact hin)⟩
 rw[<- e]at hs;rw[hs,NF,M1 hi,h];simp
end RQ
open RQ
namespace L3
open PySem PySem.Spec PyProof.Rows L2 PySem.SeqAt PySem.W
end L3
namespace L3
open PySem PySem.Spec PyProof.Rows L2 PySem.SeqAt PySem.W
def DH(h:No)(d:MU)(vs:List MV)(ep:Nat):Prop:=∃ o es,h.get? d=some o/\o.ExactDict/\o.data=.dict es ep/\es.toList.map (·.key)=vs
section
variable{prog:Nf}{w:Nn}{A:Nh}{E:MV->MW->Prop}{s:MW}{d r it:MU}{vs:List MV}{ep i:Nat}
theorem DH.ty(x:DH s.heap d vs ep):s.TypeIs (.ref d) "dict":=let ⟨o,_,e,z,_⟩:=x;⟨o,e,z.1⟩
theorem Ev{v:MV}{Q:Option MV->MW->Prop}(hi:s.heap.IsKeyIter it d i vs.length ep)(x:DH s.heap d vs ep)(hv:vs[i]?=some v)
  (q:∀ h',h'.IsKeyIter it d (i+1) vs.length ep->OE it s.heap h'->Q (some v) { s with heap:=h' }):M5 (M9 prog w) A (OB (.ref it)) Q E s:=by
 obtain⟨o,e1,c1,d1⟩:=id hi;obtain⟨od,es,e2,c2,d2,rfl⟩:=x;unfold OB;refine MT (OU (NV (name:=MZ "__next__") hi.typeIs OK (NU OK hi.typeIs QN ?_ (QH _))));refine MT (MX ?_);refine MT ?_;refine MT ?_
 first|refine MT (Ox hi.typeIs (MX ?_))|refine MT (OT hi.typeIs (MX ?_))
 refine MT (Qb e1 d1 ?_);have own:Ob "dict_keyiterator"=false:=by decide
 simp only[own,Bool.false_eq_true,if_false];show M5 _ _ (if (Value.ref d == Value.none)=true then _ else _) _ _ s;rw[if_neg (show ¬ ((Value.ref d == Value.none)=true)from Bool.false_ne_true)]
 refine MT (MX ?_);refine MT (OL e2 d2 ?_);have z:es.size=(es.toList.map (·.key)).length:=by simp
 rw[if_neg (by rw[z];simp)];refine MT (MX ?_);refine MT (OX e2 d2 ?_)
 rw[if_neg (by simp)];refine MX ?_
 have lt:i < es.size:=by
  rw[z];rcases OH i (es.toList.map (·.key)).length with h|h
  ·exact h
  ·rw[NY h]at hv;cases hv
 have val:es[i].key=v:=by
  rw[Ng]at hv
  simpa[lt]using hv
 simp only[show ¬ ((i:Int) < 0)from by walk_at "o",if_false,Int.toNat_natCast,Array.getElem?_eq_getElem lt];refine MT ?_
 first|refine MT (Ox hi.typeIs (MX ?_))|refine MT (OT hi.typeIs (MX ?_))
 refine MT (Rm hi.typeIs ?_);show M5 _ _ (Ro (.ref it) 1 (O0 ((i:Int)+1)) >>= _) _ _ s;refine MT (Qa e1 d1 (by simp) ?_)
 have hi':(s.heap.update it (PN (·.setIfInBounds 1 (O0 ((i:Int)+1))))).IsKeyIter it d (i+1) (es.toList.map (·.key)).length ep:=
  ⟨_,P9 _ e1 (Rn (Pz d1 _)),(RZ ..).trans c1,by rw[Pz d1];simp[O0]⟩
 refine MT (NO ?_);refine MT (Rm (s:={ s with heap:=s.heap.update it (PN (·.setIfInBounds 1 (O0 ((i:Int)+1)))) }) hi'.typeIs ?_)
 show M5 _ _ (pure es[i].key) _ _ _
 exact MX (MX ⟨_,rfl,MX (val ▸ q _ hi' (Po ..))⟩)
theorem Gh{Q:Option MV->MW->Prop}(hh:A.handled=none)(hi:s.heap.IsKeyIter it d i vs.length ep)(x:DH s.heap d vs ep)(hv:vs[i]?=none)
  (q:∀ h',Heap.ExtBut it s.heap h'->Q none { s with heap:=h' }):M5 (M9 prog w) A (OB (.ref it)) Q E s:=by
 obtain⟨o,e1,c1,d1⟩:=id hi;obtain⟨od,es,e2,c2,d2,rfl⟩:=x;unfold OB;refine MT (OU (NV (name:=MZ "__next__") hi.typeIs OK (NU OK hi.typeIs QN ?_ (QH _))));refine MT (MX ?_);refine MT ?_;refine MT ?_
 first|refine MT (Ox hi.typeIs (MX ?_))|refine MT (OT hi.typeIs (MX ?_))
 refine MT (Qb e1 d1 ?_);have own:Ob "dict_keyiterator"=false:=by decide
 simp only[own,Bool.false_eq_true,if_false];show M5 _ _ (if (Value.ref d == Value.none)=true then _ else _) _ _ s;rw[if_neg (show ¬ ((Value.ref d == Value.none)=true)from Bool.false_ne_true)]
 refine MT (MX ?_);refine MT (OL e2 d2 ?_);have z:es.size=(es.toList.map (·.key)).length:=by simp
 rw[if_neg (by rw[z];simp)];refine MT (MX ?_);refine MT (OX e2 d2 ?_)
 rw[if_neg (by simp)];refine MX ?_
 have ge:es.size<=i:=by rw[z];simpa using hv
 simp only[show ¬ ((i:Int) < 0)from by walk_at "o",if_false,Int.toNat_natCast,Array.getElem?_eq_none ge];refine MT ?_
 first|refine MT (Ox hi.typeIs (MX ?_))|refine MT (OT hi.typeIs (MX ?_))
 show M5 _ _ (Ro (.ref it) 0 .none >>= _) _ _ s;refine MT (Qa e1 d1 (by simp) ?_)
 show M5 _ _ (newExc (.type "StopIteration") [] >>= _) _ _ _;refine MT ?_
 simp only[newExc,newTuple];refine MT (NC ?_ (by size_fits))
 refine MT (m:=Qd _ _) (wpAny_of_eq (a:=Value.none) (by first|rfl|(simp only[Qd];rfl)) ?_);refine NC ?_ (by size_fits)
 simp only[raiseNew];refine MT (wpAny_handled ?_);rw[show A.in1.handled=none from hh]
 refine MT (MX (wpAny_throw ?_));refine MT (QF (T:="StopIteration") (b:=true) ⟨_,M6 _ rfl,rfl⟩ QV ?_);exact MX (q _ (((Po ..).extBut.push _).push _))
end
open HT
section
variable{X:Cx}{prog:Nf}{w:Nn}{A:Nh}{E:MV->MW->Prop}{s:MW}
def MA:Lj:=fun x lo hi G Q=>match x with
 | .tup ds=>Q (.tup (cutD ds lo hi)) G
 | _=>False
end
end L3
namespace L2
open PySem PySem.Spec PyProof.Rows
end L2
namespace L3
open PySem PySem.Spec PyProof.Rows L2
theorem RDs.bls_inv{K:PySem.W.Frag}{H:Hp}:∀ (ns:List Bool) {xs:List V},RDs K H (ns.map D.bl) xs->xs=ns.map V.bl
 | [],xs,h=>h.inv_nil
 | n::r,xs,h=>by
  obtain⟨x,t,e,h1,h2⟩:=RDs.inv_cons (d:=.bl n) (ds:=r.map D.bl) h;simp only[RD]at h1;subst e h1;rw[RDs.bls_inv r h2];rfl
theorem Av:∀ {ns:List Bool} {us:List MV},Vals (ns.map V.bl) us->us=ns.map Value.bool
 | [],us,w=>by cases w;rfl
 | n::r,us,w=>by
  rw[Nk]at w;cases w with
  | cons h w=>
   cases h;rw[Av w];rfl
def Cr:Cv:=fun ds G Q=>match ds with
 | [d]=>∃ bs:List Bool,yJ G d=some (bs.map D.bl)/\Q (.bl (bs.all id)) G
 | _=>False
theorem wO:∀ (bs:List Bool),(List.range bs.length).all (fun i=>bs.getD i false)=bs.all id
 | []=>rfl
 | b::r=>by
  rw[Ni,List.range_succ_eq_map,List.all_cons,List.all_cons,List.all_map];have:=wO r;rw[<- this];rfl
theorem JQ{X:Cx}(hc:X.calm=true):d4 X (.builtin "all") (mn X.K Cr):=by
 rintro pins s σ H vs us Q I rv ⟨ds,G,Q3,rds,rg,h,kk⟩
 unfold Cr at h;split at h
 ·rename_i d;obtain⟨v,rfl,rd⟩:=gn rds;obtain⟨bs,he,h⟩:=h;obtain⟨a,xs,rfl,sq,r⟩:=n_ (G:=G) (H:=H) he (.of rd) rg;obtain⟨u,rfl,ru⟩:=sG rv;cases ru;rw[RDs.bls_inv bs r]at sq;obtain⟨its,w,pl,hz⟩:=I.list sq;have ei:its=bs.map Value.bool:=Av w;have ll:a < s.heap.objs.size:=let ⟨o,e,_⟩:=pl.isList;Nc e;refine call_all_walk (PF pl.isList ?_);refine⟨s.heap.objs.size,_,_,_,_,_,fun i=>bs.getD i false,rfl,Walks.list (A:=X.A.in1) (I.ok.hd hc) _ a (NB ll) its.toArray,⟨⟨_,M6 _ rfl,rfl,rfl⟩,pl.isList.push _⟩,fun i v s Q E hP hQ=>?_,fun h' tk hk=>?_⟩
  ·have e:v=.bool (bs.getD i false):=by
    have hP':its[i]?=some v:=by simpa using hP
    rw[ei,Ng]at hP';cases hb:bs[i]? with
    | none=>rw[hb]at hP';cases hP'
    | some b=>
     rw[hb]at hP';cases hP';rw[Nl,hb];rfl
   rw[e];exact Om hQ
  ·have el:its.toArray.size=bs.length:=by rw[Nb,ei,MY]
   rw[el,wO];refine⟨.bl _,H,I.kept fun b o e=>hk b o (fun z=>?_) (M0 _ e),rfl,kk _ G _ H h Kp.refl rg (.of iB)⟩;rw[Qo.mp z]at e;exact absurd (Nc e) (Nat.lt_irrefl _)
 ·exact h.elim
end L3
namespace L2
open PySem PySem.Spec PyProof.Rows
abbrev ie(h:No)(z TI TO:MU)(f0 f1:MV):Prop:=
 h.get? z=some { cls:=.type "zip",dict:=none,data:=.fields #[f0,f1,.bool false,.ref TI,.ref TO],slots:=#[] }
def BD(f0:MV):Prop:=f0=.none\/∃ T:MU,f0=O0 T
structure ZApart(z TI TO i1 i2:MU)(fp1 fp2:List MU):Prop where
 a1:TI≠z
 a2:TO≠z
 a3:i1≠z
 a4:i2≠z
 a5:TI≠TO
 a6:TI≠i1
 a7:TI≠i2
 a8:TO≠i1
 a9:TO≠i2
 a10:i1≠i2
 f1:∀ b∈fp1,b≠z/\b≠TO/\b≠i2
 f2:∀ b∈fp2,b≠z/\b≠TO/\b≠i1
section
variable{prog:Nf}{w:Nn}{A:Nh}{E:MV->MW->Prop}{s:MW}
theorem DQ{α:Type}{M:Model}{a:MU}{k:Option Obj->Sem α}{Q:α->MW->Prop}(h:M5 M A (k (s.heap.get? a)) Q E s):M5 M A (Rq a >>= k) Q E s:=fun Γ p hΓ=>by
 have e:(Rq a >>= k)=Sem.loadIfAlive a k:=rfl;rw[e,Sem.wp_loadIfAlive];exact h Γ p hΓ
theorem yQ{z TI TO:MU}{f0 f1:MV}{Q:Bool->MW->Prop}(hz:ie s.heap z TI TO f0 f1)(hf:BD f0)(q1:Q true s)
  (q2:∀ h' f1',ie h' z TI TO f0 f1'->OE z s.heap h'->Q false { s with heap:=h' }):M5 (M9 prog w) A (Of (.ref z)) Q E s:=by
 unfold Of;refine MT (Od hz rfl (x:=f0) rfl ?_);rcases hf with rfl|⟨T,rfl⟩
 ·exact MX q1
 ·show M5 _ _ (Rq _ >>= _) _ _ _;refine DQ ?_;cases hT:s.heap.get? (Int.toNat (T:Int)) with
  | none=>exact MX q1
  | some o=>
   show M5 _ _ (field (.ref z) 1 >>= _) _ _ _
   refine MT (Od hz rfl (x:=f1) rfl ?_)
   by_cases e:(f1 != Value.bool true)=true
   ·rw[if_pos e];exact MT (N5 hz (by simp) fun h1 hz1 hs1=>MX (q2 h1 _ hz1 hs1))
   ·rw[if_neg e];exact MT (MX (MX (q2 s.heap f1 hz (R1 ..))))
theorem yR{z TI TO i1 i2:MU}{f0 f1 a b:MV}{i:Nat}{fp1 fp2:List MU}{n1 n2:Nat}{P1 P2:Nat->MV->Prop}{St1 St2:Nat->No->Prop}{Q:Option MV->MW->Prop}
  (D1:R5 prog w A.in1 i1 fp1 n1 P1 St1) (D2:R5 prog w A.in1 i2 fp2 n2 P2 St2) (D:ZApart z TI TO i1 i2 fp1 fp2) (hz:ie s.heap z TI TO f0 f1) (hf:BD f0) (hTI:O2 s.heap TI (.ref i1) (.ref i2)) (hTO:O2 s.heap TO a b)
  (h1:St1 i s.heap) (h2:St2 i s.heap) (l1:i < n1) (l2:i < n2)
  (hQ:∀ h' tk x y f0' f1' a' b',P1 i x->P2 i y->BD f0'->ie h' z TI TO f0' f1'->O2 h' TO a' b'->St1 (i+1) h'->St2 (i+1) h'->O2 h' s.heap.objs.size x y->h'.objs.size=s.heap.objs.size+1->
   (∀ c o,c≠z->c≠TO->c≠i1->c≠i2->s.heap.get? c=some o->h'.get? c=some o)->Q (some (.ref s.heap.objs.size)) { s with heap:=h',toks:=tk }):
  M5 (M9 prog w) A (OB (.ref z)) Q E s:=by
 have hT:s.TypeIs (.ref z) "zip":=⟨_,hz,rfl⟩;unfold OB;refine MT (OU (NV (name:=MZ "__next__") hT P5 (NU P5 hT F.entry_zip_next ?_ (R4 _))));show M5 _ _ (field (.ref z) 2 >>= _) _ _ _;refine MT (Od hz rfl (x:=.bool false) rfl ?_)
 show M5 _ _ (field (.ref z) 3 >>= _) _ _ _;refine MT (Od hz rfl (x:=.ref TI) rfl ?_)
 refine MT (ON hTI rfl ?_);show M5 _ _ (Of (.ref z) >>= _) _ _ _;refine MT (yQ hz hf ?_ fun h0 f1' hz0 hs0=>?_)
 ·simp only[if_true];refine MT (Qq ?_);refine MT (Od hz rfl (x:=.ref TO) rfl ?_);refine MT (N5 hz (by simp) fun g1 z1 s1=>?_)
  replace z1:ie g1 z TI TO .ellipsis f1:=z1
  refine MT ?_;simp only[List.zipIdx_cons,List.zipIdx_nil,O1,PP];refine MT (MT (Qn ?_));show M5 _ _ (NE (.ref i1) >>= _) _ _ _;refine MT (D1.item i { s with heap:=g1 } _ _ l1 (D1.frame i _ _ h1 fun b hb o e=>s1.extBut _ _ (D.f1 b hb).1 e) fun x g2 t2 p1 st1 s2=>MX ?_)
  have o2:O2 g2 TO a b:=s2.extBut _ _ D.a8 (s1.extBut _ _ D.a2 hTO);refine MT (ON o2 rfl ?_);refine MT (P_ o2 fun g3 o3 s3=>?_)
  replace o3:O2 g3 TO x b:=o3
  refine MT (QI (MX ?_));refine MT (MT (Qn ?_));show M5 _ _ (NE (.ref i2) >>= _) _ _ _;refine MT (D2.item i { s with heap:=g3,toks:=t2 } _ _ l2 (D2.frame i _ _ h2 fun b hb o e=>s3.extBut _ _ (D.f2 b hb).2.1 (s2.extBut _ _ (D.f2 b hb).2.2 (s1.extBut _ _ (D.f2 b hb).1 e))) fun y g4 t4 p2 st2 s4=>MX ?_)
  have o4:O2 g4 TO x b:=s4.extBut _ _ D.a9 o3;refine MT (ON o4 rfl ?_);refine MT (P_ o4 fun g5 o5 s5=>?_)
  replace o5:O2 g5 TO x y:=o5
  refine MT (QI (MX (MX ?_)));refine MT (ON o5 rfl ?_);refine MT (QS ?_);have sz:g5.objs.size=s.heap.objs.size:=by rw[s5.1,s4.1,s3.1,s2.1,s1.1]
  have z5:ie g5 z TI TO .ellipsis f1:=s5.extBut _ _ D.a2.symm (s4.extBut _ _ D.a4.symm (s3.extBut _ _ D.a2.symm (s2.extBut _ _ D.a3.symm z1)));have k5:∀ c o,c≠z->c≠TO->c≠i1->c≠i2->s.heap.get? c=some o->g5.get? c=some o:=fun c o c1 c2 c3 c4 e=>s5.extBut _ _ c2 (s4.extBut _ _ c4 (s3.extBut _ _ c2 (s2.extBut _ _ c3 (s1.extBut _ _ c1 e))));have lz:z < g5.objs.size:=Nc z5;show M5 _ _ (Ql (.ref z) (.ref g5.objs.size) >>= _) _ _ _;refine MT ?_;unfold Ql
  have z6:ie (g5.push { cls:=.type "tuple",data:=.seq #[x,y] }) z TI TO .ellipsis f1:=M0 _ z5;refine MT (N5 z6 (by simp) fun g7 z7 s7=>?_)
  replace z7:ie g7 z TI TO (O0 g5.objs.size) f1:=z7
  refine N5 z7 (by simp) fun g8 z8 s8=>?_
  replace z8:ie g8 z TI TO (O0 g5.objs.size) (.bool false):=z8
  have up:∀ c o,c≠z->g5.get? c=some o->g8.get? c=some o:=fun c o c1 e=>s8.extBut _ _ c1 (s7.extBut _ _ c1 (M0 _ e));have t8:O2 g8 g5.objs.size x y:=s8.extBut _ _ (Qy lz) (s7.extBut _ _ (Qy lz) (M6 _ rfl));have sz8:g8.objs.size=g5.objs.size+1:=by rw[s8.1,s7.1,Ol]
  have r1:St1 (i+1) g8:=D1.frame _ _ _ st1 fun b hb o e=>up b o (D.f1 b hb).1 (s5.extBut _ _ (D.f1 b hb).2.1 (s4.extBut _ _ (D.f1 b hb).2.2 (s3.extBut _ _ (D.f1 b hb).2.1 e)));have r2:St2 (i+1) g8:=D2.frame _ _ _ st2 fun b hb o e=>up b o (D.f2 b hb).1 (s5.extBut _ _ (D.f2 b hb).2.1 e);rw[sz]at z8 t8 sz8;refine MX ⟨.ref g5.objs.size,rfl,MX ?_⟩;rw[sz];exact hQ g8 t4 x y _ _ x y p1 p2 (.inr ⟨_,rfl⟩) z8 (up _ _ D.a2 o5) r1 r2 t8 sz8 fun c o c1 c2 c3 c4 e=>up c o c1 (k5 c o c1 c2 c3 c4 e)
 ·simp only[Bool.false_eq_true,if_false];rw[<- Array.forIn_toList];simp only[O1,PP];refine MT (MT (MT (NO ?_)));show M5 _ _ (NE (.ref i1) >>= _) _ _ _
  refine MT (D1.item i { s with heap:=h0 } _ _ l1 (D1.frame i _ _ h1 fun b hb o e=>hs0.extBut _ _ (D.f1 b hb).1 e) fun x g2 t2 p1 st1 s2=>MX (MX ?_))
  refine MT (MT (NO ?_));show M5 _ _ (NE (.ref i2) >>= _) _ _ _
  refine MT (D2.item i { s with heap:=g2,toks:=t2 } _ _ l2 (D2.frame i _ _ h2 fun b hb o e=>s2.extBut _ _ (D.f2 b hb).2.2 (hs0.extBut _ _ (D.f2 b hb).1 e)) fun y g4 t4 p2 st2 s4=>MX (MX (MX ?_)))
  refine MT (QS ?_ (by show 2<=M4;decide))
  have sz:g4.objs.size=s.heap.objs.size:=by rw[s4.1,s2.1,hs0.1]
  have k4:∀ c o,c≠z->c≠TO->c≠i1->c≠i2->s.heap.get? c=some o->g4.get? c=some o:=fun c o c1 _ c3 c4 e=>s4.extBut _ _ c4 (s2.extBut _ _ c3 (hs0.extBut _ _ c1 e));have z4:ie g4 z TI TO f0 f1':=s4.extBut _ _ D.a4.symm (s2.extBut _ _ D.a3.symm hz0);have o4:O2 g4 TO a b:=s4.extBut _ _ D.a9 (s2.extBut _ _ D.a8 (hs0.extBut _ _ D.a2 hTO));refine MX ⟨.ref g4.objs.size,rfl,MX ?_⟩;have up:∀ c o,g4.get? c=some o->(g4.push { cls:=.type "tuple",data:=.seq #[x,y] }).get? c=some o:=fun c o e=>M0 _ e;have t8:O2 (g4.push { cls:=.type "tuple",data:=.seq #[x,y] }) g4.objs.size x y:=M6 _ rfl;have sz8:(g4.push { cls:=.type "tuple",data:=.seq #[x,y] }).objs.size=g4.objs.size+1:=Ol ..;rw[sz]at t8 sz8 ⊢;exact hQ _ t4 x y _ _ a b p1 p2 hf (up _ _ z4) (up _ _ o4) (D1.frame _ _ _ st1 fun b hb o e=>up _ _ (s4.extBut _ _ (D.f1 b hb).2.2 e)) (D2.frame _ _ _ st2 fun b _ o e=>up b o e) t8 sz8 fun c o c1 c2 c3 c4 e=>up _ _ (k4 c o c1 c2 c3 c4 e)
theorem AD{z TI TO i1 i2:MU}{f0 f1 a b:MV}{i:Nat}{fp1 fp2:List MU}{n1 n2:Nat}{P1 P2:Nat->MV->Prop}{St1 St2:Nat->No->Prop}{Q:Option MV->MW->Prop}
  (D1:R5 prog w A.in1 i1 fp1 n1 P1 St1) (D2:R5 prog w A.in1 i2 fp2 n2 P2 St2) (D:ZApart z TI TO i1 i2 fp1 fp2) (hz:ie s.heap z TI TO f0 f1) (hf:BD f0) (hTI:O2 s.heap TI (.ref i1) (.ref i2)) (hTO:O2 s.heap TO a b)
  (h1:St1 i s.heap) (h2:St2 i s.heap) (le:i=n1\/(i < n1/\i=n2))
  (hQ:∀ h' tk,(∀ c o,c≠z->c≠TO->c≠i1->c≠i2->s.heap.get? c=some o->h'.get? c=some o)->Q none { s with heap:=h',toks:=tk }):
  M5 (M9 prog w) A (OB (.ref z)) Q E s:=by
 have hT:s.TypeIs (.ref z) "zip":=⟨_,hz,rfl⟩;unfold OB;have fin:∀ {h':No} {tk:Nat} {e:MU},(∀ c o,c≠z->c≠TO->c≠i1->c≠i2->s.heap.get? c=some o->h'.get? c=some o)->(∃ o,h'.get? e=some o/\o.cls=.type "StopIteration")->
   M5 (M9 prog w) A (do if <- isInstance (.ref e) (.type "StopIteration")then pure none else throw (.ref e)) Q E { s with heap:=h',toks:=tk }:=fun hk ⟨o,ho,hc⟩=>
  MT (QF (T:="StopIteration") (b:=true) ⟨o,ho,hc⟩ QV (MX (hQ _ _ hk)))
 refine MT (OU (NV (name:=MZ "__next__") hT P5 (NU P5 hT F.entry_zip_next ?_ (R4 _))));show M5 _ _ (field (.ref z) 2 >>= _) _ _ _;refine MT (Od hz rfl (x:=.bool false) rfl ?_)
 show M5 _ _ (field (.ref z) 3 >>= _) _ _ _;refine MT (Od hz rfl (x:=.ref TI) rfl ?_)
 refine MT (ON hTI rfl ?_);show M5 _ _ (Of (.ref z) >>= _) _ _ _;refine MT (yQ hz hf ?_ fun h0 f1' hz0 hs0=>?_)
 ·simp only[if_true];refine MT (Qq ?_);refine MT (Od hz rfl (x:=.ref TO) rfl ?_);refine MT (N5 hz (by simp) fun g1 z1 s1=>?_)
  replace z1:ie g1 z TI TO .ellipsis f1:=z1
  refine MT ?_;simp only[List.zipIdx_cons,List.zipIdx_nil,O1,PP];refine MT (MT (Qn ?_));show M5 _ _ (NE (.ref i1) >>= _) _ _ _;have st0:St1 i g1:=D1.frame i _ _ h1 fun b hb o e=>s1.extBut _ _ (D.f1 b hb).1 e;rcases le with rfl|⟨l1,rfl⟩
  ·refine MT (D1.done { s with heap:=g1 } _ _ st0 fun g2 e s2 he=>?_)
   obtain⟨oe,hoe,hce⟩:=he;have z2:ie g2 z TI TO .ellipsis f1:=s2 _ _ D.a3.symm z1;have hez:e≠z:=fun x=>by subst x;rw[z2]at hoe;cases hoe;simp at hce
   exact N5 z2 (by simp) fun g3 _ s3=>fin (tk:=s.toks) (fun c o c1 _ c3 _ x=>s3.extBut _ _ c1 (s2 _ _ c3 (s1.extBut _ _ c1 x))) ⟨oe,s3.extBut _ _ hez hoe,hce⟩
  ·refine MT (D1.item i { s with heap:=g1 } _ _ l1 st0 fun x g2 t2 p1 st1 s2=>MX ?_)
   have o2:O2 g2 TO a b:=s2.extBut _ _ D.a8 (s1.extBut _ _ D.a2 hTO);refine MT (ON o2 rfl ?_);refine MT (P_ o2 fun g3 o3 s3=>?_);refine MT (QI (MX ?_));refine MT (MT (Qn ?_));show M5 _ _ (NE (.ref i2) >>= _) _ _ _;refine MT (D2.done { s with heap:=g3,toks:=t2 } _ _ (D2.frame i _ _ h2 fun b hb o e=>s3.extBut _ _ (D.f2 b hb).2.1 (s2.extBut _ _ (D.f2 b hb).2.2 (s1.extBut _ _ (D.f2 b hb).1 e))) fun g4 e s4 he=>?_)
   obtain⟨oe,hoe,hce⟩:=he;have z4:ie g4 z TI TO .ellipsis f1:=s4 _ _ D.a4.symm (s3.extBut _ _ D.a2.symm (s2.extBut _ _ D.a3.symm z1));have hez:e≠z:=fun x=>by subst x;rw[z4]at hoe;cases hoe;simp at hce
   exact N5 z4 (by simp) fun g5 _ s5=>fin (tk:=t2) (fun c o c1 c2 c3 c4 x=>s5.extBut _ _ c1 (s4 _ _ c4 (s3.extBut _ _ c2 (s2.extBut _ _ c3 (s1.extBut _ _ c1 x))))) ⟨oe,s5.extBut _ _ hez hoe,hce⟩
 ·simp only[Bool.false_eq_true,if_false];rw[<- Array.forIn_toList];simp only[O1,PP];refine MT (MT (MT (NO ?_)));show M5 _ _ (NE (.ref i1) >>= _) _ _ _
  have st0:St1 i h0:=D1.frame i _ _ h1 fun b hb o e=>hs0.extBut _ _ (D.f1 b hb).1 e;rcases le with rfl|⟨l1,rfl⟩
  ·exact MT (D1.done { s with heap:=h0 } _ _ st0 fun g2 e s2 he=>fin (tk:=s.toks) (fun c o c1 _ c3 _ x=>s2 _ _ c3 (hs0.extBut _ _ c1 x)) he)
  ·refine MT (D1.item i { s with heap:=h0 } _ _ l1 st0 fun x g2 t2 p1 st1 s2=>MX (MX ?_))
   refine MT (MT (NO ?_));show M5 _ _ (NE (.ref i2) >>= _) _ _ _
   exact MT (D2.done { s with heap:=g2,toks:=t2 } _ _ (D2.frame i _ _ h2 fun b hb o e=>s2.extBut _ _ (D.f2 b hb).2.2 (hs0.extBut _ _ (D.f2 b hb).1 e)) fun g4 e s4 he=>fin (tk:=t2) (fun c o c1 _ c3 c4 x=>s4 _ _ c4 (s2.extBut _ _ c3 (hs0.extBut _ _ c1 x))) he)
theorem Ic{tg:Np}{z TI TO:MU}{f0 f1 u:MV}{Q:Unit->MW->Prop}(hz:ie s.heap z TI TO f0 f1)(hf:BD f0)
  (hQ:∀ h' f0',BD f0'->ie h' z TI TO f0' f1->OE z s.heap h'->Q () { s with heap:=h' }):M5 (M9 prog w) A (OY tg (.ref z) u) Q E s:=by
 have same:Q () s:=hQ s.heap f0 hf hz (R1 ..);unfold OY;cases tg<;>first
  | exact MX same
  | (cases u<;>first
    | exact MX same
    | (refine MT (wpAny_load hz ?_)
       dsimp only;split
       ·refine MT (Qq ?_);exact N5 hz (by simp) fun h1 z1 s1=>hQ h1 _ (.inl rfl) z1 s1
       ·exact MX same))
end
set_option genInjectivity false in
inductive Zk where
 | lst (l:MU) (xs:List V)
 | txt (z:Str) (t:Tok)
def Zk.vs:Zk->List V
 | .lst _ xs=>xs
 | .txt z _=>dQ z
def Zk.val:Zk->MV
 | .lst l _=>.ref l
 | .txt z t=>.str z t
def Zk.here(K:PySem.W.Frag)(H:Hp):Zk->Prop
 | .lst l xs=>kP K H l xs
 | .txt _ _=>True
def Zk.ready(h:No):Zk->Prop
 | .lst l xs=>∃ us,Vals xs us/\h.IsList l us.toArray
 | .txt _ _=>True
def Zk.it(it:MU)(i:Nat)(h:No):Zk->Prop
 | .lst l _=>h.IsListIter it l i
 | .txt z t=>h.IsStrIter it (PH z) z t i
theorem no(z:Str):PH z="str_ascii_iterator"\/PH z="str_iterator":=by unfold PH;split;exact .inl rfl;exact .inr rfl
theorem Zk.obj{k:Zk}{it:MU}{i:Nat}{h:No}(x:k.it it i h):∃ o,h.get? it=some o/\(∀ v,o.data≠.cell v)/\o.cls≠.type "list"/\o.cls≠.type "tuple"/\o.cls≠.type "zip":=by
 cases k with
 | lst l xs=>
  obtain⟨o,e,c,d⟩:=x;exact⟨o,e,(fun v z=>by rw[d]at z;cases z),by rw[c];decide,by rw[c];decide,by rw[c];decide⟩
 | txt z t=>
  obtain⟨o,e,c,d⟩:=x;refine⟨o,e,(fun v z=>by rw[d]at z;cases z),?_⟩
  rw[c];rcases no z with q|q<;>rw[q]<;>decide
theorem Zk.keep{k:Zk}{it:MU}{i:Nat}{h h':No}(x:k.it it i h)(q:∀ o,h.get? it=some o->h'.get? it=some o):k.it it i h':=by
 cases k with
 | lst l xs=>exact x.at fun o e=>q o e
 | txt z t=>
  obtain⟨o,e,c⟩:=x;exact⟨o,q o e,c⟩
theorem Zk.of{X:Cx}{pins:List (MU×Obj)}{σ:St}{H:Hp}{s:MW}{k:Zk}(I:Inv X pins σ H s)(x:k.here X.K H):k.ready s.heap:=by
 cases k with
 | lst l xs=>
  obtain⟨its,rv,p,_⟩:=I.list x;exact⟨its,rv,p.isList⟩
 | txt z t=>exact True.intro
theorem Zk.draws{P:Nf}{w:Nn}{k:Zk}{it:MU}{h:No}{j:Nat}(x:k.ready h)(y:k.it it j h):∃ (fp:List MU) (Pv:Nat->MV->Prop) (St:Nat->No->Prop),(∀ A:Nh,A.handled=none->R5 P w A it fp k.vs.length Pv St)/\(∀ i v,Pv i v->∃ u,k.vs[i]?=some u/\aN u v)/\
  (∀ i,k.it it i h->St i h)/\(∀ i h',St i h'->k.it it i h')/\∀ b∈fp,b=it\/∃ o,h.get? b=some o/\o.cls=.type "list":=by
 cases k with
 | lst l xs=>
  obtain⟨us,rv,p⟩:=x;obtain⟨o,e,c,d⟩:=id y;obtain⟨o',e',c',d'⟩:=id p;have hne:l≠it:=fun z=>by subst z;rw[e]at e';cases e';rw[c]at c';exact absurd c' (by decide)
  have hl:us.toArray.size=xs.length:=by rw[Nb];exact rv.length.symm
  refine⟨[it,l],fun i v=>us.toArray[i]?=some v,fun i h=>h.IsListIter it l i/\h.IsList l us.toArray,fun A hh=>?_,fun i v q=>?_,fun i q=>⟨q,p⟩,fun i h' q=>q.1,fun b hb=>?_⟩
  ·have:=Draws.list (prog:=P) (w:=w) hh it l hne us.toArray;rw[hl]at this;exact this
  ·have q':us[i]?=some v:=by simpa using q
   obtain⟨u,e1,r⟩:=L3.Vals.getV rv q';exact⟨u,e1,r⟩
  ·have hb':b=it\/b=l:=by simpa using hb
   rcases hb' with rfl|rfl
   ·exact .inl rfl
   ·exact .inr ⟨o',e',c'⟩
 | txt z t=>
  have hz:(dQ z).length=z.cps.size:=by simp[dQ]
  refine⟨[it],fun i v=>∃ c u,z.cps[i]?=some c/\v=.str ⟨#[c]⟩ u,fun i h=>h.IsStrIter it (PH z) z t i,fun A hh=>?_,fun i v q=>?_,fun i q=>q,fun i h' q=>q,fun b hb=>.inl (by simpa using hb)⟩
  ·show R5 P w A it [it] (dQ z).length _ _;rw[hz];rcases no z with q|q<;>rw[q]
   ·exact Draws.strAscii hh it z t
   ·exact Draws.strWide hh it z t
  ·obtain⟨c,u,e1,rfl⟩:=q;have e2:z.cps.toList[i]?=some c:=by simpa using e1
   exact⟨.str ⟨#[c]⟩,by simp[Zk.vs,dQ,e2],⟨u,rfl⟩⟩
def Cu(k1 k2:Zk)(z TI TO i1 i2:MU)(i:Nat)(h:No):Prop:=
 (∃ f0 f1,BD f0/\ie h z TI TO f0 f1)/\O2 h TI (.ref i1) (.ref i2)/\(∃ a b,O2 h TO a b)/\k1.it i1 i h/\k2.it i2 i h
structure ZAp(z TI TO i1 i2:MU):Prop where
 t:TI≠TO
 i:i1≠i2
theorem Cu.apart{k1 k2:Zk}{z TI TO i1 i2:MU}{i:Nat}{h:No}{fp1 fp2:List MU}(D:ZAp z TI TO i1 i2)(x:Cu k1 k2 z TI TO i1 i2 i h)(q1:∀ b∈fp1,b=i1\/∃ o,h.get? b=some o/\o.cls=.type "list")(q2:∀ b∈fp2,b=i2\/∃ o,h.get? b=some o/\o.cls=.type "list"):ZApart z TI TO i1 i2 fp1 fp2:=by
 obtain⟨⟨f0,f1,_,hz⟩,hTI,⟨a,b,hTO⟩,h1,h2⟩:=x;obtain⟨o1,e1,_,c1,c2,c3⟩:=Zk.obj h1;obtain⟨o2,e2,_,d1,d2,d3⟩:=Zk.obj h2;have ne:∀ {a b:MU} {o o':Obj},h.get? a=some o->h.get? b=some o'->o.cls≠o'.cls->a≠b:=fun ha hb hc z=>by subst z;rw[ha]at hb;cases hb;exact hc rfl
 have y1:i1≠z:=ne e1 hz c3;have y2:i2≠z:=ne e2 hz d3;have y3:TO≠i1:=(ne e1 hTO c2).symm;have y4:TO≠i2:=(ne e2 hTO d2).symm;have tz:Value.type "tuple"≠Value.type "zip":=by decide
 have lz:Value.type "list"≠Value.type "zip":=by decide
 have lt:Value.type "list"≠Value.type "tuple":=by decide
 refine⟨ne hTI hz tz,ne hTO hz tz,y1,y2,D.t,(ne e1 hTI c2).symm,(ne e2 hTI d2).symm,y3,y4,D.i,fun b hb=>?_,fun b hb=>?_⟩
 ·rcases q1 b hb with rfl|⟨o,e,c⟩
  ·exact⟨y1,y3.symm,D.i⟩
  ·exact⟨ne e hz (by rw[c];exact lz),ne e hTO (by rw[c];exact lt),ne e e2 (by rw[c];exact d1.symm)⟩
 ·rcases q2 b hb with rfl|⟨o,e,c⟩
  ·exact⟨y2,y4.symm,D.i.symm⟩
  ·exact⟨ne e hz (by rw[c];exact lz),ne e hTO (by rw[c];exact lt),ne e e1 (by rw[c];exact c1.symm)⟩
section
variable{prog:Nf}{w:Nn}{A:Nh}{E:MV->MW->Prop}{s:MW}{k1 k2:Zk}{z TI TO i1 i2:MU}{i:Nat}
theorem BG{Q:Option MV->MW->Prop}(hh:A.in1.handled=none)(D:ZAp z TI TO i1 i2)(x:Cu k1 k2 z TI TO i1 i2 i s.heap)(r1:k1.ready s.heap)(r2:k2.ready s.heap)(l1:i < k1.vs.length)(l2:i < k2.vs.length)
  (hQ:∀ h' tk x y u v,k1.vs[i]?=some u->k2.vs[i]?=some v->aN u x->aN v y->Cu k1 k2 z TI TO i1 i2 (i+1) h'->O2 h' s.heap.objs.size x y->h'.objs.size=s.heap.objs.size+1->
   (∀ c o,c∉[z,TI,TO,i1,i2]->s.heap.get? c=some o->h'.get? c=some o)->Q (some (.ref s.heap.objs.size)) { s with heap:=h',toks:=tk }):M5 (M9 prog w) A (OB (.ref z)) Q E s:=by
 obtain⟨fp1,P1,St1,D1,v1,t1,b1,q1⟩:=Zk.draws (P:=prog) (w:=w) r1 x.2.2.2.1;obtain⟨fp2,P2,St2,D2,v2,t2,b2,q2⟩:=Zk.draws (P:=prog) (w:=w) r2 x.2.2.2.2;have ap:=x.apart D q1 q2;obtain⟨⟨f0,f1,hf,hz⟩,hTI,⟨a,b,hTO⟩,h1,h2⟩:=x;refine yR (D1 _ hh) (D2 _ hh) ap hz hf hTI hTO (t1 i h1) (t2 i h2) l1 l2 fun h' tk x y f0' f1' a' b' p1 p2 hf' z' o' s1 s2 tp sz kp=>?_;obtain⟨u,e1,ru⟩:=v1 i x p1;obtain⟨v,e2,rv⟩:=v2 i y p2;exact hQ h' tk x y u v e1 e2 ru rv ⟨⟨f0',f1',hf',z'⟩,kp _ _ ap.a1 ap.a5 ap.a6 ap.a7 hTI,⟨a',b',o'⟩,b1 _ _ s1,b2 _ _ s2⟩ tp sz fun c o hc e=>kp c o (fun q=>hc (by simp[q])) (fun q=>hc (by simp[q])) (fun q=>hc (by simp[q])) (fun q=>hc (by simp[q])) e
theorem DN{Q:Option MV->MW->Prop}(hh:A.in1.handled=none)(D:ZAp z TI TO i1 i2)(x:Cu k1 k2 z TI TO i1 i2 i s.heap)(r1:k1.ready s.heap)(r2:k2.ready s.heap)(l:i=min k1.vs.length k2.vs.length)
  (hQ:∀ h' tk,(∀ c o,c∉[z,TI,TO,i1,i2]->s.heap.get? c=some o->h'.get? c=some o)->Q none { s with heap:=h',toks:=tk }):M5 (M9 prog w) A (OB (.ref z)) Q E s:=by
 obtain⟨fp1,P1,St1,D1,v1,t1,b1,q1⟩:=Zk.draws (P:=prog) (w:=w) r1 x.2.2.2.1;obtain⟨fp2,P2,St2,D2,v2,t2,b2,q2⟩:=Zk.draws (P:=prog) (w:=w) r2 x.2.2.2.2;have ap:=x.apart D q1 q2;obtain⟨⟨f0,f1,hf,hz⟩,hTI,⟨a,b,hTO⟩,h1,h2⟩:=x;exact AD (D1 _ hh) (D2 _ hh) ap hz hf hTI hTO (t1 i h1) (t2 i h2) (by walk_at "o") fun h' tk kp=>hQ h' tk fun c o hc e=>kp c o (fun q=>hc (by simp[q])) (fun q=>hc (by simp[q])) (fun q=>hc (by simp[q])) (fun q=>hc (by simp[q])) e
theorem Cu.keep{h h':No}(x:Cu k1 k2 z TI TO i1 i2 i h)(q:∀ b∈[z,TI,TO,i1,i2],∀ o,h.get? b=some o->h'.get? b=some o):Cu k1 k2 z TI TO i1 i2 i h':=by
 obtain⟨⟨f0,f1,hf,hz⟩,hTI,⟨a,b,hTO⟩,h1,h2⟩:=x;exact⟨⟨f0,f1,hf,q z (by simp) _ hz⟩,q TI (by simp) _ hTI,⟨a,b,q TO (by simp) _ hTO⟩,Zk.keep h1 fun o e=>q i1 (by simp) o e,Zk.keep h2 fun o e=>q i2 (by simp) o e⟩
end
def Mw(K:PySem.W.Frag)(k1 k2:Zk):It:=
 ⟨fun i H=>(i < k1.vs.length/\i < k2.vs.length)/\k1.here K H/\k2.here K H,fun i H x H'=>∃ p u v,H p=none/\x=.ref p/\H'=bG H p (.tup [u,v])/\k1.vs[i]?=some u/\k2.vs[i]?=some v,fun i H=>i=min k1.vs.length k2.vs.length/\k1.here K H/\k2.here K H⟩
theorem sI{P:Nf}{w:Nn}{K:PySem.W.Frag}{tg:Np}(k1 k2:Zk)(z TI TO i1 i2:MU)(D:ZAp z TI TO i1 i2):Turn P w K tg (Mw K k1 k2) [z,TI,TO,i1,i2] z (Cu k1 k2 z TI TO i1 i2) where
 mem:=by simp
 obj:=fun i h st b hb=>by
  obtain⟨⟨f0,f1,hf,hz⟩,hTI,⟨a,b',hTO⟩,h1,h2⟩:=st;obtain⟨o1,e1,c1,_⟩:=Zk.obj h1;obtain⟨o2,e2,c2,_⟩:=Zk.obj h2;simp only[NH,N4,or_false]at hb;rcases hb with rfl|rfl|rfl|rfl|rfl
  ·exact⟨_,hz,fun v q=>by cases q⟩
  ·exact⟨_,hTI,fun v q=>by cases q⟩
  ·exact⟨_,hTO,fun v q=>by cases q⟩
  ·exact⟨o1,e1,c1⟩
  ·exact⟨o2,e2,c2⟩
 keep:=fun i h h' st q=>st.keep q
 item:=by
  intro X hP hw hK hc i pins s σ H E I hf st hg;subst hP hw hK;obtain⟨⟨l1,l2⟩,e1,e2⟩:=hg;refine BG (I.ok.hd hc) D st (Zk.of I e1) (Zk.of I e2) l1 l2 fun h' tk x y u v q1 q2 ru rv st' tp sz kp=>?_;refine⟨_,rfl,?_⟩;obtain⟨⟨f0,f1,hl,hz⟩,hTI,⟨a,b,hTO⟩,h1,h2⟩:=id st';refine Ic (s:={ s with heap:=h',toks:=tk }) hz hl fun h2' f0' hl' hz' sb=>?_
  have hn:H s.heap.objs.size=none:=I.hok.fresh (le_refl _);have lt:∀ b∈[z,TI,TO,i1,i2],b≠s.heap.objs.size:=fun b hb=>by
   obtain⟨o,e,_⟩:=(show ∃ o,s.heap.get? b=some o/\True from by
    obtain⟨⟨g0,g1,_,gz⟩,gTI,⟨ga,gb,gTO⟩,k1',k2'⟩:=st;obtain⟨o1,x1,_⟩:=Zk.obj k1';obtain⟨o2,x2,_⟩:=Zk.obj k2';simp only[NH,N4,or_false]at hb;rcases hb with rfl|rfl|rfl|rfl|rfl
    ·exact⟨_,gz,True.intro⟩
    ·exact⟨_,gTI,True.intro⟩
    ·exact⟨_,gTO,True.intro⟩
    ·exact⟨_,x1,True.intro⟩
    ·exact⟨_,x2,True.intro⟩)
   exact NB (Nc e)
  have up:∀ c o,c≠z->h'.get? c=some o->h2'.get? c=some o:=fun c o hc e=>sb.extBut _ _ hc e;have hzs:z≠s.heap.objs.size:=lt z (by simp)
  have I0:Inv X pins σ (bG H s.heap.objs.size (.tup [u,v])) { s with heap:=s.heap.push { cls:=.type "tuple",data:=.seq #[x,y] },toks:=s.toks }:=by
   refine I.laid (t':=s.toks) (fun b v q=>M0 _ q) (le_refl _) ?_;exact⟨by show 2<=M4;decide,[x,y],.cons ru (.cons rv .nil),v9.new _ _⟩
  have I1:Inv X pins σ (bG H s.heap.objs.size (.tup [u,v])) { s with heap:=h2',toks:=tk }:=by
   have:=Inv.turnedL (s:={ s with heap:=s.heap.push { cls:=.type "tuple",data:=.seq #[x,y] },toks:=s.toks }) (h':=h2') (t':=tk) (fp:=[z,TI,TO,i1,i2]) I0 (fun b o hb q=>?_) fun b hb=>?_
   ·exact this
   ·have hbz:b≠z:=fun q=>hb (by simp[q])
    have q':(s.heap.push { cls:=.type "tuple",data:=.seq #[x,y] }).get? b=some o:=q
    by_cases hbs:b=s.heap.objs.size
    ·subst hbs;rw[M6 _ rfl]at q';cases q';exact up _ _ hbz tp
    ·rw[R0 _ _ _ hbs]at q';exact up _ _ hbz (kp b o hb q')
   ·obtain⟨g0,g1,g2,g3,g4,g5⟩:=hf b hb;exact⟨by rw[aB (lt b hb)];exact g0,g1,g2,g3,g4,g5⟩
  have ap:=st'.apart (fp1:=[]) (fp2:=[]) D (fun b hb=>by simp at hb) fun b hb=>by simp at hb
  refine⟨.ref s.heap.objs.size,_,I1,rfl,⟨_,u,v,hn,rfl,rfl,q1,q2⟩,⟨⟨f0',f1,hl',hz'⟩,up _ _ ap.a1 hTI,⟨a,b,up _ _ ap.a2 hTO⟩,Zk.keep h1 fun o e=>up _ _ ap.a3 e,Zk.keep h2 fun o e=>up _ _ ap.a4 e⟩,fun b hb=>?_⟩;rw[aB (lt b hb)];exact (hf b hb).1
 done:=by
  intro X hP hw hK hc i pins s σ H E I hf st hg;subst hP hw hK;obtain⟨l,e1,e2⟩:=hg;exact DN (I.ok.hd hc) D st (Zk.of I e1) (Zk.of I e2) l fun h' tk kp=>⟨rfl,I.turnedL (t':=tk) (fp:=[z,TI,TO,i1,i2]) kp hf⟩
 self:=fun _ _ _ _ _ st h=>by
  obtain⟨⟨f0,f1,_,hz⟩,_⟩:=st;have hT:=(⟨_,hz,rfl⟩:Shared.TypeIs _ (.ref z) "zip");refine Qv hT F.slot_zip_iter (NU F.slot_zip_iter hT F.entry_zip_iter ?_ (F.args_zip_iter_1 _));show M5 _ _ (ret (.ref z)) _ _ _
  exact MX ⟨_,rfl,"zip",_,hT,P5.lookup,h⟩
def Zk.itObj:Zk->Obj
 | .lst l _=>{ cls:=.type "list_iterator",data:=.fields #[.ref l,.int 0 0] }
 | .txt z t=>{ cls:=.type (PH z),data:=.fields #[.str z t,.int 0 0] }
theorem Zk.iter{prog:Nf}{w:Nn}{A:Nh}{E:MV->MW->Prop}{s:MW}{k:Zk}{Q:MV->MW->Prop}(r:k.ready s.heap)(hQ:Q (.ref s.heap.objs.size) { s with heap:=s.heap.push k.itObj }):M5 (M9 prog w) A (Pu k.val) Q E s:=by
 cases k with
 | lst l xs=>
  obtain⟨us,_,p⟩:=r;exact PF p hQ
 | txt z t=>exact wpAny_pyIter_strU hQ
theorem Zk.grow{k:Zk}{h h':No}(r:k.ready h)(q:∀ c o,h.get? c=some o->h'.get? c=some o):k.ready h':=by
 cases k with
 | lst l xs=>
  obtain⟨us,rv,p⟩:=r;exact⟨us,rv,p.at fun o e=>q l o e⟩
 | txt z t=>exact True.intro
theorem Zk.it0{k:Zk}{h:No}{it:MU}(e:h.get? it=some k.itObj):k.it it 0 h:=by
 cases k with
 | lst l xs=>exact⟨_,e,rfl,rfl⟩
 | txt z t=>exact⟨_,e,rfl,rfl⟩
theorem Zk.alive{k:Zk}{h:No}:(h.push k.itObj).get? h.objs.size=some k.itObj:=by
 cases k with
 | lst l xs=>exact M6 _ rfl
 | txt z t=>exact M6 _ rfl
abbrev FV(h:No)(k1:Zk):No:=h.push k1.itObj
abbrev FU(h:No)(k1 k2:Zk):No:=(FV h k1).push k2.itObj
abbrev FT(h:No)(k1 k2:Zk):No:=(FU h k1 k2).push { cls:=.type "tuple",data:=.seq #[.ref h.objs.size,.ref (FV h k1).objs.size] }
abbrev FS(h:No)(k1 k2:Zk):No:=(FT h k1 k2).push { cls:=.type "tuple",data:=.seq #[.none,.none] }
abbrev AB(h:No)(k1 k2:Zk):No:=(FS h k1 k2).push { cls:=.type "zip",data:=.fields #[.none,.bool false,.bool false,.ref (FU h k1 k2).objs.size,.ref (FT h k1 k2).objs.size] }
theorem Bg(k1 k2:Zk):Meets (Builtin.«zip.__new__» ⟨[.type "zip",k1.val,k2.val],[]⟩) (fun _ R s=>k1.ready s.heap/\k2.ready s.heap/\R (.ok (.ret (.ref (FS s.heap k1 k2).objs.size))) { s with heap:=AB s.heap k1 k2 }):=
 .of_wp fun prog w A R s h=>by
  obtain⟨hp,g,d,tk,os⟩:=s;obtain⟨r1,r2,h⟩:=h;have hsub:=sub_zip;have q2:k2.ready (Shared.heap ⟨hp.push k1.itObj,g,d,tk,os⟩):=Zk.grow r2 fun c o e=>M0 _ e
  wp_walk using Zk.iter (k:=k1) (s:=⟨hp,g,d,tk,os⟩) r1,Zk.iter (k:=k2) (s:=⟨hp.push k1.itObj,g,d,tk,os⟩) q2
  exact⟨_,rfl,h⟩
theorem wH{prog:Nf}{w:Nn}{A:Nh}{E:MV->MW->Prop}{s:MW}{k1 k2:Zk}{Q:MV->MW->Prop}(r1:k1.ready s.heap)(r2:k2.ready s.heap)
  (h:∀ h',Cu k1 k2 (s.heap.objs.size+4) (s.heap.objs.size+2) (s.heap.objs.size+3) s.heap.objs.size (s.heap.objs.size+1) 0 h'->h'.objs.size=s.heap.objs.size+5->
   (∀ c o,s.heap.get? c=some o->h'.get? c=some o)->Q (.ref (s.heap.objs.size+4)) { s with heap:=h' }):M5 (M9 prog w) A (call (.type "zip") [k1.val,k2.val]) Q E s:=by
 refine callType_new F.called_zip (by decide) (F.typeCall_zip_2 _ _) (F.newCall_zip_2 _ _) (fun obj=>F.args_object_init_3 obj _ _) F.entry_zip_new (Bg k1 k2) ⟨r1,r2,?_⟩
 have z1:(FV s.heap k1).objs.size=s.heap.objs.size+1:=Ol ..;have z2:(FU s.heap k1 k2).objs.size=s.heap.objs.size+2:=by rw[Ol,z1]
 have z3:(FT s.heap k1 k2).objs.size=s.heap.objs.size+3:=by rw[Ol,z2]
 have z4:(FS s.heap k1 k2).objs.size=s.heap.objs.size+4:=by rw[Ol,z3]
 have z5:(AB s.heap k1 k2).objs.size=s.heap.objs.size+5:=by rw[Ol,z4]
 have u:∀ {h:No} {c:MU} {o o':Obj},h.get? c=some o->(h.push o').get? c=some o:=fun e=>M0 _ e;have g5:(AB s.heap k1 k2).get? (FS s.heap k1 k2).objs.size=some _:=M6 _ rfl;have g4:(AB s.heap k1 k2).get? (FT s.heap k1 k2).objs.size=some _:=u (M6 _ rfl);have g3:(AB s.heap k1 k2).get? (FU s.heap k1 k2).objs.size=some _:=u (u (M6 _ rfl));have g2:(AB s.heap k1 k2).get? (FV s.heap k1).objs.size=some k2.itObj:=u (u (u Zk.alive));have g1:(AB s.heap k1 k2).get? s.heap.objs.size=some k1.itObj:=u (u (u (u Zk.alive)));show _/\_
 rw[z2,z3,z4]at g5;rw[z1,z2]at g3;rw[z3]at g4;rw[z1]at g2;rw[z4];exact⟨⟨_,g5,rfl⟩,h _ ⟨⟨_,_,.inl rfl,g5⟩,g3,⟨_,_,g4⟩,Zk.it0 g1,Zk.it0 g2⟩ z5 fun c o x=>u (u (u (u (u x))))⟩
end L2
namespace L3
open PySem PySem.Spec PyProof.Rows L2
def gA:D->Option (List D)
 | .lst ds=>some ds
 | .str x=>some (signs x)
 | _=>none
def oo:List D->List D->List D
 | a::r,b::t=>.tup [a,b]::oo r t
 | _,_=>[]
theorem lA:∀ (a b:List D),(oo a b).length=min a.length b.length
 | [],_=>by simp[oo]
 | _::_,[]=>by simp[oo]
 | _::r,_::t=>by simp only[oo,Ni,lA r t];omega
theorem sE:∀ {a b:List D} {i:Nat} {x y:D},a[i]?=some x->b[i]?=some y->(oo a b)[i]?=some (.tup [x,y])
 | _::_,_::_,0,_,_,h,h'=>by simp at h h';subst h h';rfl
 | _::r,_::t,i+1,_,_,h,h'=>by simp only[NT]at h h';simpa[oo]using sE h h'
 | [],_,_,_,_,h,_=>by simp at h
 | _::_,[],_,_,_,_,h=>by simp at h
theorem wj{K:PySem.W.Frag}{H:Hp}(z:Str):RDs K H (signs z) (dQ z):=by
 have e1:signs z=(z.cps.toList.map fun c=>(⟨#[c]⟩:Str)).map D.str:=by simp[signs]
 have e2:dQ z=(z.cps.toList.map fun c=>(⟨#[c]⟩:Str)).map V.str:=by simp[dQ]
 rw[e1,e2];exact RDs.strs _
theorem BH{K:PySem.W.Frag}{H:Hp}{d:D}{v:V}{u:MV}{ds:List D}(e:gA d=some ds)(r:RD K H d v)(ru:aN v u):
  ∃ k:Zk,u=k.val/\RDs K H ds k.vs/\∀ (G:Gp) (G':Gp) (H':Hp),RG K H G->Kp G H G' H'->k.here K H'/\RDs K H' ds k.vs:=by
 cases d with
 | lst es=>
  simp only[gA,Option.some.injEq]at e;subst e;simp only[RD]at r;obtain⟨a,xs,rfl,f,rr⟩:=r;cases ru;exact⟨.lst a xs,rfl,rr,fun G G' H' rg k=>⟨((k.stb rg).l _ _ f).sq,RDs.mono (k.stb rg) _ _ rr⟩⟩
 | str z=>
  simp only[gA,Option.some.injEq]at e;subst e;simp only[RD]at r;subst r;obtain⟨t,rfl⟩:=ru;exact⟨.txt z t,rfl,wj z,fun _ _ _ _ _=>⟨True.intro,wj z⟩⟩
 | _=>simp[gA]at e
theorem Jw{K:PySem.W.Frag}{G0:Gp}{H0:Hp}{ds es:List D}{k1 k2:Zk}(rg0:RG K H0 G0)(r1:∀ (G:Gp) (G':Gp) (H':Hp),RG K H0 G->Kp G H0 G' H'->k1.here K H'/\RDs K H' ds k1.vs)(r2:∀ (G:Gp) (G':Gp) (H':Hp),RG K H0 G->Kp G H0 G' H'->k2.here K H'/\RDs K H' es k2.vs):
  yM K G0 H0 (oo ds es) (Mw K k1 k2):=fun i G H k rg=>by
 obtain⟨a1,q1⟩:=r1 G0 G H rg0 k;obtain⟨a2,q2⟩:=r2 G0 G H rg0 k;have n1:=q1.length;have n2:=q2.length;rw[lA];refine⟨fun hi=>⟨⟨⟨by walk_at "o",by walk_at "o"⟩,a1,a2⟩,fun x H' y=>?_⟩,fun e=>⟨by walk_at "o",a1,a2⟩⟩
 obtain⟨p,u,v,hn,rfl,rfl,e1,e2⟩:=y;have i1:i < ds.length:=by walk_at "o"
 have i2:i < es.length:=by walk_at "o"
 obtain⟨u',f1,g1⟩:=q1.get (M1 i1);obtain⟨v',f2,g2⟩:=q2.get (M1 i2);rw[e1]at f1;cases f1;rw[e2]at f2;cases f2;exact⟨Kp.laid hn,rg.laid hn,_,sE (M1 i1) (M1 i2),ow rg hn (RDs.cons g1 (RDs.cons g2 RDs.nil))⟩
def Dn(ta:pQ):FQ:=fun σ G Q=>ta σ G fun ds G'=>match ds with
 | [x,y]=>∃ a b,(gA x=some a/\gA y=some b)/\Q (oo a b) G'
 | _=>False
theorem Au:On "zip"=some (.type "zip"):=by kernel_rfl
theorem wR{K:PySem.W.Frag}{H:Hp}{x y:D}{vs:List V}(h:RDs K H [x,y] vs):∃ v u,vs=[v,u]/\RD K H x v/\RD K H y u:=by
 obtain⟨v,t,rfl,h1,h2⟩:=h.inv_cons;obtain⟨u,rfl,h3⟩:=gn h2;exact⟨v,u,rfl,h1,h3⟩
end L3
namespace L2
open PySem PySem.Spec PyProof.Rows
theorem xY:Qr (.type "list") "keys"=pure none:=by rw[QO,P8];kernel_rfl
theorem zL:Qr (.type "zip") "keys"=pure none:=by rw[QO,P8];kernel_rfl
theorem pS:Qr (.type "zip") "__getattr__"=pure none:=by rw[QO,P8];kernel_rfl
theorem yt:entryFor table "zip.__getattribute__"=some Builtin.«object.__getattribute__»:=entryFor_alias (id':="object.__getattribute__") (by kernel_rfl) (by first|rfl|decide +kernel) (by decide +kernel) (by kernel_rfl)
theorem C7:(["__module__","__name__","__qualname__","__doc__","__annotations__"]:List Str).contains (MZ "keys")=false:=by decide +kernel
theorem we:(MZ "keys").length+100<=M4:=by rw[N3];decide +kernel
theorem tZ(a:MU)(vs:Array MV)(u:Tok):Meets (Builtin.«object.__getattribute__» ⟨[.ref a,.str "keys" u],[]⟩) (fun A R s=>s.heap.get? a=some { cls:=.type "zip",dict:=none,data:=.fields vs,slots:=#[] }/\raisesAttr (.ref a) "keys" A R s):=
 Meets.of_wp fun prog w A R s hs=>by
  obtain⟨hp,g,d,tk,os⟩:=s;obtain⟨hx,hs⟩:=hs;have hT:(⟨hp,g,d,tk,os⟩:MW).TypeIs (.ref a) "zip":=⟨_,hx,rfl⟩;have f4:=zL;unfold Builtin.«object.__getattribute__»
  repeat (any_goals (first|assumption|wp_step))
  exact wpAny_raiseAttrError hs.1 hs.2 (attrMsg_fits (by decide +kernel) we)
section
variable{prog:Nf}{w:Nn}{A:Nh}{E:MV->MW->Prop}{s:MW}{a:MU}{Q:Option MV->MW->Prop}
theorem xT{xs:Array MV}{k:Nat}{sl:Array (Option MV)}(hx:s.heap.get? a=some { cls:=.type "list",dict:=none,data:=.seq xs k,slots:=sl })(hA:A.in1.handled=none)
  (h:∀ h' tk,(∀ c o,s.heap.get? c=some o->h'.get? c=some o)->Q none { s with heap:=h',toks:=tk }):M5 (M9 prog w) A (Qz (.ref a) "keys") Q E s:=by
 obtain⟨hp,g,d,tk,os⟩:=s;have hT:∀ tk',(⟨hp,g,d,tk',os⟩:MW).TypeIs (.ref a) "list":=fun _=>⟨_,hx,rfl⟩;have f1:=RH;have f3:=F.slot_list_getattribute.lookup;have f4:=F.slot_list_getattribute.bind (.ref a);have f5:=am_list_getattr_none;unfold Qz getAttrBy?
 repeat (any_goals (first|assumption|exact hT _|((with_reducible show M5 _ _ (call _ _ _) _ _ _);refine RM F.slot_list_getattribute (hT _) am_entry_list_getattribute (F.args_list_getattribute_2 _ _) (meets_getattribute_miss_list a xs k sl _ _ xY C7 we) ⟨hx,hA,fun h' t' e hx'=>?_⟩)|wp_step))
 obtain⟨t1,u1,he⟩:=hx'.there;show M5 _ _ (Px _ _ _ _ _ _ _) _ _ _
 unfold Px
 repeat (any_goals (first|assumption|wp_step))
 exact h _ _ hx'.keeps
theorem zC{vs:Array MV}(hx:s.heap.get? a=some { cls:=.type "zip",dict:=none,data:=.fields vs,slots:=#[] })(hA:A.in1.handled=none)
  (h:∀ h' tk,(∀ c o,s.heap.get? c=some o->h'.get? c=some o)->Q none { s with heap:=h',toks:=tk }):M5 (M9 prog w) A (Qz (.ref a) "keys") Q E s:=by
 obtain⟨hp,g,d,tk,os⟩:=s;have hT:∀ tk',(⟨hp,g,d,tk',os⟩:MW).TypeIs (.ref a) "zip":=fun _=>⟨_,hx,rfl⟩;have f1:=RH;have f3:=F.slot_zip_getattribute.lookup;have f4:=F.slot_zip_getattribute.bind (.ref a);have f5:=pS;unfold Qz getAttrBy?
 repeat (any_goals (first|assumption|exact hT _|((with_reducible show M5 _ _ (call _ _ _) _ _ _);refine RM F.slot_zip_getattribute (hT _) yt (F.args_zip_getattribute_2 _ _) (tZ a vs _) ⟨hx,hA,fun h' t' e hx'=>?_⟩)|wp_step))
 obtain⟨t1,u1,he⟩:=hx'.there;show M5 _ _ (Px _ _ _ _ _ _ _) _ _ _
 unfold Px
 repeat (any_goals (first|assumption|wp_step))
 exact h _ _ hx'.keeps
end
structure PWalk(prog:Nf)(w:Nn)(A:Nh)(it:MU)(wr:List MU)(n:Nat)(Pv:Nat->MV->MV->Prop)(St:Nat->No->Prop):Prop where
 frame:∀ i h h',St i h->(∀ c o,o.cls≠.type "dict"->h.get? c=some o->h'.get? c=some o)->St i h'
 item:∀ i (s:MW) (Q:Option MV->MW->Prop) (E:MV->MW->Prop),i < n->St i s.heap->
  (∀ h' tk p k v,Pv i k v->(∃ o m,h'.get? p=some o/\o.cls=.type "tuple"/\o.data=.seq #[k,v] m)->St (i+1) h'->(∀ c o,c∉wr->s.heap.get? c=some o->h'.get? c=some o)->Q (some (.ref p)) { s with heap:=h',toks:=tk })->
  M5 (M9 prog w) A (OB (.ref it)) Q E s
 done:∀ (s:MW) (Q:Option MV->MW->Prop) (E:MV->MW->Prop),St n s.heap->(∀ h' tk,(∀ c o,c∉wr->s.heap.get? c=some o->h'.get? c=some o)->Q none { s with heap:=h',toks:=tk })->
  M5 (M9 prog w) A (OB (.ref it)) Q E s
theorem gl:plainId "dict.update.loop"=true:=by decide +kernel
theorem mv:entryFor table "dict.update.loop"=some Builtin.«dict.update.loop»:=entryFor_of_tree (by kernel_rfl)
section
variable{prog:Nf}{w:Nn}{A:Nh}{it d:MU}{wr:List MU}{n:Nat}{Pv:Nat->MV->MV->Prop}{St:Nat->No->Prop}{R:RT->MW->Prop}{h0:No}
def Lp(prog:Nf)(w:Nn)(h:No)(d:MU)(xs:List (List aM×MU×MV)):Prop:=
 ∃ o es ep,h.get? d=some o/\o.ExactDict/\o.data=.dict es ep/\es.toList=xs.map (entryOfKey (N6 (bu prog w)))/\(xs.map (·.1)).Nodup
theorem A6{p:MU}{k v:MV}{s:MW}{E:MV->MW->Prop}{Q:List MV->MW->Prop}(h:∃ o m,s.heap.get? p=some o/\o.cls=.type "tuple"/\o.data=.seq #[k,v] m)(q:Q [k,v] s):M5 (M9 prog w) A (Ri (.ref p)) Q E s:=by
 obtain⟨o,m,e,c,dt⟩:=h;unfold Ri;refine MT (Q_ (T:="tuple") ⟨o,e,c⟩ ?_);rw[if_pos (by decide)]
 exact MT (ON e dt (MX q))
theorem DX(W:PWalk prog w A.in1 it wr n Pv St)(hu:A.units+1 < NM)(hd:d∉wr)(hn:n<=M4)(Acc:Nat->List (List aM×MU×MV)->Prop)
  (hk:∀ i k v xs,Pv i k v->Acc i xs->∃ ks b,k=.ref b/\Acc (i+1) (Qg xs ks b v)/\∀ h,(∀ c o,c∉wr->c≠d->h0.get? c=some o->h.get? c=some o)->(N6 (bu prog w)).is h ks b)
  (hx:∀ i xs,Acc i xs->xs.length<=i/\∀ x∈xs,∀ h,(∀ c o,c∉wr->c≠d->h0.get? c=some o->h.get? c=some o)->(N6 (bu prog w)).is h x.1 x.2.1):
  ∀ (k i:Nat) (s:MW) (xs:List (List aM×MU×MV)),n - i=k->i<=n->St i s.heap->(∀ c o,c∉wr->c≠d->h0.get? c=some o->s.heap.get? c=some o)->Lp prog w s.heap d xs->Acc i xs->
   (∀ h' tk ys,(∀ c o,c∉wr->c≠d->h0.get? c=some o->h'.get? c=some o)->(∀ c o,c∉wr->c≠d->s.heap.get? c=some o->h'.get? c=some o)->Lp prog w h' d ys->Acc n ys->R (.ok (.ret .none)) { s with heap:=h',toks:=tk })->
   Ps (M9 prog w) A (.builtin "dict.update.loop" ⟨[.ref d,.ref it,O0 i,.none],[]⟩) R s:=by
 intro k
 induction k with
 | zero=>
  intro i s xs hk' hi st keep dr ac hR;have hin:i=n:=by walk_at "o"
  subst hin;refine codeAny_builtin mv ?_;rw[Rv gl _];show M5 _ A.in1 (OB (.ref it) >>= _) _ _ s
  refine MT (W.done s _ _ st fun h' tk kp=>?_);show M5 _ _ (Builtin.Dict.addKeywords d [] >>= _) _ _ _
  refine MT (MX (MX ?_));obtain⟨o,es,ep,e,r⟩:=dr;exact hR h' tk xs (fun c o hc hcd q=>kp c o hc (keep c o hc hcd q)) (fun c o hc _ q=>kp c o hc q) ⟨o,es,ep,kp d o hd e,r⟩ ac
 | succ k ih=>
  intro i s xs hk' hi st keep dr ac hR;have hlt:i < n:=by walk_at "o"
  refine codeAny_builtin mv ?_;rw[Rv gl _];show M5 _ A.in1 (OB (.ref it) >>= _) _ _ s
  refine MT (W.item i s _ _ hlt st fun h1 t1 p kv vv pv tp st1 kp=>?_);obtain⟨ks,b,rfl,ac',key⟩:=hk i kv vv xs pv ac;refine MT (NO (MT (wpAny_tryCatch (A6 tp ?_))));refine NO ?_;obtain⟨o,es,ep,e,r1,r2,r3,r4⟩:=dr;have Vr:∀ c o,c∉wr->c≠d->h0.get? c=some o->h1.get? c=some o:=fun c o hc hcd q=>kp c o hc (keep c o hc hcd q);obtain⟨len,keys⟩:=hx i xs ac;have dd:Heap.DictOfH (N6 (bu prog w)) h1 d xs:=⟨o,es,ep,kp d o hd e,r1,r2,r3,fun x hx'=>keys x hx' h1 Vr,r4⟩;refine RA (s:={ s with heap:=h1,toks:=t1 }) (hsz:=by walk_at "o") (show A.in1.units < NM from hu) (key h1 Vr) dd fun h2 dd2 sb=>?_
  obtain⟨o2,es2,ep2,e2,q1,q2,q3,_,q4⟩:=dd2;have up:∀ c o,c≠d->h1.get? c=some o->h2.get? c=some o:=fun c o hc q=>sb.extBut _ _ hc q;have kpd:h1.get? d=some o:=kp d o hd e;refine MX ⟨plainId_quiet gl _,?_⟩;have:=ih (i+1) { s with heap:=h2,toks:=t1+(N6 (bu prog w)).draws ks } (Qg xs ks b vv) (by walk_at "o") hlt (W.frame _ _ _ st1 fun c o' hc q=>up c o' (fun z=>by subst z;rw[kpd]at q;cases q;exact hc r1.1) q) (fun c o hc hcd q=>up c o hcd (Vr c o hc hcd q)) ⟨o2,es2,ep2,e2,q1,q2,q3,q4⟩ ac'
   fun h' tk ys k1 k2 k3 k4=>hR h' tk ys k1 (fun c o hc hcd q=>k2 c o hc hcd (up c o hcd (kp c o hc q))) k3 k4
  exact this
end
end L2
namespace L3
open PySem PySem.Spec PyProof.Rows L2
def zr(kv:List aM×D):D:=.tup [.tup (kv.1.map kD),kv.2]
def dictOf(kvs:List (List aM×D)):List (List aM×D):=kvs.foldl (fun a kv=>bH a kv.1 kv.2) []
theorem pE(kvs:List (List aM×D)):∀ a:List (List aM×D),(kvs.foldl (fun a kv=>bH a kv.1 kv.2) a).length<=a.length+kvs.length:=by
 induction kvs with
 | nil=>intro a;exact le_refl _
 | cons kv r ih=>
  intro a;have h1:=ih (bH a kv.1 kv.2);have h2:=fT a kv.1 kv.2;simp only[Py,Ni];omega
theorem Am{kvs:List (List aM×D)}{i:Nat}{kv:List aM×D}(h:kvs[i]?=some kv):dictOf (kvs.take (i+1))=bH (dictOf (kvs.take i)) kv.1 kv.2:=by
 unfold dictOf;rw[NF,h,List.foldl_append];rfl
theorem yy(kvs:List (List aM×D)):((dictOf kvs).map (·.1)).Nodup:=by
 unfold dictOf
 suffices h:∀ a:List (List aM×D),(a.map (·.1)).Nodup->((kvs.foldl (fun a kv=>bH a kv.1 kv.2) a).map (·.1)).Nodup from h [] QG
 induction kvs with
 | nil=>intro a h;exact h
 | cons kv r ih=>intro a h;exact ih _ (nK kv.1 kv.2 h)
theorem Du{prog:Nf}{w:Nn}{A:Nh}{E:MV->MW->Prop}{s:MW}{src:MU}{T:String}{Q:MV->MW->Prop}(hT:∃ o,s.heap.get? src=some o/\o.cls=.type T)(hne:(Value.type T != Value.type "dict")=true)
  (hno:∀ (s':MW) (Q':Option MV->MW->Prop) (E':MV->MW->Prop),(∀ c o,s.heap.get? c=some o->s'.heap.get? c=some o)->(∀ h' tk,(∀ c o,s'.heap.get? c=some o->h'.get? c=some o)->Q' none { s' with heap:=h',toks:=tk })->M5 (M9 prog w) A.in1.in1 (Qz (.ref src) "keys") Q' E' s')
  (h:∀ h' tk,(∀ c o,s.heap.get? c=some o->h'.get? c=some o)->h'.get? s.heap.objs.size=some { cls:=.type "dict",data:=.dict #[] }->
   M5 (M9 prog w) A.in1.in1 (Pu (.ref src)) (fun it s2=>Ps (M9 prog w) A.in1 (.builtin "dict.update.loop" ⟨[.ref s.heap.objs.size,it,O0 0,.none],[]⟩) (wants (fun r s₂=>r=.none/\Q (.ref s.heap.objs.size) s₂) E) s2) (fun e s'=>wants (fun r s₂=>r=.none/\Q (.ref s.heap.objs.size) s₂) E (.error e) s') { s with heap:=h',toks:=tk }):
  M5 (M9 prog w) A (call (.type "dict") [.ref src]) Q E s:=by
 refine callType_codes (Q₁:=fun obj s₁=>obj=.ref s.heap.objs.size/\s₁={ s with heap:=s.heap.push { cls:=.type "dict",data:=.dict #[] } }) F.kt_called_dict (F.kt_typeCall_dict_1 _) F.entry_dict_init (kt_code_dict_new _ ⟨rfl,rfl⟩) ?_
 rintro obj s₁ ⟨rfl,rfl⟩
 have hd:(s.heap.push { cls:=.type "dict",data:=.dict #[] }).get? s.heap.objs.size=some { cls:=.type "dict",data:=.dict #[] }:=M6 _ rfl;have tyd:Shared.TypeIs { s with heap:=s.heap.push { cls:=.type "dict",data:=.dict #[] } } (.ref s.heap.objs.size) "dict":=⟨_,hd,rfl⟩
 obtain⟨o,e,c⟩:=hT;have up:∀ c o,s.heap.get? c=some o->(s.heap.push { cls:=.type "dict",data:=.dict #[] }).get? c=some o:=fun c o e=>M0 _ e;refine⟨tyd,F.args_dict_init_2 _ _,?_⟩;unfold Builtin.«dict.__init__»;refine MT ?_;unfold Builtin.Dict.selfAndRest;refine MT (P6 tyd ?_);show M5 _ _ (pure (s.heap.objs.size,[Value.ref src])) _ _ _;refine MX ?_
 show M5 _ _ (Q9 "dict.__init__" s.heap.objs.size (.ref src) [] .none) _ _ _
 unfold Q9;refine MT (Q_ (T:=T) ⟨o,up _ _ e,c⟩ ?_);rw[if_pos hne];refine MT (hno _ _ _ up fun h' tk kp=>?_);simp only[Option.isNone_none,if_true];refine MT (Qq ?_);refine MT (NR (h h' tk (fun c o e=>kp c o (up c o e)) (kp _ _ hd)) (fun it s2 q=>MX ⟨plainId_quiet gl _,q⟩) fun _ _ q=>q)
section
variable{X:Cx}{pins:List (MU×Obj)}{τ:St}{H1:Hp}{s1:MW}{G1:Gp}
theorem Al{src:MU}{T:String}{kvs:List (List aM×D)}{Q:MV->MW->Prop}(hu:X.A.units+8 < NM)(I1:L2.Inv X pins τ H1 s1)(rg1:RG X.K H1 G1)(hz:kvs.length<=900000)
  (hT:∃ o,s1.heap.get? src=some o/\o.cls=.type T) (hne:(Value.type T != Value.type "dict")=true)
  (hno:∀ (s':MW) (Q':Option MV->MW->Prop) (E':MV->MW->Prop),(∀ c o,s1.heap.get? c=some o->s'.heap.get? c=some o)->(∀ h' tk,(∀ c o,s'.heap.get? c=some o->h'.get? c=some o)->Q' none { s' with heap:=h',toks:=tk })->M5 (M9 X.prog X.w) X.A.in1.in1 (Qz (.ref src) "keys") Q' E' s')
  (hit:∀ (h2:No) (tk2:Nat) (Q':MV->MW->Prop) (E':MV->MW->Prop),(∀ c o,s1.heap.get? c=some o->h2.get? c=some o)->s1.heap.objs.size < h2.objs.size->
   (∀ it wr Pv St h3,PWalk X.prog X.w X.A.in1.in1 it wr kvs.length Pv St->St 0 h3->(∀ c o,h2.get? c=some o->h3.get? c=some o)->(∀ b∈wr,qW X pins H1 b/\b≠s1.heap.objs.size)->
    (∀ i k v,Pv i k v->∃ kv b x,kvs[i]?=some kv/\k=.ref b/\kT X.K H1 b (kv.1.map kV)/\RD X.K H1 kv.2 x/\aN x v)->Q' (.ref it) { s1 with heap:=h3,toks:=tk2 })->
   M5 (M9 X.prog X.w) X.A.in1.in1 (Pu (.ref src)) Q' E' { s1 with heap:=h2,toks:=tk2 })
  (q:∀ s' H',L2.Inv X pins τ H' s'->H1 s1.heap.objs.size=none->Kp G1 H1 (gset G1 s1.heap.objs.size (.dT (ah X.prog X.w) (dictOf kvs))) H'->RG X.K H' (gset G1 s1.heap.objs.size (.dT (ah X.prog X.w) (dictOf kvs)))->Q (.ref s1.heap.objs.size) s'):
  M5 (M9 X.prog X.w) X.A (call (.type "dict") [.ref src]) Q X.xe s1:=by
 have hsl:=ai;have sle:=N3;refine Du hT hne hno fun h2 tk2 kp2 hd2=>?_;refine hit h2 tk2 _ _ kp2 (Nc hd2) fun it wr Pv St h3 W st0 kp3 hwr hpv=>?_;have hf:H1 s1.heap.objs.size=none:=I1.hok.fresh (le_refl _);have hdw:s1.heap.objs.size∉wr:=fun z=>(hwr _ z).2 rfl;have ltk:∀ {b:MU} {ks:List aM},kT X.K H1 b (ks.map kV)->b∉wr/\b≠s1.heap.objs.size/\∀ h:No,(∀ c o,c∉wr->c≠s1.heap.objs.size->s1.heap.get? c=some o->h.get? c=some o)->(N6 (bu X.prog X.w)).is h ks b:=fun {b ks} sq=>by
  have key:=key_at I1 sq;obtain⟨o,its,n,e,c,dd,ii⟩:=id key;have hb1:b≠s1.heap.objs.size:=NB (Nc e);have hb2:b∉wr:=fun z=>by
   obtain⟨⟨g0,g1,g2,g3,g4,g5⟩,_⟩:=hwr b z;rcases sq with (e1|⟨o',e1⟩)|⟨o',its',n',kl,_⟩
   ·rw[g0]at e1;cases e1
   ·rw[g0]at e1;cases e1
   ·have e2:X.base.get? b=some o':=I1.mod.kin b o' kl;rcases g3 with g3|g3
    ·exact I1.ok.noex b o' e2 g3
    ·exact absurd (Nc (I1.ok.bs b o' e2).1) (Nat.not_lt.mpr g3)
  exact⟨hb2,hb1,fun h kp=>⟨o,its,n,kp b o hb2 hb1 e,c,dd,ii⟩⟩
 have WQ:∀ {i:Nat} {xs:List (List aM×MU×MV)},pR X.K H1 (dictOf (kvs.take i)) xs->xs.length<=i/\∀ x∈xs,kT X.K H1 x.2.1 (x.1.map kV):=fun {i xs} r=>by
  refine⟨?_,?_⟩
  ·rw[<- r.length];have:=pE (kvs.take i) [];rw[Nq]at this;unfold dictOf;simp only[NG]at this;omega
  ·unfold pR at r;generalize dictOf (kvs.take i)=ks at r
   induction r with
   | nil=>intro x hx;exact nomatch hx
   | @cons p q ps qs hq t ih=>
    intro x hx;rcases NH.mp hx with e|hx
    ·subst e;rw[<- hq.1];exact hq.2.1
    ·exact ih x hx
 refine DX (A:=X.A.in1) (h0:=s1.heap) (d:=s1.heap.objs.size) W (show X.A.units+1+1 < NM by walk_at "o") hdw (by walk_at "o") (fun i xs=>pR X.K H1 (dictOf (kvs.take i)) xs) (fun i k v xs pv ac=>?_) (fun i xs ac=>?_) kvs.length 0 { s1 with heap:=h3,toks:=tk2 } [] (Qx _) (NI _) st0 (fun c o _ _ e=>kp3 c o (kp2 c o e)) ⟨_,#[],0,kp3 _ _ hd2,⟨rfl,rfl,rfl⟩,rfl,rfl,QG⟩ .nil fun h' tk ys k1 k2 dr ac=>?_
 ·obtain⟨kv,b,x,e,rfl,sq,rd,rv⟩:=hpv i k v pv;refine⟨kv.1,b,rfl,?_,(ltk sq).2.2⟩;show pR X.K H1 (dictOf (kvs.take (i+1))) _
  rw[Am e];exact pR.put ac kv.1 sq rd rv
 ·obtain⟨len,ks⟩:=WQ ac;exact⟨len,fun x hx h kp=>(ltk (ks x hx)).2.2 h kp⟩
 ·rw[ND]at ac;obtain⟨o,es,ep,e,r1,r2,r3,r4⟩:=dr;have hsm:(s1.heap.objs.size == NK)=false:=beq_eq_false_iff_ne.mpr (Ne.symm (NB I1.big));have fd:o.isFreed=false:=by
   obtain⟨c,dd,dt,sl⟩:=o;have r2':dt=.dict es ep:=r2;subst r2';rfl
  obtain⟨kpp,rg2⟩:=Hd (o:=.dT (ah X.prog X.w) (dictOf kvs)) (ho:=.ext (yP (ah X.prog X.w) s1.heap.objs.size ys)) rg1 hf fun H' st=>⟨ys,rfl,ac.mono st,yy kvs,by
   have:=pE kvs [];unfold dictOf;simp only[NG]at this;omega⟩
  have I2:L2.Inv X pins τ (bG H1 s1.heap.objs.size (.ext (yP (ah X.prog X.w) s1.heap.objs.size ys))) { s1 with heap:=s1.heap.push o,toks:=s1.toks }:=
   I1.laid (fun _ _ q=>M0 _ q) (le_refl _) (qQ ⟨hsm,o,es,ep,M6 _ fd,r1,r2,r3⟩)
  have I3:=Inv.turnedL (s:={ s1 with heap:=s1.heap.push o,toks:=s1.toks }) (h':=h') (t':=tk) (fp:=wr) I2 (fun b o' hb qb=>by
   have qb':(s1.heap.push o).get? b=some o':=qb
   by_cases hbs:b=s1.heap.objs.size
   ·subst hbs;rw[M6 _ fd]at qb';cases qb';exact e
   ·rw[R0 _ _ _ hbs]at qb';exact k1 b o' hb hbs qb') fun b hb=>by
   obtain⟨⟨g0,g1,g2,g3,g4,g5⟩,nb⟩:=hwr b hb;exact⟨by rw[aB nb];exact g0,g1,g2,g3,g4,g5⟩
  exact⟨rfl,q _ _ I3 hf kpp rg2⟩
end
end L3
namespace L2
open PySem PySem.Spec PyProof.Rows
theorem A2{prog:Nf}{w:Nn}{A:Nh}{it l:MU}{us:List MV}{Pv:Nat->MV->MV->Prop}(hh:A.handled=none):
  PWalk prog w A it [it] us.length Pv (fun i h=>h.IsListIter it l i/\h.IsList l us.toArray/\∀ j u,us[j]?=some u->∃ p kk vv,u=.ref p/\(∃ o m,h.get? p=some o/\o.cls=.type "tuple"/\o.data=.seq #[kk,vv] m)/\Pv j kk vv) where
 frame:=fun i h h' ⟨⟨o1,e1,c1,d1⟩,⟨o2,e2,c2,d2⟩,ps⟩ kp=>⟨⟨o1,kp _ _ (by rw[c1];decide) e1,c1,d1⟩,⟨o2,kp _ _ (by rw[c2];decide) e2,c2,d2⟩,fun j u hu=>by
  obtain⟨p,kk,vv,e,⟨o,m,g,c,dt⟩,pv⟩:=ps j u hu;exact⟨p,kk,vv,e,⟨o,m,kp _ _ (by rw[c];decide) g,c,dt⟩,pv⟩⟩
 item:=fun i s Q E hi ⟨x1,x2,ps⟩ q=>by
  have hu:us[i]?=some us[i]:=M1 hi;obtain⟨p,kk,vv,e,tp,pv⟩:=ps i _ hu;refine Ra x1 x2 (x:=us[i]) (by simpa using hu) fun h' st' sb=>?_
  obtain⟨o1,e1,c1,_⟩:=x1;obtain⟨o2,e2,c2,_⟩:=id x2;have ne:∀ {b:MU} {o:Obj} {T:String},s.heap.get? b=some o->o.cls=.type T->Value.type T≠.type "list_iterator"->b≠it:=fun hb hc hT z=>by subst z;rw[e1]at hb;cases hb;rw[c1]at hc;exact hT hc.symm
  have lk:∀ {p:MU} {kk vv:MV},(∃ o m,s.heap.get? p=some o/\o.cls=.type "tuple"/\o.data=.seq #[kk,vv] m)->∃ o m,h'.get? p=some o/\o.cls=.type "tuple"/\o.data=.seq #[kk,vv] m:=fun⟨o,m,g,c,dt⟩=>⟨o,m,(sb.2 _ (ne g c (by decide))).trans g,c,dt⟩
  rw[e];refine q h' s.toks p kk vv pv (lk tp) ⟨st',x2.at fun o g=>(sb.2 l (ne e2 c2 (by decide))).trans g,fun j u hu=>?_⟩ fun c o hc g=>(sb.2 c (fun z=>hc (by simp[z]))).trans g
  obtain⟨p',k',v',e',tp',pv'⟩:=ps j u hu;exact⟨p',k',v',e',lk tp',pv'⟩
 done:=fun s Q E ⟨x1,x2,ps⟩ q=>Rk hh x1 x2 (by simp) fun h' eb=>q h' s.toks fun c o hc g=>eb c o (fun z=>hc (by simp[z])) g
theorem Cu.wr{k1 k2:Zk}{z TI TO i1 i2:MU}{i:Nat}{h:No}(x:Cu k1 k2 z TI TO i1 i2 i h):∀ b∈[z,TI,TO,i1,i2],∃ o,h.get? b=some o/\o.cls≠.type "list"/\o.cls≠.type "dict":=by
 obtain⟨⟨f0,f1,_,hz⟩,hTI,⟨a,b',hTO⟩,h1,h2⟩:=x;have nd:∀ {k:Zk} {it:MU},k.it it i h->∃ o,h.get? it=some o/\o.cls≠.type "list"/\o.cls≠.type "dict":=fun {k it} y=>by
  cases k with
  | lst l xs=>
   obtain⟨o,e,c,_⟩:=y;exact⟨o,e,by rw[c];decide,by rw[c];decide⟩
  | txt z t=>
   obtain⟨o,e,c,_⟩:=y;refine⟨o,e,?_⟩;rw[c];rcases no z with q|q<;>rw[q]<;>decide
 intro b hb;simp only[NH,N4,or_false]at hb;rcases hb with rfl|rfl|rfl|rfl|rfl
 ·exact⟨_,hz,by show Value.type "zip"≠_;decide,by show Value.type "zip"≠_;decide⟩
 ·exact⟨_,hTI,by show Value.type "tuple"≠_;decide,by show Value.type "tuple"≠_;decide⟩
 ·exact⟨_,hTO,by show Value.type "tuple"≠_;decide,by show Value.type "tuple"≠_;decide⟩
 ·exact nd h1
 ·exact nd h2
theorem Zk.stay{k:Zk}{h h':No}(r:k.ready h)(q:∀ c o,o.cls=.type "list"->h.get? c=some o->h'.get? c=some o):k.ready h':=by
 cases k with
 | lst l xs=>
  obtain⟨us,rv,o,e,c,d⟩:=r;exact⟨us,rv,o,q l o c e,c,d⟩
 | txt z t=>exact True.intro
theorem CN{prog:Nf}{w:Nn}{A:Nh}{k1 k2:Zk}{z TI TO i1 i2:MU}(hh:A.in1.handled=none)(D:ZAp z TI TO i1 i2):
  PWalk prog w A z [z,TI,TO,i1,i2] (min k1.vs.length k2.vs.length) (fun i k v=>∃ u x,k1.vs[i]?=some u/\k2.vs[i]?=some x/\aN u k/\aN x v) (fun i h=>Cu k1 k2 z TI TO i1 i2 i h/\k1.ready h/\k2.ready h) where
 frame:=fun i h h' ⟨st,r1,r2⟩ kp=>⟨st.keep fun b hb o e=>by
  obtain⟨o',e',_,c⟩:=st.wr b hb;rw[e]at e';cases e';exact kp b o c e,Zk.stay r1 fun c o hc e=>kp c o (by rw[hc];decide) e,Zk.stay r2 fun c o hc e=>kp c o (by rw[hc];decide) e⟩
 item:=fun i s Q E hi ⟨st,r1,r2⟩ q=>by
  refine BG hh D st r1 r2 (by walk_at "o") (by walk_at "o") fun h' tk x y u v e1 e2 ru rv st' tp sz kp=>?_
  have ls:∀ c o,o.cls=.type "list"->s.heap.get? c=some o->h'.get? c=some o:=fun c o hc e=>kp c o (fun hb=>by
   obtain⟨o',e',c',_⟩:=st.wr c hb;rw[e]at e';cases e';exact c' hc) e
  exact q h' tk _ x y ⟨u,v,e1,e2,ru,rv⟩ ⟨_,_,tp,rfl,rfl⟩ ⟨st',Zk.stay r1 ls,Zk.stay r2 ls⟩ kp
 done:=fun s Q E ⟨st,r1,r2⟩ q=>DN hh D st r1 r2 rfl fun h' tk kp=>q h' tk kp
end L2
namespace L3
open PySem PySem.Spec PyProof.Rows L2
theorem wI:On "dict"=some (.type "dict"):=by kernel_rfl
theorem HZ{X:Cx}{tg:Np}{a b:Np}{ta:pQ}{p pos:Pos}(hg:Gl X "zip")(hm:X.mg "zip"=none)(ha:PA X [a,b] (fC X.K ta))(hs:M_ [a,b] X.env=[(false,eval a X.env),(false,eval b X.env)]:=by rfl)(hs2:M_ [b] X.env=[(false,eval b X.env)]:=by rfl):
  PI X tg (.Call (.Name "zip" p) [a,b] [] pos) (rj X.K (Dn ta)):=by
 intro pins s τ H R I h;obtain⟨σ,G,Q3,rs,rg,hq,k⟩:=h;refine R6 (kM I hg hm Au (PyProof.Rows.callWith_type1 (cY (ha pos pins s τ H (fun vs H1=>∃ ds G1,(match ds with|[x,y]=>∃ a b,(gA x=some a/\gA y=some b)/\Q3 (oo a b) G1|_=>False)/\Kp G H G1 H1/\RG X.K H1 G1/\RDs X.K H1 ds vs) I
  ⟨σ,G,_,rs,rg,hq,fun ds G1 vs H1 q k1 rg1 rds=>⟨ds,G1,q,k1,rg1,rds⟩⟩) fun us s1 ⟨vs,H1,I1,r1,q1⟩=>?_) (by rw[hs,hs2]) (by rw[hs2];rfl)))
 obtain⟨ds,G1,q,k1,rg1,rds⟩:=q1;split at q
 ·rename_i x y;obtain⟨as,bs,⟨ea,eb⟩,q⟩:=q;obtain⟨v,v',rfl,rd1,rd2⟩:=wR rds;obtain⟨u,u',rfl,ru1,ru2⟩:=r1.two;obtain⟨z1,rfl,_,w1⟩:=BH ea rd1 ru1;obtain⟨z2,rfl,_,w2⟩:=BH eb rd2 ru2;have hr1:=(w1 G1 G1 H1 rg1 Kp.refl).1;have hr2:=(w2 G1 G1 H1 rg1 Kp.refl).1;refine wH (Zk.of I1 hr1) (Zk.of I1 hr2) fun h' zs hsz kp=>?_;have D:ZAp (s1.heap.objs.size+4) (s1.heap.objs.size+2) (s1.heap.objs.size+3) s1.heap.objs.size (s1.heap.objs.size+1):=⟨NB (O6 (s1.heap.objs.size+2)),NB (O6 s1.heap.objs.size)⟩;refine (sI (P:=X.prog) (w:=X.w) (K:=X.K) (tg:=tg) z1 z2 _ _ _ _ _ D).self _ 0 _ _ _ zs ?_;refine⟨s1.heap.objs.size+4,[s1.heap.objs.size+4,s1.heap.objs.size+2,s1.heap.objs.size+3,s1.heap.objs.size,s1.heap.objs.size+1],_,_,H1,rfl,I1.kept (t':=s1.toks) kp,sI z1 z2 _ _ _ _ _ D,zs,fun c hc=>?_,k _ G1 _ H1 q k1 rg1 (Jw rg1 w1 w2)⟩;have hc':s1.heap.objs.size<=c:=by
   simp only[NH,N4,or_false]at hc;rcases hc with rfl|rfl|rfl|rfl|rfl<;>first|exact le_refl _|exact O7 _ _
  exact I1.fpOk hc' (I1.hok.fresh hc')
 ·exact q.elim
def Bv(hw:List aM->Int)(te:bJ):bJ:=fun σ G Q=>te σ G fun x G1=>match yJ G1 (val x) with
 | some ds=>∃ kvs:List (List aM×D),(ds=kvs.map zr/\kvs.length<=900000)/\∀ p,G1 p=none->Q (.ref p) (gset G1 p (.dT hw (dictOf kvs)))
 | none=>False
def Bu(hw:List aM->Int)(ta:pQ):bJ:=fun σ G Q=>ta σ G fun ds G1=>match ds with
 | [x,y]=>∃ a b,∃ kvs:List (List aM×D),(gA x=some a/\gA y=some b/\oo a b=kvs.map zr/\kvs.length<=900000)/\∀ p,G1 p=none->Q (.ref p) (gset G1 p (.dT hw (dictOf kvs)))
 | _=>False
theorem HV{K:PySem.W.Frag}{H:Hp}{ks:List aM}{v:V}(r:RD K H (.tup (ks.map kD)) v):∃ b,v=.ref b/\kT K H b (ks.map kV):=sv (d:=.tup (ks.map kD)) (Cc ks) r
theorem GF{X:Cx}{e:Np}{te:bJ}{p1 pos:Pos}(hu:X.A.units+8 < NM)(hc:X.calm=true)(hg:Gl X "dict")(hm:X.mg "dict"=none)(he:PE X e (aJ X.K te))(hs:M_ [e] X.env=[(false,eval e X.env)]:=by rfl):
  PE X (.Call (.Name "dict" p1) [e] [] pos) (aJ X.K (Bv (ah X.prog X.w) te)):=by
 rintro pins s τ H Q I ⟨σ,G,Q3,rs,rg,h,k⟩
 refine R6 (kM I hg hm wI (PyProof.Rows.callWith_type1 ?_ hs rfl) (by decide) (by decide))
 rw[show N9 pos (M_ [e] X.env)=[(false,eval e X.env)]by rw[hs];rfl]
 refine OF (cY (eU he I rs rg h) fun ov s1 ⟨ox,H1,I1,rox,x,G1,q1,k1,rg1,rd1⟩=>Pa ?_);split at q1
 ·rename_i ds hq;obtain⟨kvs,⟨rfl,hz⟩,q1⟩:=q1;obtain⟨l,xs,rfl,sq,r⟩:=n_ (G:=G1) (H:=H1) hq (.of rd1) rg1;cases rox;obtain⟨its,rv,pl,_⟩:=I1.list sq;have n1:=r.length;have n2:=rv.length;rw[MY]at n1;obtain⟨lo,ln,le,lc,ld,ldat⟩:=id pl;have tps:∀ (j:Nat) u,its[j]?=some u->∃ p kk vv,u=.ref p/\(∃ o m,s1.heap.get? p=some o/\o.cls=.type "tuple"/\o.data=.seq #[kk,vv] m)/\∃ kv b x,kvs[j]?=some kv/\kk=.ref b/\kT X.K H1 b (kv.1.map kV)/\RD X.K H1 kv.2 x/\aN x vv:=fun j u hu=>by
   obtain⟨v,e1,ru⟩:=Vals.getV rv hu;obtain⟨d,e2,rd⟩:=RDs.getV r e1;rw[Ng]at e2;cases hkv:kvs[j]? with
   | none=>rw[hkv]at e2;cases e2
   | some kv=>
    rw[hkv]at e2;cases e2;unfold zr at rd;simp only[RD]at rd;obtain⟨p,ys,rfl,sqp,ry⟩:=rd;obtain⟨y1,y2,rfl,ra,rb⟩:=wR ry;obtain⟨b,rfl,sb⟩:=HV (ks:=kv.1) (by simpa only[RD]using ra)
    cases ru;obtain⟨its2,rv2,tp,_⟩:=I1.tuple sqp;obtain⟨o,g1,g2,m,g3⟩:=tp;obtain⟨w1,w2,rfl,rw1,rw2⟩:=rv2.two;cases rw1;exact⟨p,_,w2,rfl,⟨o,m,g1,g2,by simpa using g3⟩,kv,b,y2,rfl,rfl,sb,rb,rw2⟩
  refine Al (T:="list") (kvs:=kvs) hu I1 rg1 hz ⟨lo,le,lc⟩ (by decide) (fun s' Q' E' kp q'=>?_) (fun h2 tk2 Q' E' kp hlt q'=>?_) fun s' H' I' hf kp rg'=>⟨.ref s1.heap.objs.size,H',I',rfl,k _ _ _ H' (q1 _ (rg1.free hf)) (k1.trans kp) rg' (.of iu)⟩
  ·obtain⟨c0,d0,t0,s0⟩:=lo;simp only at lc ld ldat;subst lc ld ldat;exact xT (kp _ _ le) (I.ok.hd hc) q'
  ·refine PF (pl.isList.at fun o e=>kp _ _ e) ?_;have hln:kvs.length=its.length:=n1.trans n2;have W:=A2 (prog:=X.prog) (w:=X.w) (A:=X.A.in1.in1) (it:=h2.objs.size) (l:=l) (us:=its) (Pv:=fun (j:Nat) (kk vv:MV)=>∃ (kv:List aM×D) (b:MU) (x:V),kvs[j]?=some kv/\kk=Value.ref b/\kT X.K H1 b (kv.1.map kV)/\RD X.K H1 kv.2 x/\aN x vv) (I.ok.hd hc);rw[<- hln]at W;refine q' h2.objs.size [h2.objs.size] _ _ _ W ⟨⟨_,M6 _ rfl,rfl,rfl⟩,(pl.isList.at fun o e=>kp _ _ e).push _,fun j u hu=>?_⟩ (fun c o e=>M0 _ e) (fun b hb=>?_) fun i k v pv=>pv
   ·obtain⟨p,kk,vv,e,⟨o,m,g1,g2,g3⟩,pv⟩:=tps j u hu;exact⟨p,kk,vv,e,⟨o,m,M0 _ (kp _ _ g1),g2,g3⟩,pv⟩
   ·have e:=Qo.mp hb;subst e;exact⟨I1.fpOk (le_of_lt hlt) (I1.hok.fresh (le_of_lt hlt)),Qy hlt⟩
 ·exact q1.elim
theorem GE{X:Cx}{a b:Np}{ta:pQ}{p1 p2 pos Vz:Pos}(hu:X.A.units+8 < NM)(hc:X.calm=true)(hg1:Gl X "dict")(hm1:X.mg "dict"=none)(hg2:Gl X "zip")(hm2:X.mg "zip"=none)(ha:PA X [a,b] (fC X.K ta))
  (hs:M_ [a,b] X.env=[(false,eval a X.env),(false,eval b X.env)]:=by rfl) (hs2:M_ [b] X.env=[(false,eval b X.env)]:=by rfl):
  PE X (.Call (.Name "dict" p1) [.Call (.Name "zip" p2) [a,b] [] Vz] [] pos) (aJ X.K (Bu (ah X.prog X.w) ta)):=by
 rintro pins s τ H Q I ⟨σ,G,Q3,rs,rg,h,k⟩
 refine R6 (kM I hg1 hm1 wI (PyProof.Rows.callWith_type1 ?_ rfl rfl) (by decide) (by decide))
 show M5 _ _ (spliced [(false,eval (.Call (.Name "zip" p2) [a,b] [] Vz) X.env)]) _ _ _
 refine OF (R6 (kM I hg2 hm2 Au (PyProof.Rows.callWith_type1 (cY (ha Vz pins s τ H (fun vs H1=>∃ ds G1,(match ds with|[x,y]=>∃ a b,∃ kvs:List (List aM×D),(gA x=some a/\gA y=some b/\oo a b=kvs.map zr/\kvs.length<=900000)/\∀ p,G1 p=none->Q3 (.ref p) (gset G1 p (.dT (ah X.prog X.w) (dictOf kvs)))|_=>False)/\Kp G H G1 H1/\RG X.K H1 G1/\RDs X.K H1 ds vs) I
  ⟨σ,G,_,rs,rg,h,fun ds G1 vs H1 q k1 rg1 rds=>⟨ds,G1,q,k1,rg1,rds⟩⟩) fun us s1 ⟨vs,H1,I1,r1,q1⟩=>?_) (by rw[hs,hs2]) (by rw[hs2];rfl)) (by decide) (by decide)))
 obtain⟨ds,G1,q,k1,rg1,rds⟩:=q1;split at q
 ·rename_i x y;obtain⟨as,bs,kvs,⟨ea,eb,ez,hz⟩,q⟩:=q;obtain⟨v,v',rfl,rd1,rd2⟩:=wR rds;obtain⟨u,u',rfl,ru1,ru2⟩:=r1.two;obtain⟨z1,rfl,t1,w1⟩:=BH ea rd1 ru1;obtain⟨z2,rfl,t2,w2⟩:=BH eb rd2 ru2;have n1:=t1.length;have n2:=t2.length;have hr1:=(w1 G1 G1 H1 rg1 Kp.refl).1;have hr2:=(w2 G1 G1 H1 rg1 Kp.refl).1;refine wH (Zk.of I1 hr1) (Zk.of I1 hr2) fun h' zs hsz kp=>Pa ?_;have I2:L2.Inv X pins τ H1 { s1 with heap:=h' }:=I1.kept (t':=s1.toks) kp
  have DZ:ZAp (s1.heap.objs.size+4) (s1.heap.objs.size+2) (s1.heap.objs.size+3) s1.heap.objs.size (s1.heap.objs.size+1):=⟨NB (O6 (s1.heap.objs.size+2)),NB (O6 s1.heap.objs.size)⟩;obtain⟨f0,f1,_,hzo⟩:=zs.1;have hlen:kvs.length=min z1.vs.length z2.vs.length:=by
   have:=lA as bs;rw[ez,MY]at this;omega
  refine Al (s1:={ s1 with heap:=h' }) (T:="zip") (kvs:=kvs) hu I2 rg1 hz ⟨_,hzo,rfl⟩ (by decide) (fun s' Q' E' kp' q'=>zC (kp' _ _ hzo) (I.ok.hd hc) q') (fun h2 tk2 Q' E' kp2 hlt q'=>?_) fun s' H' I' hf kp' rg'=>⟨.ref h'.objs.size,H',I',rfl,k _ _ _ H' (q _ (rg1.free hf)) (k1.trans kp') rg' (.of iu)⟩
  have zs2:Cu z1 z2 (s1.heap.objs.size+4) (s1.heap.objs.size+2) (s1.heap.objs.size+3) s1.heap.objs.size (s1.heap.objs.size+1) 0 h2:=zs.keep fun b _ o e=>kp2 b o e;refine (sI (P:=X.prog) (w:=X.w) (K:=X.K) (tg:=.Name "" pos) z1 z2 _ _ _ _ _ DZ).self _ 0 { s1 with heap:=h2,toks:=tk2 } _ _ zs2 ?_
  have W:=CN (prog:=X.prog) (w:=X.w) (A:=X.A.in1.in1) (k1:=z1) (k2:=z2) (I.ok.hd hc) DZ;rw[<- hlen]at W;refine q' _ _ _ _ _ W ⟨zs2,Zk.grow (Zk.of I1 hr1) fun c o e=>kp2 c o (kp c o e),Zk.grow (Zk.of I1 hr2) fun c o e=>kp2 c o (kp c o e)⟩ (fun _ _ e=>e) (fun c hc=>?_) fun i kk vv pv=>?_
  ·have hc':s1.heap.objs.size<=c/\c≠s1.heap.objs.size+5:=by
    simp only[NH,N4,or_false]at hc;rcases hc with rfl|rfl|rfl|rfl|rfl
    ·exact⟨O7 _ _,NB (Nat.add_lt_add_left (by decide) _)⟩
    ·exact⟨O7 _ _,NB (Nat.add_lt_add_left (by decide) _)⟩
    ·exact⟨O7 _ _,NB (Nat.add_lt_add_left (by decide) _)⟩
    ·exact⟨le_refl _,NB (Nat.lt_add_of_pos_right (by decide))⟩
    ·exact⟨O7 _ _,NB (Nat.add_lt_add_left (by decide) _)⟩
   refine⟨I1.fpOk hc'.1 (I1.hok.fresh hc'.1),?_⟩;show c≠h'.objs.size
   rw[hsz];exact hc'.2
  ·obtain⟨u,x,e1,e2,ru,rx⟩:=pv;obtain⟨d1,g1,r1⟩:=RDs.getV t1 e1;obtain⟨d2,g2,r2⟩:=RDs.getV t2 e2;have e3:=sE g1 g2;rw[ez,Ng]at e3;cases hkv:kvs[i]? with
   | none=>rw[hkv]at e3;cases e3
   | some kv=>
    rw[hkv]at e3;simp only[Option.map_some,Option.some.injEq,zr,D.tup.injEq,List.cons.injEq,and_true]at e3;obtain⟨rfl,rfl⟩:=e3;obtain⟨b,rfl,sb⟩:=HV r1;cases ru;exact⟨kv,b,x,rfl,rfl,sb,r2,rx⟩
 ·exact q.elim
def Fe(kv:List aM×D):D:=.tup (kv.1.map kD)
def Ee(te:bJ)(g:uO)(tb:cj):cj:=fun E σ G=>te σ G fun d G1=>match d with
 | .ref a=>∃ hw kvs,G1 a=some (.dT hw kvs)/\ForIn g tb { nx:=fun σ' G'=>E.nx σ' (gset G' a (.dT hw kvs)),rt:=fun _ _=>False } σ (kvs.map Fe) (gO G1 a)
 | _=>False
theorem Dk{prog:Nf}{w:Nn}{A:Nh}{E:MV->MW->Prop}{s:MW}{d:MU}{vs:List MV}{ep:Nat}{Q:MV->MW->Prop}(hd:(d == NK)=false)(x:DH s.heap d vs ep)
  (q:Q (.ref s.heap.objs.size) { s with heap:=s.heap.push { cls:=.type "dict_keyiterator",data:=.fields #[.ref d,.int 0 0,.int vs.length 0,.int ep 0] } }):M5 (M9 prog w) A (Pu (.ref d)) Q E s:=by
 obtain⟨o,es,ho,hc,hdat,rfl⟩:=id x;refine Qv x.ty PySem.F.slot_dict_iter (NU PySem.F.slot_dict_iter x.ty PySem.F.entry_dict_iter ?_ (PySem.F.args_dict_iter_1 _));unfold Builtin.«dict.__iter__»;refine MT ?_;unfold Builtin.Dict.dictSlotNone;refine MT (P6 x.ty ?_);show M5 _ _ (pure (Value.ref d)) _ _ s;refine MX ?_
 show M5 _ _ (Pd d >>= _) _ _ s;unfold Pd;rw[if_neg (by rw[hd];exact Bool.false_ne_true)]
 refine MT (MX ?_);refine MT (OL ho hdat ?_);refine MT (OX ho hdat ?_);refine MT (NC (MX ⟨_,rfl,"dict_keyiterator",_,⟨_,M6 _ rfl,rfl⟩,PySem.F.slot_dict_keyiterator_next.lookup,?_⟩))
 simpa[O0]using q
theorem AX{K:PySem.W.Frag}{H:Hp}:∀ ks:List aM,RDs K H (ks.map kD) (ks.map kV)
 | []=>RDs.nil
 | .inl i::r=>RDs.cons eT (AX r)
 | .inr x::r=>RDs.cons kB (AX r)
theorem pR.at{K:PySem.W.Frag}{H:Hp}{kvs:List (List aM×D)}{xs:List (List aM×MU×MV)}(r:pR K H kvs xs):∀ {i:Nat} {kv:List aM×D},kvs[i]?=some kv->∃ x,xs[i]?=some x/\RD K H (Fe kv) (.ref x.2.1):=by
 unfold pR at r
 induction r with
 | nil=>intro i kv h;simp at h
 | @cons p q ps qs hq t ih=>
  intro i kv h;cases i with
  | zero=>
   simp only[NS,Option.some.injEq]at h;subst h;refine⟨q,rfl,?_⟩;unfold Fe;simp only[RD];exact⟨q.2.1,_,rfl,hq.2.1,AX _⟩
  | succ i=>
   simp only[NT]at h ⊢;exact ih h
abbrev EX(a:MU)(o:Obj):HO:=.ext fun h=>h.get? a=some o
theorem KO{P:Nf}{w:Nn}{H:Hp}{h:No}{a:MU}{o:Obj}(e:h.get? a=some o):ce P w H h a (EX a o):=⟨e,⟨o,e⟩,fun _ _ q k=>k o q⟩
theorem ID{X:Cx}{tg iter:Np}{body:List Nu}{te:bJ}{g:uO}{tb:cj}{pos:Pos}(hp:Qj (M9 X.prog X.w) X.A X.env X.xe)(hc:X.calm=true)(hi:PE X iter (aJ X.K te))(hg:PG X tg (jN X.K g))(hb:rF X body (cL X.K tb))
  (hs:∀ x,NZ iter X.env x=pure x:=by intro _;rfl):PS X (.For tg iter body [] pos) (cL X.K (Ee te g tb)):=by
 rintro pins s τ H Dd I ⟨σ,G,D3,rs,rg,h,k⟩
 refine wpAny_For (cY (eU hi I rs rg h) fun v s1 ⟨ox,H1,I1,rox,d,G1,q1,k1,rg1,rd1⟩=>?_) hs;cases d with
 | ref a=>
  obtain⟨hw,kvs,hga,Pv,p0,step,fin⟩:=q1;simp only[val,RD]at rd1;subst rd1;cases rox;obtain⟨hob,eo,ro⟩:=rg1 a _ hga;cases hob with
  | ext φ=>
   obtain⟨xs,rfl,rt,nd,len⟩:=ro;obtain⟨hsm,o1,es,ep,g1,g2,g3,g4⟩:=(show ce X.prog X.w H1 s1.heap a (.ext (yP hw a xs))from I1.hok a _ eo).1
   have raw:∀ {h:No},h.get? a=some o1->DH h a (xs.map fun x=>Value.ref x.2.1) ep:=fun e=>⟨o1,es,e,g2,g3,by rw[g4,Nr];rfl⟩
   have lx:=rt.length;refine Dk hsm (raw g1) ?_;have hita:a≠s1.heap.objs.size:=NB (Nc g1);have kpA:Kp G1 H1 (gO G1 a) (bG H1 a (EX a o1)):=fun b u e n=>by
    have hb:b≠a:=fun z=>by subst z;rw[hga]at n;cases n
    exact⟨by rw[aB hb];exact e,by rw[fh hb];exact n⟩
   have rg2:RG X.K (bG H1 a (EX a o1)) (gO G1 a):=fun b u e=>by
    have hb:b≠a:=fun z=>by subst z;rw[fg]at e;cases e
    rw[fh hb]at e;obtain⟨ho,e1,r1⟩:=rg1 b u e;exact⟨ho,by rw[aB hb];exact e1,r1.mono (kpA.stb rg1)⟩
   have I1':L2.Inv X pins τ (bG H1 a (EX a o1)) { s1 with heap:=s1.heap,toks:=s1.toks }:=I1.write (x:=a) (e:=a) (by rw[eo];exact True.intro) (.inl rfl) (fun _ _ _ q=>q) ⟨o1,g1⟩ (KO g1)
   have I2:L2.Inv X pins τ (bG H1 a (EX a o1)) { s1 with heap:=s1.heap.push { cls:=.type "dict_keyiterator",data:=.fields #[.ref a,.int 0 0,.int (xs.map fun x=>Value.ref x.2.1).length 0,.int ep 0] } }:=I1'.kept (t':=s1.toks) fun _ _ q=>M0 _ q
   have fit:qW X pins (bG H1 a (EX a o1)) s1.heap.objs.size:=I1.fpOk (le_refl _) (by rw[aB hita.symm];exact I1.hok.fresh (le_refl _))
   have back:∀ {τ':St} {H':Hp} {G':Gp} {σ':gv} {s':MW},L2.Inv X pins τ' H' s'->Kp (gO G1 a) (bG H1 a (EX a o1)) G' H'->RS X.K H' σ' τ'->RG X.K H' G'->D3.nx σ' (gset G' a (.dT hw kvs))->∃ τ'' H'',L2.Inv X pins τ'' H'' s'/\Dd.nx τ'' H'':=fun {τ' H' G' σ' s'} I' kk rs' rg' q=>by
    obtain⟨e1,e2⟩:=kk a _ aX fg;have e3:s'.heap.get? a=some o1:=(show ce X.prog X.w H' s'.heap a (EX a o1)from I'.hok a _ e1).1
    have I'':L2.Inv X pins τ' (bG H' a (.ext (yP hw a xs))) { s' with heap:=s'.heap,toks:=s'.toks }:=I'.write (x:=a) (e:=a) (by rw[e1];exact True.intro) (.inl rfl) (fun _ _ _ q=>q) ⟨o1,e3⟩ (qQ ⟨hsm,o1,es,ep,e3,g2,g3,g4⟩)
    have st1:=(kpA.stb rg1);have st2:=(kk.stb rg2);have st3:Stb X.K H' (bG H' a (.ext (yP hw a xs))):=⟨fun b ys y=>by
     rcases y with (y|⟨o',y⟩)|y
     ·exact .inl (.inl (by rw[aB (fun z=>by rw[z,e1]at y;cases y)];exact y))
     ·exact .inl (.inr ⟨o',by rw[aB (fun z=>by rw[z,e1]at y;cases y)];exact y⟩)
     ·exact .inr y,fun b ys y=>by
     rcases y with ⟨o',y⟩|y
     ·exact .inl ⟨o',by rw[aB (fun z=>by rw[z,e1]at y;cases y)];exact y⟩
     ·exact .inr y⟩
    have rg3:RG X.K (bG H' a (.ext (yP hw a xs))) (gset G' a (.dT hw kvs)):=fun b u e=>by
     by_cases hb:b=a
     ·subst hb;rw[aA]at e;cases e;exact⟨_,aX,xs,rfl,((rt.mono st1).mono st2).mono st3,nd,len⟩
     ·rw[al hb]at e;obtain⟨ho,e4,r4⟩:=rg' b u e;exact⟨ho,by rw[aB hb];exact e4,r4.mono st3⟩
    have kpC:Kp G H (gset G' a (.dT hw kvs)) (bG H' a (.ext (yP hw a xs))):=fun b u e n=>by
     obtain⟨e4,n4⟩:=k1 b u e n;have hb:b≠a:=fun z=>by subst z;rw[hga]at n4;cases n4
     obtain⟨e5,n5⟩:=kk b u (by rw[aB hb];exact e4) (by rw[fh hb];exact n4)
     exact⟨by rw[aB hb];exact e5,by rw[al hb];exact n5⟩
    exact⟨τ',_,I'',k.nx σ' _ τ' _ q kpC rg3 (rs'.mono st3)⟩
   refine Rx (fun n s'=>∃ i σ' τ' G' H',L2.Inv X pins τ' H' s'/\s'.heap.IsKeyIter s1.heap.objs.size a i (xs.map fun x=>Value.ref x.2.1).length ep/\H' s1.heap.objs.size=none/\RS X.K H' σ' τ'/\RG X.K H' G'/\Pv i σ' G'/\Kp (gO G1 a) (bG H1 a (EX a o1)) G' H'/\i<=kvs.length/\n=kvs.length - i) ?_ kvs.length
    ⟨0,σ,τ,gO G1 a,_,I2,⟨_,M6 _ rfl,rfl,rfl⟩,fit.1,rs.mono ((k1.trans kpA).stb rg),rg2,p0,Kp.refl,NI _,rfl⟩
   rintro n s3 ⟨i,σ3,τ3,G3,H3,I3,ki,fr3,rs3,rg3,pv,kk,hil,rfl⟩
   obtain⟨e1,e2⟩:=kk a _ aX fg;have e3:s3.heap.get? a=some o1:=(show ce X.prog X.w H3 s3.heap a (EX a o1)from I3.hok a _ e1).1
   by_cases hlt:i < kvs.length
   ·obtain⟨x,hx,rd⟩:=((rt.mono (kpA.stb rg1)).mono (kk.stb rg2)).at (M1 hlt);refine NN hp (Ev ki (raw e3) (v:=.ref x.2.1) (by rw[Ng,hx];rfl) fun h4 ki4 sb=>?_)
    have I4:L2.Inv X pins τ3 H3 { s3 with heap:=h4,toks:=s3.toks }:=I3.turned (fun b o hb e=>(sb.2 b hb).trans e) fr3 fit.2.1 fit.2.2.2.1 fit.2.2.2.2.1 fit.2.2.2.2.2
    obtain⟨oi,ei,ci,di⟩:=id ki4;refine NN hp (Ae (s:={ s3 with heap:=h4 }) ei ci di (by decide) ?_)
    have I4':=I4.pinned (fp:=[s1.heap.objs.size]) (fun b hb=>by rw[Qo.mp hb];exact⟨fr3,fit.2⟩) fun b hb=>by rw[Qo.mp hb];exact⟨oi,ei,fun v z=>by rw[di]at z;cases z⟩
    refine NN hp (cY (hg _ _ τ3 H3 (.ref x.2.1) (.ref x.2.1) (fun τ2 H2=>cL X.K tb { nx:=fun τ' H'=>∃ σ' G',RS X.K H' σ' τ'/\RG X.K H' G'/\Pv (i+1) σ' G'/\Kp (gO G1 a) (bG H1 a (EX a o1)) G' H',ct:=fun τ' H'=>∃ σ' G',RS X.K H' σ' τ'/\RG X.K H' G'/\Pv (i+1) σ' G'/\Kp (gO G1 a) (bG H1 a (EX a o1)) G' H',bk:=fun τ' H'=>∃ σ' G',RS X.K H' σ' τ'/\RG X.K H' G'/\D3.nx σ' (gset G' a (.dT hw kvs))/\Kp (gO G1 a) (bG H1 a (EX a o1)) G' H',rt:=fun _ _=>False } τ2 H2) I4' rfl
     ⟨Fe kvs[i],σ3,G3,_,rd,rs3,rg3,step i _ σ3 G3 (by rw[Ng,M1 hlt];rfl) pv,fun σ5 G5 τ5 H5 q5 k5 rg5 rs5=>⟨σ5,G5,_,rs5,rg5,q5,⟨fun σ6 G6 τ6 H6 q6 k6 rg6 rs6=>⟨σ6,G6,rs6,rg6,q6,kk.trans (k5.trans k6)⟩,fun _ _ _ _ q _ _ _=>q.elim,fun σ6 G6 τ6 H6 q6 k6 rg6 rs6=>⟨σ6,G6,rs6,rg6,q6,kk.trans (k5.trans k6)⟩,fun σ6 G6 τ6 H6 q6 k6 rg6 rs6=>⟨σ6,G6,rs6,rg6,q6,kk.trans (k5.trans k6)⟩⟩⟩⟩) fun _ s6 ⟨σ6,H6,I6,q6⟩=>?_)
    refine NN hp (cY (hb _ s6 σ6 H6 _ I6 q6) fun f s7 q7=>?_);have again:∀ {τ7:St} {H7:Hp},L2.Inv X (pins ++ qk [s1.heap.objs.size] h4) τ7 H7 s7->(∃ σ' G',RS X.K H7 σ' τ7/\RG X.K H7 G'/\Pv (i+1) σ' G'/\Kp (gO G1 a) (bG H1 a (EX a o1)) G' H7)->∃ m,m < kvs.length - i/\∃ i σ' τ' G' H',L2.Inv X pins τ' H' s7/\s7.heap.IsKeyIter s1.heap.objs.size a i (xs.map fun x=>Value.ref x.2.1).length ep/\H' s1.heap.objs.size=none/\RS X.K H' σ' τ'/\RG X.K H' G'/\Pv i σ' G'/\Kp (gO G1 a) (bG H1 a (EX a o1)) G' H'/\i<=kvs.length/\m=kvs.length - i:=fun {τ7 H7} I7 ⟨σ7,G7,rs7,rg7,pv7,k7⟩=>by
     have pin:=I7.pin (s1.heap.objs.size,oi) (Nx _ (Nx _ (je (by simp) ei)))
     exact⟨kvs.length - (i+1),by walk_at "o",i+1,σ7,τ7,G7,H7,I7.unpinned,⟨oi,pin.1,ci,di⟩,pin.2.1,rs7,rg7,pv7,k7,hlt,rfl⟩
    cases f with
    | next=>obtain⟨σ7,H7,I7,n7⟩:=q7;exact again I7 n7
    | cont=>obtain⟨σ7,H7,I7,n7⟩:=q7;exact again I7 n7
    | brk=>
     obtain⟨σ7,H7,I7,σ8,G8,rs8,rg8,q8,k8⟩:=q7;exact back I7.unpinned k8 rs8 rg8 q8
    | ret v=>obtain⟨x7,σ7,H7,I7,r7,q7⟩:=q7;exact q7.elim
   ·have ei:i=kvs.length:=by walk_at "o"
    subst ei;refine NN hp (Gh (I.ok.hd hc) ki (raw e3) (by rw[Ng,NY (by walk_at "o")];rfl) fun h4 eb=>Pn ?_)
    have I4:L2.Inv X pins τ3 H3 { s3 with heap:=h4,toks:=s3.toks }:=I3.turned (fun b o hb e=>eb b o hb e) fr3 fit.2.1 fit.2.2.2.1 fit.2.2.2.2.1 fit.2.2.2.2.2
    exact back I4 kk rs3 rg3 (fin σ3 G3 (by rw[MY];exact pv))
  | _=>exact ro.elim
 | _=>exact q1.elim
open HT PySem.SeqAt
def KP(te:bJ)(tl th ts:JT):bJ:=fun σ G Q=>te σ G fun x G1=>tl σ G1 fun l G2=>th σ G2 fun u G3=>ts σ G3 fun st G4=>match x with
 | .tup ds=>(l=none/\u=none/\st=some (-1))/\Q (.tup ds.reverse) G4
 | _=>False
def Hi(to:bJ)(ta:pQ):bJ:=fun σ G Q=>to σ G fun x G1=>match x with
 | .tup ds=>ta σ G1 fun es G2=>match es with
  | [y]=>(pl 7 y/\(∀ d∈ds,pl 7 d)/\y∈ds)/\Q (.int (Fi y ds)) G2
  | _=>False
 | _=>False
def JX(a:MU)(k:Nat)(g:uO)(tt:pP)(te:bJ)(σ:gv)(ds:List D)(G1:Gp)(Q:oa):Prop:=ds.length<=M4/\∃ Pv:Nat->List D->Gp->Prop,Pv 0 [] G1/\(∀ i acc G',Pv i acc G'->G' a=some (.lst ds))/\
 (∀ (i:Nat) d acc G',ds[i]?=some d->Pv i acc G'->g d (List.replicate k none ++ σ) G' fun σ2 G2=>(k<=σ2.length/\σ2.drop k=σ)/\tt σ2 G2 fun b G3=>if b=true then te σ2 G3 fun y G4=>Pv (i+1) (acc ++ [val y]) G4 else Pv (i+1) acc G3)/\
 ∀ acc G',Pv ds.length acc G'->Q (.fl acc) G'
def uE(k:Nat)(tl:bJ)(g:uO)(tt:pP)(te:bJ):bJ:=fun σ G Q=>tl σ G fun d G1=>match d with
 | .ref a=>∃ ds,G1 a=some (.lst ds)/\JX a k g tt te σ ds G1 Q
 | d=>match fN d with
  | some ds=>yO k g tt te σ ds G1 Q
  | none=>False
section
variable{X:Cx}{elt tg iter:Np}{ifs:List Np}{scope:Pc}{T M:List Str}{pos:Pos}{tl:bJ}{g:uO}{tt:pP}{te:bJ}
theorem jT{K:PySem.W.Frag}{τ:St}{σ:gv}{G G1:Gp}{H H1:Hp}{Q:VK}{Q3:oa}{ds:List D}{J:It}{Pv:Nat->List D->Gp->Prop}(rs:RS K H σ τ)(rg:RG K H G)(k:∀ d G' v H',Q3 d G'->Kp G H G' H'->RG K H' G'->RE K G H G' H' d v->Q v H')(k1:Kp G H G1 H1)(rg1:RG K H1 G1)
  (p0:Pv 0 [] G1) (it:∀ i acc G' H',Pv i acc G'->Kp G1 H1 G' H'->RG K H' G'->(i < ds.length->J.go i H'/\∀ x H2,J.yld i H' x H2->Kp G' H' G' H2/\RG K H2 G'/\∃ d,ds[i]?=some d/\RD K H2 d x)/\(i=ds.length->J.stop i H'))
  (step:∀ (i:Nat) d acc G',ds[i]?=some d->Pv i acc G'->g d (List.replicate T.length none ++ σ) G' fun σ2 G2=>(T.length<=σ2.length/\σ2.drop T.length=σ)/\tt σ2 G2 fun b G3=>if b=true then te σ2 G3 fun y G4=>Pv (i+1) (acc ++ [val y]) G4 else Pv (i+1) acc G3)
  (fin:∀ acc G',Pv ds.length acc G'->Q3 (.fl acc) G') (hsz:ds.length<=M4):
  ∀ Da,H1 Da=none->∃ W:Nat->Nat->List V->St->Hp->Prop,(∃ m,W 0 m [] (ent T τ) (bG H1 Da (.lst [])))/\
   ∀ i m ys σ1 H2,W i m ys σ1 H2->H2 Da=some (.lst ys)/\((J.stop i H2/\Q (.ref Da) H2)\/(J.go i H2/\∃ N:List V->St->Hp->Prop,(∀ ys' σ' H',N ys' σ' H'->∃ m',m' < m/\W (i+1) m' ys' σ' H')/\
    ∀ x H',J.yld i H2 x H'->jN K g x σ1 H' fun σ2 H3=>dY K tt σ2 H3 fun b H4=>if b=true then wx K te σ2 H4 fun y H5=>H5 Da=some (.lst ys)/\ys.length < M4/\N (ys ++ [y]) σ2 (bG H5 Da (.lst (ys ++ [y])))else N ys σ2 H4)):=by
 intro Da hD;have kD:Kp G1 H1 G1 (bG H1 Da (.lst [])):=Kp.laid hD;have rgD:RG K (bG H1 Da (.lst [])) G1:=rg1.laid hD;have gD:G1 Da=none:=rg1.free hD;refine⟨fun i m ys τ2 H2=>m=ds.length - i/\i<=ds.length/\∃ acc G2,H2 Da=some (.lst ys)/\G2 Da=none/\RG K H2 G2/\RS K H2 (List.replicate T.length none ++ σ) τ2/\RDs K H2 acc ys/\acc.length<=i/\Pv i acc G2/\(∀ a h,a≠Da->H1 a=some h->G1 a=none->H2 a=some h/\G2 a=none),
  ⟨ds.length,rfl,NI _,[],G1,aX,gD,rgD,Ej T (rs.mono ((k1.trans kD).stb rg)),RDs.nil,le_refl _,p0,fun a h ha e n=>⟨by rw[aB ha];exact e,n⟩⟩,?_⟩
 rintro i m ys τ2 H2 ⟨rfl,hi',acc,G2,eD,nD,rg2,rs2,ra,la,pv,k2⟩
 have k2':Kp G1 H1 G2 H2:=fun a h e n=>k2 a h (bW e hD) e n;refine⟨eD,?_⟩;obtain⟨hgo,hstop⟩:=it i acc G2 H2 pv k2' rg2
 by_cases hlt:i < ds.length
 ·obtain⟨go,yld⟩:=hgo hlt;refine .inr ⟨go,fun ys' τ' H'=>∃ acc G',H' Da=some (.lst ys')/\G' Da=none/\RG K H' G'/\RS K H' (List.replicate T.length none ++ σ) τ'/\RDs K H' acc ys'/\acc.length<=i+1/\Pv (i+1) acc G'/\(∀ a h,a≠Da->H1 a=some h->G1 a=none->H' a=some h/\G' a=none),
   fun ys' τ' H' q'=>⟨ds.length - (i+1),by walk_at "o",rfl,hlt,q'⟩,fun x H3 y=>?_⟩
  obtain⟨ky,rgy,d,hd,rd⟩:=yld x H3 y;refine⟨d,List.replicate T.length none ++ σ,G2,_,rd,rs2.mono (ky.stb rg2),rgy,step i d acc G2 hd pv,fun σ4 G4 τ4 H4 q4 k4 rg4 rs4=>?_⟩;obtain⟨⟨hlen,hdrop⟩,q4⟩:=q4;have rs4':RS K H4 (List.replicate T.length none ++ σ) τ4:=by
   have:=p_ T.length hlen rs4;rw[hdrop]at this;exact this
  refine⟨σ4,G4,_,rs4,rg4,q4,fun b G5 H5 q5 k5 rg5=>?_⟩;have e3:H3 Da=some (.lst ys):=(ky Da _ eD nD).1;have e4:=k4 Da _ e3 nD;have e5:=k5 Da _ e4.1 e4.2;have kk:∀ {G6:Gp} {H6:Hp},Kp G5 H5 G6 H6->∀ a h,a≠Da->H1 a=some h->G1 a=none->H6 a=some h/\G6 a=none:=fun k6 a h ha e n=>((((Kp.trans k2' ky).trans k4).trans k5).trans k6) a h e n;cases b with
  | false=>
   refine iteF ⟨acc,G5,e5.1,e5.2,rg5,rs4'.mono (k5.stb rg4),RDs.mono (((ky.trans k4).trans k5).stb rg2) _ _ ra,by walk_at "o",q5,kk Kp.refl⟩
  | true=>
   refine iteT ⟨σ4,G5,_,rs4.mono (k5.stb rg4),rg5,q5,fun yv G6 v H6 q6 k6 rg6 rd6=>?_⟩;have e6:=k6 Da _ e5.1 e5.2;have la':=ra.length;have st:Stb K H6 (bG H6 Da (.lst (ys ++ [v]))):=by
    constructor
    ·intro a zs q;rcases q with (q|⟨o,q⟩)|q
     ·exact .inl (.inl (by rw[aB (fun z=>by subst z;rw[e6.1]at q;cases q)];exact q))
     ·exact .inl (.inr ⟨o,by rw[aB (fun z=>by subst z;rw[e6.1]at q;cases q)];exact q⟩)
     ·exact .inr q
    ·intro a zs q;rcases q with ⟨o,q⟩|q
     ·exact .inl ⟨o,by rw[aB (fun z=>by subst z;rw[e6.1]at q;cases q)];exact q⟩
     ·exact .inr q
   refine⟨e6.1,by walk_at "o",acc ++ [val yv],G6,aX,e6.2,fun a o q=>?_,(rs4'.mono ((k5.trans k6).stb rg4)).mono st,?_,by simp;omega,q6,fun a h ha e n=>?_⟩
   ·obtain⟨h',q1,q2⟩:=rg6 a o q;exact⟨h',by rw[aB (fun z=>by subst z;rw[e6.2]at q;cases q)];exact q1,q2.mono st⟩
   ·exact RDs.append (RDs.mono st _ _ (RDs.mono ((((ky.trans k4).trans k5).trans k6).stb rg2) _ _ ra)) (RDs.cons (RD.mono st _ _ rd6) RDs.nil)
   ·rw[aB ha];exact kk k6 a h ha e n
 ·have e:i=ds.length:=by walk_at "o"
  refine .inl ⟨hstop e,k _ G2 _ H2 (fin acc G2 (by rw[<- e];exact pv)) (k1.trans k2') rg2 (.inl ⟨acc,Da,ys,rfl,rfl,eD,nD,ra,?_⟩)⟩
  exact k1.fr (sy hD)
def KH(K:PySem.W.Frag)(te:bJ):TI:=fun τ H R=>∃ σ G Q3,RS K H σ τ/\RG K H G/\te σ G Q3/\∀ d G1 H1,Q3 d G1->Kp G H G1 H1->RG K H1 G1->match d with
  | .ref a=>(∃ ds,G1 a=some (.lst ds))/\R (Ln K a) H1
  | d=>∃ ds,fN d=some ds/\∀ J,yM K G1 H1 ds J->R J H1
theorem Gw{e:Np}{te:bJ}(h:PE X e (aJ X.K te)):PI X tg e (KH X.K te):=BX h
theorem Bx{K:PySem.W.Frag}{τ:St}{H:Hp}{Q:VK}(h:aJ K (uE T.length tl g tt te) τ H Q):BM (ent T) (KH K tl) (jN K g) (dY K tt) (wx K te) τ H Q:=by
 obtain⟨σ,G,Q3,rs,rg,h,k⟩:=h;refine⟨σ,G,_,rs,rg,h,fun d G1 H1 q k1 rg1=>?_⟩;cases d with
 | ref a=>
  obtain⟨ds,hg,hsz,Pv,p0,live,step,fin⟩:=q;refine⟨⟨ds,hg⟩,jT rs rg k k1 rg1 p0 (fun i acc G' H' pv k' rg'=>?_) step fin hsz⟩;obtain⟨xs,e1,r⟩:=t3 rg' (live i acc G' pv);have hl:=r.length;refine⟨fun hi=>⟨⟨xs,xs[i]'(by walk_at "o"),kP.of e1,by simp[show i < xs.length by walk_at "o"]⟩,fun x H2 y=>?_⟩,fun e=>⟨xs,kP.of e1,by walk_at "o"⟩⟩
  obtain⟨rfl,hx⟩:=y;refine⟨Kp.refl,rg',ds[i],by simp[hi],?_⟩
  obtain⟨y,e,q⟩:=r.get (i:=i) (d:=ds[i]) (by simp[hi])
  rw[hx xs (kP.of e1)]at e;cases e;exact q
 | lst ds=>
  obtain⟨hsz,Pv,p0,step,fin⟩:=q;exact⟨_,rfl,fun J it=>jT rs rg k k1 rg1 p0 (fun i acc G' H' _ k' rg'=>it i G' H' k' rg') step fin hsz⟩
 | fl ds=>
  obtain⟨hsz,Pv,p0,step,fin⟩:=q;exact⟨_,rfl,fun J it=>jT rs rg k k1 rg1 p0 (fun i acc G' H' _ k' rg'=>it i G' H' k' rg') step fin hsz⟩
 | tup ds=>
  obtain⟨hsz,Pv,p0,step,fin⟩:=q;exact⟨_,rfl,fun J it=>jT rs rg k k1 rg1 p0 (fun i acc G' H' _ k' rg'=>it i G' H' k' rg') step fin hsz⟩
 | str z=>
  obtain⟨hsz,Pv,p0,step,fin⟩:=q;exact⟨_,rfl,fun J it=>jT rs rg k k1 rg1 p0 (fun i acc G' H' _ k' rg'=>it i G' H' k' rg') step fin hsz⟩
 | _=>exact q.elim
theorem B3(ok:CompOk X scope T M)
  (hin:∀ cl C s₀ H₀ fp,PG (bP X (T ++ M) scope cl C s₀ H₀ fp) tg (jN X.K g)/\FR (bP X (T ++ M) scope cl C s₀ H₀ fp) ifs (dY X.K tt)/\PE (bP X (T ++ M) scope cl C s₀ H₀ fp) elt (aJ X.K te))
  (hi:PE X iter (aJ X.K tl)) (hs:∀ x,NZ iter X.env x=pure x:=by intro _;rfl):PE X (.ListComp elt [⟨tg,iter,ifs,0⟩] scope pos) (aJ X.K (uE T.length tl g tt te)):=
 (BZ ok (fun cl C s₀ H₀ fp=>let ⟨a,b,c⟩:=hin cl C s₀ H₀ fp;⟨a,b,d9 c⟩) (Gw hi) hs).imp fun _ _ _ h=>Bx h
end
open PySem.W
abbrev Jy(C t:MU):Obj:={ cls:=.ref C,data:=.fields #[.ref t,.none,.none,.none,.bool false,.none] }
section
open Builtin Builtin.ObjectAttr
variable{prog:Nf}{w:Nn}{A:Nh}{K:Rt}{s:MW}{x C:MU}{o:Obj}{cd:ClassData}{name:Str}{v:MV}
end
end L3
namespace L2
open PySem PySem.Spec PyProof.Rows
def MO(n:Nat)(H:Hp)(h:No)(x C dx:MU):Prop:=n<=x/\H x=none/\∃ oe vs,h.get? x=some oe/\oe.cls=.ref C/\oe.dict=some dx/\oe.data=.fields vs/\
 (vs[1]?=some .none\/∃ T oT ts,vs[1]?=some (.ref T)/\T≠x/\n<=T/\H T=none/\h.get? T=some oT/\oT.data=.fields ts/\ts[3]?=some .none)
def MS(P:Nf)(w:Nn):FO:=fun outer H s E e s'=>∃ x C dx H',e=.ref x/\s'.os=s.os/\PK s'.gens/\Un (DL outer) [] H H' s.heap s'.heap/\oh P w H' s'.heap/\MO s.heap.objs.size H' s'.heap x C dx/\s.heap.get? dx=none/\E (.ref C) (some dx) H'
open L3
def Mq:List MV:=[.type "ValueError",.type "Exception",.type "BaseException",.type "object"]
abbrev Hf(C t dx:MU):Obj:={ cls:=.ref C,dict:=some dx,data:=.fields #[.ref t,.none,.none,.none,.bool false,.none] }
section
variable{X:Cx}{C f:MU}{a:Str}
def LO(C:MU)(a:Str):Sp:=fun vs H Q _=>∃ x v t,vs=[.ref x,v]/\H x=some (XO x (Jy C t))/\∀ dx,H dx=none->dx≠x->Q .non (bG (bG H dx (.xd [(a,v)])) x (XO x (Hf C t dx)))
end
open PySem.W
def Ends.un(i:Nat)(D:Ends):Ends:={ nx:=fun σ H=>D.nx (σ.set i none) H,rt:=D.rt,bk:=fun σ H=>D.bk (σ.set i none) H,ct:=fun σ H=>D.ct (σ.set i none) H }
end L2
namespace L3
open PySem PySem.Spec PyProof.Rows L2 PySem.W
abbrev XQ:=MU->Str->D->Gp->Prop
def Mn(K:Rt)(G:Gp)(H:Hp)(EQ:XQ)(E:XK):Prop:=∀ C a d G' v dx H',EQ C a d G'->Kp G H G' H'->RG K H' G'->G' dx=none->H' dx=some (.xd [(a,v)])->RD K H' d v->E (.ref C) (some dx) H'
abbrev ML:=List D->Gp->oa->XQ->Prop
def Lu(K:Rt)(sp:ML):Sp:=fun vs H Q E=>∃ ds G Q3 EQ,RDs K H ds vs/\RG K H G/\sp ds G Q3 EQ/\uL K G H Q3 Q/\Mn K G H EQ E
def Ends3.un(i:Nat)(D:Ends3):Ends3:={ nx:=fun σ G=>D.nx (σ.set i none) G,rt:=D.rt,bk:=fun σ G=>D.bk (σ.set i none) G,ct:=fun σ G=>D.ct (σ.set i none) G }
def yu(te:bJ):bJ:=fun σ G Q=>te σ G fun d G1=>∃ ds,d=.fl ds/\∀ p,G1 p=none->Q (.ref p) (gset G1 p (.lst ds))
theorem EU{X:Cx}{e:Np}{te:bJ}(he:PE X e (aJ X.K te)):PE X e (aJ X.K (yu te)):=
 he.imp fun τ H Q ⟨σ,G,Q3,rs,rg,h,k⟩=>⟨σ,G,_,rs,rg,h,fun d G' v H' q k' rg' re=>by
  obtain⟨ds,rfl,q⟩:=q;obtain⟨p,xs,rfl,e1,e2,e3,e4⟩:=re.fl;exact k (.ref p) _ _ H' (q p e2) (EW k' e4) (EV rg' e1 e3) (.of iu)⟩
open PySem.SeqAt
structure FnM(K:Rt)(n q:Str)(st:Nu)(dV:MV)(f:MU):Prop where
 ex:∃ (oc:MV) (od an:Option MU) (sl:Array (Option MV)) (kV dc pm cd ct:MV),K.lookup f=some ⟨oc,od,.func (fnOf n q (fO st) (fi st) (aj st) dV kV dc pm an cd ct),sl⟩/\Rf K cd q=true
structure FnG(K:Rt)(n:Str)(st:Nu):Prop where
 ex:∃ f,nsIn K Nd n=some (some (.ref f))/\FnM K n n st .none f/\QU K (.ref f)=true
structure MtG(K:Rt)(C:MU)(n q:Str)(st:Nu):Prop where
 ex:∃ f,Meth K C n f/\FnM K n q st .none f
structure CfG(K:Rt)(C:MU)(n q:Str)(st:Nu):Prop where
 ex:∃ f,(specialIn K (.ref C) "__getattribute__"=some (some (.builtin "type.__getattribute__"))/\readsIn K C (.type "type")=true/\findCls K (.ref C) (.type "type") n=some (.val (.ref f))/\QU K (.ref f)=true)/\FnM K n q st .none f
structure MtD(K:Rt)(C:MU)(n q:Str)(st:Nu)(x:Str):Prop where
 ex:∃ f t,Meth K C n f/\FnM K n q st (.ref t) f/\∃ (oc:MV) (od:Option MU) (tk:Tok) (nt:Nat) (sl:Array (Option MV)),K.lookup t=some ⟨oc,od,.seq #[.str x tk] nt,sl⟩
section
variable{K:Rt}{n q:Str}{st:Nu}{f C t:MU}{oc oc' dV kV dc pm cd ct:MV}{od od' an:Option MU}{sl sl':Array (Option MV)}
theorem yp(l:K.lookup f=some ⟨oc,od,.func (fnOf n q (fO st) (fi st) (aj st) dV kV dc pm an cd ct),sl⟩)(c:Rf K cd q=true):FnM K n q st dV f:=⟨_,_,_,_,_,_,_,_,_,l,c⟩
theorem fnG_mk(a:nsIn K Nd n=some (some (.ref f)))(l:K.lookup f=some ⟨oc,od,.func (fnOf n n (fO st) (fi st) (aj st) .none kV dc pm an cd ct),sl⟩)(c:Rf K cd n=true)(k:QU K (.ref f)=true):FnG K n st:=⟨f,a,yp l c,k⟩
theorem mtG_mk(a:findIn K (.ref C) n=some (some (.ref f)))(i:isFn K (.ref f)=true)(l:K.lookup f=some ⟨oc,od,.func (fnOf n q (fO st) (fi st) (aj st) .none kV dc pm an cd ct),sl⟩)(c:Rf K cd q=true)(k:QU K (.ref f)=true):MtG K C n q st:=⟨f,⟨a,i,k⟩,yp l c⟩
theorem cfG_mk(g:specialIn K (.ref C) "__getattribute__"=some (some (.builtin "type.__getattribute__")))(r:readsIn K C (.type "type")=true)(a:findCls K (.ref C) (.type "type") n=some (.val (.ref f)))(l:K.lookup f=some ⟨oc,od,.func (fnOf n q (fO st) (fi st) (aj st) .none kV dc pm an cd ct),sl⟩)(c:Rf K cd q=true)(k:QU K (.ref f)=true):CfG K C n q st:=⟨f,⟨g,r,a,k⟩,yp l c⟩
theorem mtD_mk{x:Str}{tk:Tok}{nt:Nat}(a:findIn K (.ref C) n=some (some (.ref f)))(i:isFn K (.ref f)=true)(l:K.lookup f=some ⟨oc,od,.func (fnOf n q (fO st) (fi st) (aj st) (.ref t) kV dc pm an cd ct),sl⟩)(c:Rf K cd q=true)(k:QU K (.ref f)=true)(d:K.lookup t=some ⟨oc',od',.seq #[.str x tk] nt,sl'⟩):MtD K C n q st x:=⟨f,t,⟨a,i,k⟩,yp l c,_,_,_,_,_,d⟩
end
def Lv(n q:Str)(st:Nu)(ps:List Str):Prop:=∀ (kV dc pm:MV) (an:Option MU) (cd ct:MV) (us:List MV),us.length=ps.length->bindArgs (fnOf n q (fO st) (fi st) (aj st) .none kV dc pm an cd ct) ⟨us,[]⟩=pure (ps.zip us)
section
variable(P:Nf)(w:Nn)(base:No){K:Rt}{h:No}{mg:Str->Option MV}{k:Nat}{n q x:Str}{st:Nu}{ps:List Str}{sp:df}{C:MU}
theorem pO(X:K.In h)(G:h.Ns Nd mg)(H:FnG K n st)(ok:∀ {f fd},Fun3 K n n st f fd->FnOk P w K mg base dE k f fd ps (ax K sp))(b:Lv n n st ps:=by walk_at "b"):Fn3 P w K mg base k n [] sp:=by
 obtain⟨f,a,⟨⟨_,_,_,_,_,_,_,_,_,l,c⟩⟩,kp⟩:=H.ex;exact⟨_,_,_,[],[],ok (mM l c),mg_of X G a,kp,.all (b _ _ _ _ _ _),.nil,fun _=>RDs.nil⟩
theorem mi(cl:Cls K C)(H:MtG K C n q st)(ok:∀ {f fd},Fun3 K n q st f fd->FnOk P w K mg base dE k f fd ps (ax K sp))(b:Lv n q st ps:=by walk_at "b"):Mt3 P w K mg base k C n [] sp:=by
 obtain⟨f,a,⟨⟨_,_,_,_,_,_,_,_,_,l,c⟩⟩⟩:=H.ex;exact⟨cl,_,_,_,[],[],ok (mM l c),a,.all (b _ _ _ _ _ _),.nil,fun _=>RDs.nil⟩
theorem J1(X:K.In h)(G:h.Ns Nd mg)(ca:nsIn K Nd x=some (some (.ref C)))(m:makesIn K C=true)(kc:QU K (.ref C)=true)(H:MtG K C "__init__" q st)(ok:∀ {f fd},Fun3 K "__init__" q st f fd->FnOk P w K mg base dE k f fd ps (ax K sp))(b:Lv "__init__" q st ps:=by walk_at "b"):Mk3 P w K mg base k x C [] sp:=by
 obtain⟨f,a,⟨⟨_,_,_,_,_,_,_,_,_,l,c⟩⟩⟩:=H.ex;exact⟨_,_,_,[],[],⟨m,a.at_,a.fn,kc⟩,mg_of X G ca,ok (mM l c),.all (b _ _ _ _ _ _),.nil,fun _=>RDs.nil⟩
theorem MK(X:K.In h)(G:h.Ns Nd mg)(ca:nsIn K Nd x=some (some (.ref C)))(H:CfG K C n q st)(ok:∀ {f fd},Fun3 K n q st f fd->FnOk P w K mg base dE k f fd ps (ax K sp))(b:Lv n q st ps:=by walk_at "b"):Cf3 P w K mg base k x n [] sp:=by
 obtain⟨f,⟨g,r,a,kp⟩,⟨⟨_,_,_,_,_,_,_,_,_,l,c⟩⟩⟩:=H.ex;exact⟨C,_,_,_,[],[],ok (mM l c),mg_of X G ca,g,r,a,kp,.all (b _ _ _ _ _ _),.nil,fun _=>RDs.nil⟩
theorem KG(cl:Cls K C)(H:MtD K C n q st x)(b:∀ {t kV dc pm an cd ct oc od tk nt sl},K.lookup t=some ⟨oc,od,.seq #[.str x tk] nt,sl⟩->fW K (fnOf n q (fO st) (fi st) (aj st) (.ref t) kV dc pm an cd ct) ps [])(ok:∀ {f fd},Fun3 K n q st f fd->FnOk P w K mg base dE k f fd ps (ax K sp)):Mt3 P w K mg base k C n [] sp:=by
 obtain⟨f,t,a,⟨⟨_,_,_,_,_,_,_,_,_,l,c⟩⟩,_,_,_,_,_,d⟩:=H.ex;exact⟨cl,_,_,_,[],[],ok (mM l c),a,b d,.nil,fun _=>RDs.nil⟩
end
end L3
namespace RQ
open PySem PySem.Spec PyProof.Rows L2 L3
section
variable{α:Type}
def cQ(l:List (Sl×α))(k:Sl):Option α:=(l.find? fun p=>decide (p.1=k)).map (·.2)
def k9(l:List (Sl×α))(k:Sl)(v:α):List (Sl×α):=if (l.any fun p=>decide (p.1=k))=true then l.map (fun p=>if p.1=k then (p.1,v)else p)else l ++ [(k,v)]
def bq(l m:List (Sl×α)):List (Sl×α):=m.foldl (fun a p=>k9 a p.1 p.2) l
def aW(f:α->D)(l:List (Sl×α)):List (List aM×D):=l.map fun p=>(p.1.key,f p.2)
theorem Ct(f:α->D)(k:Sl):∀ l:List (Sl×α),((aW f l).any fun kv=>decide (kv.1=k.key))=l.any fun p=>decide (p.1=k)
 | []=>rfl
 | p::r=>by
  have ih:=Ct f k r;unfold aW at ih ⊢;simp only[Nk,Qf,ih];congr 1
  by_cases e:p.1=k
  ·rw[decide_eq_true e,decide_eq_true (by rw[e])]
  ·rw[decide_eq_false e,decide_eq_false (fun z=>e (Sl.key_inj z))]
theorem zo(f:α->D)(l:List (Sl×α))(k:Sl)(v:α):bH (aW f l) k.key (f v)=aW f (k9 l k v):=by
 unfold bH k9;rw[Ct];split
 ·unfold aW;rw[Nr,Nr];refine NL fun p _=>?_;simp only[Function.comp]
  by_cases e:p.1=k
  ·rw[if_pos e,if_pos (by rw[e])]
  ·rw[if_neg e,if_neg (fun z=>e (Sl.key_inj z))]
 ·unfold aW;rw[Nv];rfl
theorem Cs(f:α->D)(k:Sl):∀ l:List (Sl×α),c7 (aW f l) k.key=(cQ l k).map f
 | []=>rfl
 | p::r=>by
  have ih:=Cs f k r;unfold aW cQ c7 at *
  by_cases e:p.1=k
  ·simp[Nz,e]
  ·have e':¬ p.1.key=k.key:=fun z=>e (Sl.key_inj z);simp only[Nk,Nz,decide_eq_false e,decide_eq_false e'];exact ih
theorem uF(f:α->D)(m:List (Sl×α)):dictOf (aW f m)=aW f (bq [] m):=by
 unfold dictOf bq;have:∀ (m l:List (Sl×α)),(aW f m).foldl (fun a kv=>bH a kv.1 kv.2) (aW f l)=aW f (m.foldl (fun a p=>k9 a p.1 p.2) l):=by
  intro m
  induction m with
  | nil=>intro l;rfl
  | cons p r ih=>
   intro l;unfold aW at ih ⊢;simp only[Nk,Py];have:=zo f l p.1 p.2;unfold aW at this;rw[this];exact ih _
 exact this m []
theorem yI(l:List (Sl×α))(k j:Sl)(v:α):cQ (k9 l k v) j=if j=k then some v else cQ l j:=by
 unfold k9;split
 ·rename_i h
  induction l with
  | nil=>simp at h
  | cons p r ih=>
   simp only[Nk,cQ,Nz]
   by_cases e:p.1=k
   ·rw[if_pos e]
    by_cases ej:j=k
    ·rw[if_pos ej];simp[e,ej]
    ·rw[if_neg ej];have e2:¬ p.1=j:=fun z=>ej (z.symm.trans e);simp only[decide_eq_false e2];clear ih h
     induction r with
     | nil=>rfl
     | cons q t ih2=>
      simp only[Nk,Nz]
      by_cases e3:q.1=k
      ·rw[if_pos e3];have e4:¬ q.1=j:=fun z=>ej (z.symm.trans e3);simp only[decide_eq_false e4];exact ih2
      ·rw[if_neg e3]
       by_cases e4:q.1=j
       ·simp[e4]
       ·simp only[decide_eq_false e4];exact ih2
   ·rw[if_neg e];simp only[Qf,decide_eq_false e,Bool.false_or]at h;have ih':=ih h;unfold cQ at ih'
    by_cases e2:p.1=j
    ·have ej:¬ j=k:=fun z=>e (e2.trans z);rw[if_neg ej];simp[e2]
    ·simp only[decide_eq_false e2];exact ih'
 ·rename_i h;have hn:∀ p∈l,p.1≠k:=fun p hp z=>h (List.any_eq_true.mpr ⟨p,hp,decide_eq_true z⟩);unfold cQ;rw[List.find?_append]
  by_cases ej:j=k
  ·rw[if_pos ej];have:l.find? (fun p=>decide (p.1=j))=none:=List.find?_eq_none.mpr fun p hp=>by simpa using fun z=>hn p hp (z.trans ej)
   rw[this];simp[ej]
  ·rw[if_neg ej];cases l.find? (fun p=>decide (p.1=j)) with
   | some p=>rfl
   | none=>
    have ek:¬ k=j:=fun z=>ej z.symm;simp[ek]
theorem pM{m:List (Sl×α)}:∀ {l:List (Sl×α)} {j:Sl},(∀ p∈m,p.1≠j)->cQ (bq l m) j=cQ l j:=by
 induction m with
 | nil=>intro l j _;rfl
 | cons p r ih=>
  intro l j h;show cQ (bq (k9 l p.1 p.2) r) j=_
  rw[ih fun q hq=>h q (M3 _ hq),yI,if_neg (fun z=>h p M8 z.symm)]
theorem Ey{l:List (Sl×α)}{k:Sl}{v:α}{p:Sl×α}(h:p∈k9 l k v):p∈l\/p=(k,v):=by
 unfold k9 at h;split at h
 ·obtain⟨q,hq,e⟩:=mem_map.mp h;split at e
  ·rename_i z;exact .inr (by rw[<- e,z])
  ·exact .inl (e ▸ hq)
 ·rcases RJ.mp h with h|h
  ·exact .inl h
  ·exact .inr (Qo.mp h)
theorem gK{m:List (Sl×α)}:∀ {l:List (Sl×α)} {p:Sl×α},p∈bq l m->p∈l\/p∈m:=by
 induction m with
 | nil=>intro l p h;exact .inl h
 | cons q r ih=>
  intro l p h;rcases ih (l:=k9 l q.1 q.2) h with h|h
  ·rcases Ey h with h|h
   ·exact .inl h
   ·exact .inr (h ▸ M8)
  ·exact .inr (M3 _ h)
theorem jq{l:List (Sl×α)}{k:Sl}{v:α}(h:cQ l k=some v):(k,v)∈l:=by
 unfold cQ at h;cases e:l.find? fun p=>decide (p.1=k) with
 | none=>rw[e]at h;cases h
 | some p=>
  rw[e]at h;cases h;have h1:=List.mem_of_find?_eq_some e;have h2:=List.find?_some e;have:p.1=k:=of_decide_eq_true h2;rw[<- this];exact h1
theorem pL{l:List (Sl×α)}{p:Sl×α}(h:p∈l):∃ v,cQ l p.1=some v:=by
 unfold cQ;cases e:l.find? fun q=>decide (q.1=p.1) with
 | none=>exact absurd (List.find?_eq_none.mp e p h) (by simp)
 | some q=>exact⟨q.2,rfl⟩
theorem Ez(l:List (Sl×α))(k:Sl)(v:α):(k9 l k v).length<=l.length+1:=by
 unfold k9;split<;>simp
theorem fU(m:List (Sl×α)):∀ l:List (Sl×α),(bq l m).length<=l.length+m.length:=by
 induction m with
 | nil=>intro l;exact le_refl _
 | cons p r ih=>
  intro l;have h1:=ih (k9 l p.1 p.2);have h2:=Ez l p.1 p.2;show (bq (k9 l p.1 p.2) r).length<=_
  rw[Ni];omega
theorem cP(l a b:List (Sl×α)):bq l (a ++ b)=bq (bq l a) b:=by unfold bq;rw[List.foldl_append]
theorem nL(l a:List (Sl×α))(p:Sl×α):bq l (a ++ [p])=k9 (bq l a) p.1 p.2:=by rw[cP];rfl
end
def LX(c:Nat):Str:=⟨#[c]⟩
def lC(x:Str):List Str:=x.cps.toList.map LX
def cF(s:Sk):List (Sl×Str):=match s.act with
 | .put _ x=>(made s).zip (lC x)
 | _=>[]
def cI(s:Sk):List (Sl×Unit):=match s.act with
 | .strike ns=>ns.map fun n=>(n,())
 | _=>[]
def cy(s:Sk):List (Sl×Sl):=match s.act with
 | .move ns _=>ns.zip (made s)
 | _=>[]
def eN(s:Sk):List (Sl×Str):=match s.act with
 | .dress ns w=>ns.map fun n=>(n,w)
 | _=>[]
def Sk.wd(s:Sk):Nat:=match s.act with
 | .put _ x=>x.length
 | .strike ns=>ns.length
 | .dress ns _=>ns.length
 | .move ns _=>ns.length
def ay(x:Str)(o:List Sk):List (Sl×Str):=bq [] ((c9 x.length).zip (lC x) ++ o.flatMap cF)
def bd(o:List Sk):List (Sl×Unit):=bq [] (o.flatMap cI)
def cf(o:List Sk):List (Sl×Sl):=bq [] (o.flatMap cy)
def dI(o:List Sk):List (Sl×Str):=bq [] (o.flatMap eN)
abbrev Nm:=Str×Int
def Nm.d(n:Nm):D:=.tup [.str n.1,.int n.2]
def Nm.key(n:Nm):List aM:=[.inr n.1,.inl n.2]
def Sk.nm(s:Sk):Nm:=(s.pen,s.num)
def kH(row:List Sl)(s:Sk):Bool:=(made s).all fun x=>decide (x∈row)
def fX(out:List Sk)(names:List Nm)(row:List Sl):List Sk:=(out.filter fun s=>decide (s.nm∈names)).filter (kH row)
def bT(x:Str)(w:List Sk):List (Sl×Sl):=bq [] (((ay x w).filter fun p=>(cQ (bd w) p.1).isNone).map fun p=>((cQ (cf w) p.1).getD p.1,p.1))
set_option genInjectivity false in
structure Seat where
 slot:Sl
 name:Sl
 sign:Str
 word:Str
def Seat.d(s:Seat):D:=.tup [s.slot.d,s.name.d,.str s.sign,.str s.word]
def jZ(x:Str)(w:List Sk)(row:List Sl):List (Sl×Sl):=row.filterMap fun s=>(cQ (bT x w) s).map fun n=>(s,n)
def fF(x:Str)(out:List Sk)(names:List Nm):List Seat:=
 (jZ x (fX out names (aE x.length out)) (aE x.length out)).map fun p=>⟨p.1,p.2,(cQ (ay x (fX out names (aE x.length out))) p.2).getD "",(cQ (dI (fX out names (aE x.length out))) p.2).getD ""⟩
def wU(s:Sk):List Sl:=match s.act with
 | .put _ _=>[]
 | .strike ns=>ns
 | .dress ns _=>ns
 | .move ns _=>ns
def rR(o:List Sk)(n:Sl):Sl:=(cQ (cf o) n).getD n
def pN(x:Str)(o:List Sk)(n:Sl):Prop:=(∃ v,cQ (ay x o) n=some v)/\cQ (bd o) n=none
structure Sim(x:Str)(out:List Sk):Prop where
 nd:(ar::aE x.length out).Nodup
 pl:∀ s∈out,∀ n∈made s,n∈aE x.length out
 tc:∀ s∈out,∀ n∈wU s,n∈aE x.length out
 br:∀ n v,cQ (ay x out) n=some v->n∈aE x.length out
 pin:∀ n,pN x out n->rR out n∈aE x.length out
 inj:∀ a b,pN x out a->pN x out b->rR out a=rR out b->a=b
theorem oW{α:Type}{v:α}{k:Sl}:∀ (m:List (Sl×α)) (l:List (Sl×α)),(∃ p∈m,p.1=k)->(∀ p∈m,p.1=k->p.2=v)->cQ (bq l m) k=some v
 | [],_,h,_=>by obtain⟨_,h,_⟩:=h;cases h
 | p::r,l,h,hv=>by
  show cQ (bq (k9 l p.1 p.2) r) k=some v
  by_cases e:∃ q∈r,q.1=k
  ·exact oW r _ e fun q hq=>hv q (M3 _ hq)
  ·obtain⟨q,hq,z⟩:=h;rcases NH.mp hq with y|y
   ·subst y;rw[pM fun w hw0 z'=>e ⟨w,hw0,z'⟩,yI,if_pos z.symm,hv q M8 z]
   ·exact absurd ⟨q,y,z⟩ e
theorem jj{x:Str}{out:List Sk}(h:Sim x out)(s n:Sl):cQ (bT x out) s=some n↔pN x out n/\rR out n=s:=by
 unfold bT;constructor
 ·intro e;rcases gK (jq e)with z|z
  ·cases z
  ·obtain⟨p,hp,z⟩:=mem_map.mp z;obtain⟨h1,h2⟩:=mem_filter.mp hp;injection z with z1 z2
   subst z2;exact⟨⟨pL h1,by simpa using h2⟩,z1⟩
 ·rintro⟨⟨⟨v,hv⟩,hn⟩,rfl⟩
  have hm:=jq hv;refine oW _ _ ⟨(rR out n,n),mem_map.mpr ⟨(n,v),mem_filter.mpr ⟨hm,by simp[hn]⟩,rfl⟩,rfl⟩ fun p hp e=>?_
  obtain⟨q,hq,z⟩:=mem_map.mp hp;obtain⟨h1,h2⟩:=mem_filter.mp hq;subst z;exact h.inj _ _ ⟨pL h1,by simpa using h2⟩ ⟨⟨v,hv⟩,hn⟩ e
def cK(x:Str)(out:List Sk)(s:Sl):Option (Sl×Sl):=(cQ (bT x out) s).map fun n=>(s,n)
def vw(x:Str)(out:List Sk):List (Sl×Sl):=(aE x.length out).filterMap (cK x out)
theorem iV{x:Str}{out:List Sk}{s:Sl}{p:Sl×Sl}(h:cK x out s=some p):p.1=s/\cQ (bT x out) s=some p.2:=by
 unfold cK at h;cases e:cQ (bT x out) s with
 | none=>rw[e]at h;cases h
 | some n=>rw[e]at h;cases h;exact⟨rfl,rfl⟩
theorem Ch{x:Str}{out:List Sk}:∀ row:List Sl,(row.filterMap (cK x out)).map Prod.fst=row.filter fun s=>(cK x out s).isSome
 | []=>rfl
 | s::t=>by
  have ih:=Ch (x:=x) (out:=out) t;cases e:cK x out s with
  | none=>rw[List.filterMap_cons_none e,N8 (by simp[e])];exact ih
  | some p=>rw[List.filterMap_cons_some e,Nk,List.filter_cons_of_pos (by simp[e]),ih,(iV e).1]
theorem yS{x:Str}{out:List Sk}(h:Sim x out):((vw x out).map Prod.fst).Nodup:=by
 unfold vw;rw[Ch];exact (Oo.mp h.nd).2.sublist List.filter_sublist
theorem sF{x:Str}{out:List Sk}{p:Sl×Sl}(h:Sim x out)(hp:p∈vw x out):p.1∈aE x.length out/\pN x out p.2/\rR out p.2=p.1:=by
 obtain⟨s,hs,e⟩:=mem_filterMap.mp hp;obtain⟨e1,e2⟩:=iV e;obtain⟨l,q⟩:=(jj h _ _).mp e2;exact⟨by rw[e1];exact hs,l,by rw[q,e1]⟩
theorem oq{x:Str}{out:List Sk}(h:Sim x out):((vw x out).map Prod.snd).Nodup:=by
 have hs:=yS h;unfold List.Nodup at hs ⊢;rw[Pr]at hs ⊢;refine List.Pairwise.imp_of_mem (fun {a b} ha hb ne e=>ne ?_) hs;rw[<- (sF h ha).2.2,<- (sF h hb).2.2,e]
theorem uD{α:Type}{P:α->Bool}:∀ (L:List α) (i j m:Nat),i<=j->(∀ t a,L[t]?=some a->(P a=true↔(t < i\/j<=t)))->
  (L.take m).filter P=L.take (min i m) ++ (L.drop j).take (m - j)/\(L.drop m).filter P=(L.drop m).take (i - m) ++ L.drop (max j m)
 | [],i,j,m,_,_=>by simp
 | a::t,i,j,m,hij,F=>by
  have h0:=F 0 a rfl;have sh:∀ s b,t[s]?=some b->(P b=true↔(s < i - 1\/j - 1<=s)):=fun s b hb=>by
   rw[F (s+1) b hb];omega
  have ih:=fun m'=>uD t (i - 1) (j - 1) m' (by walk_at "o") sh
  rcases Nat.eq_zero_or_pos j with hj|hj
  ·have hi:i=0:=by walk_at "o"
   subst hj hi;have pa:P a=true:=h0.mpr (.inr (le_refl _));cases m with
   | zero=>
    obtain⟨_,e2⟩:=ih 0;simp at e2 ⊢;exact⟨pa,e2⟩
   | succ m=>
    obtain⟨e1,e2⟩:=ih m;simp at e1 e2 ⊢;simp only[pa,true_and];exact⟨e1,e2⟩
  ·obtain⟨j,rfl⟩:∃ j',j=j'+1:=⟨j - 1,by walk_at "o"⟩
   rcases Nat.eq_zero_or_pos i with hi|hi
   ·subst hi;have pa:P a=false:=by
     cases e:P a with
     | false=>rfl
     | true=>have:=h0.mp e;omega
    cases m with
    | zero=>
     obtain⟨_,e2⟩:=ih 0;simp at e2 ⊢;simp[pa,e2]
    | succ m=>
     obtain⟨e1,e2⟩:=ih m;simp at e1 e2 ⊢;simp[pa,e1,e2,Nat.add_max_add_right]
   ·obtain⟨i,rfl⟩:∃ i',i=i'+1:=⟨i - 1,by walk_at "o"⟩
    have pa:P a=true:=h0.mpr (.inl (by walk_at "o"))
    cases m with
    | zero=>
     obtain⟨_,e2⟩:=ih 0;simp at e2 ⊢;simp[pa,e2]
    | succ m=>
     obtain⟨e1,e2⟩:=ih m;simp at e1 e2 ⊢;simp[pa,e1,e2,Nat.add_max_add_right,Nat.add_min_add_right]
theorem sW(n:Nat)(out:List Sk)(k:Sk):aE n (out ++ [k])=(cJ (ar::aE n out) k).tail:=by
 rw[<- iE,<- mD];rfl
theorem Bk{n:Nat}{out:List Sk}{k:Sk}(hk:1<=k.num)(ap:∀ r∈out,¬ (r.pen=k.pen/\r.num=k.num)):∀ y∈made k,y∉ar::aE n out:=by
 rw[<- iE];have:=uw n out [] _ (uv n);rw[OC]at this;exact Ai this hk ap
def uN(x:Str)(out:List Sk)(i:Nat)(a:Sl):Prop:=(i=0/\a=ar)\/∃ p,0 < i/\(vw x out)[i - 1]?=some p/\p.1=a
theorem Cg{x:Str}{out:List Sk}{k:Sk}{i:Nat}(h:Sim x out)(fr:∀ y∈made k,y∉ar::aE x.length out)(ha:uN x out i k.act.anch):
  ∃ pre post,aE x.length out=pre ++ post/\aE x.length (out ++ [k])=pre ++ made k ++ post/\pre.filterMap (cK x out)=(vw x out).take i/\post.filterMap (cK x out)=(vw x out).drop i:=by
 rcases ha with ⟨rfl,e⟩|⟨p,hi,hp,e⟩
 ·refine⟨[],aE x.length out,rfl,?_,rfl,rfl⟩;rw[sW,AK e fr,OC]
 ·have hm:=Na hp;obtain⟨s,hs,es⟩:=mem_filterMap.mp hm;have e1:=(iV es).1;rw[<- e1]at hs es;obtain⟨r,hr,er⟩:=Oh hs;refine⟨(aE x.length out).take (r+1),(aE x.length out).drop (r+1),(Ot _ _).symm,?_,?_⟩
  ·rw[sW,F6 hr (er.trans e) h.nd fr]
  ·have ev:vw x out=((aE x.length out).take (r+1)).filterMap (cK x out) ++ ((aE x.length out).drop (r+1)).filterMap (cK x out):=by
    unfold vw;rw[<- Ou,Ot]
   have ea:((aE x.length out).take (r+1)).filterMap (cK x out)=((aE x.length out).take r).filterMap (cK x out) ++ [p]:=by
    rw[NF,M1 hr,er,Ou];congr 1;rw[Option.toList_some,List.filterMap_cons_some es];rfl
   generalize ((aE x.length out).take (r+1)).filterMap (cK x out)=A at *
   generalize ((aE x.length out).drop (r+1)).filterMap (cK x out)=B at *
   generalize ((aE x.length out).take r).filterMap (cK x out)=A0 at *
   have l:A0.length=i - 1:=by
    have nd:=yS h;refine (List.getElem?_inj (l:=(vw x out).map Prod.fst) ?_ nd).mp ?_
    ·rw[MY,ev,ea,Nj,Nj,List.length_singleton];omega
    ·rw[Ng,Ng,hp,ev,ea,List.append_assoc,List.getElem?_append_right (le_refl _),Nat.sub_self];rfl
   have la:A.length=i:=by
    rw[ea,Nj,l,List.length_singleton];omega
   rw[ev,<- la];exact⟨List.take_left.symm,List.drop_left.symm⟩
section
variable{x:Str}{out:List Sk}{k:Sk}
theorem mS:ay x (out ++ [k])=bq (ay x out) (cF k):=by
 unfold ay;rw[O9,<- List.append_assoc,cP];simp
theorem sj:bd (out ++ [k])=bq (bd out) (cI k):=by
 unfold bd;rw[O9,cP];simp
theorem wT:cf (out ++ [k])=bq (cf out) (cy k):=by
 unfold cf;rw[O9,cP];simp
theorem BJ:dI (out ++ [k])=bq (dI out) (eN k):=by
 unfold dI;rw[O9,cP];simp
end
theorem AC{α:Type}{ks:List Sl}{vs:List α}{q:Nat}{k:Sl}{v:α}(nd:ks.Nodup)(hk:ks[q]?=some k)(hv:vs[q]?=some v)(l:List (Sl×α)):cQ (bq l (ks.zip vs)) k=some v:=by
 refine oW _ _ ⟨(k,v),Na (List.getElem?_zip_eq_some.mpr ⟨hk,hv⟩:(ks.zip vs)[q]?=some (k,v)),rfl⟩ fun p hp e=>?_;obtain⟨q',hq,e'⟩:=Oh hp;have h1:=List.getElem?_zip_eq_some.mp ((M1 hq).trans (congrArg some e'));have:q=q':=(List.getElem?_inj (List.getElem?_eq_some_iff.mp hk).1 nd).mp (by rw[hk,h1.1,e])
 subst this;rw[hv]at h1;exact (Option.some.inj h1.2).symm
theorem E6{α:Type}{w:α}{ns:List Sl}{k:Sl}(l:List (Sl×α)):cQ (bq l (ns.map fun n=>(n,w))) k=if k∈ns then some w else cQ l k:=by
 split
 ·rename_i h;exact oW _ _ ⟨(k,w),mem_map.mpr ⟨k,h,rfl⟩,rfl⟩ fun p hp _=>by
   obtain⟨n,_,rfl⟩:=mem_map.mp hp;rfl
 ·rename_i h;exact pM fun p hp z=>by
   obtain⟨n,hn,rfl⟩:=mem_map.mp hp;exact h (z ▸ hn)
theorem Ke{x:Str}{out:List Sk}(h:Sim x out){n:Sl}{u:Unit}(e:cQ (bd out) n=some u):n∈aE x.length out:=by
 rcases gK (jq e)with z|z
 ·cases z
 ·obtain⟨s,hs,z⟩:=List.mem_flatMap.mp z;refine h.tc s hs n ?_;unfold cI at z;unfold wU;split at z
  ·rename_i ns ea;rw[ea];obtain⟨m,hm,e⟩:=mem_map.mp z;cases e;exact hm
  ·cases z
theorem J5{x:Str}{out:List Sk}(h:Sim x out){n s:Sl}(e:cQ (cf out) n=some s):n∈aE x.length out:=by
 rcases gK (jq e)with z|z
 ·cases z
 ·obtain⟨s,hs,z⟩:=List.mem_flatMap.mp z;refine h.tc s hs n ?_;unfold cy at z;unfold wU;split at z
  ·rename_i ns a ea;rw[ea];exact (Pe z).1
  ·cases z
theorem J2{x:Str}{out:List Sk}(h:Sim x out){n:Sl}{w:Str}(e:cQ (dI out) n=some w):n∈aE x.length out:=by
 rcases gK (jq e)with z|z
 ·cases z
 ·obtain⟨s,hs,z⟩:=List.mem_flatMap.mp z;refine h.tc s hs n ?_;unfold eN at z;unfold wU;split at z
  ·rename_i ns w ea;rw[ea];obtain⟨m,hm,e⟩:=mem_map.mp z;cases e;exact hm
  ·cases z
theorem GI{α:Type}{a b:Option α}(h:∀ n,a=some n↔b=some n):a=b:=by
 cases a with
 | none=>
  cases b with
  | none=>rfl
  | some v=>exact absurd ((h v).mpr rfl) (by simp)
 | some v=>exact ((h v).mp rfl).symm
theorem wm{x:Str}{out Uf:List Sk}{s:Sl}(h:Sim x out)(h':Sim x Uf)(e:∀ n,(pN x Uf n/\rR Uf n=s)↔(pN x out n/\rR out n=s)):cK x Uf s=cK x out s:=by
 unfold cK;congr 1;exact GI fun n=>by rw[jj h',jj h,e n]
theorem oz{x:Str}{out:List Sk}{s n:Sl}(h:Sim x out)(l:pN x out n)(e:rR out n=s):cK x out s=some (s,n):=by
 unfold cK;rw[(jj h s n).mpr ⟨l,e⟩];rfl
theorem wn{x:Str}{out Uf:List Sk}{s:Sl}{N:List Sl}(h:Sim x out)(h':Sim x Uf)(e:∀ n,(pN x Uf n/\rR Uf n=s)↔((pN x out n/\rR out n=s)/\n∉N)):cK x Uf s=(cK x out s).filter fun p=>decide (p.2∉N):=by
 cases q:cK x out s with
 | none=>
  cases q':cK x Uf s with
  | none=>rfl
  | some p=>
   obtain⟨e1,e2⟩:=iV q';have:=(e p.2).mp ((jj h' _ _).mp e2);rw[oz h this.1.1 this.1.2]at q;cases q
 | some p=>
  obtain⟨e1,e2⟩:=iV q;have lp:=(jj h _ _).mp e2
  by_cases z:p.2∈N
  ·rw[Option.filter_some_neg (by simpa using z)]
   cases q':cK x Uf s with
   | none=>rfl
   | some p'=>
    obtain⟨e1',e2'⟩:=iV q';have g:=(e p'.2).mp ((jj h' _ _).mp e2');have:p'.2=p.2:=h.inj _ _ g.1.1 lp.1 (by rw[g.1.2,lp.2])
    exact absurd (this ▸ z) g.2
  ·rw[Option.filter_some_pos (by simpa using z),oz h' ((e p.2).mpr ⟨lp,z⟩).1 ((e p.2).mpr ⟨lp,z⟩).2,<- e1]
theorem jh{row:List Sl}{f g:Sl->Option (Sl×Sl)}(h:∀ s∈row,f s=g s):row.filterMap f=row.filterMap g:=by
 induction row with
 | nil=>rfl
 | cons a t ih=>
  have e:=h a M8;have ih':=ih fun s hs=>h s (M3 _ hs);rw[N0,N0,e,ih']
theorem ji{row:List Sl}{f g:Sl->Option (Sl×Sl)}{P:Sl×Sl->Bool}(h:∀ s∈row,f s=(g s).filter P):row.filterMap f=(row.filterMap g).filter P:=by
 induction row with
 | nil=>rfl
 | cons a t ih=>
  have e:=h a M8;have ih':=ih fun s hs=>h s (M3 _ hs);rw[N0,N0,e,ih'];cases g a with
  | none=>rfl
  | some p=>
   by_cases z:P p=true
   ·rw[Option.filter_some_pos z,List.filter_cons_of_pos z]
   ·rw[Option.filter_some_neg (by simpa using z),N8 z]
theorem hX{f:Sl->Option (Sl×Sl)}:∀ {l N:List Sl},l.length=N.length->(∀ (q:Nat) s n,l[q]?=some s->N[q]?=some n->f s=some (s,n))->l.filterMap f=l.zip N
 | [],[],_,_=>rfl
 | s::l,n::N,e,h=>by
  rw[List.filterMap_cons_some (h 0 s n rfl rfl),OR,hX (Nat.succ.inj e) fun q s n h1 h2=>h (q+1) s n h1 h2]
theorem xX{L:List (Sl×Sl)}(nd:(L.map Prod.snd).Nodup){i j:Nat}(hij:i<=j):∀ t a,L[t]?=some a->(decide (a.2∉((L.drop i).take (j - i)).map Prod.snd)=true↔(t < i\/j<=t)):=fun t a ha=>by
 rw[decide_eq_true_eq];constructor
 ·intro h;rcases OH t i with z|z
  ·exact .inl z
  ·rcases OH t j with y|y
   ·refine absurd (mem_map.mpr ⟨a,Na (i:=t - i) ?_,rfl⟩) h;rw[List.getElem?_take_of_lt (by walk_at "o"),List.getElem?_drop,show i+(t - i)=t by walk_at "o",ha]
   ·exact .inr y
 ·intro h z;obtain⟨b,hb,e⟩:=mem_map.mp z;obtain⟨u,hu,eu⟩:=Oh hb;have hu2:u < j - i:=by
   rw[Nq]at hu;omega
  have hb':L[i+u]?=some b:=by
   have:=M1 hu;rw[List.getElem?_take_of_lt hu2,List.getElem?_drop,eu]at this;exact this
  have:t=i+u:=by
   refine (List.getElem?_inj (l:=L.map Prod.snd) (by rw[MY];exact (List.getElem?_eq_some_iff.mp ha).1) nd).mp ?_
   rw[Ng,Ng,ha,hb'];exact congrArg some e.symm
  omega
theorem B8{L:List (Sl×Sl)}{i j:Nat}{n:Sl}(h:n∈((L.drop i).take (j - i)).map Prod.snd):∃ p∈L,p.2=n:=by
 obtain⟨p,hp,e⟩:=mem_map.mp h;exact⟨p,List.mem_of_mem_drop (N_ hp),e⟩
theorem pB:∀ {ss W:List Sl} {b:Sl},W.Nodup->b∈W->ss.Nodup->(∀ x∈ss,x∉W)->(bB W b ss).Nodup
 | [],W,b,hW,_,_,_=>hW
 | x::t,W,b,hW,hb,nd,hf=>by
  rw[Oo]at nd;unfold bB;refine pB (ut hW (hf x M8) hb) ((eX hb x).mpr (.inr rfl)) nd.2 fun y hy hW'=>?_;rcases (eX hb y).mp hW' with z|z
  ·exact hf y (M3 _ hy) z
  ·exact nd.1 (z ▸ hy)
theorem AL{W:List Sl}{s:Sk}(hW:W.Nodup)(hf:∀ x∈made s,x∉W):(cJ W s).Nodup:=by
 unfold cJ;split
 ·exact pB hW (by assumption) (bI _ _ _) hf
 ·exact hW
section
variable{x:Str}{out:List Sk}{k:Sk}
theorem Em(n:Nat):ar::aE n (out ++ [k])=cJ (ar::aE n out) k:=by rw[<- iE,mD,iE]
theorem B6(h:Sim x out)(fr:∀ y∈made k,y∉ar::aE x.length out):(ar::aE x.length (out ++ [k])).Nodup:=by
 rw[Em];exact AL h.nd fr
theorem xi(h:Sim x out)(fr:∀ y∈made k,y∉ar::aE x.length out)(hA:k.act.anch∈ar::aE x.length out\/made k=[])(s:Sl):s∈aE x.length (out ++ [k])↔s∈aE x.length out\/s∈made k:=by
 have n0:=(Oo.mp h.nd).1;have n1:=(Oo.mp (B6 h fr)).1;have e:s∈ar::aE x.length (out ++ [k])↔s∈ar::aE x.length out\/s∈made k:=by
  rw[Em];unfold cJ;split
  ·rename_i ha;exact nZ ha s
  ·rename_i ha;rcases hA with z|z
   ·exact absurd z ha
   ·rw[z];exact⟨.inl,fun z=>z.elim id fun z=>nomatch z⟩
 rw[NH,NH]at e;constructor
 ·intro hs;rcases e.mp (.inr hs)with (z|z)|z
  ·exact absurd (z ▸ hs) n1
  ·exact .inl z
  ·exact .inr z
 ·intro hs;have:s=ar\/s∈aE x.length (out ++ [k]):=e.mpr (hs.elim (fun z=>.inl (.inr z)) .inr);rcases this with z|z
  ·subst z;rcases hs with z|z
   ·exact absurd z n0
   ·exact absurd M8 (fr _ z)
  ·exact z
theorem At{n:Sl}{v:Str}(h:(n,v)∈cF k):n∈made k:=by
 unfold cF at h;split at h
 ·exact (Pe h).1
 ·cases h
theorem wY(h:Sim x out)(fr:∀ y∈made k,y∉ar::aE x.length out)(hA:k.act.anch∈ar::aE x.length out\/made k=[])(tck:∀ n∈wU k,n∈aE x.length out)
  (pin:∀ n,pN x (out ++ [k]) n->rR (out ++ [k]) n∈aE x.length (out ++ [k])) (inj:∀ a b,pN x (out ++ [k]) a->pN x (out ++ [k]) b->rR (out ++ [k]) a=rR (out ++ [k]) b->a=b):Sim x (out ++ [k]):=by
 have rm:=xi h fr hA;refine⟨B6 h fr,fun s hs n hn=>?_,fun s hs n hn=>?_,fun n v e=>?_,pin,inj⟩
 ·rcases RJ.mp hs with z|z
  ·exact (rm n).mpr (.inl (h.pl s z n hn))
  ·rw[Qo.mp z]at hn;exact (rm n).mpr (.inr hn)
 ·rcases RJ.mp hs with z|z
  ·exact (rm n).mpr (.inl (h.tc s z n hn))
  ·rw[Qo.mp z]at hn;exact (rm n).mpr (.inl (tck n hn))
 ·rw[mS]at e;rcases gK (jq e)with z|z
  ·obtain⟨u,hu⟩:=pL z;exact (rm n).mpr (.inl (h.br n u hu))
  ·exact (rm n).mpr (.inr (At z))
theorem gL(e:cy k=[])(n:Sl):rR (out ++ [k]) n=rR out n:=by
 unfold rR;rw[wT,e];rfl
theorem xp{a:Sl}{y:Str}(ea:k.act=.put a y):(made k).length=(lC y).length:=by
 unfold made lC;rw[bz,ea,MY];rfl
theorem BV{a:Sl}{y:Str}(ea:k.act=.put a y){n:Sl}(hn:n∉made k):cQ (ay x (out ++ [k])) n=cQ (ay x out) n:=by
 rw[mS];exact pM fun p hp z=>hn (z ▸ At (v:=p.2) hp)
theorem zl{a:Sl}{y:Str}(ea:k.act=.put a y){q:Nat}{n:Sl}{v:Str}(hn:(made k)[q]?=some n)(hv:(lC y)[q]?=some v):cQ (ay x (out ++ [k])) n=some v:=by
 rw[mS];have:cF k=(made k).zip (lC y):=by unfold cF;rw[ea]
 rw[this];exact AC (bI _ _ _) hn hv _
theorem oX{a:Sl}{y:Str}(h:Sim x out)(fr:∀ y∈made k,y∉ar::aE x.length out)(ea:k.act=.put a y)(n:Sl):pN x (out ++ [k]) n↔pN x out n\/n∈made k:=by
 have es:bd (out ++ [k])=bd out:=by
  rw[sj];have:cI k=[]:=by unfold cI;rw[ea]
  rw[this];rfl
 unfold pN;rw[es]
 by_cases hn:n∈made k
 ·refine⟨fun _=>.inr hn,fun _=>⟨?_,?_⟩⟩
  ·obtain⟨q,hq,e⟩:=Oh hn;have hq':q < (lC y).length:=by rw[<- xp ea];exact hq
   exact⟨_,zl ea (by rw[M1 hq,e]) (M1 hq')⟩
  ·cases e:cQ (bd out) n with
   | none=>rfl
   | some u=>exact absurd (M3 _ (Ke h e)) (fr n hn)
 ·rw[BV ea hn];exact⟨.inl,fun z=>z.elim id fun z=>absurd z hn⟩
theorem kI(h:Sim x out)(fr:∀ y∈made k,y∉ar::aE x.length out){n:Sl}(hn:n∈made k):rR out n=n:=by
 unfold rR;cases e:cQ (cf out) n with
 | none=>rfl
 | some u=>exact absurd (M3 _ (J5 h e)) (fr n hn)
theorem BO{a:Sl}{y:Str}(h:Sim x out)(fr:∀ y∈made k,y∉ar::aE x.length out)(hA:k.act.anch∈ar::aE x.length out)(ea:k.act=.put a y):Sim x (out ++ [k]):=by
 have et:cy k=[]:=by unfold cy;rw[ea]
 have rm:=xi h fr (.inl hA);refine wY h fr (.inl hA) (fun n hn=>?_) (fun n hn=>?_) fun b c hb hc e=>?_
 ·unfold wU at hn;rw[ea]at hn;cases hn
 ·rw[gL et,rm];rcases (oX h fr ea n).mp hn with z|z
  ·exact .inl (h.pin n z)
  ·rw[kI h fr z];exact .inr z
 ·rw[gL et,gL et]at e;rcases (oX h fr ea b).mp hb with z|z<;>rcases (oX h fr ea c).mp hc with w|w
  ·exact h.inj b c z w e
  ·rw[kI h fr w]at e;exact absurd (M3 _ (e ▸ h.pin b z)) (fr c w)
  ·rw[kI h fr z]at e;exact absurd (M3 _ (e ▸ h.pin c w)) (fr b z)
  ·rw[kI h fr z,kI h fr w]at e;exact e
theorem Ij{a:Sl}{y:Str}{i:Nat}(h:Sim x out)(fr:∀ y∈made k,y∉ar::aE x.length out)(ha:uN x out i k.act.anch)(hA:k.act.anch∈ar::aE x.length out)(ea:k.act=.put a y):vw x (out ++ [k])=(vw x out).take i ++ (made k).zip (made k) ++ (vw x out).drop i:=by
 have h':=BO h fr hA ea;have et:cy k=[]:=by unfold cy;rw[ea]
 obtain⟨pre,post,e1,e2,e3,e4⟩:=Cg h fr ha;have old:∀ s∈aE x.length out,cK x (out ++ [k]) s=cK x out s:=fun s hs=>wm h h' fun n=>by
  rw[gL et,oX h fr ea];refine⟨fun z=>⟨z.1.elim id fun w=>?_,z.2⟩,fun z=>⟨.inl z.1,z.2⟩⟩;rw[kI h fr w]at z;exact absurd (M3 _ (z.2 ▸ hs)) (fr n w)
 have new:(made k).filterMap (cK x (out ++ [k]))=(made k).zip (made k):=hX rfl fun q s n h1 h2=>by
  rw[h1]at h2;cases h2;have hm:=Na h1;exact oz h' ((oX h fr ea s).mpr (.inr hm)) (by rw[gL et,kI h fr hm])
 show (aE x.length (out ++ [k])).filterMap _=_
 rw[e2,Ou,Ou,new,jh (row:=pre) fun s hs=>old s (by rw[e1];exact OG _ hs),jh (row:=post) fun s hs=>old s (by rw[e1];exact Nx _ hs),e3,e4]
theorem fV(e:k.act.many=0):made k=[]:=by unfold made;rw[e];rfl
theorem oJ(n:Nat)(e:made k=[]):aE n (out ++ [k])=aE n out:=by rw[sW,CG e]
theorem sD(e:made k=[]):ay x (out ++ [k])=ay x out:=by
 rw[mS];have:cF k=[]:=by
  unfold cF;split
  ·rw[e];rfl
  ·rfl
 rw[this];rfl
theorem jX{N:List Sl}(ea:k.act=.strike N)(n:Sl):pN x (out ++ [k]) n↔pN x out n/\n∉N:=by
 have em:made k=[]:=fV (by rw[ea];rfl)
 unfold pN;rw[sD em,sj];have:cI k=N.map fun n=>(n,()):=by unfold cI;rw[ea]
 rw[this,E6]
 by_cases z:n∈N
 ·rw[if_pos z];exact⟨fun w=>(by cases w.2),fun w=>absurd z w.2⟩
 ·rw[if_neg z];exact⟨fun w=>⟨w,z⟩,fun w=>w.1⟩
theorem sN{N:List Sl}(h:Sim x out)(hN:∀ n∈N,n∈aE x.length out)(ea:k.act=.strike N):Sim x (out ++ [k]):=by
 have em:made k=[]:=fV (by rw[ea];rfl)
 have et:cy k=[]:=by unfold cy;rw[ea]
 have fr:∀ y∈made k,y∉ar::aE x.length out:=fun y hy=>by rw[em]at hy;cases hy
 refine wY h fr (.inr em) (fun n hn=>?_) (fun n hn=>?_) fun b c hb hc e=>?_
 ·unfold wU at hn;rw[ea]at hn;exact hN n hn
 ·rw[gL et,oJ _ em];exact h.pin n ((jX ea n).mp hn).1
 ·rw[gL et,gL et]at e;exact h.inj b c ((jX ea b).mp hb).1 ((jX ea c).mp hc).1 e
theorem CA{N:List Sl}(h:Sim x out)(hN:∀ n∈N,n∈aE x.length out)(ea:k.act=.strike N):vw x (out ++ [k])=(vw x out).filter fun p=>decide (p.2∉N):=by
 have em:made k=[]:=fV (by rw[ea];rfl)
 have et:cy k=[]:=by unfold cy;rw[ea]
 have h':=sN h hN ea;unfold vw;rw[oJ _ em];refine ji fun s _=>wn h h' fun n=>?_;rw[gL et,jX ea];exact⟨fun z=>⟨⟨z.1.1,z.2⟩,z.1.2⟩,fun z=>⟨⟨z.1.1,z.2⟩,z.1.2⟩⟩
theorem mQ{N:List Sl}{w:Str}(ea:k.act=.dress N w)(n:Sl):pN x (out ++ [k]) n↔pN x out n:=by
 have em:made k=[]:=fV (by rw[ea];rfl)
 unfold pN;rw[sD em,sj];have:cI k=[]:=by unfold cI;rw[ea]
 rw[this];exact Iff.rfl
theorem wf{N:List Sl}{w:Str}(h:Sim x out)(hN:∀ n∈N,n∈aE x.length out)(ea:k.act=.dress N w):Sim x (out ++ [k]):=by
 have em:made k=[]:=fV (by rw[ea];rfl)
 have et:cy k=[]:=by unfold cy;rw[ea]
 have fr:∀ y∈made k,y∉ar::aE x.length out:=fun y hy=>by rw[em]at hy;cases hy
 refine wY h fr (.inr em) (fun n hn=>?_) (fun n hn=>?_) fun b c hb hc e=>?_
 ·unfold wU at hn;rw[ea]at hn;exact hN n hn
 ·rw[gL et,oJ _ em];exact h.pin n ((mQ ea n).mp hn)
 ·rw[gL et,gL et]at e;exact h.inj b c ((mQ ea b).mp hb) ((mQ ea c).mp hc) e
theorem DV{N:List Sl}{w:Str}(h:Sim x out)(hN:∀ n∈N,n∈aE x.length out)(ea:k.act=.dress N w):vw x (out ++ [k])=vw x out:=by
 have em:made k=[]:=fV (by rw[ea];rfl)
 have et:cy k=[]:=by unfold cy;rw[ea]
 have h':=wf h hN ea;unfold vw;rw[oJ _ em];exact jh fun s _=>wm h h' fun n=>by rw[gL et,mQ ea]
theorem tY{N:List Sl}{a:Sl}(ea:k.act=.move N a):(made k).length=N.length:=by
 unfold made;rw[bz,ea];rfl
theorem mj{N:List Sl}{a:Sl}(ea:k.act=.move N a)(n:Sl):pN x (out ++ [k]) n↔pN x out n:=by
 have e1:cF k=[]:=by unfold cF;rw[ea]
 have e2:cI k=[]:=by unfold cI;rw[ea]
 unfold pN;rw[mS,e1,sj,e2];exact Iff.rfl
theorem jK{N:List Sl}{a:Sl}(ea:k.act=.move N a){n:Sl}(hn:n∉N):rR (out ++ [k]) n=rR out n:=by
 unfold rR;rw[wT];have:cy k=N.zip (made k):=by unfold cy;rw[ea]
 rw[this,pM (j:=n) fun p hp z=>hn (by rw[<- z];exact (Pe (a:=p.1) (b:=p.2) hp).1)]
theorem zH{N:List Sl}{a:Sl}(ea:k.act=.move N a)(nd:N.Nodup){q:Nat}{n s:Sl}(hn:N[q]?=some n)(hs:(made k)[q]?=some s):rR (out ++ [k]) n=s:=by
 unfold rR;rw[wT];have:cy k=N.zip (made k):=by unfold cy;rw[ea]
 rw[this,AC nd hn hs];rfl
theorem mH{N:List Sl}{a:Sl}(ea:k.act=.move N a)(nd:N.Nodup){n:Sl}(hn:n∈N):∃ (q:Nat) (s:Sl),N[q]?=some n/\(made k)[q]?=some s/\rR (out ++ [k]) n=s:=by
 obtain⟨q,hq,e⟩:=Oh hn;have hq':q < (made k).length:=by rw[tY ea];exact hq
 have h1:N[q]?=some n:=by rw[M1 hq,e]
 exact⟨q,_,h1,M1 hq',zH ea nd h1 (M1 hq')⟩
theorem y6{N:List Sl}{a:Sl}(h:Sim x out)(fr:∀ y∈made k,y∉ar::aE x.length out)(hA:k.act.anch∈ar::aE x.length out)(hN:∀ n∈N,n∈aE x.length out)(nd:N.Nodup)(ea:k.act=.move N a):Sim x (out ++ [k]):=by
 have rm:=xi h fr (.inl hA);refine wY h fr (.inl hA) (fun n hn=>?_) (fun n hn=>?_) fun b c hb hc e=>?_
 ·unfold wU at hn;rw[ea]at hn;exact hN n hn
 ·rw[rm]
  by_cases z:n∈N
  ·obtain⟨q,s,_,h2,e⟩:=mH (out:=out) ea nd z;exact .inr (e ▸ Na h2)
  ·rw[jK ea z];exact .inl (h.pin n ((mj ea n).mp hn))
 ·have lb:=(mj ea b).mp hb;have lc:=(mj ea c).mp hc
  by_cases z:b∈N<;>by_cases w:c∈N
  ·obtain⟨q,s,h1,h2,e1⟩:=mH (out:=out) ea nd z;obtain⟨q',s',h1',h2',e1'⟩:=mH (out:=out) ea nd w;rw[e1,e1']at e;subst e;have:q=q':=(List.getElem?_inj (List.getElem?_eq_some_iff.mp h2).1 (bI _ _ _)).mp (h2.trans h2'.symm);subst this;rw[h1]at h1';exact Option.some.inj h1'
  ·obtain⟨q,s,h1,h2,e1⟩:=mH (out:=out) ea nd z;rw[e1,jK ea w]at e;exact absurd (M3 _ (e ▸ h.pin c lc)) (fr s (Na h2))
  ·obtain⟨q,s,h1,h2,e1⟩:=mH (out:=out) ea nd w;rw[e1,jK ea z]at e;exact absurd (M3 _ (e ▸ h.pin b lb)) (fr s (Na h2))
  ·rw[jK ea z,jK ea w]at e;exact h.inj b c lb lc e
theorem FZ{N:List Sl}{a:Sl}{m:Nat}(h:Sim x out)(fr:∀ y∈made k,y∉ar::aE x.length out)(ha:uN x out m k.act.anch)(hA:k.act.anch∈ar::aE x.length out)(hN:∀ n∈N,n∈aE x.length out)(nd:N.Nodup)(lN:∀ n∈N,pN x out n)(ea:k.act=.move N a):
  vw x (out ++ [k])=((vw x out).take m).filter (fun p=>decide (p.2∉N)) ++ (made k).zip N ++ ((vw x out).drop m).filter (fun p=>decide (p.2∉N)):=by
 have h':=y6 h fr hA hN nd ea;obtain⟨pre,post,e1,e2,e3,e4⟩:=Cg h fr ha;have old:∀ s∈aE x.length out,cK x (out ++ [k]) s=(cK x out s).filter fun p=>decide (p.2∉N):=fun s hs=>wn h h' fun n=>by
  rw[mj ea]
  by_cases z:n∈N
  ·refine⟨fun w=>?_,fun w=>absurd z w.2⟩;obtain⟨q,s',h1,h2,e⟩:=mH (out:=out) ea nd z;rw[e]at w;exact absurd (M3 _ (w.2 ▸ hs)) (fr s' (Na h2))
  ·rw[jK ea z];exact⟨fun w=>⟨w,z⟩,fun w=>w.1⟩
 have new:(made k).filterMap (cK x (out ++ [k]))=(made k).zip N:=hX (tY ea) fun q s n h1 h2=>
  oz h' ((mj ea n).mpr (lN n (Na h2))) (zH ea nd h2 h1)
 show (aE x.length (out ++ [k])).filterMap _=_
 rw[e2,Ou,Ou,new,ji (row:=pre) fun s hs=>old s (by rw[e1];exact OG _ hs),ji (row:=post) fun s hs=>old s (by rw[e1];exact Nx _ hs),e3,e4]
end
def wV(x:Str)(out:List Sk)(n:Sl):D:=.tup [.str ((cQ (ay x out) n).getD ""),.str ((cQ (dI out) n).getD "")]
def ef(x:Str)(out:List Sk):List D:=(vw x out).map fun p=>wV x out p.2
section
variable{x:Str}{out:List Sk}{k:Sk}
theorem DU(h:Sim x out){p:Sl×Sl}(hp:p∈vw x out):p.2∈aE x.length out:=by
 obtain⟨⟨v,hv⟩,_⟩:=(sF h hp).2.1;exact h.br _ v hv
theorem si(e:eN k=[]):dI (out ++ [k])=dI out:=by
 rw[BJ,e];rfl
theorem FJ{i:Nat}{a:Sl}(h:Sim x out)(ha:uN x out i a):a∈ar::aE x.length out:=by
 rcases ha with ⟨_,rfl⟩|⟨p,_,hp,rfl⟩
 ·exact M8
 ·exact M3 _ (sF h (Na hp)).1
theorem Ek{a:Sl}{y:Str}{i:Nat}(h:Sim x out)(fr:∀ y∈made k,y∉ar::aE x.length out)(ha:uN x out i a)(ea:k.act=.put a y):
  Sim x (out ++ [k])/\ef x (out ++ [k])=(ef x out).take i ++ (lC y).map (fun s=>D.tup [.str s,.str ""]) ++ (ef x out).drop i:=by
 have ea':k.act.anch=a:=by rw[ea];rfl
 have hA:=FJ h ha;rw[<- ea']at ha hA;refine⟨BO h fr hA ea,?_⟩;have ew:eN k=[]:=by unfold eN;rw[ea]
 have old:∀ p∈vw x out,wV x (out ++ [k]) p.2=wV x out p.2:=fun p hp=>by
  unfold wV;rw[si ew,BV ea fun z=>fr _ z (M3 _ (DU h hp))]
 unfold ef;rw[Ij h fr ha hA ea,Nv,Nv,<- Pi,<- Pj];congr 1
 ·congr 1
  ·exact NL fun p hp=>old p (N_ hp)
  ·refine List.ext_getElem? fun q=>?_;rw[Ng,Ng];cases e:(made k)[q]? with
   | none=>
    have l1:=List.getElem?_eq_none_iff.mp e;have l2:=xp (k:=k) ea;rw[NY (by rw[Pw];omega),NY (by walk_at "o")]
    rfl
   | some n=>
    have hq:=(List.getElem?_eq_some_iff.mp e).1;have hq':q < (lC y).length:=by rw[<- xp (k:=k) ea];exact hq
    have hv:=M1 hq';rw[(List.getElem?_zip_eq_some.mpr ⟨e,e⟩:((made k).zip (made k))[q]?=some (n,n)),hv];show some (wV x (out ++ [k]) n)=_
    unfold wV;rw[zl ea e hv,si ew];have:cQ (dI out) n=none:=by
     cases e2:cQ (dI out) n with
     | none=>rfl
     | some w=>exact absurd (M3 _ (J2 h e2)) (fr n (Na e))
    rw[this];rfl
 ·exact NL fun p hp=>old p (List.mem_of_mem_drop hp)
def jL(x:Str)(out:List Sk)(i j:Nat):List Sl:=(((vw x out).drop i).take (j - i)).map Prod.snd
theorem mI(h:Sim x out){i j:Nat}:∀ n∈jL x out i j,n∈aE x.length out:=fun n hn=>by
 obtain⟨p,hp,rfl⟩:=B8 hn;exact DU h hp
theorem y_{i j:Nat}(h:Sim x out)(hij:i<=j)(ea:k.act=.strike (jL x out i j)):Sim x (out ++ [k])/\ef x (out ++ [k])=(ef x out).take i ++ (ef x out).drop j:=by
 refine⟨sN h (mI h) ea,?_⟩;have em:made k=[]:=fV (by rw[ea];rfl)
 have ew:eN k=[]:=by unfold eN;rw[ea]
 have F:=(uD (vw x out) i j 0 hij (xX (oq h) hij)).2;have es:∀ n,wV x (out ++ [k]) n=wV x out n:=fun n=>by unfold wV;rw[si ew,sD em]
 rw[PQ,Qx,Nat.max_zero]at F;unfold ef;rw[CA h (mI h) ea];show ((vw x out).filter fun p=>decide (p.2∉(((vw x out).drop i).take (j - i)).map Prod.snd)).map _=_
 rw[F,Nv,Pi,Pj];simp only[es]
theorem CM{i j m:Nat}{a:Sl}(h:Sim x out)(fr:∀ y∈made k,y∉ar::aE x.length out)(hij:i<=j)(ha:uN x out m a)(ea:k.act=.move (jL x out i j) a):
  Sim x (out ++ [k])/\ef x (out ++ [k])=(ef x out).take (min i m) ++ ((ef x out).drop j).take (m - j) ++ ((ef x out).drop i).take (j - i) ++ (((ef x out).drop m).take (i - m) ++ (ef x out).drop (max j m)):=by
 have ea':k.act.anch=a:=by rw[ea];rfl
 have hA:=FJ h ha;rw[<- ea']at ha hA;have nd:(jL x out i j).Nodup:=((oq h).sublist (by
  unfold jL;rw[Pi,Pj];exact (List.take_sublist _ _).trans (List.drop_sublist _ _)))
 have lN:∀ n∈jL x out i j,pN x out n:=fun n hn=>by
  obtain⟨p,hp,rfl⟩:=B8 hn;exact (sF h hp).2.1
 refine⟨y6 h fr hA (mI h) nd ea,?_⟩;have ew:eN k=[]:=by unfold eN;rw[ea]
 have eb:cF k=[]:=by unfold cF;rw[ea]
 have F:=uD (vw x out) i j m hij (xX (oq h) hij);have es:∀ n,wV x (out ++ [k]) n=wV x out n:=fun n=>by
  unfold wV;rw[si ew,mS,eb];rfl
 have ez:((made k).zip (jL x out i j)).map (fun p=>wV x out p.2)=(((vw x out).drop i).take (j - i)).map fun p=>wV x out p.2:=by
  have:((made k).zip (jL x out i j)).map (fun p=>wV x out p.2)=(((made k).zip (jL x out i j)).map Prod.snd).map (wV x out):=by rw[Nr];rfl
  rw[this,List.map_snd_zip (by rw[tY ea];exact le_refl _)]
  unfold jL;rw[Nr];rfl
 unfold ef;rw[FZ h fr ha hA (mI h) nd lN ea];have F1:((vw x out).take m).filter (fun p=>decide (p.2∉jL x out i j))=_:=F.1;have F2:((vw x out).drop m).filter (fun p=>decide (p.2∉jL x out i j))=_:=F.2;simp only[es];rw[F1,F2,Nv,Nv,ez];simp only[Nv,Pi,Pj]
theorem AU{i j:Nat}{w:Str}(h:Sim x out)(hij:i<=j)(ea:k.act=.dress (jL x out i j) w):Sim x (out ++ [k])/\
  ef x (out ++ [k])=(ef x out).take i ++ ((((vw x out).drop i).take (j - i)).map fun p=>D.tup [.str ((cQ (ay x out) p.2).getD ""),.str w]) ++ (ef x out).drop j:=by
 refine⟨wf h (mI h) ea,?_⟩;have em:made k=[]:=fV (by rw[ea];rfl)
 have ew:eN k=(jL x out i j).map fun n=>(n,w):=by unfold eN;rw[ea]
 have es:∀ n,wV x (out ++ [k]) n=if n∈jL x out i j then D.tup [.str ((cQ (ay x out) n).getD ""),.str w]else wV x out n:=fun n=>by
  unfold wV;rw[BJ,ew,E6,sD em];split<;>rfl
 have I:=xX (oq h) hij;have VF:∀ t a,(vw x out)[t]?=some a->(t < i\/j<=t)->a.2∉jL x out i j:=fun t a ha ht=>of_decide_eq_true ((I t a ha).mpr ht);have e3:vw x out=(vw x out).take i ++ ((vw x out).drop i).take (j - i) ++ (vw x out).drop j:=by
  rw[List.append_assoc]
  conv=>lhs;rw[<- Ot i (vw x out)]
  congr 1
  conv=>lhs;rw[<- Ot (j - i) ((vw x out).drop i)]
  rw[List.drop_drop,show i+(j - i)=j by walk_at "o"]
 unfold ef;rw[DV h (mI h) ea]
 conv=>lhs;rw[e3]
 rw[Nv,Nv,<- Pi,<- Pj];congr 1
 ·congr 1
  ·refine NL fun p hp=>?_;obtain⟨t,ht,et⟩:=Oh hp;have hti:t < i:=by rw[Nq]at ht;omega
   have hp':(vw x out)[t]?=some p:=by
    have:=M1 ht;rw[List.getElem?_take_of_lt hti,et]at this;exact this
   rw[es,if_neg (VF t p hp' (.inl hti))]
  ·refine NL fun p hp=>?_;rw[es,if_pos (show p.2∈jL x out i j from mem_map.mpr ⟨p,hp,rfl⟩)]
 ·refine NL fun p hp=>?_;obtain⟨t,ht,et⟩:=Oh hp;have hp':(vw x out)[j+t]?=some p:=by
   have:=M1 ht;rw[List.getElem?_drop,et]at this;exact this
  rw[es,if_neg (VF _ p hp' (.inr (O7 _ _)))]
end
theorem mC(n:Nat):aE n []=c9 n:=by
 unfold aE mV;rw[List.foldl_nil,cM];rfl
theorem xE(x:Str):(c9 x.length).length=(lC x).length:=by
 unfold c9 lC;rw[bz,MY];rfl
theorem FF(x:Str):ay x []=bq [] ((c9 x.length).zip (lC x)):=by
 unfold ay;rw[List.flatMap_nil,Oj]
theorem EZ{x:Str}{q:Nat}{n:Sl}{v:Str}(h:(c9 x.length)[q]?=some n)(hv:(lC x)[q]?=some v):cQ (ay x []) n=some v:=by
 rw[FF];exact AC (bI _ _ _) h hv _
theorem pU(n:Nat):ar∉c9 n:=fun h=>by
 have:=(dA h).2.2;exact absurd this (by decide)
theorem sn(x:Str):Sim x []:=by
 have br:∀ n v,cQ (ay x []) n=some v->n∈c9 x.length:=fun n v e=>by
  rw[FF]at e;rcases gK (jq e)with z|z
  ·cases z
  ·exact (Pe z).1
 refine⟨?_,(fun _ h=>by cases h),(fun _ h=>by cases h),?_,?_,fun a b _ _ e=>e⟩
 ·rw[mC,Oo];exact⟨pU _,bI _ _ _⟩
 ·rw[mC];exact br
 ·intro n h;rw[mC];obtain⟨⟨v,hv⟩,_⟩:=h;exact br n v hv
theorem GM{x:Str}{n:Sl}(h:n∈c9 x.length):pN x [] n:=by
 obtain⟨q,hq,e⟩:=Oh h;have hq':q < (lC x).length:=by rw[<- xE];exact hq
 exact⟨⟨_,EZ (by rw[M1 hq,e]) (M1 hq')⟩,rfl⟩
theorem Ik(x:Str):vw x []=(c9 x.length).zip (c9 x.length):=by
 unfold vw;rw[mC];refine hX rfl fun q s n h1 h2=>?_;rw[h1]at h2;cases h2;exact oz (sn x) (GM (Na h1)) rfl
theorem wt(x:Str):(vw x []).map (fun p=>(cQ (ay x []) p.2).getD "")=lC x:=by
 rw[Ik];refine List.ext_getElem? fun q=>?_;rw[Ng];cases e:(c9 x.length)[q]? with
 | none=>
  have l1:=List.getElem?_eq_none_iff.mp e;have l2:=xE x;rw[NY (by rw[Pw];omega),NY (by walk_at "o")]
  rfl
 | some n=>
  have hq:=(List.getElem?_eq_some_iff.mp e).1;have hq':q < (lC x).length:=by rw[<- xE];exact hq
  have hv:=M1 hq';rw[(List.getElem?_zip_eq_some.mpr ⟨e,e⟩:((c9 x.length).zip (c9 x.length))[q]?=some (n,n)),hv];show some ((cQ (ay x []) n).getD "")=_
  rw[EZ e hv];rfl
theorem El(x:Str):ef x []=(lC x).map fun s=>D.tup [.str s,.str ""]:=by
 rw[<- wt x,Nr];rfl
theorem rq{P:Sl->Bool}{b y:Sl}(h:P y=false):∀ W:List Sl,(jO W b y).filter P=W.filter P
 | []=>rfl
 | a::t=>by
  unfold jO;split
  ·rw[Pk,Pk,h,Pk];rfl
  ·rw[Pk,Pk,rq h t]
theorem ni{P:Sl->Bool}:∀ (ss W:List Sl) (b:Sl),(∀ y∈ss,P y=false)->(bB W b ss).filter P=W.filter P
 | [],_,_,_=>rfl
 | y::t,W,b,h=>by
  unfold bB;rw[ni t _ y fun z hz=>h z (M3 _ hz),rq (h y M8)]
theorem Gd{n:Nat}:∀ (out:List Sk),(∀ s∈out,1<=s.num)->(aE n out).filter (fun s=>decide (s∈c9 n))=c9 n:=fun out h=>by
 have key:∀ (out:List Sk) (W:List Sl),(∀ s∈out,1<=s.num)->(out.foldl cJ W).filter (fun s=>decide (s∈c9 n))=W.filter (fun s=>decide (s∈c9 n)):=by
  intro out
  induction out with
  | nil=>intro W _;rfl
  | cons s t ih=>
   intro W h;rw[Py,ih _ fun r hr=>h r (M3 _ hr)];unfold cJ;split
   ·refine ni _ _ _ fun y hy=>decide_eq_false fun z=>?_;have h1:=(dA hy).2.1;have h2:=(dA z).2.1;have:=h s M8;omega
   ·rfl
 have e:=key out (bB [ar] ar (c9 n)) h;have e1:out.foldl cJ (bB [ar] ar (c9 n))=ar::aE n out:=iE n out;rw[e1,cM,N8 (by simpa using pU n),N8 (by simpa using pU n)]at e
 rw[e];exact List.filter_eq_self.mpr fun s hs=>decide_eq_true hs
theorem pG{row:List Sl}{f:Sl->Option (Sl×Sl)}{P:Sl->Bool}(h:∀ s,P s=false->f s=none):row.filterMap f=(row.filter P).filterMap f:=by
 induction row with
 | nil=>rfl
 | cons a t ih=>
  cases e:P a with
  | true=>rw[List.filter_cons_of_pos e,N0,N0,ih]
  | false=>rw[N8 (by rw[e];decide),List.filterMap_cons_none (h a e),ih]
theorem Bf{x:Str}{out:List Sk}(h:∀ s∈out,1<=s.num):(fF x out []).map Seat.sign=lC x:=by
 have ew:fX out [] (aE x.length out)=[]:=by
  unfold fX;have e0:out.filter (fun s=>decide (s.nm∈([]:List Nm)))=[]:=List.filter_eq_nil_iff.mpr fun s _=>by simp
  rw[e0];rfl
 have ev:jZ x [] (aE x.length out)=vw x []:=by
  show (aE x.length out).filterMap (cK x [])=_
  rw[pG (P:=fun s=>decide (s∈c9 x.length)) fun s hs=>?_,Gd out h]
  ·unfold vw;rw[mC]
  ·cases e:cK x [] s with
   | none=>rfl
   | some p=>
    have:=(jj (sn x) _ _).mp (iV e).2;have hp:=(sn x).pin _ this.1;rw[this.2,mC]at hp;exact absurd hp (of_decide_eq_false hs)
 unfold fF;rw[ew,ev,Nr];exact wt x
theorem Eb(x:Str):QC (MZ "") (lC x)=x:=by
 have:=Bp x.cps.toList;exact this
def fo(i:Nat):Nu:=PySem.Challenge.pw_redquill_k52_whole_as_upon_a_plain_text.main.body.getD i (.Pass ⟨0,0,0,0⟩)
def k_STANDS:D:=.str "stands"
def k_START:D:=.tup [.str "",.int 0,.int 0]
def k_WAITS:D:=.str "waits"
def k_WIPED:D:=.str "wiped"
theorem uy{a0 a1 a2 a3:D}:gy ["name","time","anchor","names"] [a0,a1,a2,a3] "name"=some a0:=by kernel_rfl
theorem ux{a0 a1 a2 a3:D}:gy ["name","time","anchor","names"] [a0,a1,a2,a3] "time"=some a1:=by kernel_rfl
theorem qM{a0 a1 a2 a3:D}:gy ["name","time","anchor","names"] [a0,a1,a2,a3] "anchor"=some a2:=by kernel_rfl
theorem sg{a0 a1 a2 a3:D}:gy ["name","time","anchor","names"] [a0,a1,a2,a3] "names"=some a3:=by kernel_rfl
theorem xu:jG [] "name"=(["name"]:List Str):=by kernel_rfl
theorem xz{x:D}:i9 [] [] "name" x=[x]:=by kernel_rfl
theorem xt:jG ["name"] "time"=(["name","time"]:List Str):=by kernel_rfl
theorem xy{a0 x:D}:i9 ["name"] [a0] "time" x=[a0,x]:=by kernel_rfl
theorem xr:jG ["name","time"] "anchor"=(["name","time","anchor"]:List Str):=by kernel_rfl
theorem xx{a0 a1 x:D}:i9 ["name","time"] [a0,a1] "anchor" x=[a0,a1,x]:=by kernel_rfl
theorem xq:jG ["name","time","anchor"] "names"=(["name","time","anchor","names"]:List Str):=by kernel_rfl
theorem xw{a0 a1 a2 x:D}:i9 ["name","time","anchor"] [a0,a1,a2] "names" x=[a0,a1,a2,x]:=by kernel_rfl
theorem Ak{a0 a1 a2 a3 a4:D}:gy ["name","time","anchor","names","signs"] [a0,a1,a2,a3,a4] "name"=some a0:=by kernel_rfl
theorem Aj{a0 a1 a2 a3 a4:D}:gy ["name","time","anchor","names","signs"] [a0,a1,a2,a3,a4] "time"=some a1:=by kernel_rfl
theorem v3{a0 a1 a2 a3 a4:D}:gy ["name","time","anchor","names","signs"] [a0,a1,a2,a3,a4] "anchor"=some a2:=by kernel_rfl
theorem yo{a0 a1 a2 a3 a4:D}:gy ["name","time","anchor","names","signs"] [a0,a1,a2,a3,a4] "signs"=some a4:=by kernel_rfl
theorem CU:jG ["name","time","anchor","names"] "anchor"=(["name","time","anchor","names"]:List Str):=by kernel_rfl
theorem CW{a0 a1 a2 a3 x:D}:i9 ["name","time","anchor","names"] [a0,a1,a2,a3] "anchor" x=[a0,a1,x,a3]:=by kernel_rfl
theorem CT:jG ["name","time","anchor","names"] "signs"=(["name","time","anchor","names","signs"]:List Str):=by kernel_rfl
theorem CV{a0 a1 a2 a3 x:D}:i9 ["name","time","anchor","names"] [a0,a1,a2,a3] "signs" x=[a0,a1,a2,a3,x]:=by kernel_rfl
theorem xv:jG ["name","time","anchor","names"] "names"=(["name","time","anchor","names"]:List Str):=by kernel_rfl
theorem xA{a0 a1 a2 a3 x:D}:i9 ["name","time","anchor","names"] [a0,a1,a2,a3] "names" x=[a0,a1,a2,x]:=by kernel_rfl
theorem v6{a0 a1 a2 a3 a4:D}:gy ["name","time","anchor","names","word"] [a0,a1,a2,a3,a4] "name"=some a0:=by kernel_rfl
theorem v5{a0 a1 a2 a3 a4:D}:gy ["name","time","anchor","names","word"] [a0,a1,a2,a3,a4] "time"=some a1:=by kernel_rfl
theorem uz{a0 a1 a2 a3 a4:D}:gy ["name","time","anchor","names","word"] [a0,a1,a2,a3,a4] "names"=some a3:=by kernel_rfl
theorem v4{a0 a1 a2 a3 a4:D}:gy ["name","time","anchor","names","word"] [a0,a1,a2,a3,a4] "word"=some a4:=by kernel_rfl
theorem zp:jG ["name","time","anchor","names"] "word"=(["name","time","anchor","names","word"]:List Str):=by kernel_rfl
theorem zq{a0 a1 a2 a3 x:D}:i9 ["name","time","anchor","names"] [a0,a1,a2,a3] "word" x=[a0,a1,a2,a3,x]:=by kernel_rfl
def au:List Str:=["old","drawn","states","greatest","time"]
theorem pJ:uK au "old" 0:=mL (by decide +kernel)
theorem dN:uK au "drawn" 1:=mL (by decide +kernel)
theorem dg:uK au "states" 2:=mL (by decide +kernel)
theorem jp:uK au "greatest" 3:=mL (by decide +kernel)
theorem nj:uK au "time" 4:=mL (by decide +kernel)
theorem qx:("strokes":Str)∉au:=by decide +kernel
theorem mh:("check_known":Str)∉au:=by decide +kernel
theorem tS:("state":Str)∉au:=by decide +kernel
theorem m3:("strokes_in":Str)∉au:=by decide +kernel
theorem gM:("waiting":Str)∉au:=by decide +kernel
theorem jI:("unwiped":Str)∉au:=by decide +kernel
theorem vC:("view":Str)∉au:=by decide +kernel
theorem gq:("seats":Str)∉au:=by decide +kernel
theorem dC:("coming_name":Str)∉au:=by decide +kernel
theorem dB:("coming_time":Str)∉au:=by decide +kernel
theorem hV:("draw":Str)∉au:=by decide +kernel
theorem o9:("put":Str)∉au:=by decide +kernel
theorem rY:("strike":Str)∉au:=by decide +kernel
theorem tT:("dress":Str)∉au:=by decide +kernel
theorem vE:("move":Str)∉au:=by decide +kernel
theorem vD:("part":Str)∉au:=by decide +kernel
theorem mf:("check_waits":Str)∉au:=by decide +kernel
theorem jd:("let_stand":Str)∉au:=by decide +kernel
def aF:List Str:=["worn"]
theorem aK:uK aF "worn" 0:=mL (by decide +kernel)
theorem o8:("put":Str)∉aF:=by decide +kernel
theorem rX:("strike":Str)∉aF:=by decide +kernel
theorem tR:("dress":Str)∉aF:=by decide +kernel
theorem vB:("move":Str)∉aF:=by decide +kernel
theorem ng:("rows":Str)∉aF:=by decide +kernel
abbrev lT:Nu:=fo 7
theorem xb:FnScope ["at","length"] ["at","length"] (aj lT):=by walk_at "j"
abbrev il:Nu:=fo 8
theorem pY:FnScope ["at","to","length"] ["at","to","length"] (aj il):=by walk_at "j"
abbrev j7:Nu:=fo 11
theorem uS:FnScope ["name","how_many"] ["name","how_many"] (aj j7):=by walk_at "j"
theorem rZ:((["k"]:List Str) ++ (["name","how_many"]:List Str)).Nodup:=by decide +kernel
abbrev lP:Nu:=fo 17
theorem iD:FnScope ["row","name","time","act"] ["row"] (aj lP):=by walk_at "j"
abbrev gF:Nu:=fo 18
theorem oA:FnScope ["row"] ["row"] (aj gF):=by walk_at "j"
abbrev nA:Nu:=fo 19
theorem lE:FnScope ["rows","by_name","row"] ["rows"] (aj nA):=by walk_at "j"
abbrev lQ:Nu:=fo 21
theorem w_:FnScope ["old"] ["old"] (aj lQ):=by walk_at "j"
abbrev j8:Nu:=fo 22
theorem gQ:FnScope ["following","anchor","slots","behind","slot"] ["following","anchor","slots"] (aj j8):=by walk_at "j"
abbrev p8:Nu:=fo 23
theorem j5:FnScope ["following","row","slot"] ["following"] (aj p8):=by walk_at "j"
abbrev nw:Nu:=fo 24
theorem lD:FnScope ["old","strokes","following","stroke"] ["old","strokes"] (aj nw):=by walk_at "j"
theorem vF:((["row"]:List Str) ++ (["old","strokes","following","stroke"]:List Str)).Nodup:=by decide +kernel
abbrev sT:Nu:=fo 26
theorem CL:FnScope ["keys"] ["keys"] (aj sT):=by walk_at "j"
theorem zE:((["key"]:List Str) ++ (["keys"]:List Str)).Nodup:=by decide +kernel
abbrev lR:Nu:=fo 27
theorem xa:FnScope ["stroke","in_row"] ["stroke","in_row"] (aj lR):=by walk_at "j"
theorem tV:((["slot"]:List Str) ++ (["stroke","in_row"]:List Str)).Nodup:=by decide +kernel
abbrev lS:Nu:=fo 28
theorem j0:FnScope ["strokes","standing","in_row","stands","chosen"] ["strokes","standing","in_row"] (aj lS):=by walk_at "j"
theorem tX:((["row"]:List Str) ++ (["strokes","standing","in_row","stands","chosen"]:List Str)).Nodup:=by decide +kernel
theorem tW:((["stroke"]:List Str) ++ (["strokes","standing","in_row","stands","chosen"]:List Str)).Nodup:=by decide +kernel
abbrev ij:Nu:=fo 29
theorem dJ:FnScope ["old","strokes","brought","stroke","name","sign"] ["old","strokes"] (aj ij):=by walk_at "j"
abbrev iW:Nu:=fo 30
theorem fG:FnScope ["strokes","struck","stroke","name"] ["strokes"] (aj iW):=by walk_at "j"
abbrev jv:Nu:=fo 31
theorem eQ:FnScope ["strokes","taken","stroke","name","slot"] ["strokes"] (aj jv):=by walk_at "j"
abbrev j6:Nu:=fo 32
theorem gP:FnScope ["strokes","worn","stroke","name"] ["strokes"] (aj j6):=by walk_at "j"
abbrev sS:Nu:=fo 33
theorem d7:FnScope ["old","strokes","standing","row","working","brought","struck","taken","worn","sitting","name","seats"] ["old","strokes","standing"] (aj sS):=by walk_at "j"
theorem zD:((["slot"]:List Str) ++ (["old","strokes","standing","row","working","brought","struck","taken","worn","sitting","name","seats"]:List Str)).Nodup:=by decide +kernel
theorem q_:((["slot","name"]:List Str) ++ (["old","strokes","standing","row","working","brought","struck","taken","worn","sitting","-name","seats"]:List Str)).Nodup:=by decide +kernel
abbrev p7:Nu:=fo 34
theorem AQ:FnScope ["old","strokes","standing"] ["old","strokes","standing"] (aj p7):=by walk_at "j"
theorem xV:((["seat"]:List Str) ++ (["old","strokes","standing"]:List Str)).Nodup:=by decide +kernel
abbrev p6:Nu:=fo 35
theorem AO:FnScope ["rows"] ["rows"] (aj p6):=by walk_at "j"
theorem xU:((["row"]:List Str) ++ (["rows"]:List Str)).Nodup:=by decide +kernel
abbrev lU:Nu:=fo 40
theorem xc:FnScope ["seats","at"] ["seats","at"] (aj lU):=by walk_at "j"
abbrev ik:Nu:=fo 41
theorem pX:FnScope ["seats","at","to"] ["seats","at","to"] (aj ik):=by walk_at "j"
theorem nP:((["seat"]:List Str) ++ (["seats","at","to"]:List Str)).Nodup:=by decide +kernel
abbrev lO:Nu:=fo 44
theorem w8:FnScope ["signs"] ["signs"] (aj lO):=by walk_at "j"
theorem tU:((["sign"]:List Str) ++ (["signs"]:List Str)).Nodup:=by decide +kernel
abbrev iX:Nu:=fo 47
theorem rG:FnScope ["_law_script","_law_k"] ["_law_script","_law_k"] (aj iX):=by walk_at "j"
abbrev jw:Nu:=fo 48
theorem c8:FnScope ["_law_cell","_law_many","_law_found","_law_mix","_law_rest","_law_k"] ["_law_cell","_law_many"] (aj jw):=by walk_at "j"
abbrev nB:Nu:=fo 49
theorem lF:FnScope ["_law_paper","_law_plain","_law_pen","_law_xs","_law_many","_law_at","_law_signs"] ["_law_paper","_law_plain","_law_pen","_law_xs","_law_many"] (aj nB):=by walk_at "j"
abbrev lV:Nu:=fo 50
theorem dR:FnScope ["_law_paper","_law_plain","_law_pen","_law_xs","_law_widest","_law_many","_law_at","_law_to","_law_word","_law_goal"] ["_law_paper","_law_plain","_law_pen","_law_xs","_law_widest"] (aj lV):=by walk_at "j"
abbrev j9:Nu:=fo 51
theorem uT:FnScope ["_law_paper","_law_plain"] ["_law_paper","_law_plain"] (aj j9):=by walk_at "j"
theorem iA:((["_law_name","_law_sign","_law_word"]:List Str) ++ (["_law_paper","_law_plain"]:List Str)).Nodup:=by decide +kernel
abbrev sU:Nu:=fo 52
theorem gC:FnScope ["_law_script","_law_first","_law_old","_law_widest","_law_cells","_law_paper","_law_plain","_law_cell","_law_xs","_law_waiting","_law_name"] ["_law_script"] (aj sU):=by walk_at "j"
abbrev d_:Nu:=aP (fo 12) 0
theorem nr:FnScope ["self","name","time"] ["self","name","time"] (aj d_):=by walk_at "j"
abbrev eR:Nu:=aP (fo 12) 1
theorem rH:FnScope ["self"] ["self"] (aj eR):=by walk_at "j"
abbrev cg:Nu:=aP (fo 12) 2
theorem oB:FnScope ["self"] ["self"] (aj cg):=by walk_at "j"
abbrev iY:Nu:=aP (fo 13) 0
theorem rJ:FnScope ["self","name","time","anchor","signs"] ["self","name","time","anchor","signs"] (aj iY):=by walk_at "j"
abbrev lW:Nu:=aP (fo 13) 1
theorem xf:FnScope ["self"] ["self"] (aj lW):=by walk_at "j"
abbrev p9:Nu:=aP (fo 13) 3
theorem AR:FnScope ["self"] ["self"] (aj p9):=by walk_at "j"
abbrev fZ:Nu:=aP (fo 14) 0
theorem nu:FnScope ["self","name","time","names"] ["self","name","time","names"] (aj fZ):=by walk_at "j"
abbrev j_:Nu:=aP (fo 14) 1
theorem uU:FnScope ["self"] ["self"] (aj j_):=by walk_at "j"
abbrev gI:Nu:=aP (fo 15) 0
theorem oG:FnScope ["self","name","time","names","word"] ["self","name","time","names","word"] (aj gI):=by walk_at "j"
abbrev lZ:Nu:=aP (fo 15) 1
theorem xh:FnScope ["self"] ["self"] (aj lZ):=by walk_at "j"
abbrev ir:Nu:=aP (fo 16) 0
theorem p5:FnScope ["self","name","time","names","anchor"] ["self","name","time","names","anchor"] (aj ir):=by walk_at "j"
abbrev kq:Nu:=aP (fo 16) 1
theorem uZ:FnScope ["self"] ["self"] (aj kq):=by walk_at "j"
abbrev nC:Nu:=aP (fo 16) 2
theorem y9:FnScope ["self"] ["self"] (aj nC):=by walk_at "j"
abbrev gH:Nu:=aP (fo 42) 0
theorem oF:FnScope ["self","old"] ["self","old"] (aj gH):=by walk_at "j"
abbrev iq:Nu:=aP (fo 42) 2
theorem p4:FnScope ["self"] ["self"] (aj iq):=by walk_at "j"
abbrev fw:Nu:=aP (fo 42) 5
theorem lM:FnScope ["self","name"] ["self","name"] (aj fw):=by walk_at "j"
abbrev jy:Nu:=aP (fo 42) 6
theorem sQ:FnScope ["self","name"] ["self","name"] (aj jy):=by walk_at "j"
abbrev fP:Nu:=aP (fo 42) 7
theorem mU:FnScope ["self","state"] ["self","state"] (aj fP):=by walk_at "j"
theorem k_:((["row"]:List Str) ++ (["self","state"]:List Str)).Nodup:=by decide +kernel
abbrev im:Nu:=aP (fo 42) 8
theorem pZ:FnScope ["self"] ["self"] (aj im):=by walk_at "j"
theorem nQ:((["row"]:List Str) ++ (["self"]:List Str)).Nodup:=by decide +kernel
abbrev ip:Nu:=aP (fo 42) 10
theorem p3:FnScope ["self"] ["self"] (aj ip):=by walk_at "j"
theorem nR:((["row"]:List Str) ++ (["self"]:List Str)).Nodup:=by decide +kernel
abbrev kh:Nu:=aP (fo 42) 11
theorem uW:FnScope ["self"] ["self"] (aj kh):=by walk_at "j"
abbrev jz:Nu:=aP (fo 42) 12
theorem sR:FnScope ["self"] ["self"] (aj jz):=by walk_at "j"
abbrev ft:Nu:=aP (fo 42) 13
theorem lK:FnScope ["self","pen"] ["self","pen"] (aj ft):=by walk_at "j"
abbrev fq:Nu:=aP (fo 42) 14
theorem lJ:FnScope ["self"] ["self"] (aj fq):=by walk_at "j"
abbrev ko:Nu:=aP (fo 42) 15
theorem uY:FnScope ["self","stroke"] ["self","stroke"] (aj ko):=by walk_at "j"
abbrev lY:Nu:=aP (fo 42) 16
theorem oE:FnScope ["self","pen","at","signs","seats"] ["self","pen","at","signs"] (aj lY):=by walk_at "j"
abbrev i5:Nu:=aP (fo 42) 17
theorem kR:FnScope ["self","pen","at","to","seats"] ["self","pen","at","to"] (aj i5):=by walk_at "j"
abbrev jA:Nu:=aP (fo 42) 18
theorem lH:FnScope ["self","pen","at","to","word","seats"] ["self","pen","at","to","word"] (aj jA):=by walk_at "j"
abbrev km:Nu:=aP (fo 42) 19
theorem ju:FnScope ["self","pen","at","to","goal","seats","names"] ["self","pen","at","to","goal"] (aj km):=by walk_at "j"
abbrev kj:Nu:=aP (fo 42) 20
theorem uX:FnScope ["self","pen","at"] ["self","pen","at"] (aj kj):=by walk_at "j"
abbrev fu:Nu:=aP (fo 42) 21
theorem lL:FnScope ["self","name"] ["self","name"] (aj fu):=by walk_at "j"
abbrev f6:Nu:=aP (fo 42) 22
theorem nv:FnScope ["self","name"] ["self","name"] (aj f6):=by walk_at "j"
abbrev gG:Nu:=aP (fo 45) 0
theorem oC:FnScope ["self","text"] ["self","text"] (aj gG):=by walk_at "j"
abbrev lX:Nu:=aP (fo 45) 1
theorem xg:FnScope ["self","at","signs"] ["self","at","signs"] (aj lX):=by walk_at "j"
abbrev iZ:Nu:=aP (fo 45) 2
theorem rK:FnScope ["self","at","to"] ["self","at","to"] (aj iZ):=by walk_at "j"
abbrev jx:Nu:=aP (fo 45) 3
theorem lG:FnScope ["self","at","to","word","dressed"] ["self","at","to","word"] (aj jx):=by walk_at "j"
theorem jJ:((["sign","old_word"]:List Str) ++ (["self","at","to","word","dressed"]:List Str)).Nodup:=by decide +kernel
abbrev kg:Nu:=aP (fo 45) 4
theorem jt:FnScope ["self","at","to","goal","ahead","behind"] ["self","at","to","goal"] (aj kg):=by walk_at "j"
abbrev ke:Nu:=aP (fo 45) 5
theorem uV:FnScope ["self"] ["self"] (aj ke):=by walk_at "j"
def aY(_ _ _ _ _ _ _:MU)(_:HW):df:=fun ds G Q=>match ds with
 | [d]=>∃ r:Rw,d=r.d/\Q r.key G
 | _=>False
def iC(G G':Gp):Prop:=∀ a o,G a=some o->G' a=some o
theorem iC.refl{G:Gp}:iC G G:=fun _ _ h=>h
theorem iC.trans{G G1 G2:Gp}(a:iC G G1)(b:iC G1 G2):iC G G2:=fun x o h=>b x o (a x o h)
theorem iC.gset{G G1:Gp}{p:MU}{o:GO}(a:iC G G1)(hp:G p=none):iC G (gset G1 p o):=fun x y h=>by
 have:x≠p:=fun z=>by subst z;rw[hp]at h;cases h
 rw[al this];exact a x y h
def cS(_ _ _ _ _ _ _:MU)(_:HW):df:=fun ds G Q=>match ds with
 | [.ref q]=>∃ rs base:List Rw,(G q=some (.lst (rs.map Rw.d))/\mT rs/\rs.length<=1000/\base.length < 64/\∀ r∈rs,r∈base)/\∀ out G',iC G G'->fR out->(∀ r,r∈out↔r∈rs)->Q (.fl (out.map Rw.d)) G'
 | _=>False
def dO(Z1 Z2 Z3 Z4 Z5 R7 R8:MU)(hw:HW):df:=fun ds G Q=>match ds with
 | [.str x,.ref q]=>∃ sks base:List Sk,(G q=some (.lst (sks.map Sk.d))/\x.length<=1000/\mT (sks.map Sk.rw)/\sks.length<=1000/\base.length < 64/\(∀ s∈sks,s∈base)/\∀ s∈sks,s.ok)/\
   ∀ out G',iC G G'->fR (out.map Sk.rw)->(∀ s,s∈out↔s∈sks)->Q (.fl ((aE x.length out).map Sl.d)) G'
 | _=>False
def bw(_ _ _ _ _ _ _:MU)(_:HW):df:=fun ds G Q=>match ds with
 | [.tup [.str p,.int n],.int m]=>(0<=m/\m<=1000)/\Q (.fl ((eW p n m.toNat).map Sl.d)) G
 | _=>False
def bf(Z1 Z2 Z3 Z4 Z5 R7 R8:MU)(s:Sk):GO:=match s.act with
 | .put a x=>.ins Z2 ["name","time","anchor","names","signs"] [.tup [.str s.pen,.int s.num],.int s.time,a.d,.tup [],.str x]
 | .strike ns=>.ins Z3 ["name","time","anchor","names"] [.tup [.str s.pen,.int s.num],.int s.time,ar.d,.tup (ns.map Sl.d)]
 | .dress ns w=>.ins Z4 ["name","time","anchor","names","word"] [.tup [.str s.pen,.int s.num],.int s.time,ar.d,.tup (ns.map Sl.d),.str w]
 | .move ns a=>.ins Z5 ["name","time","anchor","names"] [.tup [.str s.pen,.int s.num],.int s.time,a.d,.tup (ns.map Sl.d)]
def aL(Z1 Z2 Z3 Z4 Z5 R7 R8:MU)(hw:HW):df:=fun ds G Q=>match ds with
 | [.ref a,d,.int t]=>(∃ C,C∈[Z1,Z2,Z3,Z4,Z5]/\G a=some (.ins C [] [])/\∃ p n,d=.tup [.str p,.int n]/\Q .non (gset G a (.ins C ["name","time","anchor","names"] [d,.int t,ar.d,.tup []])))
 | _=>False
def bx(Z1 Z2 Z3 Z4 Z5 R7 R8:MU)(hw:HW):df:=fun ds G Q=>match ds with
 | [.ref a,d,.int t,b,.str x]=>G a=some (.ins Z2 [] [])/\∃ p n s,d=.tup [.str p,.int n]/\b=Sl.d s/\Q .non (gset G a (.ins Z2 ["name","time","anchor","names","signs"] [d,.int t,b,.tup [],.str x]))
 | _=>False
def aU(Z1 Z2 Z3 Z4 Z5 R7 R8:MU)(hw:HW):df:=fun ds G Q=>match ds with
 | [.ref a,d,.int t,.tup ns]=>G a=some (.ins Z3 [] [])/\∃ p n,d=.tup [.str p,.int n]/\Q .non (gset G a (.ins Z3 ["name","time","anchor","names"] [d,.int t,ar.d,.tup ns]))
 | _=>False
def a_(Z1 Z2 Z3 Z4 Z5 R7 R8:MU)(hw:HW):df:=fun ds G Q=>match ds with
 | [.ref a,d,.int t,.tup ns,.str w]=>G a=some (.ins Z4 [] [])/\∃ p n,d=.tup [.str p,.int n]/\Q .non (gset G a (.ins Z4 ["name","time","anchor","names","word"] [d,.int t,ar.d,.tup ns,.str w]))
 | _=>False
def bm(Z1 Z2 Z3 Z4 Z5 R7 R8:MU)(hw:HW):df:=fun ds G Q=>match ds with
 | [.ref a,d,.int t,.tup ns,b]=>G a=some (.ins Z5 [] [])/\∃ p n s,d=.tup [.str p,.int n]/\b=Sl.d s/\Q .non (gset G a (.ins Z5 ["name","time","anchor","names"] [d,.int t,b,.tup ns]))
 | _=>False
def cm(Z1 Z2 Z3 Z4 Z5 R7 R8:MU)(hw:HW):df:=fun ds G Q=>match ds with
 | [d]=>∃ s:Sk,d=s.d/\∀ p,G p=none->Q (.ref p) (gset G p (bf Z1 Z2 Z3 Z4 Z5 R7 R8 s))
 | _=>False
def am(_ _ _ _ _ _ _:MU)(_:HW):df:=fun ds G Q=>match ds with
 | [.ref _]=>Q (.fl []) G
 | _=>False
def aV(Z1 Z2 Z3 Z4 Z5 R7 R8:MU)(hw:HW):df:=fun ds G Q=>match ds with
 | [.ref a]=>∃ (s:Sk) (b:Sl) (x:Str),(s.act=.put b x/\G a=some (bf Z1 Z2 Z3 Z4 Z5 R7 R8 s)/\x.length<=1000)/\Q (.fl ((made s).map Sl.d)) G
 | _=>False
def aQ(Z1 Z2 Z3 Z4 Z5 R7 R8:MU)(hw:HW):df:=fun ds G Q=>match ds with
 | [.ref a]=>∃ (s:Sk) (b:Sl) (ns:List Sl),(s.act=.move ns b/\G a=some (bf Z1 Z2 Z3 Z4 Z5 R7 R8 s)/\ns.length<=1000)/\Q (.fl ((made s).map Sl.d)) G
 | _=>False
def cn(_ _ _ _ _ _ _:MU)(_:HW):df:=fun ds G Q=>match ds with
 | [.str x]=>x.length<=1000/\Q (.fl ((c9 x.length).map Sl.d)) G
 | _=>False
def cq(Z1 Z2 Z3 Z4 Z5 R7 R8:MU)(hw:HW):df:=fun ds G Q=>match ds with
 | [.ref p,a,.lst xs]=>∃ (b:Sl) (ss W:List Sl) (kvs:List (List aM×D)),(a=b.d/\xs=ss.map Sl.d/\G p=some (.dT hw kvs)/\DJ kvs W/\b∈W/\ss.Nodup/\(∀ x∈ss,x∉W)/\W.length+ss.length<=900000)/\
   ∀ U0,DJ U0 (bB W b ss)->Q .non (gset G p (.dT hw U0))
 | _=>False
def eP(Z1 Z2 Z3 Z4 Z5 R7 R8:MU)(hw:HW):df:=fun ds G Q=>match ds with
 | [.ref p]=>∃ (R:List Sl) (kvs:List (List aM×D)),(G p=some (.dT hw kvs)/\DJ kvs (ar::R)/\R.length<=900000)/\Q (.fl (R.map Sl.d)) G
 | _=>False
def jD(Z1 Z2 Z3 Z4 Z5 R7 R8:MU)(G:Gp)(ps:List MU)(o:List Sk):Prop:=ps.length=o.length/\∀ (j:Nat) p s,ps[j]?=some p->o[j]?=some s->G p=some (bf Z1 Z2 Z3 Z4 Z5 R7 R8 s)
def wP(o:List Sk):Prop:=o.length<=64/\∀ s∈o,s.wd<=1000
def d6(Z1 Z2 Z3 Z4 Z5 R7 R8:MU)(hw:HW):df:=fun ds G Q=>match ds with
 | [.lst xs]=>(∃ ss:List Sl,(xs=ss.map Sl.d/\ss.length<=900000)/\∀ p,G p=none->Q (.ref p) (gset G p (.dT hw (aW (fun _=>.bl true) (bq [] (ss.map fun s=>(s,())))))))\/
   ∃ ns:List Nm,(xs=ns.map Nm.d/\ns.length<=900000)/\∀ p,G p=none->Q (.ref p) (gset G p (.dT hw (dictOf (ns.map fun n=>(n.key,.bl true)))))
 | _=>False
def dh(Z1 Z2 Z3 Z4 Z5 R7 R8:MU)(hw:HW):df:=fun ds G Q=>match ds with
 | [.ref a,.ref p]=>∃ (s:Sk) (row:List (Sl×Unit)),(G a=some (bf Z1 Z2 Z3 Z4 Z5 R7 R8 s)/\s.wd<=1000/\G p=some (.dT hw (aW (fun _=>.bl true) row)))/\Q (.bl ((made s).all fun x=>(cQ row x).isSome)) G
 | _=>False
def bK(Z1 Z2 Z3 Z4 Z5 R7 R8:MU)(hw:HW):df:=fun ds G Q=>match ds with
 | [.str x,.lst xs]=>∃ (ps:List MU) (o:List Sk),(xs=ps.map D.ref/\jD Z1 Z2 Z3 Z4 Z5 R7 R8 G ps o/\wP o/\x.length<=1000)/\∀ p,G p=none->Q (.ref p) (gset G p (.dT hw (aW D.str (ay x o))))
 | _=>False
def af(Z1 Z2 Z3 Z4 Z5 R7 R8:MU)(hw:HW):df:=fun ds G Q=>match ds with
 | [.ref a]=>∃ (s:Sk) (ns:List Sl),((s.act=.strike ns\/(∃ w,s.act=.dress ns w)\/∃ b,s.act=.move ns b)/\G a=some (bf Z1 Z2 Z3 Z4 Z5 R7 R8 s)/\ns.length<=1000)/\Q (.fl (ns.map Sl.d)) G
 | _=>False
def b7(Z1 Z2 Z3 Z4 Z5 R7 R8:MU)(hw:HW):df:=fun ds G Q=>match ds with
 | [.lst xs]=>∃ (ps:List MU) (o:List Sk),(xs=ps.map D.ref/\jD Z1 Z2 Z3 Z4 Z5 R7 R8 G ps o/\wP o)/\∀ p,G p=none->Q (.ref p) (gset G p (.dT hw (aW (fun _=>.bl true) (bd o))))
 | _=>False
def cz(Z1 Z2 Z3 Z4 Z5 R7 R8:MU)(hw:HW):df:=fun ds G Q=>match ds with
 | [.lst xs]=>∃ (ps:List MU) (o:List Sk),(xs=ps.map D.ref/\jD Z1 Z2 Z3 Z4 Z5 R7 R8 G ps o/\wP o)/\∀ p,G p=none->Q (.ref p) (gset G p (.dT hw (aW Sl.d (cf o))))
 | _=>False
def cR(Z1 Z2 Z3 Z4 Z5 R7 R8:MU)(hw:HW):df:=fun ds G Q=>match ds with
 | [.lst xs]=>∃ (ps:List MU) (o:List Sk),(xs=ps.map D.ref/\jD Z1 Z2 Z3 Z4 Z5 R7 R8 G ps o/\wP o)/\∀ p,G p=none->Q (.ref p) (gset G p (.dT hw (aW D.str (dI o))))
 | _=>False
def dj(Z1 Z2 Z3 Z4 Z5 R7 R8:MU)(hw:HW):df:=fun ds G Q=>match ds with
 | [.ref q,.lst ns,.ref p]=>∃ (sks base:List Sk) (names:List Nm) (row:List Sl),(G q=some (.lst (sks.map Sk.d))/\mT (sks.map Sk.rw)/\sks.length<=1000/\base.length < 64/\(∀ s∈sks,s∈base)/\(∀ s∈sks,s.wd<=1000)/\ns=names.map Nm.d/\names.length<=900000/\G p=some (.dT hw (aW (fun _=>.bl true) (bq [] (row.map fun s=>(s,()))))))/\
   ∀ out ps G',iC G G'->fR (out.map Sk.rw)->(∀ s,s∈out↔s∈sks)->jD Z1 Z2 Z3 Z4 Z5 R7 R8 G' ps (fX out names row)->Q (.fl (ps.map D.ref)) G'
 | _=>False
def d5(Z1 Z2 Z3 Z4 Z5 R7 R8:MU)(hw:HW):df:=fun ds G Q=>match ds with
 | [.str x,.ref q,.lst ns]=>∃ (sks base:List Sk) (names:List Nm),(G q=some (.lst (sks.map Sk.d))/\x.length<=1000/\mT (sks.map Sk.rw)/\sks.length<=1000/\base.length < 64/\(∀ s∈sks,s∈base)/\(∀ s∈sks,1<=s.num/\s.wd<=1000)/\ns=names.map Nm.d/\names.length<=900000)/\
   ∀ out G',iC G G'->fR (out.map Sk.rw)->(∀ s,s∈out↔s∈sks)->Q (.fl ((fF x out names).map Seat.d)) G'
 | _=>False
def Seat.d3(s:Seat):D:=.tup [s.name.d,.str s.sign,.str s.word]
def dF(Z1 Z2 Z3 Z4 Z5 R7 R8:MU)(hw:HW):df:=fun ds G Q=>match ds with
 | [.str x,.ref q,.lst ns]=>∃ (sks base:List Sk) (names:List Nm),(G q=some (.lst (sks.map Sk.d))/\x.length<=1000/\mT (sks.map Sk.rw)/\sks.length<=1000/\base.length < 64/\(∀ s∈sks,s∈base)/\(∀ s∈sks,1<=s.num/\s.wd<=1000)/\ns=names.map Nm.d/\names.length<=900000)/\
   ∀ out G',iC G G'->fR (out.map Sk.rw)->(∀ s,s∈out↔s∈sks)->Q (.fl ((fF x out names).map Seat.d3)) G'
 | _=>False
def dG(Z1 Z2 Z3 Z4 Z5 R7 R8:MU)(hw:HW):df:=fun ds G Q=>match ds with
 | [.ref p]=>∃ (s:Sk) (a:Sl) (x:Str),(s.act=.put a x/\G p=some (bf Z1 Z2 Z3 Z4 Z5 R7 R8 s))/\Q s.d G
 | _=>False
def bR(Z1 Z2 Z3 Z4 Z5 R7 R8:MU)(hw:HW):df:=fun ds G Q=>match ds with
 | [.ref p]=>∃ (s:Sk) (ns:List Sl),(s.act=.strike ns/\G p=some (bf Z1 Z2 Z3 Z4 Z5 R7 R8 s))/\Q s.d G
 | _=>False
def cw(Z1 Z2 Z3 Z4 Z5 R7 R8:MU)(hw:HW):df:=fun ds G Q=>match ds with
 | [.ref p]=>∃ (s:Sk) (ns:List Sl) (w:Str),(s.act=.dress ns w/\G p=some (bf Z1 Z2 Z3 Z4 Z5 R7 R8 s))/\Q s.d G
 | _=>False
def cX(Z1 Z2 Z3 Z4 Z5 R7 R8:MU)(hw:HW):df:=fun ds G Q=>match ds with
 | [.ref p]=>∃ (s:Sk) (ns:List Sl) (a:Sl),(s.act=.move ns a/\G p=some (bf Z1 Z2 Z3 Z4 Z5 R7 R8 s))/\Q s.d G
 | _=>False
def b8(_ _ _ _ _ _ _:MU)(_:HW):df:=fun ds G Q=>match ds with
 | [.lst xs,.int k]=>∃ ns:List Int,(xs=ns.map D.int/\0<=k)/\∀ c:Int,Q (.int c) G
 | _=>False
def cA(_ _ _ _ _ _ _:MU)(_:HW):df:=fun ds G Q=>match ds with
 | [.int _,.int m]=>(0<=m/\m<=100)/\∀ xs:List Int,(xs.length:Int)=m->(∀ x∈xs,0<=x/\x < 2147483647)->Q (.fl (xs.map D.int)) G
 | _=>False
set_option genInjectivity false in
structure Pp where
 old:Str
 sks:List Sk
 st:List (List aM×D)
 gr:List (aM×D)
 time:Int
def jV(C:MU)(hw0:List aM->Int)(G:Gp)(p d s g:MU)(P:Pp):Prop:=G p=some (.ins C au [.str P.old,.ref d,.ref s,.ref g,.int P.time])/\G d=some (.lst (P.sks.map Sk.d))/\G s=some (.dT hw0 P.st)/\G g=some (.dK P.gr)
def gB(P:Pp)(n:Nm):Bool:=fE ((c7 P.st n.key).getD .non) (.str (MZ "wiped"))
def Pp.unw(P:Pp):List Nm:=(P.sks.filter fun s=>!gB P s.nm).map Sk.nm
def Pp.num(P:Pp)(pen:Str):Int:=match c7 P.gr (.inr pen) with
 | some (.int m)=>m+1
 | _=>1
def Pp.add(P:Pp)(k:Sk):Pp:=⟨P.old,P.sks ++ [k],bH P.st k.nm.key (.str (MZ "waits")),bH P.gr (.inr k.pen) (.int k.num),k.time⟩
structure Pp.ok(P:Pp)(n:Nat):Prop where
 lo:P.old.length<=40
 ls:P.sks.length<=n
 lt:P.st.length<=n
 lg:P.gr.length<=n
 sk:∀ s∈P.sks,1<=s.num/\s.wd<=60/\s.time<=P.time
 ap:(P.sks.map Sk.rw).Pairwise mB
 kn:∀ s∈P.sks,∃ w:Str,c7 P.st s.nm.key=some (.str w)
 gi:∀ k v,c7 P.gr k=some v->∃ m:Int,v=.int m/\0<=m
 gm:∀ s∈P.sks,∃ m:Int,c7 P.gr (.inr s.pen)=some (.int m)/\s.num<=m
def BC(l:List MU)(G G':Gp):Prop:=∀ a o,a∉l->G a=some o->G' a=some o
def Srt(P:Pp)(out:List Sk):Prop:=fR (out.map Sk.rw)/\∀ s,s∈out↔s∈P.sks
def Pp.seats(P:Pp)(out:List Sk):List Seat:=fF P.old out P.unw
def bj(Z1 Z2 Z3 Z4 Z5 R7 R8:MU)(hw:HW):df:=fun ds G Q=>match ds with
 | [.ref p]=>∃ (P:Pp) (d s g:MU),(jV R7 hw G p d s g P/\P.ok 50)/\Q (.fl (P.unw.map Nm.d)) G
 | _=>False
def cU(Z1 Z2 Z3 Z4 Z5 R7 R8:MU)(hw:HW):df:=fun ds G Q=>match ds with
 | [.ref p]=>∃ (P:Pp) (d s g:MU),(jV R7 hw G p d s g P/\P.ok 50)/\∀ out G',iC G G'->Srt P out->Q (.fl ((P.seats out).map Seat.d3)) G'
 | _=>False
def aS(Z1 Z2 Z3 Z4 Z5 R7 R8:MU)(hw:HW):df:=fun ds G Q=>match ds with
 | [.ref p]=>∃ (P:Pp) (d s g:MU),(jV R7 hw G p d s g P/\P.ok 50)/\∀ out G',iC G G'->Srt P out->Q (.fl ((P.seats out).map Seat.d)) G'
 | _=>False
def bL(Z1 Z2 Z3 Z4 Z5 R7 R8:MU)(hw:HW):df:=fun ds G Q=>match ds with
 | [.ref p]=>∃ (P:Pp) (d s g:MU),(jV R7 hw G p d s g P/\P.sks.length<=50)/\Q (.fl (P.sks.map Sk.d)) G
 | _=>False
def aH(Z1 Z2 Z3 Z4 Z5 R7 R8:MU)(hw:HW):df:=fun ds G Q=>match ds with
 | [.ref p,.str pen]=>∃ (P:Pp) (d s g:MU),(jV R7 hw G p d s g P/\∀ k v,c7 P.gr k=some v->∃ m:Int,v=.int m/\0<=m)/\Q (.tup [.str pen,.int (P.num pen)]) G
 | _=>False
def aG(Z1 Z2 Z3 Z4 Z5 R7 R8:MU)(hw:HW):df:=fun ds G Q=>match ds with
 | [.ref p]=>∃ (P:Pp) (d s g:MU),jV R7 hw G p d s g P/\Q (.int (P.time+1)) G
 | _=>False
def aZ(Z1 Z2 Z3 Z4 Z5 R7 R8:MU)(hw:HW):df:=fun ds G Q=>match ds with
 | [.ref p,.ref a]=>∃ (P:Pp) (d s g:MU) (k:Sk),(jV R7 hw G p d s g P/\G a=some (bf Z1 Z2 Z3 Z4 Z5 R7 R8 k)/\P.sks.length<=50/\P.st.length<=50/\P.gr.length<=50)/\∀ G',BC [p,d,s,g] G G'->jV R7 hw G' p d s g (P.add k)->Q (.tup [.str k.pen,.int k.num]) G'
 | _=>False
def bb(Z1 Z2 Z3 Z4 Z5 R7 R8:MU)(hw:HW):df:=fun ds G Q=>match ds with
 | [.ref p,.tup [.str a,.int b]]=>∃ (P:Pp) (d s g:MU) (w:Str),(jV R7 hw G p d s g P/\c7 P.st [.inr a,.inl b]=some (.str w))/\Q .non G
 | _=>False
def cC(Z1 Z2 Z3 Z4 Z5 R7 R8:MU)(hw:HW):df:=fun ds G Q=>match ds with
 | [.ref p,.tup [.str a,.int b]]=>∃ (P:Pp) (d s g:MU) (w:Str),(jV R7 hw G p d s g P/\c7 P.st [.inr a,.inl b]=some (.str w))/\Q (.str w) G
 | _=>False
def ba(Z1 Z2 Z3 Z4 Z5 R7 R8:MU)(hw:HW):df:=fun ds G Q=>match ds with
 | [.ref p,.tup [.str a,.int b]]=>∃ (P:Pp) (d s g:MU),(jV R7 hw G p d s g P/\c7 P.st [.inr a,.inl b]=some (.str (MZ "waits")))/\Q .non G
 | _=>False
def bF(Z1 Z2 Z3 Z4 Z5 R7 R8:MU)(hw:HW):df:=fun ds G Q=>match ds with
 | [.ref p,.str x]=>G p=some (.ins R7 [] [])/\∀ d s g G',BC [p,d,s,g] G G'->jV R7 hw G' p d s g ⟨x,[],[],[],0⟩->Q .non G'
 | _=>False
def bp(_ _ _ _ _ _ _:MU)(_:HW):df:=fun ds G Q=>match ds with
 | [.int at_,.int n]=>(0<=at_/\at_<=n)/\Q .non G
 | _=>False
def aI(_ _ _ _ _ _ _:MU)(_:HW):df:=fun ds G Q=>match ds with
 | [.int at_,.int to_,.int n]=>(0<=at_/\at_ < n/\at_ < to_/\to_<=n)/\Q .non G
 | _=>False
def aR(_ _ _ _ _ _ _:MU)(_:HW):df:=fun ds G Q=>match ds with
 | [.lst xs,.int i,.int j]=>∃ seats:List Seat,(xs=seats.map Seat.d/\0<=i/\i<=j/\j<=seats.length/\seats.length<=100000)/\Q (.tup ((((seats.drop i.toNat).take (j - i).toNat).map Seat.name).map Sl.d)) G
 | _=>False
def Pp.next(P:Pp)(pen:Str)(k:Sk):Prop:=k.pen=pen/\k.num=P.num pen/\k.time=P.time+1
def b_(Z1 Z2 Z3 Z4 Z5 R7 R8:MU)(hw:HW):df:=fun ds G Q=>match ds with
 | [.ref p,.str pen,.int i,.int j]=>∃ (P:Pp) (d s g:MU),(jV R7 hw G p d s g P/\P.ok 49)/\∀ out,Srt P out->(0<=i/\i < (P.seats out).length/\i < j/\j<=(P.seats out).length)/\
   ∀ G',BC [p,d,s,g] G G'->jV R7 hw G' p d s g (P.add ⟨pen,P.num pen,P.time+1,.strike ((((P.seats out).drop i.toNat).take (j - i).toNat).map Seat.name)⟩)->Q (.tup [.str pen,.int (P.num pen)]) G'
 | _=>False
def sK(_ _ _ _ _ _ _:MU)(_:HW):df:=fun vs _ Q=>match vs with
 | [.lst ds]=>∃ ns:List Int,ds=ns.map D.int/\ns.length<=63/\∀ G',Q (.bl true) G'
 | _=>False
def ic(seats:List Seat)(i:Int):Sl:=if i=0 then ar else match seats[(i - 1).toNat]? with
 | some s=>s.slot
 | none=>ar
def cr(_ _ _ _ _ _ _:MU)(_:HW):df:=fun ds G Q=>match ds with
 | [.lst xs,.int i]=>∃ seats:List Seat,(xs=seats.map Seat.d/\0<=i/\i<=seats.length)/\Q (ic seats i).d G
 | _=>False
def jM(seats:List Seat)(i j:Int):List Sl:=((seats.drop i.toNat).take (j - i).toNat).map Seat.name
def cD(Z1 Z2 Z3 Z4 Z5 R7 R8:MU)(hw:HW):df:=fun ds G Q=>match ds with
 | [.ref p,.str pen,.int i,.int j,.str w]=>∃ (P:Pp) (d s g:MU),(jV R7 hw G p d s g P/\P.ok 49)/\∀ out,Srt P out->(0<=i/\i < (P.seats out).length/\i < j/\j<=(P.seats out).length)/\
   ∀ G',BC [p,d,s,g] G G'->jV R7 hw G' p d s g (P.add ⟨pen,P.num pen,P.time+1,.dress (jM (P.seats out) i j) w⟩)->Q (.tup [.str pen,.int (P.num pen)]) G'
 | _=>False
def cv(Z1 Z2 Z3 Z4 Z5 R7 R8:MU)(hw:HW):df:=fun ds G Q=>match ds with
 | [.ref p,.str pen,.int i,.str x]=>∃ (P:Pp) (d s g:MU),(jV R7 hw G p d s g P/\P.ok 49)/\∀ out,Srt P out->(0<=i/\i<=(P.seats out).length)/\
   ∀ G',BC [p,d,s,g] G G'->jV R7 hw G' p d s g (P.add ⟨pen,P.num pen,P.time+1,.put (ic (P.seats out) i) x⟩)->Q (.tup [.str pen,.int (P.num pen)]) G'
 | _=>False
def cV(Z1 Z2 Z3 Z4 Z5 R7 R8:MU)(hw:HW):df:=fun ds G Q=>match ds with
 | [.ref p,.str pen,.int i]=>∃ (P:Pp) (d s g:MU),(jV R7 hw G p d s g P/\P.ok 49)/\∀ out,Srt P out->(0<=i/\i<=(P.seats out).length)/\
   ∀ G',BC [p,d,s,g] G G'->jV R7 hw G' p d s g (P.add ⟨pen,P.num pen,P.time+1,.put (ic (P.seats out) i) (MZ "\n")⟩)->Q (.tup [.str pen,.int (P.num pen)]) G'
 | _=>False
def cW(Z1 Z2 Z3 Z4 Z5 R7 R8:MU)(hw:HW):df:=fun ds G Q=>match ds with
 | [.ref p,.str pen,.int i,.int j,.int m]=>∃ (P:Pp) (d s g:MU),(jV R7 hw G p d s g P/\P.ok 49)/\∀ out,Srt P out->(0<=i/\i < (P.seats out).length/\i < j/\j<=(P.seats out).length/\0<=m/\m<=(P.seats out).length)/\
   ∀ G',BC [p,d,s,g] G G'->jV R7 hw G' p d s g (P.add ⟨pen,P.num pen,P.time+1,.move (jM (P.seats out) i j) (ic (P.seats out) m)⟩)->Q (.tup [.str pen,.int (P.num pen)]) G'
 | _=>False
def Pp.inS(P:Pp)(w:Str):List Sk:=P.sks.filter fun s=>fE ((c7 P.st s.nm.key).getD .non) (.str w)
def Pp.wai(P:Pp):List Nm:=(P.inS (MZ "waits")).map Sk.nm
def bn(Z1 Z2 Z3 Z4 Z5 R7 R8:MU)(hw:HW):df:=fun ds G Q=>match ds with
 | [.ref p,.str w]=>∃ (P:Pp) (d s g:MU),(jV R7 hw G p d s g P/\P.ok 50)/\Q (.fl ((P.inS w).map Sk.d)) G
 | _=>False
def bh(Z1 Z2 Z3 Z4 Z5 R7 R8:MU)(hw:HW):df:=fun ds G Q=>match ds with
 | [.ref p]=>∃ (P:Pp) (d s g:MU),(jV R7 hw G p d s g P/\P.ok 50)/\Q (.fl (P.wai.map Nm.d)) G
 | _=>False
def Pp.stand(P:Pp)(n:List aM):Pp:=⟨P.old,P.sks,bH P.st n (.str (MZ "stands")),P.gr,P.time⟩
def be(Z1 Z2 Z3 Z4 Z5 R7 R8:MU)(hw:HW):df:=fun ds G Q=>match ds with
 | [.ref p,.tup [.str a,.int b]]=>∃ (P:Pp) (d s g:MU),(jV R7 hw G p d s g P/\c7 P.st [.inr a,.inl b]=some (.str (MZ "waits"))/\P.st.length<=50)/\∀ G',BC [p,d,s,g] G G'->jV R7 hw G' p d s g (P.stand [.inr a,.inl b])->Q .non G'
 | _=>False
def MP(P P':Pp):Prop:=P'.old=P.old/\P'.sks=P.sks/\P'.gr=P.gr/\P'.time=P.time/\∀ n,P.ok n->P'.ok n
def eO(_ _ _ _ _ _ _:MU)(_:HW):df:=fun ds G Q=>match ds with
 | [.lst xs]=>∃ seats:List Seat,(xs=seats.map Seat.d3/\seats.length<=100000/\∀ s∈seats,s.sign.length<=1)/\Q (.str (QC (MZ "") (seats.map Seat.sign))) G
 | _=>False
def CB(x:Str):List D:=(L3.signs x).map fun d=>D.tup [d,.str ""]
def ck(_ _ _ _ _ _ _:MU)(_:HW):df:=fun ds G Q=>match ds with
 | [.str x]=>x.length<=M4/\Q (.fl (CB x)) G
 | _=>False
def bE(Z1 Z2 Z3 Z4 Z5 R7 R8:MU)(hw:HW):df:=fun ds G Q=>match ds with
 | [.ref a,.str x]=>x.length<=M4/\G a=some (.ins R8 [] [])/\Q .non (gset G a (.ins R8 aF [.lst (CB x)]))
 | _=>False
def cN(Z1 Z2 Z3 Z4 Z5 R7 R8:MU)(hw:HW):df:=fun vs G Q=>match vs with
 | [.ref a,.int at_,.str x]=>∃ ds,G a=some (.ins R8 aF [.lst ds])/\(0<=at_/\at_<=ds.length/\ds.length+x.length<=10000)/\Q .non (gset G a (.ins R8 aF [.lst (ds.take at_.toNat ++ CB x ++ ds.drop at_.toNat)]))
 | _=>False
def b9(Z1 Z2 Z3 Z4 Z5 R7 R8:MU)(hw:HW):df:=fun vs G Q=>match vs with
 | [.ref a,.int at_,.int to_]=>∃ ds,G a=some (.ins R8 aF [.lst ds])/\(0<=at_/\at_ < ds.length/\at_ < to_/\to_<=ds.length/\ds.length<=10000)/\Q .non (gset G a (.ins R8 aF [.lst (ds.take at_.toNat ++ ds.drop to_.toNat)]))
 | _=>False
def Mt(w:Str):D->D
 | .tup [c,_]=>.tup [c,.str w]
 | d=>d
def Ad:D->Prop
 | .tup [.str _,.str _]=>True
 | _=>False
def sA(ds:List D)(a b:Nat)(w:Str):List D:=ds.take a ++ ((ds.drop a).take (b - a)).map (Mt w) ++ ds.drop b
def cB(Z1 Z2 Z3 Z4 Z5 R7 R8:MU)(hw:HW):df:=fun vs G Q=>match vs with
 | [.ref a,.int at_,.int to_,.str w]=>∃ ds,G a=some (.ins R8 aF [.lst ds])/\(0<=at_/\at_ < ds.length/\at_ < to_/\to_<=ds.length/\ds.length<=10000/\∀ d∈ds,Ad d)/\Q .non (gset G a (.ins R8 aF [.lst (sA ds at_.toNat to_.toNat w)]))
 | _=>False
def zG(ds:List D)(a b g:Nat):List D:=ds.take (min a g) ++ (ds.drop b).take (g - b) ++ (ds.drop a).take (b - a) ++ ((ds.drop g).take (a - g) ++ ds.drop (max b g))
def cT(Z1 Z2 Z3 Z4 Z5 R7 R8:MU)(hw:HW):df:=fun vs G Q=>match vs with
 | [.ref a,.int at_,.int to_,.int goal]=>∃ ds,G a=some (.ins R8 aF [.lst ds])/\(0<=at_/\at_ < ds.length/\at_ < to_/\to_<=ds.length/\0<=goal/\goal<=ds.length/\ds.length<=10000)/\Q .non (gset G a (.ins R8 aF [.lst (zG ds at_.toNat to_.toNat goal.toNat)]))
 | _=>False
def bS(Z1 Z2 Z3 Z4 Z5 R7 R8:MU)(hw:HW):df:=fun vs G Q=>match vs with
 | [.ref a]=>∃ ds,G a=some (.ins R8 aF [.lst ds])/\Q (.fl ds) G
 | _=>False
def Pp.firm(P:Pp):Prop:=∀ s∈P.sks,c7 P.st s.nm.key=some (.str (MZ "waits"))\/c7 P.st s.nm.key=some (.str (MZ "stands"))
structure Lk(P:Pp)(ds:List D)(n:Nat):Prop where
 ok:P.ok n
 fm:P.firm
 st:fR (P.sks.map Sk.rw)
 sm:Sim P.old P.sks
 rv:ds=ef P.old P.sks
def BF(C C':MU)(hw0:List aM->Int)(G:Gp)(p d s g a:MU)(P:Pp)(ds:List D):Prop:=jV C hw0 G p d s g P/\G a=some (.ins C' aF [.lst ds])
def dP(Z1 Z2 Z3 Z4 Z5 R7 R8:MU)(hw:HW):df:=fun vs G Q=>match vs with
 | [.ref p,.ref a,.str pen,.lst xs,.int m]=>∃ (P:Pp) (ds:List D) (d s g:MU) (n:Nat) (x2 x3:Int),(BF R7 R8 hw G p d s g a P ds/\Lk P ds n/\n<=48/\iT xs 2=some (.int x2)/\iT xs 3=some (.int x3)/\m=ds.length/\ds.length<=200)/\
   ∀ G' P' ds',BF R7 R8 hw G' p d s g a P' ds'->Lk P' ds' (n+1)->ds'.length<=ds.length+4->Q .non G'
 | _=>False
def dk(Z1 Z2 Z3 Z4 Z5 R7 R8:MU)(hw:HW):df:=fun vs G Q=>match vs with
 | [.ref p,.ref a,.str pen,.lst xs,.int w]=>∃ (P:Pp) (ds:List D) (d s g:MU) (n:Nat) (x1 x2 x3 x4 x5:Int),(BF R7 R8 hw G p d s g a P ds/\Lk P ds n/\n<=48/\(iT xs 1=some (.int x1)/\iT xs 2=some (.int x2)/\iT xs 3=some (.int x3)/\iT xs 4=some (.int x4)/\iT xs 5=some (.int x5))/\ds.length<=200/\0 < w/\(w<=60\/ds.length<=60))/\
   ∀ G' P' ds',BF R7 R8 hw G' p d s g a P' ds'->Lk P' ds' (n+1)->ds'.length<=ds.length+4->Q .non G'
 | _=>False
def cu(Z1 Z2 Z3 Z4 Z5 R7 R8:MU)(hw:HW):df:=fun vs G Q=>match vs with
 | [.ref p,.ref a]=>∃ (P:Pp) (ds:List D) (d s g:MU),(BF R7 R8 hw G p d s g a P ds/\Lk P ds 50/\ds.length<=1000)/\∀ G',iC G G'->Q (.bl true) G'
 | _=>False
def fI(Z1 Z2 Z3 Z4 Z5:MU)(R7:MU)(R8:MU)(hw:List aM->Int):cj:=sSeq (oH (eK (bY GP (ab 1) (eB kO (ae (ab 0) (av))))) (bU (bY h8 (ab 0) (ab 1))) (eY))
 (bU (eC (.int 0)))
def f9(Z1 Z2 Z3 Z4 Z5:MU)(R7:MU)(R8:MU)(hw:List aM->Int):cj:=sSeq (Gc 2 (qN (av)))
 (sSeq (bZ 3 (bY jc (bY C4 (bY h9 (ab 0) (eC (.int 1))) (eC (.int 48271))) (eC (.int 2147483647))))
 (sSeq (bZ 4 (bY C5 (ab 0) (eC (.int 2))))
 (sSeq (kz (L8 (ae (ab 1) (av))) (gN 5) (sSeq (bZ 3 (bY jc (bY C4 (bY h9 (bY h9 (ab 3) (bY C4 (eC (.int 7919)) (ab 5))) (eC (.int 1))) (bY h9 (bY C5 (ab 3) (eC (.int 1009))) (eC (.int 69621)))) (eC (.int 2147483647))))
 (sSeq (bQ (kN (ab 2) (ae (bY h8 (qN (ae (ab 3) (ae (bY jc (ab 4) (eC (.int 1000000007))) (av)))) (eB Cq (ae (Hj (jQ AA (bY jc (ab 0) (eC (.int 2))) (eC (.int 0))) (bY Ls (ab 4) (eC (.int 0)))) (av)))) (av))))
 (bZ 4 (bY C5 (ab 4) (eC (.int 1000000007)))))))
 (kt 2))))
def iL(Z1 Z2 Z3 Z4 Z5:MU)(R7:MU)(R8:MU)(hw:List aM->Int):cj:=oH (wa (eK (qP J0 J0 (eC (.int 0)) (ab 0) (ab 1)))) (nE) (eY)
def f8(Z1 Z2 Z3 Z4 Z5:MU)(R7:MU)(R8:MU)(hw:List aM->Int):cj:=sSeq (oH (eK (jQ AA (ab 1) (eC (.int 0)))) (bU (eC k_START)) (eY))
 (bU (bY h8 (bY h8 (ab 0) (bY E1 (ab 1) (eC (.int 1)))) (eC (.int 0))))
def gU(Z1 Z2 Z3 Z4 Z5:MU)(R7:MU)(R8:MU)(hw:List aM->Int):cj:=sSeq (bZ 3 (ab 1))
 (kz (fQ (ab 2)) (gN 4) (sSeq (fB hw (ab 0) (ab 4) (v7 hw (ab 0) (ab 3)))
 (sSeq (fB hw (ab 0) (ab 3) (ab 4))
 (bZ 3 (ab 4)))))
def gT(Z1 Z2 Z3 Z4 Z5:MU)(R7:MU)(R8:MU)(hw:List aM->Int):cj:=bU (fk 1 (L7 (ae (eC (.int 1)) (ae (bY h9 (ab 1) (eC (.int 1))) (av)))) (gN 0) (iU) (bY h9 (ab 1) (jP (ae (ab 0) (av)))))
def iI(Z1 Z2 Z3 Z4 Z5:MU)(R7:MU)(R8:MU)(hw:List aM->Int):cj:=bU (aT (bw Z1 Z2 Z3 Z4 Z5 R7 R8 hw) [] (ae (wC uR (eC k_START) (C3) (dL (eC (.int 2)))) (ae (eB kO (ae (ab 0) (av))) (av))))
def eg(Z1 Z2 Z3 Z4 Z5:MU)(R7:MU)(R8:MU)(hw:List aM->Int):cj:=bU (jP (ae (bY h8 (ab 0) (eC (.int 1))) (ae (bY h8 (ab 0) (eC (.int 0))) (av))))
def jl(Z1 Z2 Z3 Z4 Z5:MU)(R7:MU)(R8:MU)(hw:List aM->Int):cj:=sSeq (bZ 1 (rA hw))
 (sSeq (Ed (ab 0) (gN 2) (fB hw (ab 1) (bY h8 (ab 2) (eC (.int 0))) (ab 2)))
 (bU (Bt (aY Z1 Z2 Z3 Z4 Z5 R7 R8 hw) (ab 1))))
def dS(Z1 Z2 Z3 Z4 Z5:MU)(R7:MU)(R8:MU)(hw:List aM->Int):cj:=sSeq (jE [Z1,Z2,Z3,Z4,Z5] "name" (ab 0) (ab 1))
 (sSeq (jE [Z1,Z2,Z3,Z4,Z5] "time" (ab 0) (ab 2))
 (sSeq (jE [Z1,Z2,Z3,Z4,Z5] "anchor" (ab 0) (eC k_START))
 (jE [Z1,Z2,Z3,Z4,Z5] "names" (ab 0) (jP (av)))))
def fK(Z1 Z2 Z3 Z4 Z5:MU)(R7:MU)(R8:MU)(hw:List aM->Int):cj:=sSeq (bQ (aT (aL Z1 Z2 Z3 Z4 Z5 R7 R8 hw) [] (ae (ab 0) (ae (ab 1) (ae (ab 2) (av))))))
 (sSeq (jE [Z1,Z2,Z3,Z4,Z5] "anchor" (ab 0) (ab 3))
 (jE [Z1,Z2,Z3,Z4,Z5] "signs" (ab 0) (ab 4)))
def dU(Z1 Z2 Z3 Z4 Z5:MU)(R7:MU)(R8:MU)(hw:List aM->Int):cj:=sSeq (bQ (aT (aL Z1 Z2 Z3 Z4 Z5 R7 R8 hw) [] (ae (ab 0) (ae (ab 1) (ae (ab 2) (av))))))
 (jE [Z1,Z2,Z3,Z4,Z5] "names" (ab 0) (ab 3))
def eF(Z1 Z2 Z3 Z4 Z5:MU)(R7:MU)(R8:MU)(hw:List aM->Int):cj:=sSeq (bQ (aT (aL Z1 Z2 Z3 Z4 Z5 R7 R8 hw) [] (ae (ab 0) (ae (ab 1) (ae (ab 2) (av))))))
 (sSeq (jE [Z1,Z2,Z3,Z4,Z5] "names" (ab 0) (ab 3))
 (jE [Z1,Z2,Z3,Z4,Z5] "word" (ab 0) (ab 4)))
def fc(Z1 Z2 Z3 Z4 Z5:MU)(R7:MU)(R8:MU)(hw:List aM->Int):cj:=sSeq (bQ (aT (aL Z1 Z2 Z3 Z4 Z5 R7 R8 hw) [] (ae (ab 0) (ae (ab 1) (ae (ab 2) (av))))))
 (sSeq (jE [Z1,Z2,Z3,Z4,Z5] "names" (ab 0) (ab 3))
 (jE [Z1,Z2,Z3,Z4,Z5] "anchor" (ab 0) (ab 4)))
def iH(Z1 Z2 Z3 Z4 Z5:MU)(R7:MU)(R8:MU)(hw:List aM->Int):cj:=sSeq (bZ 1 (bY h8 (ab 0) (eC (.int 0))))
 (sSeq (bZ 2 (bY h8 (ab 0) (eC (.int 1))))
 (sSeq (bZ 3 (bY h8 (ab 0) (eC (.int 2))))
 (sSeq (oH (eK (jQ AA (bY h8 (ab 3) (eC (.int 0))) (eC (.str "put")))) (bU (jR Z2 (bx Z1 Z2 Z3 Z4 Z5 R7 R8 hw) [] (ae (ab 1) (ae (ab 2) (ae (bY h8 (ab 3) (eC (.int 1))) (ae (bY h8 (ab 3) (eC (.int 2))) (av))))))) (eY))
 (sSeq (oH (eK (jQ AA (bY h8 (ab 3) (eC (.int 0))) (eC (.str "strike")))) (bU (jR Z3 (aU Z1 Z2 Z3 Z4 Z5 R7 R8 hw) [] (ae (ab 1) (ae (ab 2) (ae (bY h8 (ab 3) (eC (.int 1))) (av)))))) (eY))
 (sSeq (oH (eK (jQ AA (bY h8 (ab 3) (eC (.int 0))) (eC (.str "dress")))) (bU (jR Z4 (a_ Z1 Z2 Z3 Z4 Z5 R7 R8 hw) [] (ae (ab 1) (ae (ab 2) (ae (bY h8 (ab 3) (eC (.int 1))) (ae (bY h8 (ab 3) (eC (.int 2))) (av))))))) (eY))
 (bU (jR Z5 (bm Z1 Z2 Z3 Z4 Z5 R7 R8 hw) [] (ae (ab 1) (ae (ab 2) (ae (bY h8 (ab 3) (eC (.int 1))) (ae (bY h8 (ab 3) (eC (.int 2))) (av))))))))))))
def kE(Z1 Z2 Z3 Z4 Z5:MU)(R7:MU)(R8:MU)(hw:List aM->Int):cj:=sSeq (Gc 1 (qN (av)))
 (sSeq (bZ 2 (v7 hw (ab 0) (eC k_START)))
 (sSeq (AS (eK (bY zA (ab 2) (eC .non))) (sSeq (bQ (kN (ab 1) (ae (ab 2) (av))))
 (bZ 2 (v7 hw (ab 0) (ab 2)))))
 (kt 1)))
def fJ(Z1 Z2 Z3 Z4 Z5:MU)(R7:MU)(R8:MU)(hw:List aM->Int):cj:=bU (qN (av))
def iN(Z1 Z2 Z3 Z4 Z5:MU)(R7:MU)(R8:MU)(hw:List aM->Int):cj:=bU (aT (bw Z1 Z2 Z3 Z4 Z5 R7 R8 hw) [] (ae (bM [Z1,Z2,Z3,Z4,Z5] "name" (ab 0)) (ae (eB kO (ae (bM [Z1,Z2,Z3,Z4,Z5] "signs" (ab 0)) (av))) (av))))
def hU(Z1 Z2 Z3 Z4 Z5:MU)(R7:MU)(R8:MU)(hw:List aM->Int):cj:=bU (aT (bw Z1 Z2 Z3 Z4 Z5 R7 R8 hw) [] (ae (bM [Z1,Z2,Z3,Z4,Z5] "name" (ab 0)) (ae (eB kO (ae (bM [Z1,Z2,Z3,Z4,Z5] "names" (ab 0)) (av))) (av))))
def jk(Z1 Z2 Z3 Z4 Z5:MU)(R7:MU)(R8:MU)(hw:List aM->Int):cj:=sSeq (bZ 2 (Bw hw (eC k_START) (eC .non)))
 (sSeq (bQ (aT (cq Z1 Z2 Z3 Z4 Z5 R7 R8 hw) [] (ae (ab 2) (ae (eC k_START) (ae (aT (cn Z1 Z2 Z3 Z4 Z5 R7 R8 hw) [] (ae (ab 0) (av))) (av))))))
 (sSeq (kz (fQ (fk 1 (fQ (aT (cS Z1 Z2 Z3 Z4 Z5 R7 R8 hw) [] (ae (ab 1) (av)))) (gN 0) (iU) (aT (cm Z1 Z2 Z3 Z4 Z5 R7 R8 hw) [] (ae (ab 0) (av))))) (gN 3) (oH (eK (yw hw (bM [Z1,Z2,Z3,Z4,Z5] "anchor" (ab 3)) (ab 2))) (bQ (aT (cq Z1 Z2 Z3 Z4 Z5 R7 R8 hw) [] (ae (ab 2) (ae (bM [Z1,Z2,Z3,Z4,Z5] "anchor" (ab 3)) (ae (fy [(Z1,am Z1 Z2 Z3 Z4 Z5 R7 R8 hw),(Z2,aV Z1 Z2 Z3 Z4 Z5 R7 R8 hw),(Z3,am Z1 Z2 Z3 Z4 Z5 R7 R8 hw),(Z4,am Z1 Z2 Z3 Z4 Z5 R7 R8 hw),(Z5,aQ Z1 Z2 Z3 Z4 Z5 R7 R8 hw)] "slots" [] (ab 3) av) (av)))))) (eY)))
 (bU (aT (eP Z1 Z2 Z3 Z4 Z5 R7 R8 hw) [] (ae (ab 2) (av))))))
def mF(Z1 Z2 Z3 Z4 Z5:MU)(R7:MU)(R8:MU)(hw:List aM->Int):cj:=bU (Bv hw (fk 1 (fQ (ab 0)) (gN 0) (iU) (jP (ae (ab 0) (ae (eC (.bl true)) (av))))))
def iJ(Z1 Z2 Z3 Z4 Z5:MU)(R7:MU)(R8:MU)(hw:List aM->Int):cj:=bU (eB Cr (ae (fk 1 (fQ (fy [(Z1,am Z1 Z2 Z3 Z4 Z5 R7 R8 hw),(Z2,aV Z1 Z2 Z3 Z4 Z5 R7 R8 hw),(Z3,am Z1 Z2 Z3 Z4 Z5 R7 R8 hw),(Z4,am Z1 Z2 Z3 Z4 Z5 R7 R8 hw),(Z5,aQ Z1 Z2 Z3 Z4 Z5 R7 R8 hw)] "slots" [] (ab 0) av)) (gN 0) (iU) (yw hw (ab 0) (ab 2))) (av)))
def iK(Z1 Z2 Z3 Z4 Z5:MU)(R7:MU)(R8:MU)(hw:List aM->Int):cj:=sSeq (bZ 3 (aT (d6 Z1 Z2 Z3 Z4 Z5 R7 R8 hw) [] (ae (ab 1) (av))))
 (sSeq (bZ 4 (fk 1 (fQ (aT (cS Z1 Z2 Z3 Z4 Z5 R7 R8 hw) [] (ae (ab 0) (av)))) (gN 0) (eK (yw hw (bY h8 (ab 0) (eC (.int 0))) (ab 4))) (aT (cm Z1 Z2 Z3 Z4 Z5 R7 R8 hw) [] (ae (ab 0) (av)))))
 (bU (fk 1 (fQ (ab 4)) (gN 0) (uP (aT (dh Z1 Z2 Z3 Z4 Z5 R7 R8 hw) [] (ae (ab 0) (ae (ab 3) (av))))) (ab 0))))
def eZ(Z1 Z2 Z3 Z4 Z5:MU)(R7:MU)(R8:MU)(hw:List aM->Int):cj:=sSeq (bZ 2 (Bu hw (ae (aT (cn Z1 Z2 Z3 Z4 Z5 R7 R8 hw) [] (ae (ab 0) (av))) (ae (ab 0) (av)))))
 (sSeq (kz (fQ (ab 1)) (gN 3) (oH (uP (eB (yG [(Z1,false),(Z2,true),(Z3,false),(Z4,false),(Z5,false)] Z2) (ae (ab 3) (ae (eC (.ref Z2)) av)))) (kz (Dn (ae (fy [(Z1,am Z1 Z2 Z3 Z4 Z5 R7 R8 hw),(Z2,aV Z1 Z2 Z3 Z4 Z5 R7 R8 hw),(Z3,am Z1 Z2 Z3 Z4 Z5 R7 R8 hw),(Z4,am Z1 Z2 Z3 Z4 Z5 R7 R8 hw),(Z5,aQ Z1 Z2 Z3 Z4 Z5 R7 R8 hw)] "slots" [] (ab 3) av) (ae (bM [Z1,Z2,Z3,Z4,Z5] "signs" (ab 3)) (av)))) (pC 2 (fx (gN 4) (fx (gN 5) (pD)))) (fB hw (ab 2) (ab 4) (ab 5))) (eY)))
 (bU (ab 2)))
def eh(Z1 Z2 Z3 Z4 Z5:MU)(R7:MU)(R8:MU)(hw:List aM->Int):cj:=bU (eB wN (ae (bM [Z1,Z2,Z3,Z4,Z5] "names" (ab 0)) (av)))
def fH(Z1 Z2 Z3 Z4 Z5:MU)(R7:MU)(R8:MU)(hw:List aM->Int):cj:=sSeq (bZ 1 (rA hw))
 (sSeq (kz (fQ (ab 0)) (gN 2) (oH (uP (eB (yG [(Z1,false),(Z2,false),(Z3,true),(Z4,false),(Z5,false)] Z3) (ae (ab 2) (ae (eC (.ref Z3)) av)))) (kz (fQ (fy [(Z1,af Z1 Z2 Z3 Z4 Z5 R7 R8 hw),(Z2,af Z1 Z2 Z3 Z4 Z5 R7 R8 hw),(Z3,af Z1 Z2 Z3 Z4 Z5 R7 R8 hw),(Z4,af Z1 Z2 Z3 Z4 Z5 R7 R8 hw),(Z5,af Z1 Z2 Z3 Z4 Z5 R7 R8 hw)] "touched" [] (ab 2) av)) (gN 3) (fB hw (ab 1) (ab 3) (eC (.bl true)))) (eY)))
 (bU (ab 1)))
def f7(Z1 Z2 Z3 Z4 Z5:MU)(R7:MU)(R8:MU)(hw:List aM->Int):cj:=sSeq (bZ 1 (rA hw))
 (sSeq (kz (fQ (ab 0)) (gN 2) (oH (uP (eB (yG [(Z1,false),(Z2,false),(Z3,false),(Z4,false),(Z5,true)] Z5) (ae (ab 2) (ae (eC (.ref Z5)) av)))) (kz (Dn (ae (fy [(Z1,af Z1 Z2 Z3 Z4 Z5 R7 R8 hw),(Z2,af Z1 Z2 Z3 Z4 Z5 R7 R8 hw),(Z3,af Z1 Z2 Z3 Z4 Z5 R7 R8 hw),(Z4,af Z1 Z2 Z3 Z4 Z5 R7 R8 hw),(Z5,af Z1 Z2 Z3 Z4 Z5 R7 R8 hw)] "touched" [] (ab 2) av) (ae (fy [(Z1,am Z1 Z2 Z3 Z4 Z5 R7 R8 hw),(Z2,aV Z1 Z2 Z3 Z4 Z5 R7 R8 hw),(Z3,am Z1 Z2 Z3 Z4 Z5 R7 R8 hw),(Z4,am Z1 Z2 Z3 Z4 Z5 R7 R8 hw),(Z5,aQ Z1 Z2 Z3 Z4 Z5 R7 R8 hw)] "slots" [] (ab 2) av) (av)))) (pC 2 (fx (gN 3) (fx (gN 4) (pD)))) (fB hw (ab 1) (ab 3) (ab 4))) (eY)))
 (bU (ab 1)))
def gR(Z1 Z2 Z3 Z4 Z5:MU)(R7:MU)(R8:MU)(hw:List aM->Int):cj:=sSeq (bZ 1 (rA hw))
 (sSeq (kz (fQ (ab 0)) (gN 2) (oH (uP (eB (yG [(Z1,false),(Z2,false),(Z3,false),(Z4,true),(Z5,false)] Z4) (ae (ab 2) (ae (eC (.ref Z4)) av)))) (kz (fQ (fy [(Z1,af Z1 Z2 Z3 Z4 Z5 R7 R8 hw),(Z2,af Z1 Z2 Z3 Z4 Z5 R7 R8 hw),(Z3,af Z1 Z2 Z3 Z4 Z5 R7 R8 hw),(Z4,af Z1 Z2 Z3 Z4 Z5 R7 R8 hw),(Z5,af Z1 Z2 Z3 Z4 Z5 R7 R8 hw)] "touched" [] (ab 2) av)) (gN 3) (fB hw (ab 1) (ab 3) (bM [Z1,Z2,Z3,Z4,Z5] "word" (ab 2)))) (eY)))
 (bU (ab 1)))
def mE(Z1 Z2 Z3 Z4 Z5:MU)(R7:MU)(R8:MU)(hw:List aM->Int):cj:=sSeq (bZ 3 (aT (dO Z1 Z2 Z3 Z4 Z5 R7 R8 hw) [] (ae (ab 0) (ae (ab 1) (av)))))
 (sSeq (bZ 4 (aT (dj Z1 Z2 Z3 Z4 Z5 R7 R8 hw) [] (ae (ab 1) (ae (ab 2) (ae (aT (d6 Z1 Z2 Z3 Z4 Z5 R7 R8 hw) [] (ae (ab 3) (av))) (av))))))
 (sSeq (bZ 5 (aT (bK Z1 Z2 Z3 Z4 Z5 R7 R8 hw) [] (ae (ab 0) (ae (ab 4) (av)))))
 (sSeq (bZ 6 (aT (b7 Z1 Z2 Z3 Z4 Z5 R7 R8 hw) [] (ae (ab 4) (av))))
 (sSeq (bZ 7 (aT (cz Z1 Z2 Z3 Z4 Z5 R7 R8 hw) [] (ae (ab 4) (av))))
 (sSeq (bZ 8 (aT (cR Z1 Z2 Z3 Z4 Z5 R7 R8 hw) [] (ae (ab 4) (av))))
 (sSeq (bZ 9 (rA hw))
 (sSeq (Ee (ab 5) (gN 10) (oH (eK (mP hw (ab 10) (ab 6))) (fB hw (ab 9) (qO hw (ab 7) (ab 10) (ab 10)) (ab 10)) (eY)))
 (sSeq (bZ 11 (fk 1 (fQ (ab 3)) (gN 0) (eK (yw hw (ab 0) (ab 10))) (jP (ae (ab 0) (ae (v7 hw (ab 10) (ab 0)) (av))))))
 (bU (fk 2 (fQ (ab 11)) (pC 2 (fx (gN 0) (fx (gN 1) (pD)))) (iU) (jP (ae (ab 0) (ae (ab 1) (ae (v7 hw (ab 7) (ab 1)) (ae (qO hw (ab 10) (ab 1) (eC (.str ""))) (av))))))))))))))))
def e_(Z1 Z2 Z3 Z4 Z5:MU)(R7:MU)(R8:MU)(hw:List aM->Int):cj:=bU (uE 1 (dX R7 au 1 (ab 0)) (gN 0) (eK (jQ JZ (v7 hw (dX R7 au 2 (ab 1)) (bY h8 (ab 0) (eC (.int 0)))) (eC k_WIPED))) (bY h8 (ab 0) (eC (.int 0))))
def gd(Z1 Z2 Z3 Z4 Z5:MU)(R7:MU)(R8:MU)(hw:List aM->Int):cj:=bU (aT (d5 Z1 Z2 Z3 Z4 Z5 R7 R8 hw) [] (ae (dX R7 au 0 (ab 0)) (ae (dX R7 au 1 (ab 0)) (ae (bA R7 au (bj Z1 Z2 Z3 Z4 Z5 R7 R8 hw) [] (ab 0) av) (av)))))
def kF(Z1 Z2 Z3 Z4 Z5:MU)(R7:MU)(R8:MU)(hw:List aM->Int):cj:=bU (jP (ae (bM [Z1,Z2,Z3,Z4,Z5] "name" (ab 0)) (ae (bM [Z1,Z2,Z3,Z4,Z5] "time" (ab 0)) (ae (jP (ae (eC (.str "put")) (ae (bM [Z1,Z2,Z3,Z4,Z5] "anchor" (ab 0)) (ae (bM [Z1,Z2,Z3,Z4,Z5] "signs" (ab 0)) (av))))) (av)))))
def gW(Z1 Z2 Z3 Z4 Z5:MU)(R7:MU)(R8:MU)(hw:List aM->Int):cj:=bU (jP (ae (bM [Z1,Z2,Z3,Z4,Z5] "name" (ab 0)) (ae (bM [Z1,Z2,Z3,Z4,Z5] "time" (ab 0)) (ae (jP (ae (eC (.str "strike")) (ae (bM [Z1,Z2,Z3,Z4,Z5] "names" (ab 0)) (av)))) (av)))))
def iQ(Z1 Z2 Z3 Z4 Z5:MU)(R7:MU)(R8:MU)(hw:List aM->Int):cj:=bU (jP (ae (bM [Z1,Z2,Z3,Z4,Z5] "name" (ab 0)) (ae (bM [Z1,Z2,Z3,Z4,Z5] "time" (ab 0)) (ae (jP (ae (eC (.str "dress")) (ae (bM [Z1,Z2,Z3,Z4,Z5] "names" (ab 0)) (ae (bM [Z1,Z2,Z3,Z4,Z5] "word" (ab 0)) (av))))) (av)))))
def jn(Z1 Z2 Z3 Z4 Z5:MU)(R7:MU)(R8:MU)(hw:List aM->Int):cj:=bU (jP (ae (bM [Z1,Z2,Z3,Z4,Z5] "name" (ab 0)) (ae (bM [Z1,Z2,Z3,Z4,Z5] "time" (ab 0)) (ae (jP (ae (eC (.str "move")) (ae (bM [Z1,Z2,Z3,Z4,Z5] "names" (ab 0)) (ae (bM [Z1,Z2,Z3,Z4,Z5] "anchor" (ab 0)) (av))))) (av)))))
def hJ(Z1 Z2 Z3 Z4 Z5:MU)(R7:MU)(R8:MU)(hw:List aM->Int):cj:=sSeq (bQ (kN (dX R7 au 1 (ab 0)) (ae (fy [(Z2,dG Z1 Z2 Z3 Z4 Z5 R7 R8 hw),(Z3,bR Z1 Z2 Z3 Z4 Z5 R7 R8 hw),(Z4,cw Z1 Z2 Z3 Z4 Z5 R7 R8 hw),(Z5,cX Z1 Z2 Z3 Z4 Z5 R7 R8 hw)] "row" [] (ab 1) av) (av))))
 (sSeq (fB hw (dX R7 au 2 (ab 0)) (bM [Z1,Z2,Z3,Z4,Z5] "name" (ab 1)) (eC k_WAITS))
 (sSeq (fB hw (dX R7 au 3 (ab 0)) (bY h8 (bM [Z1,Z2,Z3,Z4,Z5] "name" (ab 1)) (eC (.int 0))) (bY h8 (bM [Z1,Z2,Z3,Z4,Z5] "name" (ab 1)) (eC (.int 1))))
 (sSeq (qY R7 au 4 (ab 0) (bM [Z1,Z2,Z3,Z4,Z5] "time" (ab 1)))
 (bU (bM [Z1,Z2,Z3,Z4,Z5] "name" (ab 1))))))
def dq(Z1 Z2 Z3 Z4 Z5:MU)(R7:MU)(R8:MU)(hw:List aM->Int):cj:=bU (jP (ae (ab 1) (ae (bY h9 (qO hw (dX R7 au 3 (ab 0)) (ab 1) (eC (.int 0))) (eC (.int 1))) (av))))
def dm(Z1 Z2 Z3 Z4 Z5:MU)(R7:MU)(R8:MU)(hw:List aM->Int):cj:=bU (bY h9 (dX R7 au 4 (ab 0)) (eC (.int 1)))
def iP(Z1 Z2 Z3 Z4 Z5:MU)(R7:MU)(R8:MU)(hw:List aM->Int):cj:=sSeq (bZ 4 (bA R7 au (aS Z1 Z2 Z3 Z4 Z5 R7 R8 hw) [] (ab 0) av))
 (sSeq (bQ (aT (bp Z1 Z2 Z3 Z4 Z5 R7 R8 hw) [] (ae (ab 2) (ae (eB kO (ae (ab 4) (av))) (av)))))
 (bU (bA R7 au (aZ Z1 Z2 Z3 Z4 Z5 R7 R8 hw) [] (ab 0) (ae (jR Z2 (bx Z1 Z2 Z3 Z4 Z5 R7 R8 hw) [] (ae (bA R7 au (aH Z1 Z2 Z3 Z4 Z5 R7 R8 hw) [] (ab 0) (ae (ab 1) (av))) (ae (bA R7 au (aG Z1 Z2 Z3 Z4 Z5 R7 R8 hw) [] (ab 0) av) (ae (aT (cr Z1 Z2 Z3 Z4 Z5 R7 R8 hw) [] (ae (ab 4) (ae (ab 2) (av)))) (ae (ab 3) (av)))))) (av)))))
def g6(Z1 Z2 Z3 Z4 Z5:MU)(R7:MU)(R8:MU)(hw:List aM->Int):cj:=bU (bA R7 au (cv Z1 Z2 Z3 Z4 Z5 R7 R8 hw) [] (ab 0) (ae (ab 1) (ae (ab 2) (ae (eC (.str "\n")) (av)))))
def iG(Z1 Z2 Z3 Z4 Z5:MU)(R7:MU)(R8:MU)(hw:List aM->Int):cj:=bU (fk 1 (fQ (ab 0)) (gN 0) (iU) (jP (ae (ab 0) (ae (eC (.str "")) (av)))))
def iO(Z1 Z2 Z3 Z4 Z5:MU)(R7:MU)(R8:MU)(hw:List aM->Int):cj:=sSeq (bQ (aT (bp Z1 Z2 Z3 Z4 Z5 R7 R8 hw) [] (ae (ab 1) (ae (eB kO (ae (dX R8 aF 0 (ab 0)) (av))) (av)))))
 (qY R8 aF 0 (ab 0) (bY h9 (bY h9 (wC uR (dX R8 aF 0 (ab 0)) (C3) (dL (ab 1))) (aT (ck Z1 Z2 Z3 Z4 Z5 R7 R8 hw) [] (ae (ab 2) (av)))) (wC uR (dX R8 aF 0 (ab 0)) (dL (ab 1)) (C3))))
def jm(Z1 Z2 Z3 Z4 Z5:MU)(R7:MU)(R8:MU)(hw:List aM->Int):cj:=sSeq (bZ 5 (bY jc (bY h8 (ab 3) (eC (.int 2))) (bY h9 (ab 4) (eC (.int 1)))))
 (sSeq (oH (eK (jQ AA (bY jc (bY h8 (ab 3) (eC (.int 3))) (eC (.int 5))) (eC (.int 4)))) (sSeq (bQ (bA R7 au (cV Z1 Z2 Z3 Z4 Z5 R7 R8 hw) [] (ab 0) (ae (ab 2) (ae (ab 5) (av)))))
 (sSeq (bQ (bA R8 aF (cN Z1 Z2 Z3 Z4 Z5 R7 R8 hw) [] (ab 1) (ae (ab 5) (ae (eC (.str "\n")) (av)))))
 (BR))) (eY))
 (sSeq (bZ 6 (bY h8 (qN (ae (eC (.str "a")) (ae (eC (.str "bc")) (ae (eC (.str "~ \\")) (ae (eC (.str "four")) (av)))))) (bY jc (bY h8 (ab 3) (eC (.int 3))) (eC (.int 5)))))
 (sSeq (bQ (bA R7 au (cv Z1 Z2 Z3 Z4 Z5 R7 R8 hw) [] (ab 0) (ae (ab 2) (ae (ab 5) (ae (ab 6) (av))))))
 (bQ (bA R8 aF (cN Z1 Z2 Z3 Z4 Z5 R7 R8 hw) [] (ab 1) (ae (ab 5) (ae (ab 6) (av))))))))
def gX(Z1 Z2 Z3 Z4 Z5:MU)(R7:MU)(R8:MU)(hw:List aM->Int):cj:=bU (eB wN (ae (dX R8 aF 0 (ab 0)) (av)))
def e8(Z1 Z2 Z3 Z4 Z5:MU)(R7:MU)(R8:MU)(hw:List aM->Int):cj:=sSeq (oH (wa (eK (qP J0 GP (eC (.int 0)) (ab 0) (ab 2)))) (nE) (eY))
 (oH (wa (eK (qP GP J0 (ab 0) (ab 1) (ab 2)))) (nE) (eY))
def e7(Z1 Z2 Z3 Z4 Z5:MU)(R7:MU)(R8:MU)(hw:List aM->Int):cj:=bU (eB yF (ae (fk 1 (fQ (wC uR (ab 0) (dL (ab 1)) (dL (ab 2)))) (gN 0) (iU) (bY h8 (ab 0) (eC (.int 1)))) (av)))
def fM(Z1 Z2 Z3 Z4 Z5:MU)(R7:MU)(R8:MU)(hw:List aM->Int):cj:=sSeq (bZ 4 (bA R7 au (aS Z1 Z2 Z3 Z4 Z5 R7 R8 hw) [] (ab 0) av))
 (sSeq (bQ (aT (aI Z1 Z2 Z3 Z4 Z5 R7 R8 hw) [] (ae (ab 2) (ae (ab 3) (ae (eB kO (ae (ab 4) (av))) (av))))))
 (bU (bA R7 au (aZ Z1 Z2 Z3 Z4 Z5 R7 R8 hw) [] (ab 0) (ae (jR Z3 (aU Z1 Z2 Z3 Z4 Z5 R7 R8 hw) [] (ae (bA R7 au (aH Z1 Z2 Z3 Z4 Z5 R7 R8 hw) [] (ab 0) (ae (ab 1) (av))) (ae (bA R7 au (aG Z1 Z2 Z3 Z4 Z5 R7 R8 hw) [] (ab 0) av) (ae (aT (aR Z1 Z2 Z3 Z4 Z5 R7 R8 hw) [] (ae (ab 4) (ae (ab 2) (ae (ab 3) (av))))) (av))))) (av)))))
def fL(Z1 Z2 Z3 Z4 Z5:MU)(R7:MU)(R8:MU)(hw:List aM->Int):cj:=sSeq (bQ (aT (aI Z1 Z2 Z3 Z4 Z5 R7 R8 hw) [] (ae (ab 1) (ae (ab 2) (ae (eB kO (ae (dX R8 aF 0 (ab 0)) (av))) (av))))))
 (qY R8 aF 0 (ab 0) (bY h9 (wC uR (dX R8 aF 0 (ab 0)) (C3) (dL (ab 1))) (wC uR (dX R8 aF 0 (ab 0)) (dL (ab 2)) (C3))))
def gf(Z1 Z2 Z3 Z4 Z5:MU)(R7:MU)(R8:MU)(hw:List aM->Int):cj:=sSeq (bZ 5 (bA R7 au (aS Z1 Z2 Z3 Z4 Z5 R7 R8 hw) [] (ab 0) av))
 (sSeq (bQ (aT (aI Z1 Z2 Z3 Z4 Z5 R7 R8 hw) [] (ae (ab 2) (ae (ab 3) (ae (eB kO (ae (ab 5) (av))) (av))))))
 (bU (bA R7 au (aZ Z1 Z2 Z3 Z4 Z5 R7 R8 hw) [] (ab 0) (ae (jR Z4 (a_ Z1 Z2 Z3 Z4 Z5 R7 R8 hw) [] (ae (bA R7 au (aH Z1 Z2 Z3 Z4 Z5 R7 R8 hw) [] (ab 0) (ae (ab 1) (av))) (ae (bA R7 au (aG Z1 Z2 Z3 Z4 Z5 R7 R8 hw) [] (ab 0) av) (ae (aT (aR Z1 Z2 Z3 Z4 Z5 R7 R8 hw) [] (ae (ab 5) (ae (ab 2) (ae (ab 3) (av))))) (ae (ab 4) (av)))))) (av)))))
def f_(Z1 Z2 Z3 Z4 Z5:MU)(R7:MU)(R8:MU)(hw:List aM->Int):cj:=sSeq (bQ (aT (aI Z1 Z2 Z3 Z4 Z5 R7 R8 hw) [] (ae (ab 1) (ae (ab 2) (ae (eB kO (ae (dX R8 aF 0 (ab 0)) (av))) (av))))))
 (sSeq (bZ 4 (fk 2 (fQ (wC uR (dX R8 aF 0 (ab 0)) (dL (ab 1)) (dL (ab 2)))) (pC 2 (fx (gN 0) (fx (gN 1) (pD)))) (iU) (jP (ae (ab 0) (ae (ab 5) (av))))))
 (qY R8 aF 0 (ab 0) (bY h9 (bY h9 (wC uR (dX R8 aF 0 (ab 0)) (C3) (dL (ab 1))) (ab 4)) (wC uR (dX R8 aF 0 (ab 0)) (dL (ab 2)) (C3)))))
def g_(Z1 Z2 Z3 Z4 Z5:MU)(R7:MU)(R8:MU)(hw:List aM->Int):cj:=sSeq (bZ 5 (bA R7 au (aS Z1 Z2 Z3 Z4 Z5 R7 R8 hw) [] (ab 0) av))
 (sSeq (bQ (aT (aI Z1 Z2 Z3 Z4 Z5 R7 R8 hw) [] (ae (ab 2) (ae (ab 3) (ae (eB kO (ae (ab 5) (av))) (av))))))
 (sSeq (bQ (aT (bp Z1 Z2 Z3 Z4 Z5 R7 R8 hw) [] (ae (ab 4) (ae (eB kO (ae (ab 5) (av))) (av)))))
 (sSeq (bZ 6 (aT (aR Z1 Z2 Z3 Z4 Z5 R7 R8 hw) [] (ae (ab 5) (ae (ab 2) (ae (ab 3) (av))))))
 (bU (bA R7 au (aZ Z1 Z2 Z3 Z4 Z5 R7 R8 hw) [] (ab 0) (ae (jR Z5 (bm Z1 Z2 Z3 Z4 Z5 R7 R8 hw) [] (ae (bA R7 au (aH Z1 Z2 Z3 Z4 Z5 R7 R8 hw) [] (ab 0) (ae (ab 1) (av))) (ae (bA R7 au (aG Z1 Z2 Z3 Z4 Z5 R7 R8 hw) [] (ab 0) av) (ae (ab 6) (ae (aT (cr Z1 Z2 Z3 Z4 Z5 R7 R8 hw) [] (ae (ab 5) (ae (ab 4) (av)))) (av)))))) (av)))))))
def gY(Z1 Z2 Z3 Z4 Z5:MU)(R7:MU)(R8:MU)(hw:List aM->Int):cj:=sSeq (bQ (aT (aI Z1 Z2 Z3 Z4 Z5 R7 R8 hw) [] (ae (ab 1) (ae (ab 2) (ae (eB kO (ae (dX R8 aF 0 (ab 0)) (av))) (av))))))
 (sSeq (bQ (aT (bp Z1 Z2 Z3 Z4 Z5 R7 R8 hw) [] (ae (ab 3) (ae (eB kO (ae (dX R8 aF 0 (ab 0)) (av))) (av)))))
 (sSeq (bZ 4 (bY h9 (wC uR (dX R8 aF 0 (ab 0)) (C3) (dL (eB DE (ae (ab 1) (ae (ab 3) (av)))))) (wC uR (dX R8 aF 0 (ab 0)) (dL (ab 2)) (dL (ab 3)))))
 (sSeq (bZ 5 (bY h9 (wC uR (dX R8 aF 0 (ab 0)) (dL (ab 3)) (dL (ab 1))) (wC uR (dX R8 aF 0 (ab 0)) (dL (eB FI (ae (ab 2) (ae (ab 3) (av))))) (C3))))
 (qY R8 aF 0 (ab 0) (bY h9 (bY h9 (ab 4) (wC uR (dX R8 aF 0 (ab 0)) (dL (ab 1)) (dL (ab 2)))) (ab 5))))))
def iM(Z1 Z2 Z3 Z4 Z5:MU)(R7:MU)(R8:MU)(hw:List aM->Int):cj:=sSeq (bZ 5 (eB kO (ae (bA R8 aF (bS Z1 Z2 Z3 Z4 Z5 R7 R8 hw) [] (ab 1) av) (av))))
 (sSeq (oH (CF (eK (jQ AA (ab 5) (eC (.int 0)))) (eK (bY GP (bY jc (bY h8 (ab 3) (eC (.int 1))) (eC (.int 14))) (eC (.int 5))))) (sSeq (bQ (aT (dP Z1 Z2 Z3 Z4 Z5 R7 R8 hw) [] (ae (ab 0) (ae (ab 1) (ae (ab 2) (ae (ab 3) (ae (ab 5) (av))))))))
 (BR)) (eY))
 (sSeq (bZ 6 (bY jc (bY h8 (ab 3) (eC (.int 2))) (ab 5)))
 (sSeq (bZ 7 (bY h9 (bY h9 (ab 6) (eC (.int 1))) (bY jc (bY h8 (ab 3) (eC (.int 3))) (eB DE (ae (ab 4) (ae (bY E1 (ab 5) (ab 6)) (av)))))))
 (oH (eK (bY GP (bY jc (bY h8 (ab 3) (eC (.int 1))) (eC (.int 14))) (eC (.int 7)))) (sSeq (bQ (bA R7 au (b_ Z1 Z2 Z3 Z4 Z5 R7 R8 hw) [] (ab 0) (ae (ab 2) (ae (ab 6) (ae (ab 7) (av))))))
 (bQ (bA R8 aF (b9 Z1 Z2 Z3 Z4 Z5 R7 R8 hw) [] (ab 1) (ae (ab 6) (ae (ab 7) (av)))))) (oH (eK (bY GP (bY jc (bY h8 (ab 3) (eC (.int 1))) (eC (.int 14))) (eC (.int 9)))) (sSeq (bZ 8 (bY h8 (qN (ae (eC (.str "bold")) (ae (eC (.str "b")) (ae (eC (.str "")) (ae (eC (.str "red")) (av)))))) (bY jc (bY h8 (ab 3) (eC (.int 4))) (eC (.int 4)))))
 (sSeq (bQ (bA R7 au (cD Z1 Z2 Z3 Z4 Z5 R7 R8 hw) [] (ab 0) (ae (ab 2) (ae (ab 6) (ae (ab 7) (ae (ab 8) (av)))))))
 (bQ (bA R8 aF (cB Z1 Z2 Z3 Z4 Z5 R7 R8 hw) [] (ab 1) (ae (ab 6) (ae (ab 7) (ae (ab 8) (av)))))))) (sSeq (bZ 9 (bY jc (bY h8 (ab 3) (eC (.int 4))) (bY h9 (ab 5) (eC (.int 1)))))
 (sSeq (oH (eK (jQ AA (bY jc (bY h8 (ab 3) (eC (.int 5))) (eC (.int 4))) (eC (.int 0)))) (bZ 9 (bY h9 (ab 6) (bY jc (bY h8 (ab 3) (eC (.int 4))) (bY h9 (bY E1 (ab 7) (ab 6)) (eC (.int 1)))))) (eY))
 (sSeq (bQ (bA R7 au (cW Z1 Z2 Z3 Z4 Z5 R7 R8 hw) [] (ab 0) (ae (ab 2) (ae (ab 6) (ae (ab 7) (ae (ab 9) (av)))))))
 (bQ (bA R8 aF (cT Z1 Z2 Z3 Z4 Z5 R7 R8 hw) [] (ab 1) (ae (ab 6) (ae (ab 7) (ae (ab 9) (av))))))))))))))
def kC(Z1 Z2 Z3 Z4 Z5:MU)(R7:MU)(R8:MU)(hw:List aM->Int):cj:=bU (fk 1 (fQ (aT (d5 Z1 Z2 Z3 Z4 Z5 R7 R8 hw) [] (ae (ab 0) (ae (ab 1) (ae (ab 2) (av)))))) (gN 0) (iU) (wC uR (ab 0) (dL (eC (.int 1))) (C3)))
def gZ(Z1 Z2 Z3 Z4 Z5:MU)(R7:MU)(R8:MU)(hw:List aM->Int):cj:=bU (aT (dF Z1 Z2 Z3 Z4 Z5 R7 R8 hw) [] (ae (dX R7 au 0 (ab 0)) (ae (dX R7 au 1 (ab 0)) (ae (bA R7 au (bj Z1 Z2 Z3 Z4 Z5 R7 R8 hw) [] (ab 0) av) (av)))))
def gV(Z1 Z2 Z3 Z4 Z5:MU)(R7:MU)(R8:MU)(hw:List aM->Int):cj:=bU (jQ AA (fk 3 (fQ (bA R7 au (cU Z1 Z2 Z3 Z4 Z5 R7 R8 hw) [] (ab 0) av)) (pC 3 (fx (gN 0) (fx (gN 1) (fx (gN 2) (pD))))) (iU) (jP (ae (ab 1) (ae (ab 2) (av))))) (bA R8 aF (bS Z1 Z2 Z3 Z4 Z5 R7 R8 hw) [] (ab 1) av))
def kA(Z1 Z2 Z3 Z4 Z5:MU)(R7:MU)(R8:MU)(hw:List aM->Int):cj:=bU (Ci (eC (.str "")) (ae (fk 1 (fQ (ab 0)) (gN 0) (iU) (bY h8 (ab 0) (eC (.int 1)))) (av)))
def dH(Z1 Z2 Z3 Z4 Z5:MU)(R7:MU)(R8:MU)(hw:List aM->Int):cj:=bU (uE 1 (dX R7 au 1 (ab 0)) (gN 0) (eK (jQ AA (v7 hw (dX R7 au 2 (ab 1)) (bY h8 (ab 0) (eC (.int 0)))) (ab 2))) (ab 0))
def e9(Z1 Z2 Z3 Z4 Z5:MU)(R7:MU)(R8:MU)(hw:List aM->Int):cj:=bU (fk 1 (fQ (bA R7 au (bn Z1 Z2 Z3 Z4 Z5 R7 R8 hw) [] (ab 0) (ae (eC k_WAITS) (av)))) (gN 0) (iU) (bY h8 (ab 0) (eC (.int 0))))
def dw(Z1 Z2 Z3 Z4 Z5:MU)(R7:MU)(R8:MU)(hw:List aM->Int):cj:=oH (eK (mP hw (ab 1) (dX R7 au 2 (ab 0)))) (nE) (eY)
def gc(Z1 Z2 Z3 Z4 Z5:MU)(R7:MU)(R8:MU)(hw:List aM->Int):cj:=sSeq (bQ (bA R7 au (bb Z1 Z2 Z3 Z4 Z5 R7 R8 hw) [] (ab 0) (ae (ab 1) (av))))
 (bU (v7 hw (dX R7 au 2 (ab 0)) (ab 1)))
def du(Z1 Z2 Z3 Z4 Z5:MU)(R7:MU)(R8:MU)(hw:List aM->Int):cj:=oH (eK (jQ JZ (bA R7 au (cC Z1 Z2 Z3 Z4 Z5 R7 R8 hw) [] (ab 0) (ae (ab 1) (av))) (eC k_WAITS))) (nE) (eY)
def dW(Z1 Z2 Z3 Z4 Z5:MU)(R7:MU)(R8:MU)(hw:List aM->Int):cj:=sSeq (bQ (bA R7 au (ba Z1 Z2 Z3 Z4 Z5 R7 R8 hw) [] (ab 0) (ae (ab 1) (av))))
 (fB hw (dX R7 au 2 (ab 0)) (ab 1) (eC k_STANDS))
def fb(Z1 Z2 Z3 Z4 Z5:MU)(R7:MU)(R8:MU)(hw:List aM->Int):cj:=bU (eB wN (ae (dX R7 au 1 (ab 0)) (av)))
def eE(Z1 Z2 Z3 Z4 Z5:MU)(R7:MU)(R8:MU)(hw:List aM->Int):cj:=sSeq (qX R7 [] "old" (ab 0) (ab 1))
 (sSeq (qX R7 ["old"] "drawn" (ab 0) (yu (qN (av))))
 (sSeq (qX R7 ["old","drawn"] "states" (ab 0) (rA hw))
 (sSeq (qX R7 ["old","drawn","states"] "greatest" (ab 0) (Fw))
 (qX R7 ["old","drawn","states","greatest"] "time" (ab 0) (eC (.int 0))))))
def eA(Z1 Z2 Z3 Z4 Z5:MU)(R7:MU)(R8:MU)(hw:List aM->Int):cj:=qX R8 [] "worn" (ab 0) (aT (ck Z1 Z2 Z3 Z4 Z5 R7 R8 hw) [] (ae (ab 1) (av)))
def xo(Z1 Z2 Z3 Z4 Z5:MU)(R7:MU)(R8:MU)(hw:List aM->Int):cj:=sSeq (bZ 1 (aT (b8 Z1 Z2 Z3 Z4 Z5 R7 R8 hw) [] (ae (ab 0) (ae (eC (.int 0)) (av)))))
 (sSeq (bZ 2 (wC uR (eC (.str "twenty signs\nof old..")) (C3) (dL (bY jc (ab 1) (eC (.int 21))))))
 (sSeq (bZ 3 (eC (.int 5)))
 (sSeq (bZ 4 (wC uR (ab 0) (dL (eC (.int 1))) (dL (eC (.int 23)))))
 (sSeq (oH (eK (jQ AA (bY jc (bY C5 (ab 1) (eC (.int 21))) (eC (.int 4))) (eC (.int 0)))) (sSeq (bZ 3 (eC (.int 300)))
 (bZ 4 (wC uR (ab 0) (dL (eC (.int 1))) (dL (eC (.int 11)))))) (eY))
 (sSeq (bZ 5 (jR R7 (bF Z1 Z2 Z3 Z4 Z5 R7 R8 hw) [] (ae (ab 2) (av))))
 (sSeq (bZ 6 (jR R8 (bE Z1 Z2 Z3 Z4 Z5 R7 R8 hw) [] (ae (ab 2) (av))))
 (sSeq (kz (fQ (ab 4)) (gN 7) (sSeq (bZ 8 (aT (cA Z1 Z2 Z3 Z4 Z5 R7 R8 hw) [] (ae (ab 7) (ae (eC (.int 7)) (av)))))
 (sSeq (bZ 9 (bA R7 au (bh Z1 Z2 Z3 Z4 Z5 R7 R8 hw) [] (ab 5) av))
 (sSeq (oH (CF (eK (bY GP (bY jc (bY h8 (ab 8) (eC (.int 6))) (eC (.int 16))) (eC (.int 14)))) (eK (jQ AA (ab 9) (qN (av))))) (bQ (aT (dk Z1 Z2 Z3 Z4 Z5 R7 R8 hw) [] (ae (ab 5) (ae (ab 6) (ae (bY h8 (qN (ae (eC (.str "ann")) (ae (eC (.str "anna")) (ae (eC (.str "bob")) (av))))) (bY jc (bY h8 (ab 8) (eC (.int 0))) (eC (.int 3)))) (ae (ab 8) (ae (ab 3) (av)))))))) (bQ (bA R7 au (be Z1 Z2 Z3 Z4 Z5 R7 R8 hw) [] (ab 5) (ae (bY h8 (ab 9) (bY jc (bY h8 (ab 8) (eC (.int 2))) (eB kO (ae (ab 9) (av))))) (av)))))
 (oH (wa (uP (aT (cu Z1 Z2 Z3 Z4 Z5 R7 R8 hw) [] (ae (ab 5) (ae (ab 6) (av)))))) (bU (eC (.bl false))) (eY))))))
 (sSeq (oH (eK (jQ JZ (aT (eO Z1 Z2 Z3 Z4 Z5 R7 R8 hw) [] (ae (aT (dF Z1 Z2 Z3 Z4 Z5 R7 R8 hw) [] (ae (ab 2) (ae (yu (bA R7 au (bL Z1 Z2 Z3 Z4 Z5 R7 R8 hw) [] (ab 5) av)) (ae (qN (av)) (av))))) (av))) (ab 2))) (bU (eC (.bl false))) (eY))
 (sSeq (kz (fQ (bA R7 au (bh Z1 Z2 Z3 Z4 Z5 R7 R8 hw) [] (ab 5) av)) (gN 10) (bQ (bA R7 au (be Z1 Z2 Z3 Z4 Z5 R7 R8 hw) [] (ab 5) (ae (ab 10) (av)))))
 (bU (Hj (aT (cu Z1 Z2 Z3 Z4 Z5 R7 R8 hw) [] (ae (ab 5) (ae (ab 6) (av)))) (jQ AA (bA R7 au (bh Z1 Z2 Z3 Z4 Z5 R7 R8 hw) [] (ab 5) av) (qN (av))))))))))))))
def wl:String:="eY bQ bU BR IA Kh oH nE bZ Gc kt LR qY qX ab eC bY jQ qP Hj MI KR MJ Mc eK Kd CF wa uP iU Ip jP qN av ae h9 oI HP E1 jc C5 LZ C4 GP J0 Ls MG AA JZ h8 wC C3 dL uR eB kO wN yF Me DE FI Mf yc aT bA jR dX Ci kN fk kz fQ L8 L7 L6 LP fN yJ FP gN pC fx pD val js List.map_cons List.map_nil List.replicate List.length_cons List.length_nil List.cons_append List.nil_append List.append_nil List.getElem?_cons_zero List.getElem?_cons_succ List.getElem?_nil List.set_cons_zero List.set_cons_succ List.set_nil Nat.reduceAdd Nat.reduceSub Nat.reduceLeDiff Nat.zero_add Option.some.injEq Option.map_some decide_eq_true_eq true_and and_true and_self if_true if_false Bool.false_eq_true reduceCtorEq List.cons.injEq GO.ins.injEq GO.lst.injEq D.lst.injEq D.fl.injEq exists_eq_left' exists_eq_left exists_eq' aA ff pl bX Le Ld Lc Lb La K_ K9 K8 K7 K6 K5 K4 K3 K2 K1 rA Fw qO fB me KS KQ JB LY Jd kS da pA zU Ha Jr G_ Jq Ff GZ Ac yj Ab vY yi yl v0 yk um vZ Aa yf z_ vV ye vU uk vT se uj yh vX yg ul vW Bool.not_true Bool.not_false bM jE fy Bw JA Jz Bt L0 zA uo AS v7 yw mP Mg Cq if_true if_false Bv Bu Dn gA Ee Cr yG KP Hi MA KQ mP qO kS Ls yu Ed uE Ci k_WAITS k_WIPED k_STANDS DE FI Kb k_START uy ux qM sg xu xz xt xy xr xx xq xw Ak Aj v3 yo CU CW CT CV xv xA v6 v5 uz v4 zp zq aY cS bw aL bx aU a_ bm cm am aV aQ cn cq eP dO d6 dh dj bK af b7 cz cR d5 dF eO bp aI cr aR dG bR cw cX ck bj cU aS bL bn bh aH aG aZ bb cC ba be bF b_ cv cV cD cW bE cN b9 cB cT bS b8 cA dP dk cu"
local macro_rules | `(tactic| walk_at "st") => do let ls <- (("sSeq " ++ wl).splitOn " ").toArray.mapM (fun s => `(Lean.Parser.Tactic.simpLemma| $(Lean.mkIdent s.toName):term)); `(tactic| simp only [$ls,*, *])
local macro_rules | `(tactic| walk_at "s1") => do let ls <- (wl.splitOn " ").toArray.mapM (fun s => `(Lean.Parser.Tactic.simpLemma| $(Lean.mkIdent s.toName):term)); `(tactic| simp only [$ls,*, *])
theorem zZ{b:Bool}{p q:Prop}(h1:b=true->p)(h2:b=false->q):if b=true then p else q:=by
 cases b
 ·rw[if_neg (by decide)];exact h2 rfl
 ·rw[if_pos rfl];exact h1 rfl
theorem iteF{p q:Prop}(h:q):if (false:Bool)=true then p else q:=by rw[if_neg (by decide)];exact h
theorem iteT{p q:Prop}(h:p):if (true:Bool)=true then p else q:=by rw[if_pos rfl];exact h
theorem mx{a b:Int}(h:0 < b):0<=a % b/\a % b < b:=⟨Int.emod_nonneg _ (by walk_at "o"),Int.emod_lt_of_pos _ h⟩
theorem mz{α:Type}[Inhabited α]{f:α->D}{xs:List α}{i:Int}(h0:0<=i)(h:i < xs.length):iT (xs.map f) i=some (f (xs.getD i.toNat default)):=by
 rw[uI h0 (by rw[MY];exact h)]
 have hi:i.toNat < xs.length:=by walk_at "o"
 simp[hi]
theorem wB{G:Gp}{p:MU}{o:GO}(h:G p=none):gO (gset G p o) p=G:=by
 funext a
 by_cases e:a=p
 ·subst e;rw[fg,h]
 ·rw[fh e,al e]
local macro_rules | `(tactic| walk_at "conds") => `(tactic| (repeat ((with_reducible refine And.intro ?cc ?_); (case cc => first | decide | omega | rfl))))
def bC(sp:df)(rd:cj)(ns:List Str):Prop:=∀ ds G Q,sp ds G Q->rd { nx:=fun _ G'=>Q .non G',rt:=Q } (js ns ds) G
def bD(sp:df)(n:Nat):Prop:=∀ ds G Q,sp ds G Q->ds.length=n
theorem u8{k:Nat}{A:Nh}(r:Room k A):A.units+8 < NM:=by have:=r.un;omega
theorem u4{k:Nat}{A:Nh}(r:Room k A):A.units+4 < NM:=by have:=r.un;omega
theorem Mb{P:Nf}{w:Nn}{K:PySem.W.Frag}{mg:Str->Option MV}{base:No}{k:Nat}{x:Str}{f:MU}{fd:M7}{ps:List Str}{sp:df}(o:FnOk P w K mg base dE k f fd ps (ax K sp))(m:mg x=some (.ref f))(q:PySem.W.keepIn K (.ref f)=true)(b:fW K fd ps []):Fn3 P w K mg base k x [] sp:=⟨_,_,_,[],[],o,m,q,b,.nil,fun _=>RDs.nil⟩
theorem L1{P:Nf}{w:Nn}{K:PySem.W.Frag}{mg:Str->Option MV}{base:No}{k:Nat}{C:MU}{x:Str}{f:MU}{fd:M7}{ps:List Str}{sp:df}(c:Cls K C)(o:FnOk P w K mg base dE k f fd ps (ax K sp))(m:Meth K C x f)(b:fW K fd ps []):Mt3 P w K mg base k C x [] sp:=⟨c,_,_,_,[],[],o,m,b,.nil,fun _=>RDs.nil⟩
local macro_rules | `(tactic| walk_at "i") => `(tactic| first | exact Or.inl rfl | exact Or.inr rfl)
theorem mW(Z1 Z2 Z3 Z4 Z5 R7 R8:MU)(hw:HW):bC (aL Z1 Z2 Z3 Z4 Z5 R7 R8 hw) (dS Z1 Z2 Z3 Z4 Z5 R7 R8 hw) ["self","name","time"]:=by
 intro ds G Q h;unfold aL at h;split at h
 ·rename_i a d t;obtain⟨C,hC,hG,p,n,rfl,h⟩:=h;have hs:=ai;unfold dS;walk_at "st";walk_at "conds";exact h
 ·exact h.elim
theorem qf(Z1 Z2 Z3 Z4 Z5 R7 R8:MU)(hw:HW):bC (bx Z1 Z2 Z3 Z4 Z5 R7 R8 hw) (fK Z1 Z2 Z3 Z4 Z5 R7 R8 hw) ["self","name","time","anchor","signs"]:=by
 intro ds G Q h;unfold bx at h;split at h
 ·rename_i a d t b x;obtain⟨hG,p,n,s,rfl,rfl,h⟩:=h;have hs:=ai;have hc:Z2∈[Z1,Z2,Z3,Z4,Z5]:=by simp
  unfold fK;unfold Sl.d;walk_at "st";exact⟨Z2,hc,rfl,p,n,rfl,⟨hc,by decide⟩,⟨hc,by decide⟩,h⟩
 ·exact h.elim
theorem mX(Z1 Z2 Z3 Z4 Z5 R7 R8:MU)(hw:HW):bC (aU Z1 Z2 Z3 Z4 Z5 R7 R8 hw) (dU Z1 Z2 Z3 Z4 Z5 R7 R8 hw) ["self","name","time","names"]:=by
 intro ds G Q h;unfold aU at h;split at h
 ·obtain⟨hG,p,n,rfl,h⟩:=h;have hs:=ai;have hc:Z3∈[Z1,Z2,Z3,Z4,Z5]:=by simp
  unfold dU;walk_at "st";exact⟨Z3,hc,rfl,p,n,rfl,⟨hc,by decide⟩,h⟩
 ·exact h.elim
theorem nJ(Z1 Z2 Z3 Z4 Z5 R7 R8:MU)(hw:HW):bC (a_ Z1 Z2 Z3 Z4 Z5 R7 R8 hw) (eF Z1 Z2 Z3 Z4 Z5 R7 R8 hw) ["self","name","time","names","word"]:=by
 intro ds G Q h;unfold a_ at h;split at h
 ·obtain⟨hG,p,n,rfl,h⟩:=h;have hs:=ai;have hc:Z4∈[Z1,Z2,Z3,Z4,Z5]:=by simp
  unfold eF;walk_at "st";exact⟨Z4,hc,rfl,p,n,rfl,⟨hc,by decide⟩,⟨hc,by decide⟩,h⟩
 ·exact h.elim
theorem oU(Z1 Z2 Z3 Z4 Z5 R7 R8:MU)(hw:HW):bC (bm Z1 Z2 Z3 Z4 Z5 R7 R8 hw) (fc Z1 Z2 Z3 Z4 Z5 R7 R8 hw) ["self","name","time","names","anchor"]:=by
 intro ds G Q h;unfold bm at h;split at h
 ·obtain⟨hG,p,n,s,rfl,rfl,h⟩:=h;have hs:=ai;have hc:Z5∈[Z1,Z2,Z3,Z4,Z5]:=by simp
  unfold fc;unfold Sl.d;walk_at "st";exact⟨Z5,hc,rfl,p,n,rfl,⟨hc,by decide⟩,⟨hc,by decide⟩,h⟩
 ·exact h.elim
theorem sY(Z1 Z2 Z3 Z4 Z5 R7 R8:MU)(hw:HW):bC (bw Z1 Z2 Z3 Z4 Z5 R7 R8 hw) (gT Z1 Z2 Z3 Z4 Z5 R7 R8 hw) ["name","how_many"]:=by
 intro ds G Q h;unfold bw at h;split at h
 ·rename_i p n m;obtain⟨⟨h1,h2⟩,h⟩:=h;have hs:=ai;unfold gT;walk_at "s1";refine⟨⟨by walk_at "o",by walk_at "o",by walk_at "o",by walk_at "o"⟩,dZ (fun d=>match d with|.int k=>.tup [.str p,.int n,.int k]|d=>d) (by rw[jB];omega) (fun d hd P hP=>?_) ?_⟩
  ·obtain⟨k,hk,rfl⟩:=mem_map.mp hd;walk_at "st";exact⟨rfl,by walk_at "o",by simp,by walk_at "o",hP _ rfl⟩
  ·have e:(gJ 1 (m+1 - 1).toNat).map (fun d=>match d with|D.int k=>D.tup [.str p,.int n,.int k]|d=>d)=(eW p n m.toNat).map Sl.d:=by
    unfold gJ eW;rw[Nr,Nr,show m+1 - 1=m by walk_at "o"]
    refine NL fun k _=>?_;simp only[Function.comp,Sl.d];rw[Int.add_comm]
   rw[e];exact h
 ·exact h.elim
theorem u7(Z1 Z2 Z3 Z4 Z5 R7 R8:MU)(hw:HW):bC (cn Z1 Z2 Z3 Z4 Z5 R7 R8 hw) (iI Z1 Z2 Z3 Z4 Z5 R7 R8 hw) ["old"]:=by
 intro ds G Q h;unfold cn at h;split at h
 ·rename_i x;obtain⟨h1,h⟩:=h;have hs:=ai;unfold iI;have ec:L3.cutD [D.str (MZ ""),D.int 0,D.int 0] none (some 2)=[D.str (MZ ""),D.int 0]:=by rw[pI (by decide)];rfl
  walk_at "st";refine⟨by decide,by walk_at "o",⟨by walk_at "o",by walk_at "o"⟩,?_⟩
  rw[Int.toNat_natCast];exact h
 ·exact h.elim
theorem qe(Z1 Z2 Z3 Z4 Z5 R7 R8:MU)(hw:HW):bC (am Z1 Z2 Z3 Z4 Z5 R7 R8 hw) (fJ Z1 Z2 Z3 Z4 Z5 R7 R8 hw) ["self"]:=by
 intro ds G Q h;unfold am at h;split at h
 ·have hs:=ai;unfold fJ;walk_at "st"
  first|exact⟨by walk_at "o",h⟩|omega
 ·exact h.elim
theorem ve(Z1 Z2 Z3 Z4 Z5 R7 R8:MU)(hw:HW):bC (aV Z1 Z2 Z3 Z4 Z5 R7 R8 hw) (iN Z1 Z2 Z3 Z4 Z5 R7 R8 hw) ["self"]:=by
 intro ds G Q h;unfold aV at h;split at h
 ·rename_i a;obtain⟨s,b,x,⟨e,hG,hl⟩,h⟩:=h;have hs:=ai;have hc:Z2∈[Z1,Z2,Z3,Z4,Z5]:=by simp
  unfold bf at hG;rw[e]at hG;unfold iN;walk_at "st";refine⟨by walk_at "o",⟨by walk_at "o",by walk_at "o"⟩,?_⟩
  rw[Int.toNat_natCast];unfold made at h;rw[e]at h;exact h
 ·exact h.elim
theorem tE(Z1 Z2 Z3 Z4 Z5 R7 R8:MU)(hw:HW):bC (aQ Z1 Z2 Z3 Z4 Z5 R7 R8 hw) (hU Z1 Z2 Z3 Z4 Z5 R7 R8 hw) ["self"]:=by
 intro ds G Q h;unfold aQ at h;split at h
 ·rename_i a;obtain⟨s,b,ns,⟨e,hG,hl⟩,h⟩:=h;have hs:=ai;have hc:Z5∈[Z1,Z2,Z3,Z4,Z5]:=by simp
  unfold bf at hG;rw[e]at hG;unfold hU;walk_at "st";rw[MY];refine⟨⟨by walk_at "o",by walk_at "o"⟩,?_⟩
  rw[Int.toNat_natCast];unfold made at h;rw[e]at h;exact h
 ·exact h.elim
theorem lB{a b:String}(h:MZ a≠MZ b):fE (.str (MZ a)) (.str (MZ b))=false:=cb fun z=>h (by injection z)
theorem u6(Z1 Z2 Z3 Z4 Z5 R7 R8:MU)(hw:HW):bC (cm Z1 Z2 Z3 Z4 Z5 R7 R8 hw) (iH Z1 Z2 Z3 Z4 Z5 R7 R8 hw) ["row","name","time","act"]:=by
 intro ds G Q h;unfold cm at h;split at h
 ·obtain⟨⟨pen,num,time,act⟩,rfl,h⟩:=h;have hs:=ai;unfold bf at h;unfold iH Sk.d;cases act with
  | put a x=>
   unfold Act.d;dsimp only at h;rw[ag];walk_at "s1";rw[ag];walk_at "s1";rw[ag];walk_at "s1";rw[ag];unfold Sl.d at h;unfold Sl.d;walk_at "s1";exact fun p hp=>⟨pen,num,a,rfl,rfl,h p hp⟩
  | strike ns=>
   unfold Act.d;dsimp only at h;rw[ag];walk_at "s1";rw[ag];walk_at "s1";rw[ag];walk_at "s1";have e0:=lB (a:="strike") (b:="put") (by decide +kernel)
   rw[ag];refine cO false (fun K hK=>?_) (iteF ?_)
   ·walk_at "st"
   ·simp only[eY];rw[ag];walk_at "s1";exact fun p hp=>⟨pen,num,rfl,h p hp⟩
  | dress ns w=>
   unfold Act.d;dsimp only at h;rw[ag];walk_at "s1";rw[ag];walk_at "s1";rw[ag];walk_at "s1";have e0:=lB (a:="dress") (b:="put") (by decide +kernel)
   have e1:=lB (a:="dress") (b:="strike") (by decide +kernel)
   rw[ag];refine cO false (fun K hK=>?_) (iteF ?_)
   ·walk_at "st"
   ·simp only[eY];rw[ag];refine cO false (fun K hK=>?_) (iteF ?_)
    ·walk_at "st"
    ·simp only[eY];rw[ag];walk_at "s1";exact fun p hp=>⟨pen,num,rfl,h p hp⟩
  | move ns a=>
   unfold Act.d;dsimp only at h;rw[ag];walk_at "s1";rw[ag];walk_at "s1";rw[ag];walk_at "s1";have e0:=lB (a:="move") (b:="put") (by decide +kernel)
   have e1:=lB (a:="move") (b:="strike") (by decide +kernel)
   have e2:=lB (a:="move") (b:="dress") (by decide +kernel)
   rw[ag];refine cO false (fun K hK=>?_) (iteF ?_)
   ·walk_at "st"
   ·simp only[eY];rw[ag];refine cO false (fun K hK=>?_) (iteF ?_)
    ·walk_at "st"
    ·simp only[eY];rw[ag];refine cO false (fun K hK=>?_) (iteF ?_)
     ·walk_at "st"
     ·simp only[eY];unfold Sl.d at h;unfold Sl.d;walk_at "s1";exact fun p hp=>⟨pen,num,a,rfl,rfl,h p hp⟩
 ·exact h.elim
theorem nF(Z1 Z2 Z3 Z4 Z5 R7 R8:MU)(hw:HW):bC (aY Z1 Z2 Z3 Z4 Z5 R7 R8 hw) (eg Z1 Z2 Z3 Z4 Z5 R7 R8 hw) ["row"]:=by
 intro ds G Q h;unfold aY at h;split at h
 ·obtain⟨r,rfl,h⟩:=h;have hs:=ai;unfold eg Rw.d;walk_at "st"
  first|exact⟨by walk_at "o",h⟩|omega
 ·exact h.elim
def MD(hw:List aM->Int)(G:Gp)(p:MU)(ss W:List Sl)(b:Sl)(a:D)(i:Nat)(σ:gv)(G':Gp):Prop:=∃ (x4:Option D) (Wi:List Sl) (bi:Sl) (kvs:List (List aM×D)),σ=[some (.ref p),some a,some (.lst (ss.map Sl.d)),some bi.d,x4]/\G'=gset G p (.dT hw kvs)/\DJ kvs Wi/\bi∈Wi/\(∀ x∈ss.drop i,x∉Wi)/\bB Wi bi (ss.drop i)=bB W b ss/\Wi.length=W.length+i
theorem sZ(Z1 Z2 Z3 Z4 Z5 R7 R8:MU)(hw:HW):bC (cq Z1 Z2 Z3 Z4 Z5 R7 R8 hw) (gU Z1 Z2 Z3 Z4 Z5 R7 R8 hw) ["following","anchor","slots","behind","slot"]:=by
 intro ds G Q h;unfold cq at h;split at h
 ·rename_i p a xs;obtain⟨b,ss,W,kvs,⟨rfl,rfl,hG,hF,hb,nd,hf,hl⟩,h⟩:=h;have hs:=ai;unfold gU;rw[ag];have eb:(match b.d with|D.fl ds=>D.lst ds|d=>d)=b.d:=rfl
  simp only[bZ,ab,js,val,Nk,Pf,OO,OC,List.replicate,NS,NT,Ni,NG,Nw,NP,Nat.reduceAdd,Nat.reduceSub,eb];refine⟨MD hw G p ss W b b.d,⟨_,W,b,kvs,rfl,?_,hF,hb,hf,rfl,rfl⟩,?_,?_⟩
  ·funext z
   by_cases e:z=p
   ·subst e;rw[aA];exact hG
   ·rw[al e]
  ·rintro i d σ G' hd ⟨x4,Wi,bi,kvs,rfl,rfl,hF,hb,hf,hI,hlen⟩
   rw[Ng]at hd;cases hx:ss[i]? with
   | none=>rw[hx]at hd;cases hd
   | some x=>
    rw[hx]at hd;cases hd;obtain⟨hi,ex⟩:=List.getElem?_eq_some_iff.mp hx;have dr:ss.drop i=x::ss.drop (i+1):=by rw[<- ex];exact List.drop_eq_getElem_cons hi
    rw[dr]at hf hI;have hxW:=hf x M8;have fs:=Fq hF hb hxW;have lk:=hF.2.2.2 bi hb;have lx:=hF.2.2.1 x hxW;have nx1:=hF.2.1;have nd':(x::ss.drop (i+1)).Nodup:=by rw[<- dr];exact nd.sublist (List.drop_sublist _ _)
    rw[Oo]at nd';simp only[gN,NP,Nw];have kx:=yd x;have kb:=yd bi;have vx:val x.d=x.d:=rfl;have vb:val bi.d=bi.d:=rfl;rw[ag];show ∃ d,da hw (gset G p (.dT hw kvs)) (.ref p) bi.d (some d)/\me hw (.ref p) x.d (val d) (gset G p (.dT hw kvs)) _
    refine⟨nx Wi bi,?_,?_⟩
    ·show (match gset G p (.dT hw kvs) p with|some (.dT hw' kvs)=>hw'=hw/\∃ ks,pA bi.d=some ks/\some (nx Wi bi)=c7 kvs ks|some (.dK kvs)=>_|_=>False)
     rw[aA];exact⟨rfl,bi.key,kb,lk.symm⟩
    ·rw[Je];show (match gset G p (.dT hw kvs) p with|some (.dT hw' kvs)=>hw'=hw/\∃ ks,pA x.d=some ks/\kvs.length < M4/\_|some (.dK kvs)=>_|some (.lst ds)=>_|_=>False)
     rw[aA];refine⟨rfl,x.key,kx,by walk_at "o",?_⟩
     rw[ff];dsimp only;rw[ag];show (match gset G p (.dT hw (bH kvs x.key (nx Wi bi))) p with|some (.dT hw' kvs)=>hw'=hw/\∃ ks,pA bi.d=some ks/\kvs.length < M4/\_|some (.dK kvs)=>_|some (.lst ds)=>_|_=>False)
     rw[aA];refine⟨rfl,bi.key,kb,by have:=fT kvs x.key (nx Wi bi);omega,?_⟩
     rw[ff];refine⟨_,jO Wi bi x,x,_,rfl,rfl,fs,(eX hb x).mpr (.inr rfl),fun y hy hW=>?_,?_,by rw[ms hb];omega⟩
     ·rcases (eX hb y).mp hW with z|z
      ·exact hf y (M3 _ hy) z
      ·exact nd'.1 (z ▸ hy)
     ·exact hI
  ·rintro σ G' ⟨x4,Wi,bi,kvs,rfl,rfl,hF,hb,hf,hI,hlen⟩
   rw[MY,PJ]at hI;have:Wi=bB W b ss:=hI;rw[this]at hF;exact h _ hF
 ·exact h.elim
def Mu(G:Gp)(p q:MU)(R:List Sl)(m:Nat)(σ:gv)(G':Gp):Prop:=∃ i,i<=R.length/\m=R.length - i/\σ=[some (.ref p),some (.ref q),some (DK (R.drop i))]/\G'=gset G q (.lst ((R.take i).map Sl.d))
theorem KE{W:List Sl}(hW:W.Nodup):∀ {pre post:List Sl} {c:Sl},W=pre ++ c::post->nx W c=DK post:=by
 induction W with
 | nil=>intro pre post c h;simp at h
 | cons a t ih=>
  intro pre post c h;rw[Oo]at hW;cases pre with
  | nil=>
   simp only[OC,List.cons.injEq]at h;obtain⟨rfl,rfl⟩:=h;simp[nx]
  | cons a' pre=>
   simp only[OO,List.cons.injEq]at h;obtain⟨rfl,h⟩:=h;have hc:c∈t:=by rw[h];simp
   simp only[nx];rw[if_neg (fun (z:a=c)=>hW.1 (by rw[z];exact hc))]
   exact ih hW.2 h
theorem zf(Z1 Z2 Z3 Z4 Z5 R7 R8:MU)(hw:HW):bC (eP Z1 Z2 Z3 Z4 Z5 R7 R8 hw) (kE Z1 Z2 Z3 Z4 Z5 R7 R8 hw) ["following","row","slot"]:=by
 intro ds G Q h;unfold eP at h;split at h
 ·rename_i p;obtain⟨R,kvs,⟨hG,hF,hl⟩,h⟩:=h;have hs:=ai;unfold kE;rw[ag];walk_at "s1";refine⟨by walk_at "o",fun q hq=>?_⟩
  have hpq:p≠q:=fun z=>by subst z;rw[hG]at hq;cases hq
  have gp:∀ o,gset G q o p=some (.dT hw kvs):=fun o=>by rw[al hpq];exact hG
  have look:∀ c∈ar::R,∀ o,da hw (gset G q o) (.ref p) c.d (some (nx (ar::R) c)):=fun c hc o=>by
   show (match gset G q o p with|some (.dT hw' kvs)=>hw'=hw/\∃ ks,pA c.d=some ks/\some (nx (ar::R) c)=c7 kvs ks|some (.dK kvs)=>_|_=>False)
   rw[gp];exact⟨rfl,c.key,yd c,(hF.2.2.2 c hc).symm⟩
  rw[ag];show ∃ d,da hw (gset G q (.lst [])) (.ref p) ar.d (some d)/\_
  refine⟨_,look ar (by simp) _,?_⟩
  have e0:nx (ar::R) ar=DK R:=by simp[nx]
  dsimp only;rw[ag,e0,xS];simp only[NP,Nw];refine⟨Mu G p q R,⟨R.length,0,NI _,rfl,rfl,rfl⟩,?_⟩;have wc:∀ (a b:Option D) (d:D) (K:Bool->Gp->Prop) (G:Gp),eK (bY zA (ab 2) (eC .non)) [a,b,some d] G K↔K (!uo d) G:=fun a b d K G=>Iff.rfl
  rintro m σ G' ⟨i,hi,rfl,rfl,rfl⟩
  by_cases hlt:i < R.length
  ·have dr:R.drop i=R[i]::R.drop (i+1):=List.drop_eq_getElem_cons hlt;rw[dr];refine (wc _ _ (R[i]).d _ _).mpr ?_;dsimp only;rw[show (!uo (R[i]).d)=true from rfl,if_pos rfl]
   have e1:nx (ar::R) R[i]=DK (R.drop (i+1)):=KE hF.1 (pre:=ar::R.take i) (by rw[OO];congr 1;rw[<- dr];exact (Ot i R).symm)
   refine⟨fun σ G'=>Mu G p q R (R.length - (i+1)) σ G',fun σ2 G2 hN=>⟨_,by walk_at "o",hN⟩,?_⟩
   rw[ag];have ua:∀ (E:Ends3) (Z:D),bQ (kN (ab 1) (ae (ab 2) av)) E [some (.ref p),some (.ref q),some (R[i]).d] (gset G q (.lst ((R.take i).map Sl.d)))↔((R.take i).map Sl.d).length < M4/\E.nx [some (.ref p),some (.ref q),some (R[i]).d] (gset G q (.lst ((R.take i).map Sl.d ++ [(R[i]).d]))):=fun E Z=>by
    unfold Sl.d;walk_at "s1"
   rw[show DK (R[i]::R.drop (i+1))=(R[i]).d from rfl,ua _ .non]
   refine⟨by rw[MY,Nq];omega,?_⟩
   dsimp only;show ∃ d,da hw (gset G q _) (.ref p) (R[i]).d (some d)/\_
   refine⟨_,look R[i] (by simp) _,i+1,by walk_at "o",rfl,?_,?_⟩
   ·rw[e1,xS];rfl
   ·rw[NF,M1 hlt,Nv];rfl
  ·have ei:i=R.length:=by walk_at "o"
   subst ei;rw[PJ,ND];refine (wc _ _ .non _ _).mpr ?_;dsimp only;rw[show (!uo D.non)=false from rfl,if_neg (by decide)]
   show kt 1 _ _ _
   simp only[kt,NT,NS,aA];rw[wB hq];exact h
 ·exact h.elim
theorem F0(vs:List Rw):(vs.map qF).map (·.2)=vs.map Rw.d:=by rw[Nr];rfl
theorem En{rs:List Rw}{i:Nat}{d:D}(h:(rs.map Rw.d)[i]?=some d):∃ r,rs[i]?=some r/\d=r.d:=by
 rw[Ng]at h;cases e:rs[i]? with
 | none=>rw[e]at h;cases h
 | some r=>rw[e]at h;cases h;exact⟨r,rfl,rfl⟩
theorem key_at{rs:List Rw}{i:Nat}{d:D}(h:(rs.map Rw.key)[i]?=some d):∃ r,rs[i]?=some r/\d=r.key:=by
 rw[Ng]at h;cases e:rs[i]? with
 | none=>rw[e]at h;cases h
 | some r=>rw[e]at h;cases h;exact⟨r,rfl,rfl⟩
theorem F_(Z1 Z2 Z3 Z4 Z5 R7 R8:MU)(hw:HW)(G:Gp){vs base:List Rw}(hv:vs.Pairwise mB)(hb:base.length < 64)(sub:∀ r∈vs,r∈base):
  SortBy (aY Z1 Z2 Z3 Z4 Z5 R7 R8 hw) G (vs.map Rw.d) (vs.map Rw.key) fun i=>PySem.W.rankIn Rw.lt vs (vs.getD i default) where
 few:=by
  rw[MY];have:=h_ (rE hv) sub;omega
 len:=by rw[MY,MY]
 key:=fun i d kd h1 h2=>by
  obtain⟨r,e1,rfl⟩:=En h1;obtain⟨r',e2,rfl⟩:=key_at h2;rw[e1]at e2;cases e2;exact⟨r,rfl,rfl,rfl⟩
 ki:=fun d hd=>by
  obtain⟨r,_,rfl⟩:=mem_map.mp hd;exact⟨_,_,rfl⟩
 cp:=fun a ha b hb=>by
  obtain⟨r,_,rfl⟩:=mem_map.mp ha;obtain⟨r',_,rfl⟩:=mem_map.mp hb;exact Jp r r'
 lt:=fun i j a b h1 h2=>by
  obtain⟨r,e1,rfl⟩:=key_at h1;obtain⟨r',e2,rfl⟩:=key_at h2;rw[Jm,PySem.W.rank_lt Ef (Na e1),Nl,Nl,e1,e2];rfl
theorem xk(Z1 Z2 Z3 Z4 Z5 R7 R8:MU)(hw:HW):bC (cS Z1 Z2 Z3 Z4 Z5 R7 R8 hw) (jl Z1 Z2 Z3 Z4 Z5 R7 R8 hw) ["rows","by_name","row"]:=by
 intro ds G Q h;unfold cS at h;split at h
 ·rename_i q;obtain⟨rs,base,⟨hq0,one,l1,l2,sub⟩,h⟩:=h;have hs:=ai;unfold jl;rw[ag];walk_at "s1";intro p hp;have hqp:q≠p:=fun z=>by subst z;rw[hp]at hq0;cases hq0
  rw[ag];walk_at "s1";refine⟨rs.map Rw.d,by rw[al hqp];exact hq0,fun i σ G'=>∃ (vs:List Rw) (v:Option D),(σ=[some (.ref q),some (.ref p),v]/\G'=gset G p (.dT hw (vs.map qF)))/\vs.Pairwise mB/\∀ r,r∈vs↔r∈rs.take i,⟨[],none,⟨rfl,rfl⟩,.nil,by simp⟩,?_,?_,?_⟩
  ·rintro i σ G' ⟨vs,v,⟨_,rfl⟩,_⟩
   rw[al hqp];exact hq0
  ·rintro i d σ G' hd ⟨vs,v,⟨rfl,rfl⟩,hv,hm⟩
   obtain⟨r,hr,rfl⟩:=En hd;have hr':=Na hr;have tk:∀ x,x∈rs.take (i+1)↔x∈rs.take i\/x=r:=fun x=>by
    rw[NF,hr,RJ];simp
   have lv:vs.length<=base.length:=h_ (rE hv) fun x hx=>sub x (N_ ((hm x).mp hx));simp only[gN,NP,Nw];have fin:∀ G2,G2=gset G p (.dT hw (bH (vs.map qF) (rf r) r.d))->∃ (vs:List Rw) (v:Option D),(([some (D.ref q),some (.ref p),some r.d]:gv)=[some (.ref q),some (.ref p),v]/\G2=gset G p (.dT hw (vs.map qF)))/\vs.Pairwise mB/\∀ x,x∈vs↔x∈rs.take (i+1):=by
    intro G2 e
    by_cases hin:r∈vs
    ·refine⟨vs,_,⟨rfl,?_⟩,hv,fun x=>?_⟩
     ·rw[e,IF hin fun a ha pp nn=>one a (N_ ((hm a).mp ha)) r hr' pp nn]
     ·rw[tk,hm];constructor
      ·exact .inl
      ·rintro (z|rfl)
       ·exact z
       ·exact (hm _).mp hin
    ·have ap:∀ a∈vs,mB a r:=fun a ha z=>hin (by
      have:=one a (N_ ((hm a).mp ha)) r hr' z.1 z.2;subst this;exact ha)
     refine⟨vs ++ [r],_,⟨rfl,?_⟩,?_,fun x=>?_⟩
     ·rw[e,put_new ap]
     ·rw[List.pairwise_append];exact⟨hv,List.pairwise_singleton _ _,fun a ha b hb=>by rw[Qo.mp hb];exact ap a ha⟩
     ·rw[tk,RJ,hm,Qo]
   refine (show fB hw (ab 1) (bY h8 (ab 2) (eC (.int 0))) (ab 2) _ [some (D.ref q),some (.ref p),some r.d] _ from ?_)
   show (match (gset G p (.dT hw (vs.map qF))) p with
    | some (.dT hw' kvs)=>hw'=hw/\∃ ks,pA (.tup [.str r.pen,.int r.num])=some ks/\kvs.length < M4/\_
    | some (.dK kvs)=>_
    | some (.lst ds)=>_
    | _=>False)
   rw[aA];exact⟨rfl,rf r,rfl,by rw[MY];omega,fin _ (by rw[ff];rfl)⟩
  ·rintro σ G' ⟨vs,v,⟨rfl,rfl⟩,hv,hm⟩
   rw[MY,ND]at hm;show (match (gset G p (.dT hw (vs.map qF))) p with
    | some (.dT _ kvs)=>∃ ks r,SortBy (aY Z1 Z2 Z3 Z4 Z5 R7 R8 hw) (gset G p (.dT hw (vs.map qF))) (kvs.map (·.2)) ks r/\∀ p':List Nat,p'.Perm (List.range (kvs.map (·.2)).length)->(p'.map r).Pairwise (·<=·)->Q (.fl (p'.map fun i=>(kvs.map (·.2)).getD i .non)) (gset G p (.dT hw (vs.map qF)))
    | _=>False)
   rw[aA];dsimp only;rw[F0];refine⟨vs.map Rw.key,_,F_ Z1 Z2 Z3 Z4 Z5 R7 R8 hw _ hv l2 (fun r hr=>sub r ((hm r).mp hr)),fun q hq hsq=>?_⟩;rw[MY]at hq;obtain⟨st,mem⟩:=D9 hv hq hsq;have e:(q.map fun i=>(vs.map Rw.d).getD i .non)=(q.map fun i=>vs.getD i default).map Rw.d:=by
    rw[Nr];refine NL fun i hi=>?_;have li:i < vs.length:=mem_range.mp (hq.mem_iff.mp hi);simp[li]
   rw[e];exact h _ _ (iC.refl.gset hp) st fun r=>(mem r).trans (hm r)
 ·exact h.elim
theorem AT{sks:List Sk}:∀ {out:List Rw},(∀ r∈out,r∈sks.map Sk.rw)->∃ o:List Sk,out=o.map Sk.rw/\∀ s∈o,s∈sks
 | [],_=>⟨[],rfl,fun s hs=>by simp at hs⟩
 | r::t,h=>by
  obtain⟨o,e,ho⟩:=AT fun x hx=>h x (M3 _ hx);obtain⟨s,hs,er⟩:=mem_map.mp (h r M8);refine⟨s::o,by rw[e,<- er];rfl,fun x hx=>?_⟩
  rcases NH.mp hx with z|z
  ·rw[z];exact hs
  ·exact ho x z
theorem Act.d_inj{a b:Act}(h:a.d=b.d):a=b:=by
 have sl:∀ {xs ys:List Sl},xs.map Sl.d=ys.map Sl.d->xs=ys:=fun {xs ys} e=>List.map_inj_right (f:=Sl.d) (fun x y=>Sl.d_inj) |>.mp e
 have ne:∀ {x y:String},MZ x≠MZ y->D.str (MZ x)≠D.str (MZ y):=fun h z=>h (by injection z)
 cases a<;>cases b<;>simp only[Act.d,D.tup.injEq,List.cons.injEq,D.str.injEq,and_true,true_and,reduceCtorEq,and_false,false_and]at h
 ·obtain⟨h1,h2⟩:=h;rw[Sl.d_inj h1,h2]
 all_goals first
  | (exact absurd h (by decide +kernel))
  | (exact absurd h.1 (by decide +kernel))
  | skip
 ·rw[sl h]
 ·rw[sl h.1,h.2]
 ·rw[sl h.1,Sl.d_inj h.2]
theorem Sk.rw_inj{a b:Sk}(h:a.rw=b.rw):a=b:=by
 obtain⟨a1,a2,a3,a4⟩:=a;obtain⟨b1,b2,b3,b4⟩:=b;simp only[Sk.rw,Rw.mk.injEq]at h;obtain⟨rfl,rfl,rfl,h⟩:=h;rw[Act.d_inj h]
theorem uA(Z1 Z2 Z3 Z4 Z5 R7 R8:MU)(hw:HW){σ:gv}{G:Gp}{p:MU}{s:Sk}{i:Nat}{Q:oa}(hσ:σ[i]?=some (some (.ref p)))(hG:G p=some (bf Z1 Z2 Z3 Z4 Z5 R7 R8 s))(h:Q s.act.anch.d G):bM [Z1,Z2,Z3,Z4,Z5] "anchor" (ab i) σ G Q:=by
 obtain⟨pen,num,time,act⟩:=s;unfold bM ab;rw[hσ];cases act<;>(simp only[bf]at hG;simp only[hG];refine⟨by simp,?_⟩;first|exact h)
theorem kK(Z1 Z2 Z3 Z4 Z5 R7 R8:MU)(hw:HW){σ:gv}{G:Gp}{p:MU}{s:Sk}{i:Nat}{Q:oa}(hσ:σ[i]?=some (some (.ref p)))(hG:G p=some (bf Z1 Z2 Z3 Z4 Z5 R7 R8 s))(hm:s.act.many<=1000)(h:Q (.fl ((made s).map Sl.d)) G):
  fy [(Z1,am Z1 Z2 Z3 Z4 Z5 R7 R8 hw),(Z2,aV Z1 Z2 Z3 Z4 Z5 R7 R8 hw),(Z3,am Z1 Z2 Z3 Z4 Z5 R7 R8 hw),(Z4,am Z1 Z2 Z3 Z4 Z5 R7 R8 hw),(Z5,aQ Z1 Z2 Z3 Z4 Z5 R7 R8 hw)] "slots" [] (ab i) av σ G Q:=by
 obtain⟨pen,num,time,act⟩:=s;unfold fy ab;rw[hσ];cases act with
 | put a x=>
  have hG':=hG;simp only[bf]at hG;simp only[hG];exact⟨by decide +kernel,aV Z1 Z2 Z3 Z4 Z5 R7 R8 hw,by simp,⟨_,a,x,⟨rfl,hG',hm⟩,h⟩⟩
 | strike ns=>
  simp only[bf]at hG;simp only[hG];exact⟨by decide +kernel,am Z1 Z2 Z3 Z4 Z5 R7 R8 hw,by simp,h⟩
 | dress ns w=>
  simp only[bf]at hG;simp only[hG];exact⟨by decide +kernel,am Z1 Z2 Z3 Z4 Z5 R7 R8 hw,by simp,h⟩
 | move ns a=>
  have hG':=hG;simp only[bf]at hG;simp only[hG];exact⟨by decide +kernel,aQ Z1 Z2 Z3 Z4 Z5 R7 R8 hw,by simp,⟨_,a,ns,⟨rfl,hG',hm⟩,h⟩⟩
def FL(Z1 Z2 Z3 Z4 Z5 R7 R8:MU)(G:Gp)(ps:List MU)(o:List Sk):Prop:=∀ (j:Nat) p s,ps[j]?=some p->o[j]?=some s->G p=some (bf Z1 Z2 Z3 Z4 Z5 R7 R8 s)
theorem qw(Z1 Z2 Z3 Z4 Z5 R7 R8:MU)(s:Sk):∃ C L ds,bf Z1 Z2 Z3 Z4 Z5 R7 R8 s=.ins C L ds:=by
 obtain⟨pen,num,time,act⟩:=s;cases act<;>exact⟨_,_,_,rfl⟩
theorem oK(n:Nat):∀ (o:List Sk) (W:List Sl),(∀ s∈o,s.act.many<=1000)->(o.foldl cJ W).length<=W.length+1000*o.length
 | [],W,_=>by simp
 | s::t,W,h=>by
  have h1:=h s M8;have ih:=oK n t (cJ W s) fun x hx=>h x (M3 _ hx);have h2:(cJ W s).length<=W.length+1000:=by
   unfold cJ;split
   ·rename_i ha;rw[nh ha];have:(made s).length=s.act.many:=bz _ _ _;omega
   ·omega
  simp only[Py,Ni];omega
def ME(Z1 Z2 Z3 Z4 Z5 R7 R8:MU)(hw:List aM->Int)(G:Gp)(f:MU)(ps:List MU)(o:List Sk)(n:Nat)(x0 x1:Option D)(i:Nat)(σ:gv)(G':Gp):Prop:=∃ (x3:Option D) (kvs:List (List aM×D)),σ=[x0,x1,some (.ref f),x3]/\iC G G'/\FL Z1 Z2 Z3 Z4 Z5 R7 R8 G' ps o/\G' f=some (.dT hw kvs)/\DJ kvs (mV n (o.take i))
theorem xj(Z1 Z2 Z3 Z4 Z5 R7 R8:MU)(hw:HW):bC (dO Z1 Z2 Z3 Z4 Z5 R7 R8 hw) (jk Z1 Z2 Z3 Z4 Z5 R7 R8 hw) ["old","strokes","following","stroke"]:=by
 intro ds G Q h;unfold dO at h;split at h
 ·rename_i x q;obtain⟨sks,base,⟨hq0,hx,one,l1,l2,sub,ok⟩,h⟩:=h;have hs:=ai;unfold jk;rw[ag];show ∀ f,G f=none->(match gset G f (.dT hw []) f with|some (.dT hw' [])=>hw'=hw/\∃ ks,pA ar.d=some ks/\_|_=>False)
  intro f hf;have hqf:q≠f:=fun z=>by subst z;rw[hf]at hq0;cases hq0
  rw[aA];refine⟨rfl,ar.key,rfl,?_⟩;rw[ff];dsimp only;rw[ag];simp only[NP,Nw,js,Nk,Pf,OO,OC,List.replicate,Ni,NG,Nat.reduceAdd,Nat.reduceSub];show x.length<=1000/\(∃ (b:Sl) (ss W:List Sl) (kvs:List (List aM×D)),(ar.d=b.d/\(c9 x.length).map Sl.d=ss.map Sl.d/\gset G f (.dT hw [(ar.key,.non)]) f=some (.dT hw kvs)/\DJ kvs W/\b∈W/\ss.Nodup/\(∀ x∈ss,x∉W)/\W.length+ss.length<=900000)/\∀ U0,DJ U0 (bB W b ss)->_)
  have ol:(c9 x.length).length=x.length:=bz _ _ _;refine⟨hx,ar,c9 x.length,[ar],_,⟨rfl,rfl,aA,Ds (fun _=>True),by simp,bI _ _ _,fun y hy hW=>?_,by rw[ol];simp;omega⟩,fun kvs hF=>?_⟩
  ·obtain⟨_,_,hk⟩:=dA hy;rw[Qo.mp hW]at hk;exact absurd hk (by decide)
  ·rw[ff];dsimp only;rw[ag];walk_at "s1";refine⟨sks.map Sk.rw,base.map Sk.rw,⟨by rw[al hqf,hq0,Nr];rfl,one,by rw[MY];exact l1,by rw[MY];exact l2,fun r hr=>?_⟩,fun out G1 hE st mem=>?_⟩
   ·obtain⟨s,hs',rfl⟩:=mem_map.mp hr;exact mem_map.mpr ⟨s,sub s hs',rfl⟩
   obtain⟨o,rfl,ho⟩:=AT (sks:=sks) (out:=out) fun r hr=>(mem r).mp hr;have memo:∀ s,s∈o↔s∈sks:=fun s=>⟨ho s,fun hs'=>by
    obtain⟨s',h1,h2⟩:=mem_map.mp ((mem s.rw).mpr (mem_map.mpr ⟨s,hs',rfl⟩));rw[<- Sk.rw_inj h2];exact h1⟩
   have lo:o.length < 64:=by
    have:=h_ (fY st) (ys:=base.map Sk.rw) fun r hr=>by
     obtain⟨s,hs',rfl⟩:=mem_map.mp hr;exact mem_map.mpr ⟨s,sub s (ho s hs'),rfl⟩
    rw[MY,MY]at this;omega
   have hG1:G1 f=some (.dT hw kvs):=hE f _ aA;have hE1:iC G G1:=fun a o' ha=>hE a o' (by
    have:a≠f:=fun z=>by subst z;rw[hf]at ha;cases ha
    rw[al this];exact ha)
   have dmap:(o.map Sk.rw).map Rw.d=o.map Sk.d:=by rw[Nr];rfl
   rw[dmap];refine⟨by rw[MY];omega,fun i acc G2=>∃ ps:List MU,ps.length=i/\acc=ps.map D.ref/\iC G1 G2/\FL Z1 Z2 Z3 Z4 Z5 R7 R8 G2 ps o,⟨[],rfl,rfl,iC.refl,fun j p s hj=>by simp at hj⟩,?_,?_⟩
   ·rintro i d acc G2 hd ⟨ps,rfl,rfl,hE2,hO⟩
    rw[Ng]at hd;cases hsj:o[ps.length]? with
    | none=>rw[hsj]at hd;cases hd
    | some s=>
     rw[hsj]at hd;cases hd;refine⟨⟨by simp,rfl⟩,?_⟩
     show ∃ s':Sk,s.d=s'.d/\∀ p,G2 p=none->_
     refine⟨s,rfl,fun p hp=>⟨ps ++ [p],by simp,by rw[Nv];rfl,fun a o' ha=>?_,fun j q s' hj hs'=>?_⟩⟩
     ·have:a≠p:=fun z=>by subst z;rw[hE2 a o' ha]at hp;cases hp
      rw[al this];exact hE2 a o' ha
     ·rw[List.getElem?_append]at hj;split at hj
      ·have h1:=hO j q s' hj hs';have:q≠p:=fun z=>by subst z;rw[h1]at hp;cases hp
       rw[al this];exact h1
      ·rename_i hge;have hj0:j=ps.length:=by
        by_cases z:j - ps.length=0
        ·omega
        ·obtain⟨k,hk⟩:∃ k,j - ps.length=k+1:=⟨j - ps.length - 1,by walk_at "o"⟩
         rw[hk]at hj;simp at hj
       subst hj0;simp at hj;subst hj;rw[hsj]at hs';cases hs';exact aA
   ·rintro acc G2 ⟨ps,hl,rfl,hE2,hO⟩
    rw[MY]at hl;show L3.ForIn _ _ _ _ (ps.map D.ref) G2
    refine⟨ME Z1 Z2 Z3 Z4 Z5 R7 R8 hw G f ps o x.length (some (.str x)) (some (.ref q)),⟨_,kvs,rfl,hE1.trans hE2,hO,hE2 f _ hG1,hF⟩,?_,?_⟩
    ·rintro i d σ G3 hd ⟨x3,kvs3,rfl,hE3,hO3,hf3,hF3⟩
     rw[Ng]at hd;cases hpj:ps[i]? with
     | none=>rw[hpj]at hd;cases hd
     | some p=>
      rw[hpj]at hd;cases hd;have hil:i < o.length:=by have:=(List.getElem?_eq_some_iff.mp hpj).1;omega
      have hsi:o[i]?=some o[i]:=M1 hil;have UJ:=hO3 i p _ hpj hsi;have oks:=ok o[i] (ho _ (O4 hil));have tk:o.take (i+1)=o.take i ++ [o[i]]:=by rw[NF,hsi];rfl
      have fr:BE (o.take i) (mV x.length (o.take i)):=by
       have:=uw x.length (o.take i) [] _ (uv x.length)
       simpa[mV]using this
      have apart:∀ r∈o.take i,¬ (r.pen=(o[i]).pen/\r.num=(o[i]).num):=fun r hr z=>by
       obtain⟨j,hj,er⟩:=List.mem_iff_getElem.mp hr;rw[Nq]at hj;rw[List.getElem_take]at er;have hji:j < i:=by walk_at "o"
       have st':∀ a b:Nat,(ha:a < (o.map Sk.rw).length)->(hb:b < (o.map Sk.rw).length)->a < b->((o.map Sk.rw)[a]).lt (o.map Sk.rw)[b]=true:=fun a b ha hb hab=>List.pairwise_iff_getElem.mp st a b ha hb hab;have:=st' j i (by rw[MY];omega) (by rw[MY];omega) hji
       rw[Qc,Qc,er]at this;have VV:=one (o[i]).rw (mem_map.mpr ⟨_,ho _ (O4 hil),rfl⟩) r.rw (mem_map.mpr ⟨_,ho _ (er ▸ O4 (by walk_at "o")),rfl⟩) z.1.symm z.2.symm
       rw[VV,lt_irrefl]at this;cases this
      have fresh:=Ai fr oks.1 apart;have wl:=oK x.length (o.take i) (bB [ar] ar (c9 x.length)) fun s hs'=>(ok s (ho s (N_ hs'))).2;rw[cM]at wl;have wl2:(mV x.length (o.take i)).length<=100000:=by
       have e1:mV x.length (o.take i)=(o.take i).foldl cJ (ar::c9 x.length):=by unfold mV;rw[cM]
       rw[e1];rw[Nq,Ni,ol]at wl;omega
      generalize o[i]=s at *
      simp only[gN,NP,Nw];have nf:f≠p:=fun z=>by subst z;obtain⟨C,L,ds,e⟩:=qw Z1 Z2 Z3 Z4 Z5 R7 R8 s;rw[hf3,e]at UJ;cases UJ
      refine cO (decide (s.act.anch∈mV x.length (o.take i))) (fun K hK=>?_) (zZ (fun hin=>?_) fun V0=>?_)
      ·unfold eK yw;refine uA Z1 Z2 Z3 Z4 Z5 R7 R8 hw (p:=p) (i:=3) rfl UJ ?_;show ∃ r,da hw G3 (.ref f) s.act.anch.d r/\_
       refine⟨c7 kvs3 s.act.anch.key,?_,?_⟩
       ·show (match G3 f with|some (.dT hw' kvs)=>hw'=hw/\∃ ks,pA s.act.anch.d=some ks/\c7 kvs3 s.act.anch.key=c7 kvs ks|some (.dK kvs)=>_|_=>False)
        rw[hf3];exact⟨rfl,_,rfl,rfl⟩
       ·have e1:(c7 kvs3 s.act.anch.key).isSome=decide (s.act.anch∈mV x.length (o.take i)):=by
         by_cases z:s.act.anch∈mV x.length (o.take i)
         ·rw[hF3.2.2.2 _ z,decide_eq_true z];rfl
         ·rw[hF3.2.2.1 _ z,decide_eq_false z];rfl
        rw[e1];exact hK
      ·have VO:=of_decide_eq_true hin;simp only[bQ,aT,ae,av,ab,NS,NT];refine uA Z1 Z2 Z3 Z4 Z5 R7 R8 hw (p:=p) (i:=3) rfl UJ ?_;refine kK Z1 Z2 Z3 Z4 Z5 R7 R8 hw (p:=p) (i:=3) rfl UJ oks.2 ?_;have lm:(made s).length=s.act.many:=bz _ _ _;have lm2:=oks.2;show ∃ (b:Sl) (ss W:List Sl) (kvs:List (List aM×D)),(s.act.anch.d=b.d/\(made s).map Sl.d=ss.map Sl.d/\G3 f=some (.dT hw kvs)/\DJ kvs W/\b∈W/\ss.Nodup/\(∀ x∈ss,x∉W)/\W.length+ss.length<=900000)/\∀ U0,DJ U0 (bB W b ss)->_
       refine⟨s.act.anch,made s,_,kvs3,⟨rfl,rfl,hf3,hF3,VO,bI _ _ _,fresh,by walk_at "o"⟩,fun U0 hF'=>?_⟩
       refine⟨_,U0,rfl,fun a o' ha=>?_,fun j q s' hj hs'=>?_,aA,?_⟩
       ·have:a≠f:=fun z=>by subst z;rw[hf]at ha;cases ha
        rw[al this];exact hE3 a o' ha
       ·have h1:=hO3 j q s' hj hs';have:q≠f:=fun z=>by subst z;obtain⟨C,L,ds,e⟩:=qw Z1 Z2 Z3 Z4 Z5 R7 R8 s';rw[hf3,e]at h1;cases h1
        rw[al this];exact h1
       ·rw[tk,mD];unfold cJ;rw[if_pos VO];exact hF'
      ·have VM:=of_decide_eq_false V0;simp only[eY];refine⟨_,kvs3,rfl,hE3,hO3,hf3,?_⟩;rw[tk,mD];unfold cJ;rw[if_neg VM];exact hF3
    ·rintro σ G3 ⟨x3,kvs3,rfl,hE3,hO3,hf3,hF3⟩
     rw[MY,hl,ND]at hF3;rw[iE]at hF3;show ∃ (R:List Sl) (kvs:List (List aM×D)),(G3 f=some (.dT hw kvs)/\DJ kvs (ar::R)/\R.length<=900000)/\_
     refine⟨aE x.length o,kvs3,⟨hf3,hF3,?_⟩,h o G3 hE3 st memo⟩;have wl:=oK x.length o (bB [ar] ar (c9 x.length)) fun s hs'=>(ok s (ho s hs')).2;have e1:o.foldl cJ (bB [ar] ar (c9 x.length))=ar::aE x.length o:=iE x.length o;rw[e1,cM,Ni,Ni,ol]at wl;omega
 ·exact h.elim
theorem mJ(s:Sk):s.act.many<=s.wd:=by
 obtain⟨pen,num,time,act⟩:=s;cases act<;>first|exact le_refl _|exact NI _
theorem AW(Z1 Z2 Z3 Z4 Z5 R7 R8:MU)(hw:HW):bC (d6 Z1 Z2 Z3 Z4 Z5 R7 R8 hw) (mF Z1 Z2 Z3 Z4 Z5 R7 R8 hw) ["keys"]:=by
 intro ds G Q h;unfold d6 at h;split at h
 ·rename_i xs;have hs:=ai;unfold mF;rcases h with ⟨ss,⟨rfl,hl⟩,h⟩|⟨ns,⟨rfl,hl⟩,h⟩
  ·walk_at "s1";refine dZ (fun d=>.tup [d,.bl true]) (by rw[MY];omega) (fun d hd P hP=>?_) ?_
   ·obtain⟨s,hs',rfl⟩:=mem_map.mp hd;unfold Sl.d;walk_at "st";exact⟨rfl,by walk_at "o",hP _ rfl⟩
   ·dsimp only;refine⟨aW (fun _=>.bl true) (ss.map fun s=>(s,())),⟨?_,by unfold aW;rw[MY,MY];exact hl⟩,fun p hp=>?_⟩
    ·unfold aW;rw[Nr,Nr,Nr];rfl
    ·rw[uF];exact h p hp
  ·walk_at "s1";refine dZ (fun d=>.tup [d,.bl true]) (by rw[MY];omega) (fun d hd P hP=>?_) ?_
   ·obtain⟨s,hs',rfl⟩:=mem_map.mp hd;unfold Nm.d;walk_at "st";exact⟨rfl,by walk_at "o",hP _ rfl⟩
   ·dsimp only;refine⟨ns.map fun n=>(n.key,.bl true),⟨?_,by rw[MY];exact hl⟩,fun p hp=>h p hp⟩
    rw[Nr,Nr];rfl
 ·exact h.elim
theorem kL(Z1 Z2 Z3 Z4 Z5 R7 R8:MU)(hw:HW){G:Gp}{p:MU}{α:Type}{f:α->D}{l:List (Sl×α)}(x:Sl)(hG:G p=some (.dT hw (aW f l))):da hw G (.ref p) x.d ((cQ l x).map f):=by
 unfold da;dsimp only;rw[hG];exact⟨rfl,x.key,rfl,(Cs f x l).symm⟩
theorem u9(Z1 Z2 Z3 Z4 Z5 R7 R8:MU)(hw:HW):bC (dh Z1 Z2 Z3 Z4 Z5 R7 R8 hw) (iJ Z1 Z2 Z3 Z4 Z5 R7 R8 hw) ["stroke","in_row"]:=by
 intro ds G Q h;unfold dh at h;split at h
 ·rename_i a p;obtain⟨s,row,⟨hG,hw',hp⟩,h⟩:=h;have hs:=ai;have mw:=mJ s;unfold iJ;unfold bU eB ae av fk fQ;refine kK Z1 Z2 Z3 Z4 Z5 R7 R8 hw (p:=a) (i:=0) (s:=s) rfl hG (by walk_at "o") ?_
  dsimp only[fN];have lm:(made s).length=s.act.many:=bz _ _ _;refine dZ (fun d=>match d with|.tup [.str q,.int n,.int k]=>.bl (cQ row ⟨q,n,k⟩).isSome|d=>d) (by rw[MY,lm];omega) (fun d hd P hP=>?_) ?_
  ·obtain⟨x,hx,rfl⟩:=mem_map.mp hd;refine⟨⟨by simp[js],rfl⟩,?_⟩
   show ∃ r,da hw G (.ref p) x.d r/\P (.bl r.isSome) G
   refine⟨_,kL Z1 Z2 Z3 Z4 Z5 R7 R8 hw x hp,hP _ ?_⟩;show D.bl ((cQ row x).map _).isSome=D.bl (cQ row x).isSome
   rw[Option.isSome_map]
  ·show ∃ bs:List Bool,yJ G (val _)=some (bs.map D.bl)/\_;refine⟨(made s).map fun x=>(cQ row x).isSome,?_,?_⟩
   ·show some _=some _;congr 1;rw[Nr,Nr];rfl
   ·rw[List.all_map];exact h
 ·exact h.elim
theorem GQ{ns:List Nm}(n:Nm):(c7 (dictOf (ns.map fun n=>(n.key,D.bl true))) n.key).isSome=decide (n∈ns):=by
 unfold dictOf;have key_inj:∀ {a b:Nm},a.key=b.key->a=b:=fun {a b} h=>by
  obtain⟨a1,a2⟩:=a;obtain⟨b1,b2⟩:=b;simp only[Nm.key,List.cons.injEq,Sum.inr.injEq,Sum.inl.injEq,and_true]at h;obtain⟨rfl,rfl⟩:=h;rfl
 suffices H:∀ l:List (List aM×D),(c7 ((ns.map fun n=>(n.key,D.bl true)).foldl (fun a kv=>bH a kv.1 kv.2) l) n.key).isSome=((c7 l n.key).isSome || decide (n∈ns)) by
  have:=H []
  simpa[c7]using this
 induction ns with
 | nil=>intro l;simp
 | cons m r ih=>
  intro l;rw[Nk,Py,ih,gu]
  by_cases e:n=m
  ·subst e;simp
  ·rw[if_neg (fun z=>e (key_inj z))];simp[e]
theorem jD.ext{Z1 Z2 Z3 Z4 Z5 R7 R8:MU}{G G':Gp}{ps:List MU}{o:List Sk}(h:jD Z1 Z2 Z3 Z4 Z5 R7 R8 G ps o)(e:iC G G'):jD Z1 Z2 Z3 Z4 Z5 R7 R8 G' ps o:=⟨h.1,fun j p s hp hs=>e _ _ (h.2 j p s hp hs)⟩
theorem jD.nil{Z1 Z2 Z3 Z4 Z5 R7 R8:MU}{G:Gp}:jD Z1 Z2 Z3 Z4 Z5 R7 R8 G [] []:=⟨rfl,fun j p s hp=>by simp at hp⟩
theorem jD.add{Z1 Z2 Z3 Z4 Z5 R7 R8:MU}{G:Gp}{ps:List MU}{o:List Sk}{p:MU}{s:Sk}(h:jD Z1 Z2 Z3 Z4 Z5 R7 R8 G ps o)(hp:G p=some (bf Z1 Z2 Z3 Z4 Z5 R7 R8 s)):jD Z1 Z2 Z3 Z4 Z5 R7 R8 G (ps ++ [p]) (o ++ [s]):=by
 obtain⟨hl,h⟩:=h;refine⟨by simp[hl],fun j q t hq ht=>?_⟩
 rw[List.getElem?_append]at hq ht;split at hq
 ·rename_i hj;rw[if_pos (by walk_at "o")]at ht
  exact h j q t hq ht
 ·rename_i hj;rw[if_neg (by walk_at "o")]at ht
  have hj0:j - ps.length=0:=by
   by_cases z:j - ps.length=0
   ·exact z
   ·obtain⟨k,hk⟩:∃ k,j - ps.length=k+1:=⟨j - ps.length - 1,by walk_at "o"⟩
    rw[hk]at hq;simp at hq
  rw[hj0]at hq;rw[show j - o.length=0 by walk_at "o"]at ht
  simp only[NS,Option.some.injEq]at hq ht;subst hq ht;exact hp
theorem GS(row:List Sl)(x:Sl):(cQ (bq [] (row.map fun s=>(s,()))) x).isSome=decide (x∈row):=by
 suffices H:∀ l:List (Sl×Unit),(cQ (bq l (row.map fun s=>(s,()))) x).isSome=((cQ l x).isSome || decide (x∈row)) by
  have:=H []
  simpa[cQ]using this
 induction row with
 | nil=>intro l;simp[bq]
 | cons m r ih=>
  intro l;show (cQ (bq (k9 l m ()) (r.map fun s=>(s,()))) x).isSome=_
  rw[ih,yI]
  by_cases e:x=m
  ·subst e;simp
  ·rw[if_neg e];simp[e]
theorem jD.snoc{Z1 Z2 Z3 Z4 Z5 R7 R8:MU}{G:Gp}{ps:List MU}{o:List Sk}{p:MU}{s:Sk}(h:jD Z1 Z2 Z3 Z4 Z5 R7 R8 G ps o)(hp:G p=none):jD Z1 Z2 Z3 Z4 Z5 R7 R8 (gset G p (bf Z1 Z2 Z3 Z4 Z5 R7 R8 s)) (ps ++ [p]) (o ++ [s]):=
 (h.ext (iC.refl.gset hp)).add aA
theorem u_(Z1 Z2 Z3 Z4 Z5 R7 R8:MU)(hw:HW):bC (dj Z1 Z2 Z3 Z4 Z5 R7 R8 hw) (iK Z1 Z2 Z3 Z4 Z5 R7 R8 hw) ["strokes","standing","in_row","stands","chosen"]:=by
 intro ds G Q h;unfold dj at h;split at h
 ·rename_i q0 ns p;obtain⟨sks,base,names,row,⟨hq0,one,l1,l2,sub,wd,rfl,l3,hG⟩,h⟩:=h;have hs:=ai;unfold iK;rw[ag];walk_at "s1";refine .inr ⟨names,⟨rfl,l3⟩,fun q hq=>?_⟩;have hpq:p≠q:=fun z=>by subst z;rw[hG]at hq;cases hq
  rw[ag];have g1:gset G q (.dT hw (dictOf (names.map fun n=>(n.key,.bl true)))) q=some (.dT hw (dictOf (names.map fun n=>(n.key,.bl true)))):=aA;have g2:iC G (gset G q (.dT hw (dictOf (names.map fun n=>(n.key,.bl true))))):=iC.refl.gset hq;generalize gset G q (.dT hw (dictOf (names.map fun n=>(n.key,.bl true))))=G1 at g1 g2;walk_at "s1";refine⟨sks.map Sk.rw,base.map Sk.rw,⟨by rw[g2 q0 _ hq0,Nr];rfl,one,by rw[MY];exact l1,by rw[MY];exact l2,fun r hr=>?_⟩,fun out G2 hE st mem=>?_⟩
  ·obtain⟨s,hs',rfl⟩:=mem_map.mp hr;exact mem_map.mpr ⟨s,sub s hs',rfl⟩
  obtain⟨o,rfl,ho⟩:=AT (sks:=sks) (out:=out) fun r hr=>(mem r).mp hr;have memo:∀ s,s∈o↔s∈sks:=fun s=>⟨ho s,fun hs'=>by
   obtain⟨s',h1,h2⟩:=mem_map.mp ((mem s.rw).mpr (mem_map.mpr ⟨s,hs',rfl⟩));rw[<- Sk.rw_inj h2];exact h1⟩
  have lo:o.length < 64:=by
   have:=h_ (fY st) (ys:=base.map Sk.rw) fun r hr=>by
    obtain⟨s,hs',rfl⟩:=mem_map.mp hr;exact mem_map.mpr ⟨s,sub s (ho s hs'),rfl⟩
   rw[MY,MY]at this;omega
  have dmap:(o.map Sk.rw).map Rw.d=o.map Sk.d:=by rw[Nr];rfl
  rw[dmap];refine⟨by rw[MY];omega,fun i acc G3=>∃ ps:List MU,acc=ps.map D.ref/\iC G2 G3/\jD Z1 Z2 Z3 Z4 Z5 R7 R8 G3 ps ((o.take i).filter fun s=>decide (s.nm∈names)),⟨[],rfl,iC.refl,by simpa using jD.nil⟩,?_,?_⟩
  ·rintro i d acc G3 hd ⟨ps,rfl,hE3,hO⟩
   rw[Ng]at hd;cases hsj:o[i]? with
   | none=>rw[hsj]at hd;cases hd
   | some s=>
    rw[hsj]at hd;cases hd;have tk:(o.take (i+1)).filter (fun s=>decide (s.nm∈names))=(o.take i).filter (fun s=>decide (s.nm∈names)) ++ (if s.nm∈names then [s]else []):=by
     rw[NF,hsj,OV]
     by_cases e:s.nm∈names
     ·rw[if_pos e];simp[e]
     ·rw[if_neg e];simp[e]
    refine⟨⟨by simp,rfl⟩,?_⟩
    show ∃ r,da hw G3 (.ref q) s.nm.d r/\(match D.bl r.isSome with|.bl b=>_|_=>False)
    refine⟨c7 (dictOf (names.map fun n=>(n.key,D.bl true))) s.nm.key,?_,?_⟩
    ·unfold da;dsimp only;rw[hE3 q _ (hE q _ g1)];exact⟨rfl,_,rfl,rfl⟩
    ·rw[GQ];dsimp only
     by_cases e:s.nm∈names
     ·rw[decide_eq_true e,if_pos rfl];show ∃ s':Sk,s.d=s'.d/\∀ p,G3 p=none->_
      refine⟨s,rfl,fun r hr=>⟨ps ++ [r],by rw[Nv];rfl,fun a o' ha=>?_,?_⟩⟩
      ·have:a≠r:=fun z=>by subst z;rw[hE3 a o' ha]at hr;cases hr
       rw[al this];exact hE3 a o' ha
      ·rw[tk,if_pos e];exact hO.snoc hr
     ·rw[decide_eq_false e,if_neg Bool.false_ne_true];refine⟨ps,rfl,hE3,?_⟩;rw[tk,if_neg e,Oj];exact hO
  ·rintro acc G3 ⟨ps,rfl,hE3,hO⟩
   rw[MY,ND]at hO;dsimp only[val];have hE4:iC G G3:=g2.trans (hE.trans hE3);generalize hfl:o.filter (fun s=>decide (s.nm∈names))=ws at hO;have VS:∀ s∈ws,s∈o:=fun s hs'=>by rw[<- hfl]at hs';exact (mem_filter.mp hs').1
   have lw:ws.length<=o.length:=by rw[<- hfl];exact N7 _ _
   have hl:=hO.1;show (_<=M4)/\_
   refine⟨by rw[MY];omega,fun i acc G4=>∃ qs:List MU,acc=qs.map D.ref/\G4=G3/\jD Z1 Z2 Z3 Z4 Z5 R7 R8 G3 qs ((ws.take i).filter (kH row)),⟨[],rfl,rfl,by simpa using jD.nil⟩,?_,?_⟩
   ·rintro i d acc G4 hd ⟨qs,rfl,rfl,hQ⟩
    rw[Ng]at hd;cases hpi:ps[i]? with
    | none=>rw[hpi]at hd;cases hd
    | some a=>
     rw[hpi]at hd;cases hd;have hi:i < ws.length:=by have:=(List.getElem?_eq_some_iff.mp hpi).1;omega
     have hwi:ws[i]?=some ws[i]:=M1 hi;have hob:=hO.2 i a _ hpi hwi;refine⟨⟨by simp,rfl⟩,?_⟩
     have tk:(ws.take (i+1)).filter (kH row)=(ws.take i).filter (kH row) ++ (if kH row ws[i]=true then [ws[i]]else []):=by
      rw[NF,hwi,OV]
      by_cases e:kH row ws[i]=true
      ·rw[if_pos e];simp[e]
      ·rw[if_neg e];simp[e]
     have hgp:G4 p=some (.dT hw (aW (fun _=>.bl true) (bq [] (row.map fun s=>(s,()))))):=hE4 p _ hG;have pe:(made ws[i]).all (fun x=>(cQ (bq [] (row.map fun s=>(s,()))) x).isSome)=kH row ws[i]:=by
      unfold kH;congr 1;funext x;exact GS row x
     refine⟨_,_,⟨hob,wd _ (ho _ (VS _ (O4 hi))),hgp⟩,?_⟩;rw[pe];show True/\_
     refine⟨trivial,?_⟩;dsimp only
     by_cases e:kH row ws[i]=true
     ·rw[if_pos e];exact⟨qs ++ [a],by rw[Nv];rfl,rfl,by rw[tk,if_pos e];exact hQ.add hob⟩
     ·rw[if_neg e];exact⟨qs,rfl,rfl,by rw[tk,if_neg e,Oj];exact hQ⟩
   ·rintro acc G4 ⟨qs,rfl,rfl,hQ⟩
    rw[MY,hl,ND]at hQ;refine h o qs _ hE4 st memo ?_;unfold fX;rw[hfl];exact hQ
 ·exact h.elim
theorem wZ{hw:HW}{α:Type}{f:α->D}{l:List (Sl×α)}{G:Gp}{p:MU}{x:Sl}{w:α}{K:Gp->Prop}(hG:G p=some (.dT hw (aW f l)))(hl:l.length < M4)(h:K (gset G p (.dT hw (aW f (k9 l x w))))):me hw (.ref p) x.d (f w) G K:=by
 unfold me;dsimp only;rw[hG];exact⟨rfl,x.key,rfl,by unfold aW;rw[MY];exact hl,by rw[zo];exact h⟩
theorem sO{α:Type}{σ:List α}{a:Nat}(h:a < σ.length):σ.set a σ[a]=σ:=List.set_getElem_self h
theorem HR{hw:HW}{α:Type}{f:α->D}(hf:∀ v,val (f v)=f v){m l:List (Sl×α)}{a b d:Nat}{σ:gv}{G:Gp}{p:MU}{E:Ends3}(hab:a≠b)(had:a≠d)(hbd:b≠d)(ha:a < σ.length)(hb:b < σ.length)(hσ:σ[d]?=some (some (.ref p)))(hl:l.length+m.length < M4)
  (h:∀ u v,E.nx ((σ.set a u).set b v) (gset G p (.dT hw (aW f (bq l m))))):ForIn (pC 2 (fx (gN a) (fx (gN b) pD))) (fB hw (ab d) (ab a) (ab b)) E σ (m.map fun q=>.tup [q.1.d,f q.2]) (gset G p (.dT hw (aW f l))):=by
 refine⟨fun i σ' G'=>∃ u v,σ'=(σ.set a u).set b v/\G'=gset G p (.dT hw (aW f (bq l (m.take i)))),⟨σ[a],σ[b],by rw[sO ha,sO hb],rfl⟩,?_,?_⟩
 ·rintro i dd σ' G' hd ⟨u,v,rfl,rfl⟩
  rw[Ng]at hd;cases hq:m[i]? with
  | none=>rw[hq]at hd;cases hd
  | some q=>
   rw[hq]at hd;cases hd;have hi:=(List.getElem?_eq_some_iff.mp hq).1;have tk:m.take (i+1)=m.take i ++ [q]:=by rw[NF,hq];rfl
   unfold pC fx pD gN;refine⟨rfl,?_⟩;show fB hw (ab d) (ab a) (ab b) _ ((((σ.set a u).set b v).set a (some q.1.d)).set b (some (f q.2))) _
   have e0:(((σ.set a u).set b v).set a (some q.1.d)).set b (some (f q.2))=(σ.set a (some q.1.d)).set b (some (f q.2)):=by
    rw[List.set_comm _ _ (Ne.symm hab),List.set_set,List.set_set]
   rw[e0];have s1:((σ.set a (some q.1.d)).set b (some (f q.2)))[b]?=some (some (f q.2)):=by rw[List.getElem?_set_self (by rw[List.length_set];exact hb)]
   have s2:((σ.set a (some q.1.d)).set b (some (f q.2)))[a]?=some (some q.1.d):=by rw[OJ (Ne.symm hab),List.getElem?_set_self ha]
   have s3:((σ.set a (some q.1.d)).set b (some (f q.2)))[d]?=some (some (.ref p)):=by rw[OJ hbd,OJ had];exact hσ
   unfold fB ab;rw[s1,s2,s3];dsimp only;rw[hf];have pl:=fU (m.take i) l;rw[Nq]at pl;refine wZ (x:=q.1) aA (by walk_at "o") ⟨_,_,rfl,?_⟩
   rw[ff,tk,nL]
 ·rintro σ' G' ⟨u,v,rfl,rfl⟩
  rw[MY,ND];exact h u v
theorem HS{hw:HW}{α:Type}{f:α->D}{w:α}(hf:val (f w)=f w){ns:List Sl}{l:List (Sl×α)}{a d:Nat}{σ:gv}{G:Gp}{p:MU}{E:Ends3}{te:bJ}(had:a≠d)(ha:a < σ.length)(hσ:σ[d]?=some (some (.ref p)))(hl:l.length+ns.length < M4)
  (ht:∀ u l (K:oa),K (f w) (gset G p (.dT hw (aW f l)))->te (σ.set a u) (gset G p (.dT hw (aW f l))) K)
  (h:∀ u,E.nx (σ.set a u) (gset G p (.dT hw (aW f (bq l (ns.map fun n=>(n,w))))))):ForIn (gN a) (fB hw (ab d) (ab a) te) E σ (ns.map Sl.d) (gset G p (.dT hw (aW f l))):=by
 refine⟨fun i σ' G'=>∃ u,σ'=σ.set a u/\G'=gset G p (.dT hw (aW f (bq l ((ns.take i).map fun n=>(n,w))))),⟨σ[a],by rw[sO ha],rfl⟩,?_,?_⟩
 ·rintro i dd σ' G' hd ⟨u,rfl,rfl⟩
  rw[Ng]at hd;cases hq:ns[i]? with
  | none=>rw[hq]at hd;cases hd
  | some q=>
   rw[hq]at hd;cases hd;have hi:=(List.getElem?_eq_some_iff.mp hq).1;have tk:ns.take (i+1)=ns.take i ++ [q]:=by rw[NF,hq];rfl
   show fB hw (ab d) (ab a) te _ ((σ.set a u).set a (some q.d)) _
   rw[List.set_set];have s2:(σ.set a (some q.d))[a]?=some (some q.d):=by rw[List.getElem?_set_self ha]
   have s3:(σ.set a (some q.d))[d]?=some (some (.ref p)):=by rw[OJ had];exact hσ
   unfold fB;refine ht _ _ _ ?_;unfold ab;rw[s2,s3];dsimp only;rw[hf];have pl:=fU ((ns.take i).map fun n=>(n,w)) l;rw[MY,Nq]at pl;refine wZ (x:=q) aA (by walk_at "o") ⟨_,rfl,?_⟩
   rw[ff,tk,Nv,Nk,Pf,nL]
 ·rintro σ' G' ⟨u,rfl,rfl⟩
  rw[MY,ND];exact h u
theorem on{α β:Type}(f:α->D)(g:β->D):∀ (a:List α) (b:List β),oo (a.map f) (b.map g)=(a.zip b).map fun q=>.tup [f q.1,g q.2]
 | [],_=>rfl
 | _::_,[]=>rfl
 | x::a,y::b=>by simp only[Nk,oo,OR,on f g a b]
theorem wg(x:Str):L3.signs x=(lC x).map D.str:=by unfold L3.signs lC;rw[Nr];rfl
theorem BP(x:Str):(lC x).length=x.length:=by simp[lC,PZ]
theorem mN{β:Type}(g:Sk->List β){o:List Sk}{i:Nat}{s:Sk}(h:o[i]?=some s):(o.take (i+1)).flatMap g=(o.take i).flatMap g ++ g s:=by
 rw[NF,h,O9];simp
theorem uC{β:Type}(g:Sk->List β):∀ {o:List Sk},(∀ s∈o,(g s).length<=1000)->(o.flatMap g).length<=1000*o.length
 | [],_=>by simp
 | s::r,h=>by
  have h1:=h s M8;have h2:=uC g (o:=r) fun t ht=>h t (M3 _ ht);rw[List.flatMap_cons,Nj,Ni];omega
theorem qS{s:Sk}(h:s.wd<=1000):(cF s).length<=1000:=by
 obtain⟨pen,num,time,act⟩:=s;cases act with
 | put a x=>
  show ((made _).zip (lC x)).length<=1000
  rw[Pw,BP];have:x.length<=1000:=h;omega
 | _=>exact NI _
theorem AJ{s:Sk}(h:s.wd<=1000):(cI s).length<=1000:=by
 obtain⟨pen,num,time,act⟩:=s;cases act with
 | strike ns=>show (ns.map _).length<=1000;rw[MY];exact h
 | _=>exact NI _
theorem DS{s:Sk}(h:s.wd<=1000):(eN s).length<=1000:=by
 obtain⟨pen,num,time,act⟩:=s;cases act with
 | dress ns w=>show (ns.map _).length<=1000;rw[MY];exact h
 | _=>exact NI _
theorem yU{s:Sk}(h:s.wd<=1000):(cy s).length<=1000:=by
 obtain⟨pen,num,time,act⟩:=s;cases act with
 | move ns a=>
  show (ns.zip (made _)).length<=1000
  rw[Pw];have:ns.length<=1000:=h;omega
 | _=>exact NI _
theorem jY{β:Type}{o:List Sk}(h:wP o)(g:Sk->List β)(hg:∀ s:Sk,s.wd<=1000->(g s).length<=1000)(i:Nat):((o.take i).flatMap g).length<=64000:=by
 have h1:=uC g (o:=o.take i) fun s hs=>hg s (h.2 s (N_ hs));have h2:=h.1;rw[Nq]at h1;omega
theorem mr(Z1 Z2 Z3 Z4 Z5 R7 R8:MU)(hw:HW){σ:gv}{G:Gp}{a C:MU}{s:Sk}{i:Nat}{cs:List (MU×Bool)}{K:Bool->Gp->Prop}(b:Bool)(hσ:σ[i]?=some (some (.ref a)))(hG:G a=some (bf Z1 Z2 Z3 Z4 Z5 R7 R8 s))
  (hc:match s.act with|.put _ _=>(Z2,b)∈cs|.strike _=>(Z3,b)∈cs|.dress _ _=>(Z4,b)∈cs|.move _ _=>(Z5,b)∈cs) (h:K b G):uP (eB (yG cs C) (ae (ab i) (ae (eC (.ref C)) av))) σ G K:=by
 obtain⟨pen,num,time,act⟩:=s;unfold uP eB ae av ab eC yG;rw[hσ];cases act<;>(simp only[bf]at hG;simp only[val,hG];exact⟨trivial,b,hc,⟨trivial,h⟩⟩)
theorem kJ(Z1 Z2 Z3 Z4 Z5 R7 R8:MU)(hw:HW){σ:gv}{G:Gp}{p:MU}{s:Sk}{ns:List Sl}{i:Nat}{Q:oa}(hσ:σ[i]?=some (some (.ref p)))(hG:G p=some (bf Z1 Z2 Z3 Z4 Z5 R7 R8 s))(ha:s.act=.strike ns\/(∃ w,s.act=.dress ns w)\/∃ b,s.act=.move ns b)(hm:ns.length<=1000)(h:Q (.fl (ns.map Sl.d)) G):
  fy [(Z1,af Z1 Z2 Z3 Z4 Z5 R7 R8 hw),(Z2,af Z1 Z2 Z3 Z4 Z5 R7 R8 hw),(Z3,af Z1 Z2 Z3 Z4 Z5 R7 R8 hw),(Z4,af Z1 Z2 Z3 Z4 Z5 R7 R8 hw),(Z5,af Z1 Z2 Z3 Z4 Z5 R7 R8 hw)] "touched" [] (ab i) av σ G Q:=by
 have hG':=hG;unfold fy ab;rw[hσ];obtain⟨pen,num,time,act⟩:=s;rcases ha with e|⟨w,e⟩|⟨b,e⟩<;>(have e':act=_:=e;subst e';simp only[bf]at hG;simp only[hG])
 ·exact⟨by decide +kernel,af Z1 Z2 Z3 Z4 Z5 R7 R8 hw,by simp,_,ns,⟨.inl rfl,hG',hm⟩,h⟩
 ·exact⟨by decide +kernel,af Z1 Z2 Z3 Z4 Z5 R7 R8 hw,by simp,_,ns,⟨.inr (.inl ⟨w,rfl⟩),hG',hm⟩,h⟩
 ·exact⟨by decide +kernel,af Z1 Z2 Z3 Z4 Z5 R7 R8 hw,by simp,_,ns,⟨.inr (.inr ⟨b,rfl⟩),hG',hm⟩,h⟩
theorem nG(Z1 Z2 Z3 Z4 Z5 R7 R8:MU)(hw:HW):bC (af Z1 Z2 Z3 Z4 Z5 R7 R8 hw) (eh Z1 Z2 Z3 Z4 Z5 R7 R8 hw) ["self"]:=by
 intro ds G Q h;unfold af at h;split at h
 ·rename_i p;obtain⟨⟨pen,num,time,act⟩,ns,⟨ha,hG,hl⟩,h⟩:=h;have hs:=ai;unfold bf at hG;unfold eh;rcases ha with e|⟨w,e⟩|⟨b,e⟩<;>(have e':act=_:=e;subst e';dsimp only at hG)
  ·have hc:Z3∈[Z1,Z2,Z3,Z4,Z5]:=by simp
   walk_at "st"
   try exact h
  ·have hc:Z4∈[Z1,Z2,Z3,Z4,Z5]:=by simp
   walk_at "st"
   try exact h
  ·have hc:Z5∈[Z1,Z2,Z3,Z4,Z5]:=by simp
   walk_at "st"
   try exact h
 ·exact h.elim
theorem yE(x:Str){o:List Sk}{i:Nat}{s:Sk}(h:o[i]?=some s):ay x (o.take (i+1))=bq (ay x (o.take i)) (cF s):=by
 unfold ay;rw[mN cF h,<- List.append_assoc,cP]
theorem yY{o:List Sk}{i:Nat}{s:Sk}(h:o[i]?=some s):bd (o.take (i+1))=bq (bd (o.take i)) (cI s):=by
 unfold bd;rw[mN cI h,cP]
theorem AI{o:List Sk}{i:Nat}{s:Sk}(h:o[i]?=some s):cf (o.take (i+1))=bq (cf (o.take i)) (cy s):=by
 unfold cf;rw[mN cy h,cP]
theorem Cy{o:List Sk}{i:Nat}{s:Sk}(h:o[i]?=some s):dI (o.take (i+1))=bq (dI (o.take i)) (eN s):=by
 unfold dI;rw[mN eN h,cP]
theorem Gj{Z1 Z2 Z3 Z4 Z5 R7 R8:MU}{G:Gp}{ps:List MU}{o:List Sk}{i:Nat}{d:D}(h:jD Z1 Z2 Z3 Z4 Z5 R7 R8 G ps o)(hd:(ps.map D.ref)[i]?=some d):∃ a s,d=.ref a/\o[i]?=some s/\G a=some (bf Z1 Z2 Z3 Z4 Z5 R7 R8 s):=by
 rw[Ng]at hd;cases hp:ps[i]? with
 | none=>rw[hp]at hd;cases hd
 | some a=>
  rw[hp]at hd;cases hd;have hi:i < o.length:=by have:=(List.getElem?_eq_some_iff.mp hp).1;have:=h.1;omega
  exact⟨a,o[i],rfl,M1 hi,h.2 i a _ hp (M1 hi)⟩
theorem Dt(Z1 Z2 Z3 Z4 Z5 R7 R8:MU)(hw:HW){σ:gv}{G:Gp}{p:MU}{pen:Str}{num time:Int}{a:Sl}{x:Str}{i:Nat}{Q:oa}(hσ:σ[i]?=some (some (.ref p)))(hG:G p=some (bf Z1 Z2 Z3 Z4 Z5 R7 R8 ⟨pen,num,time,.put a x⟩))(h:Q (.str x) G):bM [Z1,Z2,Z3,Z4,Z5] "signs" (ab i) σ G Q:=by
 unfold bM ab;rw[hσ];simp only[bf]at hG;simp only[hG];exact⟨by simp,h⟩
theorem Fs(Z1 Z2 Z3 Z4 Z5 R7 R8:MU)(hw:HW){σ:gv}{G:Gp}{p:MU}{pen:Str}{num time:Int}{ns:List Sl}{w:Str}{i:Nat}{Q:oa}(hσ:σ[i]?=some (some (.ref p)))(hG:G p=some (bf Z1 Z2 Z3 Z4 Z5 R7 R8 ⟨pen,num,time,.dress ns w⟩))(h:Q (.str w) G):bM [Z1,Z2,Z3,Z4,Z5] "word" (ab i) σ G Q:=by
 unfold bM ab;rw[hσ];simp only[bf]at hG;simp only[hG];exact⟨by simp,h⟩
theorem oM(Z1 Z2 Z3 Z4 Z5 R7 R8:MU)(hw:HW):bC (bK Z1 Z2 Z3 Z4 Z5 R7 R8 hw) (eZ Z1 Z2 Z3 Z4 Z5 R7 R8 hw) ["old","strokes","brought","stroke","name","sign"]:=by
 intro ds G Q h;unfold bK at h;split at h
 ·rename_i x xs;obtain⟨ps,o,⟨rfl,hO,hS,hx⟩,h⟩:=h;have hs:=ai;unfold eZ;rw[ag];walk_at "s1";have ol:(c9 x.length).length=x.length:=bz _ _ _;have l0:((c9 x.length).zip (lC x)).length<=1000:=by rw[Pw];omega
  refine⟨_,_,aW D.str ((c9 x.length).zip (lC x)),⟨rfl,rfl,?_,by unfold aW;rw[MY];omega⟩,fun p hp=>?_⟩
  ·rw[wg,on];unfold aW;rw[Nr];rfl
  rw[uF];have e0:bq [] ((c9 x.length).zip (lC x))=ay x (o.take 0):=by unfold ay;simp
  rw[e0];rw[ag];have hE:iC G (gset G p (.dT hw (aW D.str (ay x (o.take 0))))):=iC.refl.gset hp;show ForIn _ _ _ _ (ps.map D.ref) _
  refine⟨fun i σ G'=>∃ x3 x4 x5,σ=[some (.str x),some (.lst (ps.map D.ref)),some (.ref p),x3,x4,x5]/\G'=gset G p (.dT hw (aW D.str (ay x (o.take i)))),⟨_,_,_,rfl,rfl⟩,?_,?_⟩
  ·rintro i d σ G' hd ⟨x3,x4,x5,rfl,rfl⟩
   obtain⟨a,s,rfl,hsi,hGa⟩:=Gj hO hd;have hap:a≠p:=fun z=>by subst z;rw[hp]at hGa;cases hGa
   have Tk:∀ u,gset G p u a=some (bf Z1 Z2 Z3 Z4 Z5 R7 R8 s):=fun u=>by rw[al hap];exact hGa
   have swd:s.wd<=1000:=hS.2 s (Na hsi);have bl:(ay x (o.take i)).length<=65000:=by
    have h1:=fU ((c9 x.length).zip (lC x) ++ (o.take i).flatMap cF) [];have h2:=jY hS cF (fun s hs=>qS hs) i;rw[Nj,NG]at h1;unfold ay;omega
   have bt:=yE x hsi;simp only[gN,NP,Nw];obtain⟨pen,num,time,act⟩:=s;cases act with
   | put an w=>
    refine cO true (fun K hK=>mr Z1 Z2 Z3 Z4 Z5 R7 R8 hw (s:=⟨pen,num,time,.put an w⟩) (a:=a) (i:=3) true rfl (Tk _) (by simp) hK) ?_
    rw[if_pos rfl];unfold kz Dn ae av;have mw:=mJ ⟨pen,num,time,.put an w⟩;refine kK Z1 Z2 Z3 Z4 Z5 R7 R8 hw (p:=a) (i:=3) (s:=⟨pen,num,time,.put an w⟩) rfl (Tk _) (by walk_at "o") ?_
    refine Dt Z1 Z2 Z3 Z4 Z5 R7 R8 hw (p:=a) (i:=3) (a:=an) (x:=w) rfl (Tk _) ?_;refine⟨_,_,⟨rfl,rfl⟩,?_⟩;rw[wg,on];have bl2:=qS swd;refine HR (f:=D.str) (fun _=>rfl) (m:=(made ⟨pen,num,time,.put an w⟩).zip (lC w)) (by decide) (by decide) (by decide) (by simp) (by simp) rfl (by show _+(cF ⟨pen,num,time,.put an w⟩).length < _;omega) fun u v=>⟨_,_,_,rfl,?_⟩
    rw[bt];rfl
   | _=>
    refine cO false (fun K hK=>mr Z1 Z2 Z3 Z4 Z5 R7 R8 hw (s:=⟨pen,num,time,_⟩) (a:=a) (i:=3) false rfl (Tk _) (by simp) hK) ?_
    rw[if_neg Bool.false_ne_true];refine⟨_,_,_,rfl,?_⟩;rw[bt];rfl
  ·rintro σ G' ⟨x3,x4,x5,rfl,rfl⟩
   rw[MY,hO.1,ND];exact h p hp
 ·exact h.elim
theorem qa(Z1 Z2 Z3 Z4 Z5 R7 R8:MU)(hw:HW):bC (b7 Z1 Z2 Z3 Z4 Z5 R7 R8 hw) (fH Z1 Z2 Z3 Z4 Z5 R7 R8 hw) ["strokes","struck","stroke","name"]:=by
 intro ds G Q h;unfold b7 at h;split at h
 ·rename_i xs;obtain⟨ps,o,⟨rfl,hO,hS⟩,h⟩:=h;have hs:=ai;unfold fH;rw[ag];walk_at "s1";intro p hp;rw[ag];show ForIn _ _ _ _ (ps.map D.ref) _
  refine⟨fun i σ G'=>∃ x2 x3,σ=[some (.lst (ps.map D.ref)),some (.ref p),x2,x3]/\G'=gset G p (.dT hw (aW (fun _=>.bl true) (bd (o.take i)))),⟨_,_,rfl,rfl⟩,?_,?_⟩
  ·rintro i d σ G' hd ⟨x2,x3,rfl,rfl⟩
   obtain⟨a,s,rfl,hsi,hGa⟩:=Gj hO hd;have hap:a≠p:=fun z=>by subst z;rw[hp]at hGa;cases hGa
   have Tk:∀ u,gset G p u a=some (bf Z1 Z2 Z3 Z4 Z5 R7 R8 s):=fun u=>by rw[al hap];exact hGa
   have swd:s.wd<=1000:=hS.2 s (Na hsi);have bl:(bd (o.take i)).length<=65000:=by
    have h1:=fU ((o.take i).flatMap cI) [];have h2:=jY hS cI (fun s hs=>AJ hs) i;rw[NG]at h1;unfold bd;omega
   have bt:=yY hsi;simp only[gN,NP,Nw];obtain⟨pen,num,time,act⟩:=s;cases act with
   | strike ns=>
    refine cO true (fun K hK=>mr Z1 Z2 Z3 Z4 Z5 R7 R8 hw (s:=⟨pen,num,time,.strike ns⟩) (a:=a) (i:=2) true rfl (Tk _) (by simp) hK) ?_
    rw[if_pos rfl];unfold kz fQ;have hl:ns.length<=1000:=swd;refine kJ Z1 Z2 Z3 Z4 Z5 R7 R8 hw (p:=a) (i:=2) (s:=⟨pen,num,time,.strike ns⟩) rfl (Tk _) (.inl rfl) hl ?_;dsimp only[fN];refine HS (f:=fun (_:Unit)=>D.bl true) (w:=()) rfl (by decide) (by simp) rfl (by walk_at "o") (fun u l K hK=>hK) fun u=>⟨_,_,rfl,?_⟩
    rw[bt];rfl
   | _=>
    refine cO false (fun K hK=>mr Z1 Z2 Z3 Z4 Z5 R7 R8 hw (s:=⟨pen,num,time,_⟩) (a:=a) (i:=2) false rfl (Tk _) (by simp) hK) ?_
    rw[if_neg Bool.false_ne_true];refine⟨_,_,rfl,?_⟩;rw[bt];rfl
  ·rintro σ G' ⟨x2,x3,rfl,rfl⟩
   rw[MY,hO.1,ND];exact h p hp
 ·exact h.elim
theorem sX(Z1 Z2 Z3 Z4 Z5 R7 R8:MU)(hw:HW):bC (cR Z1 Z2 Z3 Z4 Z5 R7 R8 hw) (gR Z1 Z2 Z3 Z4 Z5 R7 R8 hw) ["strokes","worn","stroke","name"]:=by
 intro ds G Q h;unfold cR at h;split at h
 ·rename_i xs;obtain⟨ps,o,⟨rfl,hO,hS⟩,h⟩:=h;have hs:=ai;unfold gR;rw[ag];walk_at "s1";intro p hp;rw[ag];show ForIn _ _ _ _ (ps.map D.ref) _
  refine⟨fun i σ G'=>∃ x2 x3,σ=[some (.lst (ps.map D.ref)),some (.ref p),x2,x3]/\G'=gset G p (.dT hw (aW D.str (dI (o.take i)))),⟨_,_,rfl,rfl⟩,?_,?_⟩
  ·rintro i d σ G' hd ⟨x2,x3,rfl,rfl⟩
   obtain⟨a,s,rfl,hsi,hGa⟩:=Gj hO hd;have hap:a≠p:=fun z=>by subst z;rw[hp]at hGa;cases hGa
   have Tk:∀ u,gset G p u a=some (bf Z1 Z2 Z3 Z4 Z5 R7 R8 s):=fun u=>by rw[al hap];exact hGa
   have swd:s.wd<=1000:=hS.2 s (Na hsi);have bl:(dI (o.take i)).length<=65000:=by
    have h1:=fU ((o.take i).flatMap eN) [];have h2:=jY hS eN (fun s hs=>DS hs) i;rw[NG]at h1;unfold dI;omega
   have bt:=Cy hsi;simp only[gN,NP,Nw];obtain⟨pen,num,time,act⟩:=s;cases act with
   | dress ns w=>
    refine cO true (fun K hK=>mr Z1 Z2 Z3 Z4 Z5 R7 R8 hw (s:=⟨pen,num,time,.dress ns w⟩) (a:=a) (i:=2) true rfl (Tk _) (by simp) hK) ?_
    rw[if_pos rfl];unfold kz fQ;have hl:ns.length<=1000:=swd;refine kJ Z1 Z2 Z3 Z4 Z5 R7 R8 hw (p:=a) (i:=2) (s:=⟨pen,num,time,.dress ns w⟩) rfl (Tk _) (.inr (.inl ⟨w,rfl⟩)) hl ?_;dsimp only[fN];refine HS (f:=D.str) (w:=w) rfl (by decide) (by simp) rfl (by walk_at "o") (fun u l K hK=>Fs Z1 Z2 Z3 Z4 Z5 R7 R8 hw (p:=a) (i:=2) (ns:=ns) (w:=w) rfl (Tk _) hK) fun u=>⟨_,_,rfl,?_⟩
    rw[bt];rfl
   | _=>
    refine cO false (fun K hK=>mr Z1 Z2 Z3 Z4 Z5 R7 R8 hw (s:=⟨pen,num,time,_⟩) (a:=a) (i:=2) false rfl (Tk _) (by simp) hK) ?_
    rw[if_neg Bool.false_ne_true];refine⟨_,_,rfl,?_⟩;rw[bt];rfl
  ·rintro σ G' ⟨x2,x3,rfl,rfl⟩
   rw[MY,hO.1,ND];exact h p hp
 ·exact h.elim
theorem rL(Z1 Z2 Z3 Z4 Z5 R7 R8:MU)(hw:HW):bC (cz Z1 Z2 Z3 Z4 Z5 R7 R8 hw) (f7 Z1 Z2 Z3 Z4 Z5 R7 R8 hw) ["strokes","taken","stroke","name","slot"]:=by
 intro ds G Q h;unfold cz at h;split at h
 ·rename_i xs;obtain⟨ps,o,⟨rfl,hO,hS⟩,h⟩:=h;have hs:=ai;unfold f7;rw[ag];walk_at "s1";intro p hp;rw[ag];show ForIn _ _ _ _ (ps.map D.ref) _
  refine⟨fun i σ G'=>∃ x2 x3 x4,σ=[some (.lst (ps.map D.ref)),some (.ref p),x2,x3,x4]/\G'=gset G p (.dT hw (aW Sl.d (cf (o.take i)))),⟨_,_,_,rfl,rfl⟩,?_,?_⟩
  ·rintro i d σ G' hd ⟨x2,x3,x4,rfl,rfl⟩
   obtain⟨a,s,rfl,hsi,hGa⟩:=Gj hO hd;have hap:a≠p:=fun z=>by subst z;rw[hp]at hGa;cases hGa
   have Tk:∀ u,gset G p u a=some (bf Z1 Z2 Z3 Z4 Z5 R7 R8 s):=fun u=>by rw[al hap];exact hGa
   have swd:s.wd<=1000:=hS.2 s (Na hsi);have bl:(cf (o.take i)).length<=65000:=by
    have h1:=fU ((o.take i).flatMap cy) [];have h2:=jY hS cy (fun s hs=>yU hs) i;rw[NG]at h1;unfold cf;omega
   have bt:=AI hsi;simp only[gN,NP,Nw];obtain⟨pen,num,time,act⟩:=s;cases act with
   | move ns an=>
    refine cO true (fun K hK=>mr Z1 Z2 Z3 Z4 Z5 R7 R8 hw (s:=⟨pen,num,time,.move ns an⟩) (a:=a) (i:=2) true rfl (Tk _) (by simp) hK) ?_
    rw[if_pos rfl];unfold kz Dn ae av;have hl:ns.length<=1000:=swd;have mw:=mJ ⟨pen,num,time,.move ns an⟩;refine kJ Z1 Z2 Z3 Z4 Z5 R7 R8 hw (p:=a) (i:=2) (s:=⟨pen,num,time,.move ns an⟩) rfl (Tk _) (.inr (.inr ⟨an,rfl⟩)) hl ?_;refine kK Z1 Z2 Z3 Z4 Z5 R7 R8 hw (p:=a) (i:=2) (s:=⟨pen,num,time,.move ns an⟩) rfl (Tk _) (by walk_at "o") ?_
    refine⟨_,_,⟨rfl,rfl⟩,?_⟩;rw[on];have bl2:=yU swd;refine HR (f:=Sl.d) (fun _=>rfl) (m:=ns.zip (made ⟨pen,num,time,.move ns an⟩)) (by decide) (by decide) (by decide) (by simp) (by simp) rfl (by show _+(cy ⟨pen,num,time,.move ns an⟩).length < _;omega) fun u v=>⟨_,_,_,rfl,?_⟩
    rw[bt];rfl
   | _=>
    refine cO false (fun K hK=>mr Z1 Z2 Z3 Z4 Z5 R7 R8 hw (s:=⟨pen,num,time,_⟩) (a:=a) (i:=2) false rfl (Tk _) (by simp) hK) ?_
    rw[if_neg Bool.false_ne_true];refine⟨_,_,_,rfl,?_⟩;rw[bt];rfl
  ·rintro σ G' ⟨x2,x3,x4,rfl,rfl⟩
   rw[MY,hO.1,ND];exact h p hp
 ·exact h.elim
theorem sM{xs ys:List Sk}(h:xs.map Sk.rw=ys.map Sk.rw):xs=ys:=List.map_inj_right (f:=Sk.rw) (fun x y=>Sk.rw_inj) |>.mp h
def Ix:D->Sl
 | .tup [.str q,.int n,.int k]=>⟨q,n,k⟩
 | _=>default
theorem Ea(x:Sl):Ix x.d=x:=rfl
theorem CJ(row:List Sl)(sit:List (Sl×Sl)):((row.map Sl.d).filter fun d=>(cQ sit (Ix d)).isSome).map (fun d=>.tup [d,((cQ sit (Ix d)).getD default).d])=(row.filterMap fun s=>(cQ sit s).map fun n=>(s,n)).map fun p=>D.tup [p.1.d,p.2.d]:=by
 induction row with
 | nil=>rfl
 | cons s r ih=>
  rw[Nk,Pk,Ea];cases e:cQ sit s with
  | none=>
   rw[List.filterMap_cons_none (by rw[e];rfl)]
   simpa using ih
  | some n=>
   rw[List.filterMap_cons_some (b:=(s,n)) (by rw[e];rfl)]
   simp only[Option.isSome_some,if_true,Nk,ih,Ea,e,Option.getD_some]
theorem AV(Z1 Z2 Z3 Z4 Z5 R7 R8:MU)(hw:HW):bC (d5 Z1 Z2 Z3 Z4 Z5 R7 R8 hw) (mE Z1 Z2 Z3 Z4 Z5 R7 R8 hw) ["old","strokes","standing","row","working","brought","struck","taken","worn","sitting","name","seats"]:=by
 intro ds G Q h;unfold d5 at h;split at h
 ·rename_i x q0 ns;obtain⟨sks,base,names,⟨hq0,hx,one,l1,l2,sub,ok,rfl,l3⟩,h⟩:=h;have hs:=ai;have okk:∀ s∈sks,s.ok:=fun s hs'=>⟨(ok s hs').1,le_trans (mJ s) (ok s hs').2⟩;unfold mE;rw[ag];walk_at "s1";refine⟨sks,base,⟨by first|rfl|exact hq0,one,l1,l2,sub,okk⟩,fun out G1 hE1 st1 Vf=>?_⟩
  have lo:out.length < 64:=by
   have:=h_ (fY st1) (ys:=base.map Sk.rw) fun r hr=>by
    obtain⟨s,hs',rfl⟩:=mem_map.mp hr;exact mem_map.mpr ⟨s,sub s ((Vf s).mp hs'),rfl⟩
   rw[MY,MY]at this;omega
  have VC:(aE x.length out).length<=900000:=by
   have wl:=oK x.length out (bB [ar] ar (c9 x.length)) fun s hs'=>(okk s ((Vf s).mp hs')).2;have e1:out.foldl cJ (bB [ar] ar (c9 x.length))=ar::aE x.length out:=iE x.length out;have ol:(c9 x.length).length=x.length:=bz _ _ _;rw[e1,cM,Ni,Ni,ol]at wl;omega
  rw[ag];have h':=fun G' hE=>h out G' hE st1 Vf;clear h;unfold fF at h';generalize aE x.length out=row at VC h' ⊢;walk_at "s1";refine .inl ⟨row,⟨rfl,VC⟩,fun pm hpm=>?_⟩;refine⟨sks,base,names,row,⟨by first|exact (iC.refl.gset hpm) q0 _ (hE1 q0 _ hq0)|rfl,one,l1,l2,sub,fun s hs'=>(ok s hs').2,rfl,l3,rfl⟩,fun VA ps G2 hE2 st2 VB hO2=>?_⟩
  have eo:VA=out:=sM (jr st2 st1 fun r=>by
   constructor
   ·intro hr;obtain⟨s,hs',rfl⟩:=mem_map.mp hr;exact mem_map.mpr ⟨s,(Vf s).mpr ((VB s).mp hs'),rfl⟩
   ·intro hr;obtain⟨s,hs',rfl⟩:=mem_map.mp hr;exact mem_map.mpr ⟨s,(VB s).mpr ((Vf s).mp hs'),rfl⟩)
  subst eo;have hE3:iC G G2:=hE1.trans ((iC.refl.gset hpm).trans hE2);have sw:wP (fX VA names row):=⟨le_trans (le_trans (N7 _ _) (N7 _ _)) (by walk_at "o"),fun s hs'=>(ok s ((Vf s).mp (mem_filter.mp (mem_filter.mp hs').1).1)).2⟩
  generalize fX VA names row=w at *
  clear hE2 hpm Vf VB st1 st2 lo;rw[ag];walk_at "s1";refine⟨ps,w,⟨rfl,hO2,sw⟩,fun pb hpb=>?_⟩;have hE4:iC G (gset G2 pb (.dT hw (aW D.str (ay x w)))):=hE3.trans (iC.refl.gset hpb);have hO4:=hO2.ext (G':=gset G2 pb (.dT hw (aW D.str (ay x w)))) (iC.refl.gset hpb);have f1:gset G2 pb (.dT hw (aW D.str (ay x w))) pb=some (.dT hw (aW D.str (ay x w))):=aA;generalize gset G2 pb (.dT hw (aW D.str (ay x w)))=G4 at *
  clear hE3 hO2 hpb;rw[ag];walk_at "s1";refine⟨ps,w,⟨rfl,hO4,sw⟩,fun pk hpk=>?_⟩;have ne1:pb≠pk:=fun z=>by subst z;rw[f1]at hpk;cases hpk
  have hE5:iC G4 (gset G4 pk (.dT hw (aW (fun _=>.bl true) (bd w)))):=iC.refl.gset hpk;have hO5:=hO4.ext hE5;have f2:gset G4 pk (.dT hw (aW (fun _=>.bl true) (bd w))) pk=some (.dT hw (aW (fun _=>.bl true) (bd w))):=aA;have f1':=hE5 _ _ f1;have hE5':=hE4.trans hE5;generalize gset G4 pk (.dT hw (aW (fun _=>.bl true) (bd w)))=G5 at *
  clear hE4 hO4 hpk hE5 f1;rw[ag];walk_at "s1";refine⟨ps,w,⟨rfl,hO5,sw⟩,fun pt hpt=>?_⟩;have ne2:pb≠pt:=fun z=>by subst z;rw[f1']at hpt;cases hpt
  have ne3:pk≠pt:=fun z=>by subst z;rw[f2]at hpt;cases hpt
  have hE6:iC G5 (gset G5 pt (.dT hw (aW Sl.d (cf w)))):=iC.refl.gset hpt;have hO6:=hO5.ext hE6;have f3:gset G5 pt (.dT hw (aW Sl.d (cf w))) pt=some (.dT hw (aW Sl.d (cf w))):=aA;have f1:=hE6 _ _ f1';have f2':=hE6 _ _ f2;have hE6':=hE5'.trans hE6;generalize gset G5 pt (.dT hw (aW Sl.d (cf w)))=G6 at *
  clear hE5' hO5 hpt hE6 f1' f2;rw[ag];walk_at "s1";refine⟨ps,w,⟨rfl,hO6,sw⟩,fun pw hpw=>?_⟩;have ne4:pb≠pw:=fun z=>by subst z;rw[f1]at hpw;cases hpw
  have hE7:iC G6 (gset G6 pw (.dT hw (aW D.str (dI w)))):=iC.refl.gset hpw;have f4:gset G6 pw (.dT hw (aW D.str (dI w))) pw=some (.dT hw (aW D.str (dI w))):=aA;have f1':=hE7 _ _ f1;have f2:=hE7 _ _ f2';have f3':=hE7 _ _ f3;have VR:=hE6'.trans hE7;generalize gset G6 pw (.dT hw (aW D.str (dI w)))=G7 at *
  clear hE6' hO6 hpw hE7 f1 f2' f3;rw[ag];walk_at "s1";intro pq hpq;have n1:pb≠pq:=fun z=>by subst z;rw[f1']at hpq;cases hpq
  have n2:pk≠pq:=fun z=>by subst z;rw[f2]at hpq;cases hpq
  have n3:pt≠pq:=fun z=>by subst z;rw[f3']at hpq;cases hpq
  have n4:pw≠pq:=fun z=>by subst z;rw[f4]at hpq;cases hpq
  rw[ag];have gb:gset G7 pq (.dT hw []) pb=some (.dT hw (aW D.str (ay x w))):=by rw[al n1];exact f1'
  refine⟨hw,_,gb,?_⟩;clear gb;have bl:(ay x w).length<=65000:=by
   have h1:=fU ((c9 x.length).zip (lC x) ++ w.flatMap cF) [];have h2:=uC cF (o:=w) fun s hs'=>qS (sw.2 s hs');have h3:=sw.1;rw[Nj,NG,Pw,BP]at h1;unfold ay;omega
  have keys:(aW D.str (ay x w)).map Fe=(ay x w).map fun p=>p.1.d:=by
   unfold aW;rw[Nr];rfl
  rw[keys];refine⟨fun i σ G'=>∃ x10,σ=[some (.str x),some (.ref q0),some (.lst (names.map Nm.d)),some (.lst (row.map Sl.d)),some (.lst (ps.map D.ref)),some (.ref pb),some (.ref pk),some (.ref pt),some (.ref pw),some (.ref pq),x10,none]/\G'=gset (gO G7 pb) pq (.dT hw (aW Sl.d (bq [] ((((ay x w).take i).filter fun p=>(cQ (bd w) p.1).isNone).map fun p=>((cQ (cf w) p.1).getD p.1,p.1))))),⟨_,rfl,?_⟩,?_,?_⟩
  ·funext b
   by_cases e1:b=pq
   ·rw[e1,fh n1.symm,aA,aA];rfl
   ·rw[al e1]
    by_cases e2:b=pb
    ·rw[e2,fg,fg]
    ·rw[fh e2,fh e2,al e1]
  ·rintro i d σ G' hd ⟨x10,rfl,rfl⟩
   rw[Ng]at hd;cases hq:(ay x w)[i]? with
   | none=>rw[hq]at hd;cases hd
   | some q=>
    rw[hq]at hd;cases hd;have hi:=(List.getElem?_eq_some_iff.mp hq).1;simp only[gN,NP,Nw];generalize hL:(((ay x w).take i).filter fun p=>(cQ (bd w) p.1).isNone).map (fun p=>((cQ (cf w) p.1).getD p.1,p.1))=L;have ll:L.length<=65000:=by
     rw[<- hL,MY];have:=N7 (fun p:Sl×Str=>(cQ (bd w) p.1).isNone) ((ay x w).take i);rw[Nq]at this;omega
    have pl:=fU L [];rw[NG]at pl;have tk:(((ay x w).take (i+1)).filter fun p=>(cQ (bd w) p.1).isNone).map (fun p=>((cQ (cf w) p.1).getD p.1,p.1))=L ++ (if (cQ (bd w) q.1).isNone=true then [((cQ (cf w) q.1).getD q.1,q.1)]else []):=by
     rw[NF,hq,OV,Nv,hL];congr 1
     by_cases e:(cQ (bd w) q.1).isNone=true
     ·rw[if_pos e];simp[e]
     ·rw[if_neg e];simp[e]
    have gk:gset (gO G7 pb) pq (.dT hw (aW Sl.d (bq [] L))) pk=some (.dT hw (aW (fun _=>.bl true) (bd w))):=by rw[al n2,fh (Ne.symm ne1)];exact f2
    have gt:gset (gO G7 pb) pq (.dT hw (aW Sl.d (bq [] L))) pt=some (.dT hw (aW Sl.d (cf w))):=by rw[al n3,fh (Ne.symm ne2)];exact f3'
    refine cO (cQ (bd w) q.1).isNone (fun K hK=>?_) ?_
    ·show ∃ r,da hw _ (.ref pk) q.1.d r/\K (!r.isSome) _;refine⟨_,kL Z1 Z2 Z3 Z4 Z5 R7 R8 hw q.1 gk,?_⟩;rw[Option.isSome_map];cases e:cQ (bd w) q.1<;>(rw[e]at hK;exact hK)
    ·by_cases e:(cQ (bd w) q.1).isNone=true
     ·rw[if_pos e];show kS _ _/\∃ r,da hw _ (.ref pt) q.1.d r/\me hw (.ref pq) (val (r.getD q.1.d)) q.1.d _ _
      refine⟨?_,_,kL Z1 Z2 Z3 Z4 Z5 R7 R8 hw q.1 gt,?_⟩
      ·unfold kS;simp only[val,gt]
      ·have ek:val (((cQ (cf w) q.1).map Sl.d).getD q.1.d)=((cQ (cf w) q.1).getD q.1).d:=by cases cQ (cf w) q.1<;>rfl
       rw[ek];refine wZ (f:=Sl.d) (w:=q.1) aA (by walk_at "o") ⟨_,rfl,?_⟩
       rw[ff,tk,if_pos e,nL]
     ·rw[if_neg e];refine⟨_,rfl,?_⟩;rw[tk,if_neg e,Oj]
  ·rintro σ G' ⟨x10,rfl,rfl⟩
   rw[MY,ND];dsimp only;have es:bq [] (((ay x w).filter fun p=>(cQ (bd w) p.1).isNone).map fun p=>((cQ (cf w) p.1).getD p.1,p.1))=bT x w:=rfl;rw[es];have g9:gset (gset (gO G7 pb) pq (.dT hw (aW Sl.d (bT x w)))) pb (.dT hw (aW D.str (ay x w))) pq=some (.dT hw (aW Sl.d (bT x w))):=by rw[al n1.symm,aA]
   have g5:gset (gset (gO G7 pb) pq (.dT hw (aW Sl.d (bT x w)))) pb (.dT hw (aW D.str (ay x w))) pb=some (.dT hw (aW D.str (ay x w))):=aA;have g8:gset (gset (gO G7 pb) pq (.dT hw (aW Sl.d (bT x w)))) pb (.dT hw (aW D.str (ay x w))) pw=some (.dT hw (aW D.str (dI w))):=by rw[al ne4.symm,al n4,fh ne4.symm];exact f4
   have gE:iC G (gset (gset (gO G7 pb) pq (.dT hw (aW Sl.d (bT x w)))) pb (.dT hw (aW D.str (ay x w)))):=fun a o ha=>by
    have h7:=VR a o ha
    by_cases e1:a=pb
    ·rw[e1]at h7 ⊢;rw[g5,<- h7,f1']
    ·rw[al e1];have e2:a≠pq:=fun z=>by rw[z,hpq]at h7;cases h7
     rw[al e2,fh e1];exact h7
   generalize gset (gset (gO G7 pb) pq (.dT hw (aW Sl.d (bT x w)))) pb (.dT hw (aW D.str (ay x w)))=G9 at *
   clear f1' f2 f3' f4 VR hpq n1 n2 n3 n4 ne1 ne2 ne3 ne4 bl keys es;rw[ag];unfold bZ fk fQ;simp only[ab,NS,NT,fN];refine Ap (fun d=>(cQ (bT x w) (Ix d)).isSome) (fun d=>.tup [d,((cQ (bT x w) (Ix d)).getD default).d]) (by rw[MY];omega) (fun d hd P R hP hR=>?_) ?_
   ·obtain⟨s,hs',rfl⟩:=mem_map.mp hd;rw[Ea]at hP hR;refine⟨⟨by simp,rfl⟩,?_⟩
    show ∃ r,da hw G9 (.ref pq) s.d r/\(if r.isSome=true then _ else R G9)
    refine⟨_,kL Z1 Z2 Z3 Z4 Z5 R7 R8 hw s g9,?_⟩;rw[Option.isSome_map];cases e:cQ (bT x w) s with
    | none=>
     rw[e]at hR;simp only[Option.isSome_none,Bool.false_eq_true,if_false];exact hR rfl
    | some n=>
     rw[e]at hP;simp only[Option.isSome_some,if_true];have lk:=kL Z1 Z2 Z3 Z4 Z5 R7 R8 hw s g9;rw[e]at lk;show ∃ d,da hw G9 (.ref pq) s.d (some d)/\_
     exact⟨n.d,lk,by show 2<=M4;omega,hP rfl _ rfl⟩
   ·rw[CJ];have eI:(row.filterMap fun s=>(cQ (bT x w) s).map fun n=>(s,n))=jZ x w row:=rfl;rw[eI];dsimp only[val];have lI:(jZ x w row).length<=900000:=le_trans (List.length_filterMap_le _ _) VC;have mem:∀ p∈jZ x w row,∃ z,cQ (ay x w) p.2=some z:=fun p hp=>by
     unfold jZ at hp;obtain⟨s,_,e⟩:=mem_filterMap.mp hp;cases e2:cQ (bT x w) s with
     | none=>rw[e2]at e;cases e
     | some n=>
      rw[e2]at e;cases e;have m1:=jq e2;unfold bT at m1;rcases gK m1 with m2|m2
      ·simp at m2
      ·obtain⟨q,hq,e3⟩:=mem_map.mp m2;have hq':=(mem_filter.mp hq).1;obtain⟨z,hz⟩:=pL hq';injection e3 with e4 e5
       exact⟨z,by show cQ (ay x w) n=some z;rw[<- e5];exact hz⟩
    unfold bU;simp only[NS,NT,Nw,NP,fN];refine dZ (fun d=>match d with|.tup [a,b]=>.tup [a,b,.str ((cQ (ay x w) (Ix b)).getD (MZ "")),.str ((cQ (dI w) (Ix b)).getD (MZ ""))]|d=>d) (by rw[MY];omega) (fun d hd P hP=>?_) ?_
    ·obtain⟨p,hp,rfl⟩:=mem_map.mp hd;obtain⟨z,hz⟩:=mem p hp;refine⟨rfl,⟨by simp,rfl⟩,?_⟩
     have lk:=kL Z1 Z2 Z3 Z4 Z5 R7 R8 hw p.2 g5;rw[hz]at lk;show ∃ d,da hw G9 (.ref pb) p.2.d (some d)/\kS G9 _/\∃ r,da hw G9 (.ref pw) p.2.d r/\_
     refine⟨.str z,lk,?_,_,kL Z1 Z2 Z3 Z4 Z5 R7 R8 hw p.2 g8,by show 4<=M4;omega,hP _ ?_⟩
     ·unfold kS;simp only[val,g8]
     ·show D.tup [p.1.d,p.2.d,.str z,val (((cQ (dI w) p.2).map D.str).getD (.str (MZ "")))]=D.tup [p.1.d,p.2.d,.str ((cQ (ay x w) p.2).getD (MZ "")),.str ((cQ (dI w) p.2).getD (MZ ""))];rw[hz];cases cQ (dI w) p.2<;>rfl
    ·have:=h' G9 gE;rw[Nr]at this;rw[Nr];exact this
 ·exact h.elim
theorem D5{t u:pP}{σ:gv}{G:Gp}(b1 b2:Bool)(h1:∀ K:Bool->Gp->Prop,K b1 G->t σ G K)(h2:b1=false->∀ K:Bool->Gp->Prop,K b2 G->u σ G K):∀ K:Bool->Gp->Prop,K (b1 || b2) G->CF t u σ G K:=fun K hK=>by
 unfold CF;refine h1 _ ?_;cases b1 with
 | true=>rw[if_pos rfl];exact hK
 | false=>rw[if_neg (by decide)];exact h2 rfl K hK
theorem IB{x:Str}{out:List Sk}(om:∀ s∈out,s.act.many<=1000):(aE x.length out).length<=x.length+1000*out.length:=by
 have wl:=oK x.length out (bB [ar] ar (c9 x.length)) om;have e1:out.foldl cJ (bB [ar] ar (c9 x.length))=ar::aE x.length out:=iE x.length out;have ol:(c9 x.length).length=x.length:=bz _ _ _;rw[e1,cM,Ni,Ni,ol]at wl;omega
theorem y8{x:Str}{out:List Sk}{names:List Nm}(om:∀ s∈out,s.act.many<=1000):(fF x out names).length<=x.length+1000*out.length:=by
 unfold fF jZ;rw[MY];exact le_trans (List.length_filterMap_le _ _) (IB om)
def HD:D->D
 | .tup (_::t)=>.tup t
 | d=>d
theorem CD(seats:List Seat):(seats.map Seat.d).map HD=seats.map Seat.d3:=by rw[Nr];rfl
theorem ze(Z1 Z2 Z3 Z4 Z5 R7 R8:MU)(hw:HW):bC (dF Z1 Z2 Z3 Z4 Z5 R7 R8 hw) (kC Z1 Z2 Z3 Z4 Z5 R7 R8 hw) ["old","strokes","standing"]:=by
 intro ds G Q h;unfold dF at h;split at h
 ·rename_i x q0 ns;obtain⟨sks,base,names,hc,h⟩:=h;have hs:=ai;unfold kC;simp only[bU,fk,fQ,aT,ae,av,ab,js,Nk,Pf,OO,OC,List.replicate,NS,NT,Ni,NG,Nat.reduceAdd,Nat.reduceSub,val,Oj];refine⟨sks,base,names,hc,fun out G1 hE st mem=>?_⟩;obtain⟨_,hx,_,_,l2,sub,ok,_,_⟩:=hc;have lo:out.length < 64:=by
   have:=h_ (fY st) (ys:=base.map Sk.rw) fun r hr=>by
    obtain⟨s,hs',rfl⟩:=mem_map.mp hr;exact mem_map.mpr ⟨s,sub s ((mem s).mp hs'),rfl⟩
   rw[MY,MY]at this;omega
  have ls:=y8 (x:=x) (names:=names) fun s (hs':s∈out)=>le_trans (mJ s) (ok s ((mem s).mp hs')).2;refine dZ HD (by rw[MY];omega) (fun d hd P hP=>?_) ?_
  ·obtain⟨s,_,rfl⟩:=mem_map.mp hd;have ed:s.d=.tup [s.slot.d,s.name.d,.str s.sign,.str s.word]:=rfl;rw[ed]at hP ⊢;refine⟨⟨by simp[Nw,List.replicate],rfl⟩,?_⟩
   show _/\_
   refine⟨by unfold HT.sIx;simp,?_⟩
   exact hP _ rfl
  ·rw[CD];exact h out G1 hE st mem
 ·exact h.elim
theorem zg(Z1 Z2 Z3 Z4 Z5 R7 R8:MU)(hw:HW):bC (dG Z1 Z2 Z3 Z4 Z5 R7 R8 hw) (kF Z1 Z2 Z3 Z4 Z5 R7 R8 hw) ["self"]:=by
 intro ds G Q h;unfold dG at h;split at h
 ·rename_i p;obtain⟨⟨pen,num,time,act⟩,a,x,⟨rfl,hG⟩,h⟩:=h;have hs:=ai;have hc:Z2∈[Z1,Z2,Z3,Z4,Z5]:=by simp
  unfold bf Sl.d at hG;dsimp only at hG;unfold kF;walk_at "st";exact⟨by walk_at "o",by walk_at "o",h⟩
 ·exact h.elim
theorem tf(Z1 Z2 Z3 Z4 Z5 R7 R8:MU)(hw:HW):bC (bR Z1 Z2 Z3 Z4 Z5 R7 R8 hw) (gW Z1 Z2 Z3 Z4 Z5 R7 R8 hw) ["self"]:=by
 intro ds G Q h;unfold bR at h;split at h
 ·rename_i p;obtain⟨⟨pen,num,time,act⟩,ns,⟨rfl,hG⟩,h⟩:=h;have hs:=ai;have hc:Z3∈[Z1,Z2,Z3,Z4,Z5]:=by simp
  unfold bf at hG;dsimp only at hG;unfold gW;walk_at "st";exact⟨by walk_at "o",by walk_at "o",h⟩
 ·exact h.elim
theorem vh(Z1 Z2 Z3 Z4 Z5 R7 R8:MU)(hw:HW):bC (cw Z1 Z2 Z3 Z4 Z5 R7 R8 hw) (iQ Z1 Z2 Z3 Z4 Z5 R7 R8 hw) ["self"]:=by
 intro ds G Q h;unfold cw at h;split at h
 ·rename_i p;obtain⟨⟨pen,num,time,act⟩,ns,w,⟨rfl,hG⟩,h⟩:=h;have hs:=ai;have hc:Z4∈[Z1,Z2,Z3,Z4,Z5]:=by simp
  unfold bf at hG;dsimp only at hG;unfold iQ;walk_at "st";exact⟨by walk_at "o",by walk_at "o",h⟩
 ·exact h.elim
theorem xm(Z1 Z2 Z3 Z4 Z5 R7 R8:MU)(hw:HW):bC (cX Z1 Z2 Z3 Z4 Z5 R7 R8 hw) (jn Z1 Z2 Z3 Z4 Z5 R7 R8 hw) ["self"]:=by
 intro ds G Q h;unfold cX at h;split at h
 ·rename_i p;obtain⟨⟨pen,num,time,act⟩,ns,a,⟨rfl,hG⟩,h⟩:=h;have hs:=ai;have hc:Z5∈[Z1,Z2,Z3,Z4,Z5]:=by simp
  unfold bf at hG;dsimp only at hG;have ea:a.d=.tup [.str a.pen,.int a.n,.int a.k]:=rfl;rw[ea]at hG;unfold jn;walk_at "st";exact⟨by walk_at "o",by walk_at "o",h⟩
 ·exact h.elim
theorem yq(Z1 Z2 Z3 Z4 Z5 R7 R8:MU)(hw:HW){σ:gv}{G:Gp}{p:MU}{i j:Nat}{vs:List D}{v:D}{Q:oa}(hσ:σ[i]?=some (some (.ref p)))(hG:G p=some (.ins R7 au vs))(hv:vs[j]?=some v)(h:Q v G):dX R7 au j (ab i) σ G Q:=by
 unfold dX ab;rw[hσ];dsimp only;rw[hG];dsimp only
 first
 | (rw[hv];exact⟨⟨rfl,rfl⟩,h⟩)
 | (refine⟨⟨rfl,rfl⟩,?_⟩;rw[hv];exact h)
 | exact⟨⟨rfl,rfl⟩,v,hv,h⟩
theorem BQ{hw0:List aM->Int}{to ti te:bJ}{E:Ends3}{σ:gv}{G:Gp}{o i v:D}(hv:∀ Q:oa,Q v G->te σ G Q)(ho:∀ Q:oa,Q o G->to σ G Q)(hi:∀ Q:oa,Q i G->ti σ G Q)(h:me hw0 (val o) (val i) (val v) G fun G4=>E.nx σ G4):fB hw0 to ti te E σ G:=hv _ (ho _ (hi _ h))
theorem pF(Z1 Z2 Z3 Z4 Z5 R7 R8:MU)(hw:HW){σ:gv}{G:Gp}{p:MU}{s:Sk}{i:Nat}{Q:oa}(hσ:σ[i]?=some (some (.ref p)))(hG:G p=some (bf Z1 Z2 Z3 Z4 Z5 R7 R8 s))(h:Q (.tup [.str s.pen,.int s.num]) G):bM [Z1,Z2,Z3,Z4,Z5] "name" (ab i) σ G Q:=by
 obtain⟨pen,num,time,act⟩:=s;unfold bM ab;rw[hσ];cases act<;>(simp only[bf]at hG;simp only[hG];refine⟨by simp,?_⟩;first|exact h)
theorem Ft(Z1 Z2 Z3 Z4 Z5 R7 R8:MU)(hw:HW){σ:gv}{G:Gp}{p:MU}{s:Sk}{i:Nat}{Q:oa}(hσ:σ[i]?=some (some (.ref p)))(hG:G p=some (bf Z1 Z2 Z3 Z4 Z5 R7 R8 s))(h:Q (.int s.time) G):bM [Z1,Z2,Z3,Z4,Z5] "time" (ab i) σ G Q:=by
 obtain⟨pen,num,time,act⟩:=s;unfold bM ab;rw[hσ];cases act<;>(simp only[bf]at hG;simp only[hG];refine⟨by simp,?_⟩;first|exact h)
theorem E5(Z1 Z2 Z3 Z4 Z5 R7 R8:MU)(hw:HW){σ:gv}{G:Gp}{p:MU}{s:Sk}{i:Nat}{Q:oa}(hσ:σ[i]?=some (some (.ref p)))(hG:G p=some (bf Z1 Z2 Z3 Z4 Z5 R7 R8 s))(h:Q s.d G):
  fy [(Z2,dG Z1 Z2 Z3 Z4 Z5 R7 R8 hw),(Z3,bR Z1 Z2 Z3 Z4 Z5 R7 R8 hw),(Z4,cw Z1 Z2 Z3 Z4 Z5 R7 R8 hw),(Z5,cX Z1 Z2 Z3 Z4 Z5 R7 R8 hw)] "row" [] (ab i) av σ G Q:=by
 obtain⟨pen,num,time,act⟩:=s;unfold fy ab;rw[hσ];cases act with
 | put a x=>
  have hG':=hG;simp only[bf]at hG;simp only[hG];exact⟨by decide +kernel,dG Z1 Z2 Z3 Z4 Z5 R7 R8 hw,by simp,⟨_,a,x,⟨rfl,hG'⟩,h⟩⟩
 | strike ns=>
  have hG':=hG;simp only[bf]at hG;simp only[hG];exact⟨by decide +kernel,bR Z1 Z2 Z3 Z4 Z5 R7 R8 hw,by simp,⟨_,ns,⟨rfl,hG'⟩,h⟩⟩
 | dress ns w=>
  have hG':=hG;simp only[bf]at hG;simp only[hG];exact⟨by decide +kernel,cw Z1 Z2 Z3 Z4 Z5 R7 R8 hw,by simp,⟨_,ns,w,⟨rfl,hG'⟩,h⟩⟩
 | move ns a=>
  have hG':=hG;simp only[bf]at hG;simp only[hG];exact⟨by decide +kernel,cX Z1 Z2 Z3 Z4 Z5 R7 R8 hw,by simp,⟨_,ns,a,⟨rfl,hG'⟩,h⟩⟩
theorem va(Z1 Z2 Z3 Z4 Z5 R7 R8:MU)(hw:HW):bC (bp Z1 Z2 Z3 Z4 Z5 R7 R8 hw) (iL Z1 Z2 Z3 Z4 Z5 R7 R8 hw) ["at","length"]:=by
 intro ds G Q h;unfold bp at h;split at h
 ·obtain⟨⟨h1,h2⟩,h⟩:=h;unfold iL;walk_at "st";rw[decide_eq_true True.intro];exact True.intro
 ·exact h.elim
theorem oO(Z1 Z2 Z3 Z4 Z5 R7 R8:MU)(hw:HW):bC (aI Z1 Z2 Z3 Z4 Z5 R7 R8 hw) (e8 Z1 Z2 Z3 Z4 Z5 R7 R8 hw) ["at","to","length"]:=by
 intro ds G Q h;unfold aI at h;split at h
 ·obtain⟨⟨h1,h2,h3,h4⟩,h⟩:=h;unfold e8;walk_at "st";rw[decide_eq_true True.intro];exact True.intro
 ·exact h.elim
theorem oQ(Z1 Z2 Z3 Z4 Z5 R7 R8:MU)(hw:HW):bC (bj Z1 Z2 Z3 Z4 Z5 R7 R8 hw) (e_ Z1 Z2 Z3 Z4 Z5 R7 R8 hw) ["self"]:=by
 intro ds G Q h;unfold bj at h;split at h
 ·rename_i p;obtain⟨P,d,s,g,⟨⟨g1,g2,g3,g4⟩,ok⟩,h⟩:=h;have hs:=ai;have l1:=ok.ls;unfold e_;walk_at "st";refine⟨by rw[MY];omega,fun i acc G'=>acc=(((P.sks.take i).filter fun s=>!gB P s.nm).map Sk.nm).map Nm.d/\G'=G,⟨rfl,rfl⟩,fun i acc G' hp=>by rw[hp.2];exact g2,?_,?_⟩
  ·rintro i dd acc G' hd ⟨rfl,rfl⟩
   rw[Ng]at hd;cases hq:P.sks[i]? with
   | none=>rw[hq]at hd;cases hd
   | some k=>
    rw[hq]at hd;cases hd;obtain⟨w,hw0⟩:=ok.kn k (Na hq);have tk:((P.sks.take (i+1)).filter fun s=>!gB P s.nm)=((P.sks.take i).filter fun s=>!gB P s.nm) ++ if (!gB P k.nm)=true then [k]else []:=by
     rw[NF,hq,OV];congr 1
     by_cases z:(!gB P k.nm)=true
     ·rw[if_pos z];exact List.filter_cons_of_pos z
     ·rw[if_neg z];exact N8 z
    have wk:gB P k.nm=fE (.str w) (.str (MZ "wiped")):=by unfold gB;rw[hw0];rfl
    have ed:k.d=.tup [.tup [.str k.pen,.int k.num],.int k.time,k.act.d]:=rfl;rw[ed];refine⟨⟨by simp[Nw,List.replicate],rfl⟩,?_⟩
    have hk:c7 P.st [.inr k.pen,.inl k.num]=some (.str w):=hw0;clear ok;have tk':(((P.sks.take (i+1)).filter fun s=>!gB P s.nm).map Sk.nm).map Nm.d=(((P.sks.take i).filter fun s=>!gB P s.nm).map Sk.nm).map Nm.d ++ if (!gB P k.nm)=true then [.tup [.str k.pen,.int k.num]]else []:=by
     rw[tk,Nv,Nv];congr 1;split<;>rfl
    clear tk;generalize (((P.sks.take i).filter fun s=>!gB P s.nm).map Sk.nm).map Nm.d=A0 at *
    rw[wk]at tk';walk_at "st"
    by_cases z:(!fE (.str w) (.str (MZ "wiped")))=true
    ·rw[if_pos z,if_pos z]
    ·rw[if_neg z,if_neg z,Oj]
  ·rintro acc G' ⟨rfl,rfl⟩
   rw[MY,ND];exact h
 ·exact h.elim
theorem oR(Z1 Z2 Z3 Z4 Z5 R7 R8:MU)(hw:HW):bC (bL Z1 Z2 Z3 Z4 Z5 R7 R8 hw) (fb Z1 Z2 Z3 Z4 Z5 R7 R8 hw) ["self"]:=by
 intro ds G Q h;unfold bL at h;split at h
 ·rename_i p;obtain⟨P,d,s,g,⟨⟨g1,g2,g3,g4⟩,ok⟩,h⟩:=h;have hs:=ai;unfold fb;walk_at "st"
 ·exact h.elim
theorem kX(Z1 Z2 Z3 Z4 Z5 R7 R8:MU)(hw:HW):bC (aH Z1 Z2 Z3 Z4 Z5 R7 R8 hw) (dq Z1 Z2 Z3 Z4 Z5 R7 R8 hw) ["self","pen"]:=by
 intro ds G Q h;unfold aH at h;split at h
 ·rename_i p pen;obtain⟨P,d,s,g,⟨⟨g1,g2,g3,g4⟩,gi⟩,h⟩:=h;have hs:=ai;unfold dq;unfold Pp.num at h;cases e:c7 P.gr (.inr pen) with
  | none=>
   rw[e]at h;walk_at "st";exact⟨by walk_at "o",h⟩
  | some v=>
   obtain⟨m,rfl,_⟩:=gi _ _ e;rw[e]at h;walk_at "st";exact⟨by walk_at "o",h⟩
 ·exact h.elim
theorem kW(Z1 Z2 Z3 Z4 Z5 R7 R8:MU)(hw:HW):bC (aG Z1 Z2 Z3 Z4 Z5 R7 R8 hw) (dm Z1 Z2 Z3 Z4 Z5 R7 R8 hw) ["self"]:=by
 intro ds G Q h;unfold aG at h;split at h
 ·rename_i p;obtain⟨P,d,s,g,⟨g1,g2,g3,g4⟩,h⟩:=h;unfold dm;walk_at "st"
 ·exact h.elim
theorem kZ(Z1 Z2 Z3 Z4 Z5 R7 R8:MU)(hw:HW):bC (bb Z1 Z2 Z3 Z4 Z5 R7 R8 hw) (dw Z1 Z2 Z3 Z4 Z5 R7 R8 hw) ["self","name"]:=by
 intro ds G Q h;unfold bb at h;split at h
 ·rename_i p a b;obtain⟨P,d,s,g,w,⟨⟨g1,g2,g3,g4⟩,hk⟩,h⟩:=h;unfold dw;walk_at "st";exact iteF True.intro
 ·exact h.elim
theorem rO(Z1 Z2 Z3 Z4 Z5 R7 R8:MU)(hw:HW):bC (cC Z1 Z2 Z3 Z4 Z5 R7 R8 hw) (gc Z1 Z2 Z3 Z4 Z5 R7 R8 hw) ["self","name"]:=by
 intro ds G Q h;unfold cC at h;split at h
 ·rename_i p a b;obtain⟨P,d,s,g,w,⟨⟨g1,g2,g3,g4⟩,hk⟩,h⟩:=h;unfold gc;rw[ag];walk_at "s1";exact⟨P,d,s,g,w,⟨g1,g2,g3,g4⟩,hk⟩
 ·exact h.elim
theorem kY(Z1 Z2 Z3 Z4 Z5 R7 R8:MU)(hw:HW):bC (ba Z1 Z2 Z3 Z4 Z5 R7 R8 hw) (du Z1 Z2 Z3 Z4 Z5 R7 R8 hw) ["self","name"]:=by
 intro ds G Q h;unfold ba at h;split at h
 ·rename_i p a b;obtain⟨P,d,s,g,⟨⟨g1,g2,g3,g4⟩,hk⟩,h⟩:=h;unfold du;walk_at "st";refine⟨P,d,s,g,_,⟨⟨g1,g2,g3,g4⟩,hk⟩,?_⟩;rw[bX];exact iteF True.intro
 ·exact h.elim
theorem tu(Z1 Z2 Z3 Z4 Z5 R7 R8:MU)(hw:HW):bC (cU Z1 Z2 Z3 Z4 Z5 R7 R8 hw) (gZ Z1 Z2 Z3 Z4 Z5 R7 R8 hw) ["self"]:=by
 intro ds G Q h;unfold cU at h;split at h
 ·rename_i p;obtain⟨P,d,s,g,⟨⟨g1,g2,g3,g4⟩,ok⟩,h⟩:=h;have hs:=ai;have o1:=ok.lo;have o2:=ok.ls;have un:P.unw.length<=P.sks.length:=by
   unfold Pp.unw;rw[MY];exact N7 _ _
  have sk:∀ k∈P.sks,1<=k.num/\k.wd<=1000:=fun k hk=>⟨(ok.sk k hk).1,le_trans (ok.sk k hk).2.1 (by decide)⟩
  unfold gZ;walk_at "st";refine⟨P,d,s,g,⟨⟨g1,g2,g3,g4⟩,ok⟩,P.sks,P.sks,P.unw,⟨rfl,by walk_at "o",qT ok.ap,by walk_at "o",by walk_at "o",fun k hk=>hk,sk,rfl,by walk_at "o"⟩,fun out G' hE so mo=>h out G' hE ⟨so,mo⟩⟩
 ·exact h.elim
theorem rP(Z1 Z2 Z3 Z4 Z5 R7 R8:MU)(hw:HW):bC (aS Z1 Z2 Z3 Z4 Z5 R7 R8 hw) (gd Z1 Z2 Z3 Z4 Z5 R7 R8 hw) ["self"]:=by
 intro ds G Q h;unfold aS at h;split at h
 ·rename_i p;obtain⟨P,d,s,g,⟨⟨g1,g2,g3,g4⟩,ok⟩,h⟩:=h;have hs:=ai;have o1:=ok.lo;have o2:=ok.ls;have un:P.unw.length<=P.sks.length:=by
   unfold Pp.unw;rw[MY];exact N7 _ _
  have sk:∀ k∈P.sks,1<=k.num/\k.wd<=1000:=fun k hk=>⟨(ok.sk k hk).1,le_trans (ok.sk k hk).2.1 (by decide)⟩
  unfold gd;walk_at "st";refine⟨P,d,s,g,⟨⟨g1,g2,g3,g4⟩,ok⟩,P.sks,P.sks,P.unw,⟨rfl,by walk_at "o",qT ok.ap,by walk_at "o",by walk_at "o",fun k hk=>hk,sk,rfl,by walk_at "o"⟩,fun out G' hE so mo=>h out G' hE ⟨so,mo⟩⟩
 ·exact h.elim
theorem tD(Z1 Z2 Z3 Z4 Z5 R7 R8:MU)(hw:HW):bC (aZ Z1 Z2 Z3 Z4 Z5 R7 R8 hw) (hJ Z1 Z2 Z3 Z4 Z5 R7 R8 hw) ["self","stroke"]:=by
 intro ds G Q h;unfold aZ at h;split at h
 ·rename_i p a;obtain⟨P,d,s,g,k,⟨⟨g1,g2,g3,g4⟩,ga,l1,l2,l3⟩,h⟩:=h;have hs:=ai;have npd:p≠d:=fun z=>by rw[z,g2]at g1;cases g1
  have nps:p≠s:=fun z=>by rw[z,g3]at g1;cases g1
  have npg:p≠g:=fun z=>by rw[z,g4]at g1;cases g1
  have nds:d≠s:=fun z=>by rw[z,g3]at g2;cases g2
  have ndg:d≠g:=fun z=>by rw[z,g4]at g2;cases g2
  have nsg:s≠g:=fun z=>by rw[z,g4]at g3;cases g3
  obtain⟨C,L,fs,eo⟩:=qw Z1 Z2 Z3 Z4 Z5 R7 R8 k;have gx:G a=some (.ins C L fs):=ga.trans (by rw[eo])
  have nad:a≠d:=fun z=>by rw[z,g2]at gx;cases gx
  have nas:a≠s:=fun z=>by rw[z,g3]at gx;cases gx
  have nag:a≠g:=fun z=>by rw[z,g4]at gx;cases gx
  unfold hJ;rw[ag];unfold bQ kN;refine yq Z1 Z2 Z3 Z4 Z5 R7 R8 hw (i:=0) rfl g1 rfl ?_;refine⟨⟨_,g2⟩,?_⟩;unfold ae;refine E5 Z1 Z2 Z3 Z4 Z5 R7 R8 hw (i:=1) rfl ga ?_;unfold av;dsimp only;rw[g2];dsimp only;refine⟨by rw[MY];omega,?_⟩
  have e1:(P.sks.map Sk.d) ++ [val k.d]=(P.sks ++ [k]).map Sk.d:=by rw[Nv];rfl
  rw[e1];clear e1;have h1:gset G d (.lst ((P.sks ++ [k]).map Sk.d)) p=_:=(al npd).trans g1;have h2:gset G d (.lst ((P.sks ++ [k]).map Sk.d)) d=_:=aA;have h3:gset G d (.lst ((P.sks ++ [k]).map Sk.d)) s=_:=(al nds.symm).trans g3;have h4:gset G d (.lst ((P.sks ++ [k]).map Sk.d)) g=_:=(al ndg.symm).trans g4;have ha:gset G d (.lst ((P.sks ++ [k]).map Sk.d)) a=_:=(al nad).trans ga;have ho:BC [p,d,s,g] G (gset G d (.lst ((P.sks ++ [k]).map Sk.d))):=fun x o hx hG=>(al fun z=>hx (by rw[z];simp)).trans hG
  generalize gset G d (.lst ((P.sks ++ [k]).map Sk.d))=G1 at *
  clear g1 g2 g3 g4 ga gx;rw[ag];refine BQ (v:=.str (MZ "waits")) (o:=.ref s) (i:=.tup [.str k.pen,.int k.num]) (fun Q h=>h) (fun Q h=>yq Z1 Z2 Z3 Z4 Z5 R7 R8 hw (i:=0) rfl h1 rfl h) (fun Q h=>pF Z1 Z2 Z3 Z4 Z5 R7 R8 hw (i:=1) rfl ha h) ?_;unfold me;dsimp only[val];rw[h3];refine⟨rfl,k.nm.key,rfl,by walk_at "o",?_⟩
  have i1:gset G1 s (.dT hw (bH P.st k.nm.key (.str (MZ "waits")))) p=_:=(al nps).trans h1;have i2:gset G1 s (.dT hw (bH P.st k.nm.key (.str (MZ "waits")))) d=_:=(al nds).trans h2;have i3:gset G1 s (.dT hw (bH P.st k.nm.key (.str (MZ "waits")))) s=_:=aA;have i4:gset G1 s (.dT hw (bH P.st k.nm.key (.str (MZ "waits")))) g=_:=(al nsg.symm).trans h4;have ia:gset G1 s (.dT hw (bH P.st k.nm.key (.str (MZ "waits")))) a=_:=(al nas).trans ha;have io:BC [p,d,s,g] G (gset G1 s (.dT hw (bH P.st k.nm.key (.str (MZ "waits"))))):=fun x o hx hG=>(al fun z=>hx (by rw[z];simp)).trans (ho x o hx hG)
  generalize gset G1 s (.dT hw (bH P.st k.nm.key (.str (MZ "waits"))))=G2 at *
  clear h1 h2 h3 h4 ha ho;rw[ag];refine BQ (v:=.int k.num) (o:=.ref g) (i:=.str k.pen) (fun Q h=>by unfold bY;exact pF Z1 Z2 Z3 Z4 Z5 R7 R8 hw (i:=1) rfl ia h) (fun Q h=>yq Z1 Z2 Z3 Z4 Z5 R7 R8 hw (i:=0) rfl i1 rfl h) (fun Q h=>by unfold bY;exact pF Z1 Z2 Z3 Z4 Z5 R7 R8 hw (i:=1) rfl ia h) ?_
  unfold me;dsimp only[val];rw[i4];refine⟨.inr k.pen,rfl,by walk_at "o",?_⟩
  have j1:gset G2 g (.dK (bH P.gr (.inr k.pen) (.int k.num))) p=_:=(al npg).trans i1;have j2:gset G2 g (.dK (bH P.gr (.inr k.pen) (.int k.num))) d=_:=(al ndg).trans i2;have j3:gset G2 g (.dK (bH P.gr (.inr k.pen) (.int k.num))) s=_:=(al nsg).trans i3;have j4:gset G2 g (.dK (bH P.gr (.inr k.pen) (.int k.num))) g=_:=aA;have ja:gset G2 g (.dK (bH P.gr (.inr k.pen) (.int k.num))) a=_:=(al nag).trans ia;have jo:BC [p,d,s,g] G (gset G2 g (.dK (bH P.gr (.inr k.pen) (.int k.num)))):=fun x o hx hG=>(al fun z=>hx (by rw[z];simp)).trans (io x o hx hG)
  generalize gset G2 g (.dK (bH P.gr (.inr k.pen) (.int k.num)))=G3 at *
  clear i1 i2 i3 i4 ia io;rw[ag];unfold qY;refine Ft Z1 Z2 Z3 Z4 Z5 R7 R8 hw (i:=1) (p:=a) (σ:=[some (.ref p),some (.ref a)]) rfl ja ?_;show (match G3 p with|some (.ins C' L' ds)=>_|_=>False)
  rw[j1];refine⟨⟨rfl,rfl⟩,?_⟩;have npa:a≠p:=fun z=>by
   rw[z,j1]at ja;obtain⟨pen,num,time,act⟩:=k;cases act<;>cases ja
  dsimp only;unfold bU;refine pF Z1 Z2 Z3 Z4 Z5 R7 R8 hw (i:=1) (p:=a) (σ:=[some (.ref p),some (.ref a)]) rfl ((al npa).trans ja) ?_;exact h _ (fun x o hx hG=>(al fun z=>hx (by rw[z];simp)).trans (jo x o hx hG)) ⟨aA,(al npd.symm).trans j2,(al nps.symm).trans j3,(al npg.symm).trans j4⟩
 ·exact h.elim
theorem nI(Z1 Z2 Z3 Z4 Z5 R7 R8:MU)(hw:HW):bC (bF Z1 Z2 Z3 Z4 Z5 R7 R8 hw) (eE Z1 Z2 Z3 Z4 Z5 R7 R8 hw) ["self","old"]:=by
 intro ds G Q h;unfold bF at h;split at h
 ·rename_i p x;obtain⟨g1,h⟩:=h;have hs:=ai;unfold eE;rw[ag];walk_at "s1";rw[ag];walk_at "s1";refine⟨by walk_at "o",fun d hd=>?_⟩
  have npd:p≠d:=fun z=>by rw[<- z,aA]at hd;cases hd
  have hd0:G d=none:=by rwa[al npd.symm]at hd
  rw[al npd,aA];dsimp only;refine⟨⟨rfl,rfl⟩,?_⟩;rw[ag];generalize hG1:gset (gset (gset G p _) d _) p _=G1;have a1:G1 p=some (.ins R7 ["old","drawn"] [.str x,.ref d]):=by rw[<- hG1];exact aA
  have a2:G1 d=some (.lst []):=by rw[<- hG1,al npd.symm];exact aA
  have a0:∀ y o,y≠p->y≠d->G y=some o->G1 y=some o:=fun y o h1 h2 hG=>by rw[<- hG1,al h1,al h2,al h1];exact hG
  clear hG1;walk_at "s1";intro s hs1;have nps:p≠s:=fun z=>by rw[<- z,a1]at hs1;cases hs1
  have nds:d≠s:=fun z=>by rw[<- z,a2]at hs1;cases hs1
  rw[al nps,a1];dsimp only;refine⟨⟨rfl,rfl⟩,?_⟩;rw[ag];generalize hG2:gset (gset G1 s _) p _=G2;have b1:G2 p=some (.ins R7 ["old","drawn","states"] [.str x,.ref d,.ref s]):=by rw[<- hG2];exact aA
  have b2:G2 d=some (.lst []):=by rw[<- hG2,al npd.symm,al nds];exact a2
  have b3:G2 s=some (.dT hw []):=by rw[<- hG2,al nps.symm];exact aA
  have b0:∀ y o,y≠p->y≠d->y≠s->G y=some o->G2 y=some o:=fun y o h1 h2 h3 hG=>by rw[<- hG2,al h1,al h3];exact a0 y o h1 h2 hG
  clear hG2 a1 a2 a0 hs1;walk_at "s1";intro g hg;have npg:p≠g:=fun z=>by rw[<- z,b1]at hg;cases hg
  have ndg:d≠g:=fun z=>by rw[<- z,b2]at hg;cases hg
  have nsg:s≠g:=fun z=>by rw[<- z,b3]at hg;cases hg
  rw[al npg,b1];dsimp only;refine⟨⟨rfl,rfl⟩,?_⟩;walk_at "st";refine h d s g _ (fun y o hy hG=>?_) ⟨aA,?_,?_,?_⟩
  ·simp only[NH,N4,or_false,not_or]at hy;rw[al hy.1,al hy.2.2.2];exact b0 y o hy.1 hy.2.1 hy.2.2.1 hG
  ·rw[al npd.symm,al ndg];exact b2
  ·rw[al nps.symm,al nsg];exact b3
  ·rw[al npg.symm];exact aA
 ·exact h.elim
theorem Hr{seats:List Seat}{i:Int}(h0:0<=i)(h1:i < seats.length):iT (seats.map Seat.d) i=some (seats[i.toNat]'(by walk_at "o")).d:=by
 have:=uI (ds:=seats.map Seat.d) (i:=i) h0 (by rw[MY];omega)
 rw[this,Qc]
def HQ:D->D
 | .tup (_::d::_)=>d
 | d=>d
theorem C6(seats:List Seat):(seats.map Seat.d).map HQ=(seats.map Seat.name).map Sl.d:=by rw[Nr,Nr];rfl
theorem oN(Z1 Z2 Z3 Z4 Z5 R7 R8:MU)(hw:HW):bC (aR Z1 Z2 Z3 Z4 Z5 R7 R8 hw) (e7 Z1 Z2 Z3 Z4 Z5 R7 R8 hw) ["seats","at","to"]:=by
 intro ds G Q h;unfold aR at h;split at h
 ·rename_i xs i j;obtain⟨seats,⟨rfl,h0,h1,h2,h3⟩,h⟩:=h;have hs:=ai;unfold e7;walk_at "st";have ec:L3.cutD (seats.map Seat.d) (some i) (some j)=((seats.drop i.toNat).take (j - i).toNat).map Seat.d:=by
   rw[jS h0 (by walk_at "o"),Pi,Pj]
   congr 1;omega
  rw[ec];refine dZ HQ (by rw[MY];exact le_trans (OI _ _) (by rw[NW];omega)) (fun d hd P hP=>?_) ?_
  ·obtain⟨s,_,rfl⟩:=mem_map.mp hd;have ed:s.d=.tup [s.slot.d,s.name.d,.str s.sign,.str s.word]:=rfl;rw[ed]at hP ⊢;refine⟨⟨by simp[Nw,List.replicate],rfl⟩,?_⟩
   exact hP _ rfl
  ·rw[C6];exact h
 ·exact h.elim
theorem jV.off{C:MU}{hw0:List aM->Int}{G:Gp}{p d s g a:MU}{P:Pp}{o:GO}(h:jV C hw0 G p d s g P)(ha:G a=none):jV C hw0 (gset G a o) p d s g P:=by
 have ne:∀ {b:MU} {u:GO},G b=some u->b≠a:=fun hb z=>by rw[z,ha]at hb;cases hb
 obtain⟨h1,h2,h3,h4⟩:=h;exact⟨(al (ne h1)).trans h1,(al (ne h2)).trans h2,(al (ne h3)).trans h3,(al (ne h4)).trans h4⟩
theorem jV.ext{C:MU}{hw0:List aM->Int}{G G':Gp}{p d s g:MU}{P:Pp}(h:jV C hw0 G p d s g P)(e:iC G G'):jV C hw0 G' p d s g P:=⟨e _ _ h.1,e _ _ h.2.1,e _ _ h.2.2.1,e _ _ h.2.2.2⟩
theorem Pp.ok.le{P:Pp}{n m:Nat}(h:P.ok n)(hl:n<=m):P.ok m:=⟨h.lo,le_trans h.ls hl,le_trans h.lt hl,le_trans h.lg hl,h.sk,h.ap,h.kn,h.gi,h.gm⟩
theorem F7{P:Pp}{out:List Sk}(so:Srt P out):out.length<=P.sks.length:=by
 have:=h_ (fY so.1) (ys:=P.sks.map Sk.rw) fun r hr=>by
  obtain⟨s,hs',rfl⟩:=mem_map.mp hr;exact mem_map.mpr ⟨s,(so.2 s).mp hs',rfl⟩
 rwa[MY,MY]at this
theorem sr{P:Pp}{out:List Sk}(ok:P.ok 50)(so:Srt P out):(P.seats out).length<=60000:=by
 have h1:=y8 (x:=P.old) (out:=out) (names:=P.unw) fun s hs'=>le_trans (mJ s) (le_trans (ok.sk s ((so.2 s).mp hs')).2.1 (by decide))
 have h2:=F7 so;have h3:=ok.ls;have h4:=ok.lo;unfold Pp.seats;omega
theorem xR{G G1 G':Gp}{a p d s g:MU}{o:GO}(e:iC G G1)(ha:G1 a=none)(h:BC [p,d,s,g] (gset G1 a o) G'):BC [p,d,s,g] G G':=fun x u hx hG=>h x u hx ((al fun z=>by rw[<- z,e x u hG]at ha;cases ha).trans (e x u hG))
theorem qh(Z1 Z2 Z3 Z4 Z5 R7 R8:MU)(hw:HW):bC (b_ Z1 Z2 Z3 Z4 Z5 R7 R8 hw) (fM Z1 Z2 Z3 Z4 Z5 R7 R8 hw) ["self","pen","at","to","seats"]:=by
 intro ds G Q h;unfold b_ at h;split at h
 ·rename_i p pen i j;obtain⟨P,d,s,g,⟨⟨g1,g2,g3,g4⟩,ok⟩,h⟩:=h;have hs:=ai;have ok':P.ok 50:=ok.le (by decide)
  have ls:=ok.ls;have lt:=ok.lt;have lg:=ok.lg;have gi:=ok.gi;unfold fM;rw[ag];walk_at "s1";refine⟨P,d,s,g,⟨⟨g1,g2,g3,g4⟩,ok'⟩,fun out G1 hE so=>?_⟩;obtain⟨⟨c1,c2,c3,c4⟩,h⟩:=h out so;have k1:=hE _ _ g1;have k2:=hE _ _ g2;have k3:=hE _ _ g3;have k4:=hE _ _ g4;rw[ag];walk_at "s1";have sb:=sr ok' so;have pa:jV R7 hw G1 p d s g P:=⟨k1,k2,k3,k4⟩;refine⟨⟨by rw[MY];exact c2,by rw[MY];exact c4⟩,P,d,s,g,⟨pa,gi⟩,P,d,s,g,pa,P.seats out,⟨rfl,by walk_at "o",c4,by walk_at "o"⟩,fun a ha=>⟨pen,_,rfl,P,d,s,g,⟨pen,P.num pen,P.time+1,.strike ((((P.seats out).drop i.toNat).take (j - i).toNat).map Seat.name)⟩,⟨pa.off ha,?_⟩,fun G' of pt=>h G' (xR hE ha of) pt⟩⟩
  exact⟨rfl,by walk_at "o",by walk_at "o",by walk_at "o"⟩
 ·exact h.elim
theorem tw(Z1 Z2 Z3 Z4 Z5 R7 R8:MU)(hw:HW):bC (cV Z1 Z2 Z3 Z4 Z5 R7 R8 hw) (g6 Z1 Z2 Z3 Z4 Z5 R7 R8 hw) ["self","pen","at"]:=by
 intro ds G Q h;unfold cV at h;split at h
 ·rename_i p pen i;obtain⟨P,d,s,g,⟨⟨g1,g2,g3,g4⟩,ok⟩,h⟩:=h;unfold g6;walk_at "st";exact⟨P,d,s,g,⟨⟨g1,g2,g3,g4⟩,ok⟩,h⟩
 ·exact h.elim
theorem srt_uniq{P:Pp}{a b:List Sk}(ha:Srt P a)(hb:Srt P b):a=b:=sM (jr ha.1 hb.1 fun r=>by
 constructor
 ·intro hr;obtain⟨s,hs',rfl⟩:=mem_map.mp hr;exact mem_map.mpr ⟨s,(hb.2 s).mpr ((ha.2 s).mp hs'),rfl⟩
 ·intro hr;obtain⟨s,hs',rfl⟩:=mem_map.mp hr;exact mem_map.mpr ⟨s,(ha.2 s).mpr ((hb.2 s).mp hs'),rfl⟩)
theorem JS{seats:List Seat}{i:Int}(h0:0 < i)(h1:i<=seats.length):∃ st:Seat,iT (seats.map Seat.d) (i - 1)=some st.d/\ic seats i=st.slot:=by
 refine⟨seats[(i - 1).toNat]'(by walk_at "o"),Hr (by walk_at "o") (by walk_at "o"),?_⟩
 unfold ic;rw[if_neg (by walk_at "o"),M1 (by walk_at "o")]
theorem JR(Z1 Z2 Z3 Z4 Z5 R7 R8:MU)(hw:HW){seats:List Seat}{i:Int}{Q:oa}{G:Gp}(h0:0<=i)(h1:i<=seats.length)(h:Q (ic seats i).d G):f8 Z1 Z2 Z3 Z4 Z5 R7 R8 hw { nx:=fun _ G'=>Q .non G',rt:=Q } [some (.lst (seats.map Seat.d)),some (.int i)] G:=by
 have hs:=ai;unfold f8
 by_cases e:i=0
 ·subst e;refine sP (NX:=fun _ _=>False) (fun _ _ z=>z.elim) fun NX hNX=>?_;refine cO true (fun K hK=>?_) (iteT ?_)
  ·walk_at "st"
  ·exact h
 ·refine sP (NX:=fun σ' G'=>σ'=[some (.lst (seats.map Seat.d)),some (.int i)]/\G'=G) (fun σ' G' z=>?_) fun NX hNX=>?_
  ·obtain⟨rfl,rfl⟩:=z;obtain⟨st,as,ea⟩:=JS (seats:=seats) (i:=i) (by walk_at "o") h1
   rw[ea]at h;have ed:st.d=.tup [st.slot.d,st.name.d,.str st.sign,.str st.word]:=rfl;rw[ed]at as;clear ea ed;walk_at "st"
  ·have en:fE (.int i) (.int 0)=false:=cb fun z=>e (by injection z)
   refine cO false (fun K hK=>?_) (iteF ?_)
   ·walk_at "st"
   ·exact hNX _ _ ⟨rfl,rfl⟩
theorem vc(Z1 Z2 Z3 Z4 Z5 R7 R8:MU)(hw:HW):bC (cr Z1 Z2 Z3 Z4 Z5 R7 R8 hw) (f8 Z1 Z2 Z3 Z4 Z5 R7 R8 hw) ["seats","at"]:=by
 intro ds G Q h;unfold cr at h;split at h
 ·rename_i xs i;obtain⟨seats,⟨rfl,h0,h1⟩,h⟩:=h;exact JR Z1 Z2 Z3 Z4 Z5 R7 R8 hw h0 h1 h
 ·exact h.elim
theorem vg(Z1 Z2 Z3 Z4 Z5 R7 R8:MU)(hw:HW):bC (cv Z1 Z2 Z3 Z4 Z5 R7 R8 hw) (iP Z1 Z2 Z3 Z4 Z5 R7 R8 hw) ["self","pen","at","signs","seats"]:=by
 intro ds G Q h;unfold cv at h;split at h
 ·rename_i p pen i w;obtain⟨P,d,s,g,⟨⟨g1,g2,g3,g4⟩,ok⟩,h⟩:=h;have hs:=ai;have ok':P.ok 50:=ok.le (by decide)
  have ls:=ok.ls;have lt:=ok.lt;have lg:=ok.lg;have gi:=ok.gi;unfold iP;rw[ag];walk_at "s1";refine⟨P,d,s,g,⟨⟨g1,g2,g3,g4⟩,ok'⟩,fun out G1 hE so=>?_⟩;obtain⟨⟨c1,c2⟩,h⟩:=h out so;have k1:=hE _ _ g1;have k2:=hE _ _ g2;have k3:=hE _ _ g3;have k4:=hE _ _ g4;rw[ag];walk_at "s1";have sb:=sr ok' so;have pa:jV R7 hw G1 p d s g P:=⟨k1,k2,k3,k4⟩;refine⟨by rw[MY];exact c2,P,d,s,g,⟨pa,gi⟩,P,d,s,g,pa,P.seats out,⟨rfl,c2⟩,fun a ha=>⟨pen,_,_,rfl,rfl,P,d,s,g,⟨pen,P.num pen,P.time+1,.put (ic (P.seats out) i) w⟩,⟨pa.off ha,?_⟩,fun G' of pt=>h G' (xR hE ha of) pt⟩⟩
  exact⟨rfl,by walk_at "o",by walk_at "o",by walk_at "o"⟩
 ·exact h.elim
theorem tx(Z1 Z2 Z3 Z4 Z5 R7 R8:MU)(hw:HW):bC (cW Z1 Z2 Z3 Z4 Z5 R7 R8 hw) (g_ Z1 Z2 Z3 Z4 Z5 R7 R8 hw) ["self","pen","at","to","goal","seats","names"]:=by
 intro ds G Q h;unfold cW at h;split at h
 ·rename_i p pen i j m;obtain⟨P,d,s,g,⟨⟨g1,g2,g3,g4⟩,ok⟩,h⟩:=h;have hs:=ai;have ok':P.ok 50:=ok.le (by decide)
  have ls:=ok.ls;have lt:=ok.lt;have lg:=ok.lg;have gi:=ok.gi;unfold g_;rw[ag];walk_at "s1";refine⟨P,d,s,g,⟨⟨g1,g2,g3,g4⟩,ok'⟩,fun out G1 hE so=>?_⟩;obtain⟨⟨c1,c2,c3,c4,c5,c6⟩,h⟩:=h out so;have k1:=hE _ _ g1;have k2:=hE _ _ g2;have k3:=hE _ _ g3;have k4:=hE _ _ g4;rw[ag];walk_at "s1";have sb:=sr ok' so;have pa:jV R7 hw G1 p d s g P:=⟨k1,k2,k3,k4⟩;refine⟨⟨by rw[MY];exact c2,by rw[MY];exact c4⟩,?_⟩
  rw[ag];walk_at "s1";refine⟨by rw[MY];exact c6,?_⟩
  rw[ag];walk_at "s1";refine⟨P.seats out,⟨rfl,by walk_at "o",c4,by walk_at "o"⟩,P,d,s,g,⟨pa,gi⟩,P,d,s,g,pa,P.seats out,⟨rfl,c6⟩,fun a ha=>⟨pen,_,_,rfl,rfl,P,d,s,g,⟨pen,P.num pen,P.time+1,.move (jM (P.seats out) i j) (ic (P.seats out) m)⟩,⟨pa.off ha,?_⟩,fun G' of pt=>h G' (xR hE ha of) pt⟩⟩
  exact⟨rfl,by walk_at "o",by walk_at "o",by walk_at "o"⟩
 ·exact h.elim
theorem rQ(Z1 Z2 Z3 Z4 Z5 R7 R8:MU)(hw:HW):bC (cD Z1 Z2 Z3 Z4 Z5 R7 R8 hw) (gf Z1 Z2 Z3 Z4 Z5 R7 R8 hw) ["self","pen","at","to","word","seats"]:=by
 intro ds G Q h;unfold cD at h;split at h
 ·rename_i p pen i j w;obtain⟨P,d,s,g,⟨⟨g1,g2,g3,g4⟩,ok⟩,h⟩:=h;have hs:=ai;have ok':P.ok 50:=ok.le (by decide)
  have ls:=ok.ls;have lt:=ok.lt;have lg:=ok.lg;have gi:=ok.gi;unfold gf;rw[ag];walk_at "s1";refine⟨P,d,s,g,⟨⟨g1,g2,g3,g4⟩,ok'⟩,fun out G1 hE so=>?_⟩;obtain⟨⟨c1,c2,c3,c4⟩,h⟩:=h out so;have k1:=hE _ _ g1;have k2:=hE _ _ g2;have k3:=hE _ _ g3;have k4:=hE _ _ g4;rw[ag];walk_at "s1";have sb:=sr ok' so;have pa:jV R7 hw G1 p d s g P:=⟨k1,k2,k3,k4⟩;refine⟨⟨by rw[MY];exact c2,by rw[MY];exact c4⟩,P,d,s,g,⟨pa,gi⟩,P,d,s,g,pa,P.seats out,⟨rfl,by walk_at "o",c4,by walk_at "o"⟩,fun a ha=>⟨pen,_,rfl,P,d,s,g,⟨pen,P.num pen,P.time+1,.dress (jM (P.seats out) i j) w⟩,⟨pa.off ha,?_⟩,fun G' of pt=>h G' (xR hE ha of) pt⟩⟩
  exact⟨rfl,by walk_at "o",by walk_at "o",by walk_at "o"⟩
 ·exact h.elim
theorem l6(Z1 Z2 Z3 Z4 Z5 R7 R8:MU)(hw:HW):bC (bn Z1 Z2 Z3 Z4 Z5 R7 R8 hw) (dH Z1 Z2 Z3 Z4 Z5 R7 R8 hw) ["self","state"]:=by
 intro ds G Q h;unfold bn at h;split at h
 ·rename_i p w;obtain⟨P,d,s,g,⟨⟨g1,g2,g3,g4⟩,ok⟩,h⟩:=h;have hs:=ai;have l1:=ok.ls;unfold dH;walk_at "st";refine⟨by rw[MY];omega,fun i acc G'=>acc=((P.sks.take i).filter fun s=>fE ((c7 P.st s.nm.key).getD .non) (.str w)).map Sk.d/\G'=G,⟨rfl,rfl⟩,fun i acc G' hp=>by rw[hp.2];exact g2,?_,?_⟩
  ·rintro i dd acc G' hd ⟨rfl,rfl⟩
   rw[Ng]at hd;cases hq:P.sks[i]? with
   | none=>rw[hq]at hd;cases hd
   | some k=>
    rw[hq]at hd;cases hd;obtain⟨w',hw0⟩:=ok.kn k (Na hq);have tk:((P.sks.take (i+1)).filter fun s=>fE ((c7 P.st s.nm.key).getD .non) (.str w)).map Sk.d=((P.sks.take i).filter fun s=>fE ((c7 P.st s.nm.key).getD .non) (.str w)).map Sk.d ++ if fE (.str w') (.str w)=true then [k.d]else []:=by
     rw[NF,hq,OV,Nv];congr 1;have wk:fE ((c7 P.st k.nm.key).getD .non) (.str w)=fE (.str w') (.str w):=by rw[hw0];rfl
     by_cases z:fE (.str w') (.str w)=true
     ·rw[if_pos z,Option.toList_some,List.filter_cons_of_pos (by rw[wk];exact z)];rfl
     ·rw[if_neg z,Option.toList_some,N8 (by rw[wk];exact z)];rfl
    have ed:k.d=.tup [.tup [.str k.pen,.int k.num],.int k.time,k.act.d]:=rfl;rw[ed]at tk ⊢;refine⟨⟨by simp[Nw,List.replicate],rfl⟩,?_⟩
    have hk:c7 P.st [.inr k.pen,.inl k.num]=some (.str w'):=hw0;clear ok;generalize ((P.sks.take i).filter fun s=>fE ((c7 P.st s.nm.key).getD .non) (.str w)).map Sk.d=A0 at *
    walk_at "st"
    by_cases z:fE (.str w') (.str w)=true
    ·rw[if_pos z,if_pos z]
    ·rw[if_neg z,if_neg z,Oj]
  ·rintro acc G' ⟨rfl,rfl⟩
   rw[MY,ND];exact h
 ·exact h.elim
def KM:D->D
 | .tup (d::_)=>d
 | d=>d
theorem oP(Z1 Z2 Z3 Z4 Z5 R7 R8:MU)(hw:HW):bC (bh Z1 Z2 Z3 Z4 Z5 R7 R8 hw) (e9 Z1 Z2 Z3 Z4 Z5 R7 R8 hw) ["self"]:=by
 intro ds G Q h;unfold bh at h;split at h
 ·rename_i p;obtain⟨P,d,s,g,⟨⟨g1,g2,g3,g4⟩,ok⟩,h⟩:=h;have hs:=ai;have l1:=ok.ls;have l2:(P.inS (MZ "waits")).length<=P.sks.length:=N7 _ _;unfold e9;walk_at "st";refine⟨P,d,s,g,⟨⟨g1,g2,g3,g4⟩,ok⟩,?_⟩;refine dZ KM (by rw[MY];omega) (fun e he K hK=>?_) ?_
  ·obtain⟨k,_,rfl⟩:=mem_map.mp he;have ed:k.d=.tup [.tup [.str k.pen,.int k.num],.int k.time,k.act.d]:=rfl;rw[ed]at hK ⊢;refine⟨⟨by simp[Nw,List.replicate],rfl⟩,?_⟩
   exact hK _ rfl
  ·have e:((P.inS (MZ "waits")).map Sk.d).map KM=P.wai.map Nm.d:=by unfold Pp.wai;rw[Nr,Nr];rfl
   rw[e];exact h
 ·exact h.elim
theorem mY(Z1 Z2 Z3 Z4 Z5 R7 R8:MU)(hw:HW):bC (be Z1 Z2 Z3 Z4 Z5 R7 R8 hw) (dW Z1 Z2 Z3 Z4 Z5 R7 R8 hw) ["self","name"]:=by
 intro ds G Q h;unfold be at h;split at h
 ·rename_i p a b;obtain⟨P,d,s,g,⟨⟨g1,g2,g3,g4⟩,hk,l2⟩,h⟩:=h;have hs:=ai;unfold dW;rw[ag];walk_at "s1";refine⟨P,d,s,g,⟨⟨g1,g2,g3,g4⟩,hk⟩,by walk_at "o",h _ (fun x o hx hG=>?_) ⟨?_,?_,aA,?_⟩⟩
  ·rw[al (fun z=>hx (by rw[z];simp))]
   exact hG
  ·rw[al (fun z=>by rw[z,g3]at g1;cases g1)]
   exact g1
  ·rw[al (fun z=>by rw[z,g3]at g2;cases g2)]
   exact g2
  ·rw[al (fun z=>by rw[z,g3]at g4;cases g4)]
   exact g4
 ·exact h.elim
theorem jW(x:Str):(CB x).length=x.length:=by simp[CB,L3.signs_length]
theorem u5(Z1 Z2 Z3 Z4 Z5 R7 R8:MU)(hw:HW):bC (ck Z1 Z2 Z3 Z4 Z5 R7 R8 hw) (iG Z1 Z2 Z3 Z4 Z5 R7 R8 hw) ["signs"]:=by
 intro ds G Q h;unfold ck at h;split at h
 ·rename_i x;obtain⟨h1,h2⟩:=h;unfold iG;walk_at "st";refine dZ (fun d=>.tup [d,.str ""]) (by rw[L3.signs_length];exact h1) (fun d hd P hP=>?_) h2
  have:∃ y,d=.str y:=by
   simp only[L3.signs,mem_map]at hd;obtain⟨c,_,rfl⟩:=hd;exact⟨_,rfl⟩
  obtain⟨y,rfl⟩:=this;walk_at "st";exact⟨by simp,by simp[M4],hP _ rfl⟩
 ·exact h.elim
theorem nH(Z1 Z2 Z3 Z4 Z5 R7 R8:MU)(hw:HW):bC (bE Z1 Z2 Z3 Z4 Z5 R7 R8 hw) (eA Z1 Z2 Z3 Z4 Z5 R7 R8 hw) ["self","text"]:=by
 intro ds G Q h;unfold bE at h;split at h
 ·obtain⟨h1,h2,h3⟩:=h;unfold eA;walk_at "st";exact h3
 ·exact h.elim
theorem tj(Z1 Z2 Z3 Z4 Z5 R7 R8:MU)(hw:HW):bC (bS Z1 Z2 Z3 Z4 Z5 R7 R8 hw) (gX Z1 Z2 Z3 Z4 Z5 R7 R8 hw) ["self"]:=by
 intro ds G Q h;unfold bS at h;split at h
 ·obtain⟨ds,hG,hq⟩:=h;unfold gX;walk_at "st"
 ·exact h.elim
theorem vf(Z1 Z2 Z3 Z4 Z5 R7 R8:MU)(hw:HW):bC (cN Z1 Z2 Z3 Z4 Z5 R7 R8 hw) (iO Z1 Z2 Z3 Z4 Z5 R7 R8 hw) ["self","at","signs"]:=by
 intro ds G Q h;unfold cN at h;split at h
 ·rename_i a at_ x;obtain⟨ds,hG,⟨h1,h2,h3⟩,hq⟩:=h;have hs:=ai;unfold iO;walk_at "st";rw[pI h1,mR h1];refine⟨by walk_at "o",?_,?_,hq⟩
  ·simp only[Nq,jW];omega
  ·simp only[Nj,Nq,NW,jW];omega
 ·exact h.elim
theorem qg(Z1 Z2 Z3 Z4 Z5 R7 R8:MU)(hw:HW):bC (b9 Z1 Z2 Z3 Z4 Z5 R7 R8 hw) (fL Z1 Z2 Z3 Z4 Z5 R7 R8 hw) ["self","at","to"]:=by
 intro ds G Q h;unfold b9 at h;split at h
 ·rename_i a at_ to_;obtain⟨ds,hG,⟨h1,h2,h3,h4,h5⟩,hq⟩:=h;have hs:=ai;unfold fL;walk_at "st";rw[pI h1,mR (by walk_at "o")]
  refine⟨?_,hq⟩;simp only[Nq,NW];omega
 ·exact h.elim
theorem rN(Z1 Z2 Z3 Z4 Z5 R7 R8:MU)(hw:HW):bC (cB Z1 Z2 Z3 Z4 Z5 R7 R8 hw) (f_ Z1 Z2 Z3 Z4 Z5 R7 R8 hw) ["self","at","to","word","dressed"]:=by
 intro ds G Q h;unfold cB at h;split at h
 ·rename_i a at_ to_ w;obtain⟨ds,hG,⟨h1,h2,h3,h4,h5,h6⟩,hq⟩:=h;have hs:=ai;unfold f_;rw[ag];walk_at "s1";rw[ag];walk_at "s1";rw[jS h1 (by walk_at "o")]
  refine dZ (Mt w) (le_trans (le_trans (OI _ _) (by rw[NW];exact le_trans (Nat.sub_le _ _) h5)) (le_trans (by decide) hs)) (fun d hd P hP=>?_) ?_
  ·have hr:=h6 d (List.mem_of_mem_drop (N_ hd));unfold Ad at hr;split at hr
   ·walk_at "st";exact⟨by simp,by simp[M4],hP _ rfl⟩
   ·exact hr.elim
  ·walk_at "st";rw[pI h1,mR (by walk_at "o")]
   have q1:∀ n,(ds.take n).length<=10000:=fun n=>le_trans (OI n ds) h5;have q3:∀ m,(ds.drop m).length<=10000:=fun m=>by rw[NW];exact le_trans (Nat.sub_le _ _) h5
   have q2:∀ m n,((ds.drop m).take n).length<=10000:=fun m n=>le_trans (OI n _) (q3 m);have big:∀ n,n<=50000->n<=M4:=fun n h=>le_trans h (le_trans (by decide) hs)
   refine⟨?_,?_,?_⟩
   ·rw[MY];exact big _ (le_trans (Oq (q1 _) (q2 _ _)) (by decide))
   ·rw[Nj,MY];exact big _ (le_trans (Oq (Oq (q1 _) (q2 _ _)) (q3 _)) (by decide))
   ·exact hq
 ·exact h.elim
theorem tq(Z1 Z2 Z3 Z4 Z5 R7 R8:MU)(hw:HW):bC (cT Z1 Z2 Z3 Z4 Z5 R7 R8 hw) (gY Z1 Z2 Z3 Z4 Z5 R7 R8 hw) ["self","at","to","goal","ahead","behind"]:=by
 intro ds G Q h;unfold cT at h;split at h
 ·rename_i a at_ to_ goal;obtain⟨ds,hG,⟨h1,h2,h3,h4,h5,h6,h7⟩,hq⟩:=h;unfold gY;walk_at "st";have e1:cutD ds none (some (if goal < at_ then goal else at_))=ds.take (min at_.toNat goal.toNat):=by
   rw[pI (by split<;>omega)];congr 1;split<;>omega
  have e2:cutD ds (some (if goal > to_ then goal else to_)) none=ds.drop (max to_.toNat goal.toNat):=by
   rw[mR (by split<;>omega)];congr 1;split<;>omega
  rw[e1,e2,jS (by walk_at "o") h5,jS h5 h1,jS h1 (by walk_at "o")]
  have hs:=ai;have q1:∀ n,(ds.take n).length<=10000:=fun n=>le_trans (OI n ds) h7;have q3:∀ m,(ds.drop m).length<=10000:=fun m=>by rw[NW];exact le_trans (Nat.sub_le _ _) h7
  have q2:∀ m n,((ds.drop m).take n).length<=10000:=fun m n=>le_trans (OI n _) (q3 m);have big:∀ n,n<=50000->n<=M4:=fun n h=>le_trans h (le_trans (by decide) hs)
  clear h1 h2 h3 h4 h5 h6 h7 e1 e2;refine⟨?_,?_,?_,?_,?_⟩
  ·exact big _ (le_trans (Oq (q1 _) (q2 _ _)) (by decide))
  ·exact big _ (le_trans (Oq (q2 _ _) (q3 _)) (by decide))
  ·rw[Nj];exact big _ (le_trans (Oq (Oq (q1 _) (q2 _ _)) (q2 _ _)) (by decide))
  ·rw[Nj,Nj,Nj];exact big _ (le_trans (Oq (Oq (Oq (q1 _) (q2 _ _)) (q2 _ _)) (Oq (q2 _ _) (q3 _))) (by decide))
  ·exact hq
 ·exact h.elim
theorem qc(Z1 Z2 Z3 Z4 Z5 R7 R8:MU)(hw:HW):bC (b8 Z1 Z2 Z3 Z4 Z5 R7 R8 hw) (fI Z1 Z2 Z3 Z4 Z5 R7 R8 hw) ["_law_script","_law_k"]:=by
 intro ds G Q h;unfold b8 at h;split at h
 ·rename_i xs k;obtain⟨ns,⟨rfl,h0⟩,h⟩:=h;unfold fI;rw[ag];refine cO (decide (k < ns.length)) (fun K hK=>?_) (zZ (fun e=>?_) fun e=>?_)
  ·walk_at "st";rw[MY];exact hK
  ·rw[decide_eq_true_eq]at e;walk_at "st";rw[mz h0 e];exact h _
  ·walk_at "st"
   first|done|exact h _
 ·exact h.elim
theorem B4{P:Pp}{n:Nat}(ok:P.ok n)(pen:Str):1<=P.num pen:=by
 unfold Pp.num;split
 ·rename_i m e;obtain⟨m',e',h⟩:=ok.gi _ _ e;cases e';omega
 ·exact Int.le_refl _
theorem Be{P:Pp}{pen:Str}{m:Int}(h:c7 P.gr (.inr pen)=some (.int m)):P.num pen=m+1:=by
 unfold Pp.num;rw[h]
theorem Jc{P:Pp}{n:Nat}{pen:Str}{k:Sk}(ok:P.ok n)(nx:P.next pen k)(wd:k.wd<=60):(P.add k).ok (n+1):=by
 obtain⟨rfl,e2,e3⟩:=nx;have np:=B4 ok k.pen;refine⟨ok.lo,?_,?_,?_,fun s hs=>?_,?_,fun s hs=>?_,fun q v hv=>?_,fun s hs=>?_⟩
 ·show (P.sks ++ [k]).length<=n+1;rw[Nj];exact Nat.succ_le_succ ok.ls
 ·exact le_trans (fT _ _ _) (Nat.succ_le_succ ok.lt)
 ·exact le_trans (fT _ _ _) (Nat.succ_le_succ ok.lg)
 ·rcases RJ.mp hs with h|h
  ·obtain⟨h1,h2,h3⟩:=ok.sk s h;exact⟨h1,h2,by show s.time<=k.time;omega⟩
  ·rw[Qo.mp h];exact⟨by walk_at "o",wd,Int.le_refl _⟩
 ·show ((P.sks ++ [k]).map Sk.rw).Pairwise mB;rw[Nv,List.pairwise_append];refine⟨ok.ap,List.pairwise_singleton _ _,fun a ha b hb=>?_⟩;obtain⟨s,hs,rfl⟩:=mem_map.mp ha;rw[Nk,Pf,Qo]at hb;subst hb
  rintro⟨z1,z2⟩
  obtain⟨m,hm,le⟩:=ok.gm s hs;have z1':s.pen=k.pen:=z1;have z2':s.num=k.num:=z2;rw[z1']at hm;have:=Be hm;omega
 ·show ∃ w:Str,c7 (bH P.st k.nm.key (.str (MZ "waits"))) s.nm.key=some (.str w);rw[gu];split
  ·exact⟨_,rfl⟩
  ·rename_i ne;rcases RJ.mp hs with h|h
   ·exact ok.kn s h
   ·exact absurd (by rw[Qo.mp h]) ne
 ·have hv':c7 (bH P.gr (.inr k.pen) (.int k.num)) q=some v:=hv;rw[gu]at hv';split at hv'
  ·cases hv';exact⟨_,rfl,by walk_at "o"⟩
  ·exact ok.gi _ _ hv'
 ·show ∃ m:Int,c7 (bH P.gr (.inr k.pen) (.int k.num)) (.inr s.pen)=some (.int m)/\s.num<=m;rw[gu];split
  ·rename_i z;refine⟨_,rfl,?_⟩;rcases RJ.mp hs with h|h
   ·obtain⟨m,hm,le⟩:=ok.gm s h;rw[z]at hm;have:=Be hm;omega
   ·rw[Qo.mp h];exact Int.le_refl _
  ·rename_i ne;rcases RJ.mp hs with h|h
   ·exact ok.gm s h
   ·exact absurd (by rw[Qo.mp h]) ne
theorem E4(l:List Nm):pl 8 (.lst (l.map Nm.d)):=fun d hd=>by
 obtain⟨n,_,rfl⟩:=mem_map.mp hd;intro e he;simp only[NH,N4,or_false]at he;rcases he with rfl|rfl<;>exact trivial
theorem FY(P:Pp):P.wai.length<=P.sks.length:=by
 unfold Pp.wai;rw[MY];exact N7 _ _
theorem BS{t:pP}{a b0:cj}{E:Ends3}{σ:gv}{G:Gp}{b:Bool}(ht:∀ K:Bool->Gp->Prop,(∀ G',iC G G'->K b G')->t σ G K)(h:∀ G',iC G G'->(if b=true then a E σ G' else b0 E σ G')):oH t a b0 E σ G:=ht _ h
theorem JD{P:Pp}{k:List aM}{w v:Str}(h:c7 P.st k=some (.str w)):MP P ⟨P.old,P.sks,bH P.st k (.str v),P.gr,P.time⟩:=by
 refine⟨rfl,rfl,rfl,rfl,fun n ok=>⟨ok.lo,ok.ls,?_,ok.lg,ok.sk,ok.ap,fun s hs=>?_,ok.gi,ok.gm⟩⟩
 ·show (bH P.st k (.str v)).length<=n;rw[tG,h];exact ok.lt
 ·show ∃ w:Str,c7 (bH P.st k (.str v)) s.nm.key=some (.str w);rw[gu];split
  ·exact⟨v,rfl⟩
  ·exact ok.kn s hs
theorem DT{P:Pp}{n:Nat}(ok:P.ok n){m:Nm}(h:m∈P.wai):c7 P.st m.key=some (.str (MZ "waits")):=by
 obtain⟨k,hk,rfl⟩:=mem_map.mp h;obtain⟨h1,h2⟩:=mem_filter.mp hk;obtain⟨w,hw0⟩:=ok.kn k h1;rw[hw0]at h2 ⊢;exact congrArg some (mO.mp h2)
theorem yZ{P:Pp}{k:Sk}{n:Nat}(ok:P.ok n)(h:fR (P.sks.map Sk.rw))(e:k.time=P.time+1):fR ((P.add k).sks.map Sk.rw):=by
 show ((P.sks ++ [k]).map Sk.rw).Pairwise _
 rw[Nv,List.pairwise_append];refine⟨h,List.pairwise_singleton _ _,fun a ha b hb=>?_⟩;obtain⟨s,hs,rfl⟩:=mem_map.mp ha;rw[Nk,Pf,Qo]at hb;subst hb;have t:=(ok.sk s hs).2.2;show Rw.lt s.rw k.rw=true
 unfold Rw.lt;have t1:s.rw.time=s.time:=rfl;have t2:k.rw.time=k.time:=rfl;rw[if_neg (by rw[t1,t2];omega)]
 exact decide_eq_true (by rw[t1,t2];omega)
theorem Fu{P:Pp}{k:Sk}(h:P.firm):(P.add k).firm:=fun s hs=>by
 show c7 (bH P.st k.nm.key _) s.nm.key=_\/c7 (bH P.st k.nm.key _) s.nm.key=_
 rw[gu];split
 ·exact .inl rfl
 ·rename_i ne;rcases RJ.mp hs with q|q
  ·exact h s q
  ·exact absurd (by rw[Qo.mp q]) ne
theorem Ht{P:Pp}(h:P.firm):∀ s∈P.sks,s.nm∈P.unw:=fun s hs=>by
 unfold Pp.unw;refine mem_map.mpr ⟨s,mem_filter.mpr ⟨hs,?_⟩,rfl⟩;unfold gB;rcases h s hs with e|e
 ·rw[e,Option.getD_some,lB (by decide +kernel)];rfl
 ·rw[e,Option.getD_some,lB (by decide +kernel)];rfl
theorem DR{out:List Sk}{names:List Nm}{row:List Sl}(h1:∀ s∈out,s.nm∈names)(h2:∀ s∈out,∀ n∈made s,n∈row):fX out names row=out:=by
 unfold fX;rw[List.filter_eq_self.mpr fun s hs=>decide_eq_true (h1 s hs)];exact List.filter_eq_self.mpr fun s hs=>List.all_eq_true.mpr fun n hn=>decide_eq_true (h2 s hs n hn)
def Kg(x:Str)(out:List Sk)(p:Sl×Sl):Seat:=⟨p.1,p.2,(cQ (ay x out) p.2).getD "",(cQ (dI out) p.2).getD ""⟩
theorem o_{P:Pp}{ds:List D}{n:Nat}(h:Lk P ds n){out:List Sk}(so:Srt P out):P.seats out=(vw P.old P.sks).map (Kg P.old P.sks):=by
 have e:out=P.sks:=srt_uniq so ⟨h.st,fun _=>Iff.rfl⟩;subst e;unfold Pp.seats fF;rw[DR (Ht h.fm) h.sm.pl];rfl
theorem nT{P:Pp}{ds:List D}{n:Nat}(h:Lk P ds n){out:List Sk}(so:Srt P out):(P.seats out).length=ds.length:=by
 rw[o_ h so,h.rv];unfold ef;rw[MY,MY]
theorem Fb{P:Pp}{ds:List D}{n:Nat}(h:Lk P ds n){out:List Sk}(so:Srt P out){i:Int}(h0:0<=i)(h1:i<=ds.length):uN P.old P.sks i.toNat (ic (P.seats out) i):=by
 have l:=nT h so
 by_cases e:i=0
 ·subst e;exact .inl ⟨rfl,rfl⟩
 ·have lt:(i - 1).toNat < (P.seats out).length:=by walk_at "o"
  refine .inr ?_;rw[o_ h so]at lt ⊢;rw[MY]at lt;have e1:i.toNat - 1=(i - 1).toNat:=by walk_at "o"
  refine⟨(vw P.old P.sks)[(i - 1).toNat]'lt,by walk_at "o",?_,?_⟩
  ·rw[e1,M1 lt]
  ·unfold ic;rw[if_neg e,Ng,M1 lt];rfl
theorem Bl{P:Pp}{ds:List D}{n:Nat}(h:Lk P ds n){out:List Sk}(so:Srt P out){i j:Int}(h0:0<=i)(h1:i<=j):jM (P.seats out) i j=jL P.old P.sks i.toNat j.toNat:=by
 unfold jM jL;rw[o_ h so,<- Pj,<- Pi,Nr,show (j - i).toNat=j.toNat - i.toNat by walk_at "o"]
 rfl
theorem zN{P:Pp}{ds:List D}{n:Nat}(h:Lk P ds n)(pen:Str)(t:Int)(act:Act):∀ y∈made ⟨pen,P.num pen,t,act⟩,y∉ar::aE P.old.length P.sks:=
 Bk (B4 h.ok pen) fun r hr z=>by
  obtain⟨m,hm,le⟩:=h.ok.gm r hr;have z1:r.pen=pen:=z.1;have z2:r.num=P.num pen:=z.2;rw[z1]at hm;have:=Be hm;omega
theorem xZ{P:Pp}{ds ds':List D}{n:Nat}(h:Lk P ds n){pen:Str}{act:Act}(wd:(Sk.mk pen (P.num pen) (P.time+1) act).wd<=60)(hs:Sim P.old (P.sks ++ [⟨pen,P.num pen,P.time+1,act⟩])/\ef P.old (P.sks ++ [⟨pen,P.num pen,P.time+1,act⟩])=ds'):Lk (P.add ⟨pen,P.num pen,P.time+1,act⟩) ds' (n+1):=
 ⟨Jc h.ok ⟨rfl,rfl,rfl⟩ wd,Fu h.fm,yZ h.ok h.st rfl,hs.1,hs.2.symm⟩
theorem BL(y:Str):(lC y).map (fun s=>D.tup [.str s,.str ""])=CB y:=by
 unfold lC CB L3.signs;rw[Nr,Nr];rfl
section
variable{P:Pp}{ds:List D}{n:Nat}{out:List Sk}{pen:Str}
theorem Jh{i:Int}{y:Str}(h:Lk P ds n)(so:Srt P out)(h0:0<=i)(h1:i<=ds.length)(ly:y.length<=60):Lk (P.add ⟨pen,P.num pen,P.time+1,.put (ic (P.seats out) i) y⟩) (ds.take i.toNat ++ CB y ++ ds.drop i.toNat) (n+1):=by
 refine xZ h ly ?_;have:=Ek (k:=⟨pen,P.num pen,P.time+1,.put (ic (P.seats out) i) y⟩) h.sm (zN h pen _ _) (Fb h so h0 h1) rfl;rw[h.rv,<- BL];exact this
theorem xW{i j:Int}(h:Lk P ds n)(so:Srt P out)(h0:0<=i)(h1:i<=j)(h3:j - i<=60):(jM (P.seats out) i j).length<=60:=by
 unfold jM;rw[MY,Nq];omega
theorem Dc{i j:Int}(h:Lk P ds n)(so:Srt P out)(h0:0<=i)(h1:i<=j)(h3:j - i<=60):Lk (P.add ⟨pen,P.num pen,P.time+1,.strike (jM (P.seats out) i j)⟩) (ds.take i.toNat ++ ds.drop j.toNat) (n+1):=by
 refine xZ h (xW h so h0 h1 h3) ?_;rw[Bl h so h0 h1,h.rv];exact y_ h.sm (by walk_at "o") rfl
theorem GV{i j m:Int}(h:Lk P ds n)(so:Srt P out)(h0:0<=i)(h1:i<=j)(h3:j - i<=60)(m0:0<=m)(m1:m<=ds.length):Lk (P.add ⟨pen,P.num pen,P.time+1,.move (jM (P.seats out) i j) (ic (P.seats out) m)⟩) (zG ds i.toNat j.toNat m.toNat) (n+1):=by
 refine xZ h (xW h so h0 h1 h3) ?_;have fr:=zN h pen (P.time+1) (.move (jM (P.seats out) i j) (ic (P.seats out) m));have ac:=Fb h so m0 m1;rw[Bl h so h0 h1]at fr ⊢;rw[h.rv];exact CM h.sm fr (by walk_at "o") ac rfl
theorem Fa{i j:Int}{w:Str}(h:Lk P ds n)(so:Srt P out)(h0:0<=i)(h1:i<=j)(h3:j - i<=60):Lk (P.add ⟨pen,P.num pen,P.time+1,.dress (jM (P.seats out) i j) w⟩) (sA ds i.toNat j.toNat w) (n+1):=by
 refine xZ h (xW h so h0 h1 h3) ?_;rw[Bl h so h0 h1,h.rv];have:=AU (k:=⟨pen,P.num pen,P.time+1,.dress (jL P.old P.sks i.toNat j.toNat) w⟩) (w:=w) h.sm (show i.toNat<=j.toNat by walk_at "o") rfl
 refine⟨this.1,this.2.trans ?_⟩;unfold sA ef;simp only[<- Pj,<- Pi,Nr];rfl
theorem za{d:D}(h:Lk P ds n)(hd:d∈ds):Ad d:=by
 rw[h.rv]at hd;obtain⟨p,_,rfl⟩:=mem_map.mp hd;trivial
end
def Kf:D->D
 | .tup (_::d::_)=>d
 | d=>d
theorem D_(seats:List Seat):(seats.map Seat.d3).map Kf=(seats.map Seat.sign).map D.str:=by rw[Nr,Nr];rfl
theorem BN:∀ ys:List Str,(∀ y∈ys,y.length<=1)->(ys.map (·.length)).sum<=ys.length
 | [],_=>le_refl _
 | y::t,h=>by
  have h1:=BN t fun z hz=>h z (M3 _ hz);have h2:=h y M8;rw[Nk,List.sum_cons,Ni];omega
theorem zd(Z1 Z2 Z3 Z4 Z5 R7 R8:MU)(hw:HW):bC (eO Z1 Z2 Z3 Z4 Z5 R7 R8 hw) (kA Z1 Z2 Z3 Z4 Z5 R7 R8 hw) ["rows"]:=by
 intro ds G Q h;unfold eO at h;split at h
 ·rename_i xs;obtain⟨seats,⟨rfl,hl,h1⟩,h⟩:=h;have hs:=ai;unfold kA;walk_at "st";refine dZ Kf (by rw[MY];omega) (fun d hd P hP=>?_) ?_
  ·obtain⟨s,_,rfl⟩:=mem_map.mp hd;have ed:s.d3=.tup [s.name.d,.str s.sign,.str s.word]:=rfl;rw[ed]at hP ⊢;refine⟨⟨by simp[Nw,List.replicate],rfl⟩,?_⟩
   exact hP _ rfl
  ·rw[D_];refine⟨_,rfl,?_,h⟩;have s1:=BN (seats.map Seat.sign) fun y hy=>by
    obtain⟨s,hs',rfl⟩:=mem_map.mp hy;exact h1 s hs'
   have e0:(MZ "").length=0:=by decide +kernel
   rw[e0,Nat.mul_zero];rw[MY]at s1;omega
 ·exact h.elim
theorem Im{n r:Int}(h:0<=n/\n < 2147483647):∃ z:Int,iT [D.int n,D.int (r % 1000000007)] (if 0 < r then 1 else 0)=some (.int z)/\(0<=z/\z < 2147483647):=by
 split
 ·exact⟨_,rfl,by walk_at "o"⟩
 ·exact⟨_,rfl,h⟩
theorem rM(Z1 Z2 Z3 Z4 Z5 R7 R8:MU)(hw:HW):bC (cA Z1 Z2 Z3 Z4 Z5 R7 R8 hw) (f9 Z1 Z2 Z3 Z4 Z5 R7 R8 hw) ["_law_cell","_law_many","_law_found","_law_mix","_law_rest","_law_k"]:=by
 intro ds G Q h;unfold cA at h;split at h
 ·rename_i c m;obtain⟨⟨h1,h2⟩,h⟩:=h;have hs:=ai;unfold f9;rw[ag];walk_at "s1";refine⟨NI _,fun p hp=>?_⟩;rw[ag];walk_at "s1";refine⟨.inr ⟨by decide,by decide⟩,by decide,?_⟩
  have b0:=mx (a:=(c+1)*48271) (b:=2147483647) (by decide)
  generalize (c+1)*48271 % 2147483647=n0 at *
  rw[ag];walk_at "s1";refine⟨⟨by decide,by decide⟩,?_⟩
  rw[ag];walk_at "s1";refine⟨⟨by (omega),by (omega)⟩,fun i σ G'=>∃ (xs:List Int) (n r:Int) (v:Option D),(σ=[some (.int c),some (.int m),some (.ref p),some (.int n),some (.int r),v]/\G'=gset G p (.lst (xs.map D.int)))/\xs.length=i/\(0<=n/\n < 2147483647)/\∀ x∈xs,0<=x/\x < 2147483647,
   ⟨[],n0,_,_,⟨rfl,rfl⟩,rfl,b0,by simp⟩,?_,?_⟩
  ·rintro i d σ G' hd ⟨xs,n,r,v,⟨rfl,rfl⟩,hl,hn,hx⟩
   obtain⟨hi,rfl⟩:=AZ hd;walk_at "s1";rw[ag];walk_at "s1";have b1:=mx (a:=(n+7919*(0+(i:Int))+1)*(n / 1009+69621)) (b:=2147483647) (by decide)
   refine⟨.inl ⟨by decide,by decide⟩,⟨by decide,by decide⟩,.inl ⟨by (omega),by (omega)⟩,by decide,?_⟩
   generalize (n+7919*(0+(i:Int))+1)*(n / 1009+69621) % 2147483647=n1 at *
   obtain⟨z,ez,zb⟩:=Im (r:=r) b1;have add:∀ z:Int,(0<=z/\z < 2147483647)->∀ x∈xs ++ [z],0<=x/\x < 2147483647:=fun z hz x hx'=>by
    rcases RJ.mp hx' with hx'|hx'
    ·exact hx x hx'
    ·rw[Qo.mp hx'];exact hz
   rw[ag];walk_at "s1";exact⟨by decide,by walk_at "o",by decide,zZ (fun _=>⟨by rw[MY];omega,⟨by decide,by decide⟩,xs ++ [z],n1,_,_,⟨⟨rfl,rfl,rfl⟩,by rw[Nv];rfl⟩,by rw[Nj,hl];rfl,b1,add z zb⟩) fun _=>⟨by rw[MY];omega,⟨by decide,by decide⟩,xs ++ [n1],n1,_,_,⟨⟨rfl,rfl,rfl⟩,by rw[Nv];rfl⟩,by rw[Nj,hl];rfl,b1,add n1 b1⟩⟩
  ·rintro σ G' ⟨xs,n,r,v,⟨rfl,rfl⟩,hl,hn,hx⟩
   rw[jB]at hl;walk_at "s1";rw[wB hp];exact h xs (by walk_at "o") hx
 ·exact h.elim
theorem Co{C C':MU}{hw0:List aM->Int}{G:Gp}{p d s g a:MU}{P:Pp}{ds:List D}(h:BF C C' hw0 G p d s g a P ds):a∉[p,d,s,g]:=fun z=>by
 obtain⟨⟨h1,h2,h3,h4⟩,h5⟩:=h;simp only[NH,N4,or_false]at z;rcases z with rfl|rfl|rfl|rfl
 ·rw[h1]at h5;injection h5 with e
  injection e with _ e
  exact absurd e (by decide +kernel)
 ·rw[h2]at h5;cases h5
 ·rw[h3]at h5;cases h5
 ·rw[h4]at h5;cases h5
theorem Aw{C C':MU}{hw0:List aM->Int}{G:Gp}{p d s g a:MU}{P:Pp}{ds:List D}(h:jV C hw0 G p d s g P)(ha:a∉[p,d,s,g]):BF C C' hw0 (gset G a (.ins C' aF [.lst ds])) p d s g a P ds:=by
 simp only[NH,N4,or_false,not_or]at ha;exact⟨⟨(al (Ne.symm ha.1)).trans h.1,(al (Ne.symm ha.2.1)).trans h.2.1,(al (Ne.symm ha.2.2.1)).trans h.2.2.1,(al (Ne.symm ha.2.2.2)).trans h.2.2.2⟩,aA⟩
theorem Iy(x:Int)(h:fE (.int (x % 5)) (.int 4)=false):∃ w:Str,w.length<=4/\iT [D.str (MZ "a"),D.str (MZ "bc"),D.str (MZ "~ \\"),D.str (MZ "four")] (x % 5)=some (.str w):=by
 have h4:x % 5≠4:=fun e=>by rw[e,bX]at h;cases h
 have h:x % 5=0\/x % 5=1\/x % 5=2\/x % 5=3:=by walk_at "o"
 rcases h with h|h|h|h<;>rw[h]
 ·exact⟨MZ "a",by decide +kernel,rfl⟩
 ·exact⟨MZ "bc",by decide +kernel,rfl⟩
 ·exact⟨MZ "~ \\",by decide +kernel,rfl⟩
 ·exact⟨MZ "four",by decide +kernel,rfl⟩
theorem xl(Z1 Z2 Z3 Z4 Z5 R7 R8:MU)(hw:HW):bC (dP Z1 Z2 Z3 Z4 Z5 R7 R8 hw) (jm Z1 Z2 Z3 Z4 Z5 R7 R8 hw) ["_law_paper","_law_plain","_law_pen","_law_xs","_law_many","_law_at","_law_signs"]:=by
 intro ds G Q h;unfold dP at h;split at h
 ·rename_i p a pen xs m;obtain⟨P,ds,d,s,g,n,x2,x3,⟨bt,lk,hn,a2,a3,rfl,l2⟩,h⟩:=h;have hs:=ai;have na:=Co bt;have pa:=bt.1;have g1:=pa.1;have Vm:P.ok 49:=lk.ok.le (by walk_at "o")
  unfold jm;rw[ag];walk_at "s1";refine⟨by walk_at "o",?_⟩
  have i0:=Int.emod_nonneg x2 (b:=(ds.length:Int)+1) (by walk_at "o")
  have i1:=Int.emod_lt_of_pos x2 (b:=(ds.length:Int)+1) (by walk_at "o")
  generalize x2 % ((ds.length:Int)+1)=i at *
  have due:∀ (y:Str),y.length<=4->∀ out,Srt P out->∀ G',BC [p,d,s,g] G G'->jV R7 hw G' p d s g (P.add ⟨pen,P.num pen,P.time+1,.put (ic (P.seats out) i) y⟩)->G' a=some (.ins R8 aF [.lst ds])/\Q .non (gset G' a (.ins R8 aF [.lst (ds.take i.toNat ++ CB y ++ ds.drop i.toNat)])):=fun y hy out so G' of pt=>by
   refine⟨of a _ na bt.2,h _ _ _ (Aw pt na) (Jh lk so i0 (by walk_at "o") (by walk_at "o")) ?_⟩
   rw[Nj,Nj,Nq,NW,jW];omega
  clear h;rw[ag];refine cO (fE (.int (x3 % 5)) (.int 4)) (fun K hK=>?_) (zZ (fun e=>?_) fun e=>?_)
  ·walk_at "st";decide
  ·rw[ag];walk_at "s1";refine⟨P,d,s,g,⟨pa,Vm⟩,fun out so=>⟨by rw[nT lk so];omega,fun G' of pt=>?_⟩⟩
   obtain⟨q1,q2⟩:=due (MZ "\n") (by decide +kernel) out so G' of pt
   have l1:(MZ "\n").length=1:=by decide +kernel
   clear due;rw[ag];walk_at "s1";exact⟨by walk_at "o",by walk_at "o"⟩
  ·obtain⟨w,lw,aw⟩:=Iy x3 e;simp only[eY];rw[ag];walk_at "s1";refine⟨by walk_at "o",by decide,?_⟩
   rw[ag];walk_at "s1";refine⟨P,d,s,g,⟨pa,Vm⟩,fun out so=>⟨by rw[nT lk so];omega,fun G' of pt=>?_⟩⟩
   obtain⟨q1,q2⟩:=due w lw out so G' of pt;clear due;walk_at "s1";exact⟨by walk_at "o",by walk_at "o"⟩
 ·exact h.elim
theorem Ii(x:Int):∃ w:Str,iT [D.str (MZ "bold"),D.str (MZ "b"),D.str (MZ ""),D.str (MZ "red")] (x % 4)=some (.str w):=by
 have h:x % 4=0\/x % 4=1\/x % 4=2\/x % 4=3:=by walk_at "o"
 rcases h with h|h|h|h<;>rw[h]<;>exact⟨_,rfl⟩
theorem C8{ds:List D}{i j m:Nat}(h1:i<=j)(h2:j<=ds.length)(h3:m<=ds.length):(zG ds i j m).length=ds.length:=by
 unfold zG;simp only[Nj,Nq,NW];omega
theorem HY{c:Prop}[Decidable c]{a b:Prop}(h1:c->a)(h2:¬ c->b):if c then a else b:=by
 split
 ·exact h1 (by assumption)
 ·exact h2 (by assumption)
theorem vd(Z1 Z2 Z3 Z4 Z5 R7 R8:MU)(hw:HW):bC (dk Z1 Z2 Z3 Z4 Z5 R7 R8 hw) (iM Z1 Z2 Z3 Z4 Z5 R7 R8 hw) ["_law_paper","_law_plain","_law_pen","_law_xs","_law_widest","_law_many","_law_at","_law_to","_law_word","_law_goal"]:=by
 intro ds G Q h;unfold dk at h;split at h
 ·rename_i p a pen xs wd;obtain⟨P,ds,d,s,g,n,x1,x2,x3,x4,x5,⟨bt,lk,hn,⟨a1,a2,a3,a4,a5⟩,l2,w0,wl⟩,h⟩:=h;have hs:=ai;have na:=Co bt;have pa:=bt.1;have g1:=pa.1;have g2:=bt.2;have Vm:P.ok 49:=lk.ok.le (by walk_at "o")
  unfold iM;rw[ag];walk_at "s1";rw[ag];refine cO (fE (.int (ds.length:Int)) (.int 0) || decide (x1 % 14 < 5)) (D5 _ _ (fun K hK=>?_) fun _ K hK=>?_) (zZ (fun e=>?_) fun e=>?_)
  ·walk_at "st"
  ·walk_at "st";decide
  ·rw[ag];walk_at "s1";exact⟨P,ds,d,s,g,n,x2,x3,⟨bt,lk,hn,rfl,rfl,rfl,l2⟩,h⟩
  ·have nz:0 < ds.length:=by
    rcases Nat.eq_zero_or_pos ds.length with z|z
    ·rw[z]at e;have:fE (.int ((0:Nat):Int)) (.int 0)=true:=bX _;rw[this]at e;cases e
    ·exact z
   clear e;simp only[eY];rw[ag];walk_at "s1";refine⟨by walk_at "o",?_⟩
   have i0:=Int.emod_nonneg x2 (b:=(ds.length:Int)) (by walk_at "o")
   have i1:=Int.emod_lt_of_pos x2 (b:=(ds.length:Int)) (by walk_at "o")
   generalize x2 % (ds.length:Int)=i at *
   have mp:0 < (if (ds.length:Int) - i < wd then (ds.length:Int) - i else wd)/\(if (ds.length:Int) - i < wd then (ds.length:Int) - i else wd)<=60/\(if (ds.length:Int) - i < wd then (ds.length:Int) - i else wd)<=ds.length - i:=by split<;>omega
   rw[ag];walk_at "s1";refine⟨by decide,?_⟩
   generalize (if (ds.length:Int) - i < wd then (ds.length:Int) - i else wd)=m at mp ⊢
   have y1:=Int.emod_nonneg x3 (b:=m) (by walk_at "o")
   have y2:=Int.emod_lt_of_pos x3 (b:=m) (by walk_at "o")
   generalize x3 % m=y at y1 y2 ⊢;have jb:i < i+1+y/\i+1+y<=ds.length/\i+1+y - i<=60:=by walk_at "o"
   generalize i+1+y=j at jb ⊢;clear mp y1 y2;refine HY (fun _=>?_) fun _=>⟨by decide,HY (fun _=>?_) fun _=>?_⟩
   ·rw[ag];walk_at "s1";refine⟨P,d,s,g,⟨pa,Vm⟩,fun out so=>⟨by rw[nT lk so];omega,fun G' of pt=>?_⟩⟩
    have q1:=of a _ na g2;have q2:=h _ _ _ (Aw (C':=R8) pt na) (Dc lk so i0 (Int.le_of_lt jb.1) jb.2.2) (by rw[Nj,Nq,NW];omega)
    clear h;walk_at "s1";omega
   ·obtain⟨w,ew⟩:=Ii x4;rw[ag];walk_at "s1";refine⟨by walk_at "o",by decide,?_⟩
    rw[ag];walk_at "s1";refine⟨P,d,s,g,⟨pa,Vm⟩,fun out so=>⟨by rw[nT lk so];omega,fun G' of pt=>?_⟩⟩
    have q1:=of a _ na g2;have q2:=h _ _ _ (Aw (C':=R8) pt na) (Fa lk so i0 (Int.le_of_lt jb.1) jb.2.2) (by unfold sA;simp only[Nj,MY,Nq,NW];omega)
    have q3:∀ e∈ds,Ad e:=fun e he=>za lk he;clear h;walk_at "s1";exact⟨by walk_at "o",q3⟩
   ·have go:∀ z:Int,0<=z->z<=ds.length->∀ out,Srt P out->∀ G',BC [p,d,s,g] G G'->jV R7 hw G' p d s g (P.add ⟨pen,P.num pen,P.time+1,.move (jM (P.seats out) i j) (ic (P.seats out) z)⟩)->G' a=some (.ins R8 aF [.lst ds])/\Q .non (gset G' a (.ins R8 aF [.lst (zG ds i.toNat j.toNat z.toNat)])):=fun z z0 z1 out so G' of pt=>⟨of a _ na g2,h _ _ _ (Aw (C':=R8) pt na) (GV lk so i0 (Int.le_of_lt jb.1) jb.2.2 z0 z1) (by rw[C8 (by walk_at "o") (by walk_at "o") (by walk_at "o")];omega)⟩
    clear h;rw[ag];walk_at "s1";refine⟨by walk_at "o",?_⟩
    have z0:=Int.emod_nonneg x4 (b:=(ds.length:Int)+1) (by walk_at "o")
    have z1:=Int.emod_lt_of_pos x4 (b:=(ds.length:Int)+1) (by walk_at "o")
    generalize x4 % ((ds.length:Int)+1)=z at z0 z1 ⊢;refine sP (NX:=fun σ' G'=>∃ z:Int,(0<=z/\z<=ds.length)/\σ'=[some (.ref p),some (.ref a),some (.str pen),some (.lst xs),some (.int wd),some (.int ds.length),some (.int i),some (.int j),none,some (.int z)]/\G'=G) ?_ fun NX hNX=>?_
    ·rintro σ' G' ⟨z,⟨z0,z1⟩,rfl,rfl⟩
     rw[ag];walk_at "s1";refine⟨P,d,s,g,⟨pa,Vm⟩,fun out so=>⟨by rw[nT lk so];omega,fun G' of pt=>?_⟩⟩
     obtain⟨q1,q2⟩:=go z z0 z1 out so G' of pt;clear go;walk_at "s1";omega
    ·refine cO (fE (.int (x5 % 4)) (.int 0)) (fun K hK=>?_) (zZ (fun e=>?_) fun e=>?_)
     ·walk_at "st";decide
     ·have u0:=Int.emod_nonneg x4 (b:=j - i+1) (by walk_at "o")
      have u1:=Int.emod_lt_of_pos x4 (b:=j - i+1) (by walk_at "o")
      walk_at "s1";exact⟨by walk_at "o",hNX _ _ ⟨_,⟨by walk_at "o",by walk_at "o"⟩,rfl,rfl⟩⟩
     ·exact hNX _ _ ⟨z,⟨z0,by walk_at "o"⟩,rfl,rfl⟩
 ·exact h.elim
def Ms:D->D
 | .tup [_,b,c]=>.tup [b,c]
 | d=>d
theorem s_(Z1 Z2 Z3 Z4 Z5 R7 R8:MU)(hw:HW):bC (cu Z1 Z2 Z3 Z4 Z5 R7 R8 hw) (gV Z1 Z2 Z3 Z4 Z5 R7 R8 hw) ["_law_paper","_law_plain"]:=by
 intro ds G Q h;unfold cu at h;split at h
 ·rename_i p a;obtain⟨P,ds,d,s,g,⟨bt,lk,l2⟩,h⟩:=h;have hs:=ai;have pa:=bt.1;have g1:=pa.1;have g2:=bt.2;unfold gV;walk_at "s1";refine⟨P,d,s,g,⟨pa,lk.ok⟩,fun out G1 e1 so=>?_⟩;have g3:=e1 _ _ g2;have ls:=nT lk so;refine dZ Ms (by rw[MY];omega) (fun e he K hK=>?_) ?_
  ·obtain⟨k,_,rfl⟩:=mem_map.mp he;have ed:k.d3=.tup [k.name.d,.str k.sign,.str k.word]:=rfl;rw[ed]at hK ⊢;walk_at "st";exact⟨rfl,by walk_at "o",hK _ rfl⟩
  ·have ee:((P.seats out).map Seat.d3).map Ms=ds:=by
    rw[o_ lk so,lk.rv,Nr,Nr];rfl
   have qd:∀ e∈ds,pl 7 e:=fun e he=>by
    have:=za lk he;unfold Ad at this;split at this
    ·intro e he;simp only[NH,N4,or_false]at he;rcases he with rfl|rfl<;>exact trivial
    ·exact this.elim
   rw[ee];walk_at "s1";exact qd
 ·exact h.elim
theorem Ji(x:Str)(lx:x.length<=40):Lk ⟨x,[],[],[],0⟩ (CB x) 0:=
 ⟨⟨lx,le_refl _,le_refl _,le_refl _,(fun _ h=>by cases h),List.Pairwise.nil,(fun _ h=>by cases h),(fun _ _ h=>by cases h),(fun _ h=>by cases h)⟩,(fun _ h=>by cases h),List.Pairwise.nil,sn x,by rw[<- BL];exact (El x).symm⟩
theorem Lk.le{P:Pp}{ds:List D}{n m:Nat}(h:Lk P ds n)(hl:n<=m):Lk P ds m:=⟨h.ok.le hl,h.fm,h.st,h.sm,h.rv⟩
theorem zM{P:Pp}{ds:List D}{n:Nat}{k:List aM}{w:Str}(h:Lk P ds n)(e:c7 P.st k=some (.str w)):Lk (P.stand k) ds n:=by
 have dc:=JD (v:=MZ "stands") e;refine⟨dc.2.2.2.2 n h.ok,fun s hs=>?_,h.st,h.sm,h.rv⟩;show c7 (bH P.st k _) s.nm.key=_\/c7 (bH P.st k _) s.nm.key=_
 rw[gu];split
 ·exact .inr rfl
 ·exact h.fm s hs
theorem BF.ext{C C':MU}{hw0:List aM->Int}{G G':Gp}{p d s g a:MU}{P:Pp}{ds:List D}(h:BF C C' hw0 G p d s g a P ds)(e:iC G G'):BF C C' hw0 G' p d s g a P ds:=⟨h.1.ext e,e _ _ h.2⟩
theorem Iz{xs:List Int}(h:(xs.length:Int)=7):∃ x0 x1 x2 x3 x4 x5 x6:Int,iT (xs.map D.int) 0=some (.int x0)/\iT (xs.map D.int) 1=some (.int x1)/\iT (xs.map D.int) 2=some (.int x2)/\iT (xs.map D.int) 3=some (.int x3)/\iT (xs.map D.int) 4=some (.int x4)/\iT (xs.map D.int) 5=some (.int x5)/\iT (xs.map D.int) 6=some (.int x6):=
 ⟨_,_,_,_,_,_,_,mz (by decide) (by walk_at "o"),mz (by decide) (by walk_at "o"),mz (by decide) (by walk_at "o"),mz (by decide) (by walk_at "o"),mz (by decide) (by walk_at "o"),mz (by decide) (by walk_at "o"),mz (by decide) (by walk_at "o")⟩
theorem LV(x:Int):∃ w:Str,iT [D.str (MZ "ann"),D.str (MZ "anna"),D.str (MZ "bob")] (x % 3)=some (.str w):=by
 have h:x % 3=0\/x % 3=1\/x % 3=2:=by walk_at "o"
 rcases h with h|h|h<;>rw[h]<;>exact⟨_,rfl⟩
theorem BK{P:Pp}{n:Nat}(ok:P.ok n){s:Sk}(hs:s∈P.sks):c7 P.st s.nm.key=some (.str (MZ "waits"))↔s.nm∈P.wai:=by
 constructor
 ·intro e;exact mem_map.mpr ⟨s,mem_filter.mpr ⟨hs,by rw[e,Option.getD_some,bX]⟩,rfl⟩
 ·exact DT ok
theorem Cz{P:Pp}{n:Nat}(ok:P.ok n):P.wai.Nodup:=by
 have h:(P.sks.map Sk.nm).Nodup:=by
  have:=ok.ap;unfold List.Nodup;rw[Pr]at this ⊢;refine this.imp fun {a b} h e=>h ?_;injection e with e1 e2
  exact⟨e1,e2⟩
 exact h.sublist (List.filter_sublist.map _)
theorem Jg{a b:Nm}(h:a.key=b.key):a=b:=by
 obtain⟨a1,a2⟩:=a;obtain⟨b1,b2⟩:=b;simp only[Nm.key,List.cons.injEq,Sum.inr.injEq,Sum.inl.injEq,and_true]at h;obtain⟨rfl,rfl⟩:=h;rfl
theorem Ge(Z1 Z2 Z3 Z4 Z5 R7 R8:MU)(hw:HW):bC (sK Z1 Z2 Z3 Z4 Z5 R7 R8 hw) (xo Z1 Z2 Z3 Z4 Z5 R7 R8 hw) ["_law_script","_law_first","_law_old","_law_widest","_law_cells","_law_paper","_law_plain","_law_cell","_law_xs","_law_waiting","_law_name"]:=by
 intro vs G Q h;unfold sK at h;split at h
 ·obtain⟨ns,rfl,hn,hq⟩:=h;have hs:=ai;unfold xo;rw[ag];walk_at "s1";refine⟨ns,⟨rfl,by decide⟩,fun c=>?_⟩
  rw[ag];walk_at "s1";have VH:(MZ "twenty signs\nof old..").length=21:=by decide +kernel
  have b21:=mx (a:=c) (b:=21) (by decide)
  refine⟨by decide,by rw[VH];omega,?_⟩
  have lx:(⟨(n8 (MZ "twenty signs\nof old..").cps.toList none (some (c % 21))).toArray⟩:Str).length<=20:=by
   rw[Hn b21.1];show (List.toArray _).size<=20
   rw[Nb,Nq];omega
  generalize (⟨(n8 (MZ "twenty signs\nof old..").cps.toList none (some (c % 21))).toArray⟩:Str)=x at *
  clear VH b21;rw[ag];walk_at "s1";rw[ag];walk_at "s1";refine sP (NX:=fun σ' G'=>∃ (w:Int) (cs:List Int),(0 < w/\((w<=60/\cs.length<=22)\/cs.length<=10))/\σ'=[some (.lst (ns.map D.int)),some (.int c),some (.str x),some (.int w),some (.lst (cs.map D.int)),none,none,none,none,none,none]/\G'=G) ?_ fun NX hNX=>?_
  ·rintro σ' G' ⟨w,cs,hw0,rfl,rfl⟩
   rw[ag];walk_at "s1";intro p hp d s g G1 of pa;clear of hp;rw[ag];walk_at "s1";intro a ha;refine⟨by walk_at "o",?_⟩
   have na:a∉[p,d,s,g]:=fun z=>by
    simp only[NH,N4,or_false]at z;rcases z with rfl|rfl|rfl|rfl
    ·rw[pa.1]at ha;cases ha
    ·rw[pa.2.1]at ha;cases ha
    ·rw[pa.2.2.1]at ha;cases ha
    ·rw[pa.2.2.2]at ha;cases ha
   have B0:BF R7 R8 hw (gset G1 a (.ins R8 aF [.lst (CB x)])) p d s g a ⟨x,[],[],[],0⟩ (CB x):=Aw pa na;have K0:=Ji x (by walk_at "o")
   have u0:=jW x;generalize gset G1 a (.ins R8 aF [.lst (CB x)])=G2 at *
   clear pa ha na;rw[ag];walk_at "s1";refine⟨fun i σ' G'=>∃ (e f u:Option D) (P:Pp) (ds:List D),σ'=[some (.lst (ns.map D.int)),some (.int c),some (.str x),some (.int w),some (.lst (cs.map D.int)),some (.ref p),some (.ref a),e,f,u,none]/\BF R7 R8 hw G' p d s g a P ds/\Lk P ds i/\ds.length<=20+4*i,⟨none,none,none,_,_,rfl,B0,K0,by walk_at "o"⟩,?_,?_⟩
   ·rintro i dd σ' G' hd ⟨e,f,u,P,ds,rfl,bt,lk,ll⟩
    clear B0 K0 u0;have hi:i < cs.length:=by
     have:=(List.getElem?_eq_some_iff.mp hd).1;rwa[MY]at this
    rw[Ng,M1 hi]at hd;cases hd;have lc:cs.length<=22:=by walk_at "o"
    have pa:=bt.1;have g1:=pa.1;have ok50:P.ok 50:=lk.ok.le (by walk_at "o")
    have lt:=ok50.lt;walk_at "s1";rw[ag];walk_at "s1";refine⟨by decide,fun xs hx hb=>?_⟩
    obtain⟨x0,x1,x2,x3,x4,x5,x6,a0,a1,a2,a3,a4,a5,a6⟩:=Iz hx;generalize xs.map D.int=ys at *
    clear hx hb;rw[ag];walk_at "s1";refine⟨P,d,s,g,⟨pa,ok50⟩,?_⟩;have q2:=E4 P.wai;have wl:=FY P;have ls:=ok50.ls;refine sP (NX:=fun σ' G'=>∃ (e f u:Option D) (P:Pp) (ds:List D),σ'=[some (.lst (ns.map D.int)),some (.int c),some (.str x),some (.int w),some (.lst (cs.map D.int)),some (.ref p),some (.ref a),e,f,u,none]/\BF R7 R8 hw G' p d s g a P ds/\Lk P ds (i+1)/\ds.length<=20+4*(i+1)) ?_ fun NX hNX=>?_
    ·rintro σ' G3 ⟨e,f,u,P,ds,rfl,bt,lk,ll⟩
     refine BS (b:=false) ?_ fun G4 e4=>iteF ?_
     ·intro K hK;walk_at "s1";exact⟨P,ds,d,s,g,⟨bt,lk.le (by walk_at "o"),by walk_at "o"⟩,hK⟩
     ·exact⟨e,f,u,P,ds,rfl,bt.ext e4,lk,ll⟩
    ·refine cO (decide (x6 % 16 < 14) || fE (.lst (P.wai.map Nm.d)) (.lst [])) (D5 _ _ (fun K hK=>?_) fun _ K hK=>?_) (zZ (fun e=>?_) fun e=>?_)
     ·walk_at "st";decide
     ·walk_at "st";exact⟨NI _,q2,fun _ hd=>by cases hd⟩
     ·obtain⟨pen,ep⟩:=LV x0;walk_at "s1";exact⟨by walk_at "o",by decide,P,ds,d,s,g,i,x1,x2,x3,x4,x5,⟨bt,lk,by walk_at "o",⟨rfl,rfl,rfl,rfl,rfl⟩,by walk_at "o",by walk_at "o"⟩,fun G' P' ds' bt' lk' ll'=>hNX _ _ ⟨_,_,_,P',ds',rfl,bt',lk',by walk_at "o"⟩⟩
     ·have z:P.wai≠[]:=fun z=>by
       rw[z,Pf,bX,Bool.or_true]at e;cases e
      have lz:0 < P.wai.length:=List.length_pos_iff.mpr z;have lw:(P.wai.map Nm.d).length=P.wai.length:=MY _;have m1:=Int.emod_nonneg x2 (b:=(P.wai.length:Int)) (by walk_at "o")
      have m2:=Int.emod_lt_of_pos x2 (b:=(P.wai.length:Int)) (by walk_at "o")
      have at2:=uI (ds:=P.wai.map Nm.d) m1 (by walk_at "o")
      rw[Qc]at at2;have ml:(x2 % (P.wai.length:Int)).toNat < P.wai.length:=by walk_at "o"
      have hk:=DT lk.ok (O4 ml);generalize P.wai[(x2 % (P.wai.length:Int)).toNat]'ml=nm at at2 hk;obtain⟨y1,y2⟩:=nm;have ed:Nm.d (y1,y2)=.tup [.str y1,.int y2]:=rfl;rw[ed]at at2;clear ed m1 m2 ml e;have hk':c7 P.st [.inr y1,.inl y2]=some (.str (MZ "waits")):=hk;have na:=Co bt;walk_at "s1";exact⟨by walk_at "o",P,d,s,g,⟨pa,hk',lt⟩,fun G' of pt=>hNX _ _ ⟨_,_,_,_,ds,rfl,⟨pt,of a _ na bt.2⟩,(zM lk hk').le (Nat.le_succ _),by walk_at "o"⟩⟩
   ·rintro σ' G' ⟨e,f,u,P,ds,rfl,bt,lk,ll⟩
    clear B0 K0 u0;rw[MY]at lk ll;have lc:cs.length<=22:=by walk_at "o"
    have lk5:=lk.le (m:=50) (by walk_at "o")
    dsimp only;have ok50:=lk5.ok;have ls:=ok50.ls;have pa:=bt.1;have g1:=pa.1;have sk:∀ k∈P.sks,1<=k.num/\k.wd<=1000:=fun k hk=>⟨(ok50.sk k hk).1,le_trans (ok50.sk k hk).2.1 (by decide)⟩
    rw[ag];refine BS (b:=false) ?_ fun G3 e3=>iteF ?_
    ·intro K hK;walk_at "s1";refine⟨P,d,s,g,⟨pa,ls⟩,fun q hq'=>⟨NI _,P.sks,P.sks,[],⟨rfl,by walk_at "o",qT ok50.ap,by walk_at "o",by walk_at "o",fun k hk=>hk,sk,rfl,NI _⟩,fun out G3 hE so mo=>?_⟩⟩
     have en:(fF x out []).map Seat.sign=lC x:=Bf fun k hk=>(sk k ((mo k).mp hk)).1;have len:(fF x out []).length=x.length:=by
      have:=congrArg List.length en;rw[MY]at this;rw[this];unfold lC;rw[MY];rfl
     refine⟨fF x out [],⟨rfl,by walk_at "o",fun k hk=>?_⟩,?_⟩
     ·have:k.sign∈lC x:=by rw[<- en];exact mem_map.mpr ⟨k,hk,rfl⟩
      obtain⟨c,_,e⟩:=mem_map.mp this;rw[<- e];exact le_refl _
     ·rw[en,Eb,bX];exact hK _ ((iC.refl.gset hq').trans hE)
    ·have bt3:=bt.ext e3;clear bt pa g1 e3;have pa:=bt3.1;have g1:=pa.1;have na:=Co bt3;simp only[eY];rw[ag];walk_at "s1";refine⟨P,d,s,g,⟨pa,ok50⟩,fun i σ' G'=>∃ (v:Option D) (P':Pp),σ'=[some (.lst (ns.map D.int)),some (.int c),some (.str x),some (.int w),some (.lst (cs.map D.int)),some (.ref p),some (.ref a),e,f,u,v]/\BF R7 R8 hw G' p d s g a P' ds/\Lk P' ds 50/\P'.sks=P.sks/\∀ k∈P.sks,c7 P'.st k.nm.key=some (.str (MZ "waits"))↔k.nm∈P.wai.drop i,⟨none,P,rfl,bt3,lk5,rfl,fun k hk=>?_⟩,?_,?_⟩
     ·rw[PQ];exact BK ok50 hk
     ·rintro i dd σ' G' hd ⟨v,P',rfl,bt',lk',es,hw'⟩
      rw[Ng]at hd;cases hm:P.wai[i]? with
      | none=>rw[hm]at hd;cases hd
      | some nm=>
       rw[hm]at hd;cases hd;have hi:=(List.getElem?_eq_some_iff.mp hm).1;have ei:=(List.getElem?_eq_some_iff.mp hm).2;have ed:P.wai.drop i=nm::P.wai.drop (i+1):=by rw[List.drop_eq_getElem_cons hi,ei]
       have nd:nm∉P.wai.drop (i+1):=by
        have:=(Cz ok50).sublist (List.drop_sublist i _);rw[ed]at this;exact (Oo.mp this).1
       obtain⟨k0,hk0,ek0⟩:∃ k∈P.sks,k.nm=nm:=by
        obtain⟨k,hk,e⟩:=mem_map.mp (Na hm);exact⟨k,(mem_filter.mp hk).1,e⟩
       have hk:c7 P'.st nm.key=some (.str (MZ "waits")):=by
        rw[<- ek0];exact (hw' k0 hk0).mpr (by rw[ek0,ed];exact M8)
       have l5:=lk'.ok.lt;have pa':=bt'.1;have g':=pa'.1;have next:∀ k∈P.sks,c7 (P'.stand nm.key).st k.nm.key=some (.str (MZ "waits"))↔k.nm∈P.wai.drop (i+1):=fun k hk=>by
        show c7 (bH P'.st nm.key (.str (MZ "stands"))) k.nm.key=_↔_
        rw[gu];split
        ·rename_i ek;have:=Jg ek;rw[this];exact⟨fun z=>absurd (D.str.inj (Option.some.inj z)) (by decide +kernel),fun z=>absurd z nd⟩
        ·rename_i ek;rw[hw' k hk,ed,NH];exact⟨fun z=>z.elim (fun z=>absurd (by rw[z]) ek) id,.inr⟩
       have done:=zM lk' hk;obtain⟨y1,y2⟩:=nm;have ed:Nm.d (y1,y2)=.tup [.str y1,.int y2]:=rfl;have hk':c7 P'.st [.inr y1,.inl y2]=some (.str (MZ "waits")):=hk;rw[ed];have next':∀ G',jV R7 hw G' p d s g (P'.stand [.inr y1,.inl y2])->G' a=some (.ins R8 aF [.lst ds])->∃ (v:Option D) (P'':Pp),v=some (.tup [.str y1,.int y2])/\BF R7 R8 hw G' p d s g a P'' ds/\Lk P'' ds 50/\P''.sks=P.sks/\∀ k∈P.sks,c7 P''.st k.nm.key=some (.str (MZ "waits"))↔k.nm∈P.wai.drop (i+1):=fun G' pt ga=>⟨_,P'.stand [.inr y1,.inl y2],rfl,⟨pt,ga⟩,done,es,next⟩;clear next done hw' ed;walk_at "s1";refine⟨P',d,s,g,⟨pa',hk',l5⟩,fun G' of pt=>?_⟩;obtain⟨v,P'',rfl,z⟩:=next' G' pt (of a _ na bt'.2);exact⟨_,P'',rfl,z⟩
     ·rintro σ' G' ⟨v,P',rfl,bt',lk',es,hw'⟩
      rw[MY,PJ]at hw';have ew:P'.wai=[]:=by
       unfold Pp.wai Pp.inS;rw[List.filter_eq_nil_iff.mpr fun k hk z=>?_]
       ·rfl
       ·have:=(BK lk'.ok hk).mpr (mem_map.mpr ⟨k,mem_filter.mpr ⟨hk,z⟩,rfl⟩);rw[es]at hk;exact absurd ((hw' k hk).mp this) (by simp)
      have g':=bt'.1.1;clear hw';dsimp only;walk_at "s1";refine⟨P',ds,d,s,g,⟨bt',lk',by walk_at "o"⟩,fun G4 e4=>?_⟩
      have bt4:=bt'.ext e4;have g4:=bt4.1.1;walk_at "s1";refine⟨P',d,s,g,⟨bt4.1,lk'.ok⟩,NI _,E4 P'.wai,(fun _ hd=>by cases hd),?_⟩
      rw[ew,Pf,bX];exact hq _
  ·have cut:∀ n:Int,1<=n->∃ cs:List Int,L3.cutD (ns.map D.int) (some 1) (some n)=cs.map D.int/\(cs.length:Int)<=n - 1:=fun n hn=>by
    rw[jS (by decide) (by walk_at "o"),<- Pj,<- Pi]
    refine⟨_,rfl,?_⟩;rw[Nq];have:(1:Int).toNat=1:=rfl;omega
   obtain⟨c1,e1,l1⟩:=cut 23 (by decide)
   obtain⟨c2,e2,l2⟩:=cut 11 (by decide)
   rw[e1];refine cO (fE (.int (c / 21 % 4)) (.int 0)) (fun K hK=>?_) (zZ (fun e=>?_) fun e=>?_)
   ·walk_at "st";exact⟨⟨by decide,by decide⟩,by decide⟩
   ·rw[ag];walk_at "s1";exact hNX _ _ ⟨300,c2,⟨by decide,.inr (by walk_at "o")⟩,rfl,rfl⟩
   ·exact hNX _ _ ⟨5,c1,⟨by decide,.inl ⟨by decide,by walk_at "o"⟩⟩,rfl,rfl⟩
 ·exact h.elim
section
variable{Z1 Z2 Z3 Z4 Z5 R7 R8:MU}{hw:List aM->Int}
theorem qA:bD (b8 Z1 Z2 Z3 Z4 Z5 R7 R8 hw) 2:=fun _ _ _ h=>by unfold b8 at h;split at h<;>first|rfl|exact h.elim
theorem r6:bD (cA Z1 Z2 Z3 Z4 Z5 R7 R8 hw) 2:=fun _ _ _ h=>by unfold cA at h;split at h<;>first|rfl|exact h.elim
theorem vM:bD (bp Z1 Z2 Z3 Z4 Z5 R7 R8 hw) 2:=fun _ _ _ h=>by unfold bp at h;split at h<;>first|rfl|exact h.elim
theorem vN:bD (cr Z1 Z2 Z3 Z4 Z5 R7 R8 hw) 2:=fun _ _ _ h=>by unfold cr at h;split at h<;>first|rfl|exact h.elim
theorem t9:bD (cq Z1 Z2 Z3 Z4 Z5 R7 R8 hw) 3:=fun _ _ _ h=>by unfold cq at h;split at h<;>first|rfl|exact h.elim
theorem t7:bD (bw Z1 Z2 Z3 Z4 Z5 R7 R8 hw) 2:=fun _ _ _ h=>by unfold bw at h;split at h<;>first|rfl|exact h.elim
theorem vJ:bD (cn Z1 Z2 Z3 Z4 Z5 R7 R8 hw) 1:=fun _ _ _ h=>by unfold cn at h;split at h<;>first|rfl|exact h.elim
theorem nU:bD (aY Z1 Z2 Z3 Z4 Z5 R7 R8 hw) 1:=fun _ _ _ h=>by unfold aY at h;split at h<;>first|rfl|exact h.elim
theorem x_:bD (cS Z1 Z2 Z3 Z4 Z5 R7 R8 hw) 1:=fun _ _ _ h=>by unfold cS at h;split at h<;>first|rfl|exact h.elim
theorem m5:bD (aL Z1 Z2 Z3 Z4 Z5 R7 R8 hw) 3:=fun _ _ _ h=>by unfold aL at h;split at h<;>first|rfl|exact h.elim
theorem qC:bD (bx Z1 Z2 Z3 Z4 Z5 R7 R8 hw) 5:=fun _ _ _ h=>by unfold bx at h;split at h<;>first|rfl|exact h.elim
theorem m6:bD (aU Z1 Z2 Z3 Z4 Z5 R7 R8 hw) 4:=fun _ _ _ h=>by unfold aU at h;split at h<;>first|rfl|exact h.elim
theorem nY:bD (a_ Z1 Z2 Z3 Z4 Z5 R7 R8 hw) 5:=fun _ _ _ h=>by unfold a_ at h;split at h<;>first|rfl|exact h.elim
theorem pz:bD (bm Z1 Z2 Z3 Z4 Z5 R7 R8 hw) 5:=fun _ _ _ h=>by unfold bm at h;split at h<;>first|rfl|exact h.elim
theorem vI:bD (cm Z1 Z2 Z3 Z4 Z5 R7 R8 hw) 1:=fun _ _ _ h=>by unfold cm at h;split at h<;>first|rfl|exact h.elim
theorem zR:bD (eP Z1 Z2 Z3 Z4 Z5 R7 R8 hw) 1:=fun _ _ _ h=>by unfold eP at h;split at h<;>first|rfl|exact h.elim
theorem qB:bD (am Z1 Z2 Z3 Z4 Z5 R7 R8 hw) 1:=fun _ _ _ h=>by unfold am at h;split at h<;>first|rfl|exact h.elim
theorem vP:bD (aV Z1 Z2 Z3 Z4 Z5 R7 R8 hw) 1:=fun _ _ _ h=>by unfold aV at h;split at h<;>first|rfl|exact h.elim
theorem ui:bD (aQ Z1 Z2 Z3 Z4 Z5 R7 R8 hw) 1:=fun _ _ _ h=>by unfold aQ at h;split at h<;>first|rfl|exact h.elim
theorem x9:bD (dO Z1 Z2 Z3 Z4 Z5 R7 R8 hw) 2:=fun _ _ _ h=>by unfold dO at h;split at h<;>first|rfl|exact h.elim
theorem Bn:bD (d6 Z1 Z2 Z3 Z4 Z5 R7 R8 hw) 1:=fun _ _ _ h=>by unfold d6 at h;split at h<;>first|rfl|exact h.elim
theorem vK:bD (dh Z1 Z2 Z3 Z4 Z5 R7 R8 hw) 2:=fun _ _ _ h=>by unfold dh at h;split at h<;>first|rfl|exact h.elim
theorem vL:bD (dj Z1 Z2 Z3 Z4 Z5 R7 R8 hw) 3:=fun _ _ _ h=>by unfold dj at h;split at h<;>first|rfl|exact h.elim
theorem pd:bD (bK Z1 Z2 Z3 Z4 Z5 R7 R8 hw) 2:=fun _ _ _ h=>by unfold bK at h;split at h<;>first|rfl|exact h.elim
theorem nV:bD (af Z1 Z2 Z3 Z4 Z5 R7 R8 hw) 1:=fun _ _ _ h=>by unfold af at h;split at h<;>first|rfl|exact h.elim
theorem qz:bD (b7 Z1 Z2 Z3 Z4 Z5 R7 R8 hw) 1:=fun _ _ _ h=>by unfold b7 at h;split at h<;>first|rfl|exact h.elim
theorem r0:bD (cz Z1 Z2 Z3 Z4 Z5 R7 R8 hw) 1:=fun _ _ _ h=>by unfold cz at h;split at h<;>first|rfl|exact h.elim
theorem t6:bD (cR Z1 Z2 Z3 Z4 Z5 R7 R8 hw) 1:=fun _ _ _ h=>by unfold cR at h;split at h<;>first|rfl|exact h.elim
theorem Bm:bD (d5 Z1 Z2 Z3 Z4 Z5 R7 R8 hw) 3:=fun _ _ _ h=>by unfold d5 at h;split at h<;>first|rfl|exact h.elim
theorem pj:bD (bj Z1 Z2 Z3 Z4 Z5 R7 R8 hw) 1:=fun _ _ _ h=>by unfold bj at h;split at h<;>first|rfl|exact h.elim
theorem r_:bD (aS Z1 Z2 Z3 Z4 Z5 R7 R8 hw) 1:=fun _ _ _ h=>by unfold aS at h;split at h<;>first|rfl|exact h.elim
theorem zS:bD (dG Z1 Z2 Z3 Z4 Z5 R7 R8 hw) 1:=fun _ _ _ h=>by unfold dG at h;split at h<;>first|rfl|exact h.elim
theorem ub:bD (bR Z1 Z2 Z3 Z4 Z5 R7 R8 hw) 1:=fun _ _ _ h=>by unfold bR at h;split at h<;>first|rfl|exact h.elim
theorem vS:bD (cw Z1 Z2 Z3 Z4 Z5 R7 R8 hw) 1:=fun _ _ _ h=>by unfold cw at h;split at h<;>first|rfl|exact h.elim
theorem yb:bD (cX Z1 Z2 Z3 Z4 Z5 R7 R8 hw) 1:=fun _ _ _ h=>by unfold cX at h;split at h<;>first|rfl|exact h.elim
theorem uh:bD (aZ Z1 Z2 Z3 Z4 Z5 R7 R8 hw) 2:=fun _ _ _ h=>by unfold aZ at h;split at h<;>first|rfl|exact h.elim
theorem lh:bD (aH Z1 Z2 Z3 Z4 Z5 R7 R8 hw) 2:=fun _ _ _ h=>by unfold aH at h;split at h<;>first|rfl|exact h.elim
theorem lf:bD (aG Z1 Z2 Z3 Z4 Z5 R7 R8 hw) 1:=fun _ _ _ h=>by unfold aG at h;split at h<;>first|rfl|exact h.elim
theorem vR:bD (cv Z1 Z2 Z3 Z4 Z5 R7 R8 hw) 4:=fun _ _ _ h=>by unfold cv at h;split at h<;>first|rfl|exact h.elim
theorem uf:bD (cV Z1 Z2 Z3 Z4 Z5 R7 R8 hw) 3:=fun _ _ _ h=>by unfold cV at h;split at h<;>first|rfl|exact h.elim
theorem vH:bD (ck Z1 Z2 Z3 Z4 Z5 R7 R8 hw) 1:=fun _ _ _ h=>by unfold ck at h;split at h<;>first|rfl|exact h.elim
theorem vQ:bD (cN Z1 Z2 Z3 Z4 Z5 R7 R8 hw) 3:=fun _ _ _ h=>by unfold cN at h;split at h<;>first|rfl|exact h.elim
theorem ya:bD (dP Z1 Z2 Z3 Z4 Z5 R7 R8 hw) 5:=fun _ _ _ h=>by unfold dP at h;split at h<;>first|rfl|exact h.elim
theorem uc:bD (bS Z1 Z2 Z3 Z4 Z5 R7 R8 hw) 1:=fun _ _ _ h=>by unfold bS at h;split at h<;>first|rfl|exact h.elim
theorem ph:bD (aI Z1 Z2 Z3 Z4 Z5 R7 R8 hw) 3:=fun _ _ _ h=>by unfold aI at h;split at h<;>first|rfl|exact h.elim
theorem pf:bD (aR Z1 Z2 Z3 Z4 Z5 R7 R8 hw) 3:=fun _ _ _ h=>by unfold aR at h;split at h<;>first|rfl|exact h.elim
theorem qE:bD (b_ Z1 Z2 Z3 Z4 Z5 R7 R8 hw) 4:=fun _ _ _ h=>by unfold b_ at h;split at h<;>first|rfl|exact h.elim
theorem qD:bD (b9 Z1 Z2 Z3 Z4 Z5 R7 R8 hw) 3:=fun _ _ _ h=>by unfold b9 at h;split at h<;>first|rfl|exact h.elim
theorem sd:bD (cD Z1 Z2 Z3 Z4 Z5 R7 R8 hw) 5:=fun _ _ _ h=>by unfold cD at h;split at h<;>first|rfl|exact h.elim
theorem r8:bD (cB Z1 Z2 Z3 Z4 Z5 R7 R8 hw) 4:=fun _ _ _ h=>by unfold cB at h;split at h<;>first|rfl|exact h.elim
theorem ug:bD (cW Z1 Z2 Z3 Z4 Z5 R7 R8 hw) 5:=fun _ _ _ h=>by unfold cW at h;split at h<;>first|rfl|exact h.elim
theorem ud:bD (cT Z1 Z2 Z3 Z4 Z5 R7 R8 hw) 4:=fun _ _ _ h=>by unfold cT at h;split at h<;>first|rfl|exact h.elim
theorem vO:bD (dk Z1 Z2 Z3 Z4 Z5 R7 R8 hw) 5:=fun _ _ _ h=>by unfold dk at h;split at h<;>first|rfl|exact h.elim
theorem zQ:bD (dF Z1 Z2 Z3 Z4 Z5 R7 R8 hw) 3:=fun _ _ _ h=>by unfold dF at h;split at h<;>first|rfl|exact h.elim
theorem ue:bD (cU Z1 Z2 Z3 Z4 Z5 R7 R8 hw) 1:=fun _ _ _ h=>by unfold cU at h;split at h<;>first|rfl|exact h.elim
theorem t_:bD (cu Z1 Z2 Z3 Z4 Z5 R7 R8 hw) 2:=fun _ _ _ h=>by unfold cu at h;split at h<;>first|rfl|exact h.elim
theorem zP:bD (eO Z1 Z2 Z3 Z4 Z5 R7 R8 hw) 1:=fun _ _ _ h=>by unfold eO at h;split at h<;>first|rfl|exact h.elim
theorem mq:bD (bn Z1 Z2 Z3 Z4 Z5 R7 R8 hw) 2:=fun _ _ _ h=>by unfold bn at h;split at h<;>first|rfl|exact h.elim
theorem pi:bD (bh Z1 Z2 Z3 Z4 Z5 R7 R8 hw) 1:=fun _ _ _ h=>by unfold bh at h;split at h<;>first|rfl|exact h.elim
theorem lr:bD (bb Z1 Z2 Z3 Z4 Z5 R7 R8 hw) 2:=fun _ _ _ h=>by unfold bb at h;split at h<;>first|rfl|exact h.elim
theorem r9:bD (cC Z1 Z2 Z3 Z4 Z5 R7 R8 hw) 2:=fun _ _ _ h=>by unfold cC at h;split at h<;>first|rfl|exact h.elim
theorem lq:bD (ba Z1 Z2 Z3 Z4 Z5 R7 R8 hw) 2:=fun _ _ _ h=>by unfold ba at h;split at h<;>first|rfl|exact h.elim
theorem m7:bD (be Z1 Z2 Z3 Z4 Z5 R7 R8 hw) 2:=fun _ _ _ h=>by unfold be at h;split at h<;>first|rfl|exact h.elim
theorem pr:bD (bL Z1 Z2 Z3 Z4 Z5 R7 R8 hw) 1:=fun _ _ _ h=>by unfold bL at h;split at h<;>first|rfl|exact h.elim
theorem nX:bD (bF Z1 Z2 Z3 Z4 Z5 R7 R8 hw) 2:=fun _ _ _ h=>by unfold bF at h;split at h<;>first|rfl|exact h.elim
theorem nW:bD (bE Z1 Z2 Z3 Z4 Z5 R7 R8 hw) 2:=fun _ _ _ h=>by unfold bE at h;split at h<;>first|rfl|exact h.elim
theorem GX:bD (sK Z1 Z2 Z3 Z4 Z5 R7 R8 hw) 1:=fun _ _ _ h=>by unfold sK at h;split at h<;>first|rfl|exact h.elim
end
structure Tx(K:PySem.W.Frag)(mg:Str->Option MV)(Z1 Z2 Z3 Z4 Z5:MU)(R7:MU)(R8:MU):Prop where
 fa_anchor:∀ C∈[Z1,Z2,Z3,Z4,Z5],Cls K C/\db K C "anchor"
 fa_name:∀ C∈[Z1,Z2,Z3,Z4,Z5],Cls K C/\db K C "name"
 fa_names:∀ C∈[Z1,Z2,Z3,Z4,Z5],Cls K C/\db K C "names"
 fa_signs:∀ C∈[Z1,Z2,Z3,Z4,Z5],Cls K C/\db K C "signs"
 fa_time:∀ C∈[Z1,Z2,Z3,Z4,Z5],Cls K C/\db K C "time"
 fa_word:∀ C∈[Z1,Z2,Z3,Z4,Z5],Cls K C/\db K C "word"
 cl_Stroke:Cls K Z1
 cl_Put:Cls K Z2
 cl_Strike:Cls K Z3
 cl_Dress:Cls K Z4
 cl_Move:Cls K Z5
 cl_Paper:Cls K R7
 na_Paper_old:db K R7 "old"
 na_Paper_drawn:db K R7 "drawn"
 na_Paper_states:db K R7 "states"
 na_Paper_greatest:db K R7 "greatest"
 na_Paper_time:db K R7 "time"
 cl_Plain:Cls K R8
 na_Plain_worn:db K R8 "worn"
 b_all:mg "all"=none
 b_dict:mg "dict"=none
 b_int:mg "int"=none
 b_isinstance:mg "isinstance"=none
 b_len:mg "len"=none
 b_list:mg "list"=none
 b_max:mg "max"=none
 b_min:mg "min"=none
 b_range:mg "range"=none
 b_sorted:mg "sorted"=none
 b_tuple:mg "tuple"=none
 b_zip:mg "zip"=none
 k_STANDS:kQ K mg "STANDS" k_STANDS
 k_START:kQ K mg "START" k_START
 k_WAITS:kQ K mg "WAITS" k_WAITS
 k_WIPED:kQ K mg "WIPED" k_WIPED
 xm_Dress:mg "Dress"=some (.ref Z4)
 ik_Dress:∀ p∈([(Z1,false),(Z2,false),(Z3,false),(Z4,true),(Z5,false)]:List (MU×Bool)),InsAsk K p.1/\Oa K (.ref p.1) (.ref Z4)=some p.2
 xm_Move:mg "Move"=some (.ref Z5)
 ik_Move:∀ p∈([(Z1,false),(Z2,false),(Z3,false),(Z4,false),(Z5,true)]:List (MU×Bool)),InsAsk K p.1/\Oa K (.ref p.1) (.ref Z5)=some p.2
 xm_Put:mg "Put"=some (.ref Z2)
 ik_Put:∀ p∈([(Z1,false),(Z2,true),(Z3,false),(Z4,false),(Z5,false)]:List (MU×Bool)),InsAsk K p.1/\Oa K (.ref p.1) (.ref Z2)=some p.2
 xm_Strike:mg "Strike"=some (.ref Z3)
 ik_Strike:∀ p∈([(Z1,false),(Z2,false),(Z3,true),(Z4,false),(Z5,false)]:List (MU×Bool)),InsAsk K p.1/\Oa K (.ref p.1) (.ref Z3)=some p.2
section
variable{P:Nf}{w:Nn}{K:PySem.W.Frag}{mg:Str->Option MV}{base:No}{Z1 Z2 Z3 Z4 Z5 R7 R8:MU}
theorem rT{f:MU}{fd:M7}(F:Fun3 K "_law_cell_at" "_law_cell_at" iX f fd)(T:Tx K mg Z1 Z2 Z3 Z4 Z5 R7 R8) 
  : FnOk P w K mg base dE 1 f fd ["_law_script","_law_k"] (ax K (b8 Z1 Z2 Z3 Z4 Z5 R7 R8 (ah P w))):=by
 refine Fun3.ok3 F rG qA (fun cdv A outer s H E hr=>⟨fI Z1 Z2 Z3 Z4 Z5 R7 R8 (ah P w),?_,qc _ _ _ _ _ _ _ _⟩);have hu8:=u8 hr;have hu4:=u4 hr;unfold fI;exact (aq (iw (ql AE (ak 1) (bO b_len (by rfl) T.b_len PySem.boot_len (aa (ak 0) ao)) (c_ _)) (az (bc (cZ (ak 0) (ak 1)))) fj)
   (az (bc aD)))
theorem tM{f:MU}{fd:M7}(F:Fun3 K "_law_stream" "_law_stream" jw f fd)(T:Tx K mg Z1 Z2 Z3 Z4 Z5 R7 R8) 
  : FnOk P w K mg base dE 1 f fd ["_law_cell","_law_many"] (ax K (cA Z1 Z2 Z3 Z4 Z5 R7 R8 (ah P w))):=by
 refine Fun3.ok3 F c8 r6 (fun cdv A outer s H E hr=>⟨f9 Z1 Z2 Z3 Z4 Z5 R7 R8 (ah P w),?_,rM _ _ _ _ _ _ _ _⟩);have hu8:=u8 hr;have hu4:=u4 hr;unfold f9;exact (aq (HJ (i:=2) c8.nd rfl (by walk_at "i") (l7 ao))
   (aq (bo (i:=3) c8.nd rfl (by walk_at "i") (cx fA (cx DP (cx eM (ak 0) aD) aD) aD))
   (aq (bo (i:=4) c8.nd rfl (by walk_at "i") (cx BI (ak 0) aD))
   (aq (jF Ny rfl (Fk (by rfl) T.b_range (aa (ak 1) ao)) (bg (i:=5) c8.nd rfl (by walk_at "i")) (aq (bo (i:=3) c8.nd rfl (by walk_at "i") (cx fA (cx DP (cx eM (cx eM (ak 3) (cx DP aD (ak 5))) aD) (cx eM (cx BI (ak 3) aD) aD)) aD))
   (aq (bv (tK (ak 2) (aa (cZ (l7 (aa (ak 3) (aa (cx fA (ak 4) aD) ao))) (l8 JP (by rfl) T.b_int DD (aa (HN (A8 (pT hu8) (cx fA (ak 0) aD) aD (c_ _)) (HL (Ky Lx (ak 4) aD (c_ _)))) ao))) ao)))
   (az (bo (i:=4) c8.nd rfl (by walk_at "i") (cx BI (ak 4) aD))))))
   (az (zj (i:=2) rfl (by first|exact Or.inl rfl|exact Or.inr (Or.inl rfl))))))))
theorem xK{f:MU}{fd:M7}(F:Fun3 K "check_gap" "check_gap" lT f fd)(T:Tx K mg Z1 Z2 Z3 Z4 Z5 R7 R8) 
  : FnOk P w K mg base dE 1 f fd ["at","length"] (ax K (bp Z1 Z2 Z3 Z4 Z5 R7 R8 (ah P w))):=by
 refine Fun3.ok3 F xb vM (fun cdv A outer s H E hr=>⟨iL Z1 Z2 Z3 Z4 Z5 R7 R8 (ah P w),?_,va _ _ _ _ _ _ _ _⟩);have hu8:=u8 hr;have hu4:=u4 hr;unfold iL;exact (az (iw (xB (tJ FW FW aD (ak 0) (ak 1))) (az oV) fj))
theorem xL{f:MU}{fd:M7}(F:Fun3 K "anchor_at" "anchor_at" lU f fd)(T:Tx K mg Z1 Z2 Z3 Z4 Z5 R7 R8) 
  : FnOk P w K mg base dE 1 f fd ["seats","at"] (ax K (cr Z1 Z2 Z3 Z4 Z5 R7 R8 (ah P w))):=by
 refine Fun3.ok3 F xc vN (fun cdv A outer s H E hr=>⟨f8 Z1 Z2 Z3 Z4 Z5 R7 R8 (ah P w),?_,vc _ _ _ _ _ _ _ _⟩);have hu8:=u8 hr;have hu4:=u4 hr;unfold f8;exact (aq (iw (fe (pT hu8) (ak 1) aD (c_ _)) (az (bc (eV (by rfl) T.k_START))) fj)
   (az (bc (cZ (cZ (ak 0) (cx DO (ak 1) aD)) aD))))
theorem vk{f:MU}{fd:M7}(F:Fun3 K "lay_behind" "lay_behind" j8 f fd)(T:Tx K mg Z1 Z2 Z3 Z4 Z5 R7 R8) 
  : FnOk P w K mg base dE 1 f fd ["following","anchor","slots"] (ax K (cq Z1 Z2 Z3 Z4 Z5 R7 R8 (ah P w))):=by
 refine Fun3.ok3 F gQ t9 (fun cdv A outer s H E hr=>⟨gU Z1 Z2 Z3 Z4 Z5 R7 R8 (ah P w),?_,sZ _ _ _ _ _ _ _ _⟩);have hu8:=u8 hr;have hu4:=u4 hr;unfold gU;exact (aq (bo (i:=3) gQ.nd rfl (by walk_at "i") (ak 1))
   (az (jF Ny rfl (eJ (ak 2)) (bg (i:=4) gQ.nd rfl (by walk_at "i")) (aq (i7 hu8 (ak 0) (ak 4) (qZ hu8 (ak 0) (ak 3)))
   (aq (i7 hu8 (ak 0) (ak 3) (ak 4))
   (az (bo (i:=3) gQ.nd rfl (by walk_at "i") (ak 4))))))))
theorem vj{f:MU}{fd:M7}(F:Fun3 K "slots_made" "slots_made" j7 f fd)(T:Tx K mg Z1 Z2 Z3 Z4 Z5 R7 R8) 
  : FnOk P w K mg base dE 1 f fd ["name","how_many"] (ax K (bw Z1 Z2 Z3 Z4 Z5 R7 R8 (ah P w))):=by
 refine Fun3.ok3 F uS t7 (fun cdv A outer s H E hr=>⟨gT Z1 Z2 Z3 Z4 Z5 R7 R8 (ah P w),?_,sY _ _ _ _ _ _ _ _⟩);have hu8:=u8 hr;have hu4:=u4 hr;unfold gT;exact (az (bc (ix (T:=["k"]) (M:=["name","how_many"]) (bN rfl (by kernel_rfl)) (fun cl C s₀ H₀ fp=>⟨(bg (i:=0) rZ rfl (by walk_at "i")),ig,(cx eM (ak 1) (gw (aa (ak 0) ao)))⟩) (Fj (by rfl) T.b_range (aa aD (aa (cx eM (ak 1) aD) ao))))))
theorem xH{f:MU}{fd:M7}(F:Fun3 K "old_slots" "old_slots" lQ f fd)(T:Tx K mg Z1 Z2 Z3 Z4 Z5 R7 R8)(Su:Fn3 P w K mg base 1 "slots_made" [] (bw Z1 Z2 Z3 Z4 Z5 R7 R8 (ah P w)))
  : FnOk P w K mg base dE 2 f fd ["old"] (ax K (cn Z1 Z2 Z3 Z4 Z5 R7 R8 (ah P w))):=by
 refine Fun3.ok3 F w_ vJ (fun cdv A outer s H E hr=>⟨iI Z1 Z2 Z3 Z4 Z5 R7 R8 (ah P w),?_,u7 _ _ _ _ _ _ _ _⟩);have hu8:=u8 hr;have hu4:=u4 hr;unfold iI;exact (az (bc (aO Su (hr.mono (by decide)) (by rfl) (aa (de kU (eV (by rfl) T.k_START) i_ (cH aD)) (aa (bO b_len (by rfl) T.b_len PySem.boot_len (aa (ak 0) ao)) ao)))))
theorem oZ{f:MU}{fd:M7}(F:Fun3 K "place_in_order" "place_in_order" gF f fd)(T:Tx K mg Z1 Z2 Z3 Z4 Z5 R7 R8) 
  : FnOk P w K mg base dE 1 f fd ["row"] (ax K (aY Z1 Z2 Z3 Z4 Z5 R7 R8 (ah P w))):=by
 refine Fun3.ok3 F oA nU (fun cdv A outer s H E hr=>⟨eg Z1 Z2 Z3 Z4 Z5 R7 R8 (ah P w),?_,nF _ _ _ _ _ _ _ _⟩);have hu8:=u8 hr;have hu4:=u4 hr;unfold eg;exact (az (bc (gw (aa (cZ (ak 0) aD) (aa (cZ (ak 0) aD) ao)))))
theorem zw{f:MU}{fd:M7}(F:Fun3 K "in_order" "in_order" nA f fd)(T:Tx K mg Z1 Z2 Z3 Z4 Z5 R7 R8)(SK:Fn3 P w K mg base 1 "place_in_order" [] (aY Z1 Z2 Z3 Z4 Z5 R7 R8 (ah P w)))
  : FnOk P w K mg base dE 4 f fd ["rows"] (ax K (cS Z1 Z2 Z3 Z4 Z5 R7 R8 (ah P w))):=by
 refine Fun3.ok3 F lE x_ (fun cdv A outer s H E hr=>⟨jl Z1 Z2 Z3 Z4 Z5 R7 R8 (ah P w),?_,xk _ _ _ _ _ _ _ _⟩);have hu8:=u8 hr;have hu4:=u4 hr;unfold jl;exact (aq (bo (i:=1) lE.nd rfl (by walk_at "i") qm)
   (aq (IC Ny rfl (ak 0) (bg (i:=2) lE.nd rfl (by walk_at "i")) (az (i7 hu8 (ak 1) (cZ (ak 2) aD) (ak 2))))
   (az (bc (GD SK (hr.mono (by decide)) rfl (by rfl) (by rfl) T.b_sorted (ak 1))))))
theorem nM{f:MU}{fd:M7}(F:Fun3 K "__init__" "Stroke.__init__" d_ f fd)(T:Tx K mg Z1 Z2 Z3 Z4 Z5 R7 R8) 
  : FnOk P w K mg base dE 1 f fd ["self","name","time"] (ax K (aL Z1 Z2 Z3 Z4 Z5 R7 R8 (ah P w))):=by
 refine Fun3.ok3 F nr m5 (fun cdv A outer s H E hr=>⟨dS Z1 Z2 Z3 Z4 Z5 R7 R8 (ah P w),?_,mW _ _ _ _ _ _ _ _⟩);have hu8:=u8 hr;have hu4:=u4 hr;unfold dS;exact (aq (i8 T.fa_name (ak 0) (ak 1))
   (aq (i8 T.fa_time (ak 0) (ak 2))
   (aq (i8 T.fa_anchor (ak 0) (eV (by rfl) T.k_START))
   (az (i8 T.fa_names (ak 0) (gw ao))))))
theorem rU{f:MU}{fd:M7}(F:Fun3 K "__init__" "Put.__init__" iY f fd)(T:Tx K mg Z1 Z2 Z3 Z4 Z5 R7 R8)(Sb:Cf3 P w K mg base 1 "Stroke" "__init__" [] (aL Z1 Z2 Z3 Z4 Z5 R7 R8 (ah P w)))
  : FnOk P w K mg base dE 2 f fd ["self","name","time","anchor","signs"] (ax K (bx Z1 Z2 Z3 Z4 Z5 R7 R8 (ah P w))):=by
 refine Fun3.ok3 F rJ qC (fun cdv A outer s H E hr=>⟨fK Z1 Z2 Z3 Z4 Z5 R7 R8 (ah P w),?_,qf _ _ _ _ _ _ _ _⟩);have hu8:=u8 hr;have hu4:=u4 hr;unfold fK;exact (aq (bv (mG Sb (hr.mono (by decide)) (by rfl) (aa (ak 0) (aa (ak 1) (aa (ak 2) ao)))))
   (aq (i8 T.fa_anchor (ak 0) (ak 3))
   (az (i8 T.fa_signs (ak 0) (ak 4)))))
theorem nN{f:MU}{fd:M7}(F:Fun3 K "__init__" "Strike.__init__" fZ f fd)(T:Tx K mg Z1 Z2 Z3 Z4 Z5 R7 R8)(Sb:Cf3 P w K mg base 1 "Stroke" "__init__" [] (aL Z1 Z2 Z3 Z4 Z5 R7 R8 (ah P w)))
  : FnOk P w K mg base dE 2 f fd ["self","name","time","names"] (ax K (aU Z1 Z2 Z3 Z4 Z5 R7 R8 (ah P w))):=by
 refine Fun3.ok3 F nu m6 (fun cdv A outer s H E hr=>⟨dU Z1 Z2 Z3 Z4 Z5 R7 R8 (ah P w),?_,mX _ _ _ _ _ _ _ _⟩);have hu8:=u8 hr;have hu4:=u4 hr;unfold dU;exact (aq (bv (mG Sb (hr.mono (by decide)) (by rfl) (aa (ak 0) (aa (ak 1) (aa (ak 2) ao)))))
   (az (i8 T.fa_names (ak 0) (ak 3))))
theorem o7{f:MU}{fd:M7}(F:Fun3 K "__init__" "Dress.__init__" gI f fd)(T:Tx K mg Z1 Z2 Z3 Z4 Z5 R7 R8)(Sb:Cf3 P w K mg base 1 "Stroke" "__init__" [] (aL Z1 Z2 Z3 Z4 Z5 R7 R8 (ah P w)))
  : FnOk P w K mg base dE 2 f fd ["self","name","time","names","word"] (ax K (a_ Z1 Z2 Z3 Z4 Z5 R7 R8 (ah P w))):=by
 refine Fun3.ok3 F oG nY (fun cdv A outer s H E hr=>⟨eF Z1 Z2 Z3 Z4 Z5 R7 R8 (ah P w),?_,nJ _ _ _ _ _ _ _ _⟩);have hu8:=u8 hr;have hu4:=u4 hr;unfold eF;exact (aq (bv (mG Sb (hr.mono (by decide)) (by rfl) (aa (ak 0) (aa (ak 1) (aa (ak 2) ao)))))
   (aq (i8 T.fa_names (ak 0) (ak 3))
   (az (i8 T.fa_word (ak 0) (ak 4)))))
theorem qv{f:MU}{fd:M7}(F:Fun3 K "__init__" "Move.__init__" ir f fd)(T:Tx K mg Z1 Z2 Z3 Z4 Z5 R7 R8)(Sb:Cf3 P w K mg base 1 "Stroke" "__init__" [] (aL Z1 Z2 Z3 Z4 Z5 R7 R8 (ah P w)))
  : FnOk P w K mg base dE 2 f fd ["self","name","time","names","anchor"] (ax K (bm Z1 Z2 Z3 Z4 Z5 R7 R8 (ah P w))):=by
 refine Fun3.ok3 F p5 pz (fun cdv A outer s H E hr=>⟨fc Z1 Z2 Z3 Z4 Z5 R7 R8 (ah P w),?_,oU _ _ _ _ _ _ _ _⟩);have hu8:=u8 hr;have hu4:=u4 hr;unfold fc;exact (aq (bv (mG Sb (hr.mono (by decide)) (by rfl) (aa (ak 0) (aa (ak 1) (aa (ak 2) ao)))))
   (aq (i8 T.fa_names (ak 0) (ak 3))
   (az (i8 T.fa_anchor (ak 0) (ak 4)))))
theorem xG{f:MU}{fd:M7}(F:Fun3 K "stroke_of" "stroke_of" lP f fd)(T:Tx K mg Z1 Z2 Z3 Z4 Z5 R7 R8)(Tt:Mk3 P w K mg base 2 "Dress" Z4 [] (a_ Z1 Z2 Z3 Z4 Z5 R7 R8 (ah P w)))(TY:Mk3 P w K mg base 2 "Move" Z5 [] (bm Z1 Z2 Z3 Z4 Z5 R7 R8 (ah P w)))(UF:Mk3 P w K mg base 2 "Put" Z2 [] (bx Z1 Z2 Z3 Z4 Z5 R7 R8 (ah P w)))(Td:Mk3 P w K mg base 2 "Strike" Z3 [] (aU Z1 Z2 Z3 Z4 Z5 R7 R8 (ah P w)))
  : FnOk P w K mg base dE 4 f fd ["row"] (ax K (cm Z1 Z2 Z3 Z4 Z5 R7 R8 (ah P w))):=by
 refine Fun3.ok3 F iD vI (fun cdv A outer s H E hr=>⟨iH Z1 Z2 Z3 Z4 Z5 R7 R8 (ah P w),?_,u6 _ _ _ _ _ _ _ _⟩);have hu8:=u8 hr;have hu4:=u4 hr;unfold iH;exact (aq (bo (i:=1) iD.nd rfl (by walk_at "i") (cZ (ak 0) aD))
   (aq (bo (i:=2) iD.nd rfl (by walk_at "i") (cZ (ak 0) aD))
   (aq (bo (i:=3) iD.nd rfl (by walk_at "i") (cZ (ak 0) aD))
   (aq (iw (fe (pT hu8) (cZ (ak 3) aD) eG (c_ _)) (az (bc (jC UF (hr.mono (by decide)) (by rfl) (aa (ak 1) (aa (ak 2) (aa (cZ (ak 3) aD) (aa (cZ (ak 3) aD) ao))))))) fj)
   (aq (iw (fe (pT hu8) (cZ (ak 3) aD) eG (c_ _)) (az (bc (jC Td (hr.mono (by decide)) (by rfl) (aa (ak 1) (aa (ak 2) (aa (cZ (ak 3) aD) ao)))))) fj)
   (aq (iw (fe (pT hu8) (cZ (ak 3) aD) eG (c_ _)) (az (bc (jC Tt (hr.mono (by decide)) (by rfl) (aa (ak 1) (aa (ak 2) (aa (cZ (ak 3) aD) (aa (cZ (ak 3) aD) ao))))))) fj)
   (az (bc (jC TY (hr.mono (by decide)) (by rfl) (aa (ak 1) (aa (ak 2) (aa (cZ (ak 3) aD) (aa (cZ (ak 3) aD) ao)))))))))))))
theorem Bc{f:MU}{fd:M7}(F:Fun3 K "chained" "chained" p8 f fd)(T:Tx K mg Z1 Z2 Z3 Z4 Z5 R7 R8) 
  : FnOk P w K mg base dE 1 f fd ["following"] (ax K (eP Z1 Z2 Z3 Z4 Z5 R7 R8 (ah P w))):=by
 refine Fun3.ok3 F j5 zR (fun cdv A outer s H E hr=>⟨kE Z1 Z2 Z3 Z4 Z5 R7 R8 (ah P w),?_,zf _ _ _ _ _ _ _ _⟩);have hu8:=u8 hr;have hu4:=u4 hr;unfold kE;exact (aq (HJ (i:=1) j5.nd rfl (by walk_at "i") (l7 ao))
   (aq (bo (i:=2) j5.nd rfl (by walk_at "i") (qZ hu8 (ak 0) (eV (by rfl) T.k_START)))
   (aq (Gi Ny (ql Ig (ak 2) HM (c_ _)) (aq (bv (tK (ak 1) (aa (ak 2) ao)))
   (az (bo (i:=2) j5.nd rfl (by walk_at "i") (qZ hu8 (ak 0) (ak 2))))))
   (az (zj (i:=1) rfl (by first|exact Or.inl rfl|exact Or.inr (Or.inl rfl)))))))
theorem iz{f:MU}{fd:M7}(F:Fun3 K "slots" "Stroke.slots" eR f fd)(T:Tx K mg Z1 Z2 Z3 Z4 Z5 R7 R8) 
  : FnOk P w K mg base dE 1 f fd ["self"] (ax K (am Z1 Z2 Z3 Z4 Z5 R7 R8 (ah P w))):=by
 refine Fun3.ok3 F rH qB (fun cdv A outer s H E hr=>⟨fJ Z1 Z2 Z3 Z4 Z5 R7 R8 (ah P w),?_,qe _ _ _ _ _ _ _ _⟩);have hu8:=u8 hr;have hu4:=u4 hr;unfold fJ;exact (az (bc (l7 ao)))
theorem xN{f:MU}{fd:M7}(F:Fun3 K "slots" "Put.slots" lW f fd)(T:Tx K mg Z1 Z2 Z3 Z4 Z5 R7 R8)(Su:Fn3 P w K mg base 1 "slots_made" [] (bw Z1 Z2 Z3 Z4 Z5 R7 R8 (ah P w)))
  : FnOk P w K mg base dE 2 f fd ["self"] (ax K (aV Z1 Z2 Z3 Z4 Z5 R7 R8 (ah P w))):=by
 refine Fun3.ok3 F xf vP (fun cdv A outer s H E hr=>⟨iN Z1 Z2 Z3 Z4 Z5 R7 R8 (ah P w),?_,ve _ _ _ _ _ _ _ _⟩);have hu8:=u8 hr;have hu4:=u4 hr;unfold iN;exact (az (bc (aO Su (hr.mono (by decide)) (by rfl) (aa (bV T.fa_name (ak 0)) (aa (bO b_len (by rfl) T.b_len PySem.boot_len (aa (bV T.fa_signs (ak 0)) ao)) ao)))))
theorem vA{f:MU}{fd:M7}(F:Fun3 K "slots" "Move.slots" kq f fd)(T:Tx K mg Z1 Z2 Z3 Z4 Z5 R7 R8)(Su:Fn3 P w K mg base 1 "slots_made" [] (bw Z1 Z2 Z3 Z4 Z5 R7 R8 (ah P w)))
  : FnOk P w K mg base dE 2 f fd ["self"] (ax K (aQ Z1 Z2 Z3 Z4 Z5 R7 R8 (ah P w))):=by
 refine Fun3.ok3 F uZ ui (fun cdv A outer s H E hr=>⟨hU Z1 Z2 Z3 Z4 Z5 R7 R8 (ah P w),?_,tE _ _ _ _ _ _ _ _⟩);have hu8:=u8 hr;have hu4:=u4 hr;unfold hU;exact (az (bc (aO Su (hr.mono (by decide)) (by rfl) (aa (bV T.fa_name (ak 0)) (aa (bO b_len (by rfl) T.b_len PySem.boot_len (aa (bV T.fa_names (ak 0)) ao)) ao)))))
theorem zt{f:MU}{fd:M7}(F:Fun3 K "slots_of" "slots_of" nw f fd)(T:Tx K mg Z1 Z2 Z3 Z4 Z5 R7 R8)(T0:Fn3 P w K mg base 1 "chained" [] (eP Z1 Z2 Z3 Z4 Z5 R7 R8 (ah P w)))(SL:Fn3 P w K mg base 4 "in_order" [] (cS Z1 Z2 Z3 Z4 Z5 R7 R8 (ah P w)))(SW:Fn3 P w K mg base 1 "lay_behind" [] (cq Z1 Z2 Z3 Z4 Z5 R7 R8 (ah P w)))(SH:Fn3 P w K mg base 2 "old_slots" [] (cn Z1 Z2 Z3 Z4 Z5 R7 R8 (ah P w)))(SG:Fn3 P w K mg base 4 "stroke_of" [] (cm Z1 Z2 Z3 Z4 Z5 R7 R8 (ah P w)))(Sc:Mt3 P w K mg base 1 Z1 "slots" [] (am Z1 Z2 Z3 Z4 Z5 R7 R8 (ah P w)))(Sn:Mt3 P w K mg base 2 Z2 "slots" [] (aV Z1 Z2 Z3 Z4 Z5 R7 R8 (ah P w)))(Sd:Mt3 P w K mg base 1 Z3 "slots" [] (am Z1 Z2 Z3 Z4 Z5 R7 R8 (ah P w)))(Sf:Mt3 P w K mg base 1 Z4 "slots" [] (am Z1 Z2 Z3 Z4 Z5 R7 R8 (ah P w)))(Sj:Mt3 P w K mg base 2 Z5 "slots" [] (aQ Z1 Z2 Z3 Z4 Z5 R7 R8 (ah P w)))
  : FnOk P w K mg base dE 5 f fd ["old","strokes"] (ax K (dO Z1 Z2 Z3 Z4 Z5 R7 R8 (ah P w))):=by
 refine Fun3.ok3 F lD x9 (fun cdv A outer s H E hr=>⟨jk Z1 Z2 Z3 Z4 Z5 R7 R8 (ah P w),?_,xj _ _ _ _ _ _ _ _⟩);have hu8:=u8 hr;have hu4:=u4 hr;unfold jk;exact (aq (bo (i:=2) lD.nd rfl (by walk_at "i") (GG hu8 (eV (by rfl) T.k_START) HM))
   (aq (bv (aO SW (hr.mono (by decide)) (by rfl) (aa (ak 2) (aa (eV (by rfl) T.k_START) (aa (aO SH (hr.mono (by decide)) (by rfl) (aa (ak 0) ao)) ao)))))
   (aq (jF Ny rfl (eJ (ix (T:=["row"]) (M:=["old","strokes","following","stroke"]) (bN rfl (by kernel_rfl)) (fun cl C s₀ H₀ fp=>⟨(bg (i:=0) vF rfl (by walk_at "i")),ig,(aO SG (hr.mono (by decide)) (by rfl) (aa (ak 0) ao))⟩) (eJ (aO SL (hr.mono (by decide)) (by rfl) (aa (ak 1) ao))))) (bg (i:=3) lD.nd rfl (by walk_at "i")) (az (iw (A7 hu8 (bV T.fa_anchor (ak 3)) (ak 2)) (az (bv (aO SW (hr.mono (by decide)) (by rfl) (aa (ak 2) (aa (bV T.fa_anchor (ak 3)) (aa (hZ (k:=2) (all_cons ⟨_,(by decide),Sc⟩ (all_cons ⟨_,(by decide),Sn⟩ (all_cons ⟨_,(by decide),Sd⟩ (all_cons ⟨_,(by decide),Sf⟩ (all_cons ⟨_,(by decide),Sj⟩ (fun _ h=>nomatch h)))))) (hr.mono (by decide)) (ak 3)) ao)))))) fj)))
   (az (bc (aO T0 (hr.mono (by decide)) (by rfl) (aa (ak 2) ao)))))))
theorem C0{f:MU}{fd:M7}(F:Fun3 K "marked" "marked" sT f fd)(T:Tx K mg Z1 Z2 Z3 Z4 Z5 R7 R8) 
  : FnOk P w K mg base dE 1 f fd ["keys"] (ax K (d6 Z1 Z2 Z3 Z4 Z5 R7 R8 (ah P w))):=by
 refine Fun3.ok3 F CL Bn (fun cdv A outer s H E hr=>⟨mF Z1 Z2 Z3 Z4 Z5 R7 R8 (ah P w),?_,AW _ _ _ _ _ _ _ _⟩);have hu8:=u8 hr;have hu4:=u4 hr;unfold mF;exact (az (bc (GF hu8 rfl (by rfl) T.b_dict (ix (T:=["key"]) (M:=["keys"]) (bN rfl (by kernel_rfl)) (fun cl C s₀ H₀ fp=>⟨(bg (i:=0) zE rfl (by walk_at "i")),ig,(gw (aa (ak 0) (aa GH ao)))⟩) (eJ (ak 0))))))
theorem xI{f:MU}{fd:M7}(F:Fun3 K "is_placed" "is_placed" lR f fd)(T:Tx K mg Z1 Z2 Z3 Z4 Z5 R7 R8)(Sc:Mt3 P w K mg base 1 Z1 "slots" [] (am Z1 Z2 Z3 Z4 Z5 R7 R8 (ah P w)))(Sn:Mt3 P w K mg base 2 Z2 "slots" [] (aV Z1 Z2 Z3 Z4 Z5 R7 R8 (ah P w)))(Sd:Mt3 P w K mg base 1 Z3 "slots" [] (am Z1 Z2 Z3 Z4 Z5 R7 R8 (ah P w)))(Sf:Mt3 P w K mg base 1 Z4 "slots" [] (am Z1 Z2 Z3 Z4 Z5 R7 R8 (ah P w)))(Sj:Mt3 P w K mg base 2 Z5 "slots" [] (aQ Z1 Z2 Z3 Z4 Z5 R7 R8 (ah P w)))
  : FnOk P w K mg base dE 3 f fd ["stroke","in_row"] (ax K (dh Z1 Z2 Z3 Z4 Z5 R7 R8 (ah P w))):=by
 refine Fun3.ok3 F xa vK (fun cdv A outer s H E hr=>⟨iJ Z1 Z2 Z3 Z4 Z5 R7 R8 (ah P w),?_,u9 _ _ _ _ _ _ _ _⟩);have hu8:=u8 hr;have hu4:=u4 hr;unfold iJ;exact (az (bc (bO (JQ rfl) (by rfl) T.b_all PyProof.Rows.boot_all (aa (ix (T:=["slot"]) (M:=["stroke","in_row"]) (bN rfl (by kernel_rfl)) (fun cl C s₀ H₀ fp=>⟨(bg (i:=0) tV rfl (by walk_at "i")),ig,(Kx hu8 (ak 0) (ak 2))⟩) (eJ (hZ (k:=2) (all_cons ⟨_,(by decide),Sc⟩ (all_cons ⟨_,(by decide),Sn⟩ (all_cons ⟨_,(by decide),Sd⟩ (all_cons ⟨_,(by decide),Sf⟩ (all_cons ⟨_,(by decide),Sj⟩ (fun _ h=>nomatch h)))))) (hr.mono (by decide)) (ak 0)))) ao))))
theorem xJ{f:MU}{fd:M7}(F:Fun3 K "effective" "effective" lS f fd)(T:Tx K mg Z1 Z2 Z3 Z4 Z5 R7 R8)(SL:Fn3 P w K mg base 4 "in_order" [] (cS Z1 Z2 Z3 Z4 Z5 R7 R8 (ah P w)))(To:Fn3 P w K mg base 3 "is_placed" [] (dh Z1 Z2 Z3 Z4 Z5 R7 R8 (ah P w)))(Tf:Fn3 P w K mg base 1 "marked" [] (d6 Z1 Z2 Z3 Z4 Z5 R7 R8 (ah P w)))(SG:Fn3 P w K mg base 4 "stroke_of" [] (cm Z1 Z2 Z3 Z4 Z5 R7 R8 (ah P w)))
  : FnOk P w K mg base dE 5 f fd ["strokes","standing","in_row"] (ax K (dj Z1 Z2 Z3 Z4 Z5 R7 R8 (ah P w))):=by
 refine Fun3.ok3 F j0 vL (fun cdv A outer s H E hr=>⟨iK Z1 Z2 Z3 Z4 Z5 R7 R8 (ah P w),?_,u_ _ _ _ _ _ _ _ _⟩);have hu8:=u8 hr;have hu4:=u4 hr;unfold iK;exact (aq (bo (i:=3) j0.nd rfl (by walk_at "i") (aO Tf (hr.mono (by decide)) (by rfl) (aa (ak 1) ao)))
   (aq (A1 (T:=["row"]) (M:=["strokes","standing","in_row","stands","chosen"]) (i:=4) (bN rfl (by kernel_rfl)) j0.nd rfl rfl (fun cl C s₀ H₀ fp=>⟨(bg (i:=0) tX rfl (by walk_at "i")),(sJ (A7 hu8 (cZ (ak 0) aD) (ak 4))),(aO SG (hr.mono (by decide)) (by rfl) (aa (ak 0) ao))⟩) (eJ (aO SL (hr.mono (by decide)) (by rfl) (aa (ak 0) ao))))
   (az (bc (ix (T:=["stroke"]) (M:=["strokes","standing","in_row","stands","chosen"]) (bN rfl (by kernel_rfl)) (fun cl C s₀ H₀ fp=>⟨(bg (i:=0) tW rfl (by walk_at "i")),(sJ (jH (aO To (hr.mono (by decide)) (by rfl) (aa (ak 0) (aa (ak 3) ao))))),(ak 0)⟩) (eJ (ak 4)))))))
theorem qo{f:MU}{fd:M7}(F:Fun3 K "signs_brought" "signs_brought" ij f fd)(T:Tx K mg Z1 Z2 Z3 Z4 Z5 R7 R8)(SH:Fn3 P w K mg base 2 "old_slots" [] (cn Z1 Z2 Z3 Z4 Z5 R7 R8 (ah P w)))(Sc:Mt3 P w K mg base 1 Z1 "slots" [] (am Z1 Z2 Z3 Z4 Z5 R7 R8 (ah P w)))(Sn:Mt3 P w K mg base 2 Z2 "slots" [] (aV Z1 Z2 Z3 Z4 Z5 R7 R8 (ah P w)))(Sd:Mt3 P w K mg base 1 Z3 "slots" [] (am Z1 Z2 Z3 Z4 Z5 R7 R8 (ah P w)))(Sf:Mt3 P w K mg base 1 Z4 "slots" [] (am Z1 Z2 Z3 Z4 Z5 R7 R8 (ah P w)))(Sj:Mt3 P w K mg base 2 Z5 "slots" [] (aQ Z1 Z2 Z3 Z4 Z5 R7 R8 (ah P w)))
  : FnOk P w K mg base dE 3 f fd ["old","strokes"] (ax K (bK Z1 Z2 Z3 Z4 Z5 R7 R8 (ah P w))):=by
 refine Fun3.ok3 F dJ pd (fun cdv A outer s H E hr=>⟨eZ Z1 Z2 Z3 Z4 Z5 R7 R8 (ah P w),?_,oM _ _ _ _ _ _ _ _⟩);have hu8:=u8 hr;have hu4:=u4 hr;unfold eZ;exact (aq (bo (i:=2) dJ.nd rfl (by walk_at "i") (GE hu8 rfl (by rfl) T.b_dict (by rfl) T.b_zip (aa (aO SH (hr.mono (by decide)) (by rfl) (aa (ak 0) ao)) (aa (ak 0) ao))))
   (aq (jF Ny rfl (eJ (ak 1)) (bg (i:=3) dJ.nd rfl (by walk_at "i")) (az (iw (jH (bO (Cp T.ik_Put) (by rfl) T.b_isinstance P4 (aa (ak 3) (aa (xD (by rfl) T.xm_Put) ao)))) (az (jF Ny rfl (HZ (by rfl) T.b_zip (aa (hZ (k:=2) (all_cons ⟨_,(by decide),Sc⟩ (all_cons ⟨_,(by decide),Sn⟩ (all_cons ⟨_,(by decide),Sd⟩ (all_cons ⟨_,(by decide),Sf⟩ (all_cons ⟨_,(by decide),Sj⟩ (fun _ h=>nomatch h)))))) (hr.mono (by decide)) (ak 3)) (aa (bV T.fa_signs (ak 3)) ao))) (Af (n:=2) rfl (jg (bg (i:=4) dJ.nd rfl (by walk_at "i")) (jg (bg (i:=5) dJ.nd rfl (by walk_at "i")) Ag))) (az (i7 hu8 (ak 2) (ak 4) (ak 5))))) fj)))
   (az (bc (ak 2)))))
theorem dz{f:MU}{fd:M7}(F:Fun3 K "touched" "Stroke.touched" cg f fd)(T:Tx K mg Z1 Z2 Z3 Z4 Z5 R7 R8) 
  : FnOk P w K mg base dE 1 f fd ["self"] (ax K (af Z1 Z2 Z3 Z4 Z5 R7 R8 (ah P w))):=by
 refine Fun3.ok3 F oB nV (fun cdv A outer s H E hr=>⟨eh Z1 Z2 Z3 Z4 Z5 R7 R8 (ah P w),?_,nG _ _ _ _ _ _ _ _⟩);have hu8:=u8 hr;have hu4:=u4 hr;unfold eh;exact (az (bc (l8 b_list (by rfl) T.b_list PyProof.Rows.boot_list (aa (bV T.fa_names (ak 0)) ao))))
theorem rS{f:MU}{fd:M7}(F:Fun3 K "signs_struck" "signs_struck" iW f fd)(T:Tx K mg Z1 Z2 Z3 Z4 Z5 R7 R8)(Sg:Mt3 P w K mg base 1 Z1 "touched" [] (af Z1 Z2 Z3 Z4 Z5 R7 R8 (ah P w)))(Sr:Mt3 P w K mg base 1 Z2 "touched" [] (af Z1 Z2 Z3 Z4 Z5 R7 R8 (ah P w)))(Sh:Mt3 P w K mg base 1 Z3 "touched" [] (af Z1 Z2 Z3 Z4 Z5 R7 R8 (ah P w)))(Sm:Mt3 P w K mg base 1 Z4 "touched" [] (af Z1 Z2 Z3 Z4 Z5 R7 R8 (ah P w)))(So:Mt3 P w K mg base 1 Z5 "touched" [] (af Z1 Z2 Z3 Z4 Z5 R7 R8 (ah P w)))
  : FnOk P w K mg base dE 2 f fd ["strokes"] (ax K (b7 Z1 Z2 Z3 Z4 Z5 R7 R8 (ah P w))):=by
 refine Fun3.ok3 F fG qz (fun cdv A outer s H E hr=>⟨fH Z1 Z2 Z3 Z4 Z5 R7 R8 (ah P w),?_,qa _ _ _ _ _ _ _ _⟩);have hu8:=u8 hr;have hu4:=u4 hr;unfold fH;exact (aq (bo (i:=1) fG.nd rfl (by walk_at "i") qm)
   (aq (jF Ny rfl (eJ (ak 0)) (bg (i:=2) fG.nd rfl (by walk_at "i")) (az (iw (jH (bO (Cp T.ik_Strike) (by rfl) T.b_isinstance P4 (aa (ak 2) (aa (xD (by rfl) T.xm_Strike) ao)))) (az (jF Ny rfl (eJ (hZ (k:=1) (all_cons ⟨_,(by decide),Sg⟩ (all_cons ⟨_,(by decide),Sr⟩ (all_cons ⟨_,(by decide),Sh⟩ (all_cons ⟨_,(by decide),Sm⟩ (all_cons ⟨_,(by decide),So⟩ (fun _ h=>nomatch h)))))) (hr.mono (by decide)) (ak 2))) (bg (i:=3) fG.nd rfl (by walk_at "i")) (az (i7 hu8 (ak 1) (ak 3) GH)))) fj)))
   (az (bc (ak 1)))))
theorem tL{f:MU}{fd:M7}(F:Fun3 K "slots_taken" "slots_taken" jv f fd)(T:Tx K mg Z1 Z2 Z3 Z4 Z5 R7 R8)(Sc:Mt3 P w K mg base 1 Z1 "slots" [] (am Z1 Z2 Z3 Z4 Z5 R7 R8 (ah P w)))(Sn:Mt3 P w K mg base 2 Z2 "slots" [] (aV Z1 Z2 Z3 Z4 Z5 R7 R8 (ah P w)))(Sd:Mt3 P w K mg base 1 Z3 "slots" [] (am Z1 Z2 Z3 Z4 Z5 R7 R8 (ah P w)))(Sf:Mt3 P w K mg base 1 Z4 "slots" [] (am Z1 Z2 Z3 Z4 Z5 R7 R8 (ah P w)))(Sj:Mt3 P w K mg base 2 Z5 "slots" [] (aQ Z1 Z2 Z3 Z4 Z5 R7 R8 (ah P w)))(Sg:Mt3 P w K mg base 1 Z1 "touched" [] (af Z1 Z2 Z3 Z4 Z5 R7 R8 (ah P w)))(Sr:Mt3 P w K mg base 1 Z2 "touched" [] (af Z1 Z2 Z3 Z4 Z5 R7 R8 (ah P w)))(Sh:Mt3 P w K mg base 1 Z3 "touched" [] (af Z1 Z2 Z3 Z4 Z5 R7 R8 (ah P w)))(Sm:Mt3 P w K mg base 1 Z4 "touched" [] (af Z1 Z2 Z3 Z4 Z5 R7 R8 (ah P w)))(So:Mt3 P w K mg base 1 Z5 "touched" [] (af Z1 Z2 Z3 Z4 Z5 R7 R8 (ah P w)))
  : FnOk P w K mg base dE 3 f fd ["strokes"] (ax K (cz Z1 Z2 Z3 Z4 Z5 R7 R8 (ah P w))):=by
 refine Fun3.ok3 F eQ r0 (fun cdv A outer s H E hr=>⟨f7 Z1 Z2 Z3 Z4 Z5 R7 R8 (ah P w),?_,rL _ _ _ _ _ _ _ _⟩);have hu8:=u8 hr;have hu4:=u4 hr;unfold f7;exact (aq (bo (i:=1) eQ.nd rfl (by walk_at "i") qm)
   (aq (jF Ny rfl (eJ (ak 0)) (bg (i:=2) eQ.nd rfl (by walk_at "i")) (az (iw (jH (bO (Cp T.ik_Move) (by rfl) T.b_isinstance P4 (aa (ak 2) (aa (xD (by rfl) T.xm_Move) ao)))) (az (jF Ny rfl (HZ (by rfl) T.b_zip (aa (hZ (k:=1) (all_cons ⟨_,(by decide),Sg⟩ (all_cons ⟨_,(by decide),Sr⟩ (all_cons ⟨_,(by decide),Sh⟩ (all_cons ⟨_,(by decide),Sm⟩ (all_cons ⟨_,(by decide),So⟩ (fun _ h=>nomatch h)))))) (hr.mono (by decide)) (ak 2)) (aa (hZ (k:=2) (all_cons ⟨_,(by decide),Sc⟩ (all_cons ⟨_,(by decide),Sn⟩ (all_cons ⟨_,(by decide),Sd⟩ (all_cons ⟨_,(by decide),Sf⟩ (all_cons ⟨_,(by decide),Sj⟩ (fun _ h=>nomatch h)))))) (hr.mono (by decide)) (ak 2)) ao))) (Af (n:=2) rfl (jg (bg (i:=3) eQ.nd rfl (by walk_at "i")) (jg (bg (i:=4) eQ.nd rfl (by walk_at "i")) Ag))) (az (i7 hu8 (ak 1) (ak 3) (ak 4))))) fj)))
   (az (bc (ak 1)))))
theorem vi{f:MU}{fd:M7}(F:Fun3 K "words_worn" "words_worn" j6 f fd)(T:Tx K mg Z1 Z2 Z3 Z4 Z5 R7 R8)(Sg:Mt3 P w K mg base 1 Z1 "touched" [] (af Z1 Z2 Z3 Z4 Z5 R7 R8 (ah P w)))(Sr:Mt3 P w K mg base 1 Z2 "touched" [] (af Z1 Z2 Z3 Z4 Z5 R7 R8 (ah P w)))(Sh:Mt3 P w K mg base 1 Z3 "touched" [] (af Z1 Z2 Z3 Z4 Z5 R7 R8 (ah P w)))(Sm:Mt3 P w K mg base 1 Z4 "touched" [] (af Z1 Z2 Z3 Z4 Z5 R7 R8 (ah P w)))(So:Mt3 P w K mg base 1 Z5 "touched" [] (af Z1 Z2 Z3 Z4 Z5 R7 R8 (ah P w)))
  : FnOk P w K mg base dE 2 f fd ["strokes"] (ax K (cR Z1 Z2 Z3 Z4 Z5 R7 R8 (ah P w))):=by
 refine Fun3.ok3 F gP t6 (fun cdv A outer s H E hr=>⟨gR Z1 Z2 Z3 Z4 Z5 R7 R8 (ah P w),?_,sX _ _ _ _ _ _ _ _⟩);have hu8:=u8 hr;have hu4:=u4 hr;unfold gR;exact (aq (bo (i:=1) gP.nd rfl (by walk_at "i") qm)
   (aq (jF Ny rfl (eJ (ak 0)) (bg (i:=2) gP.nd rfl (by walk_at "i")) (az (iw (jH (bO (Cp T.ik_Dress) (by rfl) T.b_isinstance P4 (aa (ak 2) (aa (xD (by rfl) T.xm_Dress) ao)))) (az (jF Ny rfl (eJ (hZ (k:=1) (all_cons ⟨_,(by decide),Sg⟩ (all_cons ⟨_,(by decide),Sr⟩ (all_cons ⟨_,(by decide),Sh⟩ (all_cons ⟨_,(by decide),Sm⟩ (all_cons ⟨_,(by decide),So⟩ (fun _ h=>nomatch h)))))) (hr.mono (by decide)) (ak 2))) (bg (i:=3) gP.nd rfl (by walk_at "i")) (az (i7 hu8 (ak 1) (ak 3) (bV T.fa_word (ak 2)))))) fj)))
   (az (bc (ak 1)))))
theorem CZ{f:MU}{fd:M7}(F:Fun3 K "seated" "seated" sS f fd)(T:Tx K mg Z1 Z2 Z3 Z4 Z5 R7 R8)(Tp:Fn3 P w K mg base 5 "effective" [] (dj Z1 Z2 Z3 Z4 Z5 R7 R8 (ah P w)))(Tf:Fn3 P w K mg base 1 "marked" [] (d6 Z1 Z2 Z3 Z4 Z5 R7 R8 (ah P w)))(SO:Fn3 P w K mg base 3 "signs_brought" [] (bK Z1 Z2 Z3 Z4 Z5 R7 R8 (ah P w)))(S2:Fn3 P w K mg base 2 "signs_struck" [] (b7 Z1 Z2 Z3 Z4 Z5 R7 R8 (ah P w)))(TF:Fn3 P w K mg base 5 "slots_of" [] (dO Z1 Z2 Z3 Z4 Z5 R7 R8 (ah P w)))(Ta:Fn3 P w K mg base 3 "slots_taken" [] (cz Z1 Z2 Z3 Z4 Z5 R7 R8 (ah P w)))(Tj:Fn3 P w K mg base 2 "words_worn" [] (cR Z1 Z2 Z3 Z4 Z5 R7 R8 (ah P w)))
  : FnOk P w K mg base dE 6 f fd ["old","strokes","standing"] (ax K (d5 Z1 Z2 Z3 Z4 Z5 R7 R8 (ah P w))):=by
 refine Fun3.ok3 F d7 Bm (fun cdv A outer s H E hr=>⟨mE Z1 Z2 Z3 Z4 Z5 R7 R8 (ah P w),?_,AV _ _ _ _ _ _ _ _⟩);have hu8:=u8 hr;have hu4:=u4 hr;unfold mE;exact (aq (bo (i:=3) d7.nd rfl (by walk_at "i") (aO TF (hr.mono (by decide)) (by rfl) (aa (ak 0) (aa (ak 1) ao))))
   (aq (bo (i:=4) d7.nd rfl (by walk_at "i") (aO Tp (hr.mono (by decide)) (by rfl) (aa (ak 1) (aa (ak 2) (aa (aO Tf (hr.mono (by decide)) (by rfl) (aa (ak 3) ao)) ao)))))
   (aq (bo (i:=5) d7.nd rfl (by walk_at "i") (aO SO (hr.mono (by decide)) (by rfl) (aa (ak 0) (aa (ak 4) ao))))
   (aq (bo (i:=6) d7.nd rfl (by walk_at "i") (aO S2 (hr.mono (by decide)) (by rfl) (aa (ak 4) ao)))
   (aq (bo (i:=7) d7.nd rfl (by walk_at "i") (aO Ta (hr.mono (by decide)) (by rfl) (aa (ak 4) ao)))
   (aq (bo (i:=8) d7.nd rfl (by walk_at "i") (aO Tj (hr.mono (by decide)) (by rfl) (aa (ak 4) ao)))
   (aq (bo (i:=9) d7.nd rfl (by walk_at "i") qm)
   (aq (ID Ny rfl (ak 5) (bg (i:=10) d7.nd rfl (by walk_at "i")) (az (iw (wq hu8 (ak 10) (ak 6)) (az (i7 hu8 (ak 9) (xC hu8 (ak 7) (ak 10) (ak 10)) (ak 10))) fj)))
   (aq (A1 (T:=["slot"]) (M:=["old","strokes","standing","row","working","brought","struck","taken","worn","sitting","name","seats"]) (i:=11) (bN rfl (by kernel_rfl)) d7.nd rfl rfl (fun cl C s₀ H₀ fp=>⟨(bg (i:=0) zD rfl (by walk_at "i")),(sJ (A7 hu8 (ak 0) (ak 10))),(gw (aa (ak 0) (aa (qZ hu8 (ak 10) (ak 0)) ao)))⟩) (eJ (ak 3)))
   (az (bc (ix (T:=["slot","name"]) (M:=["old","strokes","standing","row","working","brought","struck","taken","worn","sitting","-name","seats"]) (bN rfl (by kernel_rfl)) (fun cl C s₀ H₀ fp=>⟨(Af (n:=2) rfl (jg (bg (i:=0) q_ rfl (by walk_at "i")) (jg (bg (i:=1) q_ rfl (by walk_at "i")) Ag))),ig,(gw (aa (ak 0) (aa (ak 1) (aa (qZ hu8 (ak 7) (ak 1)) (aa (xC hu8 (ak 10) (ak 1) eG) ao)))))⟩) (eJ (ak 11))))))))))))))
theorem qt{f:MU}{fd:M7}(F:Fun3 K "unwiped" "Paper.unwiped" ip f fd)(T:Tx K mg Z1 Z2 Z3 Z4 Z5 R7 R8) 
  : FnOk P w K mg base dE 1 f fd ["self"] (ax K (bj Z1 Z2 Z3 Z4 Z5 R7 R8 (ah P w))):=by
 refine Fun3.ok3 F p3 pj (fun cdv A outer s H E hr=>⟨e_ Z1 Z2 Z3 Z4 Z5 R7 R8 (ah P w),?_,oQ _ _ _ _ _ _ _ _⟩);have hu8:=u8 hr;have hu4:=u4 hr;unfold e_;exact (az (bc (B3 (T:=["row"]) (M:=["self"]) (bN rfl (by kernel_rfl)) (fun cl C s₀ H₀ fp=>⟨(bg (i:=0) nR rfl (by walk_at "i")),(sJ (fe (Ih hu8) (qZ hu8 (cE T.cl_Paper T.na_Paper_states dg (ak 1)) (cZ (ak 0) aD)) (eV (by rfl) T.k_WIPED) (c_ _))),(cZ (ak 0) aD)⟩) (cE T.cl_Paper T.na_Paper_drawn dN (ak 0)))))
theorem tP{f:MU}{fd:M7}(F:Fun3 K "seats" "Paper.seats" jz f fd)(T:Tx K mg Z1 Z2 Z3 Z4 Z5 R7 R8)(Te:Fn3 P w K mg base 6 "seated" [] (d5 Z1 Z2 Z3 Z4 Z5 R7 R8 (ah P w)))(Sv:Mt3 P w K mg base 1 R7 "unwiped" [] (bj Z1 Z2 Z3 Z4 Z5 R7 R8 (ah P w)))
  : FnOk P w K mg base dE 7 f fd ["self"] (ax K (aS Z1 Z2 Z3 Z4 Z5 R7 R8 (ah P w))):=by
 refine Fun3.ok3 F sR r_ (fun cdv A outer s H E hr=>⟨gd Z1 Z2 Z3 Z4 Z5 R7 R8 (ah P w),?_,rP _ _ _ _ _ _ _ _⟩);have hu8:=u8 hr;have hu4:=u4 hr;unfold gd;exact (az (bc (aO Te (hr.mono (by decide)) (by rfl) (aa (cE T.cl_Paper T.na_Paper_old pJ (ak 0)) (aa (cE T.cl_Paper T.na_Paper_drawn dN (ak 0)) (aa (dy Sv jI (hr.mono (by decide)) (ak 0)) ao))))))
theorem Bd{f:MU}{fd:M7}(F:Fun3 K "row" "Put.row" p9 f fd)(T:Tx K mg Z1 Z2 Z3 Z4 Z5 R7 R8) 
  : FnOk P w K mg base dE 1 f fd ["self"] (ax K (dG Z1 Z2 Z3 Z4 Z5 R7 R8 (ah P w))):=by
 refine Fun3.ok3 F AR zS (fun cdv A outer s H E hr=>⟨kF Z1 Z2 Z3 Z4 Z5 R7 R8 (ah P w),?_,zg _ _ _ _ _ _ _ _⟩);have hu8:=u8 hr;have hu4:=u4 hr;unfold kF;exact (az (bc (gw (aa (bV T.fa_name (ak 0)) (aa (bV T.fa_time (ak 0)) (aa (gw (aa eG (aa (bV T.fa_anchor (ak 0)) (aa (bV T.fa_signs (ak 0)) ao)))) ao))))))
theorem vn{f:MU}{fd:M7}(F:Fun3 K "row" "Strike.row" j_ f fd)(T:Tx K mg Z1 Z2 Z3 Z4 Z5 R7 R8) 
  : FnOk P w K mg base dE 1 f fd ["self"] (ax K (bR Z1 Z2 Z3 Z4 Z5 R7 R8 (ah P w))):=by
 refine Fun3.ok3 F uU ub (fun cdv A outer s H E hr=>⟨gW Z1 Z2 Z3 Z4 Z5 R7 R8 (ah P w),?_,tf _ _ _ _ _ _ _ _⟩);have hu8:=u8 hr;have hu4:=u4 hr;unfold gW;exact (az (bc (gw (aa (bV T.fa_name (ak 0)) (aa (bV T.fa_time (ak 0)) (aa (gw (aa eG (aa (bV T.fa_names (ak 0)) ao))) ao))))))
theorem xQ{f:MU}{fd:M7}(F:Fun3 K "row" "Dress.row" lZ f fd)(T:Tx K mg Z1 Z2 Z3 Z4 Z5 R7 R8) 
  : FnOk P w K mg base dE 1 f fd ["self"] (ax K (cw Z1 Z2 Z3 Z4 Z5 R7 R8 (ah P w))):=by
 refine Fun3.ok3 F xh vS (fun cdv A outer s H E hr=>⟨iQ Z1 Z2 Z3 Z4 Z5 R7 R8 (ah P w),?_,vh _ _ _ _ _ _ _ _⟩);have hu8:=u8 hr;have hu4:=u4 hr;unfold iQ;exact (az (bc (gw (aa (bV T.fa_name (ak 0)) (aa (bV T.fa_time (ak 0)) (aa (gw (aa eG (aa (bV T.fa_names (ak 0)) (aa (bV T.fa_word (ak 0)) ao)))) ao))))))
theorem zy{f:MU}{fd:M7}(F:Fun3 K "row" "Move.row" nC f fd)(T:Tx K mg Z1 Z2 Z3 Z4 Z5 R7 R8) 
  : FnOk P w K mg base dE 1 f fd ["self"] (ax K (cX Z1 Z2 Z3 Z4 Z5 R7 R8 (ah P w))):=by
 refine Fun3.ok3 F y9 yb (fun cdv A outer s H E hr=>⟨jn Z1 Z2 Z3 Z4 Z5 R7 R8 (ah P w),?_,xm _ _ _ _ _ _ _ _⟩);have hu8:=u8 hr;have hu4:=u4 hr;unfold jn;exact (az (bc (gw (aa (bV T.fa_name (ak 0)) (aa (bV T.fa_time (ak 0)) (aa (gw (aa eG (aa (bV T.fa_names (ak 0)) (aa (bV T.fa_anchor (ak 0)) ao)))) ao))))))
theorem vz{f:MU}{fd:M7}(F:Fun3 K "draw" "Paper.draw" ko f fd)(T:Tx K mg Z1 Z2 Z3 Z4 Z5 R7 R8)(TD:Mt3 P w K mg base 1 Z2 "row" [] (dG Z1 Z2 Z3 Z4 Z5 R7 R8 (ah P w)))(S6:Mt3 P w K mg base 1 Z3 "row" [] (bR Z1 Z2 Z3 Z4 Z5 R7 R8 (ah P w)))(Ti:Mt3 P w K mg base 1 Z4 "row" [] (cw Z1 Z2 Z3 Z4 Z5 R7 R8 (ah P w)))(Tl:Mt3 P w K mg base 1 Z5 "row" [] (cX Z1 Z2 Z3 Z4 Z5 R7 R8 (ah P w)))
  : FnOk P w K mg base dE 2 f fd ["self","stroke"] (ax K (aZ Z1 Z2 Z3 Z4 Z5 R7 R8 (ah P w))):=by
 refine Fun3.ok3 F uY uh (fun cdv A outer s H E hr=>⟨hJ Z1 Z2 Z3 Z4 Z5 R7 R8 (ah P w),?_,tD _ _ _ _ _ _ _ _⟩);have hu8:=u8 hr;have hu4:=u4 hr;unfold hJ;exact (aq (bv (tK (cE T.cl_Paper T.na_Paper_drawn dN (ak 0)) (aa (hZ (k:=1) (all_cons ⟨_,(by decide),TD⟩ (all_cons ⟨_,(by decide),S6⟩ (all_cons ⟨_,(by decide),Ti⟩ (all_cons ⟨_,(by decide),Tl⟩ (fun _ h=>nomatch h))))) (hr.mono (by decide)) (ak 1)) ao)))
   (aq (i7 hu8 (cE T.cl_Paper T.na_Paper_states dg (ak 0)) (bV T.fa_name (ak 1)) (eV (by rfl) T.k_WAITS))
   (aq (i7 hu8 (cE T.cl_Paper T.na_Paper_greatest jp (ak 0)) (cZ (bV T.fa_name (ak 1)) aD) (cZ (bV T.fa_name (ak 1)) aD))
   (aq (zk T.cl_Paper T.na_Paper_time nj (by decide) (ak 0) (bV T.fa_time (ak 1)))
   (az (bc (bV T.fa_name (ak 1))))))))
theorem l_{f:MU}{fd:M7}(F:Fun3 K "coming_name" "Paper.coming_name" ft f fd)(T:Tx K mg Z1 Z2 Z3 Z4 Z5 R7 R8) 
  : FnOk P w K mg base dE 1 f fd ["self","pen"] (ax K (aH Z1 Z2 Z3 Z4 Z5 R7 R8 (ah P w))):=by
 refine Fun3.ok3 F lK lh (fun cdv A outer s H E hr=>⟨dq Z1 Z2 Z3 Z4 Z5 R7 R8 (ah P w),?_,kX _ _ _ _ _ _ _ _⟩);have hu8:=u8 hr;have hu4:=u4 hr;unfold dq;exact (az (bc (gw (aa (ak 1) (aa (cx eM (xC hu8 (cE T.cl_Paper T.na_Paper_greatest jp (ak 0)) (ak 1) aD) aD) ao)))))
theorem l9{f:MU}{fd:M7}(F:Fun3 K "coming_time" "Paper.coming_time" fq f fd)(T:Tx K mg Z1 Z2 Z3 Z4 Z5 R7 R8) 
  : FnOk P w K mg base dE 1 f fd ["self"] (ax K (aG Z1 Z2 Z3 Z4 Z5 R7 R8 (ah P w))):=by
 refine Fun3.ok3 F lJ lf (fun cdv A outer s H E hr=>⟨dm Z1 Z2 Z3 Z4 Z5 R7 R8 (ah P w),?_,kW _ _ _ _ _ _ _ _⟩);have hu8:=u8 hr;have hu4:=u4 hr;unfold dm;exact (az (bc (cx eM (cE T.cl_Paper T.na_Paper_time nj (ak 0)) aD)))
theorem xP{f:MU}{fd:M7}(F:Fun3 K "put" "Paper.put" lY f fd)(T:Tx K mg Z1 Z2 Z3 Z4 Z5 R7 R8)(SI:Fn3 P w K mg base 1 "anchor_at" [] (cr Z1 Z2 Z3 Z4 Z5 R7 R8 (ah P w)))(Ss:Fn3 P w K mg base 1 "check_gap" [] (bp Z1 Z2 Z3 Z4 Z5 R7 R8 (ah P w)))(Sa:Mt3 P w K mg base 1 R7 "coming_name" [] (aH Z1 Z2 Z3 Z4 Z5 R7 R8 (ah P w)))(R_:Mt3 P w K mg base 1 R7 "coming_time" [] (aG Z1 Z2 Z3 Z4 Z5 R7 R8 (ah P w)))(Si:Mt3 P w K mg base 2 R7 "draw" [] (aZ Z1 Z2 Z3 Z4 Z5 R7 R8 (ah P w)))(Se:Mt3 P w K mg base 7 R7 "seats" [] (aS Z1 Z2 Z3 Z4 Z5 R7 R8 (ah P w)))(UF:Mk3 P w K mg base 2 "Put" Z2 [] (bx Z1 Z2 Z3 Z4 Z5 R7 R8 (ah P w)))
  : FnOk P w K mg base dE 8 f fd ["self","pen","at","signs"] (ax K (cv Z1 Z2 Z3 Z4 Z5 R7 R8 (ah P w))):=by
 refine Fun3.ok3 F oE vR (fun cdv A outer s H E hr=>⟨iP Z1 Z2 Z3 Z4 Z5 R7 R8 (ah P w),?_,vg _ _ _ _ _ _ _ _⟩);have hu8:=u8 hr;have hu4:=u4 hr;unfold iP;exact (aq (bo (i:=4) oE.nd rfl (by walk_at "i") (dy Se gq (hr.mono (by decide)) (ak 0)))
   (aq (bv (aO Ss (hr.mono (by decide)) (by rfl) (aa (ak 2) (aa (bO b_len (by rfl) T.b_len PySem.boot_len (aa (ak 4) ao)) ao))))
   (az (bc (cG Si hV (hr.mono (by decide)) (ak 0) (aa (jC UF (hr.mono (by decide)) (by rfl) (aa (cG Sa dC (hr.mono (by decide)) (ak 0) (aa (ak 1) ao)) (aa (dy R_ dB (hr.mono (by decide)) (ak 0)) (aa (aO SI (hr.mono (by decide)) (by rfl) (aa (ak 4) (aa (ak 2) ao))) (aa (ak 3) ao))))) ao))))))
theorem vt{f:MU}{fd:M7}(F:Fun3 K "part" "Paper.part" kj f fd)(T:Tx K mg Z1 Z2 Z3 Z4 Z5 R7 R8)(SB:Mt3 P w K mg base 8 R7 "put" [] (cv Z1 Z2 Z3 Z4 Z5 R7 R8 (ah P w)))
  : FnOk P w K mg base dE 9 f fd ["self","pen","at"] (ax K (cV Z1 Z2 Z3 Z4 Z5 R7 R8 (ah P w))):=by
 refine Fun3.ok3 F uX uf (fun cdv A outer s H E hr=>⟨g6 Z1 Z2 Z3 Z4 Z5 R7 R8 (ah P w),?_,tw _ _ _ _ _ _ _ _⟩);have hu8:=u8 hr;have hu4:=u4 hr;unfold g6;exact (az (bc (cG SB o9 (hr.mono (by decide)) (ak 0) (aa (ak 1) (aa (ak 2) (aa eG ao))))))
theorem xF{f:MU}{fd:M7}(F:Fun3 K "undressed" "undressed" lO f fd)(T:Tx K mg Z1 Z2 Z3 Z4 Z5 R7 R8) 
  : FnOk P w K mg base dE 1 f fd ["signs"] (ax K (ck Z1 Z2 Z3 Z4 Z5 R7 R8 (ah P w))):=by
 refine Fun3.ok3 F w8 vH (fun cdv A outer s H E hr=>⟨iG Z1 Z2 Z3 Z4 Z5 R7 R8 (ah P w),?_,u5 _ _ _ _ _ _ _ _⟩);have hu8:=u8 hr;have hu4:=u4 hr;unfold iG;exact (az (bc (ix (T:=["sign"]) (M:=["signs"]) (bN rfl (by kernel_rfl)) (fun cl C s₀ H₀ fp=>⟨(bg (i:=0) tU rfl (by walk_at "i")),ig,(gw (aa (ak 0) (aa eG ao)))⟩) (eJ (ak 0)))))
theorem xO{f:MU}{fd:M7}(F:Fun3 K "put" "Plain.put" lX f fd)(T:Tx K mg Z1 Z2 Z3 Z4 Z5 R7 R8)(Ss:Fn3 P w K mg base 1 "check_gap" [] (bp Z1 Z2 Z3 Z4 Z5 R7 R8 (ah P w)))(SF:Fn3 P w K mg base 1 "undressed" [] (ck Z1 Z2 Z3 Z4 Z5 R7 R8 (ah P w)))
  : FnOk P w K mg base dE 2 f fd ["self","at","signs"] (ax K (cN Z1 Z2 Z3 Z4 Z5 R7 R8 (ah P w))):=by
 refine Fun3.ok3 F xg vQ (fun cdv A outer s H E hr=>⟨iO Z1 Z2 Z3 Z4 Z5 R7 R8 (ah P w),?_,vf _ _ _ _ _ _ _ _⟩);have hu8:=u8 hr;have hu4:=u4 hr;unfold iO;exact (aq (bv (aO Ss (hr.mono (by decide)) (by rfl) (aa (ak 1) (aa (bO b_len (by rfl) T.b_len PySem.boot_len (aa (cE T.cl_Plain T.na_Plain_worn aK (ak 0)) ao)) ao))))
   (az (zk T.cl_Plain T.na_Plain_worn aK (by decide) (ak 0) (cx eM (cx eM (de kU (cE T.cl_Plain T.na_Plain_worn aK (ak 0)) i_ (cH (ak 1))) (aO SF (hr.mono (by decide)) (by rfl) (aa (ak 2) ao))) (de kU (cE T.cl_Plain T.na_Plain_worn aK (ak 0)) (cH (ak 1)) i_)))))
theorem zx{f:MU}{fd:M7}(F:Fun3 K "_law_put" "_law_put" nB f fd)(T:Tx K mg Z1 Z2 Z3 Z4 Z5 R7 R8)(S9:Mt3 P w K mg base 9 R7 "part" [] (cV Z1 Z2 Z3 Z4 Z5 R7 R8 (ah P w)))(SB:Mt3 P w K mg base 8 R7 "put" [] (cv Z1 Z2 Z3 Z4 Z5 R7 R8 (ah P w)))(SV:Mt3 P w K mg base 2 R8 "put" [] (cN Z1 Z2 Z3 Z4 Z5 R7 R8 (ah P w)))
  : FnOk P w K mg base dE 10 f fd ["_law_paper","_law_plain","_law_pen","_law_xs","_law_many"] (ax K (dP Z1 Z2 Z3 Z4 Z5 R7 R8 (ah P w))):=by
 refine Fun3.ok3 F lF ya (fun cdv A outer s H E hr=>⟨jm Z1 Z2 Z3 Z4 Z5 R7 R8 (ah P w),?_,xl _ _ _ _ _ _ _ _⟩);have hu8:=u8 hr;have hu4:=u4 hr;unfold jm;exact (aq (bo (i:=5) lF.nd rfl (by walk_at "i") (cx fA (cZ (ak 3) aD) (cx eM (ak 4) aD)))
   (aq (iw (fe (pT hu8) (cx fA (cZ (ak 3) aD) aD) aD (c_ _)) (aq (bv (cG S9 vD (hr.mono (by decide)) (ak 0) (aa (ak 2) (aa (ak 5) ao))))
   (aq (bv (cG SV o8 (hr.mono (by decide)) (ak 1) (aa (ak 5) (aa eG ao))))
   (az Ew))) fj)
   (aq (bo (i:=6) lF.nd rfl (by walk_at "i") (cZ (l7 (aa eG (aa eG (aa eG (aa eG ao))))) (cx fA (cZ (ak 3) aD) aD)))
   (aq (bv (cG SB o9 (hr.mono (by decide)) (ak 0) (aa (ak 2) (aa (ak 5) (aa (ak 6) ao)))))
   (az (bv (cG SV o8 (hr.mono (by decide)) (ak 1) (aa (ak 5) (aa (ak 6) ao)))))))))
theorem vo{f:MU}{fd:M7}(F:Fun3 K "rows" "Plain.rows" ke f fd)(T:Tx K mg Z1 Z2 Z3 Z4 Z5 R7 R8) 
  : FnOk P w K mg base dE 1 f fd ["self"] (ax K (bS Z1 Z2 Z3 Z4 Z5 R7 R8 (ah P w))):=by
 refine Fun3.ok3 F uV uc (fun cdv A outer s H E hr=>⟨gX Z1 Z2 Z3 Z4 Z5 R7 R8 (ah P w),?_,tj _ _ _ _ _ _ _ _⟩);have hu8:=u8 hr;have hu4:=u4 hr;unfold gX;exact (az (bc (l8 b_list (by rfl) T.b_list PyProof.Rows.boot_list (aa (cE T.cl_Plain T.na_Plain_worn aK (ak 0)) ao))))
theorem qq{f:MU}{fd:M7}(F:Fun3 K "check_stretch" "check_stretch" il f fd)(T:Tx K mg Z1 Z2 Z3 Z4 Z5 R7 R8) 
  : FnOk P w K mg base dE 1 f fd ["at","to","length"] (ax K (aI Z1 Z2 Z3 Z4 Z5 R7 R8 (ah P w))):=by
 refine Fun3.ok3 F pY ph (fun cdv A outer s H E hr=>⟨e8 Z1 Z2 Z3 Z4 Z5 R7 R8 (ah P w),?_,oO _ _ _ _ _ _ _ _⟩);have hu8:=u8 hr;have hu4:=u4 hr;unfold e8;exact (aq (iw (xB (tJ FW AE aD (ak 0) (ak 2))) (az oV) fj)
   (az (iw (xB (tJ AE FW (ak 0) (ak 1) (ak 2))) (az oV) fj)))
theorem qp{f:MU}{fd:M7}(F:Fun3 K "names_between" "names_between" ik f fd)(T:Tx K mg Z1 Z2 Z3 Z4 Z5 R7 R8) 
  : FnOk P w K mg base dE 1 f fd ["seats","at","to"] (ax K (aR Z1 Z2 Z3 Z4 Z5 R7 R8 (ah P w))):=by
 refine Fun3.ok3 F pX pf (fun cdv A outer s H E hr=>⟨e7 Z1 Z2 Z3 Z4 Z5 R7 R8 (ah P w),?_,oN _ _ _ _ _ _ _ _⟩);have hu8:=u8 hr;have hu4:=u4 hr;unfold e7;exact (az (bc (l8 b_tuple (by rfl) T.b_tuple PyProof.Rows.boot_tuple (aa (ix (T:=["seat"]) (M:=["seats","at","to"]) (bN rfl (by kernel_rfl)) (fun cl C s₀ H₀ fp=>⟨(bg (i:=0) nP rfl (by walk_at "i")),ig,(cZ (ak 0) aD)⟩) (eJ (de kU (ak 0) (cH (ak 1)) (cH (ak 2))))) ao))))
theorem rW{f:MU}{fd:M7}(F:Fun3 K "strike" "Paper.strike" i5 f fd)(T:Tx K mg Z1 Z2 Z3 Z4 Z5 R7 R8)(R9:Fn3 P w K mg base 1 "check_stretch" [] (aI Z1 Z2 Z3 Z4 Z5 R7 R8 (ah P w)))(Sq:Fn3 P w K mg base 1 "names_between" [] (aR Z1 Z2 Z3 Z4 Z5 R7 R8 (ah P w)))(Sa:Mt3 P w K mg base 1 R7 "coming_name" [] (aH Z1 Z2 Z3 Z4 Z5 R7 R8 (ah P w)))(R_:Mt3 P w K mg base 1 R7 "coming_time" [] (aG Z1 Z2 Z3 Z4 Z5 R7 R8 (ah P w)))(Si:Mt3 P w K mg base 2 R7 "draw" [] (aZ Z1 Z2 Z3 Z4 Z5 R7 R8 (ah P w)))(Se:Mt3 P w K mg base 7 R7 "seats" [] (aS Z1 Z2 Z3 Z4 Z5 R7 R8 (ah P w)))(Td:Mk3 P w K mg base 2 "Strike" Z3 [] (aU Z1 Z2 Z3 Z4 Z5 R7 R8 (ah P w)))
  : FnOk P w K mg base dE 8 f fd ["self","pen","at","to"] (ax K (b_ Z1 Z2 Z3 Z4 Z5 R7 R8 (ah P w))):=by
 refine Fun3.ok3 F kR qE (fun cdv A outer s H E hr=>⟨fM Z1 Z2 Z3 Z4 Z5 R7 R8 (ah P w),?_,qh _ _ _ _ _ _ _ _⟩);have hu8:=u8 hr;have hu4:=u4 hr;unfold fM;exact (aq (bo (i:=4) kR.nd rfl (by walk_at "i") (dy Se gq (hr.mono (by decide)) (ak 0)))
   (aq (bv (aO R9 (hr.mono (by decide)) (by rfl) (aa (ak 2) (aa (ak 3) (aa (bO b_len (by rfl) T.b_len PySem.boot_len (aa (ak 4) ao)) ao)))))
   (az (bc (cG Si hV (hr.mono (by decide)) (ak 0) (aa (jC Td (hr.mono (by decide)) (by rfl) (aa (cG Sa dC (hr.mono (by decide)) (ak 0) (aa (ak 1) ao)) (aa (dy R_ dB (hr.mono (by decide)) (ak 0)) (aa (aO Sq (hr.mono (by decide)) (by rfl) (aa (ak 4) (aa (ak 2) (aa (ak 3) ao)))) ao)))) ao))))))
theorem rV{f:MU}{fd:M7}(F:Fun3 K "strike" "Plain.strike" iZ f fd)(T:Tx K mg Z1 Z2 Z3 Z4 Z5 R7 R8)(R9:Fn3 P w K mg base 1 "check_stretch" [] (aI Z1 Z2 Z3 Z4 Z5 R7 R8 (ah P w)))
  : FnOk P w K mg base dE 2 f fd ["self","at","to"] (ax K (b9 Z1 Z2 Z3 Z4 Z5 R7 R8 (ah P w))):=by
 refine Fun3.ok3 F rK qD (fun cdv A outer s H E hr=>⟨fL Z1 Z2 Z3 Z4 Z5 R7 R8 (ah P w),?_,qg _ _ _ _ _ _ _ _⟩);have hu8:=u8 hr;have hu4:=u4 hr;unfold fL;exact (aq (bv (aO R9 (hr.mono (by decide)) (by rfl) (aa (ak 1) (aa (ak 2) (aa (bO b_len (by rfl) T.b_len PySem.boot_len (aa (cE T.cl_Plain T.na_Plain_worn aK (ak 0)) ao)) ao)))))
   (az (zk T.cl_Plain T.na_Plain_worn aK (by decide) (ak 0) (cx eM (de kU (cE T.cl_Plain T.na_Plain_worn aK (ak 0)) i_ (cH (ak 1))) (de kU (cE T.cl_Plain T.na_Plain_worn aK (ak 0)) (cH (ak 2)) i_)))))
theorem tQ{f:MU}{fd:M7}(F:Fun3 K "dress" "Paper.dress" jA f fd)(T:Tx K mg Z1 Z2 Z3 Z4 Z5 R7 R8)(R9:Fn3 P w K mg base 1 "check_stretch" [] (aI Z1 Z2 Z3 Z4 Z5 R7 R8 (ah P w)))(Sq:Fn3 P w K mg base 1 "names_between" [] (aR Z1 Z2 Z3 Z4 Z5 R7 R8 (ah P w)))(Sa:Mt3 P w K mg base 1 R7 "coming_name" [] (aH Z1 Z2 Z3 Z4 Z5 R7 R8 (ah P w)))(R_:Mt3 P w K mg base 1 R7 "coming_time" [] (aG Z1 Z2 Z3 Z4 Z5 R7 R8 (ah P w)))(Si:Mt3 P w K mg base 2 R7 "draw" [] (aZ Z1 Z2 Z3 Z4 Z5 R7 R8 (ah P w)))(Se:Mt3 P w K mg base 7 R7 "seats" [] (aS Z1 Z2 Z3 Z4 Z5 R7 R8 (ah P w)))(Tt:Mk3 P w K mg base 2 "Dress" Z4 [] (a_ Z1 Z2 Z3 Z4 Z5 R7 R8 (ah P w)))
  : FnOk P w K mg base dE 8 f fd ["self","pen","at","to","word"] (ax K (cD Z1 Z2 Z3 Z4 Z5 R7 R8 (ah P w))):=by
 refine Fun3.ok3 F lH sd (fun cdv A outer s H E hr=>⟨gf Z1 Z2 Z3 Z4 Z5 R7 R8 (ah P w),?_,rQ _ _ _ _ _ _ _ _⟩);have hu8:=u8 hr;have hu4:=u4 hr;unfold gf;exact (aq (bo (i:=5) lH.nd rfl (by walk_at "i") (dy Se gq (hr.mono (by decide)) (ak 0)))
   (aq (bv (aO R9 (hr.mono (by decide)) (by rfl) (aa (ak 2) (aa (ak 3) (aa (bO b_len (by rfl) T.b_len PySem.boot_len (aa (ak 5) ao)) ao)))))
   (az (bc (cG Si hV (hr.mono (by decide)) (ak 0) (aa (jC Tt (hr.mono (by decide)) (by rfl) (aa (cG Sa dC (hr.mono (by decide)) (ak 0) (aa (ak 1) ao)) (aa (dy R_ dB (hr.mono (by decide)) (ak 0)) (aa (aO Sq (hr.mono (by decide)) (by rfl) (aa (ak 5) (aa (ak 2) (aa (ak 3) ao)))) (aa (ak 4) ao))))) ao))))))
theorem tN{f:MU}{fd:M7}(F:Fun3 K "dress" "Plain.dress" jx f fd)(T:Tx K mg Z1 Z2 Z3 Z4 Z5 R7 R8)(R9:Fn3 P w K mg base 1 "check_stretch" [] (aI Z1 Z2 Z3 Z4 Z5 R7 R8 (ah P w)))
  : FnOk P w K mg base dE 2 f fd ["self","at","to","word"] (ax K (cB Z1 Z2 Z3 Z4 Z5 R7 R8 (ah P w))):=by
 refine Fun3.ok3 F lG r8 (fun cdv A outer s H E hr=>⟨f_ Z1 Z2 Z3 Z4 Z5 R7 R8 (ah P w),?_,rN _ _ _ _ _ _ _ _⟩);have hu8:=u8 hr;have hu4:=u4 hr;unfold f_;exact (aq (bv (aO R9 (hr.mono (by decide)) (by rfl) (aa (ak 1) (aa (ak 2) (aa (bO b_len (by rfl) T.b_len PySem.boot_len (aa (cE T.cl_Plain T.na_Plain_worn aK (ak 0)) ao)) ao)))))
   (aq (A1 (T:=["sign","old_word"]) (M:=["self","at","to","word","dressed"]) (i:=4) (bN rfl (by kernel_rfl)) lG.nd rfl rfl (fun cl C s₀ H₀ fp=>⟨(Af (n:=2) rfl (jg (bg (i:=0) jJ rfl (by walk_at "i")) (jg (bg (i:=1) jJ rfl (by walk_at "i")) Ag))),ig,(gw (aa (ak 0) (aa (ak 5) ao)))⟩) (eJ (de kU (cE T.cl_Plain T.na_Plain_worn aK (ak 0)) (cH (ak 1)) (cH (ak 2)))))
   (az (zk T.cl_Plain T.na_Plain_worn aK (by decide) (ak 0) (cx eM (cx eM (de kU (cE T.cl_Plain T.na_Plain_worn aK (ak 0)) i_ (cH (ak 1))) (ak 4)) (de kU (cE T.cl_Plain T.na_Plain_worn aK (ak 0)) (cH (ak 2)) i_))))))
theorem vy{f:MU}{fd:M7}(F:Fun3 K "move" "Paper.move" km f fd)(T:Tx K mg Z1 Z2 Z3 Z4 Z5 R7 R8)(SI:Fn3 P w K mg base 1 "anchor_at" [] (cr Z1 Z2 Z3 Z4 Z5 R7 R8 (ah P w)))(Ss:Fn3 P w K mg base 1 "check_gap" [] (bp Z1 Z2 Z3 Z4 Z5 R7 R8 (ah P w)))(R9:Fn3 P w K mg base 1 "check_stretch" [] (aI Z1 Z2 Z3 Z4 Z5 R7 R8 (ah P w)))(Sq:Fn3 P w K mg base 1 "names_between" [] (aR Z1 Z2 Z3 Z4 Z5 R7 R8 (ah P w)))(Sa:Mt3 P w K mg base 1 R7 "coming_name" [] (aH Z1 Z2 Z3 Z4 Z5 R7 R8 (ah P w)))(R_:Mt3 P w K mg base 1 R7 "coming_time" [] (aG Z1 Z2 Z3 Z4 Z5 R7 R8 (ah P w)))(Si:Mt3 P w K mg base 2 R7 "draw" [] (aZ Z1 Z2 Z3 Z4 Z5 R7 R8 (ah P w)))(Se:Mt3 P w K mg base 7 R7 "seats" [] (aS Z1 Z2 Z3 Z4 Z5 R7 R8 (ah P w)))(TY:Mk3 P w K mg base 2 "Move" Z5 [] (bm Z1 Z2 Z3 Z4 Z5 R7 R8 (ah P w)))
  : FnOk P w K mg base dE 8 f fd ["self","pen","at","to","goal"] (ax K (cW Z1 Z2 Z3 Z4 Z5 R7 R8 (ah P w))):=by
 refine Fun3.ok3 F ju ug (fun cdv A outer s H E hr=>⟨g_ Z1 Z2 Z3 Z4 Z5 R7 R8 (ah P w),?_,tx _ _ _ _ _ _ _ _⟩);have hu8:=u8 hr;have hu4:=u4 hr;unfold g_;exact (aq (bo (i:=5) ju.nd rfl (by walk_at "i") (dy Se gq (hr.mono (by decide)) (ak 0)))
   (aq (bv (aO R9 (hr.mono (by decide)) (by rfl) (aa (ak 2) (aa (ak 3) (aa (bO b_len (by rfl) T.b_len PySem.boot_len (aa (ak 5) ao)) ao)))))
   (aq (bv (aO Ss (hr.mono (by decide)) (by rfl) (aa (ak 4) (aa (bO b_len (by rfl) T.b_len PySem.boot_len (aa (ak 5) ao)) ao))))
   (aq (bo (i:=6) ju.nd rfl (by walk_at "i") (aO Sq (hr.mono (by decide)) (by rfl) (aa (ak 5) (aa (ak 2) (aa (ak 3) ao)))))
   (az (bc (cG Si hV (hr.mono (by decide)) (ak 0) (aa (jC TY (hr.mono (by decide)) (by rfl) (aa (cG Sa dC (hr.mono (by decide)) (ak 0) (aa (ak 1) ao)) (aa (dy R_ dB (hr.mono (by decide)) (ak 0)) (aa (ak 6) (aa (aO SI (hr.mono (by decide)) (by rfl) (aa (ak 5) (aa (ak 4) ao))) ao))))) ao))))))))
theorem vp{f:MU}{fd:M7}(F:Fun3 K "move" "Plain.move" kg f fd)(T:Tx K mg Z1 Z2 Z3 Z4 Z5 R7 R8)(Ss:Fn3 P w K mg base 1 "check_gap" [] (bp Z1 Z2 Z3 Z4 Z5 R7 R8 (ah P w)))(R9:Fn3 P w K mg base 1 "check_stretch" [] (aI Z1 Z2 Z3 Z4 Z5 R7 R8 (ah P w)))
  : FnOk P w K mg base dE 2 f fd ["self","at","to","goal"] (ax K (cT Z1 Z2 Z3 Z4 Z5 R7 R8 (ah P w))):=by
 refine Fun3.ok3 F jt ud (fun cdv A outer s H E hr=>⟨gY Z1 Z2 Z3 Z4 Z5 R7 R8 (ah P w),?_,tq _ _ _ _ _ _ _ _⟩);have hu8:=u8 hr;have hu4:=u4 hr;unfold gY;exact (aq (bv (aO R9 (hr.mono (by decide)) (by rfl) (aa (ak 1) (aa (ak 2) (aa (bO b_len (by rfl) T.b_len PySem.boot_len (aa (cE T.cl_Plain T.na_Plain_worn aK (ak 0)) ao)) ao)))))
   (aq (bv (aO Ss (hr.mono (by decide)) (by rfl) (aa (ak 3) (aa (bO b_len (by rfl) T.b_len PySem.boot_len (aa (cE T.cl_Plain T.na_Plain_worn aK (ak 0)) ao)) ao))))
   (aq (bo (i:=4) jt.nd rfl (by walk_at "i") (cx eM (de kU (cE T.cl_Plain T.na_Plain_worn aK (ak 0)) i_ (cH (bO (b_min rfl) (by rfl) T.b_min boot_min (aa (ak 1) (aa (ak 3) ao))))) (de kU (cE T.cl_Plain T.na_Plain_worn aK (ak 0)) (cH (ak 2)) (cH (ak 3)))))
   (aq (bo (i:=5) jt.nd rfl (by walk_at "i") (cx eM (de kU (cE T.cl_Plain T.na_Plain_worn aK (ak 0)) (cH (ak 3)) (cH (ak 1))) (de kU (cE T.cl_Plain T.na_Plain_worn aK (ak 0)) (cH (bO (b_max rfl) (by rfl) T.b_max boot_max (aa (ak 2) (aa (ak 3) ao)))) i_)))
   (az (zk T.cl_Plain T.na_Plain_worn aK (by decide) (ak 0) (cx eM (cx eM (ak 4) (de kU (cE T.cl_Plain T.na_Plain_worn aK (ak 0)) (cH (ak 1)) (cH (ak 2)))) (ak 5))))))))
theorem xM{f:MU}{fd:M7}(F:Fun3 K "_law_deed" "_law_deed" lV f fd)(T:Tx K mg Z1 Z2 Z3 Z4 Z5 R7 R8)(TH:Fn3 P w K mg base 10 "_law_put" [] (dP Z1 Z2 Z3 Z4 Z5 R7 R8 (ah P w)))(S1:Mt3 P w K mg base 8 R7 "dress" [] (cD Z1 Z2 Z3 Z4 Z5 R7 R8 (ah P w)))(S_:Mt3 P w K mg base 8 R7 "move" [] (cW Z1 Z2 Z3 Z4 Z5 R7 R8 (ah P w)))(SN:Mt3 P w K mg base 8 R7 "strike" [] (b_ Z1 Z2 Z3 Z4 Z5 R7 R8 (ah P w)))(SZ:Mt3 P w K mg base 2 R8 "dress" [] (cB Z1 Z2 Z3 Z4 Z5 R7 R8 (ah P w)))(S7:Mt3 P w K mg base 2 R8 "move" [] (cT Z1 Z2 Z3 Z4 Z5 R7 R8 (ah P w)))(Sy:Mt3 P w K mg base 1 R8 "rows" [] (bS Z1 Z2 Z3 Z4 Z5 R7 R8 (ah P w)))(SM:Mt3 P w K mg base 2 R8 "strike" [] (b9 Z1 Z2 Z3 Z4 Z5 R7 R8 (ah P w)))
  : FnOk P w K mg base dE 11 f fd ["_law_paper","_law_plain","_law_pen","_law_xs","_law_widest"] (ax K (dk Z1 Z2 Z3 Z4 Z5 R7 R8 (ah P w))):=by
 refine Fun3.ok3 F dR vO (fun cdv A outer s H E hr=>⟨iM Z1 Z2 Z3 Z4 Z5 R7 R8 (ah P w),?_,vd _ _ _ _ _ _ _ _⟩);have hu8:=u8 hr;have hu4:=u4 hr;unfold iM;exact (aq (bo (i:=5) dR.nd rfl (by walk_at "i") (bO b_len (by rfl) T.b_len PySem.boot_len (aa (dy Sy ng (hr.mono (by decide)) (ak 1)) ao)))
   (aq (iw (PW.pt (J3 (fe (pT hu8) (ak 5) aD (c_ _)) (HC (ql AE (cx fA (cZ (ak 3) aD) aD) aD (c_ _))))) (aq (bv (aO TH (hr.mono (by decide)) (by rfl) (aa (ak 0) (aa (ak 1) (aa (ak 2) (aa (ak 3) (aa (ak 5) ao)))))))
   (az Ew)) fj)
   (aq (bo (i:=6) dR.nd rfl (by walk_at "i") (cx fA (cZ (ak 3) aD) (ak 5)))
   (aq (bo (i:=7) dR.nd rfl (by walk_at "i") (cx eM (cx eM (ak 6) aD) (cx fA (cZ (ak 3) aD) (bO (b_min rfl) (by rfl) T.b_min boot_min (aa (ak 4) (aa (cx DO (ak 5) (ak 6)) ao))))))
   (az (iw (ql AE (cx fA (cZ (ak 3) aD) aD) aD (c_ _)) (aq (bv (cG SN rY (hr.mono (by decide)) (ak 0) (aa (ak 2) (aa (ak 6) (aa (ak 7) ao)))))
   (az (bv (cG SM rX (hr.mono (by decide)) (ak 1) (aa (ak 6) (aa (ak 7) ao)))))) (az (iw (ql AE (cx fA (cZ (ak 3) aD) aD) aD (c_ _)) (aq (bo (i:=8) dR.nd rfl (by walk_at "i") (cZ (l7 (aa eG (aa eG (aa eG (aa eG ao))))) (cx fA (cZ (ak 3) aD) aD)))
   (aq (bv (cG S1 tT (hr.mono (by decide)) (ak 0) (aa (ak 2) (aa (ak 6) (aa (ak 7) (aa (ak 8) ao))))))
   (az (bv (cG SZ tR (hr.mono (by decide)) (ak 1) (aa (ak 6) (aa (ak 7) (aa (ak 8) ao)))))))) (aq (bo (i:=9) dR.nd rfl (by walk_at "i") (cx fA (cZ (ak 3) aD) (cx eM (ak 5) aD)))
   (aq (iw (fe (pT hu8) (cx fA (cZ (ak 3) aD) aD) aD (c_ _)) (az (bo (i:=9) dR.nd rfl (by walk_at "i") (cx eM (ak 6) (cx fA (cZ (ak 3) aD) (cx eM (cx DO (ak 7) (ak 6)) aD))))) fj)
   (aq (bv (cG S_ vE (hr.mono (by decide)) (ak 0) (aa (ak 2) (aa (ak 6) (aa (ak 7) (aa (ak 9) ao))))))
   (az (bv (cG S7 vB (hr.mono (by decide)) (ak 1) (aa (ak 6) (aa (ak 7) (aa (ak 9) ao)))))))))))))))))
theorem Bb{f:MU}{fd:M7}(F:Fun3 K "reading" "reading" p7 f fd)(T:Tx K mg Z1 Z2 Z3 Z4 Z5 R7 R8)(Te:Fn3 P w K mg base 6 "seated" [] (d5 Z1 Z2 Z3 Z4 Z5 R7 R8 (ah P w)))
  : FnOk P w K mg base dE 7 f fd ["old","strokes","standing"] (ax K (dF Z1 Z2 Z3 Z4 Z5 R7 R8 (ah P w))):=by
 refine Fun3.ok3 F AQ zQ (fun cdv A outer s H E hr=>⟨kC Z1 Z2 Z3 Z4 Z5 R7 R8 (ah P w),?_,ze _ _ _ _ _ _ _ _⟩);have hu8:=u8 hr;have hu4:=u4 hr;unfold kC;exact (az (bc (ix (T:=["seat"]) (M:=["old","strokes","standing"]) (bN rfl (by kernel_rfl)) (fun cl C s₀ H₀ fp=>⟨(bg (i:=0) xV rfl (by walk_at "i")),ig,(de kU (ak 0) (cH aD) i_)⟩) (eJ (aO Te (hr.mono (by decide)) (by rfl) (aa (ak 0) (aa (ak 1) (aa (ak 2) ao))))))))
theorem vq{f:MU}{fd:M7}(F:Fun3 K "view" "Paper.view" kh f fd)(T:Tx K mg Z1 Z2 Z3 Z4 Z5 R7 R8)(SY:Fn3 P w K mg base 7 "reading" [] (dF Z1 Z2 Z3 Z4 Z5 R7 R8 (ah P w)))(Sv:Mt3 P w K mg base 1 R7 "unwiped" [] (bj Z1 Z2 Z3 Z4 Z5 R7 R8 (ah P w)))
  : FnOk P w K mg base dE 8 f fd ["self"] (ax K (cU Z1 Z2 Z3 Z4 Z5 R7 R8 (ah P w))):=by
 refine Fun3.ok3 F uW ue (fun cdv A outer s H E hr=>⟨gZ Z1 Z2 Z3 Z4 Z5 R7 R8 (ah P w),?_,tu _ _ _ _ _ _ _ _⟩);have hu8:=u8 hr;have hu4:=u4 hr;unfold gZ;exact (az (bc (aO SY (hr.mono (by decide)) (by rfl) (aa (cE T.cl_Paper T.na_Paper_old pJ (ak 0)) (aa (cE T.cl_Paper T.na_Paper_drawn dN (ak 0)) (aa (dy Sv jI (hr.mono (by decide)) (ak 0)) ao))))))
theorem vm{f:MU}{fd:M7}(F:Fun3 K "_law_alike" "_law_alike" j9 f fd)(T:Tx K mg Z1 Z2 Z3 Z4 Z5 R7 R8)(S8:Mt3 P w K mg base 8 R7 "view" [] (cU Z1 Z2 Z3 Z4 Z5 R7 R8 (ah P w)))(Sy:Mt3 P w K mg base 1 R8 "rows" [] (bS Z1 Z2 Z3 Z4 Z5 R7 R8 (ah P w)))
  : FnOk P w K mg base dE 9 f fd ["_law_paper","_law_plain"] (ax K (cu Z1 Z2 Z3 Z4 Z5 R7 R8 (ah P w))):=by
 refine Fun3.ok3 F uT t_ (fun cdv A outer s H E hr=>⟨gV Z1 Z2 Z3 Z4 Z5 R7 R8 (ah P w),?_,s_ _ _ _ _ _ _ _ _⟩);have hu8:=u8 hr;have hu4:=u4 hr;unfold gV;exact (az (bc (A8 (pT hu8) (ix (T:=["_law_name","_law_sign","_law_word"]) (M:=["_law_paper","_law_plain"]) (bN rfl (by kernel_rfl)) (fun cl C s₀ H₀ fp=>⟨(Af (n:=3) rfl (jg (bg (i:=0) iA rfl (by walk_at "i")) (jg (bg (i:=1) iA rfl (by walk_at "i")) (jg (bg (i:=2) iA rfl (by walk_at "i")) Ag)))),ig,(gw (aa (ak 1) (aa (ak 2) ao)))⟩) (eJ (dy S8 vC (hr.mono (by decide)) (ak 0)))) (dy Sy ng (hr.mono (by decide)) (ak 1)) (c_ _))))
theorem Ba{f:MU}{fd:M7}(F:Fun3 K "text_of" "text_of" p6 f fd)(T:Tx K mg Z1 Z2 Z3 Z4 Z5 R7 R8) 
  : FnOk P w K mg base dE 1 f fd ["rows"] (ax K (eO Z1 Z2 Z3 Z4 Z5 R7 R8 (ah P w))):=by
 refine Fun3.ok3 F AO zP (fun cdv A outer s H E hr=>⟨kA Z1 Z2 Z3 Z4 Z5 R7 R8 (ah P w),?_,zd _ _ _ _ _ _ _ _⟩);have hu8:=u8 hr;have hu4:=u4 hr;unfold kA;exact (az (bc (IU eG (aa (ix (T:=["row"]) (M:=["rows"]) (bN rfl (by kernel_rfl)) (fun cl C s₀ H₀ fp=>⟨(bg (i:=0) xU rfl (by walk_at "i")),ig,(cZ (ak 0) aD)⟩) (eJ (ak 0))) ao))))
theorem mZ{f:MU}{fd:M7}(F:Fun3 K "strokes_in" "Paper.strokes_in" fP f fd)(T:Tx K mg Z1 Z2 Z3 Z4 Z5 R7 R8) 
  : FnOk P w K mg base dE 1 f fd ["self","state"] (ax K (bn Z1 Z2 Z3 Z4 Z5 R7 R8 (ah P w))):=by
 refine Fun3.ok3 F mU mq (fun cdv A outer s H E hr=>⟨dH Z1 Z2 Z3 Z4 Z5 R7 R8 (ah P w),?_,l6 _ _ _ _ _ _ _ _⟩);have hu8:=u8 hr;have hu4:=u4 hr;unfold dH;exact (az (bc (B3 (T:=["row"]) (M:=["self","state"]) (bN rfl (by kernel_rfl)) (fun cl C s₀ H₀ fp=>⟨(bg (i:=0) k_ rfl (by walk_at "i")),(sJ (fe (pT hu8) (qZ hu8 (cE T.cl_Paper T.na_Paper_states dg (ak 1)) (cZ (ak 0) aD)) (ak 2) (c_ _))),(ak 0)⟩) (cE T.cl_Paper T.na_Paper_drawn dN (ak 0)))))
theorem qr{f:MU}{fd:M7}(F:Fun3 K "waiting" "Paper.waiting" im f fd)(T:Tx K mg Z1 Z2 Z3 Z4 Z5 R7 R8)(SC:Mt3 P w K mg base 1 R7 "strokes_in" [] (bn Z1 Z2 Z3 Z4 Z5 R7 R8 (ah P w)))
  : FnOk P w K mg base dE 2 f fd ["self"] (ax K (bh Z1 Z2 Z3 Z4 Z5 R7 R8 (ah P w))):=by
 refine Fun3.ok3 F pZ pi (fun cdv A outer s H E hr=>⟨e9 Z1 Z2 Z3 Z4 Z5 R7 R8 (ah P w),?_,oP _ _ _ _ _ _ _ _⟩);have hu8:=u8 hr;have hu4:=u4 hr;unfold e9;exact (az (bc (ix (T:=["row"]) (M:=["self"]) (bN rfl (by kernel_rfl)) (fun cl C s₀ H₀ fp=>⟨(bg (i:=0) nQ rfl (by walk_at "i")),ig,(cZ (ak 0) aD)⟩) (eJ (cG SC m3 (hr.mono (by decide)) (ak 0) (aa (eV (by rfl) T.k_WAITS) ao))))))
theorem md{f:MU}{fd:M7}(F:Fun3 K "check_known" "Paper.check_known" fw f fd)(T:Tx K mg Z1 Z2 Z3 Z4 Z5 R7 R8) 
  : FnOk P w K mg base dE 1 f fd ["self","name"] (ax K (bb Z1 Z2 Z3 Z4 Z5 R7 R8 (ah P w))):=by
 refine Fun3.ok3 F lM lr (fun cdv A outer s H E hr=>⟨dw Z1 Z2 Z3 Z4 Z5 R7 R8 (ah P w),?_,kZ _ _ _ _ _ _ _ _⟩);have hu8:=u8 hr;have hu4:=u4 hr;unfold dw;exact (az (iw (wq hu8 (ak 1) (cE T.cl_Paper T.na_Paper_states dg (ak 0))) (az oV) fj))
theorem tO{f:MU}{fd:M7}(F:Fun3 K "state" "Paper.state" jy f fd)(T:Tx K mg Z1 Z2 Z3 Z4 Z5 R7 R8)(SA:Mt3 P w K mg base 1 R7 "check_known" [] (bb Z1 Z2 Z3 Z4 Z5 R7 R8 (ah P w)))
  : FnOk P w K mg base dE 2 f fd ["self","name"] (ax K (cC Z1 Z2 Z3 Z4 Z5 R7 R8 (ah P w))):=by
 refine Fun3.ok3 F sQ r9 (fun cdv A outer s H E hr=>⟨gc Z1 Z2 Z3 Z4 Z5 R7 R8 (ah P w),?_,rO _ _ _ _ _ _ _ _⟩);have hu8:=u8 hr;have hu4:=u4 hr;unfold gc;exact (aq (bv (cG SA mh (hr.mono (by decide)) (ak 0) (aa (ak 1) ao)))
   (az (bc (qZ hu8 (cE T.cl_Paper T.na_Paper_states dg (ak 0)) (ak 1)))))
theorem ma{f:MU}{fd:M7}(F:Fun3 K "check_waits" "Paper.check_waits" fu f fd)(T:Tx K mg Z1 Z2 Z3 Z4 Z5 R7 R8)(S0:Mt3 P w K mg base 2 R7 "state" [] (cC Z1 Z2 Z3 Z4 Z5 R7 R8 (ah P w)))
  : FnOk P w K mg base dE 3 f fd ["self","name"] (ax K (ba Z1 Z2 Z3 Z4 Z5 R7 R8 (ah P w))):=by
 refine Fun3.ok3 F lL lq (fun cdv A outer s H E hr=>⟨du Z1 Z2 Z3 Z4 Z5 R7 R8 (ah P w),?_,kY _ _ _ _ _ _ _ _⟩);have hu8:=u8 hr;have hu4:=u4 hr;unfold du;exact (az (iw (fe (Ih hu8) (cG S0 tS (hr.mono (by decide)) (ak 0) (aa (ak 1) ao)) (eV (by rfl) T.k_WAITS) (c_ _)) (az oV) fj))
theorem nO{f:MU}{fd:M7}(F:Fun3 K "let_stand" "Paper.let_stand" f6 f fd)(T:Tx K mg Z1 Z2 Z3 Z4 Z5 R7 R8)(Sz:Mt3 P w K mg base 3 R7 "check_waits" [] (ba Z1 Z2 Z3 Z4 Z5 R7 R8 (ah P w)))
  : FnOk P w K mg base dE 4 f fd ["self","name"] (ax K (be Z1 Z2 Z3 Z4 Z5 R7 R8 (ah P w))):=by
 refine Fun3.ok3 F nv m7 (fun cdv A outer s H E hr=>⟨dW Z1 Z2 Z3 Z4 Z5 R7 R8 (ah P w),?_,mY _ _ _ _ _ _ _ _⟩);have hu8:=u8 hr;have hu4:=u4 hr;unfold dW;exact (aq (bv (cG Sz mf (hr.mono (by decide)) (ak 0) (aa (ak 1) ao)))
   (az (i7 hu8 (cE T.cl_Paper T.na_Paper_states dg (ak 0)) (ak 1) (eV (by rfl) T.k_STANDS))))
theorem qu{f:MU}{fd:M7}(F:Fun3 K "strokes" "Paper.strokes" iq f fd)(T:Tx K mg Z1 Z2 Z3 Z4 Z5 R7 R8) 
  : FnOk P w K mg base dE 1 f fd ["self"] (ax K (bL Z1 Z2 Z3 Z4 Z5 R7 R8 (ah P w))):=by
 refine Fun3.ok3 F p4 pr (fun cdv A outer s H E hr=>⟨fb Z1 Z2 Z3 Z4 Z5 R7 R8 (ah P w),?_,oR _ _ _ _ _ _ _ _⟩);have hu8:=u8 hr;have hu4:=u4 hr;unfold fb;exact (az (bc (l8 b_list (by rfl) T.b_list PyProof.Rows.boot_list (aa (cE T.cl_Paper T.na_Paper_drawn dN (ak 0)) ao))))
theorem o6{f:MU}{fd:M7}(F:Fun3 K "__init__" "Paper.__init__" gH f fd)(T:Tx K mg Z1 Z2 Z3 Z4 Z5 R7 R8) 
  : FnOk P w K mg base dE 1 f fd ["self","old"] (ax K (bF Z1 Z2 Z3 Z4 Z5 R7 R8 (ah P w))):=by
 refine Fun3.ok3 F oF nX (fun cdv A outer s H E hr=>⟨eE Z1 Z2 Z3 Z4 Z5 R7 R8 (ah P w),?_,nI _ _ _ _ _ _ _ _⟩);have hu8:=u8 hr;have hu4:=u4 hr;unfold eE;exact (aq (qj (L:=[]) T.cl_Paper T.na_Paper_old (by decide +kernel) (by decide) (ak 0) (ak 1))
   (aq (qj (L:=["old"]) T.cl_Paper T.na_Paper_drawn (by decide +kernel) (by decide) (ak 0) (EU (l7 ao)))
   (aq (qj (L:=["old","drawn"]) T.cl_Paper T.na_Paper_states (by decide +kernel) (by decide) (ak 0) qm)
   (aq (qj (L:=["old","drawn","states"]) T.cl_Paper T.na_Paper_greatest (by decide +kernel) (by decide) (ak 0) IV)
   (az (qj (L:=["old","drawn","states","greatest"]) T.cl_Paper T.na_Paper_time (by decide +kernel) (by decide) (ak 0) aD))))))
theorem o0{f:MU}{fd:M7}(F:Fun3 K "__init__" "Plain.__init__" gG f fd)(T:Tx K mg Z1 Z2 Z3 Z4 Z5 R7 R8)(SF:Fn3 P w K mg base 1 "undressed" [] (ck Z1 Z2 Z3 Z4 Z5 R7 R8 (ah P w)))
  : FnOk P w K mg base dE 2 f fd ["self","text"] (ax K (bE Z1 Z2 Z3 Z4 Z5 R7 R8 (ah P w))):=by
 refine Fun3.ok3 F oC nW (fun cdv A outer s H E hr=>⟨eA Z1 Z2 Z3 Z4 Z5 R7 R8 (ah P w),?_,nH _ _ _ _ _ _ _ _⟩);have hu8:=u8 hr;have hu4:=u4 hr;unfold eA;exact (az (qj (L:=[]) T.cl_Plain T.na_Plain_worn (by decide +kernel) (by decide) (ak 0) (aO SF (hr.mono (by decide)) (by rfl) (aa (ak 1) ao))))
theorem Jb{f:MU}{fd:M7}(F:Fun3 K "law" "law" sU f fd)(T:Tx K mg Z1 Z2 Z3 Z4 Z5 R7 R8)(SX:Fn3 P w K mg base 9 "_law_alike" [] (cu Z1 Z2 Z3 Z4 Z5 R7 R8 (ah P w)))(S3:Fn3 P w K mg base 1 "_law_cell_at" [] (b8 Z1 Z2 Z3 Z4 Z5 R7 R8 (ah P w)))(Tq:Fn3 P w K mg base 11 "_law_deed" [] (dk Z1 Z2 Z3 Z4 Z5 R7 R8 (ah P w)))(Tc:Fn3 P w K mg base 1 "_law_stream" [] (cA Z1 Z2 Z3 Z4 Z5 R7 R8 (ah P w)))(SY:Fn3 P w K mg base 7 "reading" [] (dF Z1 Z2 Z3 Z4 Z5 R7 R8 (ah P w)))(TZ:Fn3 P w K mg base 1 "text_of" [] (eO Z1 Z2 Z3 Z4 Z5 R7 R8 (ah P w)))(Sx:Mt3 P w K mg base 4 R7 "let_stand" [] (be Z1 Z2 Z3 Z4 Z5 R7 R8 (ah P w)))(SJ:Mt3 P w K mg base 1 R7 "strokes" [] (bL Z1 Z2 Z3 Z4 Z5 R7 R8 (ah P w)))(Sw:Mt3 P w K mg base 2 R7 "waiting" [] (bh Z1 Z2 Z3 Z4 Z5 R7 R8 (ah P w)))(UX:Mk3 P w K mg base 1 "Paper" R7 [] (bF Z1 Z2 Z3 Z4 Z5 R7 R8 (ah P w)))(UW:Mk3 P w K mg base 2 "Plain" R8 [] (bE Z1 Z2 Z3 Z4 Z5 R7 R8 (ah P w)))
  : FnOk P w K mg base dE 12 f fd ["_law_script"] (ax K (sK Z1 Z2 Z3 Z4 Z5 R7 R8 (ah P w))):=by
 refine Fun3.ok3 F gC GX (fun cdv A outer s H E hr=>⟨xo Z1 Z2 Z3 Z4 Z5 R7 R8 (ah P w),?_,Ge _ _ _ _ _ _ _ _⟩);have hu8:=u8 hr;have hu4:=u4 hr;unfold xo;exact (aq (bo (i:=1) gC.nd rfl (by walk_at "i") (aO S3 (hr.mono (by decide)) (by rfl) (aa (ak 0) (aa aD ao))))
   (aq (bo (i:=2) gC.nd rfl (by walk_at "i") (de kU eG i_ (cH (cx fA (ak 1) aD))))
   (aq (bo (i:=3) gC.nd rfl (by walk_at "i") aD)
   (aq (bo (i:=4) gC.nd rfl (by walk_at "i") (de kU (ak 0) (cH aD) (cH aD)))
   (aq (iw (fe (pT hu8) (cx fA (cx BI (ak 1) aD) aD) aD (c_ _)) (aq (bo (i:=3) gC.nd rfl (by walk_at "i") aD)
   (az (bo (i:=4) gC.nd rfl (by walk_at "i") (de kU (ak 0) (cH aD) (cH aD))))) fj)
   (aq (bo (i:=5) gC.nd rfl (by walk_at "i") (jC UX (hr.mono (by decide)) (by rfl) (aa (ak 2) ao)))
   (aq (bo (i:=6) gC.nd rfl (by walk_at "i") (jC UW (hr.mono (by decide)) (by rfl) (aa (ak 2) ao)))
   (aq (jF Ny rfl (eJ (ak 4)) (bg (i:=7) gC.nd rfl (by walk_at "i")) (aq (bo (i:=8) gC.nd rfl (by walk_at "i") (aO Tc (hr.mono (by decide)) (by rfl) (aa (ak 7) (aa aD ao))))
   (aq (bo (i:=9) gC.nd rfl (by walk_at "i") (dy Sw gM (hr.mono (by decide)) (ak 5)))
   (aq (iw (PW.pt (J3 (ql AE (cx fA (cZ (ak 8) aD) aD) aD (c_ _)) (HC (fe (pT hu8) (ak 9) (l7 ao) (c_ _))))) (az (bv (aO Tq (hr.mono (by decide)) (by rfl) (aa (ak 5) (aa (ak 6) (aa (cZ (l7 (aa eG (aa eG (aa eG ao)))) (cx fA (cZ (ak 8) aD) aD)) (aa (ak 8) (aa (ak 3) ao)))))))) (az (bv (cG Sx jd (hr.mono (by decide)) (ak 5) (aa (cZ (ak 9) (cx fA (cZ (ak 8) aD) (bO b_len (by rfl) T.b_len PySem.boot_len (aa (ak 9) ao)))) ao)))))
   (az (iw (xB (jH (aO SX (hr.mono (by decide)) (by rfl) (aa (ak 5) (aa (ak 6) ao))))) (az (bc GH)) fj))))))
   (aq (iw (fe (Ih hu8) (aO TZ (hr.mono (by decide)) (by rfl) (aa (aO SY (hr.mono (by decide)) (by rfl) (aa (ak 2) (aa (EU (dy SJ qx (hr.mono (by decide)) (ak 5))) (aa (l7 ao) ao)))) ao)) (ak 2) (c_ _)) (az (bc GH)) fj)
   (aq (jF Ny rfl (eJ (dy Sw gM (hr.mono (by decide)) (ak 5))) (bg (i:=10) gC.nd rfl (by walk_at "i")) (az (bv (cG Sx jd (hr.mono (by decide)) (ak 5) (aa (ak 10) ao)))))
   (az (bc (HN (aO SX (hr.mono (by decide)) (by rfl) (aa (ak 5) (aa (ak 6) ao))) (HL (A8 (pT hu8) (dy Sw gM (hr.mono (by decide)) (ak 5)) (l7 ao) (c_ _))))))))))))))))
end
theorem LC{α:Type}:∀ {us:List α},us.length=1->∃ a0,us=[a0]
 | [a0],_=>⟨a0,rfl⟩
theorem LB{α:Type}:∀ {us:List α},us.length=2->∃ a0 a1,us=[a0,a1]
 | [a0,a1],_=>⟨a0,a1,rfl⟩
theorem LA{α:Type}:∀ {us:List α},us.length=3->∃ a0 a1 a2,us=[a0,a1,a2]
 | [a0,a1,a2],_=>⟨a0,a1,a2,rfl⟩
theorem Lz{α:Type}:∀ {us:List α},us.length=4->∃ a0 a1 a2 a3,us=[a0,a1,a2,a3]
 | [a0,a1,a2,a3],_=>⟨a0,a1,a2,a3,rfl⟩
theorem Ly{α:Type}:∀ {us:List α},us.length=5->∃ a0 a1 a2 a3 a4,us=[a0,a1,a2,a3,a4]
 | [a0,a1,a2,a3,a4],_=>⟨a0,a1,a2,a3,a4,rfl⟩
local macro_rules | `(tactic| walk_at "b") => `(tactic| (intro _ _ _ _ _ _ us hl; first | (obtain ⟨_, e⟩ := LC hl; subst e; rfl) | (obtain ⟨_, _, e⟩ := LB hl; subst e; rfl) | (obtain ⟨_, _, _, e⟩ := LA hl; subst e; rfl) | (obtain ⟨_, _, _, _, e⟩ := Lz hl; subst e; rfl) | (obtain ⟨_, _, _, _, _, e⟩ := Ly hl; subst e; rfl)))
theorem all_mk{P:Nf}{w:Nn}{K:PySem.W.Frag}{h:No}{mg:Str->Option MV}{fa:MU}{Z1 Z2 Z3 Z4 Z5 R7 R8 ka1:MU}{ks1:Array (Option MV)}{kt0:Tok}{VL:Tok}{VJ:Tok}{VI:Tok}{kt2:Tok}{kt3:Tok}{kz1:Nat}(X:K.In h)(G:h.Ns Nd mg)(hfa:mg "law"=some (.ref fa))
  (c0a:PySem.W.nsIn K Nd "Stroke"=some (some (.ref Z1)))
  (c1a:PySem.W.nsIn K Nd "Put"=some (some (.ref Z2)))
  (c2a:PySem.W.nsIn K Nd "Strike"=some (some (.ref Z3)))
  (c3a:PySem.W.nsIn K Nd "Dress"=some (some (.ref Z4)))
  (c4a:PySem.W.nsIn K Nd "Move"=some (some (.ref Z5)))
  (c5a:PySem.W.nsIn K Nd "Paper"=some (some (.ref R7)))
  (c6a:PySem.W.nsIn K Nd "Plain"=some (some (.ref R8)))
  (SE:PySem.W.specialIn K (.builtin "object.__class__") "__get__"=some (some (.builtin "getset_descriptor.__get__")))
  (SD:RW K (.builtin "object.__class__")=some true)
  (SR:PySem.W.findIn K (.ref Z1) "__class__"=some (some (.builtin "object.__class__")))
  (SQ:Q0 K Z1 (.type "object")=some true)
  (T1:Oa K (.ref Z1) (.ref Z4)=some false)
  (Ub:Oa K (.ref Z1) (.ref Z5)=some false)
  (Us:Oa K (.ref Z1) (.ref Z2)=some false)
  (TM:Oa K (.ref Z1) (.ref Z3)=some false)
  (Ts:PySem.W.findIn K (.ref Z2) "__class__"=some (some (.builtin "object.__class__")))
  (Tr:Q0 K Z2 (.type "object")=some true)
  (UG:Oa K (.ref Z2) (.ref Z4)=some false)
  (UY:Oa K (.ref Z2) (.ref Z5)=some false)
  (Ve:Oa K (.ref Z2) (.ref Z2)=some true)
  (Uu:Oa K (.ref Z2) (.ref Z3)=some false)
  (SU:PySem.W.findIn K (.ref Z3) "__class__"=some (some (.builtin "object.__class__")))
  (SS:Q0 K Z3 (.type "object")=some true)
  (T2:Oa K (.ref Z3) (.ref Z4)=some false)
  (Uc:Oa K (.ref Z3) (.ref Z5)=some false)
  (Ut:Oa K (.ref Z3) (.ref Z2)=some false)
  (TN:Oa K (.ref Z3) (.ref Z3)=some true)
  (S5:PySem.W.findIn K (.ref Z4) "__class__"=some (some (.builtin "object.__class__")))
  (S4:Q0 K Z4 (.type "object")=some true)
  (Ue:Oa K (.ref Z4) (.ref Z4)=some true)
  (Uw:Oa K (.ref Z4) (.ref Z5)=some false)
  (UI:Oa K (.ref Z4) (.ref Z2)=some false)
  (T3:Oa K (.ref Z4) (.ref Z3)=some false)
  (Th:PySem.W.findIn K (.ref Z5) "__class__"=some (some (.builtin "object.__class__")))
  (Tg:Q0 K Z5 (.type "object")=some true)
  (Uv:Oa K (.ref Z5) (.ref Z4)=some false)
  (UH:Oa K (.ref Z5) (.ref Z5)=some true)
  (UZ:Oa K (.ref Z5) (.ref Z2)=some false)
  (Ud:Oa K (.ref Z5) (.ref Z3)=some false)
  (k0:Cls K Z1)
  (c0mk:PySem.W.makesIn K Z1=true)
  (c0kc:PySem.W.keepIn K (.ref Z1)=true)
  (WP:PySem.W.findIn K (.ref Z1) "anchor"=some none)
  (WO:PySem.W.findIn K (.ref Z1) "name"=some none)
  (WN:PySem.W.findIn K (.ref Z1) "names"=some none)
  (WM:PySem.W.findIn K (.ref Z1) "signs"=some none)
  (WL:PySem.W.findIn K (.ref Z1) "time"=some none)
  (WK:PySem.W.findIn K (.ref Z1) "word"=some none)
  (k1:Cls K Z2)
  (WI:PySem.W.makesIn K Z2=true)
  (WJ:PySem.W.keepIn K (.ref Z2)=true)
  (WH:PySem.W.findIn K (.ref Z2) "anchor"=some none)
  (WG:PySem.W.findIn K (.ref Z2) "name"=some none)
  (WF:PySem.W.findIn K (.ref Z2) "names"=some none)
  (WE:PySem.W.findIn K (.ref Z2) "signs"=some none)
  (WD:PySem.W.findIn K (.ref Z2) "time"=some none)
  (WC:PySem.W.findIn K (.ref Z2) "word"=some none)
  (k2:Cls K Z3)
  (WA:PySem.W.makesIn K Z3=true)
  (WB:PySem.W.keepIn K (.ref Z3)=true)
  (Wz:PySem.W.findIn K (.ref Z3) "anchor"=some none)
  (Wy:PySem.W.findIn K (.ref Z3) "name"=some none)
  (Wx:PySem.W.findIn K (.ref Z3) "names"=some none)
  (Ww:PySem.W.findIn K (.ref Z3) "signs"=some none)
  (Wv:PySem.W.findIn K (.ref Z3) "time"=some none)
  (Wu:PySem.W.findIn K (.ref Z3) "word"=some none)
  (k3:Cls K Z4)
  (Ws:PySem.W.makesIn K Z4=true)
  (Wt:PySem.W.keepIn K (.ref Z4)=true)
  (Wr:PySem.W.findIn K (.ref Z4) "anchor"=some none)
  (Wq:PySem.W.findIn K (.ref Z4) "name"=some none)
  (Wp:PySem.W.findIn K (.ref Z4) "names"=some none)
  (Wo:PySem.W.findIn K (.ref Z4) "signs"=some none)
  (Wn:PySem.W.findIn K (.ref Z4) "time"=some none)
  (Wm:PySem.W.findIn K (.ref Z4) "word"=some none)
  (k4:Cls K Z5)
  (Wk:PySem.W.makesIn K Z5=true)
  (Wl:PySem.W.keepIn K (.ref Z5)=true)
  (Wj:PySem.W.findIn K (.ref Z5) "anchor"=some none)
  (Wh:PySem.W.findIn K (.ref Z5) "name"=some none)
  (Wg:PySem.W.findIn K (.ref Z5) "names"=some none)
  (Wf:PySem.W.findIn K (.ref Z5) "signs"=some none)
  (We:PySem.W.findIn K (.ref Z5) "time"=some none)
  (Wd:PySem.W.findIn K (.ref Z5) "word"=some none)
  (k5:Cls K R7)
  (Wb:PySem.W.makesIn K R7=true)
  (Wc:PySem.W.keepIn K (.ref R7)=true)
  (Wa:PySem.W.findIn K (.ref R7) "old"=some none)
  (V_:PySem.W.findIn K (.ref R7) "drawn"=some none)
  (V9:PySem.W.findIn K (.ref R7) "states"=some none)
  (V8:PySem.W.findIn K (.ref R7) "greatest"=some none)
  (V7:PySem.W.findIn K (.ref R7) "time"=some none)
  (k6:Cls K R8)
  (V5:PySem.W.makesIn K R8=true)
  (V6:PySem.W.keepIn K (.ref R8)=true)
  (V4:PySem.W.findIn K (.ref R8) "worn"=some none)
  (b_all:PySem.W.nsIn K Nd "all"=some none)
  (b_dict:PySem.W.nsIn K Nd "dict"=some none)
  (b_int:PySem.W.nsIn K Nd "int"=some none)
  (b_isinstance:PySem.W.nsIn K Nd "isinstance"=some none)
  (b_len:PySem.W.nsIn K Nd "len"=some none)
  (b_list:PySem.W.nsIn K Nd "list"=some none)
  (b_max:PySem.W.nsIn K Nd "max"=some none)
  (b_min:PySem.W.nsIn K Nd "min"=some none)
  (b_range:PySem.W.nsIn K Nd "range"=some none)
  (b_sorted:PySem.W.nsIn K Nd "sorted"=some none)
  (b_tuple:PySem.W.nsIn K Nd "tuple"=some none)
  (b_zip:PySem.W.nsIn K Nd "zip"=some none)
  (kn0:PySem.W.nsIn K Nd "STANDS"=some (some (.str "stands" kt0)))
  (kn1:PySem.W.nsIn K Nd "START"=some (some (.ref ka1)))
  (kl1:K.lookup ka1=some ⟨.type "tuple",none,.seq #[.str "" VL,.int 0 VJ,.int 0 VI] kz1,ks1⟩)
  (kn2:PySem.W.nsIn K Nd "WAITS"=some (some (.str "waits" kt2)))
  (kn3:PySem.W.nsIn K Nd "WIPED"=some (some (.str "wiped" kt3)))
  (Uk:FnG K "_law_cell_at" iX)
  (Uy:FnG K "_law_stream" jw)
  (U8:FnG K "check_gap" lT)
  (U9:FnG K "anchor_at" lU)
  (UM:FnG K "lay_behind" j8)
  (UL:FnG K "slots_made" j7)
  (U5:FnG K "old_slots" lQ)
  (TQ:FnG K "place_in_order" gF)
  (Vh:FnG K "in_order" nA)
  (h_Stroke___init__:MtG K Z1 "__init__" "Stroke.__init__" d_)
  (TB:CfG K Z1 "__init__" "Stroke.__init__" d_)
  (Uo:MtG K Z2 "__init__" "Put.__init__" iY)
  (TK:MtG K Z3 "__init__" "Strike.__init__" fZ)
  (TX:MtG K Z4 "__init__" "Dress.__init__" gI)
  (T_:MtG K Z5 "__init__" "Move.__init__" ir)
  (U4:FnG K "stroke_of" lP)
  (Vp:FnG K "chained" p8)
  (UE:MtG K Z4 "slots" "Stroke.slots" eR)
  (Um:MtG K Z3 "slots" "Stroke.slots" eR)
  (Ul:MtG K Z1 "slots" "Stroke.slots" eR)
  (Va:MtG K Z2 "slots" "Put.slots" lW)
  (UV:MtG K Z5 "slots" "Move.slots" kq)
  (Vg:FnG K "slots_of" nw)
  (Vw:FnG K "marked" sT)
  (U6:FnG K "is_placed" lR)
  (U7:FnG K "effective" lS)
  (T4:FnG K "signs_brought" ij)
  (Ua:MtG K Z4 "touched" "Stroke.touched" cg)
  (Ur:MtG K Z5 "touched" "Stroke.touched" cg)
  (Uz:MtG K Z2 "touched" "Stroke.touched" cg)
  (TU:MtG K Z3 "touched" "Stroke.touched" cg)
  (TR:MtG K Z1 "touched" "Stroke.touched" cg)
  (Uj:FnG K "signs_struck" iW)
  (Ux:FnG K "slots_taken" jv)
  (UK:FnG K "words_worn" j6)
  (Vv:FnG K "seated" sS)
  (T8:MtG K R7 "unwiped" "Paper.unwiped" ip)
  (UC:MtG K R7 "seats" "Paper.seats" jz)
  (Vq:MtG K Z2 "row" "Put.row" p9)
  (UO:MtG K Z3 "row" "Strike.row" j_)
  (Vd:MtG K Z4 "row" "Dress.row" lZ)
  (Vj:MtG K Z5 "row" "Move.row" nC)
  (UU:MtG K R7 "draw" "Paper.draw" ko)
  (Tv:MtG K R7 "coming_name" "Paper.coming_name" ft)
  (Tu:MtG K R7 "coming_time" "Paper.coming_time" fq)
  (Vc:MtG K R7 "put" "Paper.put" lY)
  (US:MtG K R7 "part" "Paper.part" kj)
  (U3:FnG K "undressed" lO)
  (Vb:MtG K R8 "put" "Plain.put" lX)
  (Vi:FnG K "_law_put" nB)
  (UP:MtG K R8 "rows" "Plain.rows" ke)
  (T6:FnG K "check_stretch" il)
  (T5:FnG K "names_between" ik)
  (Uq:MtG K R7 "strike" "Paper.strike" i5)
  (Up:MtG K R8 "strike" "Plain.strike" iZ)
  (UD:MtD K R7 "dress" "Paper.dress" jA "")
  (UA:MtD K R8 "dress" "Plain.dress" jx "")
  (UT:MtG K R7 "move" "Paper.move" km)
  (UQ:MtG K R8 "move" "Plain.move" kg)
  (U_:FnG K "_law_deed" lV)
  (Vo:FnG K "reading" p7)
  (UR:MtG K R7 "view" "Paper.view" kh)
  (UN:FnG K "_law_alike" j9)
  (Vn:FnG K "text_of" p6)
  (TC:MtG K R7 "strokes_in" "Paper.strokes_in" fP)
  (T7:MtG K R7 "waiting" "Paper.waiting" im)
  (Tz:MtG K R7 "check_known" "Paper.check_known" fw)
  (UB:MtG K R7 "state" "Paper.state" jy)
  (Tw:MtG K R7 "check_waits" "Paper.check_waits" fu)
  (TL:MtG K R7 "let_stand" "Paper.let_stand" f6)
  (T9:MtG K R7 "strokes" "Paper.strokes" iq)
  (TW:MtG K R7 "__init__" "Paper.__init__" gH)
  (TV:MtG K R8 "__init__" "Plain.__init__" gG)
  (h_law:FnG K "law" sU):
  ∃ fd:M7,(∀ (s:MW) (v:MV),QR s fd ⟨[v],[]⟩ [("_law_script",v)])/\∀ base:No,K.In base->base.Ns Nd mg->FnOk P w K mg base dE 12 fa fd ["_law_script"] (ax K wW):=by
 obtain⟨f,a,⟨⟨_,_,an,_,kV,dc,pm,cd,ct,l,c⟩⟩,_⟩:=h_law.ex;have e:=hfa.symm.trans (PySem.W.mg_of X G a);cases e;have T:Tx K mg Z1 Z2 Z3 Z4 Z5 R7 R8:=⟨(all_cons ⟨k0,WP⟩ (all_cons ⟨k1,WH⟩ (all_cons ⟨k2,Wz⟩ (all_cons ⟨k3,Wr⟩ (all_cons ⟨k4,Wj⟩ (fun _ h=>nomatch h)))))),(all_cons ⟨k0,WO⟩ (all_cons ⟨k1,WG⟩ (all_cons ⟨k2,Wy⟩ (all_cons ⟨k3,Wq⟩ (all_cons ⟨k4,Wh⟩ (fun _ h=>nomatch h)))))),(all_cons ⟨k0,WN⟩ (all_cons ⟨k1,WF⟩ (all_cons ⟨k2,Wx⟩ (all_cons ⟨k3,Wp⟩ (all_cons ⟨k4,Wg⟩ (fun _ h=>nomatch h)))))),(all_cons ⟨k0,WM⟩ (all_cons ⟨k1,WE⟩ (all_cons ⟨k2,Ww⟩ (all_cons ⟨k3,Wo⟩ (all_cons ⟨k4,Wf⟩ (fun _ h=>nomatch h)))))),(all_cons ⟨k0,WL⟩ (all_cons ⟨k1,WD⟩ (all_cons ⟨k2,Wv⟩ (all_cons ⟨k3,Wn⟩ (all_cons ⟨k4,We⟩ (fun _ h=>nomatch h)))))),(all_cons ⟨k0,WK⟩ (all_cons ⟨k1,WC⟩ (all_cons ⟨k2,Wu⟩ (all_cons ⟨k3,Wm⟩ (all_cons ⟨k4,Wd⟩ (fun _ h=>nomatch h)))))),k0,k1,k2,k3,k4,k5,Wa,V_,V9,V8,V7,k6,V4,Og X G b_all,Og X G b_dict,Og X G b_int,Og X G b_isinstance,Og X G b_len,Og X G b_list,Og X G b_max,Og X G b_min,Og X G b_range,Og X G b_sorted,Og X G b_tuple,Og X G b_zip,qR (PySem.W.mg_of X G kn0),Dz (vs:=[.str "",.int 0,.int 0]) (PySem.W.mg_of X G kn1) kl1 (by show 3<=M4;decide) (.cons ⟨_,rfl⟩ (.cons ⟨_,rfl⟩ (.cons ⟨_,rfl⟩ .nil))) fun _=>(RDs.cons kB (RDs.cons eT (RDs.cons eT RDs.nil))),qR (PySem.W.mg_of X G kn2),qR (PySem.W.mg_of X G kn3),PySem.W.mg_of X G c3a,(all_cons ⟨⟨k0,SR,SE,SD,SQ⟩,T1⟩ (all_cons ⟨⟨k1,Ts,SE,SD,Tr⟩,UG⟩ (all_cons ⟨⟨k2,SU,SE,SD,SS⟩,T2⟩ (all_cons ⟨⟨k3,S5,SE,SD,S4⟩,Ue⟩ (all_cons ⟨⟨k4,Th,SE,SD,Tg⟩,Uv⟩ (fun _ h=>nomatch h)))))),PySem.W.mg_of X G c4a,(all_cons ⟨⟨k0,SR,SE,SD,SQ⟩,Ub⟩ (all_cons ⟨⟨k1,Ts,SE,SD,Tr⟩,UY⟩ (all_cons ⟨⟨k2,SU,SE,SD,SS⟩,Uc⟩ (all_cons ⟨⟨k3,S5,SE,SD,S4⟩,Uw⟩ (all_cons ⟨⟨k4,Th,SE,SD,Tg⟩,UH⟩ (fun _ h=>nomatch h)))))),PySem.W.mg_of X G c1a,(all_cons ⟨⟨k0,SR,SE,SD,SQ⟩,Us⟩ (all_cons ⟨⟨k1,Ts,SE,SD,Tr⟩,Ve⟩ (all_cons ⟨⟨k2,SU,SE,SD,SS⟩,Ut⟩ (all_cons ⟨⟨k3,S5,SE,SD,S4⟩,UI⟩ (all_cons ⟨⟨k4,Th,SE,SD,Tg⟩,UZ⟩ (fun _ h=>nomatch h)))))),PySem.W.mg_of X G c2a,(all_cons ⟨⟨k0,SR,SE,SD,SQ⟩,TM⟩ (all_cons ⟨⟨k1,Ts,SE,SD,Tr⟩,Uu⟩ (all_cons ⟨⟨k2,SU,SE,SD,SS⟩,TN⟩ (all_cons ⟨⟨k3,S5,SE,SD,S4⟩,T3⟩ (all_cons ⟨⟨k4,Th,SE,SD,Tg⟩,Ud⟩ (fun _ h=>nomatch h))))))⟩
 have F:=mM (st:=sU) l c;refine⟨PySem.W.fnOf "law" "law" (fO sU) (fi sU) (aj sU) .none kV dc pm an cd ct,fun s v=>.of_eq rfl,fun base _ _=>?_⟩;have S3:=pO P w base X G Uk fun F=>rT F T ;have Tc:=pO P w base X G Uy fun F=>tM F T ;have Ss:=pO P w base X G U8 fun F=>xK F T ;have SI:=pO P w base X G U9 fun F=>xL F T ;have SW:=pO P w base X G UM fun F=>vk F T ;have Su:=pO P w base X G UL fun F=>vj F T ;have SH:=pO P w base X G U5 fun F=>xH F T Su;have SK:=pO P w base X G TQ fun F=>oZ F T ;have SL:=pO P w base X G Vh fun F=>zw F T SK;have Sb:=MK P w base X G c0a TB fun F=>nM F T ;have UF:=J1 P w base X G c1a WI WJ Uo fun F=>rU F T Sb;have Td:=J1 P w base X G c2a WA WB TK fun F=>nN F T Sb;have Tt:=J1 P w base X G c3a Ws Wt TX fun F=>o7 F T Sb;have TY:=J1 P w base X G c4a Wk Wl T_ fun F=>qv F T Sb;have SG:=pO P w base X G U4 fun F=>xG F T Tt TY UF Td;have T0:=pO P w base X G Vp fun F=>Bc F T ;have Sf:=mi P w base T.cl_Dress UE fun F=>iz F T ;have Sd:=mi P w base T.cl_Strike Um fun F=>iz F T ;have Sc:=mi P w base T.cl_Stroke Ul fun F=>iz F T ;have Sn:=mi P w base T.cl_Put Va fun F=>xN F T Su;have Sj:=mi P w base T.cl_Move UV fun F=>vA F T Su;have TF:=pO P w base X G Vg fun F=>zt F T T0 SL SW SH SG Sc Sn Sd Sf Sj;have Tf:=pO P w base X G Vw fun F=>C0 F T ;have To:=pO P w base X G U6 fun F=>xI F T Sc Sn Sd Sf Sj;have Tp:=pO P w base X G U7 fun F=>xJ F T SL To Tf SG;have SO:=pO P w base X G T4 fun F=>qo F T SH Sc Sn Sd Sf Sj;have Sm:=mi P w base T.cl_Dress Ua fun F=>dz F T ;have So:=mi P w base T.cl_Move Ur fun F=>dz F T ;have Sr:=mi P w base T.cl_Put Uz fun F=>dz F T ;have Sh:=mi P w base T.cl_Strike TU fun F=>dz F T ;have Sg:=mi P w base T.cl_Stroke TR fun F=>dz F T ;have S2:=pO P w base X G Uj fun F=>rS F T Sg Sr Sh Sm So;have Ta:=pO P w base X G Ux fun F=>tL F T Sc Sn Sd Sf Sj Sg Sr Sh Sm So;have Tj:=pO P w base X G UK fun F=>vi F T Sg Sr Sh Sm So;have Te:=pO P w base X G Vv fun F=>CZ F T Tp Tf SO S2 TF Ta Tj;have Sv:=mi P w base T.cl_Paper T8 fun F=>qt F T ;have Se:=mi P w base T.cl_Paper UC fun F=>tP F T Te Sv;have TD:=mi P w base T.cl_Put Vq fun F=>Bd F T ;have S6:=mi P w base T.cl_Strike UO fun F=>vn F T ;have Ti:=mi P w base T.cl_Dress Vd fun F=>xQ F T ;have Tl:=mi P w base T.cl_Move Vj fun F=>zy F T ;have Si:=mi P w base T.cl_Paper UU fun F=>vz F T TD S6 Ti Tl;have Sa:=mi P w base T.cl_Paper Tv fun F=>l_ F T ;have R_:=mi P w base T.cl_Paper Tu fun F=>l9 F T ;have SB:=mi P w base T.cl_Paper Vc fun F=>xP F T SI Ss Sa R_ Si Se UF;have S9:=mi P w base T.cl_Paper US fun F=>vt F T SB;have SF:=pO P w base X G U3 fun F=>xF F T ;have SV:=mi P w base T.cl_Plain Vb fun F=>xO F T Ss SF;have TH:=pO P w base X G Vi fun F=>zx F T S9 SB SV;have Sy:=mi P w base T.cl_Plain UP fun F=>vo F T ;have R9:=pO P w base X G T6 fun F=>qq F T ;have Sq:=pO P w base X G T5 fun F=>qp F T ;have SN:=mi P w base T.cl_Paper Uq fun F=>rW F T R9 Sq Sa R_ Si Se Td;have SM:=mi P w base T.cl_Plain Up fun F=>rV F T R9;have S1:=KG P w base T.cl_Paper UD (fun d s us X hl=>(fun (hl':us.length=5)=>match us,hl' with|[_,_,_,_,_],_=>binds_K X rfl d rfl rfl rfl) (by simpa using hl)) fun F=>tQ F T R9 Sq Sa R_ Si Se Tt
 have SZ:=KG P w base T.cl_Plain UA (fun d s us X hl=>(fun (hl':us.length=4)=>match us,hl' with|[_,_,_,_],_=>binds_K X rfl d rfl rfl rfl) (by simpa using hl)) fun F=>tN F T R9
 have S_:=mi P w base T.cl_Paper UT fun F=>vy F T SI Ss R9 Sq Sa R_ Si Se TY;have S7:=mi P w base T.cl_Plain UQ fun F=>vp F T Ss R9;have Tq:=pO P w base X G U_ fun F=>xM F T TH S1 S_ SN SZ S7 Sy SM;have SY:=pO P w base X G Vo fun F=>Bb F T Te;have S8:=mi P w base T.cl_Paper UR fun F=>vq F T SY Sv;have SX:=pO P w base X G UN fun F=>vm F T S8 Sy;have TZ:=pO P w base X G Vn fun F=>Ba F T ;have SC:=mi P w base T.cl_Paper TC fun F=>mZ F T ;have Sw:=mi P w base T.cl_Paper T7 fun F=>qr F T SC;have SA:=mi P w base T.cl_Paper Tz fun F=>md F T ;have S0:=mi P w base T.cl_Paper UB fun F=>tO F T SA;have Sz:=mi P w base T.cl_Paper Tw fun F=>ma F T S0;have Sx:=mi P w base T.cl_Paper TL fun F=>nO F T Sz;have SJ:=mi P w base T.cl_Paper T9 fun F=>qu F T ;have UX:=J1 P w base X G c5a Wb Wc TW fun F=>o6 F T ;have UW:=J1 P w base X G c6a V5 V6 TV fun F=>o0 F T SF;exact Jb F T SX S3 Tq Tc SY TZ Sx SJ Sw UX UW
end RQ
open PySem PySem.W PyProof.Rows
local macro_rules | `(tactic| walk_at "gq") => `(tactic| first | k_is | kernel_rfl | (refine' L3.fnG_mk ?a ?l ?c ?k; (case a => k_is); (case l => k_is); (case c => k_is); (case k => k_is)) | (refine' L3.mtG_mk ?a ?i ?l ?c ?k; (case a => k_is); (case i => k_is); (case l => k_is); (case c => k_is); (case k => k_is)) | (refine' L2.Cls.mk ?a ?b ?c ?d; (case a => k_is); (case b => k_is); (case c => k_is); (case d => k_is)) | (refine' L3.mtD_mk ?a ?i ?l ?c ?k ?d; (case a => k_is); (case i => k_is); (case l => k_is); (case c => k_is); (case k => k_is); (case d => k_is)) | (refine' L3.cfG_mk ?g ?r ?a ?l ?c ?k; (case g => k_is); (case r => k_is); (case a => k_is); (case l => k_is); (case c => k_is); (case k => k_is)) | skip)
def PySem.W.Fast.tw9463960443654592556 : Nat := 0
def PySem.W.Fast.tw18301229795856243017 : Nat := 0
def PySem.W.Fast.tw17012649358282341072 : Nat := 0
def PySem.W.Fast.tw13397574762950440330 : Nat := 0
def PySem.W.Fast.tw16141881440517822460 : Nat := 0
def PySem.W.Fast.tw11391010579620938552 : Nat := 0
def PySem.W.Fast.tw13190635410833004117 : Nat := 0
def PySem.W.Fast.tw10189011789920494304 : Nat := 0
def PySem.W.Fast.tw5658815379935411452 : Nat := 0
def PySem.W.Fast.tw16192735609455981237 : Nat := 0
def PySem.W.Fast.tw13757346781350330182 : Nat := 0
def PySem.W.Fast.tw681606954773061256 : Nat := 0
def PySem.W.Fast.tw10022665711162785958 : Nat := 0
def PySem.W.Fast.tw9238022088829448750 : Nat := 0
def PySem.W.Fast.tw7858688403975860859 : Nat := 0
def PySem.W.Fast.tw10290109355312469211 : Nat := 0
def PySem.W.Fast.tw14631058121034209034 : Nat := 0
def PySem.W.Fast.tw3193573335962354854 : Nat := 0
def PySem.W.Fast.tw15383608817606633191 : Nat := 0
def PySem.W.Fast.tw3774516997382731305 : Nat := 0
def PySem.W.Fast.tw7926566208825955709 : Nat := 0
def PySem.W.Fast.tw15802603954451889726 : Nat := 0
def PySem.W.Fast.tw6556346378628903337 : Nat := 0
def PySem.W.Fast.tw7357775795734393259 : Nat := 0
def PySem.W.Fast.tw923311534883794269 : Nat := 0
def PySem.W.Fast.tw9026342583437645253 : Nat := 0
def PySem.W.Fast.tw5111320453668245654 : Nat := 0
def PySem.W.Fast.tw15483679007857893737 : Nat := 0
def PySem.W.Fast.tw8584209462701175796 : Nat := 0
def PySem.W.Fast.tw17540444556856319578 : Nat := 0
def PySem.W.Fast.tw2896103409798211724 : Nat := 0
def PySem.W.Fast.tw8318505059384390 : Nat := 0
def PySem.W.Fast.tw14998407794881297894 : Nat := 0
def PySem.W.Fast.tw8768069953655896729 : Nat := 0
def PySem.W.Fast.tw17583863011537588871 : Nat := 0
def PySem.W.Fast.tw15607350553531334766 : Nat := 0
def PySem.W.Fast.tw5593807808591363961 : Nat := 0
def PySem.W.Fast.tw9917245349053342666 : Nat := 0
def PySem.W.Fast.tw18076092573539992448 : Nat := 0
def PySem.W.Fast.tw14456995551422283705 : Nat := 0
def PySem.W.Fast.tw6265609555357946727 : Nat := 0
def PySem.W.Fast.tw11571941591037349221 : Nat := 0
def PySem.W.Fast.tw12023427633477090641 : Nat := 0
def PySem.W.Fast.tw7553903797365799269 : Nat := 0
def PySem.W.Fast.tw15169281765679988606 : Nat := 0
def PySem.W.Fast.tw6298132107507080369 : Nat := 0
def PySem.W.Fast.tw15050411396497052830 : Nat := 0
def PySem.W.Fast.tw9902089039934848262 : Nat := 0
def PySem.W.Fast.tw335560669563423242 : Nat := 0
def PySem.W.Fast.tw10458975657999578834 : Nat := 0
def PySem.W.Fast.tw3936891477937743586 : Nat := 0
def PySem.W.Fast.tw7610459798738763997 : Nat := 0
def PySem.W.Fast.tw4973245975552133665 : Nat := 0
def PySem.W.Fast.tw7425066223697354661 : Nat := 0
def PySem.W.Fast.tw3381801080923125836 : Nat := 0
def PySem.W.Fast.tw12378999985481395074 : Nat := 0
def PySem.W.Fast.tw7260595475819657544 : Nat := 0
def PySem.W.Fast.tw1751103417871156436 : Nat := 0
def PySem.W.Fast.tw6329588613575499312 : Nat := 0
def PySem.W.Fast.tw4840877196928342172 : Nat := 0
def PySem.W.Fast.tw8158008481559800147 : Nat := 0
def PySem.W.Fast.tw11443571747267230461 : Nat := 0
def PySem.W.Fast.tw12958699225244763234 : Nat := 0
def PySem.W.Fast.tw16850613579231558138 : Nat := 0
def PySem.W.Fast.tw795952609625742107 : Nat := 0
def PySem.W.Fast.tw13034358609868928868 : Nat := 0
def PySem.W.Fast.tw10491843926550579033 : Nat := 0
def PySem.W.Fast.tw9293638051786753863 : Nat := 0
def PySem.W.Fast.tw16178347094090463467 : Nat := 0
def PySem.W.Fast.tw4236121378727216129 : Nat := 0
def PySem.W.Fast.tw1060380997233872627 : Nat := 0
def PySem.W.Fast.tw4265523356041299609 : Nat := 0
def PySem.W.Fast.tw15700187507408456340 : Nat := 0
def PySem.W.Fast.tw5728608228310897887 : Nat := 0
def PySem.W.Fast.tw13515163796273318497 : Nat := 0
def PySem.W.Fast.tw14456101679907236994 : Nat := 0
def PySem.W.Fast.tw16504169942534929304 : Nat := 0
def PySem.W.Fast.tw9792088224847465820 : Nat := 0
def PySem.W.Fast.tw5687738426784841120 : Nat := 0
def PySem.W.Fast.tw10133568968877770778 : Nat := 0
def PySem.W.Fast.tw12804277449500095973 : Nat := 0
def PySem.W.Fast.tw10399162896913393135 : Nat := 0
def PySem.W.Fast.tw7425685477563610999 : Nat := 0
def PySem.W.Fast.tw1938861869439674339 : Nat := 0
def PySem.W.Fast.tw4875294850678811872 : Nat := 0
def PySem.W.Fast.tw8111842533965019723 : Nat := 0
def PySem.W.Fast.tw12688279843792533593 : Nat := 0
def PySem.W.Fast.tw3719780383694862885 : Nat := 0
def PySem.W.Fast.tw6799861202542959356 : Nat := 0
def PySem.W.Fast.tw18335478216756259942 : Nat := 0
def PySem.W.Fast.tw14658973541481245173 : Nat := 0
def PySem.W.Fast.tw1158465119308297923 : Nat := 0
def PySem.W.Fast.tw12603620177659039333 : Nat := 0
def PySem.W.Fast.tw7453319081252045478 : Nat := 0
def PySem.W.Fast.tw15836177463724723764 : Nat := 0
def PySem.W.Fast.tw12400079409459062532 : Nat := 0
def PySem.W.Fast.tw74978728608277949 : Nat := 0
def PySem.W.Fast.tw6979417196692064612 : Nat := 0
def PySem.W.Fast.tw5765879318559521007 : Nat := 0
def PySem.W.Fast.tw2017363017584660491 : Nat := 0
def PySem.W.Fast.tw16287452376817451159 : Nat := 0
def PySem.W.Fast.tw7556039083390260035 : Nat := 0
def PySem.W.Fast.tw11577334772417635173 : Nat := 0
def PySem.W.Fast.tw10708939199630078350 : Nat := 0
def PySem.W.Fast.tw1544570281835195577 : Nat := 0
def PySem.W.Fast.tw17100742782972972164 : Nat := 0
def PySem.W.Fast.tw4612107434181668015 : Nat := 0
def PySem.W.Fast.tw12939036154202238338 : Nat := 0
def PySem.W.Fast.tw1043496988599121378 : Nat := 0
def PySem.W.Fast.tw437747323468809307 : Nat := 0
def PySem.W.Fast.tw8701243409419840469 : Nat := 0
def PySem.W.Fast.tw5708247973042657671 : Nat := 0
def PySem.W.Fast.tw2729376553603340344 : Nat := 0
def PySem.W.Fast.tw8096535828902095956 : Nat := 0
def PySem.W.Fast.tw3204351494004826554 : Nat := 0
def PySem.W.Fast.tw7064885160192403434 : Nat := 0
def PySem.W.Fast.tw13571305325535625821 : Nat := 0
def PySem.W.Fast.tw9117978558034264733 : Nat := 0
def PySem.W.Fast.tw18099309841786027875 : Nat := 0
def PySem.W.Fast.tw12925380849540216822 : Nat := 0
def PySem.W.Fast.tw1256665214989810133 : Nat := 0
def PySem.W.Fast.tw10754576269221231336 : Nat := 0
def PySem.W.Fast.tw12397886069682366609 : Nat := 0
def PySem.W.Fast.tw16082243941238885172 : Nat := 0
def PySem.W.Fast.tw14965599209840720681 : Nat := 0
def PySem.W.Fast.tw2266101134374292907 : Nat := 0
def PySem.W.Fast.tw9865315039823349967 : Nat := 0
def PySem.W.Fast.tw5637577471682631076 : Nat := 0
def PySem.W.Fast.tw9631007934062236440 : Nat := 0
def PySem.W.Fast.tw7755830131581452141 : Nat := 0
def PySem.W.Fast.tw14915207838443886117 : Nat := 0
def PySem.W.Fast.tw12458002582452306925 : Nat := 0
def PySem.W.Fast.tw2760674774270214132 : Nat := 0
def PySem.W.Fast.tw13420891160377458245 : Nat := 0
def PySem.W.Fast.tw13832112758087703236 : Nat := 0
def PySem.W.Fast.tw1125009042155868387 : Nat := 0
def PySem.W.Fast.tw8695477372293800647 : Nat := 0
def PySem.W.Fast.tw6302425221743240978 : Nat := 0
def PySem.W.Fast.tw4056108941351777861 : Nat := 0
def PySem.W.Fast.tw16538534972652472838 : Nat := 0
def PySem.W.Fast.tw16343415035973587481 : Nat := 0
def PySem.W.Fast.tw585855360145982140 : Nat := 0
def PySem.W.Fast.tw9208857445319744063 : Nat := 0
def PySem.W.Fast.tw13221192208756212816 : Nat := 0
def PySem.W.Fast.tw8708329952003718487 : Nat := 0
def PySem.W.Fast.tw16919661725846048761 : Nat := 0
def PySem.W.Fast.tw6975726501579180448 : Nat := 0
def PySem.W.Fast.tw4918037844942135306 : Nat := 0
def PySem.W.Fast.tw4753271590723265762 : Nat := 0
def PySem.W.Fast.tw3932498354613975754 : Nat := 0
def PySem.W.Fast.tw12223776760838313458 : Nat := 0
def PySem.W.Fast.tw4576236560334940529 : Nat := 0
def PySem.W.Fast.tw16481894026193385640 : Nat := 0
def PySem.W.Fast.tw6814530090230019101 : Nat := 0
def PySem.W.Fast.tw7530250968517566146 : Nat := 0
def PySem.W.Fast.tw2301315536913735676 : Nat := 0
def PySem.W.Fast.tw16476228840522387998 : Nat := 0
def PySem.W.Fast.tw8498834803214217935 : Nat := 0
def PySem.W.Fast.tw12489204363060516193 : Nat := 0
def PySem.W.Fast.tw1923326652844899966 : Nat := 0
def PySem.W.Fast.tw15350229364394812595 : Nat := 0
def PySem.W.Fast.tw15782240846442135436 : Nat := 0
def PySem.W.Fast.tw16626517317641357111 : Nat := 0
def PySem.W.Fast.tw12046150366250211118 : Nat := 0
def PySem.W.Fast.tw6658405168945152713 : Nat := 0
def PySem.W.Fast.tw10480387119803806716 : Nat := 0
def PySem.W.Fast.tw12939919008190960148 : Nat := 0
def PySem.W.Fast.tw13912590666365610442 : Nat := 0
def PySem.W.Fast.tw18437062149179671207 : Nat := 0
def PySem.W.Fast.tw609988837582474871 : Nat := 0
def PySem.W.Fast.tw14303512802092697438 : Nat := 0
def PySem.W.Fast.tw8960563128707661921 : Nat := 0
def PySem.W.Fast.tw3598771552934052946 : Nat := 0
def PySem.W.Fast.tw8628345037522448541 : Nat := 0
def PySem.W.Fast.tw17372980783563622456 : Nat := 0
def PySem.W.Fast.tw14564425356717461603 : Nat := 0
def PySem.W.Fast.tw16769988192778912229 : Nat := 0
def PySem.W.Fast.tw18374093397975188663 : Nat := 0
def PySem.W.Fast.tw10557737793076874161 : Nat := 0
def PySem.W.Fast.tw14248586923471178403 : Nat := 0
def PySem.W.Fast.tw10488791738381227526 : Nat := 0
def PySem.W.Fast.tw10955504491065524767 : Nat := 0
def PySem.W.Fast.tw2145028199024476594 : Nat := 0
def PySem.W.Fast.tw11995745357846892012 : Nat := 0
def PySem.W.Fast.tw15215497023419594565 : Nat := 0
def PySem.W.Fast.tw4770911245462392397 : Nat := 0
def PySem.W.Fast.tw7512818219352492668 : Nat := 0
def PySem.W.Fast.tw5677587277709530735 : Nat := 0
def PySem.W.Fast.tw1983659201701417943 : Nat := 0
def PySem.W.Fast.tw13508772638478589363 : Nat := 0
def PySem.W.Fast.tw18308189364588564098 : Nat := 0
def PySem.W.Fast.tw3950245026058624298 : Nat := 0
def PySem.W.Fast.tw8721534013166390599 : Nat := 0
def PySem.W.Fast.tw563544417952250532 : Nat := 0
def PySem.W.Fast.tw9160811199466733307 : Nat := 0
def PySem.W.Fast.tw14164378022407627848 : Nat := 0
def PySem.W.Fast.tw13369506428338555410 : Nat := 0
def PySem.W.Fast.tw17485772902090911617 : Nat := 0
def PySem.W.Fast.tw5791154078096200430 : Nat := 0
def PySem.W.Fast.tw4065103987721578567 : Nat := 0
def PySem.W.Fast.tw12395730371482392242 : Nat := 0
def PySem.W.Fast.tw10358052141623108511 : Nat := 0
def PySem.W.Fast.tw8272833506959534272 : Nat := 0
def PySem.W.Fast.tw7059636239129135329 : Nat := 0
def PySem.W.Fast.tw8702857264221506532 : Nat := 0
def PySem.W.Fast.tw18384700059300340651 : Nat := 0
def PySem.W.Fast.tw17656008408488448448 : Nat := 0
def PySem.W.Fast.tw12088467759786547232 : Nat := 0
def PySem.W.Fast.tw8507573640978423277 : Nat := 0
def PySem.W.Fast.tw1161294773158996549 : Nat := 0
def PySem.W.Fast.tw10456111227957298746 : Nat := 0
def PySem.W.Fast.tw4887662747320070694 : Nat := 0
def PySem.W.Fast.tw7994536505668878895 : Nat := 0
def PySem.W.Fast.tw11517771324986037948 : Nat := 0
def PySem.W.Fast.tw18146720507808209714 : Nat := 0
def PySem.W.Fast.tw10606537958252627076 : Nat := 0
def PySem.W.Fast.tw17401623125628127550 : Nat := 0
def PySem.W.Fast.tw3590225491120944125 : Nat := 0
def PySem.W.Fast.tw14381372789904924238 : Nat := 0
def PySem.W.Fast.tw14332983567039568924 : Nat := 0
def PySem.W.Fast.tw4678740918734701031 : Nat := 0
def PySem.W.Fast.tw1064719220048155635 : Nat := 0
def PySem.W.Fast.tw10377971980313916346 : Nat := 0
def PySem.W.Fast.tw16220541902502011507 : Nat := 0
def PySem.W.Fast.tw17829193736424708018 : Nat := 0
def PySem.W.Fast.tw16421982700188608882 : Nat := 0
def PySem.W.Fast.tw5005872166848970010 : Nat := 0
def PySem.W.Fast.tw15255691877334511236 : Nat := 0
def PySem.W.Fast.tw7489037586324652421 : Nat := 0
def PySem.W.Fast.tw8546620420961381899 : Nat := 0
def PySem.W.Fast.tw949182151282219420 : Nat := 0
def PySem.W.Fast.tw13125514302100495151 : Nat := 0
def PySem.W.Fast.tw4105033628989586161 : Nat := 0
def PySem.W.Fast.tw12283123595771797479 : Nat := 0
def PySem.W.Fast.tw525183777596045533 : Nat := 0
def PySem.W.Fast.tw6027655160730413269 : Nat := 0
def PySem.W.Fast.tw4944959960511317271 : Nat := 0
set_option maxRecDepth 100000 in
set_option maxHeartbeats 0 in
theorem PySem.Challenge.cw_redquill_k52_whole_as_upon_a_plain_text_holds : PySem.Challenge.rw_redquill_k52_whole_as_upon_a_plain_text.Holds := by
 w_on;o_law;k_head;(case hw=>w_witness2)
 k_fill
 refine L3.walk3 (l:=PySem.Challenge.rw_redquill_k52_whole_as_upon_a_plain_text) (k:=12) (x:="_law_script") rfl rfl ⟨rfl,by decide,by decide⟩ (fun w h Y=>PySem.W.kIn_of Y) ?F
 case F=>
  intro w mg fa h KX G hmg;refine' RQ.all_mk KX G hmg ?_ ?_ ?_ ?_ ?_ ?_ ?_ ?_ ?_ ?_ ?_ ?_ ?_ ?_ ?_ ?_ ?_ ?_ ?_ ?_ ?_ ?_ ?_ ?_ ?_ ?_ ?_ ?_ ?_ ?_ ?_ ?_ ?_ ?_ ?_ ?_ ?_ ?_ ?_ ?_ ?_ ?_ ?_ ?_ ?_ ?_ ?_ ?_ ?_ ?_ ?_ ?_ ?_ ?_ ?_ ?_ ?_ ?_ ?_ ?_ ?_ ?_ ?_ ?_ ?_ ?_ ?_ ?_ ?_ ?_ ?_ ?_ ?_ ?_ ?_ ?_ ?_ ?_ ?_ ?_ ?_ ?_ ?_ ?_ ?_ ?_ ?_ ?_ ?_ ?_ ?_ ?_ ?_ ?_ ?_ ?_ ?_ ?_ ?_ ?_ ?_ ?_ ?_ ?_ ?_ ?_ ?_ ?_ ?_ ?_ ?_ ?_ ?_ ?_ ?_ ?_ ?_ ?_ ?_ ?_ ?_ ?_ ?_ ?_ ?_ ?_ ?_ ?_ ?_ ?_ ?_ ?_ ?_ ?_ ?_ ?_ ?_ ?_ ?_ ?_ ?_ ?_ ?_ ?_ ?_ ?_ ?_ ?_ ?_ ?_ ?_ ?_ ?_ ?_ ?_ ?_ ?_ ?_ ?_ ?_ ?_ ?_ ?_ ?_ ?_ ?_ ?_ ?_ ?_ ?_ ?_ ?_ ?_ ?_ ?_ ?_ ?_ ?_ ?_ ?_ ?_ ?_ ?_ ?_ ?_ ?_ ?_
  all_goals walk_at "gq"
