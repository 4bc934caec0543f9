import PyProof.Rows.All
import Wide.All
import OpenK.AllK
import Wide.FinOn
import Lean
import PyProof.EqAt
import PyProof.EqKinds
import PyProof.TupleCall
import PySem.Challenge.RW_redquill_k32_where_and_what_it_wears
set_option Elab.async false
set_option linter.all false
set_option maxRecDepth 100000
set_option maxHeartbeats 4000000
noncomputable section
open PySem.W (instObj methodObj Frag lookIn plainGet hasDictIn findIn plainGet_of isFn plainOver takerIn makesIn emptyDict specialIn keepIn takesIn mroIn kitOne kia_one callWith_K fnOf codeIn readsIn findCls nsIn mg_of mg_none_of)
open List (mem_filter mem_range filterMap_cons mem_cons_self mem_cons_of_mem mem_cons mem_append getElem?_set_ne mem_append_right size_toArray length_cons map_cons length_map append_nil nodup_cons length_take getElem?_map mem_of_getElem? length_append length_drop map_nil find?_cons any_cons length_nil drop_zero forIn_cons lookup_cons take_add_one take_length all_eq_true getD_eq_getElem?_getD getElem?_eq_getElem map_congr_left foldl_cons nil_append cons_append any_eq_true mem_map map_map nodup_nil countP_cons zip_cons_cons getElem?_eq_none mem_singleton forIn_nil not_mem_nil map_append getElem_mem getElem?_cons_succ getElem?_cons_zero set_cons_zero set_cons_succ mem_of_mem_take length_zip)
open Nat (le_trans le_of_lt lt_of_lt_of_le ne_of_lt ne_of_gt le_refl lt_succ_self zero_le sub_zero lt_or_ge)
local macro_rules | `(tactic| walk_at "j") => `(tactic| exact ⟨rfl, rfl, rfl, by decide +kernel, rfl, by decide +kernel, by decide +kernel⟩)
local macro_rules | `(tactic| walk_at "o") => `(tactic| first | assumption | exact le_trans (by decide) $(Lean.mkIdent `hs) | exact le_of_lt (by assumption) | exact le_trans (by assumption) (by assumption) | exact lt_of_lt_of_le (by assumption) (by assumption) | exact Nat.lt_of_le_of_lt (by assumption) (by assumption) | exact le_trans (by assumption) (le_trans (by decide) $(Lean.mkIdent `hs)) | omega)
namespace L2
open PySem PySem.Spec PyProof.Rows
abbrev aN:=Sum Int Str
def pE:aN->Value->Bool
 | .inl k,v=>Value.isInt k v
 | .inr x,v=>Value.isStrOf x v
def Er(w:World):aN->Int
 | .inl k=>hashInt k
 | .inr x=>hashStr w x
theorem cD:∀ {k:aN} {v:Value},pE k v=true->(∃ i t,k=Sum.inl i/\v=Value.int i t)\/(∃ x t,k=Sum.inr x/\v=Value.str x t)
 | .inl i,v,h=>by
  obtain⟨t,e⟩:=Value.isInt_shape (k:=i) (v:=v) h;exact .inl ⟨i,t,rfl,e⟩
 | .inr x,v,h=>by
  obtain⟨t,e⟩:=Value.isStrOf_shape (x:=x) (v:=v) h;exact .inr ⟨x,t,rfl,e⟩
theorem wt(i:Int)(t:Tok):pE (.inl i) (.int i t)=true:=by simp[pE,Value.isInt]
theorem wq(x:Str)(t:Tok):pE (.inr x) (.str x t)=true:=by simp[pE,Value.isStrOf]
theorem BO(a b:Int):decide ((Sum.inl a:aN)=Sum.inl b)=(a == b):=by
 by_cases e:a=b
 ·subst e;simp
 ·have h:¬ (Sum.inl a:aN)=Sum.inl b:=fun q=>e (Sum.inl.inj q);rw[decide_eq_false h];exact (beq_eq_false_iff_ne.mpr e).symm
theorem BK(a b:Str):decide ((Sum.inr a:aN)=Sum.inr b)=decide (a=b):=by
 by_cases e:a=b
 ·subst e;simp
 ·have h:¬ (Sum.inr a:aN)=Sum.inr b:=fun q=>e (Sum.inr.inj q);rw[decide_eq_false h,decide_eq_false e]
theorem BN(a:Int)(b:Str):decide ((Sum.inl a:aN)=Sum.inr b)=false:=decide_eq_false (fun q=>nomatch q)
theorem BL(a:Str)(b:Int):decide ((Sum.inr a:aN)=Sum.inl b)=false:=decide_eq_false (fun q=>nomatch q)
def bf(prog:Program)(w:World):PySem.KeyKind prog w aN where
 is:=pE
 hash:=Er w
 inj:=fun v a b ha hb=>by
  rcases cD ha with ⟨i,t,rfl,rfl⟩|⟨x,t,rfl,rfl⟩
  ·rcases cD hb with ⟨j,u,rfl,e⟩|⟨y,u,rfl,e⟩
   ·injection e with e1 _;rw[e1]
   ·exact nomatch e
  ·rcases cD hb with ⟨j,u,rfl,e⟩|⟨y,u,rfl,e⟩
   ·exact nomatch e
   ·injection e with e1 _;rw[e1]
 byValue:=fun k v h=>by
  rcases cD h with ⟨i,t,rfl,rfl⟩|⟨x,t,rfl,rfl⟩<;>rfl
 pyHash:=fun hv h=>by
  rcases cD hv with ⟨i,t,rfl,rfl⟩|⟨x,t,rfl,rfl⟩
  ·exact wpAny_pyHash_int h
  ·exact wpAny_pyHash_str h
 eqBool:=fun hu hv h=>by
  rcases cD hu with ⟨i,t,rfl,rfl⟩|⟨x,t,rfl,rfl⟩
  ·rcases cD hv with ⟨j,u,rfl,rfl⟩|⟨y,u,rfl,rfl⟩
   ·rw[BO]at h;exact wpAny_eqBool_int h
   ·rw[BN]at h;exact SeqAt.EqAt.int_str i t y u _ _ _ _ h
  ·rcases cD hv with ⟨j,u,rfl,rfl⟩|⟨y,u,rfl,rfl⟩
   ·rw[BL]at h;exact SeqAt.EqAt.str_int x t j u _ _ _ _ h
   ·rw[BK]at h;exact wpAny_eqBool_str h
 «strs»:=fun k x t v h=>by
  rcases cD h with ⟨i,u,rfl,e⟩|⟨y,u,rfl,e⟩
  ·exact nomatch e
  ·injection e with e1 _
   subst e1;cases v<;>rfl
theorem sU(prog:Program)(w:World)(i:Int)(t:Tok):(bf prog w).is (.inl i) (.int i t)=true:=wt i t
theorem sT(prog:Program)(w:World)(x:Str)(t:Tok):(bf prog w).is (.inr x) (.str x t)=true:=wq x t
inductive V where
 | non|bl (b:Bool)|int (i:Int)|str (x:Str)|byt (b:Array UInt8)|flt (b:UInt64)|ref (a:Addr)|ty (n:String)
 deriving DecidableEq
def aD:V->Value->Prop
 | .non,u=>u=Value.none
 | .bl b,u=>u=Value.bool b
 | .int i,u=>∃ t,u=Value.int i t
 | .str x,u=>∃ t,u=Value.str x t
 | .byt b,u=>∃ t,u=Value.bytes b t
 | .flt b,u=>∃ t,u=Value.float b t
 | .ref a,u=>u=Value.ref a
 | .ty n,u=>u=Value.type n
abbrev Vals:List V->List Value->Prop:=Paired aD
theorem Vals.length{xs:List V}{us:List Value}(r:Vals xs us):xs.length=us.length:=Paired.length r
theorem Vals.get:∀ {xs:List V} {us:List Value} {i:Nat} {x:V},Vals xs us->xs[i]?=some x->∃ u,us[i]?=some u/\aD x u
 | _,_,_,_,.nil,e=>by simp at e
 | _,_,0,_,.cons r _,e=>by simp at e;subst e;exact⟨_,rfl,r⟩
 | _,_,i+1,x,.cons _ t,e=>by
  obtain⟨u,h1,h2⟩:=Vals.get (i:=i) (x:=x) t (by simpa using e)
  exact⟨u,by simpa using h1,h2⟩
theorem Vals.set{x:V}{u:Value}(r:aD x u):∀ {xs:List V} {us:List Value} (i:Nat),Vals xs us->Vals (xs.set i x) (us.set i u)
 | _,_,_,.nil=>.nil
 | _,_,0,.cons _ t=>.cons r t
 | _,_,i+1,.cons q t=>.cons q (Vals.set r i t)
theorem Vals.append:∀ {xs ys:List V} {us ws:List Value},Vals xs us->Vals ys ws->Vals (xs ++ ys) (us ++ ws)
 | _,_,_,_,.nil,s=>s
 | _,_,_,_,.cons r t,s=>.cons r (Vals.append t s)
theorem Vals.take:∀ {xs:List V} {us:List Value} (n:Nat),Vals xs us->Vals (xs.take n) (us.take n)
 | _,_,0,_=>.nil
 | _,_,_+1,.nil=>.nil
 | _,_,n+1,.cons r t=>.cons r (Vals.take n t)
theorem Vals.drop:∀ {xs:List V} {us:List Value} (n:Nat),Vals xs us->Vals (xs.drop n) (us.drop n)
 | _,_,0,r=>r
 | _,_,_+1,.nil=>.nil
 | _,_,n+1,.cons _ t=>Vals.drop n t
theorem Vals.none_of:∀ {xs:List V} {us:List Value} {i:Nat},Vals xs us->xs[i]?=none->us[i]?=none:=fun {xs us i} r e=>by
 have h1:=r.length;have h2:xs.length<=i:=List.getElem?_eq_none_iff.mp e;exact List.getElem?_eq_none_iff.mpr (by walk_at "o")
def iz:Option V->Option Value->Prop
 | some v,some u=>aD v u
 | none,none=>True
 | _,_=>False
def KV{κ:Type}:List (κ×V)->List (κ×Value)->Prop:=Paired fun (p:κ×V) (q:κ×Value)=>p.1=q.1/\aD p.2 q.2
def kV:aN->V
 | .inl i=>.int i
 | .inr x=>.str x
inductive HO where
 | lst (xs:List V)
 | tup (xs:List V)
 | dK (kvs:List (aN×V))|dT (kvs:List (List aN×V))
 | set (S:Int->Bool) (n:Nat)
 | ins (C dx:Addr) (fs:List (Str×V))
 | own (x:Addr)
 | xd (fs:List (Str×V))
 | met (f x:Addr)
 | rng (lo hi:Int)
 | frz (o:Obj) (u:HO)
 | tbl (ps:Array Value)
 | ext (φ:Heap->Prop)
abbrev Hp:=Addr->Option HO
def bB(H:Hp)(a:Addr)(o:HO):Hp:=fun b=>if b=a then some o else H b
theorem aT{H:Hp}{a:Addr}{o:HO}:bB H a o a=some o:=by unfold bB;rw[if_pos rfl]
theorem au{H:Hp}{a b:Addr}{o:HO}(h:b≠a):bB H a o b=H b:=by unfold bB;rw[if_neg h]
theorem Db{H:Hp}{a b:Addr}{o u:HO}(h:H a=some o)(h':H b=some u)(d:o≠u):a≠b:=by
 intro e;subst e;rw[h]at h';exact d (Option.some.inj h')
theorem bL{H:Hp}{a b:Addr}{o:HO}(h:H a=some o)(h':H b=none):a≠b:=by
 intro e;subst e;rw[h]at h';cases h'
section
variable(P:Program)(w:World)
def nM(h:Heap)(a:Addr)(items:Array Value):Prop:=∃ o,h.get? a=some o/\(o.cls=.type "tuple"/\o.dict=none)/\∃ n,o.data=.seq items n
def bK(H:Hp)(h:Heap)(a:Addr):HO->Prop
 | .lst xs=>xs.length<=sizeLine/\∃ (its:List Value) (n:Nat),Vals xs its/\h.get? a=some { cls:=.type "list",data:=.seq its.toArray n }
 | .tup xs=>xs.length<=sizeLine/\∃ its:List Value,Vals xs its/\nM h a its.toArray
 | .dK kvs=>kvs.length<=sizeLine/\(a == sysModules)=false/\∃ vs,KV kvs vs/\h.DictOf (bf P w) a vs
 | .dT kvs=>kvs.length<=sizeLine/\(a == sysModules)=false/\∃ xs:List (List aN×Addr×Value),
   Paired (fun (p:List aN×V) (q:List aN×Addr×Value)=>p.1=q.1/\H q.2.1=some (.tup (p.1.map kV))/\aD p.2 q.2.2) kvs xs/\
   ∃ o es ep,h.get? a=some o/\o.ExactDict/\o.data=.dict es ep/\es.toList=xs.map (entryOfKey (tupleKind (bf P w)))/\(xs.map (·.1)).Nodup
 | .set S n=>h.SetOf (intKind P w) a S n
 | .ins C dx fs=>H dx=some (.own a)/\fs.length<=1000/\dx≠a/\h.get? a=some (instObj C dx)/\
   ∃ mA,h.Ns1 dx mA/\(∀ f,iz (fs.lookup f) (mA f))/\PySem.Within mA (fs.map (·.1))
 | .own _=>∃ o,h.get? a=some o
 | .xd fs=>∃ mA,h.Ns1 a mA/\∀ f,iz (fs.lookup f) (mA f)
 | .rng lo hi=>∃ t u v,h.get? a=some { cls:=.type "range",data:=.fields #[.int lo t,.int hi u,.int 1 v] }
 | .frz o u=>h.get? a=some o/\bK H h a u
 | .tbl ps=>h.get? a=some { cls:=.none,data:=.fields ps }
 | .met f x=>h.get? a=some (methodObj (.ref f) (.ref x))
 | .ext φ=>φ h/\(∃ o,h.get? a=some o)/\∀ h1 h2:Heap,φ h1->(∀ o,h1.get? a=some o->h2.get? a=some o)->φ h2
theorem nM.new(h:Heap)(items:Array Value):nM (h.push { cls:=.type "tuple",data:=.seq items }) h.objs.size items:=⟨_,Heap.get?_push_size _ rfl,⟨rfl,rfl⟩,_,rfl⟩
theorem nM.tup{h:Heap}{a:Addr}{items:Array Value}(x:nM h a items):IsTup h a items:=let ⟨o,e,c,d⟩:=x;⟨o,e,c.1,d⟩
def i3(H:Hp)(h:Heap):Prop:=∀ a o,H a=some o->bK P w H h a o
end
section
variable{P:Program}{w:World}{H H':Hp}{h h':Heap}{a:Addr}{o:HO}
theorem bK.lt(x:bK P w H h a o):a < h.objs.size:=by
 cases o with
 | lst xs=>obtain⟨_,_,_,_,e⟩:=x;exact Heap.lt_size e
 | tup xs=>obtain⟨_,_,_,p⟩:=x;exact p.tup.lt
 | dK kvs=>obtain⟨_,_,_,_,o,_,_,e,_⟩:=x;exact Heap.lt_size e
 | dT kvs=>obtain⟨_,_,_,_,o,_,_,e,_⟩:=x;exact Heap.lt_size e
 | set S n=>obtain⟨o,_,_,_,e,_⟩:=x;exact Heap.lt_size e
 | ins C dx fs=>obtain⟨_,_,_,e,_⟩:=x;exact Heap.lt_size e
 | own y=>obtain⟨_,e⟩:=x;exact Heap.lt_size e
 | xd fs=>obtain⟨_,⟨_,_,_,e,_⟩,_⟩:=x;exact Heap.lt_size e
 | rng lo hi=>obtain⟨_,_,_,e⟩:=x;exact Heap.lt_size e
 | frz ob u=>obtain⟨e,_⟩:=x;exact Heap.lt_size e
 | tbl ps=>exact Heap.lt_size (show h.get? a=some _ from x)
 | met f y=>exact Heap.lt_size (show h.get? a=some _ from x)
 | ext φ=>obtain⟨_,⟨_,e⟩,_⟩:=x;exact Heap.lt_size e
theorem Paired.mapP{α β:Type}{F G:α->β->Prop}:∀ {l₁:List α} {l₂:List β},Paired F l₁ l₂->(∀ a b,F a b->G a b)->Paired G l₁ l₂
 | _,_,.nil,_=>.nil
 | _,_,.cons r t,f=>.cons (f _ _ r) (Paired.mapP t f)
theorem bK.stay(x:bK P w H h a o)(k:∀ b u,(b=a\/H b=some (.own a))->h.get? b=some u->h'.get? b=some u)
  (ho:∀ b,H b=some (.own a)->H' b=some (.own a)) (ht:∀ b xs,H b=some (.tup xs)->H' b=some (.tup xs)):bK P w H' h' a o:=by
 induction o with
 | lst xs=>obtain⟨z,its,n,r,e⟩:=x;exact⟨z,its,n,r,k _ _ (.inl rfl) e⟩
 | tup xs=>obtain⟨z,its,r,ob,e,c⟩:=x;exact⟨z,its,r,ob,k _ _ (.inl rfl) e,c⟩
 | dK kvs=>obtain⟨z,y,vs,r,ob,es,ep,e,c⟩:=x;exact⟨z,y,vs,r,ob,es,ep,k _ _ (.inl rfl) e,c⟩
 | dT kvs=>
  obtain⟨z,y,xs,r,ob,es,ep,e,c⟩:=x;exact⟨z,y,xs,Paired.mapP r fun p q z=>⟨z.1,ht _ _ z.2.1,z.2.2⟩,ob,es,ep,k _ _ (.inl rfl) e,c⟩
 | set S n=>obtain⟨ob,es,ep,t,e,c⟩:=x;exact⟨ob,es,ep,t,k _ _ (.inl rfl) e,c⟩
 | ins C dx fs=>
  obtain⟨d,z,ne,e,mA,⟨od,es,ep,e2,c⟩,r⟩:=x;exact⟨ho _ d,z,ne,k _ _ (.inl rfl) e,mA,⟨od,es,ep,k _ _ (.inr d) e2,c⟩,r⟩
 | own y=>obtain⟨ob,e⟩:=x;exact⟨ob,k _ _ (.inl rfl) e⟩
 | xd fs=>obtain⟨mA,⟨od,es,ep,e,c⟩,r⟩:=x;exact⟨mA,⟨od,es,ep,k _ _ (.inl rfl) e,c⟩,r⟩
 | rng lo hi=>obtain⟨t,u,v,e⟩:=x;exact⟨t,u,v,k _ _ (.inl rfl) e⟩
 | frz ob u ih=>obtain⟨e,q⟩:=x;exact⟨k _ _ (.inl rfl) e,ih q⟩
 | tbl ps=>
  have e:h.get? a=some { cls:=.none,data:=.fields ps }:=x;show h'.get? a=some { cls:=.none,data:=.fields ps }
  exact k a _ (.inl rfl) e
 | met f y=>
  have e:h.get? a=some (methodObj (.ref f) (.ref y)):=x;show h'.get? a=some (methodObj (.ref f) (.ref y))
  exact k a _ (.inl rfl) e
 | ext φ=>obtain⟨p,⟨o,e⟩,st⟩:=x;exact⟨st _ _ p fun o q=>k _ _ (.inl rfl) q,⟨o,k _ _ (.inl rfl) e⟩,st⟩
theorem i3.lt(x:i3 P w H h)(e:H a=some o):a < h.objs.size:=(x a o e).lt
theorem i3.fresh(x:i3 P w H h)(e:h.objs.size<=a):H a=none:=by
 cases q:H a with
 | none=>rfl
 | some u=>exact absurd (lt_of_lt_of_le (x.lt q) e) (Nat.lt_irrefl _)
theorem i3.kept(x:i3 P w H h)(k:∀ b u,h.get? b=some u->h'.get? b=some u):i3 P w H h':=fun a o e=>
 (x a o e).stay (fun b u _ q=>k b u q) (fun _ q=>q) fun _ _ q=>q
theorem i3.laid(x:i3 P w H h)(k:∀ b u,h.get? b=some u->h'.get? b=some u)(hp:h.objs.size<=a)(new:bK P w (bB H a o) h' a o):i3 P w (bB H a o) h':=fun b u e=>by
 have hn:=x.fresh hp
 by_cases hb:b=a
 ·subst hb;rw[aT]at e;cases e;exact new
 ·rw[au hb]at e;exact (x b u e).stay (fun c v _ q=>k c v q) (fun c q=>by rw[au (bL q hn)];exact q) fun c xs q=>by rw[au (bL q hn)];exact q
end
def Rd(H:Hp)(a:Addr)(u:HO):Prop:=H a=some u\/∃ o,H a=some (.frz o u)
theorem Rd.of{H:Hp}{a:Addr}{u:HO}(h:H a=some u):Rd H a u:=.inl h
theorem Rd.ok{P:Program}{w:World}{H:Hp}{h:Heap}{a:Addr}{u:HO}(r:Rd H a u)(x:i3 P w H h):bK P w H h a u:=by
 rcases r with r|⟨o,r⟩
 ·exact x a u r
 ·obtain⟨_,q⟩:=x a _ r;exact q
def yN:Option HO->Prop
 | some (.lst _)=>True
 | some (.dK _)=>True
 | some (.dT _)=>True
 | some (.set _ _)=>True
 | some (.ins _ _ _)=>True
 | some (.ext _)=>True
 | _=>False
section
variable{P:Program}{w:World}{H:Hp}{h h':Heap}{x e:Addr}{o':HO}
theorem i3.write(ok:i3 P w H h)(mu:yN (H x))(he:e=x\/H e=some (.own x))(k:∀ b u,b≠e->h.get? b=some u->h'.get? b=some u)(heo:∃ u,h'.get? e=some u)
  (new:bK P w (bB H x o') h' x o'):i3 P w (bB H x o') h':=fun b u q=>by
 have nown:∀ c y,H c=some (.own y)->c≠x:=fun c y r z=>by subst z;rw[r]at mu;exact mu
 have ntup:∀ c xs,H c=some (.tup xs)->c≠x:=fun c xs r z=>by subst z;rw[r]at mu;exact mu
 by_cases hb:b=x
 ·subst hb;rw[aT]at q;cases q;exact new
 ·rw[au hb]at q
  by_cases hbe:b=e
  ·have q':H b=some (.own x):=by
    rcases he with z|z
    ·exact absurd (hbe.trans z) hb
    ·rw[hbe];exact z
   rw[q]at q';cases q';obtain⟨v,hv⟩:=heo;exact⟨v,by rw[hbe];exact hv⟩
  ·refine (ok b u q).stay (fun c v hc r=>k c v ?_ r) (fun c r=>by rw[au (nown c b r)];exact r) fun c xs r=>by rw[au (ntup c xs r)];exact r
   rcases hc with rfl|hc
   ·exact hbe
   ·rintro rfl
    rcases he with z|z
    ·exact nown c b hc z
    ·rw[hc]at z;cases z;exact hb rfl
end
structure Un(fs ex:List Addr)(H H':Hp)(h h':Heap):Prop where
 keep:∀ b o,h.get? b=some o->H b=none->b∉fs->b∉ex->h'.get? b=some o
 slot:∀ b o,h.get? b=some o->H b=none->b∈fs->b∉ex->∃ sl,h'.get? b=some { o with slots:=sl }
 free:∀ b o,h.get? b=some o->H b=none->b∉ex->H' b=none
 there:∀ b o,h.get? b=some o->b∉ex->∃ o',h'.get? b=some o'
 tups:∀ b xs,H b=some (.tup xs)->H' b=some (.tup xs)
 frzs:∀ b o u,H b=some (.frz o u)->H' b=some (.frz o u)
 tbls:∀ b ps,H b=some (.tbl ps)->∃ more,H' b=some (.tbl (ps ++ more))
section
variable{fs fs' ex ex':List Addr}{H H1 H2:Hp}{h h1 h2 h':Heap}{a x e:Addr}{o:HO}
theorem Un.any(u:Un fs ex H H1 h h1){b:Addr}{ob:Obj}(q:h.get? b=some ob)(n:H b=none)(hx:b∉ex):∃ sl,h1.get? b=some { ob with slots:=sl }:=by
 by_cases hb:b∈fs
 ·exact u.slot b ob q n hb hx
 ·exact⟨ob.slots,u.keep b ob q n hb hx⟩
theorem Un.trans(a:Un fs ex H H1 h h1)(b:Un fs ex H1 H2 h1 h2):Un fs ex H H2 h h2 where
 keep:=fun c ob q n hc hx=>b.keep c ob (a.keep c ob q n hc hx) (a.free c ob q n hx) hc hx
 slot:=fun c ob q n hc hx=>by
  obtain⟨sl,e1⟩:=a.slot c ob q n hc hx;obtain⟨sl',e2⟩:=b.slot c _ e1 (a.free c ob q n hx) hc hx;exact⟨sl',e2⟩
 free:=fun c ob q n hx=>by
  obtain⟨o',e1⟩:=a.there c ob q hx;exact b.free c o' e1 (a.free c ob q n hx) hx
 there:=fun c ob q hx=>by
  obtain⟨o',e1⟩:=a.there c ob q hx;exact b.there c o' e1 hx
 tups:=fun c xs q=>b.tups c xs (a.tups c xs q)
 frzs:=fun c ob xs q=>b.frzs c ob xs (a.frzs c ob xs q)
 tbls:=fun c ps q=>by
  obtain⟨m1,e1⟩:=a.tbls c ps q;obtain⟨m2,e2⟩:=b.tbls c _ e1;exact⟨m1 ++ m2,by rw[e2,Array.append_assoc]⟩
theorem Un.kept(k:∀ b u,h.get? b=some u->h'.get? b=some u):Un fs ex H H h h':=
 ⟨fun b ob q _ _ _=>k b ob q,fun b ob q _ _ _=>⟨ob.slots,k b ob q⟩,fun _ _ _ n _=>n,fun b ob q _=>⟨ob,k b ob q⟩,fun _ _ q=>q,fun _ _ _ q=>q,fun _ ps q=>⟨#[],by rw[q];simp⟩⟩
theorem Un.refl:Un fs ex H H h h:=Un.kept fun _ _ q=>q
theorem Un.laid(k:∀ b u,h.get? b=some u->h'.get? b=some u)(hp:h.objs.size<=a)(hn:H a=none):Un fs ex H (bB H a o) h h' where
 keep:=fun b u q _ _ _=>k b u q
 slot:=fun b u q _ _ _=>⟨u.slots,k b u q⟩
 free:=fun b u q n _=>by rw[au (ne_of_lt (lt_of_lt_of_le (Heap.lt_size q) hp))];exact n
 there:=fun b u q _=>⟨u,k b u q⟩
 tups:=fun b xs q=>by rw[au (bL q hn)];exact q
 frzs:=fun b u xs q=>by rw[au (bL q hn)];exact q
 tbls:=fun b ps q=>⟨#[],by rw[au (bL q hn),q];simp⟩
theorem Un.write(mu:yN (H x))(he:e=x\/H e=some (.own x))(k:∀ b u,b≠e->h.get? b=some u->h'.get? b=some u)(heo:∃ u,h'.get? e=some u):Un fs ex H (bB H x o) h h':=by
 have hx:∀ b,H b=none->b≠x:=fun b n z=>by subst z;rw[n]at mu;exact mu
 have hb:∀ b,H b=none->b≠e:=fun b n z=>by
  subst z;rcases he with r|r
  ·exact hx b n r
  ·rw[n]at r;cases r
 have hm:∀ b u,H b=some u->¬ yN (some u)->b≠x:=fun b u q nm z=>by subst z;rw[q]at mu;exact nm mu
 refine⟨fun b u q n _ _=>k b u (hb b n) q,fun b u q n _ _=>⟨u.slots,k b u (hb b n) q⟩,fun b u q n _=>by rw[au (hx b n)];exact n,fun b u q _=>?_,
  fun b xs q=>by rw[au (hm b _ q fun z=>z)];exact q,fun b u xs q=>by rw[au (hm b _ q fun z=>z)];exact q,fun b ps q=>⟨#[],by rw[au (hm b _ q fun z=>z),q];simp⟩⟩
 by_cases hbe:b=e
 ·subst hbe;exact heo
 ·exact⟨u,k b u hbe q⟩
theorem Un.mono(u:Un fs ex H H1 h h1)(hs:∀ b∈fs,b∈fs')(hx:∀ b∈ex,b∈ex'):Un fs' ex' H H1 h h1:=
 ⟨fun b ob q n hb he=>u.keep b ob q n (fun z=>hb (hs b z)) fun z=>he (hx b z),fun _ _ q n _ he=>u.any q n fun z=>he (hx _ z),fun b ob q n he=>u.free b ob q n fun z=>he (hx b z),fun b ob q he=>u.there b ob q fun z=>he (hx b z),u.tups,u.frzs,u.tbls⟩
end
def DT(h:Heap)(H:Hp):List Addr:=(List.range h.objs.size).filter fun a=>(H a).isSome
def rf(h:Heap)(H:Hp):Heap:=PySem.W.hideAll h (DT h H)
theorem wC(h:Heap)(H:Hp):(rf h H).objs.size=h.objs.size:=PySem.W.hideAll_size _ _
theorem ym{h:Heap}{H:Hp}{b:Addr}{o:Obj}(e:h.get? b=some o)(n:H b=none):(rf h H).get? b=some o:=
 PySem.W.hideAll_get _ e fun hm=>by
  have q:(H b).isSome=true:=(mem_filter.mp hm).2;rw[n]at q;simp at q
theorem zI{h:Heap}{H:Hp}{b:Addr}{o:Obj}(e:(rf h H).get? b=some o):h.get? b=some o/\H b=none:=by
 have e':h.get? b=some o:=PySem.W.of_hideAll (DT h H) e;refine⟨e',?_⟩;cases q:H b with
 | none=>rfl
 | some x=>
  have hm:b∈DT h H:=mem_filter.mpr ⟨mem_range.mpr (Heap.lt_size e'),by simp[q]⟩
  have z:(rf h H).get? b=none:=PySem.W.hideAll_none (DT h H) hm;rw[z]at e;cases e
def Am(g h:Heap)(L:Addr):List (Addr×Obj):=(List.range h.objs.size).filterMap fun a=>if a=L\/(g.get? a).isSome=true then none else (h.get? a).map fun o=>(a,o)
def jJ(g h:Heap)(L d:Addr):List (Addr×Obj):=(Am g h L).filter fun p=>decide (p.1≠d)
structure Mod(K:Frag)(mg:Str->Option Value)(base:Heap):Prop where
 kin:K.In base
 glob:base.Ns mainGlobals mg
 blt:∃ mb,base.Ns builtinsNs mb/\∀ x:Str,x≠"__name__"->mb x=bootBuiltins x
 nolimit:base.NoLimit
structure Cx where
 prog:Program
 w:World
 K:Frag
 mg:Str->Option Value
 base:Heap
 A:Around
 N:List Str
 s₀:Shared
 H₀:Hp
 env:Env
 outer:List Env
 stack:List Env
 ex:List Addr
 fn:Str->Bool
 calm:Bool
 pn:List (Addr×Obj)
 xe:Value->Shared->Prop
def yr(l:List Env):List Addr:=l.filterMap (·.frame)
abbrev Cx.fs(X:Cx):List Addr:=yr X.outer
def Co(sc:Scope)(x:Str):Prop:=sc.names.lookup x=some .local\/sc.names.lookup x=some .cell\/sc.names.lookup x=some .free
def Cj(sc:Scope)(x:Str):Prop:=sc.names.lookup x=some .local\/sc.names.lookup x=some .cell
def EJ(env:Env)(h:Heap)(m:Str->Option Value)(x:Str)(u:Value):Prop:=
 (env.kindOf x=some .local/\m x=some u)\/((env.kindOf x=some .cell\/env.kindOf x=some .free)/\∃ c,env.cells.lookup x=some c/\h.IsCell c (some u))
structure Cx.Ok(X:Cx):Prop where
 mod:Mod X.K X.mg X.base
 kind:X.env.scope.kind=.function
 glob:X.env.globals=mainGlobals
 blt:X.env.builtins=builtinsNs
 above:X.s₀.heap.objs.size<=X.env.locals
 inj:∀ x y c,X.env.cells.lookup x=some c->X.env.cells.lookup y=some c->x=y
 has:∀ x,(X.env.kindOf x=some .cell\/X.env.kindOf x=some .free)->∃ c,X.env.cells.lookup x=some c
 cab:∀ x c,X.fn x=true->X.env.cells.lookup x=some c->X.s₀.heap.objs.size<=c
 hd:X.calm=true->X.A.handled=none
 frames:X.A.frames=some X.stack
 stk:X.stack=X.outer\/(X.stack=X.env::X.outer/\X.env.frame=some X.env.locals)
 exf:∀ b∈X.ex,b≠X.env.locals/\∀ x c,X.env.cells.lookup x=some c->c≠b
 bs:∀ b o,X.base.get? b=some o->X.s₀.heap.get? b=some o/\X.H₀ b=none
 bsz:X.base.objs.size<=X.s₀.heap.objs.size
 noex:∀ b o,X.base.get? b=some o->b∉X.ex
 exfs:∀ b∈X.ex,b∉X.fs
 funs:X.s₀.heap.FunFrames X.base X.outer
 frf:∀ b∈X.fs,X.H₀ b=none
structure Inv(X:Cx)(pins:List (Addr×Obj))(σ:List (Option V))(H:Hp)(s:Shared):Prop where
 ok:X.Ok
 os:s.os=X.s₀.os
 bare:AllBare s.gens
 base:Un X.fs X.ex X.H₀ H X.s₀.heap s.heap
 loc:∃ m,s.heap.Ns X.env.locals m/\∀ (i:Nat) (x:Str) (v:V),X.N[i]?=some x->σ[i]?=some (some v)->Co X.env.scope x->∃ u,aD v u/\EJ X.env s.heap m x u
 cell:∀ x c,X.env.cells.lookup x=some c->∃ v,s.heap.IsCell c v
 free:H X.env.locals=none
 freeC:∀ x c,X.env.cells.lookup x=some c->H c=none
 pin:∀ p∈X.pn ++ pins,s.heap.get? p.1=some p.2/\H p.1=none/\p.1≠X.env.locals/\p.1∉X.fs/\∀ v,p.2.data≠.cell v
 hok:i3 X.prog X.w H s.heap
 len:σ.length=X.N.length
section
variable{X:Cx}{pins:List (Addr×Obj)}{σ:List (Option V)}{H H':Hp}{s:Shared}{h':Heap}
theorem Cx.Ok.nofr(ok:X.Ok){b:Addr}{o:Obj}(e:X.base.get? b=some o):b∉X.fs:=fun hb=>by
 have:=(ok.funs.mem hb).1;rw[e]at this;cases this
theorem Inv.bs(I:Inv X pins σ H s):∀ b o,X.base.get? b=some o->s.heap.get? b=some o/\H b=none:=fun b o e=>
 ⟨I.base.keep b o (I.ok.bs b o e).1 (I.ok.bs b o e).2 (I.ok.nofr e) (I.ok.noex b o e),I.base.free b o (I.ok.bs b o e).1 (I.ok.bs b o e).2 (I.ok.noex b o e)⟩
theorem Inv.bk(I:Inv X pins σ H s):∀ b o,X.base.get? b=some o->s.heap.get? b=some o:=fun b o e=>(I.bs b o e).1
theorem Inv.mod(I:Inv X pins σ H s):Mod X.K X.mg X.base:=I.ok.mod
theorem Inv.kIn(I:Inv X pins σ H s):X.K.In s.heap:=I.ok.mod.kin.keeps I.bk
theorem Inv.nolimit(I:Inv X pins σ H s):s.heap.NoLimit:=I.ok.mod.nolimit.keeps I.bk
theorem Inv.fr(I:Inv X pins σ H s):∃ m,Fr X.base X.env.locals s.heap m:=
 let ⟨m,hn,_⟩:=I.loc
 ⟨m,hn,I.bk,le_trans I.ok.bsz I.ok.above⟩
theorem Inv.lt(I:Inv X pins σ H s):X.env.locals < s.heap.objs.size:=let ⟨_,hn,_⟩:=I.loc;hn.lt
theorem Inv.sz(I:Inv X pins σ H s):X.s₀.heap.objs.size<=s.heap.objs.size:=le_trans I.ok.above (le_of_lt I.lt)
theorem Inv.nofs(I:Inv X pins σ H s){a:Addr}(h:s.heap.objs.size<=a):a∉X.fs:=fun hb=>by
 obtain⟨_,o,ho,_⟩:=I.ok.funs.mem hb;exact absurd (lt_of_lt_of_le (Heap.lt_size ho) (le_trans I.sz h)) (Nat.lt_irrefl _)
theorem Inv.cne(I:Inv X pins σ H s):∀ x c,X.env.cells.lookup x=some c->c≠X.env.locals:=fun x c e z=>by
 obtain⟨v,o,ho,hd⟩:=I.cell x c e;obtain⟨m,⟨o',es,ep,ho',hd',_⟩,_⟩:=I.loc;rw[z,ho']at ho;cases ho;rw[hd']at hd;cases hd
theorem Inv.funs(I:Inv X pins σ H s):s.heap.FunFrames X.base X.outer:=by
 have all:∀ (l:List Env),(∀ b∈yr l,b∈X.fs)->X.s₀.heap.FunFrames X.base l->s.heap.FunFrames X.base l:=by
  intro l
  induction l with
  | nil=>intro _ _;trivial
  | cons env r ih=>
   intro hs hl;obtain⟨hk,⟨L,o,hf,hn,ho,hd⟩,hr⟩:=hl;have hL:L∈X.fs:=hs L (by unfold yr;rw[filterMap_cons,hf];exact mem_cons_self)
   obtain⟨sl,e⟩:=I.base.slot L o ho (I.ok.frf L hL) hL fun z=>I.ok.exfs L z hL;exact⟨hk,⟨L,_,hf,hn,e,hd⟩,ih (fun b hb=>hs b (by unfold yr;rw[filterMap_cons,hf];exact mem_cons_of_mem _ hb)) hr⟩
 exact all X.outer (fun _ hb=>hb) I.ok.funs
theorem Inv.stack(I:Inv X pins σ H s):s.heap.FunFrames X.base X.stack:=by
 rcases I.ok.stk with e|⟨e,hf⟩
 ·rw[e];exact I.funs
 ·rw[e];obtain⟨m,hn,_⟩:=I.loc;refine .cons (by rw[I.ok.kind];decide) hf hn ?_ I.funs
  exact Heap.get?_none_of_le (le_trans I.ok.bsz I.ok.above)
theorem Inv.stkSub(I:Inv X pins σ H s):∀ b∈yr X.stack,b∈X.env.locals::X.fs:=fun b hb=>by
 rcases I.ok.stk with e|⟨e,hf⟩
 ·rw[e]at hb;exact mem_cons_of_mem _ hb
 ·rw[e]at hb;unfold yr at hb;rw[filterMap_cons,hf]at hb;exact hb
theorem Inv.stkFree(I:Inv X pins σ H s):∀ b∈yr X.stack,H b=none:=fun b hb=>by
 rcases mem_cons.mp (I.stkSub b hb)with e|hb
 ·rw[e];exact I.free
 ·obtain⟨_,o,ho,_⟩:=I.ok.funs.mem hb;exact I.base.free b o ho (I.ok.frf b hb) fun z=>I.ok.exfs b z hb
theorem Inv.step{g':Array GenState}{t':Nat}{d':Drawn}{ch:List Addr}(I:Inv X pins σ H s)
  (hch:∀ b∈ch,(b∈X.ex\/X.s₀.heap.objs.size<=b)/\b≠X.env.locals/\(∀ x c,X.env.cells.lookup x=some c->c≠b)/\∀ p∈X.pn ++ pins,p.1≠b)
  (keep:∀ b o,b≠X.env.locals->b∉X.fs->b∉ch->s.heap.get? b=some o->H b=none->h'.get? b=some o)
  (slot:∀ b o,b≠X.env.locals->b∈X.fs->b∉ch->s.heap.get? b=some o->H b=none->∃ sl,h'.get? b=some { o with slots:=sl }) (free:∀ b o,b∉ch->s.heap.get? b=some o->H b=none->H' b=none)
  (there:∀ b o,b∉ch->s.heap.get? b=some o->∃ o',h'.get? b=some o')
  (tups:∀ b xs,H b=some (.tup xs)->H' b=some (.tup xs)) (frzs:∀ b o u,H b=some (.frz o u)->H' b=some (.frz o u)) (tbls:∀ b ps,H b=some (.tbl ps)->∃ more,H' b=some (.tbl (ps ++ more)))
  (ns:∀ m,s.heap.Ns X.env.locals m->h'.Ns X.env.locals m) (hok:i3 X.prog X.w H' h') (hg:AllBare g'):
  Inv X pins σ H' { s with heap:=h',gens:=g',drawn:=d',toks:=t' }:=by
 have neL:∀ b o,X.s₀.heap.get? b=some o->b≠X.env.locals:=fun b o e=>ne_of_lt (lt_of_lt_of_le (Heap.lt_size e) I.ok.above);have neC:∀ b o,X.s₀.heap.get? b=some o->b∉X.ex->b∉ch:=fun b o e hx hb=>by
  rcases (hch b hb).1 with z|z
  ·exact hx z
  ·exact absurd (lt_of_lt_of_le (Heap.lt_size e) z) (Nat.lt_irrefl _)
 have cellK:∀ x c,X.env.cells.lookup x=some c->∀ v,s.heap.IsCell c v->h'.IsCell c v:=fun x c e v zz=>by
  obtain⟨o,ho,hd⟩:=zz;have nch:c∉ch:=fun z=>(hch c z).2.2.1 x c e rfl
  by_cases hc:c∈X.fs
  ·obtain⟨sl,q⟩:=slot c o (I.cne x c e) hc nch ho (I.freeC x c e);exact⟨_,q,hd⟩
  ·exact⟨o,keep c o (I.cne x c e) hc nch ho (I.freeC x c e),hd⟩
 refine⟨I.ok,I.os,hg,⟨fun b o e n hb hx=>?_,fun b o e n hb hx=>?_,fun b o e n hx=>?_,fun b o e hx=>?_,fun b xs e=>tups b xs (I.base.tups b xs e),fun b o xs e=>frzs b o xs (I.base.frzs b o xs e),fun b ps e=>?_⟩,?_,fun x c e=>?_,?_,fun x c e=>?_,fun p hp=>?_,hok,I.len⟩
 ·exact keep b o (neL b o e) hb (neC b o e hx) (I.base.keep b o e n hb hx) (I.base.free b o e n hx)
 ·obtain⟨sl,e1⟩:=I.base.slot b o e n hb hx;obtain⟨sl',e2⟩:=slot b _ (neL b o e) hb (neC b o e hx) e1 (I.base.free b o e n hx);exact⟨sl',e2⟩
 ·obtain⟨o',e1⟩:=I.base.there b o e hx;exact free b o' (neC b o e hx) e1 (I.base.free b o e n hx)
 ·obtain⟨o',e1⟩:=I.base.there b o e hx;exact there b o' (neC b o e hx) e1
 ·obtain⟨m1,e1⟩:=I.base.tbls b ps e;obtain⟨m2,e2⟩:=tbls b _ e1;exact⟨m1 ++ m2,by rw[e2,Array.append_assoc]⟩
 ·obtain⟨m,hn,hl⟩:=I.loc;refine⟨m,ns m hn,fun i x v e1 e2 e3=>?_⟩;obtain⟨u,r,l⟩:=hl i x v e1 e2 e3;refine⟨u,r,?_⟩;rcases l with l|⟨k,c,e,z⟩
  ·exact .inl l
  ·exact .inr ⟨k,c,e,cellK x c e _ z⟩
 ·obtain⟨v,z⟩:=I.cell x c e;exact⟨v,cellK x c e v z⟩
 ·obtain⟨m,⟨o,_,_,ho,_⟩,_⟩:=I.loc;exact free _ o (fun z=>(hch _ z).2.1 rfl) ho I.free
 ·obtain⟨v,o,ho,hd⟩:=I.cell x c e;exact free c o (fun z=>(hch c z).2.2.1 x c e rfl) ho (I.freeC x c e)
 ·obtain⟨e,n,ne,nf,d⟩:=I.pin p hp;have nch:p.1∉ch:=fun z=>(hch p.1 z).2.2.2 p hp rfl;exact⟨keep p.1 p.2 ne nf nch e n,free p.1 p.2 nch e n,ne,nf,d⟩
theorem Inv.un{t':Nat}(I:Inv X pins σ H s)(u:Un X.fs [] H H' s.heap h')(hok:i3 X.prog X.w H' h'):Inv X pins σ H' { s with heap:=h',toks:=t' }:=by
 obtain⟨m,⟨o,es,ep,ho,r⟩,_⟩:=id I.loc;obtain⟨sl,hL⟩:=u.any ho I.free (by simp)
 exact I.step (g':=s.gens) (d':=s.drawn) (ch:=[]) (fun _ z=>nomatch z) (fun b o _ hb _ e n=>u.keep b o e n hb (by simp)) (fun b o _ hb _ e n=>u.slot b o e n hb (by simp)) (fun b o _ e n=>u.free b o e n (by simp)) (fun b o _ e=>u.there b o e (by simp)) u.tups u.frzs u.tbls (fun m' hm=>by
  obtain⟨o',es',ep',ho',r'⟩:=hm;rw[ho]at ho';cases ho';exact⟨_,es',ep',hL,r'⟩) hok I.bare
theorem Inv.call{g':Array GenState}{t':Nat}{d':Drawn}{ch:List Addr}(I:Inv X pins σ H s)(u:Un (yr X.stack) ch H H' s.heap h')(hok:i3 X.prog X.w H' h')(hg:AllBare g')
  (hch:∀ b∈ch,(b∈X.ex\/X.s₀.heap.objs.size<=b)/\b≠X.env.locals/\(∀ x c,X.env.cells.lookup x=some c->c≠b)/\∀ p∈X.pn ++ pins,p.1≠b):
  Inv X pins σ H' { s with heap:=h',gens:=g',drawn:=d',toks:=t' }:=by
 obtain⟨m,⟨o,es,ep,ho,r⟩,_⟩:=id I.loc;obtain⟨sl,hL⟩:=u.any ho I.free fun z=>(hch _ z).2.1 rfl;exact I.step (ch:=ch) hch (fun b o hL hb hc e n=>u.keep b o e n (fun z=>(mem_cons.mp (I.stkSub b z)).elim hL hb) hc) (fun b o _ _ hc e n=>u.any e n hc) (fun b o hc e n=>u.free b o e n hc) (fun b o hc e=>u.there b o e hc) u.tups u.frzs u.tbls (fun m' hm=>by
  obtain⟨o',es',ep',ho',r'⟩:=hm;rw[ho]at ho';cases ho';exact⟨_,es',ep',hL,r'⟩) hok hg
theorem Inv.turned{t':Nat}{it:Addr}(I:Inv X pins σ H s)(k:∀ b o,b≠it->s.heap.get? b=some o->h'.get? b=some o)(hn:H it=none)(hL:it≠X.env.locals)
  (h1:it∈X.ex\/X.s₀.heap.objs.size<=it) (h2:∀ x c,X.env.cells.lookup x=some c->c≠it) (h3:∀ p∈X.pn ++ pins,p.1≠it):Inv X pins σ H { s with heap:=h',toks:=t' }:=by
 have nit:∀ b u,H b=some u->b≠it:=fun b u e z=>by rw[z,hn]at e;cases e
 refine I.step (g':=s.gens) (d':=s.drawn) (ch:=[it]) (fun b hb=>?_) (fun b o _ _ hc e _=>k b o (fun z=>hc (by simp[z])) e) (fun b o _ _ hc e _=>⟨o.slots,k b o (fun z=>hc (by simp[z])) e⟩) (fun _ _ _ _ n=>n)
  (fun b o hc e=>⟨o,k b o (fun z=>hc (by simp[z])) e⟩) (fun _ _ e=>e) (fun _ _ _ e=>e) (fun b ps e=>⟨#[],by rw[e];simp⟩) (fun m hm=>?_) (fun b u e=>?_) I.bare
 ·have e:b=it:=by simpa using hb
  subst e;exact⟨h1,hL,h2,h3⟩
 ·obtain⟨o,es,ep,ho,r⟩:=hm;exact⟨o,es,ep,k _ o (Ne.symm hL) ho,r⟩
 ·refine (I.hok b u e).stay (fun c v hc q=>k c v ?_ q) (fun _ q=>q) fun _ _ q=>q;rcases hc with z|z
  ·rw[z];exact nit b u e
  ·exact nit c _ z
theorem Inv.tok(I:Inv X pins σ H s)(t:Nat):Inv X pins σ H { s with toks:=t }:=I.un (h':=s.heap) (t':=t) Un.refl I.hok
theorem Inv.kept{t':Nat}(I:Inv X pins σ H s)(k:∀ b u,s.heap.get? b=some u->h'.get? b=some u):Inv X pins σ H { s with heap:=h',toks:=t' }:=I.un (Un.kept k) (I.hok.kept k)
theorem Inv.laid{a:Addr}{o:HO}{t':Nat}(I:Inv X pins σ H s)(k:∀ b u,s.heap.get? b=some u->h'.get? b=some u)(hp:s.heap.objs.size<=a)(new:bK X.prog X.w (bB H a o) h' a o):
  Inv X pins σ (bB H a o) { s with heap:=h',toks:=t' }:=I.un (Un.laid k hp (I.hok.fresh hp)) (I.hok.laid k hp new)
theorem Inv.write{x e:Addr}{o:HO}{t':Nat}(I:Inv X pins σ H s)(mu:yN (H x))(he:e=x\/H e=some (.own x))(k:∀ b u,b≠e->s.heap.get? b=some u->h'.get? b=some u)(heo:∃ u,h'.get? e=some u)
  (new:bK X.prog X.w (bB H x o) h' x o):Inv X pins σ (bB H x o) { s with heap:=h',toks:=t' }:=I.un (Un.write mu he k heo) (I.hok.write mu he k heo new)
theorem Inv.pins_of{pins':List (Addr×Obj)}(I:Inv X pins σ H s)(h:∀ p∈pins',s.heap.get? p.1=some p.2/\H p.1=none/\p.1≠X.env.locals/\p.1∉X.fs/\∀ v,p.2.data≠.cell v):Inv X pins' σ H s:=
 ⟨I.ok,I.os,I.bare,I.base,I.loc,I.cell,I.free,I.freeC,fun p hp=>(mem_append.mp hp).elim (fun z=>I.pin p (List.mem_append_left _ z)) (h p),I.hok,I.len⟩
theorem sN{N:List Str}(hN:N.Nodup){i j:Nat}{x:Str}(a:N[i]?=some x)(b:N[j]?=some x):i=j:=by
 obtain⟨h1,e1⟩:=List.getElem?_eq_some_iff.mp a;obtain⟨h2,e2⟩:=List.getElem?_eq_some_iff.mp b;exact (List.getElem_inj hN).mp (e1.trans e2.symm)
theorem o8{M:Model}{A:Around}{E:Value->Shared->Prop}{i:Nat}{x:Str}{v:V}{u:Value}{Q:Unit->Shared->Prop}(I:Inv X pins σ H s)(hN:X.N.Nodup)(hi:X.N[i]?=some x)(hx:Cj X.env.scope x)(r:aD v u)
  (h:∀ s',Inv X pins (σ.set i (some v)) H s'->(∃ a,Heap.SameBut a s.heap s'.heap/\(a=X.env.locals\/X.env.cells.lookup x=some a))->Q () s') (hf:X.fn x=true\/X.env.scope.names.lookup x=some .local:=by first|exact .inl rfl|exact .inr rfl|assumption):wpAny M A (storeName X.env x u) Q E s:=by
 obtain⟨m,hn,hl⟩:=id I.loc;have hcls:(X.env.scope.kind == .class || (X.env.scope.kind == .module && X.env.locals != X.env.globals))=false:=by rw[I.ok.kind];rfl
 have hiσ:i < σ.length:=by rw[I.len];exact (List.getElem?_eq_some_iff.mp hi).1
 have cne:=I.cne;have tracked:∀ {a:Addr} {h':Heap},(∃ o,s.heap.get? a=some o/\H a=none)->Heap.SameBut a s.heap h'->i3 X.prog X.w H h':=fun {a h'} ha hs b ob e=>by
  obtain⟨_,_,hfree⟩:=ha;refine (I.hok b ob e).stay (fun c w' hc q=>(hs.2 c ?_).trans q) (fun _ q=>q) fun _ _ q=>q
  rintro rfl
  rcases hc with rfl|hc
  ·rw[hfree]at e;cases e
  ·rw[hfree]at hc;cases hc
 rcases hx with hk|hk
 ·refine wpAny_storeName_local hk hn (fun h' hn' hs=>?_) hcls;obtain⟨oL,_,_,hoL,_⟩:=id hn;refine h _ ⟨I.ok,I.os,I.bare,⟨fun b o e n hb hx=>?_,fun b o e n hb hx=>?_,I.base.free,fun b o e hx=>?_,I.base.tups,I.base.frzs,I.base.tbls⟩,⟨_,hn',fun j y v' e1 e2 e3=>?_⟩,fun y c e=>?_,I.free,I.freeC,fun p hp=>?_,tracked ⟨oL,hoL,I.free⟩ hs,by simpa using I.len⟩ ⟨_,hs,.inl rfl⟩
  ·exact (hs.2 b (ne_of_lt (lt_of_lt_of_le (Heap.lt_size e) I.ok.above))).trans (I.base.keep b o e n hb hx)
  ·obtain⟨sl,e1⟩:=I.base.slot b o e n hb hx;exact⟨sl,(hs.2 b (ne_of_lt (lt_of_lt_of_le (Heap.lt_size e) I.ok.above))).trans e1⟩
  ·obtain⟨o',e1⟩:=I.base.there b o e hx;exact⟨o',(hs.2 b (ne_of_lt (lt_of_lt_of_le (Heap.lt_size e) I.ok.above))).trans e1⟩
  ·by_cases hj:j=i
   ·subst hj;rw[hi]at e1;cases e1;rw[List.getElem?_set_self hiσ]at e2;cases e2;exact⟨u,r,.inl ⟨hk,by simp⟩⟩
   ·rw[getElem?_set_ne (Ne.symm hj)]at e2;obtain⟨u',r',q⟩:=hl j y v' e1 e2 e3;refine⟨u',r',?_⟩;rcases q with ⟨k,e⟩|⟨k,c,e,z⟩
    ·refine .inl ⟨k,?_⟩;have:y≠x:=fun e=>hj (sN hN e1 (e ▸ hi));simp[this,e]
    ·exact .inr ⟨k,c,e,z.sameBut hs (cne y c e)⟩
  ·obtain⟨w',z⟩:=I.cell y c e;exact⟨w',z.sameBut hs (cne y c e)⟩
  ·obtain⟨e,n,ne,nf,d⟩:=I.pin p hp;exact⟨(hs.2 p.1 ne).trans e,n,ne,nf,d⟩
 ·have hfn:X.fn x=true:=by
   rcases hf with z|z
   ·exact z
   ·rw[z]at hk;cases hk
  obtain⟨c,hc⟩:=I.ok.has x (.inl hk);obtain⟨w',z⟩:=I.cell x c hc;refine wpAny_storeName_cell I.ok.kind hk hc z (fun h' hc' hs=>?_);obtain⟨oc,hoc,hocd⟩:=id z;refine h { s with heap:=h' } ⟨I.ok,I.os,I.bare,⟨fun b o e n hb hx=>?_,fun b o e n hb hx=>?_,I.base.free,fun b o e hx=>?_,I.base.tups,I.base.frzs,I.base.tbls⟩,⟨m,hn.sameBut hs (Ne.symm (cne x c hc)),fun j y v' e1 e2 e3=>?_⟩,fun y c' e=>?_,I.free,I.freeC,fun p hp=>?_,tracked ⟨oc,hoc,I.freeC x c hc⟩ hs,by simpa using I.len⟩ ⟨c,hs,.inr hc⟩
  ·exact (hs.2 b (ne_of_lt (lt_of_lt_of_le (Heap.lt_size e) (I.ok.cab x c hfn hc)))).trans (I.base.keep b o e n hb hx)
  ·obtain⟨sl,e1⟩:=I.base.slot b o e n hb hx;exact⟨sl,(hs.2 b (ne_of_lt (lt_of_lt_of_le (Heap.lt_size e) (I.ok.cab x c hfn hc)))).trans e1⟩
  ·obtain⟨o',e1⟩:=I.base.there b o e hx;exact⟨o',(hs.2 b (ne_of_lt (lt_of_lt_of_le (Heap.lt_size e) (I.ok.cab x c hfn hc)))).trans e1⟩
  ·by_cases hj:j=i
   ·subst hj;rw[hi]at e1;cases e1;rw[List.getElem?_set_self hiσ]at e2;cases e2;exact⟨u,r,.inr ⟨.inl hk,c,hc,hc'⟩⟩
   ·rw[getElem?_set_ne (Ne.symm hj)]at e2;obtain⟨u',r',q⟩:=hl j y v' e1 e2 e3;refine⟨u',r',?_⟩;rcases q with q|⟨k,c',e,z'⟩
    ·exact .inl q
    ·refine .inr ⟨k,c',e,z'.sameBut hs ?_⟩
     rintro rfl
     exact hj (sN hN e1 (I.ok.inj _ _ _ e hc ▸ hi))
  ·by_cases hcc:c'=c
   ·subst hcc;exact⟨_,hc'⟩
   ·obtain⟨w2,z2⟩:=I.cell y c' e;exact⟨w2,z2.sameBut hs hcc⟩
  ·obtain⟨e,n,ne,nf,d⟩:=I.pin p hp;refine⟨(hs.2 p.1 ?_).trans e,n,ne,nf,d⟩;intro q;rw[q,hoc]at e;have q':oc=p.2:=Option.some.inj e;exact d w' (by rw[<- q'];exact hocd)
theorem sh{M:Model}{A:Around}{E:Value->Shared->Prop}{i:Nat}{x:Str}{v:V}{u:Value}{Q:Unit->Shared->Prop}(I:Inv X pins σ H s)(hN:X.N.Nodup)(hi:X.N[i]?=some x)(hx:Cj X.env.scope x)(r:aD v u)
  (h:∀ s',Inv X pins (σ.set i (some v)) H s'->Q () s') (hf:X.fn x=true\/X.env.scope.names.lookup x=some .local:=by first|exact .inl rfl|exact .inr rfl|assumption):wpAny M A (storeName X.env x u) Q E s:=
 o8 I hN hi hx r (fun s' I' _=>h s' I') hf
theorem Inv.call'{s':Shared}{ch:List Addr}(I:Inv X pins σ H s)(ho:s'.os=s.os)(u:Un (yr X.stack) ch H H' s.heap s'.heap)(hok:i3 X.prog X.w H' s'.heap)(hg:AllBare s'.gens)
  (hch:∀ b∈ch,(b∈X.ex\/X.s₀.heap.objs.size<=b)/\b≠X.env.locals/\(∀ x c,X.env.cells.lookup x=some c->c≠b)/\∀ p∈X.pn ++ pins,p.1≠b):Inv X pins σ H' s':=by
 obtain⟨h',g',d',t',o'⟩:=s';have e:o'=s.os:=ho;subst e;exact I.call (g':=g') (t':=t') (d':=d') u hok hg hch
end
abbrev XK:=Value->Option Addr->Hp->Prop
abbrev St:=List (Option V)
abbrev VK:=V->Hp->Prop
abbrev TE:=St->Hp->VK->Prop
abbrev TT:=St->Hp->(Bool->Hp->Prop)->Prop
abbrev TA:=St->Hp->(List V->Hp->Prop)->Prop
structure Ends where
 nx:St->Hp->Prop
 rt:VK
 bk:St->Hp->Prop:=fun _ _=>False
 ct:St->Hp->Prop:=fun _ _=>False
abbrev TS:=Ends->St->Hp->Prop
def EP(X:Cx)(pins:List (Addr×Obj))(σ:St)(Q:VK)(u:Value)(s':Shared):Prop:=∃ v H',Inv X pins σ H' s'/\aD v u/\Q v H'
def TP(X:Cx)(pins:List (Addr×Obj))(σ:St)(Q:Bool->Hp->Prop)(b:Bool)(s':Shared):Prop:=∃ H',Inv X pins σ H' s'/\Q b H'
def AP(X:Cx)(pins:List (Addr×Obj))(σ:St)(Q:List V->Hp->Prop)(us:List Value)(s':Shared):Prop:=∃ vs H',Inv X pins σ H' s'/\Vals vs us/\Q vs H'
def SP(X:Cx)(pins:List (Addr×Obj))(D:Ends)(f:Flow)(s':Shared):Prop:=
 match f with
 | .next=>∃ σ' H',Inv X pins σ' H' s'/\D.nx σ' H'
 | .brk=>∃ σ' H',Inv X pins σ' H' s'/\D.bk σ' H'
 | .cont=>∃ σ' H',Inv X pins σ' H' s'/\D.ct σ' H'
 | .ret u=>∃ v σ' H',Inv X pins σ' H' s'/\aD v u/\D.rt v H'
def PE(X:Cx)(e:Expr)(t:TE):Prop:=
 ∀ (pins:List (Addr×Obj)) (s:Shared) (σ:St) (H:Hp) (Q:VK),Inv X pins σ H s->t σ H Q->wpAny (model X.prog X.w) X.A (eval e X.env) (EP X pins σ Q) X.xe s
def PT(X:Cx)(e:Expr)(t:TT):Prop:=
 ∀ (pins:List (Addr×Obj)) (s:Shared) (σ:St) (H:Hp) (Q:Bool->Hp->Prop),Inv X pins σ H s->t σ H Q->wpAny (model X.prog X.w) X.A (isTrue e X.env (eval e X.env)) (TP X pins σ Q) X.xe s
def PW(X:Cx)(e:Expr)(t:TT):Prop:=
 ∀ (whole:Sem Value) (pins:List (Addr×Obj)) (s:Shared) (σ:St) (H:Hp) (Q:Bool->Hp->Prop),Inv X pins σ H s->t σ H Q->wpAny (model X.prog X.w) X.A (isTrue e X.env whole) (TP X pins σ Q) X.xe s
theorem PW.pt{X:Cx}{e:Expr}{t:TT}(h:PW X e t):PT X e t:=h _
def PA(X:Cx)(es:List Expr)(t:TA):Prop:=
 ∀ (pos:Pos) (pins:List (Addr×Obj)) (s:Shared) (σ:St) (H:Hp) (Q:List V->Hp->Prop),Inv X pins σ H s->t σ H Q->wpAny (model X.prog X.w) X.A (spliced (backTo pos (starEach es X.env))) (AP X pins σ Q) X.xe s
def PS(X:Cx)(st:Stmt)(t:TS):Prop:=
 ∀ (pins:List (Addr×Obj)) (s:Shared) (σ:St) (H:Hp) (D:Ends),Inv X pins σ H s->t D σ H->wpAny (model X.prog X.w) X.A (exec st X.env) (SP X pins D) X.xe s
def kZ(X:Cx)(st:List Stmt)(t:TS):Prop:=
 ∀ (pins:List (Addr×Obj)) (s:Shared) (σ:St) (H:Hp) (D:Ends),Inv X pins σ H s->t D σ H->wpAny (model X.prog X.w) X.A (execs st X.env) (SP X pins D) X.xe s
theorem bZ{α:Type}{t:Sem α}{Q Q':α->Shared->Prop}{M:Model}{A:Around}{E:Value->Shared->Prop}{s:Shared}(h:wpAny M A t Q E s)(hQ:∀ a s,Q a s->Q' a s):wpAny M A t Q' E s:=wpAny_mono h hQ fun _ _ x=>x
section
variable{X:Cx}
def Cu(i:Nat):TE:=fun σ H Q=>∃ v,σ[i]?=some (some v)/\Q v H
def tC(v:V):TE:=fun _ H Q=>Q v H
theorem uy{i:Nat}{x:Str}{pos:Pos}(hN:X.N[i]?=some x)(hv:Co X.env.scope x)(hd:(x == ("__debug__":Str))=false:=by decide)(hcd:(x == ("__classdict__":Str))=false:=by decide):PE X (.Name x pos) (Cu i):=by
 intro pins s σ H Q I h;obtain⟨v,e,h⟩:=h;obtain⟨m,hn,hl⟩:=I.loc;obtain⟨u,r,l⟩:=hl i x v hN e hv;have fin:EP X pins σ Q u s:=⟨v,H,I,r,h⟩;rcases l with ⟨hk,hm⟩|⟨hk,c,hc,hcell⟩
 ·exact wpAny_Name (wpAny_loadName_local I.ok.kind hk hn hm fin) hd
 ·rcases hk with hk|hk
  ·exact wpAny_Name (wpAny_loadName_cell I.ok.kind hk hc hcell fin) hd
  ·exact wpAny_Name (wpAny_loadName_free I.ok.kind hk hc hcell fin hcd) hd
theorem Br{i j pos}:PE X (.Constant (.int i) j pos) (tC (.int i)):=fun _ _ _ H _ I h=>wpAny_Constant_int ⟨.int i,H,I.tok _,⟨_,rfl⟩,h⟩
theorem CZ{b j pos}:PE X (.Constant (.bool b) j pos) (tC (.bl b)):=fun _ _ _ H _ I h=>Constant_bool ⟨.bl b,H,I,rfl,h⟩
theorem Bp{j pos}:PE X (.Constant .none j pos) (tC .non):=fun _ _ _ H _ I h=>Constant_none ⟨.non,H,I,rfl,h⟩
theorem Bo{x j pos}:PE X (.Constant (.str x) j pos) (tC (.str x)):=fun _ _ _ H _ I h=>Calls.Constant_str ⟨.str x,H,I.tok _,⟨_,rfl⟩,h⟩
def Gl(X:Cx)(x:Str):Prop:=X.env.kindOf x=some .globalImplicit
theorem j0{E:Value->Shared->Prop}{pins:List (Addr×Obj)}{s:Shared}{σ:St}{H:Hp}{x:Str}{u:Value}{pos:Pos}{Q:Value->Shared->Prop}(I:Inv X pins σ H s)(hg:Gl X x)(hm:X.mg x=some u)(h:Q u s)
  (hd:(x == ("__debug__":Str))=false:=by decide):wpAny (model X.prog X.w) X.A (eval (.Name x pos) X.env) Q E s:=
 Calls.Name_function_global I.ok.kind hg (Calls.loadGlobal_global (by rw[I.ok.glob];exact I.mod.glob.keeps I.bk) hm h) hd
theorem gI{E:Value->Shared->Prop}{pins:List (Addr×Obj)}{s:Shared}{σ:St}{H:Hp}{x:Str}{u:Value}{pos:Pos}{Q:Value->Shared->Prop}(I:Inv X pins σ H s)(hg:Gl X x)(hm:X.mg x=none)(hv:bootBuiltins x=some u)(h:Q u s)
  (hn:x≠"__name__":=by decide) (hd:(x == ("__debug__":Str))=false:=by decide):wpAny (model X.prog X.w) X.A (eval (.Name x pos) X.env) Q E s:=by
 obtain⟨mb,h1,h2⟩:=I.mod.blt;exact Calls.Name_function_global I.ok.kind hg (Calls.loadGlobal_builtin (by rw[I.ok.glob];exact I.mod.glob.keeps I.bk) hm (by rw[I.ok.blt];exact h1.keeps I.bk) ((h2 x hn).trans hv) h) hd
theorem vi{x:Str}{v:V}{u:Value}{pos:Pos}(hg:Gl X x)(hm:X.mg x=some u)(r:aD v u)(hd:(x == ("__debug__":Str))=false:=by decide):PE X (.Name x pos) (tC v):=
 fun _ _ _ H _ I h=>j0 I hg hm ⟨v,H,I,r,h⟩ hd
variable{a b:Expr}{ta tb:TE}{pos:Pos}
def PC(X:Cx)(op:CmpOp)(a b:Expr)(t:TE):Prop:=
 ∀ (pins:List (Addr×Obj)) (s:Shared) (σ:St) (H:Hp) (Q:VK),Inv X pins σ H s->t σ H Q->
  wpAny (model X.prog X.w) X.A (eval a X.env) (fun v s₁=>wpAny (model X.prog X.w) X.A (eval b X.env) (fun u s₂=>wpAny (model X.prog X.w) X.A (compareOp op v u) (EP X pins σ Q) X.xe s₂) X.xe s₁) X.xe s
theorem sO(b:Expr){op:CmpOp}(h:op≠.In)(h2:op≠.NotIn):behindInMarks op b=false:=by
 have e1:(op == CmpOp.In)=false:=by cases op<;>first|rfl|exact absurd rfl h
 have e2:(op == CmpOp.NotIn)=false:=by cases op<;>first|rfl|exact absurd rfl h2
 cases b<;>simp[behindInMarks,e1,e2]
def tB(t:TE):TT:=fun σ H Q=>t σ H fun x H1=>∃ c,x=.bl c/\Q c H1
theorem Bt{op:CmpOp}{t:TE}(h:PC X op a b t)(h1:behindInMarks op b=false:=by first|exact sO _ (by decide) (by decide)|rfl):PE X (.Compare a [op] [b] pos) t:=fun pins s σ H Q I hw=>wpAny_Compare1 (h pins s σ H Q I hw) h1
theorem xE{op:CmpOp}{t:TE}(h:PC X op a b t)(h1:behindInMarks op b=false:=by first|exact sO _ (by decide) (by decide)|rfl):PT X (.Compare a [op] [b] pos) (tB t):=by
 intro pins s σ H Q I hw;refine wpAny_isTrue_Compare1 (bZ (h pins s σ H _ I hw) fun v s1 h1=>bZ h1 fun u s2 h2=>bZ h2 fun c s3 zz=>?_) h1;obtain⟨x,H1,I1,r1,q1⟩:=zz;obtain⟨d,rfl,q⟩:=q1;cases r1;exact wpAny_truthy_bool ⟨H1,I1,q⟩
variable{tA tB':TT}{jJ:List Expr}
def Ed(t u:TT):TT:=fun σ H Q=>t σ H fun c H1=>if c=true then u σ H1 Q else Q false H1
def EW(t u:TT):TT:=fun σ H Q=>t σ H fun c H1=>if c=true then Q true H1 else u σ H1 Q
theorem zg(ha:PT X a tA):PW X (.BoolOp .And [a] pos) tA:=by
 intro wh pins s σ H Q I h;refine isTrue_and (bZ (ha pins s σ H Q I h) fun c s1 e=>?_);cases c with
 | true=>exact isTrue_and_nil e
 | false=>exact e
theorem Be(ha:PT X a tA):PW X (.BoolOp .Or [a] pos) tA:=by
 intro wh pins s σ H Q I h;refine isTrue_or (bZ (ha pins s σ H Q I h) fun c s1 e=>?_);cases c with
 | false=>exact isTrue_or_nil e
 | true=>exact e
theorem Bf(ha:PT X a tA)(hb:PW X (.BoolOp .And (b::jJ) pos) tB'):PW X (.BoolOp .And (a::b::jJ) pos) (Ed tA tB'):=by
 intro wh pins s σ H Q I h;refine isTrue_and (bZ (ha pins s σ H _ I h) fun c s1 zz=>?_);obtain⟨H1,I1,q1⟩:=zz;cases c with
 | true=>exact hb wh pins s1 σ H1 Q I1 q1
 | false=>exact⟨H1,I1,q1⟩
theorem CP(ha:PT X a tA)(hb:PW X (.BoolOp .Or (b::jJ) pos) tB'):PW X (.BoolOp .Or (a::b::jJ) pos) (EW tA tB'):=by
 intro wh pins s σ H Q I h;refine isTrue_or (bZ (ha pins s σ H _ I h) fun c s1 zz=>?_);obtain⟨H1,I1,q1⟩:=zz;cases c with
 | true=>exact⟨H1,I1,q1⟩
 | false=>exact hb wh pins s1 σ H1 Q I1 q1
end
def i0(K:Frag)(H:Hp)(a:Addr)(xs:List V):Prop:=
 Rd H a (.lst xs)\/
  ∃ (o:Obj) (its:Array Value) (n:Nat),K.lookup a=some o/\o.cls=.type "list"/\o.dict=none/\o.data=.seq its n/\its.size<=sizeLine/\Vals xs its.toList
def hJ(K:Frag)(H:Hp)(a:Addr)(xs:List V):Prop:=
 Rd H a (.tup xs)\/
  ∃ (o:Obj) (its:Array Value) (n:Nat),K.lookup a=some o/\(o.cls=.type "tuple"/\o.dict=none)/\o.data=.seq its n/\its.size<=sizeLine/\Vals xs its.toList
def EG:Value->Option V
 | .none=>some .non
 | .bool b=>some (.bl b)
 | .int i _=>some (.int i)
 | .str x _=>some (.str x)
 | .bytes b _=>some (.byt b)
 | .float b _=>some (.flt b)
 | .ref a=>some (.ref a)
 | .type n=>some (.ty n)
 | _=>none
theorem aD.abs{x:V}{u:Value}(r:aD x u):EG u=some x:=by
 cases x with
 | non=>cases r;rfl
 | bl _=>cases r;rfl
 | int _=>obtain⟨t,rfl⟩:=r;rfl
 | str _=>obtain⟨t,rfl⟩:=r;rfl
 | byt _=>obtain⟨t,rfl⟩:=r;rfl
 | flt _=>obtain⟨t,rfl⟩:=r;rfl
 | ref _=>cases r;rfl
 | ty _=>cases r;rfl
theorem aD.inj{x y:V}{u:Value}(r:aD x u)(q:aD y u):x=y:=Option.some.inj (r.abs.symm.trans q.abs)
theorem Vals.inj:∀ {xs ys:List V} {us:List Value},Vals xs us->Vals ys us->xs=ys
 | _,_,_,.nil,.nil=>rfl
 | _,_,_,.cons r t,.cons r' t'=>by rw[r.inj r',Vals.inj t t']
section
variable{X:Cx}{pins:List (Addr×Obj)}{σ:St}{H:Hp}{s:Shared}{a:Addr}{xs ys:List V}
theorem i0.of{K:Frag}(h:H a=some (.lst xs)):i0 K H a xs:=.inl (.inl h)
theorem hJ.of{K:Frag}(h:H a=some (.tup xs)):hJ K H a xs:=.inl (.inl h)
theorem Inv.list(I:Inv X pins σ H s)(h:i0 X.K H a xs):∃ its:List Value,Vals xs its/\PlainL s.heap a its.toArray/\xs.length<=sizeLine:=by
 rcases h with h|⟨o,its,n,hk,hc,hd,hs,hz,r⟩
 ·obtain⟨z,its,n,r,e⟩:=h.ok I.hok;exact⟨its,r,⟨_,n,e,rfl,rfl,rfl⟩,z⟩
 ·refine⟨its.toList,r,⟨o,n,I.kIn a o hk,hc,hd,by simpa using hs⟩,?_⟩
  have e:=r.length;simp only[Array.length_toList]at e;omega
theorem Inv.tuple(I:Inv X pins σ H s)(h:hJ X.K H a xs):∃ its:List Value,Vals xs its/\IsTup s.heap a its.toArray/\xs.length<=sizeLine:=by
 rcases h with h|⟨o,its,n,hk,hc,hs,hz,r⟩
 ·obtain⟨z,its,r,p⟩:=h.ok I.hok;exact⟨its,r,p.tup,z⟩
 ·refine⟨its.toList,r,⟨o,I.kIn a o hk,hc.1,n,by simpa using hs⟩,?_⟩
  have e:=r.length;simp only[Array.length_toList]at e;omega
theorem Inv.list_inj(I:Inv X pins σ H s)(h:i0 X.K H a xs)(h':i0 X.K H a ys):xs=ys:=by
 obtain⟨its,r,⟨o,n,e,_,_,d⟩,_⟩:=I.list h;obtain⟨its',r',⟨o',n',e',_,_,d'⟩,_⟩:=I.list h';rw[e]at e';cases e';rw[d]at d';injection d' with d1 _
 have:its=its':=by simpa using congrArg Array.toList d1
 subst this;exact r.inj r'
theorem Inv.tuple_inj(I:Inv X pins σ H s)(h:hJ X.K H a xs)(h':hJ X.K H a ys):xs=ys:=by
 obtain⟨its,r,⟨o,e,_,n,d⟩,_⟩:=I.tuple h;obtain⟨its',r',⟨o',e',_,n',d'⟩,_⟩:=I.tuple h';rw[e]at e';cases e';rw[d]at d';injection d' with d1 _
 have:its=its':=by simpa using congrArg Array.toList d1
 subst this;exact r.inj r'
end
abbrev Cx.wish(X:Cx)(E:Value->Shared->Prop):Cx:={ X with xe:=E }
abbrev Cx.nox(X:Cx):Cx:=X.wish fun _ _=>False
theorem Cx.Ok.wish{X:Cx}(ok:X.Ok)(E:Value->Shared->Prop):(X.wish E).Ok:=
 ⟨ok.mod,ok.kind,ok.glob,ok.blt,ok.above,ok.inj,ok.has,ok.cab,ok.hd,ok.frames,ok.stk,ok.exf,ok.bs,ok.bsz,ok.noex,ok.exfs,ok.funs,ok.frf⟩
theorem Cx.Ok.unwish{X:Cx}{E:Value->Shared->Prop}(ok:(X.wish E).Ok):X.Ok:=
 ⟨ok.mod,ok.kind,ok.glob,ok.blt,ok.above,ok.inj,ok.has,ok.cab,ok.hd,ok.frames,ok.stk,ok.exf,ok.bs,ok.bsz,ok.noex,ok.exfs,ok.funs,ok.frf⟩
section
variable{X:Cx}{pins:List (Addr×Obj)}{σ:St}{H:Hp}{s:Shared}{E:Value->Shared->Prop}
theorem Inv.wish(I:Inv X pins σ H s)(E:Value->Shared->Prop):Inv (X.wish E) pins σ H s:=⟨I.ok.wish E,I.os,I.bare,I.base,I.loc,I.cell,I.free,I.freeC,I.pin,I.hok,I.len⟩
theorem Inv.unwish(I:Inv (X.wish E) pins σ H s):Inv X pins σ H s:=⟨I.ok.unwish,I.os,I.bare,I.base,I.loc,I.cell,I.free,I.freeC,I.pin,I.hok,I.len⟩
theorem SP.unwish{D:Ends}{f:Flow}{s':Shared}(h:SP (X.wish E) pins D f s'):SP X pins D f s':=by
 cases f with
 | next=>obtain⟨σ',H',I,q⟩:=h;exact⟨σ',H',I.unwish,q⟩
 | brk=>obtain⟨σ',H',I,q⟩:=h;exact⟨σ',H',I.unwish,q⟩
 | cont=>obtain⟨σ',H',I,q⟩:=h;exact⟨σ',H',I.unwish,q⟩
 | ret u=>obtain⟨v,σ',H',I,r,q⟩:=h;exact⟨v,σ',H',I.unwish,r,q⟩
theorem PE.nox{e:Expr}{t:TE}(h:PE X.nox e t):PE X e t:=fun pins s σ H Q I hw=>
 wpAny_mono (h pins s σ H Q (I.wish _) hw) (fun _ _ ⟨v,H',I',r,q⟩=>⟨v,H',I'.unwish,r,q⟩) fun _ _ z=>False.elim z
theorem PT.nox{e:Expr}{t:TT}(h:PT X.nox e t):PT X e t:=fun pins s σ H Q I hw=>
 wpAny_mono (h pins s σ H Q (I.wish _) hw) (fun _ _ ⟨H',I',q⟩=>⟨H',I'.unwish,q⟩) fun _ _ z=>False.elim z
theorem kZ.nox{st:List Stmt}{t:TS}(h:kZ X.nox st t):kZ X st t:=fun pins s σ H D I hw=>
 wpAny_mono (h pins s σ H D (I.wish _) hw) (fun _ _ q=>q.unwish) fun _ _ z=>False.elim z
end
section
variable{X:Cx}{st:Stmt}{jJ:List Stmt}{t u:TS}{e:Expr}{te:TE}{pos:Pos}
def Cz:TS:=fun D σ H=>D.nx σ H
def D6(t u:TS):TS:=fun D σ H=>t { D with nx:=u D } σ H
theorem zl:kZ X [] Cz:=fun _ _ σ H _ I h=>wpAny_execs_nil ⟨σ,H,I,h⟩
theorem xF(h1:PS X st t)(h2:kZ X jJ u):kZ X (st::jJ) (D6 t u):=by
 intro pins s σ H D I h;refine wpAny_execs_cons (bZ (h1 pins s σ H { D with nx:=u D } I h) fun f s1 q=>?_)
 cases f with
 | next=>
  obtain⟨σ',H',I',q⟩:=q;exact h2 pins s1 σ' H' D I' q
 | ret v=>exact q
 | brk=>exact q
 | cont=>exact q
theorem zk(h1:PS X st t):kZ X [st] t:=by
 intro pins s σ H D I h;refine wpAny_execs_cons (bZ (h1 pins s σ H D I h) fun f s1 q=>?_);cases f with
 | next=>exact wpAny_execs_nil q
 | ret v=>exact q
 | brk=>exact q
 | cont=>exact q
theorem Inv.quiet{pins:List (Addr×Obj)}{σ:St}{H:Hp}{s:Shared}(I:Inv X pins σ H s):interactive X.env=false:=by simp[interactive,I.ok.kind]
def CA(te:TE):TS:=fun D σ H=>te σ H fun _ H1=>D.nx σ H1
theorem zm(he:PE X e te)(hs:swapsWith e none pos.line X.env=pure false:=by rfl):PS X (.Expr e pos) (CA te):=by
 intro pins s σ H D I h;exact wpAny_Expr_any (bZ (he pins s σ H _ I h) fun v s1 ⟨x,H1,I1,r1,q1⟩=>⟨σ,H1,I1,q1⟩) I.quiet hs
def D7(te:TE):TS:=fun D σ H=>te σ H D.rt
theorem xI(he:PE X e te):PS X (.Return (some e) pos) (D7 te):=by
 intro pins s σ H D I h;exact wpAny_Return_some (bZ (he pins s σ H _ I h) fun v s1 ⟨x,H1,I1,r1,q1⟩=>⟨x,σ,H1,I1,r1,q1⟩)
def D_(c:TT)(t u:TS):TS:=fun D σ H=>c σ H fun b H1=>if b=true then t D σ H1 else u D σ H1
theorem CQ{c:Expr}{a b:List Stmt}{tc:TT}(hc:PT X c tc)(ha:kZ X a t)(hb:kZ X b u):PS X (.If c a b pos) (D_ tc t u):=by
 intro pins s σ H D I h;refine wpAny_If (bZ (hc pins s σ H _ I h) fun d s1 zz=>?_);obtain⟨H1,I1,q1⟩:=zz;cases d with
 | true=>exact ha pins s1 σ H1 D I1 q1
 | false=>exact hb pins s1 σ H1 D I1 q1
end
abbrev TG:=V->St->Hp->(St->Hp->Prop)->Prop
abbrev Ap:=List V->St->Hp->(St->Hp->Prop)->Prop
def PG(X:Cx)(target:Expr)(t:TG):Prop:=
 ∀ (pins:List (Addr×Obj)) (s:Shared) (σ:St) (H:Hp) (v:V) (u:Value) (Q:St->Hp->Prop),Inv X pins σ H s->aD v u->t v σ H Q->
  wpAny (model X.prog X.w) X.A (assign target X.env u) (fun _ s'=>∃ σ' H',Inv X pins σ' H' s'/\Q σ' H') X.xe s
def yL(X:Cx)(ts:List Expr)(t:Ap):Prop:=
 ∀ (pins:List (Addr×Obj)) (s:Shared) (σ:St) (H:Hp) (vs:List V) (us:List Value) (Q:St->Hp->Prop),Inv X pins σ H s->Vals vs us->t vs σ H Q->
  wpAny (model X.prog X.w) X.A (assignInOrder ((assignEach ts X.env).map (·.2)) us) (fun _ s'=>∃ σ' H',Inv X pins σ' H' s'/\Q σ' H') X.xe s
abbrev An:=V->V->V->Hp->(Hp->Prop)->Prop
def Ch(X:Cx)(t:An):Prop:=
 ∀ (pins:List (Addr×Obj)) (s:Shared) (σ:St) (H:Hp) (o i v:V) (ov iv u:Value) (Q:Hp->Prop),Inv X pins σ H s->aD o ov->aD i iv->aD v u->t o i v H Q->
  wpAny (model X.prog X.w) X.A (setItem ov iv u) (fun _ s'=>∃ H',Inv X pins σ H' s'/\Q H') X.xe s
section
variable{X:Cx}{pos:Pos}
def tE(i:Nat):TG:=fun v σ H Q=>Q (σ.set i (some v)) H
theorem zr{i:Nat}{x:Str}(hN:X.N.Nodup)(hi:X.N[i]?=some x)(hx:Cj X.env.scope x)(hf:X.fn x=true\/X.env.scope.names.lookup x=some .local:=by first|exact .inl rfl|exact .inr rfl|assumption):PG X (.Name x pos) (tE i):=by
 intro pins s σ H v u Q I r h;exact wpAny_assign_Name (sh I hN hi hx r (fun s' I'=>⟨_,H,I',h⟩) hf)
def Ew:Ap:=fun vs σ H Q=>vs=[]/\Q σ H
def Df(t:TG)(u:Ap):Ap:=fun vs σ H Q=>∃ v r,vs=v::r/\t v σ H fun σ' H'=>u r σ' H' Q
theorem zq:yL X [] Ew:=by
 intro pins s σ H vs us Q I r h;obtain⟨e,h⟩:=h;subst e;cases r;exact assignInOrder_nil ⟨σ,H,I,h⟩
theorem xL{e:Expr}{es:List Expr}{t:TG}{u:Ap}(h1:PG X e t)(h2:yL X es u)
  (hs:(assignEach (e::es) X.env).map (·.2)=assign e X.env::(assignEach es X.env).map (·.2):=by rfl):yL X (e::es) (Df t u):=by
 intro pins s σ H vs us Q I r h;obtain⟨v,vr,e1,h⟩:=h;subst e1;cases r with
 | cons r rr=>
  rw[hs];refine assignInOrder_cons (bZ (h1 pins s σ H _ _ _ I r h) fun _ s1 zz=>?_);obtain⟨σ1,H1,I1,q1⟩:=zz;exact h2 pins s1 σ1 H1 _ _ Q I1 rr q1
def Eu(K:Frag)(n:Nat)(t:Ap):TG:=fun v σ H Q=>∃ a xs,v=.ref a/\hJ K H a xs/\xs.length=n/\t xs σ H Q
theorem Bl{es:List Expr}{k:Nat}{t:Ap}{n:Nat}(hc:X.calm=true)(h:yL X es t)
  (hn:(assignEach es X.env).length=n:=by rfl) (hst:(assignEach es X.env).findIdx? (·.1)=none:=by rfl):PG X (.Tuple es k pos) (Eu X.K n t):=by
 intro pins s σ H v u Q I r hw;obtain⟨a,xs,e1,hq,hl,hw⟩:=hw;subst e1;cases r;obtain⟨its,rv,ht,hz⟩:=I.tuple hq;refine assign_Tuple_tuple (I.ok.hd hc) ht (by simp[hn,<- hl,rv.length]) hst fun h' hx=>?_
 have I1:Inv X pins σ H { s with heap:=h' }:=I.kept (t':=s.toks) fun b o e=>hx b o (ne_of_lt (Heap.lt_size e)) e
 exact h pins _ σ H xs _ Q I1 (by simpa using rv) hw
def Ev(to ti:TE)(t:An):TG:=fun v σ H Q=>to σ H fun o H1=>ti σ H1 fun i H2=>t o i v H2 fun H3=>Q σ H3
theorem Bm{o i:Expr}{to ti:TE}{t:An}(ho:PE X o to)(hi:PE X i ti)(hs:Ch X t)
  (ha:∀ v,assign (.Subscript o i pos) X.env v=(do
   let ov <- holding [v] (eval o X.env)
   let iv <- holding [v,ov] (eval i X.env)
   standAt pos
   holding [v,ov,iv] (setItem ov iv v)
   release [v,ov,iv] []):=by intro _;rfl):PG X (.Subscript o i pos) (Ev to ti t):=by
 intro pins s σ H v u Q I r h;rw[ha];refine wpAny_bind (wpAny_holding (bZ (ho pins s σ H _ I h) fun ov s1 zz=>?_));obtain⟨x,H1,I1,r1,q1⟩:=zz;refine wpAny_bind (wpAny_holding (bZ (hi pins s1 σ H1 _ I1 q1) fun iv s2 zz=>?_));obtain⟨y,H2,I2,r2,q2⟩:=zz;refine wpAny_bind (wpAny_standAt (wpAny_bind (wpAny_holding (bZ (hs pins s2 σ H2 x y v ov iv u _ I2 r1 r2 r q2) fun _ s3 zz=>?_))));obtain⟨H3,I3,q3⟩:=zz;exact wpAny_release ⟨σ,H3,I3,q3⟩
def A6(te:TE)(g:TG):TS:=fun D σ H=>te σ H fun x H1=>g x σ H1 D.nx
theorem Bk{tg e:Expr}{te:TE}{g:TG}(he:PE X e te)(hg:PG X tg g)(hs:swapsWithSole [tg] e pos.line X.env=pure false:=by rfl)(hw:swappedStores [tg] e X.env=pure none:=by rfl)
  (h1:(assignEach [tg] X.env).map (·.2)=[assign tg X.env]:=by rfl):PS X (.Assign [tg] e pos) (A6 te g):=by
 intro pins s σ H D I h;refine wpAny_Assign_stores (bZ (he pins s σ H _ I h) fun v s1 zz=>?_) hs hw;obtain⟨x,H1,I1,r1,q1⟩:=zz;rw[h1];exact bZ (hg pins s1 σ H1 x v _ I1 r1 q1) fun _ s2 q=>q
theorem xH{i:Nat}{x:Str}{e:Expr}{te:TE}{pos':Pos}(hN:X.N.Nodup)(hi:X.N[i]?=some x)(hx:Cj X.env.scope x)(he:PE X e te)(hs:swapsWith e (some (.Name x pos')) pos.line X.env=pure false:=by rfl)(hf:X.fn x=true\/X.env.scope.names.lookup x=some .local:=by first|exact .inl rfl|exact .inr rfl|assumption):
  PS X (.Assign [.Name x pos'] e pos) (A6 te (tE i)):=by
 intro pins s σ H D I h;refine wpAny_Assign_Name (bZ (he pins s σ H _ I h) fun v s1 zz=>?_) hs;obtain⟨y,H1,I1,r1,q1⟩:=zz;exact sh I1 hN hi hx r1 (fun s2 I2=>⟨_,H1,I2,q1⟩) hf
def A4(c:TT)(tb:TS):TS:=fun D σ H=>∃ W:Nat->St->Hp->Prop,(∃ m,W m σ H)/\∀ m σ H,W m σ H->
 c σ H fun b H1=>if b=true then ∃ N:St->Hp->Prop,(∀ σ' H',N σ' H'->∃ m',m' < m/\W m' σ' H')/\tb { D with nx:=N,ct:=N,bk:=D.nx } σ H1 else D.nx σ H1
theorem xG{c:Expr}{body:List Stmt}{tc:TT}{tb:TS}(hp:PassesOwn (model X.prog X.w) X.A X.env X.xe)(hc:PT X c tc)(hb:kZ X body tb):PS X (.While c body [] pos) (A4 tc tb):=by
 intro pins s σ H D I h;obtain⟨W,⟨m0,w0⟩,turn⟩:=h;refine wpAny_While (codeAny_whileLoop (fun n s'=>∃ σ' H',Inv X pins σ' H' s'/\W n σ' H') ?_ m0 ⟨σ,H,I,w0⟩)
 rintro n s1 ⟨σ1,H1,I1,w1⟩
 refine wpAny_passesOwn hp (bZ (hc pins s1 σ1 H1 _ I1 (turn n σ1 H1 w1)) fun b s2 zz=>?_);obtain⟨H2,I2,q2⟩:=zz;cases b with
 | true=>
  obtain⟨N,hN,q2⟩:=q2;rw[if_pos rfl];refine wpAny_passesOwn hp (bZ (hb pins s2 σ1 H2 _ I2 q2) fun f s3 q3=>?_);cases f with
  | next=>
   obtain⟨σ3,H3,I3,n3⟩:=q3;obtain⟨m',hm,w3⟩:=hN σ3 H3 n3;exact⟨m',hm,σ3,H3,I3,w3⟩
  | cont=>
   obtain⟨σ3,H3,I3,n3⟩:=q3;obtain⟨m',hm,w3⟩:=hN σ3 H3 n3;exact⟨m',hm,σ3,H3,I3,w3⟩
  | brk=>exact q3
  | ret v=>exact q3
 | false=>
  rw[if_neg Bool.false_ne_true];exact wpAny_execs_nil ⟨σ1,H2,I2,q2⟩
end
structure It where
 go:Nat->Hp->Prop
 yld:Nat->Hp->V->Hp->Prop
 stop:Nat->Hp->Prop
def k_(X:Cx)(pins:List (Addr×Obj))(H:Hp)(b:Addr):Prop:=
 H b=none/\b≠X.env.locals/\b∉X.fs/\(b∈X.ex\/X.s₀.heap.objs.size<=b)/\(∀ x c,X.env.cells.lookup x=some c->c≠b)/\∀ p∈X.pn ++ pins,p.1≠b
theorem Inv.fpOk{X:Cx}{pins:List (Addr×Obj)}{σ:St}{H H':Hp}{s:Shared}{b:Addr}(I:Inv X pins σ H s)(hb:s.heap.objs.size<=b)(hn:H' b=none):k_ X pins H' b:=by
 refine⟨hn,ne_of_gt (lt_of_lt_of_le I.lt hb),I.nofs hb,.inr (le_trans I.sz hb),fun x c e z=>?_,fun p hp z=>?_⟩
 ·obtain⟨v,q⟩:=I.cell x c e;exact absurd (lt_of_lt_of_le q.lt (by rw[z];exact hb)) (Nat.lt_irrefl _)
 ·exact absurd (lt_of_lt_of_le (Heap.lt_size (I.pin p hp).1) (by rw[z];exact hb)) (Nat.lt_irrefl _)
structure Turn(P:Program)(w:World)(K:Frag)(tg:Expr)(J:It)(fp:List Addr)(it:Addr)(tn:Nat->Heap->Prop):Prop where
 mem:it∈fp
 obj:∀ i h,tn i h->∀ b∈fp,∃ o,h.get? b=some o/\∀ v,o.data≠.cell v
 keep:∀ i h h',tn i h->(∀ b∈fp,∀ o,h.get? b=some o->h'.get? b=some o)->tn i h'
 item:∀ (X:Cx),X.prog=P->X.w=w->X.K=K->X.calm=true->∀ (i:Nat) (pins:List (Addr×Obj)) (s:Shared) (σ:St) (H:Hp) (E:Value->Shared->Prop),Inv X pins σ H s->(∀ b∈fp,k_ X pins H b)->tn i s.heap->J.go i H->
  wpAny (model P w) X.A (pyNext (.ref it)) (fun r s1=>∃ u,r=some u/\
   wpAny (model P w) X.A (letOwnedTupleGo tg (.ref it) u) (fun _ s2=>∃ x H',Inv X pins σ H' s2/\aD x u/\J.yld i H x H'/\tn (i+1) s2.heap/\∀ b∈fp,H' b=none) E s1) E s
 done:∀ (X:Cx),X.prog=P->X.w=w->X.K=K->X.calm=true->∀ (i:Nat) (pins:List (Addr×Obj)) (s:Shared) (σ:St) (H:Hp) (E:Value->Shared->Prop),Inv X pins σ H s->(∀ b∈fp,k_ X pins H b)->tn i s.heap->J.stop i H->
  wpAny (model P w) X.A (pyNext (.ref it)) (fun r s1=>r=none/\Inv X pins σ H s1) E s
 self:∀ (A:Around) (i:Nat) (s:Shared) (Q:Value->Shared->Prop) (E:Value->Shared->Prop),tn i s.heap->Q (.ref it) s->wpAny (model P w) A (pyIter (.ref it)) Q E s
abbrev TI:=St->Hp->(It->Hp->Prop)->Prop
def Ci(X:Cx)(pins:List (Addr×Obj))(σ:St)(tg:Expr)(R:It->Hp->Prop)(itv:Value)(s2:Shared):Prop:=
 ∃ (it:Addr) (fp:List Addr) (tn:Nat->Heap->Prop) (J:It) (H':Hp),itv=.ref it/\Inv X pins σ H' s2/\Turn X.prog X.w X.K tg J fp it tn/\tn 0 s2.heap/\(∀ b∈fp,k_ X pins H' b)/\R J H'
def PI(X:Cx)(tg iter:Expr)(wi:TI):Prop:=
 ∀ (pins:List (Addr×Obj)) (s:Shared) (σ:St) (H:Hp) (R:It->Hp->Prop),Inv X pins σ H s->wi σ H R->
  wpAny (model X.prog X.w) X.A (eval iter X.env) (fun v s1=>wpAny (model X.prog X.w) X.A (pyIter v) (Ci X pins σ tg R) X.xe s1) X.xe s
theorem tD{M:Model}{A:Around}{E:Value->Shared->Prop}{s:Shared}{tg:Expr}{it:Addr}{u:Value}{o:Obj}{n:String}{vs:Array Value}{Q:Unit->Shared->Prop}(ho:s.heap.get? it=some o)(hc:o.cls=.type n)(hd:o.data=.fields vs)
  (hn:["enumerate","zip","dict_itemiterator","dict_reverseitemiterator","odict_iterator","itertools.zip_longest","itertools.pairwise"].contains n=false) (hQ:Q () s):wpAny M A (letOwnedTupleGo tg (.ref it) u) Q E s:=by
 unfold letOwnedTupleGo;cases tg<;>first
  | exact wpAny_pure hQ
  | (cases u<;>first
    | exact wpAny_pure hQ
    | (refine wpAny_bind (wpAny_load ho ?_)
       rw[hc,hd];show wpAny M A (if (["enumerate","zip","dict_itemiterator","dict_reverseitemiterator","odict_iterator","itertools.zip_longest","itertools.pairwise"].contains n && vs[0]? == some (rawInt _))=true then _ else _) Q E s
       rw[if_neg (by intro h;rw[hn,Bool.false_and]at h;cases h)]
       exact wpAny_pure hQ))
def EM(K:Frag)(a:Addr):It:=
 ⟨fun i H=>∃ xs x,i0 K H a xs/\xs[i]?=some x,fun i H x H'=>H'=H/\∀ xs,i0 K H a xs->xs[i]?=some x,fun i H=>∃ xs,i0 K H a xs/\xs.length<=i⟩
def EK(K:Frag)(a:Addr):It:=
 ⟨fun i H=>∃ xs x,hJ K H a xs/\xs[i]?=some x,fun i H x H'=>H'=H/\∀ xs,hJ K H a xs->xs[i]?=some x,fun i H=>∃ xs,hJ K H a xs/\xs.length<=i⟩
def DQ(lo:Int)(n:Nat):It:=⟨fun i _=>i < n,fun i H x H'=>H'=H/\x=.int (lo+i),fun i _=>n<=i⟩
theorem vP{P:Program}{w:World}{K:Frag}{tg:Expr}(a it:Addr):Turn P w K tg (EM K a) [it] it (fun i h=>h.IsListIter it a i) where
 mem:=by simp
 obj:=fun i h st b hb=>by
  have e:b=it:=by simpa using hb
  subst e;obtain⟨o,e,c,d⟩:=st;exact⟨o,e,fun v z=>by rw[d]at z;cases z⟩
 keep:=fun i h h' st k=>st.at fun o e=>k it (by simp) o e
 item:=by
  intro X hP hw hK hc i pins s σ H E I hf st hg;subst hP hw hK;obtain⟨xs,x,hq,hx⟩:=hg;obtain⟨its,rv,p,hz⟩:=I.list hq;obtain⟨u,hu,ru⟩:=rv.get hx;obtain⟨f0,f1,f2,f3,f4,f5⟩:=hf it (by simp)
  refine wpAny_pyNext_list_item st p.isList (x:=u) (by simpa using hu) fun h' st' sb=>?_
  have I1:Inv X pins σ H { s with heap:=h' }:=I.turned (t':=s.toks) (fun b o hb e=>(sb.2 b hb).trans e) f0 f1 f3 f4 f5
  obtain⟨o,e,c,d⟩:=id st';exact⟨u,rfl,tD (s:={ s with heap:=h' }) e c d (by decide) ⟨x,H,I1,ru,⟨rfl,fun ys hy=>by rw[I.list_inj hy hq];exact hx⟩,st',fun b hb=>(hf b hb).1⟩⟩
 done:=by
  intro X hP hw hK hc i pins s σ H E I hf st hg;subst hP hw hK;obtain⟨xs,hq,hx⟩:=hg;obtain⟨its,rv,p,hz⟩:=I.list hq;obtain⟨f0,f1,f2,f3,f4,f5⟩:=hf it (by simp)
  have hl:=rv.length;exact wpAny_pyNext_list_end (I.ok.hd hc) st p.isList (by simp;omega) fun h' eb=>⟨rfl,I.turned (t':=s.toks) (fun b o hb e=>eb b o hb e) f0 f1 f3 f4 f5⟩
 self:=fun _ _ _ _ _ st h=>wpAny_pyIter_listiter st h
theorem t5{P:Program}{w:World}{K:Frag}{tg:Expr}(a it:Addr):Turn P w K tg (EK K a) [it] it (fun i h=>h.IsTupleIter it a i) where
 mem:=by simp
 obj:=fun i h st b hb=>by
  have e:b=it:=by simpa using hb
  subst e;obtain⟨o,e,c,d⟩:=st;exact⟨o,e,fun v z=>by rw[d]at z;cases z⟩
 keep:=fun i h h' st k=>st.at fun o e=>k it (by simp) o e
 item:=by
  intro X hP hw hK hc i pins s σ H E I hf st hg;subst hP hw hK;obtain⟨xs,x,hq,hx⟩:=hg;obtain⟨its,rv,p,hz⟩:=I.tuple hq;obtain⟨u,hu,ru⟩:=rv.get hx;obtain⟨f0,f1,f2,f3,f4,f5⟩:=hf it (by simp)
  refine wpAny_pyNext_tuple_item st (show s.heap.IsTuple a its.toArray from p) (x:=u) (by simpa using hu) fun h' st' sb=>?_
  have I1:Inv X pins σ H { s with heap:=h' }:=I.turned (t':=s.toks) (fun b o hb e=>(sb.2 b hb).trans e) f0 f1 f3 f4 f5
  obtain⟨o,e,c,d⟩:=id st';exact⟨u,rfl,tD (s:={ s with heap:=h' }) e c d (by decide) ⟨x,H,I1,ru,⟨rfl,fun ys hy=>by rw[I.tuple_inj hy hq];exact hx⟩,st',fun b hb=>(hf b hb).1⟩⟩
 done:=by
  intro X hP hw hK hc i pins s σ H E I hf st hg;subst hP hw hK;obtain⟨xs,hq,hx⟩:=hg;obtain⟨its,rv,p,hz⟩:=I.tuple hq;obtain⟨f0,f1,f2,f3,f4,f5⟩:=hf it (by simp)
  have hl:=rv.length;exact wpAny_pyNext_tuple_end (I.ok.hd hc) st (show s.heap.IsTuple a its.toArray from p) (by simp;omega) fun h' eb=>⟨rfl,I.turned (t':=s.toks) (fun b o hb e=>eb b o hb e) f0 f1 f3 f4 f5⟩
 self:=fun _ _ _ _ _ st h=>wpAny_pyIter_tupleiter st h
theorem t6{P:Program}{w:World}{K:Frag}{tg:Expr}(it:Addr)(lo:Int)(n:Nat):Turn P w K tg (DQ lo n) [it] it (fun i h=>IsRangeIter h it (lo+(i:Nat)*1) ((n:Int) - (i:Nat)) 1) where
 mem:=by simp
 obj:=fun i h st b hb=>by
  have e:b=it:=by simpa using hb
  subst e;exact⟨_,st,fun v z=>by
   have z':Data.fields _=Data.cell v:=z;cases z'⟩
 keep:=fun i h h' st k=>k it (by simp) _ st
 item:=by
  intro X hP hw hK hc i pins s σ H E I hf st hg;subst hP hw hK;obtain⟨f0,f1,f2,f3,f4,f5⟩:=hf it (by simp)
  have W:=Walks.range (prog:=X.prog) (w:=X.w) (I.ok.hd hc) it lo 1 n;refine W.item i s _ _ hg st fun v h' tk hv st' kk=>?_;obtain⟨t,rfl⟩:=hv;have I1:Inv X pins σ H { s with heap:=h',toks:=tk }:=I.turned (fun b o hb e=>kk b o (by simpa using hb) e) f0 f1 f3 f4 f5
  refine⟨_,rfl,tD (s:={ s with heap:=h',toks:=tk }) (n:="range_iterator") st' rfl rfl (by decide) ⟨.int (lo+i),H,I1,⟨t,?_⟩,⟨rfl,rfl⟩,st',fun b hb=>(hf b hb).1⟩⟩
  rw[Int.mul_one]
 done:=by
  intro X hP hw hK hc i pins s σ H E I hf st hg;subst hP hw hK;obtain⟨f0,f1,f2,f3,f4,f5⟩:=hf it (by simp)
  exact wpAny_pyNext_range_end (I.ok.hd hc) st (by have:n<=i:=hg;omega) fun h' eb=>⟨rfl,I.turned (t':=s.toks) (fun b o hb e=>eb b o hb e) f0 f1 f3 f4 f5⟩
 self:=fun _ _ _ _ _ st h=>wpAny_pyIter_rangeiter st h
section
variable{X:Cx}{tg:Expr}
theorem sy{pins:List (Addr×Obj)}{σ:St}{H:Hp}{s:Shared}{R:It->Hp->Prop}{E:Value->Shared->Prop}{lo hi:Int}{t u v:Tok}{tk:Nat}(I:Inv X pins σ H s)(h1:-(2 ^ 62)<=lo)(h2:lo < 2 ^ 62)(h3:-(2 ^ 62)<=hi)(h4:hi < 2 ^ 62)
  (q:R (DQ lo (hi - lo).toNat) H):wpAny (model X.prog X.w) X.A (pyIter (.ref s.heap.objs.size)) (Ci X pins σ tg R) E { s with heap:=s.heap.push { cls:=.type "range",data:=.fields #[.int lo t,.int hi u,.int 1 v] },toks:=tk }:=by
 refine wpAny_pyIter_range (IsRange.new ..) (small_one h1 h2 h3 h4) ?_;have I1:Inv X pins σ H { s with heap:=s.heap.push { cls:=.type "range",data:=.fields #[.int lo t,.int hi u,.int 1 v] },toks:=tk }:=I.kept fun b o e=>Heap.get?_push_of_some _ e
 refine⟨(s.heap.push { cls:=.type "range",data:=.fields #[.int lo t,.int hi u,.int 1 v] }).objs.size,[(s.heap.push { cls:=.type "range",data:=.fields #[.int lo t,.int hi u,.int 1 v] }).objs.size],_,_,H,rfl,
  I1.kept (t':=tk) fun b o e=>Heap.get?_push_of_some _ e,t6 _ lo (hi - lo).toNat,?_,fun b hb=>?_,q⟩
 ·have e1:lo+((0:Nat):Int)*1=lo:=by simp
  have e2:(((hi - lo).toNat:Nat):Int) - ((0:Nat):Int)=Builtin.Range.rangeSize lo hi 1:=by rw[rangeSize_one];split<;>omega
  show IsRangeIter _ _ (lo+((0:Nat):Int)*1) ((((hi - lo).toNat:Nat):Int) - ((0:Nat):Int)) 1
  rw[e1,e2];exact Heap.get?_push_size _ rfl
 ·have e:b=(s.heap.push { cls:=.type "range",data:=.fields #[.int lo t,.int hi u,.int 1 v] }).objs.size:=by simpa using hb
  subst e;exact I1.fpOk (le_refl _) (I1.hok.fresh (le_refl _))
def De(ta:TA):TI:=fun σ H R=>ta σ H fun vs H1=>∃ j:Int,vs=[.int j]/\-(2 ^ 62)<=j/\j < 2 ^ 62/\R (DQ 0 j.toNat) H1
def Dc(ta:TA):TI:=fun σ H R=>ta σ H fun vs H1=>∃ i j:Int,vs=[.int i,.int j]/\(-(2 ^ 62)<=i/\i < 2 ^ 62/\-(2 ^ 62)<=j/\j < 2 ^ 62)/\R (DQ i (j - i).toNat) H1
theorem v4{a:Expr}{ta:TA}{p pos:Pos}(hg:Gl X "range")(hm:X.mg "range"=none)(ha:PA X [a] ta)(hs:starEach [a] X.env=[(false,eval a X.env)]:=by rfl):PI X tg (.Call (.Name "range" p) [a] [] pos) (De ta):=by
 intro pins s σ H R I h;refine Call_ (gI I hg hm boot_range (PyProof.Rows.callWith_type1 (bZ (ha pos pins s σ H _ I h) fun us s1 ⟨vs,H1,I1,r1,q1⟩=>?_) hs rfl));obtain⟨j,e,q1,q2,q⟩:=q1;subst e;cases r1 with
 | cons r rr=>
  cases rr;obtain⟨t,rfl⟩:=r;exact call_range_1 (sy I1 (by walk_at "o") (by walk_at "o") q1 q2 (by simpa using q))
theorem v3{a b:Expr}{ta:TA}{p pos:Pos}(hg:Gl X "range")(hm:X.mg "range"=none)(ha:PA X [a,b] ta)(hs:starEach [a,b] X.env=[(false,eval a X.env),(false,eval b X.env)]:=by rfl)(hs2:starEach [b] X.env=[(false,eval b X.env)]:=by rfl):
  PI X tg (.Call (.Name "range" p) [a,b] [] pos) (Dc ta):=by
 intro pins s σ H R I h;refine Call_ (gI I hg hm boot_range (PyProof.Rows.callWith_type1 (bZ (ha pos pins s σ H _ I h) fun us s1 ⟨vs,H1,I1,r1,q1⟩=>?_) (by rw[hs,hs2]) (by rw[hs2];rfl)))
 obtain⟨i,j,e,⟨q1,q2,q3,q4⟩,q⟩:=q1;subst e;cases r1 with
 | cons r rr=>
  cases rr with
  | cons r' rr=>
   cases rr;obtain⟨t,rfl⟩:=r;obtain⟨t',rfl⟩:=r';exact call_range_2 (sy I1 q1 q2 q3 q4 q)
def Ea(wi:TI)(g:TG)(tb:TS):TS:=fun D σ H=>wi σ H fun J H1=>∃ W:Nat->Nat->St->Hp->Prop,(∃ m,W 0 m σ H1)/\∀ i m σ H,W i m σ H->
 (J.stop i H/\D.nx σ H)\/(J.go i H/\∃ N:St->Hp->Prop,(∀ σ' H',N σ' H'->∃ m',m' < m/\W (i+1) m' σ' H')/\∀ x H',J.yld i H x H'->g x σ H' fun σ2 H2=>tb { D with nx:=N,ct:=N,bk:=D.nx } σ2 H2)
def ko(fp:List Addr)(h:Heap):List (Addr×Obj):=fp.filterMap fun b=>(h.get? b).map fun o=>(b,o)
theorem gq{fp:List Addr}{h:Heap}{b:Addr}{o:Obj}(hb:b∈fp)(e:h.get? b=some o):(b,o)∈ko fp h:=List.mem_filterMap.mpr ⟨b,hb,by rw[e];rfl⟩
theorem wf{fp:List Addr}{h:Heap}{p:Addr×Obj}(hp:p∈ko fp h):p.1∈fp/\h.get? p.1=some p.2:=by
 obtain⟨b,hb,e⟩:=List.mem_filterMap.mp hp;cases q:h.get? b with
 | none=>rw[q]at e;cases e
 | some o=>
  rw[q]at e;have e':(b,o)=p:=Option.some.inj e;subst e';exact⟨hb,q⟩
theorem Inv.pinned{pins:List (Addr×Obj)}{σ:St}{H:Hp}{s:Shared}{fp:List Addr}(I:Inv X pins σ H s)(hf:∀ b∈fp,k_ X pins H b)(ho:∀ b∈fp,∃ o,s.heap.get? b=some o/\∀ v,o.data≠.cell v):Inv X (pins ++ ko fp s.heap) σ H s:=
 I.pins_of fun p hp=>(mem_append.mp hp).elim (fun z=>I.pin p (mem_append_right _ z)) fun z=>by
  obtain⟨hb,e⟩:=wf z;obtain⟨f0,f1,f2,_⟩:=hf p.1 hb;obtain⟨o,e',d⟩:=ho p.1 hb;rw[e]at e';cases e';exact⟨e,f0,f1,f2,d⟩
theorem Inv.unpinned{pins pl:List (Addr×Obj)}{σ:St}{H:Hp}{s:Shared}(I:Inv X (pins ++ pl) σ H s):Inv X pins σ H s:=I.pins_of fun p hp=>I.pin p (mem_append_right _ (List.mem_append_left _ hp))
theorem Bi{iter:Expr}{body:List Stmt}{wi:TI}{g:TG}{tb:TS}{pos:Pos}(hp:PassesOwn (model X.prog X.w) X.A X.env X.xe)(hc:X.calm=true)(hi:PI X tg iter wi)(hg:PG X tg g)(hb:kZ X body tb)
  (hs:∀ x,foldedSetIterable iter X.env x=pure x:=by intro _;rfl):PS X (.For tg iter body [] pos) (Ea wi g tb):=by
 intro pins s σ H D I h;refine wpAny_For (bZ (hi pins s σ H _ I h) fun v s1 h1=>bZ h1 fun itv s2 h2=>?_) hs;obtain⟨it,fp,tn,J,H2,e,I2,T,st2,f2,W,⟨m0,w0⟩,turn⟩:=h2;subst e;have stat:∀ {H':Hp},(∀ b∈fp,H' b=none)->∀ b∈fp,k_ X pins H' b:=fun hn b hb=>⟨hn b hb,(f2 b hb).2⟩;refine codeAny_forLoop_any (fun n s'=>∃ i σ' H',Inv X pins σ' H' s'/\tn i s'.heap/\(∀ b∈fp,H' b=none)/\W i n σ' H') ?_ m0 ⟨0,σ,H2,I2,st2,fun b hb=>(f2 b hb).1,w0⟩
 rintro n s3 ⟨i,σ3,H3,I3,st3,fr3,w3⟩
 rcases turn i n σ3 H3 w3 with ⟨stop,qn⟩|⟨go,N,hN,step⟩
 ·refine wpAny_passesOwn hp (bZ (T.done X rfl rfl rfl hc i pins s3 σ3 H3 X.xe I3 (stat fr3) st3 stop) fun r s4 zz=>?_);obtain⟨hr,I4⟩:=zz;subst hr;exact wpAny_execs_nil ⟨σ3,H3,I4,qn⟩
 ·refine wpAny_passesOwn hp (bZ (T.item X rfl rfl rfl hc i pins s3 σ3 H3 X.xe I3 (stat fr3) st3 go) fun r s4 zz=>?_);obtain⟨u,hr,h4⟩:=zz;subst hr;refine wpAny_passesOwn hp (bZ h4 fun _ s5 zz=>?_);obtain⟨x,H5,I5,r5,y5,st5,fr5⟩:=zz;have I5':=I5.pinned (stat fr5) (T.obj _ _ st5);refine wpAny_passesOwn hp (bZ (hg _ s5 σ3 H5 x u _ I5' r5 (step x H5 y5)) fun _ s6 zz=>?_);obtain⟨σ6,H6,I6,q6⟩:=zz;refine wpAny_passesOwn hp (bZ (hb _ s6 σ6 H6 _ I6 q6) fun f s7 q7=>?_);have again:∀ {σ7:St} {H7:Hp},Inv X (pins ++ ko fp s5.heap) σ7 H7 s7->N σ7 H7->∃ m,m < n/\∃ i σ' H',Inv X pins σ' H' s7/\tn i s7.heap/\(∀ b∈fp,H' b=none)/\W i m σ' H':=fun {σ7 H7} I7 n7=>by
   obtain⟨m',hm,w7⟩:=hN σ7 H7 n7;refine⟨m',hm,i+1,σ7,H7,I7.unpinned,T.keep _ _ _ st5 fun b hb o e=>(I7.pin (b,o) (mem_append_right _ (mem_append_right _ (gq hb e)))).1,fun b hb=>?_,w7⟩;obtain⟨o,e,d⟩:=T.obj _ _ st5 b hb;exact (I7.pin (b,o) (mem_append_right _ (mem_append_right _ (gq hb e)))).2.1
  cases f with
  | next=>obtain⟨σ7,H7,I7,n7⟩:=q7;exact again I7 n7
  | cont=>obtain⟨σ7,H7,I7,n7⟩:=q7;exact again I7 n7
  | brk=>obtain⟨σ7,H7,I7,q7⟩:=q7;exact⟨σ7,H7,I7.unpinned,q7⟩
  | ret v=>obtain⟨x7,σ7,H7,I7,r7,q7⟩:=q7;exact⟨x7,σ7,H7,I7.unpinned,r7,q7⟩
end
abbrev R2:=V->V->Hp->VK->Prop
def g_(X:Cx)(f:Value->Value->Sem Value)(r:R2):Prop:=
 ∀ (pins:List (Addr×Obj)) (s:Shared) (σ:St) (H:Hp) (x y:V) (v u:Value) (Q:VK),Inv X pins σ H s->aD x v->aD y u->r x y H Q->
  wpAny (model X.prog X.w) X.A (f v u) (EP X pins σ Q) X.xe s
def EH(X:Cx)(f:Value->Sem Value)(r:V->Hp->VK->Prop):Prop:=
 ∀ (pins:List (Addr×Obj)) (s:Shared) (σ:St) (H:Hp) (x:V) (v:Value) (Q:VK),Inv X pins σ H s->aD x v->r x H Q->
  wpAny (model X.prog X.w) X.A (f v) (EP X pins σ Q) X.xe s
def eE(X:Cx)(f:Value)(r:List V->Hp->VK->Prop):Prop:=
 ∀ (pins:List (Addr×Obj)) (s:Shared) (σ:St) (H:Hp) (xs:List V) (us:List Value) (Q:VK),Inv X pins σ H s->Vals xs us->r xs H Q->
  wpAny (model X.prog X.w) X.A (call f us) (EP X pins σ Q) X.xe s
def EI(X:Cx)(r:V->Hp->(Bool->Hp->Prop)->Prop):Prop:=
 ∀ (pins:List (Addr×Obj)) (s:Shared) (σ:St) (H:Hp) (x:V) (v:Value) (Q:Bool->Hp->Prop),Inv X pins σ H s->aD x v->r x H Q->
  wpAny (model X.prog X.w) X.A (truthy v) (TP X pins σ Q) X.xe s
def Cw(r:R2)(ta tb:TE):TE:=fun σ H Q=>ta σ H fun x H1=>tb σ H1 fun y H2=>r x y H2 Q
def EU(r:V->Hp->VK->Prop)(ta:TE):TE:=fun σ H Q=>ta σ H fun x H1=>r x H1 Q
def rI(C:Int->Int->Prop)(g:Int->Int->V):R2:=fun x y H Q=>∃ i j,x=.int i/\y=.int j/\C i j/\Q (g i j) H
def Bc(g:Int->Int->V):R2:=fun x y H Q=>∃ i j,x=.int i/\y=.int j/\Q (g i j) H
def rU(g:Int->V):V->Hp->VK->Prop:=fun x H Q=>∃ i,x=.int i/\Q (g i) H
section
variable{X:Cx}{a b c:Expr}{ta tb tc:TE}{pos:Pos}
theorem Dq(ha:PE X a ta)(hb:PE X b tb){pins:List (Addr×Obj)}{s:Shared}{σ:St}{H:Hp}{R:V->V->Hp->Prop}(I:Inv X pins σ H s)
  (h:ta σ H fun x H1=>tb σ H1 fun y H2=>R x y H2) {Q:Value->Shared->Prop} {f:Value->Value->Sem Value}
  (hf:∀ v u s2 x y H2,Inv X pins σ H2 s2->aD x v->aD y u->R x y H2->wpAny (model X.prog X.w) X.A (f v u) Q X.xe s2):
  wpAny (model X.prog X.w) X.A (eval a X.env) (fun v s₁=>wpAny (model X.prog X.w) X.A (eval b X.env) (fun u s₂=>wpAny (model X.prog X.w) X.A (f v u) Q X.xe s₂) X.xe s₁) X.xe s:=by
 refine bZ (ha pins s σ H _ I h) fun v s1 zz=>?_;obtain⟨x,H1,I1,r1,q1⟩:=zz;refine bZ (hb pins s1 σ H1 _ I1 q1) fun u s2 zz=>?_;obtain⟨y,H2,I2,r2,q2⟩:=zz;exact hf v u s2 x y H2 I2 r1 r2 q2
theorem CU{op:Operator}{r:R2}(ho:g_ X (binaryOp op) r)(ha:PE X a ta)(hb:PE X b tb):PE X (.BinOp a op b pos) (Cw r ta tb):=by
 intro pins s σ H Q I h;exact wpAny_BinOp (Dq ha hb I h fun v u s2 x y H2 I2 rx ry q=>ho pins s2 σ H2 x y v u Q I2 rx ry q)
theorem CT{op:UnaryOp}{r:V->Hp->VK->Prop}(ho:EH X (unaryOp op) r)(ha:PE X a ta):PE X (.UnaryOp op a pos) (EU r ta):=by
 intro pins s σ H Q I h;exact UnaryOp_ (bZ (ha pins s σ H _ I h) fun v s1 ⟨x,H1,I1,r1,q1⟩=>ho pins s1 σ H1 x v Q I1 r1 q1)
theorem Ek{f:Value->Value->Sem Value}{C:Int->Int->Prop}{g:Int->Int->Int}
  (rule:∀ (i j:Int) (t u:Tok) (s:Shared) (Q:Value->Shared->Prop) (E:Value->Shared->Prop),C i j->Q (.int (g i j) s.toks) { s with toks:=s.toks+1 }->wpAny (model X.prog X.w) X.A (f (.int i t) (.int j u)) Q E s):
  g_ X f (rI C fun i j=>.int (g i j)):=by
 intro pins s σ H x y v u Q I rx ry h;obtain⟨i,j,rfl,rfl,hc,q⟩:=h;obtain⟨t,rfl⟩:=rx;obtain⟨t',rfl⟩:=ry;exact rule i j t t' s _ _ hc ⟨.int (g i j),H,I.tok _,⟨_,rfl⟩,q⟩
theorem C7{f:Value->Value->Sem Value}{g:Int->Int->Int}
  (rule:∀ (i j:Int) (t u:Tok) (s:Shared) (Q:Value->Shared->Prop) (E:Value->Shared->Prop),Q (.int (g i j) s.toks) { s with toks:=s.toks+1 }->wpAny (model X.prog X.w) X.A (f (.int i t) (.int j u)) Q E s):
  g_ X f (Bc fun i j=>.int (g i j)):=by
 intro pins s σ H x y v u Q I rx ry h;obtain⟨i,j,rfl,rfl,q⟩:=h;obtain⟨t,rfl⟩:=rx;obtain⟨t',rfl⟩:=ry;exact rule i j t t' s _ _ ⟨.int (g i j),H,I.tok _,⟨_,rfl⟩,q⟩
theorem C8{f:Value->Value->Sem Value}{g:Int->Int->Bool}
  (rule:∀ (i j:Int) (t u:Tok) (s:Shared) (Q:Value->Shared->Prop) (E:Value->Shared->Prop),Q (.bool (g i j)) s->wpAny (model X.prog X.w) X.A (f (.int i t) (.int j u)) Q E s):
  g_ X f (Bc fun i j=>.bl (g i j)):=by
 intro pins s σ H x y v u Q I rx ry h;obtain⟨i,j,rfl,rfl,q⟩:=h;obtain⟨t,rfl⟩:=rx;obtain⟨t',rfl⟩:=ry;exact rule i j t t' s _ _ ⟨.bl (g i j),H,I,rfl,q⟩
def DS(i j:Int):Prop:=0 < j/\j < 1073741824
def EN(i j:Int):Prop:=0<=j/\j<=1000000/\i.natAbs < 2 ^ 64
def yO(i j:Int):Prop:=(-(2 ^ 64) < i/\i < 2 ^ 64)\/(-(2 ^ 64) < j/\j < 2 ^ 64)
theorem yO.ok{i j:Int}(h:yO i j):IntMulOk i j:=by
 rcases h with ⟨h1,h2⟩|⟨h1,h2⟩
 ·exact .of_left (intBits_le_64 h1 h2)
 ·exact .of_right (intBits_le_64 h1 h2)
theorem BC:g_ X (binaryOp .Add) (Bc fun i j=>.int (i+j)):=C7 fun _ _ _ _ _ _ _ q=>add_int q
theorem Bz:g_ X (binaryOp .Sub) (Bc fun i j=>.int (i - j)):=C7 fun _ _ _ _ _ _ _ q=>sub_int q
theorem BA:g_ X (binaryOp .Mult) (rI yO fun i j=>.int (i*j)):=Ek fun _ _ _ _ _ _ _ hc q=>mul_int q hc.ok
theorem zF:g_ X (binaryOp .FloorDiv) (rI DS fun i j=>.int (i / j)):=Ek fun i j _ _ _ _ _ hc q=>by
 have h1:(0:Int) < j:=hc.1;have h2:j < 1073741824:=hc.2;exact floordiv_int (by walk_at "o") (by rw[Int.fdiv_eq_ediv_of_nonneg i (by walk_at "o")];exact q) (.inl (PyProof.noPylong_small (by walk_at "o")))
theorem BB:g_ X (binaryOp .Mod) (rI (fun _ j=>0 < j) fun i j=>.int (i % j)):=Ek fun i j _ _ _ _ _ hc q=>by
 have h1:(0:Int) < j:=hc;exact mod_int' (by walk_at "o") (by rw[Int.fmod_eq_emod_of_nonneg i (by walk_at "o")];exact q)
theorem ET{f:Value->Sem Value}{g:Int->Int}
  (rule:∀ (i:Int) (t:Tok) (s:Shared) (Q:Value->Shared->Prop) (E:Value->Shared->Prop),Q (.int (g i) s.toks) { s with toks:=s.toks+1 }->wpAny (model X.prog X.w) X.A (f (.int i t)) Q E s):
  EH X f (rU fun i=>.int (g i)):=by
 intro pins s σ H x v Q I rx h;obtain⟨i,rfl,q⟩:=h;obtain⟨t,rfl⟩:=rx;exact rule i t s _ _ ⟨.int (g i),H,I.tok _,⟨_,rfl⟩,q⟩
theorem AZ:EH X (unaryOp .USub) (rU fun i=>.int (-i)):=ET fun _ _ _ _ _ q=>neg_int q
theorem C5:g_ X (compareOp .Lt) (Bc fun i j=>.bl (decide (i < j))):=C8 fun _ _ _ _ _ _ _ q=>lt_int q
theorem C6:g_ X (compareOp .Gt) (Bc fun i j=>.bl (decide (j < i))):=C8 fun _ _ _ _ _ _ _ q=>gt_int q
theorem g_.or{f:Value->Value->Sem Value}{r r':R2}(h:g_ X f r)(h':g_ X f r'):g_ X f (fun x y H Q=>r x y H Q\/r' x y H Q):=by
 intro pins s σ H x y v u Q I rx ry q;rcases q with q|q
 ·exact h pins s σ H x y v u Q I rx ry q
 ·exact h' pins s σ H x y v u Q I rx ry q
theorem d7(b:Expr){op:CmpOp}(h:op≠.In:=by decide)(h2:op≠.NotIn:=by decide):behindInMarks op b=false:=by
 have e1:(op == CmpOp.In)=false:=by cases op<;>first|rfl|exact absurd rfl h
 have e2:(op == CmpOp.NotIn)=false:=by cases op<;>first|rfl|exact absurd rfl h2
 cases b<;>simp[behindInMarks,e1,e2]
def Av(t:TE):TT:=fun σ H Q=>t σ H fun x H'=>∃ k,x=.bl k/\Q k H'
theorem vh{op:CmpOp}{r:R2}(ho:g_ X (compareOp op) r)(ha:PE X a ta)(hb:PE X b tb)(hm:behindInMarks op b=false):PT X (.Compare a [op] [b] pos) (Av (Cw r ta tb)):=by
 intro pins s σ H Q I h;refine wpAny_isTrue_Compare1 (bZ (ha pins s σ H _ I h) fun v s1 zz=>?_) hm;obtain⟨x,H1,I1,r1,q1⟩:=zz;refine bZ (hb pins s1 σ H1 _ I1 q1) fun u s2 zz=>?_;obtain⟨y,H2,I2,r2,q2⟩:=zz;refine bZ (ho pins s2 σ H2 x y v u _ I2 r1 r2 q2) fun c s3 zz=>?_;obtain⟨z,H3,I3,r3,k,e,q3⟩:=zz;subst e;cases r3;exact wpAny_truthy_bool ⟨H3,I3,q3⟩
def DM(K:Frag)(x:V)(H:Hp)(k:Bool):Prop:=
 match x with
 | .non=>k=false
 | .bl b=>k=b
 | .int i=>k=(i != 0)
 | .str y=>y.length<=sizeLine/\k=((y.length:Int) != 0)
 | .byt y=>y.size<=sizeLine/\k=((y.size:Int) != 0)
 | .ref p=>(∃ xs,i0 K H p xs/\k=!xs.isEmpty)\/(∃ xs,hJ K H p xs/\k=!xs.isEmpty)\/∃ kvs,H p=some (.dK kvs)/\k=!kvs.isEmpty
 | _=>False
theorem uP{κ:Type}{kvs:List (κ×V)}{vs:List (κ×Value)}(r:KV kvs vs):(!vs.isEmpty)=!kvs.isEmpty:=by
 cases r<;>rfl
theorem nk{xs:List V}{its:List Value}(r:Vals xs its):(!its.toArray.isEmpty)=!xs.isEmpty:=by
 cases r<;>simp
theorem iH:(sizeLine:Nat) < 2 ^ 63:=by rw[sizeLine_eq];decide
theorem A1:EI X (fun x H Q=>∃ k,DM X.K x H k/\Q k H):=by
 intro pins s σ H x v Q I rx h;obtain⟨k,e,q⟩:=h;have hl:=iH;have hs:sizeLine=16777216:=sizeLine_eq;cases x with
 | non=>
  cases rx;have e':k=false:=e;subst e';exact truthy_none ⟨H,I,q⟩
 | bl b=>
  cases rx;have e':k=b:=e;subst e';exact wpAny_truthy_bool ⟨H,I,q⟩
 | int i=>
  obtain⟨t,rfl⟩:=rx;have e':k=(i != 0):=e;subst e';exact PySem.P.truthy_int ⟨H,I,q⟩
 | str y=>
  obtain⟨t,rfl⟩:=rx;obtain⟨hy,e'⟩:y.length<=sizeLine/\k=((y.length:Int) != 0):=e;subst e';exact PySem.P.truthy_str (by walk_at "o") ⟨H,I.tok _,q⟩
 | byt y=>
  obtain⟨t,rfl⟩:=rx;obtain⟨hy,e'⟩:y.size<=sizeLine/\k=((y.size:Int) != 0):=e;subst e';exact PySem.W.truthy_bytes (by walk_at "o") ⟨H,I.tok _,q⟩
 | ref p=>
  cases rx;have e':(∃ xs,i0 X.K H p xs/\k=!xs.isEmpty)\/(∃ xs,hJ X.K H p xs/\k=!xs.isEmpty)\/∃ kvs,H p=some (.dK kvs)/\k=!kvs.isEmpty:=e;rcases e' with ⟨xs,hx,e'⟩|⟨xs,hx,e'⟩|⟨kvs,hx,e'⟩
  ·subst e';obtain⟨its,r,pl,hz⟩:=I.list hx;have hlen:=r.length;exact wpAny_truthy_list pl.isList (by simp only[size_toArray];omega) ⟨H,I.tok _,by rw[nk r];exact q⟩
  ·subst e';obtain⟨its,r,pl,hz⟩:=I.tuple hx;have hlen:=r.length;exact truthy_tuple pl (by simp only[size_toArray];omega) ⟨H,I.tok _,by rw[nk r];exact q⟩
  ·subst e';obtain⟨hz,hS,vs,r,m⟩:kvs.length<=sizeLine/\(p == sysModules)=false/\∃ vs,KV kvs vs/\s.heap.DictOf (bf X.prog X.w) p vs:=I.hok p _ hx;have hlen:kvs.length=vs.length:=Paired.length r;exact wpAny_truthy_dict hS m (by walk_at "o") ⟨H,I.tok _,by rw[uP r];exact q⟩
 | _=>exact (show False from e).elim
theorem xD(ha:PE X a ta)(he:∀ whole,isTrue a X.env whole=(do let v <- whole;standAt a.pos;holding [v] (truthy v))):
  PT X a (fun σ H Q=>ta σ H fun x H'=>∃ k,DM X.K x H' k/\Q k H'):=by
 intro pins s σ H Q I h;exact isTrue_plain (bZ (ha pins s σ H _ I h) fun v s1 ⟨x,H1,I1,r1,q1⟩=>A1 pins s1 σ H1 x v Q I1 r1 q1) (he _)
theorem uC:g_ X (binaryOp .Add) (fun x y H Q=>∃ i j,x=.str i/\y=.str j/\i.length+j.length<=sizeLine/\Q (.str (i ++ j)) H):=by
 intro pins s σ H x y v u Q I rx ry h;obtain⟨i,j,rfl,rfl,hz,q⟩:=h;obtain⟨t,rfl⟩:=rx;obtain⟨t',rfl⟩:=ry;exact add_str (fun t' tk=>⟨.str (i ++ j),H,I.tok _,⟨_,rfl⟩,q⟩) hz
theorem o6{x:V}{us:List Value}(r:Vals [x] us):∃ u,us=[u]/\aD x u:=by
 cases r with
 | cons r1 r2=>cases r2;exact⟨_,rfl,r1⟩
theorem Ct{x y:V}{us:List Value}(r:Vals [x,y] us):∃ u w',us=[u,w']/\aD x u/\aD y w':=by
 cases r with
 | cons r1 r2=>
  cases r2 with
  | cons r3 r4=>cases r4;exact⟨_,_,rfl,r1,r3⟩
end
structure ObjM(h:Heap)(x dx C:Addr)(mA:Str->Option Value):Prop where
 obj:h.get? x=some (instObj C dx)
 ns:h.Ns1 dx mA
 ne:dx≠x
theorem wn{h:Heap}{dx:Addr}{mA:Str->Option Value}(n:h.Ns1 dx mA):∃ od,h.get? dx=some od/\∀ name,lookIn name od=some (mA name):=by
 obtain⟨o,es,ep,ho,hd,hk,_,hm⟩:=n;refine⟨o,ho,fun name=>?_⟩;have e:=hm name;unfold nsFind findBy at e;rw[<- Array.find?_toList]at e;unfold lookIn;rw[hd];dsimp only;split
 ·rename_i y q;rw[q]at e;exact congrArg some e
 ·rename_i q;rw[q]at e;have a:es.toList.any (·.refKey)=false:=by
   rw[List.any_eq_false];intro y hy;obtain⟨z,t,hkey⟩:=hk y (Array.mem_toList_iff.mp hy);simp[DictEntry.refKey,hkey]
  have a':¬ es.toList.any (·.refKey)=true:=by rw[a];exact Bool.false_ne_true
  rw[if_neg a'];exact congrArg some e
theorem ObjM.look{h:Heap}{x dx C:Addr}{mA:Str->Option Value}(I:ObjM h x dx C mA):∃ od,PySem.W.InstAt h x (instObj C dx) C (some od)/\∀ name,lookIn name od=some (mA name):=
 let ⟨od,ho,hl⟩:=wn I.ns
 ⟨od,⟨I.obj,rfl,rfl,ho⟩,hl⟩
section
variable{prog:Program}{w:World}{A:Around}{E:Value->Shared->Prop}{s:Shared}{K:Frag}{x dx C f:Addr}{mA:Str->Option Value}{name:Str}{v:Value}
theorem Ab{expr:Bool}{Q:Value->Shared->Prop}(X:K.In s.heap)(I:ObjM s.heap x dx C mA)(hg:plainGet K C name=true)(hh:hasDictIn K C=true)
  (ha:findIn K (.ref C) name=some none) (hv:mA name=some v) (hv':PySem.W.handedIn v=true) (h:Q v { s with toks:=s.toks+1 }):
  wpAny (model prog w) A (getAttr (.ref x) name expr) Q E s:=by
 obtain⟨od,J,hl⟩:=I.look;exact PySem.W.get_value X J (plainGet_of hg).1 (PySem.W.findObj_own hh ha rfl (by rw[hl,hv])) hv' h
theorem yn{pl:Sem Bool}{Q:Value×List Value->Shared->Prop}(X:K.In s.heap)(I:ObjM s.heap x dx C mA)(hg:plainGet K C name=true)
  (hf:findIn K (.ref C) name=some (some (.ref f))) (ht:isFn K (.ref f)=true) (hv:mA name=none) (h:Q (.ref f,[.ref x]) s):
  wpAny (model prog w) A (getMethod (.ref x) name pl) Q E s:=by
 obtain⟨od,J,hl⟩:=I.look;exact PySem.W.method_fn X J (plainGet_of hg).1 (plainGet_of hg).2 hf (beq_iff_eq.mp ht) (by show (lookIn name od).map (·.isSome)=some false;rw[hl,hv];rfl) h
theorem y_{ns:List Str}{Q:Unit->Shared->Prop}(X:K.In s.heap)(I:ObjM s.heap x dx C mA)
  (hs:findIn K (.ref C) "__setattr__"=some (some (.builtin "object.__setattr__"))) (hp:plainOver K C=true) (ht:takerIn K C name=some none) (hh:hasDictIn K C=true)
  (hw:PySem.Within mA ns) (hsz:ns.length<=sizeLine)
  (h:∀ h',ObjM h' x dx C (fun y=>if y=name then some v else mA y)->Heap.SameBut dx s.heap h'->Q () { s with heap:=h',toks:=s.toks+2 }):
  wpAny (model prog w) A (setAttr (.ref x) name v) Q E s:=by
 obtain⟨od,J,hl⟩:=I.look;refine PySem.W.set_plain X J hs (PySem.W.osa_open (s:={ s with toks:=s.toks+1 }) (r:=none) X J hp ht fun b=>?_)
 obtain⟨cd,hc,hd'⟩:=PySem.W.any_some hh;have hx:s.heap.get? x=some ⟨.ref C,some dx,.plain,#[]⟩:=I.obj;refine wpAny_bind (wpAny_pure (wpAny_bind (wpAny_bind (wpAny_loadPart hx (wpAny_bind (PySem.W.Looks.here (s:={ s with toks:=s.toks+1 }) (PySem.W.looks_clsIn X hc) ?_))))))
 rw[hd'];refine wpAny_pure (a:=some dx) (wpAny_bind (wpAny_pure (wpAny_bind ?_)));refine wpAny_nsSet1 (s:={ s with toks:=s.toks+1 }) I.ns fun h' hn2 hs2=>?_
 obtain⟨oD,esD,epD,hoD,hdD,hcD⟩:=hn2.count (PySem.Within.cons name v hw);refine wpAny_bind (wpAny_lookBehind hoD (by rw[hdD];exact pastItsLine_dict (le_trans hcD (by rw[length_cons];omega))) ?_)
 exact wpAny_pure (h _ ⟨(hs2.2 _ (Ne.symm I.ne)).trans I.obj,hn2,I.ne⟩ hs2)
theorem xX{R:Result->Shared->Prop}{vs:List Value}{kw:List (Str×Value)}(X:K.In s.heap)(hm:makesIn K C=true)
  (hi:findIn K (.ref C) "__init__"=some (some (.ref f))) (hf:PySem.W.typeIn K (.ref f)=some (.type "function"))
  (h:codeAny (model prog w) (A.under (.builtin "type.__call__" ⟨.ref C::vs,kw⟩)) (.call (.ref f) ⟨.ref (s.heap.objs.size+1)::vs,kw⟩) (PySem.W.InitBack (s.heap.objs.size+1) R)
   { s with heap:=(s.heap.push emptyDict).push (instObj C s.heap.objs.size) }):
  codeAny (model prog w) A (.call (.ref C) ⟨vs,kw⟩) R s:=by
 obtain⟨hh,g,d,t,os⟩:=s;exact PySem.W.make_core (PySem.W.makes_of X hm) (PySem.W.looks_findIn X hi) (fun self=>PySem.W.bind_fn X self hf) (.inl rfl) h
end
def gl(f:Str)(v:V):List (Str×V)->List (Str×V)
 | []=>[(f,v)]
 | (g,x)::r=>if g=f then (g,v)::r else (g,x)::gl f v r
theorem lh(f g:Str)(v:V):∀ fs:List (Str×V),(gl f v fs).lookup g=if g=f then some v else fs.lookup g
 | []=>by
  show List.lookup g [(f,v)]=_
  by_cases h:g=f
  ·have hb:(g == f)=true:=beq_iff_eq.mpr h;simp only[List.lookup,hb,if_pos h]
  ·have hb:(g == f)=false:=beq_eq_false_iff_ne.mpr h;simp only[List.lookup,hb,if_neg h]
 | (k,x)::r=>by
  have ih:=lh f g v r;rw[show gl f v ((k,x)::r)=(if k=f then (k,v)::r else (k,x)::gl f v r)from rfl]
  by_cases hk:k=f
  ·rw[if_pos hk]
   by_cases h:g=k
   ·have hb:(g == k)=true:=beq_iff_eq.mpr h;simp only[List.lookup,hb,if_pos (h.trans hk)]
   ·have hb:(g == k)=false:=beq_eq_false_iff_ne.mpr h;simp only[List.lookup,hb,if_neg (fun e:g=f=>h (e.trans hk.symm))]
  ·rw[if_neg hk]
   by_cases h:g=k
   ·have hb:(g == k)=true:=beq_iff_eq.mpr h;simp only[List.lookup,hb,if_neg (fun e:g=f=>hk (h.symm.trans e))]
   ·have hb:(g == k)=false:=beq_eq_false_iff_ne.mpr h;simp only[List.lookup,hb];exact ih
theorem kK(f:Str)(v:V):∀ fs:List (Str×V),f∈(gl f v fs).map (·.1)/\∀ g,g∈fs.map (·.1)->g∈(gl f v fs).map (·.1)
 | []=>⟨by simp[gl],fun g h=>by simp at h⟩
 | (k,x)::r=>by
  obtain⟨i1,i2⟩:=kK f v r;rw[show gl f v ((k,x)::r)=(if k=f then (k,v)::r else (k,x)::gl f v r)from rfl]
  by_cases hk:k=f
  ·rw[if_pos hk];subst hk;exact⟨by simp,fun g h=>by simpa using h⟩
  ·rw[if_neg hk];refine⟨?_,fun g h=>?_⟩
   ·rw[map_cons];exact mem_cons_of_mem _ i1
   ·rw[map_cons]at h ⊢;rcases mem_cons.mp h with e|e
    ·exact mem_cons.mpr (.inl e)
    ·exact mem_cons_of_mem _ (i2 g e)
theorem lE(f:Str)(v:V):∀ fs:List (Str×V),(gl f v fs).length<=fs.length+1
 | []=>by simp[gl]
 | (k,x)::r=>by
  have ih:=lE f v r;rw[show gl f v ((k,x)::r)=(if k=f then (k,v)::r else (k,x)::gl f v r)from rfl]
  by_cases hk:k=f
  ·rw[if_pos hk,length_cons,length_cons];omega
  ·rw[if_neg hk,length_cons,length_cons];omega
theorem iz.some_of{v:V}{o:Option Value}(r:iz (some v) o):∃ u,o=some u/\aD v u:=by
 cases o with
 | none=>exact (show False from r).elim
 | some u=>exact⟨u,rfl,r⟩
theorem iz.none_of{o:Option Value}(r:iz none o):o=none:=by
 cases o with
 | none=>rfl
 | some u=>exact (show False from r).elim
theorem wD{v:V}{u:Value}(r:aD v u):PySem.W.handedIn u=true:=by
 cases v with
 | non=>cases (show u=Value.none from r);rfl
 | bl b=>cases (show u=Value.bool b from r);rfl
 | int i=>obtain⟨t,e⟩:=(show ∃ t,u=Value.int i t from r);cases e;rfl
 | str x=>obtain⟨t,e⟩:=(show ∃ t,u=Value.str x t from r);cases e;rfl
 | byt b=>obtain⟨t,e⟩:=(show ∃ t,u=Value.bytes b t from r);cases e;rfl
 | flt b=>obtain⟨t,e⟩:=(show ∃ t,u=Value.float b t from r);cases e;rfl
 | ref a=>cases (show u=Value.ref a from r);rfl
 | ty n=>cases (show u=Value.type n from r);rfl
section
variable{P:Program}{w:World}{H H':Hp}{h h':Heap}{a C dx:Addr}{fs fs':List (Str×V)}
theorem mn(hok:i3 P w H h)(e:H a=some (.ins C dx fs)):∃ mA,ObjM h a dx C mA/\(∀ f,iz (fs.lookup f) (mA f))/\PySem.Within mA (fs.map (·.1))/\fs.length<=1000/\H dx=some (.own a):=by
 obtain⟨d,z,ne,ob,mA,n,r,q⟩:=(show bK P w H h a (.ins C dx fs)from hok a _ e)
 exact⟨mA,⟨ob,n,ne⟩,r,q,z,d⟩
end
structure Cls(K:Frag)(C:Addr):Prop where
 pg:plainGet K C Str.empty=true
 hd:hasDictIn K C=true
 po:plainOver K C=true
 sa:findIn K (.ref C) "__setattr__"=some (some (.builtin "object.__setattr__"))
theorem Cls.get{K:Frag}{C:Addr}(c:Cls K C)(f:Str):plainGet K C f=true:=c.pg
def eW(K:Frag)(C:Addr)(f:Str):Prop:=findIn K (.ref C) f=some none
theorem eW.taker{K:Frag}{C:Addr}{f:Str}(n:eW K C f):takerIn K C f=some none:=by
 unfold takerIn;rw[show findIn K (.ref C) f=some none from n]
 rfl
structure Con(K:Frag)(C:Addr)(f:Str)(v:V)(u:Value):Prop where
 at_:findIn K (.ref C) f=some (some u)
 rel:aD v u
 get:specialIn K u "__get__"=some none
 cp:PySem.W.copiedNames.contains f=false
structure Meth(K:Frag)(C:Addr)(m:Str)(f:Addr):Prop where
 at_:findIn K (.ref C) m=some (some (.ref f))
 fn:isFn K (.ref f)=true
 kp:keepIn K (.ref f)=true
section
variable{X:Cx}{pins:List (Addr×Obj)}{σ:St}{H:Hp}{s:Shared}{a C dx:Addr}{fs:List (Str×V)}{f:Str}{v:V}{A:Around}{E:Value->Shared->Prop}
theorem uT{b:Bool}{Q:Value->Shared->Prop}(I:Inv X pins σ H s)(e:H a=some (.ins C dx fs))(c:Cls X.K C)(n:eW X.K C f)(l:fs.lookup f=some v)
  (h:∀ u s',Inv X pins σ H s'->aD v u->Q u s'):wpAny (model X.prog X.w) A (getAttr (.ref a) f b) Q E s:=by
 obtain⟨mA,O,r,_,_,_⟩:=mn I.hok e;obtain⟨u,hu,ru⟩:=iz.some_of (v:=v) (o:=mA f) (by rw[<- l];exact r f)
 exact Ab I.kIn O (c.get f) c.hd n hu (wD ru) (h u _ (I.tok _) ru)
theorem uS{m:Str}{g:Addr}{pl:Sem Bool}{Q:Value×List Value->Shared->Prop}(I:Inv X pins σ H s)(e:H a=some (.ins C dx fs))(c:Cls X.K C)(k:Meth X.K C m g)(l:fs.lookup m=none)
  (h:Q (.ref g,[.ref a]) s):wpAny (model X.prog X.w) A (getMethod (.ref a) m pl) Q E s:=by
 obtain⟨mA,O,r,_,_,_⟩:=mn I.hok e;have hn:mA m=none:=iz.none_of (by rw[<- l];exact r m)
 exact yn I.kIn O (c.get m) k.at_ k.fn hn h
theorem uc{y:V}{u:Value}{Q:Unit->Shared->Prop}(I:Inv X pins σ H s)(e:H a=some (.ins C dx fs))(c:Cls X.K C)(n:eW X.K C f)(hl:fs.length < 1000)(ry:aD y u)
  (h:∀ s',Inv X pins σ (bB H a (.ins C dx (gl f y fs))) s'->Q () s'):wpAny (model X.prog X.w) A (setAttr (.ref a) f u) Q E s:=by
 obtain⟨mA,O,r,wi,_,ho⟩:=mn I.hok e;have hz:(fs.map (·.1)).length<=sizeLine:=by rw[length_map,sizeLine_eq];omega
 refine y_ I.kIn O c.sa c.po n.taker c.hd wi hz fun h' O' sb=>h _ ?_;have hd:∃ o,h'.get? dx=some o:=let ⟨o,_,_,e',_⟩:=O'.ns;⟨o,e'⟩;refine I.write (x:=a) (e:=dx) (by rw[e];exact True.intro) (.inr ho) (fun b q hb z=>(sb.2 b hb).trans z) hd ?_
 refine⟨by rw[au O.ne];exact ho,?_,O.ne,O'.obj,_,O'.ns,fun g=>?_,fun g hg=>?_⟩
 ·have:=lE f y fs;omega
 ·show iz ((gl f y fs).lookup g) (if g=f then some u else mA g)
  rw[lh]
  by_cases q:g=f
  ·rw[if_pos q,if_pos q];exact ry
  ·rw[if_neg q,if_neg q];exact r g
 ·by_cases q:g=f
  ·rw[q];exact (kK f y fs).1
  ·refine (kK f y fs).2 g (wi g fun z=>hg ?_);show (if g=f then some u else mA g)=none
   rw[if_neg q];exact z
theorem Inv.made(I:Inv X pins σ H s):Inv X pins σ (bB (bB H s.heap.objs.size (.own (s.heap.objs.size+1))) (s.heap.objs.size+1) (.ins C s.heap.objs.size []))
  { s with heap:=(s.heap.push emptyDict).push (instObj C s.heap.objs.size) }:=by
 have e1:(s.heap.push emptyDict).get? s.heap.objs.size=some emptyDict:=Heap.get?_push_size s.heap rfl;have e2:((s.heap.push emptyDict).push (instObj C s.heap.objs.size)).get? (s.heap.objs.size+1)=some (instObj C s.heap.objs.size):=by
  have:=Heap.get?_push_size (s.heap.push emptyDict) (o:=instObj C s.heap.objs.size) rfl;rwa[Heap.size_push]at this
 have e3:(s.heap.push emptyDict).Ns s.heap.objs.size (fun _=>none):=⟨emptyDict,#[],_,e1,rfl,(fun e he=>absurd he (by simp)),fun _=>rfl⟩
 have I1:=I.laid (a:=s.heap.objs.size) (o:=.own (s.heap.objs.size+1)) (h':=s.heap.push emptyDict) (t':=s.toks) (fun b u q=>Heap.get?_push_of_some _ q) (le_refl _) ⟨_,e1⟩;refine I1.laid (a:=s.heap.objs.size+1) (o:=.ins C s.heap.objs.size []) (t':=s.toks) (fun b u q=>Heap.get?_push_of_some _ q) (Nat.le_of_eq (Heap.size_push _ _)) ?_;have ne:s.heap.objs.size≠s.heap.objs.size+1:=ne_of_lt (lt_succ_self _);refine⟨by rw[au ne,aT],zero_le _,ne,e2,fun _=>none,(Heap.Ns1.of_empty e3).at fun o q=>Heap.get?_push_of_some _ q,fun _=>True.intro,fun y hy=>absurd rfl hy⟩
theorem Ak{prog:Program}{w:World}{env:Env}{e:Expr}{f:Str}{pos:Pos}{s:Shared}{Q:Value->Shared->Prop}(hb:attributeBase e f env (eval e env)=eval e env)
  (h:wpAny (model prog w) A (eval e env) (fun o s₁=>wpAny (model prog w) A (getAttr o f true) Q E s₁) E s):wpAny (model prog w) A (eval (.Attribute e f pos) env) Q E s:=
 Attribute_any_ h (by rw[arm_eval_Attribute,hb])
end
def Eb(K:Frag)(ta:TE)(f:Str):TE:=fun σ H Q=>ta σ H fun x H1=>∃ a C dx fs v,x=.ref a/\H1 a=some (.ins C dx fs)/\Cls K C/\eW K C f/\fs.lookup f=some v/\Q v H1
def Ef(K:Frag)(ta tv:TE)(f:Str):TS:=fun D σ H=>tv σ H fun y H1=>ta σ H1 fun x H2=>∃ a C dx fs,x=.ref a/\H2 a=some (.ins C dx fs)/\Cls K C/\eW K C f/\fs.length < 1000/\
 D.nx σ (bB H2 a (.ins C dx (gl f y fs)))
section
variable{X:Cx}{o e value:Expr}{f:Str}{pos pos' tpos:Pos}{ta tv:TE}
theorem Bs(he:PE X e ta)(hb:attributeBase e f X.env (eval e X.env)=eval e X.env):PE X (.Attribute e f pos) (Eb X.K ta f):=by
 intro pins s σ H Q I h;refine Ak hb (bZ (he pins s σ H _ I h) fun u s1 zz=>?_);obtain⟨x,H1,I1,rx,a,C,dx,fs,v,ex,ea,c,n,l,q⟩:=zz;subst ex;obtain rfl:u=Value.ref a:=rx;exact uT I1 ea c n l fun u' s2 I2 ru=>⟨v,H1,I2,ru,q⟩
theorem Bj(ha:PE X o ta)(hv:PE X value tv)(hs:swapsWith value (some (.Attribute o f pos')) pos.line X.env=pure false):PS X (.Assign [.Attribute o f pos'] value pos) (Ef X.K ta tv f):=by
 intro pins s σ H D I h;refine plainObj_wpAny_Assign_Attribute (bZ (hv pins s σ H _ I h) fun u s1 zz=>?_) hs;obtain⟨y,H1,I1,ry,q⟩:=zz;refine bZ (ha pins s1 σ H1 _ I1 q) fun ov s2 zz=>?_;obtain⟨x,H2,I2,rx,a,C,dx,fs,ex,ea,c,n,l,q2⟩:=zz;subst ex;obtain rfl:ov=Value.ref a:=rx;exact uc I2 ea c n l ry fun s3 I3=>⟨σ,_,I3,q2⟩
end
section
variable{X:Cx}{pins:List (Addr×Obj)}{σ:St}{H:Hp}{s:Shared}{A:Around}{E:Value->Shared->Prop}{Q:Value->Shared->Prop}{c:Value}{b:Bool}
inductive TyOf(K:Frag)(H:Hp):V->Value->Prop where
 | non:TyOf K H .non (.type "NoneType")
 | bl (x:Bool):TyOf K H (.bl x) (.type "bool")
 | int (i:Int):TyOf K H (.int i) (.type "int")
 | str (x:Str):TyOf K H (.str x) (.type "str")
 | flt (x:UInt64):TyOf K H (.flt x) (.type "float")
 | lst {a:Addr} {xs:List V} (e:H a=some (.lst xs)):TyOf K H (.ref a) (.type "list")
 | frz {a:Addr} {o:Obj} {xs:List V} (e:H a=some (.frz o (.lst xs))):TyOf K H (.ref a) (.type "list")
 | tup {a:Addr} {xs:List V} (e:H a=some (.tup xs)):TyOf K H (.ref a) (.type "tuple")
 | dK {a:Addr} {kvs:List (aN×V)} (e:H a=some (.dK kvs)):TyOf K H (.ref a) (.type "dict")
 | dT {a:Addr} {kvs:List (List aN×V)} (e:H a=some (.dT kvs)):TyOf K H (.ref a) (.type "dict")
 | ins {a C dx:Addr} {fs:List (Str×V)} (e:H a=some (.ins C dx fs)) (cl:Cls K C) (ha:findIn K (.ref C) "__class__"=some (some (.builtin "object.__class__")))
   (hn:specialIn K (.builtin "object.__class__") "__get__"=some (some (.builtin "getset_descriptor.__get__"))) (htk:takesIn K (.builtin "object.__class__")=some true)
   (hm:mroIn K C (.type "object")=some true):TyOf K H (.ref a) (.ref C)
theorem wz{x:V}{u t:Value}(I:Inv X pins σ H s)(rx:aD x u)(ty:TyOf X.K H x t)(e:kitOne X.K t c=some b)(h:∀ tk,Q (.bool b) { s with toks:=tk }):
  wpAny (model X.prog X.w) A (call (.builtin "isinstance") [u,c]) Q E s:=by
 cases ty with
 | non=>cases (show u=Value.none from rx);exact kia_one PySem.W.kitx_none I.kIn True.intro e (fun z=>nomatch z) h
 | bl y=>cases (show u=Value.bool y from rx);exact kia_one PySem.W.kitx_bool I.kIn True.intro e (fun z=>nomatch z) h
 | int i=>obtain⟨t,q⟩:=(show ∃ t,u=Value.int i t from rx);cases q;exact kia_one PySem.W.kitx_int I.kIn True.intro e (fun z=>nomatch z) h
 | str y=>obtain⟨t,q⟩:=(show ∃ t,u=Value.str y t from rx);cases q;exact kia_one PySem.W.kitx_str I.kIn True.intro e (fun z=>nomatch z) h
 | flt y=>obtain⟨t,q⟩:=(show ∃ t,u=Value.float y t from rx);cases q;exact kia_one PySem.W.kitx_float I.kIn True.intro e (fun z=>nomatch z) h
 | @lst a xs ea=>
  cases (show u=Value.ref a from rx)
  obtain⟨_,_,n,_,h1⟩:=(show bK X.prog X.w H s.heap a (.lst xs)from I.hok a _ ea)
  exact kia_one PySem.W.kitx_list I.kIn ⟨_,h1,rfl⟩ e (fun z=>nomatch z) h
 | @frz a ob xs ea=>
  cases (show u=Value.ref a from rx)
  obtain⟨_,_,_,n,_,h1⟩:=(show bK X.prog X.w H s.heap a (.frz ob (.lst xs))from I.hok a _ ea)
  exact kia_one PySem.W.kitx_list I.kIn ⟨_,h1,rfl⟩ e (fun z=>nomatch z) h
 | @tup a xs ea=>
  cases (show u=Value.ref a from rx)
  obtain⟨_,_,_,p⟩:=(show bK X.prog X.w H s.heap a (.tup xs)from I.hok a _ ea)
  obtain⟨o,h1,h2,_⟩:=p;exact kia_one PySem.W.kitx_tuple I.kIn ⟨o,h1,h2.1⟩ e (fun z=>nomatch z) h
 | @dK a kvs ea=>
  cases (show u=Value.ref a from rx)
  obtain⟨_,_,vs,_,p⟩:=(show bK X.prog X.w H s.heap a (.dK kvs)from I.hok a _ ea)
  obtain⟨o,es,ep,h1,h2,_⟩:=p;exact kia_one PySem.W.kitx_dict I.kIn ⟨o,h1,h2.1⟩ e (fun z=>nomatch z) h
 | @dT a kvs ea=>
  cases (show u=Value.ref a from rx)
  obtain⟨_,_,xs,_,o,es,ep,h1,h2,_⟩:=(show bK X.prog X.w H s.heap a (.dT kvs)from I.hok a _ ea)
  exact kia_one PySem.W.kitx_dict I.kIn ⟨o,h1,h2.1⟩ e (fun z=>nomatch z) h
 | @ins a C dx fs ea cl ha hn htk hm=>
  cases (show u=Value.ref a from rx)
  obtain⟨mA,O,_⟩:=mn I.hok ea;obtain⟨od,J,_⟩:=O.look;exact kia_one (PySem.W.kitx_own (cl.get _) cl.hd ha hn htk hm) I.kIn J e (fun z=>nomatch z) h
end
structure Room(k:Nat)(A:Around):Prop where
 hd:A.handled=none
 dp:A.depth+3*k+5 < recursionLimit
 un:A.units+16*k+200 < cLine
theorem Room.mono{j k:Nat}{A:Around}(r:Room k A)(h:j<=k):Room j A:=⟨r.hd,by have:=r.dp;omega,by have:=r.un;omega⟩
theorem Room.deeper{k:Nat}{A:Around}(r:Room (k+1) A)(env:Env):Room k (A.deeper env):=
 ⟨r.hd,by have:=r.dp;show A.depth+1+3*k+5 < _;omega,by have:=r.un;show A.units+3+16*k+200 < _;omega⟩
theorem Room.in1{k:Nat}{A:Around}(r:Room (k+1) A):Room k A.in1:=
 ⟨r.hd,by have:=r.dp;show A.depth+3*k+5 < _;omega,by have:=r.un;show A.units+1+16*k+200 < _;omega⟩
theorem uJ{A:Around}{C:Addr}{us:List Value}{kw:List (Str×Value)}:(A.under (.builtin "type.__call__" ⟨.ref C::us,kw⟩)).depth=A.depth+1:=by
 first|rfl|simp[Around.under,Code.weight,Code.isCreation,Code.isGuard,Code.isCaller,Code.frames,Code.isFrame,guardIds]
theorem uI{A:Around}{C:Addr}{us:List Value}{kw:List (Str×Value)}:(A.under (.builtin "type.__call__" ⟨.ref C::us,kw⟩)).units=A.units+1:=by
 first|rfl|simp[Around.under,Code.cUnits,Code.frames,Code.isFrame]
theorem Room.make{k:Nat}{A:Around}(r:Room (k+1) A)(C:Addr)(us:List Value)(kw:List (Str×Value)):Room k (A.under (.builtin "type.__call__" ⟨.ref C::us,kw⟩)):=
 ⟨r.hd,by have:=r.dp;rw[uJ];omega,by have:=r.un;rw[uI];omega⟩
theorem Room.depth{k:Nat}{A:Around}(r:Room k A):A.depth < recursionLimit:=by have:=r.dp;omega
theorem Room.units{k:Nat}{A:Around}(r:Room k A):A.units+64 < cLine:=by have:=r.un;omega
def D8:TA:=fun _ H Q=>Q [] H
def CB(ta:TE)(tr:TA):TA:=fun σ H Q=>ta σ H fun x H1=>tr σ H1 fun xs H2=>Q (x::xs) H2
section
variable{X:Cx}{e:Expr}{es:List Expr}{te:TE}{t:TA}{pos:Pos}
theorem Bu:PA X [] D8:=fun _ _ _ _ H Q I h=>Calls.spliced_nil ⟨[],H,I,.nil,h⟩
theorem zy(ha:PE X e te)(hr:PA X es t)(hs:starEach (e::es) X.env=(false,eval e X.env)::starEach es X.env:=by rfl):PA X (e::es) (CB te t):=by
 intro pos pins s σ H Q I h;rw[hs];show wpAny _ _ (spliced ((false,eval e X.env)::backTo pos (starEach es X.env))) _ _ s
 refine Calls.spliced_cons (bZ (ha pins s σ H _ I h) fun u s1 zz=>?_);obtain⟨x,H1,I1,r1,q1⟩:=zz;exact bZ (hr pos pins s1 σ H1 _ I1 q1) fun us s2 ⟨xs,H2,I2,r2,q2⟩=>⟨x::xs,H2,I2,.cons r1 r2,q2⟩
def D5(t:TA):TE:=fun σ H Q=>t σ H fun xs H1=>xs.length<=sizeLine/\∀ p,H1 p=none->Q (.ref p) (bB H1 p (.tup xs))
def D9(t:TA):TE:=fun σ H Q=>t σ H fun xs H1=>xs.length<=sizeLine/\∀ p,H1 p=none->Q (.ref p) (bB H1 p (.lst xs))
theorem Bn{x1}(h:PA X es t):PE X (.Tuple es x1 pos) (D5 t):=by
 intro pins s σ H Q I hq;refine wpAny_Tuple_spliced (bZ (h pos pins s σ H _ I hq) fun us s1 ⟨xs,H1,I1,r,z,q⟩=>⟨by rw[<- r.length];exact z,?_⟩)
 have hf:H1 s1.heap.objs.size=none:=I1.hok.fresh (le_refl _);refine⟨.ref s1.heap.objs.size,bB H1 s1.heap.objs.size (.tup xs),I1.laid (t':=s1.toks) (fun b u e=>Heap.get?_push_of_some _ e) (le_refl _) ?_,rfl,q _ hf⟩;exact⟨z,us,r,nM.new _ _⟩
theorem Bq(h:PA X es t):PE X (.List es pos) (D9 t):=by
 intro pins s σ H Q I hq;refine wpAny_List_spliced (bZ (h pos pins s σ H _ I hq) fun us s1 ⟨xs,H1,I1,r,z,q⟩=>⟨by rw[<- r.length];exact z,?_⟩)
 have hf:H1 s1.heap.objs.size=none:=I1.hok.fresh (le_refl _);refine⟨.ref s1.heap.objs.size,bB H1 s1.heap.objs.size (.lst xs),I1.laid (t':=s1.toks) (fun b u e=>Heap.get?_push_of_some _ e) (le_refl _) ?_,rfl,q _ hf⟩;exact⟨z,us,0,r,Heap.get?_push_size _ rfl⟩
end
abbrev Sp:=List V->Hp->VK->XK->Prop
abbrev wU:=List Env->Hp->Shared->XK->Value->Shared->Prop
structure Env0(P:Program)(w:World)(K:Frag)(mg:Str->Option Value)(base:Heap)(A:Around)(outer:List Env)(s:Shared)(H:Hp):Prop where
 frames:A.frames=some outer
 mod:Mod K mg base
 bs:∀ b o,base.get? b=some o->s.heap.get? b=some o/\H b=none
 bsz:base.objs.size<=s.heap.objs.size
 funs:s.heap.FunFrames base outer
 frf:∀ b∈yr outer,H b=none
 hok:i3 P w H s.heap
 bare:AllBare s.gens
def CE(outer:List Env)(P:Program)(w:World)(H:Hp)(s:Shared)(Q:VK)(u:Value)(s':Shared):Prop:=
 ∃ v H',s'.os=s.os/\AllBare s'.gens/\Un (yr outer) [] H H' s.heap s'.heap/\i3 P w H' s'.heap/\aD v u/\Q v H'
def CR(CX:wU)(outer:List Env)(P:Program)(w:World)(H:Hp)(s:Shared)(Q:VK)(E:XK)(r:Result)(s':Shared):Prop:=
 match r with
 | .ok (.ret u)=>CE outer P w H s Q u s'
 | .ok _=>False
 | .error e=>CX outer H s E e s'
structure FnOk(P:Program)(w:World)(K:Frag)(mg:Str->Option Value)(base:Heap)(CX:wU)(k:Nat)(f:Addr)(fd:FuncData)(ps:List Str)(sp:Sp):Prop where
 len:∀ vs H Q E,sp vs H Q E->vs.length=ps.length
 run:∀ (A:Around) (outer:List Env) (s:Shared) (H:Hp) (args:Args) (us:List Value) (vs:List V) (Q:VK) (E:XK),Room k A->Env0 P w K mg base A outer s H->BindsTo s fd args (ps.zip us)->Vals vs us->sp vs H Q E->
  codeAny (model P w) A (.call (.ref f) args) (CR CX outer P w H s Q E) s
theorem FnOk.mono{P:Program}{w:World}{K:Frag}{mg:Str->Option Value}{base:Heap}{CX:wU}{j k:Nat}{f:Addr}{fd:FuncData}{ps:List Str}{sp:Sp}(F:FnOk P w K mg base CX j f fd ps sp)(h:j<=k):
  FnOk P w K mg base CX k f fd ps sp:=⟨F.len,fun A outer s H args us vs Q E hr=>F.run A outer s H args us vs Q E (hr.mono h)⟩
theorem FnOk.imp{P:Program}{w:World}{K:Frag}{mg:Str->Option Value}{base:Heap}{CX:wU}{k:Nat}{f:Addr}{fd:FuncData}{ps:List Str}{sp sp':Sp}(F:FnOk P w K mg base CX k f fd ps sp)
  (h:∀ vs H Q E,sp' vs H Q E->sp vs H Q E):FnOk P w K mg base CX k f fd ps sp':=
 ⟨fun vs H Q E q=>F.len vs H Q E (h _ _ _ _ q),fun A outer s H args us vs Q E hr he hb hv hs=>F.run A outer s H args us vs Q E hr he hb hv (h _ _ _ _ hs)⟩
theorem Env0.make{P:Program}{w:World}{K:Frag}{mg:Str->Option Value}{base:Heap}{A:Around}{outer:List Env}{s:Shared}{H:Hp}(e:Env0 P w K mg base A outer s H)(C:Addr)(us:List Value)(kw:List (Str×Value)):
  Env0 P w K mg base (A.under (.builtin "type.__call__" ⟨.ref C::us,kw⟩)) outer s H:=⟨by first|exact e.frames|(simpa[Around.under,Code.envs,Code.isFrame,pushEnvs]using e.frames),e.mod,e.bs,e.bsz,e.funs,e.frf,e.hok,e.bare⟩
theorem Env0.in1{P:Program}{w:World}{K:Frag}{mg:Str->Option Value}{base:Heap}{A:Around}{outer:List Env}{s:Shared}{H:Hp}(e:Env0 P w K mg base A outer s H):
  Env0 P w K mg base A.in1 outer s H:=⟨e.frames,e.mod,e.bs,e.bsz,e.funs,e.frf,e.hok,e.bare⟩
section
variable{X:Cx}{pins:List (Addr×Obj)}{σ:St}{H:Hp}{s s':Shared}
theorem Inv.env0(I:Inv X pins σ H s):Env0 X.prog X.w X.K X.mg X.base X.A X.stack s H:=
 ⟨I.ok.frames,I.ok.mod,I.bs,le_trans I.ok.bsz I.sz,I.stack,I.stkFree,I.hok,I.bare⟩
theorem Inv.after{Q:VK}{u:Value}(I:Inv X pins σ H s)(h:CE X.stack X.prog X.w H s Q u s'):EP X pins σ Q u s':=by
 obtain⟨v,H',os,bare,un,hok,r,q⟩:=h;obtain⟨hh,g,d,t,os'⟩:=s';obtain rfl:os'=s.os:=os;exact⟨v,H',I.call (h':=hh) (g':=g) (d':=d) (t':=t) (ch:=[]) un hok bare (fun b z=>absurd z (by simp)),r,q⟩
end
def Ax(sp:Sp)(dvs:List V)(E:XK)(t:TA):TE:=fun σ H Q=>t σ H fun vs H1=>sp (vs ++ dvs) H1 Q E
def Aw(C:Addr)(sp:Sp)(dvs:List V)(E:XK)(t:TA):TE:=fun σ H Q=>t σ H fun vs H1=>∀ x dx,H1 x=none->H1 dx=none->dx≠x->
 sp (.ref x::(vs ++ dvs)) (bB (bB H1 dx (.own x)) x (.ins C dx [])) (fun v H2=>v=.non/\Q (.ref x) H2) E
def e8(K:Frag)(fd:FuncData)(ps:List Str)(ds:List Value):Prop:=
 ∀ (s:Shared) (us:List Value),K.In s.heap->(us ++ ds).length=ps.length->BindsTo s fd ⟨us,[]⟩ (ps.zip (us ++ ds))
theorem e8.all{K:Frag}{fd:FuncData}{ps:List Str}(h:∀ us:List Value,us.length=ps.length->bindArgs fd ⟨us,[]⟩=pure (ps.zip us)):e8 K fd ps []:=fun s us _ hl=>by
 rw[append_nil]at hl ⊢;exact .of_eq (h us hl)
def nO(CX:wU)(X:Cx)(E:XK):Prop:=∀ (pins:List (Addr×Obj)) (σ:St) (H:Hp) (s:Shared) (e:Value) (s':Shared),Inv X pins σ H s->CX X.stack H s E e s'->X.xe e s'
section
variable{X:Cx}{CX:wU}{k:Nat}{f C:Addr}{fd:FuncData}{ps:List Str}{sp:Sp}{dvs:List V}{ds:List Value}{E:XK}{x m:Str}{p pos apos:Pos}{e o:Expr}{es:List Expr}{ta:TE}{t:TA}
theorem ug{pins:List (Addr×Obj)}{σ:St}{H:Hp}{s:Shared}{Q:VK}{us:List Value}{vs:List V}(F:FnOk X.prog X.w X.K X.mg X.base CX k f fd ps sp)(hr:Room k X.A)(hb:e8 X.K fd ps ds)(hd:Vals dvs ds)(hx:nO CX X E)
  (I:Inv X pins σ H s) (r:Vals vs us) (h:sp (vs ++ dvs) H Q E):wpAny (model X.prog X.w) X.A (call (.ref f) us) (EP X pins σ Q) X.xe s:=by
 have r2:Vals (vs ++ dvs) (us ++ ds):=r.append hd;have hl:(us ++ ds).length=ps.length:=by rw[<- r2.length];exact F.len _ _ _ _ h
 refine wpAny_call (codeAny_mono (F.run X.A X.stack s H ⟨us,[]⟩ (us ++ ds) (vs ++ dvs) Q E hr I.env0 (hb s us I.kIn hl) r2 h) fun r s' hq=>?_);cases r with
 | error e=>exact hx pins σ H s e s' I hq
 | ok fl=>
  cases fl with
  | ret u=>exact I.after hq
  | next=>exact False.elim hq
  | brk=>exact False.elim hq
  | cont=>exact False.elim hq
theorem zx(F:FnOk X.prog X.w X.K X.mg X.base CX k f fd ps sp)(hr:Room k X.A)(hg:Gl X x)(hm:X.mg x=some (.ref f))(hk:keepIn X.K (.ref f)=true)(hb:e8 X.K fd ps ds)(hd:Vals dvs ds)(hx:nO CX X E)
  (ha:PA X (e::es) t) (hdb:(x == ("__debug__":Str))=false:=by decide) (he:starEach (e::es) X.env=(false,eval e X.env)::starEach es X.env:=by rfl) (hpl:(backTo pos (starEach es X.env)).any (·.1)=false:=by rfl):
  PE X (.Call (.Name x p) (e::es) [] pos) (Ax sp dvs E t):=by
 intro pins s σ H Q I h;refine wpAny_Call_Name_kw (j0 I hg hm ?_ hdb);refine callWith_K (h₀:=X.base) I.ok.mod.kin hk (bZ (ha pos pins s σ H _ I h) fun us s1 ⟨vs,H1,I1,r,q⟩=>⟨I1.kIn,?_⟩) he hpl;exact ug F hr hb hd hx I1 r q
structure Mk(K:Frag)(C f:Addr):Prop where
 makes:makesIn K C=true
 init:findIn K (.ref C) "__init__"=some (some (.ref f))
 fn:isFn K (.ref f)=true
 kp:keepIn K (.ref C)=true
theorem xt{pins:List (Addr×Obj)}{σ:St}{H:Hp}{s:Shared}{Q:VK}{us:List Value}{vs:List V}(M:Mk X.K C f)(F:FnOk X.prog X.w X.K X.mg X.base CX k f fd ps sp)(hr:Room (k+1) X.A)(hb:e8 X.K fd ps ds)(hd:Vals dvs ds)
  (hx:nO CX X E) (I:Inv X pins σ H s) (r:Vals vs us)
  (h:∀ x dx,H x=none->H dx=none->dx≠x->sp (.ref x::(vs ++ dvs)) (bB (bB H dx (.own x)) x (.ins C dx [])) (fun v H2=>v=.non/\Q (.ref x) H2) E):
  wpAny (model X.prog X.w) X.A (call (.ref C) us) (EP X pins σ Q) X.xe s:=by
 have hq:=h (s.heap.objs.size+1) s.heap.objs.size (I.hok.fresh (Nat.le_succ _)) (I.hok.fresh (le_refl _)) (ne_of_lt (lt_succ_self _));have I2:=Inv.made (C:=C) I;have r2:Vals (V.ref (s.heap.objs.size+1)::(vs ++ dvs)) (Value.ref (s.heap.objs.size+1)::(us ++ ds)):=.cons rfl (r.append hd);have hl:(Value.ref (s.heap.objs.size+1)::us ++ ds).length=ps.length:=by
  have e:=r2.length;rw[F.len _ _ _ _ hq]at e;exact e.symm
 refine wpAny_call (xX (f:=f) I.kIn M.makes M.init (beq_iff_eq.mp M.fn) (codeAny_mono (F.run _ X.stack _ _ ⟨Value.ref (s.heap.objs.size+1)::us,[]⟩ (Value.ref (s.heap.objs.size+1)::(us ++ ds)) _ _ E (hr.make C us [])
  (I2.env0.make C us []) (hb _ (Value.ref (s.heap.objs.size+1)::us) I2.kIn hl) r2 hq) fun r s' hq'=>?_))
 cases r with
 | error e=>exact hx pins σ _ _ e s' I2 hq'
 | ok fl=>
  cases fl with
  | ret u=>
   obtain⟨v,H',I3,rv,ev,q3⟩:=I2.after hq';subst ev;exact⟨rv,⟨V.ref (s.heap.objs.size+1),H',I3,rfl,q3⟩⟩
  | next=>exact False.elim hq'
  | brk=>exact False.elim hq'
  | cont=>exact False.elim hq'
theorem zt(M:Mk X.K C f)(F:FnOk X.prog X.w X.K X.mg X.base CX k f fd ps sp)(hr:Room (k+1) X.A)(hg:Gl X x)(hm:X.mg x=some (.ref C))(hb:e8 X.K fd ps ds)(hd:Vals dvs ds)(hx:nO CX X E)
  (ha:PA X (e::es) t) (hdb:(x == ("__debug__":Str))=false:=by decide) (he:starEach (e::es) X.env=(false,eval e X.env)::starEach es X.env:=by rfl) (hpl:(backTo pos (starEach es X.env)).any (·.1)=false:=by rfl):
  PE X (.Call (.Name x p) (e::es) [] pos) (Aw C sp dvs E t):=by
 intro pins s σ H Q I h;refine wpAny_Call_Name_kw (j0 I hg hm ?_ hdb);refine callWith_K (h₀:=X.base) I.ok.mod.kin M.kp (bZ (ha pos pins s σ H _ I h) fun us s1 ⟨vs,H1,I1,r,q⟩=>⟨I1.kIn,?_⟩) he hpl;exact xt M F hr hb hd hx I1 r q
end
section
variable{X:Cx}{CX:wU}{k:Nat}{f C:Addr}{fd:FuncData}{ps ks:List Str}{sp:Sp}{E:XK}{x m:Str}{p pos apos kpos:Pos}{e o:Expr}{es:List Expr}{kws:List Keyword}{te ta:TE}{t tk:TA}{nm:Option Str}
structure KBinds(K:Frag)(fd:FuncData)(ps ks:List Str)(g:List Value->List Value->List Value)(gV:List V->List V->List V):Prop where
 to:∀ (s:Shared) (us ws:List Value),K.In s.heap->(g us ws).length=ps.length->BindsTo s fd ⟨us,ks.zip ws⟩ (ps.zip (g us ws))
 rel:∀ {vs:List V} {us:List Value} {zs:List V} {ws:List Value},Vals vs us->Vals zs ws->Vals (gV vs zs) (g us ws)
variable{g:List Value->List Value->List Value}{gV:List V->List V->List V}
end
structure FnScope(N P:List Str)(sc:Scope):Prop where
 kind:sc.kind=.function
 co:sc.isCoroutine=false
 gen:sc.isGenerator=false
 nd:N.Nodup
 pre:N.take P.length=P
 par:∀ x∈P,sc.names.lookup x=some .local\/sc.names.lookup x=some .cell
 nofree:∀ y∈sc.names,y.2≠.free
theorem pS{kindOf:Str->Option NameKind}{x:Str}:∀ {binds:List (Str×Value)} {m:Str->Option Value},(∀ v,(x,v)∉binds)->bindL kindOf binds m x=m x
 | [],_,_=>rfl
 | (n,v)::r,m,h=>by
  unfold bindL;rw[pS fun w hw=>h w (mem_cons_of_mem _ hw)];split
  ·have:x≠n:=by rintro rfl;exact h v mem_cons_self
   simp[this]
  ·rfl
theorem pU{kindOf:Str->Option NameKind}{x:Str}:∀ {binds:List (Str×Value)} {m:Str->Option Value},(∀ v,(x,v)∉binds)->bindC kindOf binds m x=m x
 | [],_,_=>rfl
 | (n,v)::r,m,h=>by
  unfold bindC;rw[pU fun w hw=>h w (mem_cons_of_mem _ hw)];split
  ·rfl
  ·have:x≠n:=by rintro rfl;exact h v mem_cons_self
   simp[this]
theorem pT{kindOf:Str->Option NameKind}{x:Str}{v:Value}:∀ {P:List Str} {vs:List Value} {i:Nat} {m:Str->Option Value},P.Nodup->P[i]?=some x->vs[i]?=some v->kindOf x=some .local->
  bindL kindOf (P.zip vs) m x=some v
 | [],_,_,_,_,h,_,_=>by simp at h
 | _::_,[],_,_,_,_,h,_=>by simp at h
 | p::P,w::vs,0,m,nd,h1,h2,hk=>by
  simp at h1 h2;subst h1;subst h2;show bindL kindOf ((p,w)::P.zip vs) m p=_
  unfold bindL;rw[pS fun v hv=>(nodup_cons.mp nd).1 (List.of_mem_zip hv).1,if_pos hk];simp
 | p::P,w::vs,i+1,m,nd,h1,h2,hk=>by
  show bindL kindOf ((p,w)::P.zip vs) m x=_
  unfold bindL;exact pT (i:=i) (nodup_cons.mp nd).2 (by simpa using h1) (by simpa using h2) hk
theorem pV{kindOf:Str->Option NameKind}{x:Str}{v:Value}:∀ {P:List Str} {vs:List Value} {i:Nat} {m:Str->Option Value},P.Nodup->P[i]?=some x->vs[i]?=some v->kindOf x≠some .local->
  bindC kindOf (P.zip vs) m x=some v
 | [],_,_,_,_,h,_,_=>by simp at h
 | _::_,[],_,_,_,_,h,_=>by simp at h
 | p::P,w::vs,0,m,nd,h1,h2,hk=>by
  simp at h1 h2;subst h1;subst h2;show bindC kindOf ((p,w)::P.zip vs) m p=_
  unfold bindC;rw[pU fun v hv=>(nodup_cons.mp nd).1 (List.of_mem_zip hv).1,if_neg hk];simp
 | p::P,w::vs,i+1,m,nd,h1,h2,hk=>by
  show bindC kindOf ((p,w)::P.zip vs) m x=_
  unfold bindC;exact pV (i:=i) (nodup_cons.mp nd).2 (by simpa using h1) (by simpa using h2) hk
def start(N:List Str)(vs:List V):St:=vs.map some ++ List.replicate (N.length - vs.length) none
def tM(CX:wU)(P:Program)(w:World)(K:Frag)(mg:Str->Option Value)(base:Heap)(N:List Str)(qual:Str)(scope:Scope)(f:Addr)(cd:Value)(A:Around)(outer:List Env)(s:Shared)(H:Hp)(E:XK):Cx where
 prog:=P
 w:=w
 K:=K
 mg:=mg
 base:=base
 A:=A.deeper (envOfC qual scope s.heap.objs.size f cd)
 N:=N
 s₀:=s
 H₀:=H
 env:=envOfC qual scope s.heap.objs.size f cd
 outer:=outer
 stack:=envOfC qual scope s.heap.objs.size f cd::outer
 ex:=[]
 calm:=true
 fn:=fun _=>true
 pn:=[]
 xe:=fun e s'=>wpAny (model P w) (A.deeper (envOfC qual scope s.heap.objs.size f cd)) (leaving (envOfC qual scope s.heap.objs.size f cd) e) (fun _ s''=>CX outer H s E e s'') (fun e' s''=>CX outer H s E e' s'') s'
theorem tQ{sc:Scope}{n:Nat}{x:Str}(h:sc.names.lookup x=some .cell):∃ c,(cellsFrom n sc.names []).lookup x=some c:=by
 have q:=PySem.W.cellsFrom_some sc.names n [] (.inl h);exact Option.isSome_iff_exists.mp q
theorem wA{CX:wU}{P:Program}{w:World}{K:Frag}{mg:Str->Option Value}{base:Heap}{N ps:List Str}{qual:Str}{scope:Scope}{f:Addr}{cd:Value}{A:Around}{outer:List Env}{s s1:Shared}{H:Hp}{E:XK}{us:List Value}{vs:List V}
  (S:FnScope N ps scope) (hd:A.handled=none) (e0:Env0 P w K mg base A outer s H) (hl:vs.length=ps.length) (r:Vals vs us)
  (x:InCallC s s.heap.objs.size (bindL (envOfC qual scope s.heap.objs.size f cd).kindOf (ps.zip us) fun _=>none) (cellsFrom (s.heap.objs.size+1) scope.names []) (bindC (envOfC qual scope s.heap.objs.size f cd).kindOf (ps.zip us) fun _=>none) s1):
  Inv (tM CX P w K mg base N qual scope f cd A outer s H E) [] (start N vs) H s1:=by
 have hpl:ps.length<=N.length:=by have:=congrArg List.length S.pre;rw[length_take]at this;omega
 obtain⟨h1,tk,rfl,hk⟩:=x.done;have noA:∀ b:Addr,b∉(tM CX P w K mg base N qual scope f cd A outer s H E).ex:=fun b z=>absurd (show b∈([]:List Addr)from z) (by simp)
 refine⟨⟨e0.mod,S.kind,rfl,rfl,le_refl _,fun y z c h1 h2=>?_,fun y hy=>?_,fun y c _ h=>?_,fun _=>hd,Around.frames_deeper e0.frames,.inr ⟨rfl,rfl⟩,fun b z=>absurd z (noA b),e0.bs,e0.bsz,fun b _ _=>noA b,fun b z=>absurd z (noA b),e0.funs,e0.frf⟩,
  rfl,e0.bare,Un.kept hk,⟨_,x.toInCall.ns,fun i y v h1 h2 h3=>?_⟩,fun y c h=>⟨_,x.cell y c h⟩,e0.hok.fresh (le_refl _),fun y c h=>?_,fun p hp=>absurd (show p∈([]:List (Addr×Obj))from hp) (by simp),e0.hok.kept hk,?_⟩
 ·exact name_of_addr x.apart (PySem.mem_of_lookup h1) (PySem.mem_of_lookup h2)
 ·have hy:scope.names.lookup y=some .cell\/scope.names.lookup y=some .free:=hy;rcases hy with hy|hy
  ·exact tQ hy
  ·exact absurd rfl (S.nofree _ (PySem.mem_of_lookup hy))
 ·exact le_of_lt (x.above y c (PySem.mem_of_lookup h))
 ·have hi:i < vs.length:=by
   unfold start at h2
   by_cases hi:i < vs.length
   ·exact hi
   ·rw[List.getElem?_append_right (by simpa using hi)]at h2
    rw[List.getElem?_replicate]at h2;split at h2<;>cases h2
  have ha:vs[i]?=some v:=by
   unfold start at h2;rw[List.getElem?_append_left (by simpa using hi),getElem?_map]at h2
   cases e:vs[i]? with
   | none=>rw[e]at h2;cases h2
   | some a=>rw[e]at h2;cases h2;rfl
  obtain⟨u,hu,rv⟩:=r.get ha;have hp:ps[i]?=some y:=by
   rw[<- S.pre,List.getElem?_take_of_lt (by walk_at "o")];exact h1
  have ndP:ps.Nodup:=by rw[<- S.pre];exact S.nd.sublist (List.take_sublist _ _)
  refine⟨u,rv,?_⟩;rcases S.par y (mem_of_getElem? hp)with k|k
  ·exact .inl ⟨k,pT ndP hp hu k⟩
  ·obtain⟨c,e⟩:=tQ (n:=s.heap.objs.size+1) k;refine .inr ⟨.inl k,c,e,?_⟩;have q:=x.cell y c e;rw[pV ndP hp hu (by show scope.names.lookup y≠_;rw[k];decide)]at q
   exact q
 ·exact e0.hok.fresh (le_of_lt (x.above y c (PySem.mem_of_lookup h)))
 ·unfold start;show _=N.length
  rw[length_append,length_map,List.length_replicate];omega
theorem AK{CX:wU}{P:Program}{w:World}{K:Frag}{mg:Str->Option Value}{base:Heap}{k:Nat}{f:Addr}{name qual:Str}{params:Arguments}{body:List Stmt}{scope:Scope}{dV kV doc pm cdv ct oc:Value}{an od:Option Addr}
  {osl:Array (Option Value)} {N ps:List Str} {sp:Sp} (lk:K.lookup f=some ⟨oc,od,.func (fnOf name qual params body scope dV kV doc pm an cdv ct),osl⟩) (hcd:codeIn K cdv qual=true) (S:FnScope N ps scope)
  (len:∀ vs H Q E,sp vs H Q E->vs.length=ps.length)
  (hbody:∀ (A:Around) (outer:List Env) (s:Shared) (H:Hp) (vs:List V) (Q:VK) (E:XK),Room k (A.deeper (envOfC qual scope s.heap.objs.size f cdv))->sp vs H Q E->
   ∃ t,kZ (tM CX P w K mg base N qual scope f cdv A outer s H E) body t/\t { nx:=fun _ H'=>Q .non H',rt:=Q } (start N vs) H):
  FnOk P w K mg base CX (k+1) f (fnOf name qual params body scope dV kV doc pm an cdv ct) ps sp:=by
 refine⟨len,fun A outer s H args us vs Q E hr e0 hb r hsp=>?_⟩;have hl:=len _ _ _ _ hsp;have KX:K.In s.heap:=e0.mod.kin.keeps fun b o e=>(e0.bs b o e).1;have lim:s.heap.NoLimit:=e0.mod.nolimit.keeps fun b o e=>(e0.bs b o e).1;have hkind:∀ y∈ps.zip us,scope.names.lookup y.1=some .local\/(scope.names.lookup y.1=some .cell/\((cellsFrom (s.heap.objs.size+1) scope.names []).lookup y.1).isSome=true):=fun⟨n,v⟩ hy=>by
  rcases S.par n (List.of_mem_zip hy).1 with q|q
  ·exact .inl q
  ·exact .inr ⟨q,PySem.W.cellsFrom_some _ _ _ (.inl q)⟩
 refine codeAny_call_function hr.depth (KX _ _ lk) rfl S.co S.gen rfl (PySem.W.codeRec_of KX hcd) (hb _ _ _ _ ?_);refine wpAny_newFunctionEnv_cells S.kind hkind fun env he s1 x=>?_;subst he;refine⟨lim.keeps x.toInCall.keep,codeAny_func ?_⟩;obtain⟨t,ht,hq⟩:=hbody A outer s H vs Q E (hr.deeper _) hsp;have I:Inv (tM CX P w K mg base N qual scope f cdv A outer s H E) [] (start N vs) H s1:=wA S hr.hd e0 hl r x;refine wpAny_mono (ht [] s1 (start N vs) H _ I hq) (fun fl s' hs=>?_) fun e s' hs=>hs;have fin:∀ {σ':St} {H':Hp} {v:V} {u:Value},Inv (tM CX P w K mg base N qual scope f cdv A outer s H E) [] σ' H' s'->aD v u->Q v H'->CE outer P w H s Q u s':=
  fun {σ' H' v u} J rv q=>⟨v,H',J.os,J.bare,J.base,J.hok,rv,q⟩
 cases fl with
 | ret u=>
  obtain⟨v,σ',H',J,rv,q⟩:=hs;exact fin J rv q
 | next=>
  obtain⟨σ',H',J,q⟩:=hs;exact fin (v:=V.non) (u:=Value.none) J rfl q
 | brk=>
  obtain⟨_,_,_,q⟩:=hs;exact False.elim q
 | cont=>
  obtain⟨_,_,_,q⟩:=hs;exact False.elim q
section
variable{X:Cx}{x:Str}{p pos:Pos}{e:Expr}{es:List Expr}{t:TA}{id T:String}{r:List V->Hp->VK->Prop}
def Ec(r:List V->Hp->VK->Prop)(t:TA):TE:=fun σ H Q=>t σ H fun vs H1=>r vs H1 Q
theorem xO(hc:eE X (.builtin id) r)(hg:Gl X x)(hm:X.mg x=none)(hv:bootBuiltins x=some (.builtin id))(ha:PA X (e::es) t)(hn:x≠"__name__":=by decide)(hdb:(x == ("__debug__":Str))=false:=by decide)
  (he:starEach (e::es) X.env=(false,eval e X.env)::starEach es X.env:=by rfl) (hpl:(backTo pos (starEach es X.env)).any (·.1)=false:=by rfl):PE X (.Call (.Name x p) (e::es) [] pos) (Ec r t):=by
 intro pins s σ H Q I h;refine wpAny_Call_Name_kw (gI I hg hm hv ?_ hn hdb);exact PyProof.Rows.callWith_builtin1 (bZ (ha pos pins s σ H _ I h) fun us s1 ⟨vs,H1,I1,r1,q1⟩=>hc pins s1 σ H1 vs us Q I1 r1 q1) he hpl
theorem v9(hc:eE X (.type T) r)(hg:Gl X x)(hm:X.mg x=none)(hv:bootBuiltins x=some (.type T))(ha:PA X (e::es) t)(hn:x≠"__name__":=by decide)(hdb:(x == ("__debug__":Str))=false:=by decide)
  (he:starEach (e::es) X.env=(false,eval e X.env)::starEach es X.env:=by rfl) (hpl:(backTo pos (starEach es X.env)).any (·.1)=false:=by rfl):PE X (.Call (.Name x p) (e::es) [] pos) (Ec r t):=by
 intro pins s σ H Q I h;refine wpAny_Call_Name_kw (gI I hg hm hv ?_ hn hdb);exact PyProof.Rows.callWith_type1 (bZ (ha pos pins s σ H _ I h) fun us s1 ⟨vs,H1,I1,r1,q1⟩=>hc pins s1 σ H1 vs us Q I1 r1 q1) he hpl
end
end L2
namespace HT
open PySem PyProof.Rows
section
open PySem.SeqAt
open PySem.AutoSeq1 (wpAny_loadPart')
open PySem.MeetsSeq PySem.MeetsSeq2 PySem.MeetsSeq3
end
section
variable{prog:Program}{w:World}{A:Around}{E:Value->Shared->Prop}{s:Shared}
theorem cat_tup{t b:Addr}{vs ws:List Value}{Q:Value->Shared->Prop}(ht:IsTup s.heap t vs.toArray)(hb:IsTup s.heap b ws.toArray)(hv:vs≠[])
  (h1:ws=[]->Q (.ref t) s) (h2:ws≠[]->Q (.ref s.heap.objs.size) { s with heap:=s.heap.push { cls:=.type "tuple",data:=.seq (vs ++ ws).toArray } })
  (hsz:vs.length+ws.length<=sizeLine):wpAny (model prog w) A (binaryOp .Add (.ref t) (.ref b)) Q E s:=by
 obtain⟨⟨cls,dd,data,sl⟩,ho,hc,n,hd⟩:=id ht;obtain⟨⟨cls2,dd2,data2,sl2⟩,ho2,hc2,n2,hd2⟩:=id hb;simp only at hc hd hc2 hd2;subst hc hd hc2 hd2;have e:vs.toArray ++ ws.toArray=(vs ++ ws).toArray:=by simp
 by_cases hw:ws=[]
 ·exact concat_meets ⟨_,ho,rfl⟩ ⟨_,ho2,rfl⟩ noFill_tuple_add seq_tuple_add PySem.F.slot_tuple_add PySem.F.entry_tuple_add (PySem.F.args_tuple_add_2 _ _)
   (tuple_addW1 t b vs.toArray ws.toArray n n2 dd dd2 sl sl2 (by simpa using hv) (by simp[hw])) ⟨ho,ho2,h1 hw⟩
 ·refine concat_meets ⟨_,ho,rfl⟩ ⟨_,ho2,rfl⟩ noFill_tuple_add seq_tuple_add PySem.F.slot_tuple_add PySem.F.entry_tuple_add (PySem.F.args_tuple_add_2 _ _)
   (tuple_addW2 t b vs.toArray ws.toArray n n2 dd dd2 sl sl2 (by simpa using hv) (by simpa using hw) (by rw[size_toArray,size_toArray];exact hsz)) ⟨ho,ho2,?_⟩
  rw[e];exact h2 hw
def sIx(n d:Nat):Option Int->Nat
 | none=>d
 | some v=>if v < 0 then (v+(n:Int)).toNat else min v.toNat n
theorem sIx_le(n d:Nat)(hd:d<=n)(o:Option Int):sIx n d o<=n:=by
 cases o with
 | none=>exact hd
 | some v=>
  show (if v < 0 then (v+(n:Int)).toNat else min v.toNat n)<=n
  by_cases hv:v < 0
  ·rw[if_pos hv];omega
  ·rw[if_neg hv];exact Nat.min_le_right _ _
theorem vD(v:Int)(n d:Nat):(if v < 0 then max (v+(n:Int)) 0 else min v (n:Int))=((sIx n d (some v):Nat):Int):=by
 show (if v < 0 then max (v+(n:Int)) 0 else min v (n:Int))=(((if v < 0 then (v+(n:Int)).toNat else min v.toNat n):Nat):Int)
 by_cases hv:v < 0
 ·simp only[if_pos hv];omega
 ·simp only[if_neg hv];omega
theorem u6(lo hi:Option Int)(n:Nat):Builtin.Slice.sliceAdjust lo hi 1 (n:Int)=(((sIx n 0 lo:Nat):Int),((sIx n n hi:Nat):Int)):=by
 have h1:¬ ((1:Int) < 0):=by walk_at "o"
 unfold Builtin.Slice.sliceAdjust;simp only[h1,if_false];refine Prod.ext ?_ ?_
 ·cases lo with
  | none=>rfl
  | some v=>exact vD v n 0
 ·cases hi with
  | none=>rfl
  | some v=>exact vD v n n
theorem ut(i j:Nat):Builtin.Slice.slicePlaces (i:Int) (j:Int) 1=j - i:=by
 unfold Builtin.Slice.slicePlaces;have h1:(1:Int) > 0:=by walk_at "o"
 simp only[h1,if_true,Int.ediv_one];split<;>omega
theorem mD{v:Value}{o:Option Int}{Q:Option Int->Shared->Prop}(p:IsPart v o)(h:Q o s):wpAny (model prog w) A (Builtin.Slice.slicePartIndex v) Q E s:=by
 cases p with
 | none=>exact slicePart_none h
 | int i t=>exact slicePart_int h
theorem gM{sl:Addr}{vl vu:Value}{lo hi:Option Int}{n:Nat}{Q:Int×Int×Nat->Shared->Prop}(hs:s.heap.IsSliceOf sl vl vu .none)(pl:IsPart vl lo)(pu:IsPart vu hi)
  (h:Q (((sIx n 0 lo:Nat):Int),1,sIx n n hi - sIx n 0 lo) s):wpAny (model prog w) A (Builtin.Slice.sliceApplied (.ref sl) (pure (n:Int))) Q E s:=by
 obtain⟨os,hos,hcs,hds⟩:=id hs;unfold Builtin.Slice.sliceApplied Builtin.Slice.sliceFields;refine wpAny_bind (wpAny_bind (wpAny_field hos hds (x:=vl) rfl (wpAny_bind (wpAny_field hos hds (x:=vu) rfl (wpAny_bind (wpAny_field hos hds (x:=.none) rfl (wpAny_pure ?_)))))));refine wpAny_bind (slicePart_none ?_);show wpAny _ _ (if ((1:Int) == 0)=true then _ else _) _ _ s
 rw[if_neg (by decide)]
 refine wpAny_bind (mD pl (wpAny_bind (mD pu (wpAny_bind (wpAny_pure ?_)))));show wpAny _ _ (match Builtin.Slice.sliceAdjust lo hi 1 (n:Int) with|(lo,hi)=>pure (lo,(1:Int),Builtin.Slice.slicePlaces lo hi 1)) _ _ s
 rw[u6 lo hi n];show wpAny _ _ (pure (((sIx n 0 lo:Nat):Int),(1:Int),Builtin.Slice.slicePlaces ((sIx n 0 lo:Nat):Int) ((sIx n n hi:Nat):Int) 1)) _ _ s
 rw[ut];exact wpAny_pure h
theorem xJ(xs:Array Value)(i k:Nat):((List.range k).filterMap fun (m:Nat)=>xs[((i:Int)+(m:Int)*1).toNat]?).toArray=((xs.toList.drop i).take k).toArray:=by
 have e:(fun (m:Nat)=>xs[((i:Int)+(m:Int)*1).toNat]?)=fun m=>xs[i+m]?:=by
  funext m;have:((i:Int)+(m:Int)*1).toNat=i+m:=by walk_at "o"
  rw[this]
 rw[e];have:=pick_run xs i k;rw[List.filterMap_map]at this;have e2:((fun x=>xs[x]?) ∘ fun x=>i+x)=fun m=>xs[i+m]?:=rfl;rw[e2]at this;rw[this]
theorem getItem_tuple_cut{t sl:Addr}{items:Array Value}{vl vu:Value}{lo hi:Option Int}{Q:Value->Shared->Prop}(ht:IsTup s.heap t items)(hs:s.heap.IsSliceOf sl vl vu .none)(pl:IsPart vl lo)(pu:IsPart vu hi)
  (hw:¬ (sIx items.size 0 lo=0/\sIx items.size items.size hi=items.size))
  (h:Q (.ref s.heap.objs.size) { s with heap:=s.heap.push { cls:=.type "tuple",data:=.seq ((items.toList.drop (sIx items.size 0 lo)).take (sIx items.size items.size hi - sIx items.size 0 lo)).toArray } })
  (hsz:items.size<=sizeLine):wpAny (model prog w) A (getItem (.ref t) (.ref sl)) Q E s:=by
 have htake:sizeOk (.seq ((items.toList.drop (sIx items.size 0 lo)).take (sIx items.size items.size hi - sIx items.size 0 lo)).toArray):=by
  show ((items.toList.drop (sIx items.size 0 lo)).take (sIx items.size items.size hi - sIx items.size 0 lo)).toArray.size<=sizeLine
  rw[size_toArray,length_take,length_drop,Array.length_toList];omega
 have hj:sIx items.size items.size hi<=items.size:=sIx_le _ _ (le_refl _) hi;obtain⟨os,hos,hcs,hds⟩:=id hs;have hTs:s.TypeIs (.ref sl) "slice":=⟨os,hos,hcs⟩;unfold getItem
 try with_reducible refine wpAny_holding ?_
 first|refine wpAny_bind (wpAny_pure ?_)|skip
 refine wpAny_bind (wpAny_sequenceKey ht.typeIs (by decide) ?_)
 refine wpAny_bind (wpAny_callSpecial?_slot (name:=Str.ofString "__getitem__") ht.typeIs PyProof.Rows.slot_tuple_getitem
  (wpAny_call_entry PyProof.Rows.slot_tuple_getitem ht.typeIs entry_tuple_getitem ?_ (args_tuple_getitem _ _)))
 show wpAny _ _ (Builtin.Tuple.tupleItemsOf (.ref t) >>= _) _ _ s
 refine wpAny_bind (tupleItemsOf_ ht ?_);refine wpAny_bind (wpAny_typeOf hTs ?_);rw[if_pos (by decide)]
 refine wpAny_bind (gM hs pl pu ?_);have hno:¬ ((((sIx items.size 0 lo:Nat):Int) == 0 && (1:Int) == 1 && (sIx items.size items.size hi - sIx items.size 0 lo) == items.size)=true):=by
  intro q;rw[Bool.and_eq_true,Bool.and_eq_true]at q;have q1:((sIx items.size 0 lo:Nat):Int)=0:=eq_of_beq q.1.1;have q2:sIx items.size items.size hi - sIx items.size 0 lo=items.size:=eq_of_beq q.2;exact hw ⟨by walk_at "o",by walk_at "o"⟩
 show wpAny _ _ (if (((sIx items.size 0 lo:Nat):Int) == 0 && (1:Int) == 1 && (sIx items.size items.size hi - sIx items.size 0 lo) == items.size)=true then _ else _) _ _ s
 rw[if_neg hno,xJ]
 first
  | exact wpAny_bind (m:=Builtin.Tuple.tupleExact _) (wpAny_newObj_type (wpAny_pure ⟨_,rfl,wpAny_pure h⟩) htake)
  | exact wpAny_bind (m:=Builtin.Tuple.tupleExact _) (wpAny_newObj_type (wpAny_bind (wpAny_pure (wpAny_pure ⟨_,rfl,wpAny_pure h⟩))) htake)
  | exact wpAny_bind (wpAny_bind (m:=Builtin.Tuple.tupleExact _) (wpAny_newObj_type (wpAny_pure (wpAny_pure ⟨_,rfl,wpAny_pure h⟩)) htake))
  | exact wpAny_bind (wpAny_bind (m:=Builtin.Tuple.tupleExact _) (wpAny_newObj_type (wpAny_pure ⟨_,rfl,wpAny_pure h⟩) htake))
end
end HT
namespace L2
open PySem PySem.Spec PyProof.Rows
abbrev TO:=St->Hp->(Option Int->Hp->Prop)->Prop
def PO(X:Cx)(e:Option Expr)(t:TO):Prop:=
 ∀ (pins:List (Addr×Obj)) (s:Shared) (σ:St) (H:Hp) (Q:Option Int->Hp->Prop),Inv X pins σ H s->t σ H Q->
  wpAny (model X.prog X.w) X.A (evalPart e X.env) (fun u s'=>∃ o H',Inv X pins σ H' s'/\IsPart u o/\Q o H') X.xe s
def yX:TO:=fun _ H Q=>Q none H
def Cv(t:TE):TO:=fun σ H Q=>t σ H fun x H1=>∃ i,x=.int i/\Q (some i) H1
section
variable{X:Cx}{e:Expr}{te:TE}{lo hi:Option Expr}{tl th:TO}{pos p2:Pos}
theorem zp:PO X none yX:=by
 intro pins s σ H Q I h;rw[evalPart_none];exact wpAny_pure ⟨none,H,I,.none,h⟩
theorem zo(h:PE X e te):PO X (some e) (Cv te):=by
 intro pins s σ H Q I hw;rw[evalPart_some];refine bZ (h pins s σ H _ I hw) fun u s1 zz=>?_;obtain⟨x,H1,I1,r1,q1⟩:=zz;obtain⟨i,rfl,q⟩:=q1;obtain⟨t,rfl⟩:=r1;exact⟨some i,H1,I1,.int i t,q⟩
def u7(X:Cx)(r:V->Option Int->Option Int->Hp->VK->Prop):Prop:=
 ∀ (pins:List (Addr×Obj)) (s:Shared) (σ:St) (H:Hp) (x:V) (v vl vu:Value) (lo hi:Option Int) (sl:Addr) (Q:VK),Inv X pins σ H s->aD x v->s.heap.IsSliceOf sl vl vu .none->IsPart vl lo->IsPart vu hi->r x lo hi H Q->
  ∃ T id,typeLookup (.type T) "__getitem__"=pure (some (.builtin id))/\s.TypeIs v T/\wpAny (model X.prog X.w) X.A (getItem v (.ref sl)) (EP X pins σ Q) X.xe s
theorem u7.or{r r':V->Option Int->Option Int->Hp->VK->Prop}(h:u7 X r)(h':u7 X r'):u7 X (fun x lo hi H Q=>r x lo hi H Q\/r' x lo hi H Q):=by
 intro pins s σ H x v vl vu lo hi sl Q I rx hs pl pu q;rcases q with q|q
 ·exact h pins s σ H x v vl vu lo hi sl Q I rx hs pl pu q
 ·exact h' pins s σ H x v vl vu lo hi sl Q I rx hs pl pu q
def EV(r:V->Option Int->Option Int->Hp->VK->Prop)(te:TE)(tl th:TO):TE:=fun σ H Q=>te σ H fun x H1=>tl σ H1 fun l H2=>th σ H2 fun u H3=>r x l u H3 Q
theorem xM{r:V->Option Int->Option Int->Hp->VK->Prop}(hr:u7 X r)(he:PE X e te)(hl:PO X lo tl)(hu:PO X hi th):PE X (.Subscript e (.Slice lo hi none p2) pos) (EV r te tl th):=by
 intro pins s σ H Q I h;refine Subscript_ (bZ (he pins s σ H _ I h) fun v s1 zz=>?_);obtain⟨x,H1,I1,r1,q1⟩:=zz;refine wpAny_Slice (bZ (hl pins s1 σ H1 _ I1 q1) fun vl s2 zz=>?_);obtain⟨l,H2,I2,pl,q2⟩:=zz;refine bZ (hu pins s2 σ H2 _ I2 q2) fun vu s3 zz=>?_;obtain⟨u,H3,I3,pu,q3⟩:=zz;rw[evalPart_none];refine wpAny_pure ?_;have I4:Inv X pins σ H3 { s3 with heap:=s3.heap.push { cls:=.type "slice",data:=.fields #[vl,vu,.none] } }:=I3.kept (t':=s3.toks) fun b ob q=>Heap.get?_push_of_some _ q
 obtain⟨T,id,hT,ht,hg⟩:=hr pins { s3 with heap:=s3.heap.push { cls:=.type "slice",data:=.fields #[vl,vu,.none] } } σ H3 x v vl vu l u s3.heap.objs.size Q I4 r1 (Heap.IsSliceOf.new ..) pl pu q3
 show wpAny (model X.prog X.w) X.A (subscriptTail e (.Slice lo hi none p2) v (.ref s3.heap.objs.size)) (EP X pins σ Q) X.xe { s3 with heap:=s3.heap.push { cls:=.type "slice",data:=.fields #[vl,vu,.none] } }
 exact tail_any (ops:=[.ref s3.heap.objs.size,v]) ht hT hg (by with_unfolding_all rfl)
def tN(xs:List V)(lo hi:Option Int):List V:=(xs.drop (HT.sIx xs.length 0 lo)).take (HT.sIx xs.length xs.length hi - HT.sIx xs.length 0 lo)
theorem lH(xs:List V)(lo hi:Option Int):(tN xs lo hi).length<=xs.length:=by
 unfold tN;rw[length_take,length_drop];omega
def Ei(K:Frag):V->Option Int->Option Int->Hp->VK->Prop:=fun x lo hi H Q=>∃ a xs,x=.ref a/\hJ K H a xs/\
 ¬ (HT.sIx xs.length 0 lo=0/\HT.sIx xs.length xs.length hi=xs.length)/\∀ p,H p=none->Q (.ref p) (bB H p (.tup (tN xs lo hi)))
theorem xm:u7 X (Ei X.K):=by
 intro pins s σ H x v vl vu lo hi sl Q I rx hs pl pu h;obtain⟨a,xs,rfl,hx,hw,q⟩:=h;cases rx;obtain⟨its,r,ht,hz⟩:=I.tuple hx;have hlen:its.toArray.size=xs.length:=by rw[size_toArray];exact r.length.symm
 refine⟨"tuple",_,PyProof.Rows.slot_tuple_getitem.lookup,ht.typeIs,?_⟩;refine HT.getItem_tuple_cut ht hs pl pu (by rw[hlen];exact hw) ?_ (by rw[hlen];exact hz)
 rw[hlen];refine⟨.ref s.heap.objs.size,_,I.laid (t':=s.toks) (o:=.tup (tN xs lo hi)) (fun b ob q=>Heap.get?_push_of_some _ q) (le_refl _) ?_,rfl,q _ (I.hok.fresh (le_refl _))⟩;exact⟨le_trans (lH xs lo hi) hz,_,(r.drop (HT.sIx xs.length 0 lo)).take (HT.sIx xs.length xs.length hi - HT.sIx xs.length 0 lo),nM.new _ _⟩
def CN(K:Frag):R2:=fun x y H Q=>∃ a b xs ys,x=.ref a/\y=.ref b/\hJ K H a xs/\hJ K H b ys/\xs≠[]/\xs.length+ys.length<=sizeLine/\
 (ys=[]->Q (.ref a) H)/\(ys≠[]->∀ p,H p=none->Q (.ref p) (bB H p (.tup (xs ++ ys))))
theorem Vals.nil_iff{xs:List V}{us:List Value}(r:Vals xs us):us=[]↔xs=[]:=by
 cases r with
 | nil=>simp
 | cons _ _=>simp
theorem zG:g_ X (binaryOp .Add) (CN X.K):=by
 intro pins s σ H x y v u Q I rx ry h;obtain⟨a,b,xs,ys,rfl,rfl,ha,hb,hx,hz,q1,q2⟩:=h;cases rx;cases ry;obtain⟨its,r1,p1,_⟩:=I.tuple ha;obtain⟨its2,r2,p2,_⟩:=I.tuple hb;refine HT.cat_tup p1 p2 (fun z=>hx (r1.nil_iff.mp z)) (fun z=>⟨.ref a,H,I,rfl,q1 (r2.nil_iff.mp z)⟩) (fun z=>?_) (by rw[<- r1.length,<- r2.length];exact hz)
 refine⟨.ref s.heap.objs.size,_,I.laid (t':=s.toks) (o:=.tup (xs ++ ys)) (fun b ob q=>Heap.get?_push_of_some _ q) (le_refl _) ?_,rfl,q2 (fun w=>z (r2.nil_iff.mpr w)) _ (I.hok.fresh (le_refl _))⟩;exact⟨by rw[length_append];exact hz,_,r1.append r2,nM.new _ _⟩
end
def AI(n:Nat)(i:Int):Option Nat:=if 0<=i then (if i < n then some i.toNat else none)else if -(n:Int)<=i then some (i+n).toNat else none
def g6{α:Type}(xs:List α)(i:Int):Option α:=(AI xs.length i).bind fun j=>xs[j]?
theorem vz{n:Nat}{i:Int}{j:Nat}(h:AI n i=some j):seqIndex? i n=some j/\j < n/\-(n:Int)<=i/\i < n:=by
 unfold AI at h
 by_cases h0:0<=i
 ·rw[if_pos h0]at h
  by_cases h1:i < n
  ·rw[if_pos h1]at h;have e:i.toNat=j:=Option.some.inj h;exact⟨by rw[seqIndex_of h0 h1,e],by walk_at "o",by walk_at "o",h1⟩
  ·rw[if_neg h1]at h;cases h
 ·rw[if_neg h0]at h
  by_cases h1:-(n:Int)<=i
  ·rw[if_pos h1]at h;have e:(i+n).toNat=j:=Option.some.inj h;exact⟨by rw[seqIndex_neg (by walk_at "o") h1,e],by walk_at "o",h1,by walk_at "o"⟩
  ·rw[if_neg h1]at h;cases h
theorem rR{α:Type}{xs:List α}{i:Int}{v:α}(h:g6 xs i=some v):∃ j,seqIndex? i xs.length=some j/\xs[j]?=some v/\j < xs.length/\-(xs.length:Int)<=i/\i < xs.length:=by
 unfold g6 at h;cases e:AI xs.length i with
 | none=>rw[e]at h;cases h
 | some j=>
  rw[e]at h;obtain⟨h1,h2,h3,h4⟩:=vz e;exact⟨j,h1,h,h2,h3,h4⟩
def vM(b:Expr):Prop:=∀ o i,subscripted b false o i=operate [o,i] (getItem o i)
def wQ(X:Cx)(r:R2):Prop:=
 ∀ (value slice:Expr) (pins:List (Addr×Obj)) (s:Shared) (σ:St) (H:Hp) (x y:V) (v u:Value) (Q:VK),Inv X pins σ H s->aD x v->aD y u->r x y H Q->
  subscripted slice false v u=operate [v,u] (getItem v u)->wpAny (model X.prog X.w) X.A (subscriptTail value slice v u) (EP X pins σ Q) X.xe s
def DP(X:Cx)(id:String)(r:V->List V->Hp->VK->Prop):Prop:=
 ∀ (pins:List (Addr×Obj)) (s:Shared) (σ:St) (H:Hp) (x:V) (xs:List V) (v:Value) (us:List Value) (Q:VK),Inv X pins σ H s->aD x v->Vals xs us->r x xs H Q->
  wpAny (model X.prog X.w) X.A (call (.builtin id) (v::us)) (EP X pins σ Q) X.xe s
section
variable{X:Cx}{a b:Expr}{ta tb:TE}{pos:Pos}
theorem wQ.or{r r':R2}(h:wQ X r)(h':wQ X r'):wQ X (fun x y H Q=>r x y H Q\/r' x y H Q):=by
 intro value slice pins s σ H x y v u Q I rx ry q hs;rcases q with q|q
 ·exact h value slice pins s σ H x y v u Q I rx ry q hs
 ·exact h' value slice pins s σ H x y v u Q I rx ry q hs
theorem DP.or{id:String}{r r':V->List V->Hp->VK->Prop}(h:DP X id r)(h':DP X id r'):DP X id (fun x xs H Q=>r x xs H Q\/r' x xs H Q):=by
 intro pins s σ H x xs v us Q I rx rs q;rcases q with q|q
 ·exact h pins s σ H x xs v us Q I rx rs q
 ·exact h' pins s σ H x xs v us Q I rx rs q
theorem CV{r:R2}(hr:wQ X r)(ha:PE X a ta)(hb:PE X b tb)(hs:vM b):PE X (.Subscript a b pos) (Cw r ta tb):=by
 intro pins s σ H Q I h;exact Subscript_ (Dq ha hb I h fun v u s2 x y H2 I2 rx ry q=>hr a b pins s2 σ H2 x y v u Q I2 rx ry q (hs _ _))
def CM(K:Frag):R2:=fun x y H Q=>∃ p xs i v,x=.ref p/\y=.int i/\i0 K H p xs/\g6 xs i=some v/\Q v H
def CK(K:Frag):R2:=fun x y H Q=>∃ p xs i v,x=.ref p/\y=.int i/\hJ K H p xs/\g6 xs i=some v/\Q v H
def CL:R2:=fun x y H Q=>∃ z i c,x=.str z/\y=.int i/\z.length<=sizeLine/\g6 z.cps.toList i=some c/\Q (.str ⟨#[c]⟩) H
theorem zX:wQ X (CM X.K):=by
 intro value slice pins s σ H x y v u Q I rx ry h hs;obtain⟨p,xs,i,z,rfl,rfl,hq,he,q⟩:=h;cases rx;obtain⟨t,rfl⟩:=ry;obtain⟨its,r,pl,hz⟩:=I.list hq;obtain⟨j,h1,h2,h3,h4,h5⟩:=rR he;obtain⟨w,ew,rw'⟩:=r.get h2;have hl:=r.length;have hn:=iH;have fin:EP X pins σ Q w s:=⟨z,H,I,rw',q⟩
 by_cases h0:0<=i
 ·have hj:i.toNat=j:=by
   rw[seqIndex_of h0 h5]at h1;exact Option.some.inj h1
  exact item_listR pl.isList h0 (by walk_at "o") (by rw[hj];simpa using ew) fin hs
 ·have hj:(i+(its.toArray.size:Int)).toNat=j:=by
   rw[seqIndex_neg (by walk_at "o") h4]at h1
   rw[size_toArray,<- hl];exact Option.some.inj h1
  exact subscriptTail_builtinR (x:=w) pl.isList.typeIs slot_list_getitem.lookup
   (wpAny_getItem_list_neg (Q:=fun r s'=>r=w/\EP X pins σ Q r s') pl.isList (by walk_at "o") (by rw[size_toArray]<;>omega) (by walk_at "o") (by rw[hj];simpa using ew) ⟨rfl,fin⟩) hs
theorem BU:wQ X (CK X.K):=by
 intro value slice pins s σ H x y v u Q I rx ry h hs;obtain⟨p,xs,i,z,rfl,rfl,hq,he,q⟩:=h;cases rx;obtain⟨t,rfl⟩:=ry;obtain⟨its,r,pl,hz⟩:=I.tuple hq;obtain⟨j,h1,h2,h3,h4,h5⟩:=rR he;obtain⟨w,ew,rw'⟩:=r.get h2;have hl:=r.length;have hn:=iH;have fin:EP X pins σ Q w s:=⟨z,H,I,rw',q⟩;exact subscriptTail_builtinR (x:=w) pl.typeIs slot_tuple_getitem.lookup
  (getItem_tuple (j:=j) (Q:=fun r s'=>r=w/\EP X pins σ Q r s') pl (by walk_at "o") (by walk_at "o") (by rw[size_toArray,<- hl];exact h1) (by simpa using ew) ⟨rfl,fin⟩) hs
theorem BV:wQ X CL:=by
 intro value slice pins s σ H x y v u Q I rx ry h hs;obtain⟨z,i,c,rfl,rfl,hz,he,q⟩:=h;obtain⟨t,rfl⟩:=rx;obtain⟨t',rfl⟩:=ry;obtain⟨j,h1,h2,h3,h4,h5⟩:=rR he;have hl:z.cps.toList.length=z.length:=by simp[Str.length]
 rw[hl]at h1 h4 h5;have hn:=iH;exact tail_any (typeIs_str s z t) slot_str_getitem.lookup (getItem_str (c:=c) (by
  have e1:decide (i < -(2 ^ 63:Int))=false:=decide_eq_false (by walk_at "o")
  have e2:decide (i>=2 ^ 63)=false:=decide_eq_false (by walk_at "o")
  rw[e1,e2,Bool.or_false]) (by rw[h1];simpa using h2) ⟨.str ⟨#[c]⟩,H,I.tok _,⟨_,rfl⟩,q⟩) hs
def EZ(K:Frag):R2:=fun x y H Q=>CM K x y H Q\/CK K x y H Q\/CL x y H Q
theorem BW:wQ X (EZ X.K):=zX.or (BU.or BV)
theorem uH(its:List Value)(n j:Nat)(u:Value):Obj.mapSeq (·.setIfInBounds j u) { cls:=.type "list",data:=.seq its.toArray n }={ cls:=.type "list",data:=.seq (its.set j u).toArray n }:=by
 simp[Obj.mapSeq]
theorem Inv.lst{pins:List (Addr×Obj)}{σ:St}{H:Hp}{s:Shared}{p:Addr}{xs:List V}(I:Inv X pins σ H s)(h:H p=some (.lst xs)):
  ∃ (its:List Value) (n:Nat),Vals xs its/\s.heap.get? p=some { cls:=.type "list",data:=.seq its.toArray n }/\xs.length<=sizeLine:=by
 obtain⟨z,its,n,r,e⟩:=I.hok p _ h;exact⟨its,n,r,e,z⟩
theorem Inv.lstUpd{pins:List (Addr×Obj)}{σ:St}{H:Hp}{s:Shared}{p:Addr}{xs ys:List V}{its its':List Value}{n n':Nat}{f:Obj->Obj}(I:Inv X pins σ H s)(h:H p=some (.lst xs))
  (ho:s.heap.get? p=some { cls:=.type "list",data:=.seq its.toArray n }) (hf:f { cls:=.type "list",data:=.seq its.toArray n }={ cls:=.type "list",data:=.seq its'.toArray n' }) (r:Vals ys its') (hz:ys.length<=sizeLine) (t:Nat):
  Inv X pins σ (bB H p (.lst ys)) { s with heap:=s.heap.update p f,toks:=t }:=by
 have e:(s.heap.update p f).get? p=some { cls:=.type "list",data:=.seq its'.toArray n' }:=by
  rw[Heap.get?_update_self f ho (by rw[hf]<;>rfl),hf]
 refine I.write (x:=p) (e:=p) (by rw[h];trivial) (.inl rfl) (fun b u hb q=>(Heap.get?_update_other _ _ (Ne.symm hb)).trans q) ⟨_,e⟩ ?_
 exact⟨hz,its',n',r,e⟩
def CJ:V->V->V->Hp->(Hp->Prop)->Prop:=fun o i v H Q=>∃ p xs k j,o=.ref p/\i=.int k/\H p=some (.lst xs)/\AI xs.length k=some j/\Q (bB H p (.lst (xs.set j v)))
theorem xo:Ch X CJ:=by
 intro pins s σ H o i v ov iv u Q I ro ri rv h;obtain⟨p,xs,k,j,rfl,rfl,hp,hj,q⟩:=h;cases ro;obtain⟨t,rfl⟩:=ri;obtain⟨its,n,r,ho,hz⟩:=I.lst hp;obtain⟨h1,h2,h3,h4⟩:=vz hj;have hl:=r.length;have hn:=iH;have I':Inv X pins σ (bB H p (.lst (xs.set j v))) { s with heap:=s.heap.update p (Obj.mapSeq (·.setIfInBounds j u)) }:=
  I.lstUpd hp ho (uH its n j u) (r.set rv j) (by rw[List.length_set];exact hz) s.toks
 by_cases h0:0<=k
 ·have hk:k.toNat=j:=by
   rw[seqIndex_of h0 h4]at h1;exact Option.some.inj h1
  exact PySem.W.ki_setAt ho h0 (by walk_at "o") (by rw[size_toArray,<- hl];exact h4) (by rw[hk];exact⟨_,I',q⟩)
 ·have hk:(k+(its.toArray.size:Int)).toNat=j:=by
   rw[seqIndex_neg (by walk_at "o") h3]at h1
   rw[size_toArray,<- hl];exact Option.some.inj h1
  exact PySem.W.ki_setBack ho (by walk_at "o") (by rw[size_toArray,<- hl];exact h3) (by walk_at "o") (by rw[hk];exact⟨_,I',q⟩)
theorem qc(lo hi:Option Int)(n:Nat):(sliceBounds lo hi none n).1=((HT.sIx n 0 lo:Nat):Int)/\(sliceBounds lo hi none n).2.1=((HT.sIx n n hi:Nat):Int)/\(sliceBounds lo hi none n).2.2=1:=by
 refine⟨?_,?_,rfl⟩
 ·cases lo with
  | none=>simp[sliceBounds,HT.sIx]
  | some i=>
   simp only[sliceBounds,HT.sIx,Option.getD_none,show (1:Int) > 0 by decide,if_true]
   by_cases h:i < 0
   ·simp only[h,if_true]<;>omega
   ·simp only[h,if_false]<;>omega
 ·cases hi with
  | none=>simp[sliceBounds,HT.sIx]
  | some i=>
   simp only[sliceBounds,HT.sIx,Option.getD_none,show (1:Int) > 0 by decide,if_true]
   by_cases h:i < 0
   ·simp only[h,if_true]<;>omega
   ·simp only[h,if_false]<;>omega
theorem nU(its:List Value)(lo hi:Option Int):slicePick its.toArray lo hi none=((its.drop (HT.sIx its.length 0 lo)).take (HT.sIx its.length its.length hi - HT.sIx its.length 0 lo)).toArray:=by
 obtain⟨h1,h2,h3⟩:=qc lo hi its.toArray.size;unfold slicePick;rw[h1,h2,h3];simp only[sliceRange_one,pick_run,size_toArray]<;>rfl
def Ej(K:Frag):V->Option Int->Option Int->Hp->VK->Prop:=fun x lo hi H Q=>∃ a xs,x=.ref a/\i0 K H a xs/\∀ p,H p=none->Q (.ref p) (bB H p (.lst (tN xs lo hi)))
theorem y8:u7 X (Ej X.K):=by
 intro pins s σ H x v vl vu lo hi sl Q I rx hs pl pu h;obtain⟨a,xs,rfl,hx,q⟩:=h;cases rx;obtain⟨its,r,ht,hz⟩:=I.list hx;have hlen:=r.length;refine⟨"list",_,slot_list_getitem.lookup,ht.isList.typeIs,?_⟩;refine wpAny_getItem_list_slice ht.isList hs pl pu .none (by simp) ?_ (by rw[size_toArray]<;>omega)
 rw[nU,<- hlen];refine⟨.ref s.heap.objs.size,_,I.laid (t':=s.toks) (o:=.lst (tN xs lo hi)) (fun b ob q=>Heap.get?_push_of_some _ q) (le_refl _) ?_,rfl,q _ (I.hok.fresh (le_refl _))⟩;exact⟨le_trans (lH xs lo hi) hz,_,0,(r.drop (HT.sIx xs.length 0 lo)).take (HT.sIx xs.length xs.length hi - HT.sIx xs.length 0 lo),Heap.get?_push_size _ rfl⟩
theorem rM:eE X (.builtin "len") (fun xs H Q=>∃ p ys,xs=[.ref p]/\(i0 X.K H p ys\/hJ X.K H p ys)/\Q (.int ys.length) H):=by
 intro pins s σ H xs us Q I r h;obtain⟨p,ys,rfl,hq,q⟩:=h;obtain⟨u,rfl,rx⟩:=o6 r;cases rx;have hn:=iH;rcases hq with hq|hq
 ·obtain⟨its,r',pl,hz⟩:=I.list hq;have hlen:=r'.length;exact Calls.call_len_list pl.isList (by simp only[size_toArray]<;>omega) ⟨.int ys.length,H,I.tok _,⟨s.toks+1,by rw[size_toArray,hlen]⟩,q⟩
 ·obtain⟨its,r',pl,hz⟩:=I.tuple hq;have hlen:=r'.length;exact len_tuple pl (by simp only[size_toArray]<;>omega) ⟨.int ys.length,H,I.tok _,⟨s.toks+1,by rw[size_toArray,hlen]⟩,q⟩
theorem rL:eE X (.builtin "len") (fun xs H Q=>∃ z,xs=[.str z]/\z.length<=sizeLine/\Q (.int z.length) H):=by
 intro pins s σ H xs us Q I r h;obtain⟨z,rfl,hz,q⟩:=h;obtain⟨u,rfl,t,rfl⟩:=o6 r;have hn:=iH;exact len_str (by walk_at "o") ⟨.int z.length,H,I.tok _,⟨_,rfl⟩,q⟩
theorem eE.or{f:Value}{r r':List V->Hp->VK->Prop}(h:eE X f r)(h':eE X f r'):eE X f (fun xs H Q=>r xs H Q\/r' xs H Q):=by
 intro pins s σ H xs us Q I rs q;rcases q with q|q
 ·exact h pins s σ H xs us Q I rs q
 ·exact h' pins s σ H xs us Q I rs q
theorem rK:eE X (.type "list") (fun xs H Q=>∃ p ys,xs=[.ref p]/\(i0 X.K H p ys\/hJ X.K H p ys)/\∀ l,H l=none->Q (.ref l) (bB H l (.lst ys))):=by
 intro pins s σ H xs us Q I r h;obtain⟨p,ys,rfl,hq,q⟩:=h;obtain⟨u,rfl,rx⟩:=o6 r;cases rx;have fin:∀ (its:List Value),Vals ys its->ys.length<=sizeLine->∀ (h':Heap) (c':Nat),(∀ b o',s.heap.get? b=some o'->h'.get? b=some o')->
   h'.get? s.heap.objs.size=some { cls:=.type "list",dict:=none,data:=.seq its.toArray c',slots:=#[] }->EP X pins σ Q (.ref s.heap.objs.size) { s with heap:=h' }:=fun its r' hz h' c' kp e=>
  ⟨.ref s.heap.objs.size,_,I.laid (t':=s.toks) kp (le_refl _) (show bK X.prog X.w _ h' _ (.lst ys)from ⟨hz,its,c',r',e⟩),rfl,q _ (I.hok.fresh (le_refl _))⟩
 rcases hq with hq|hq
 ·obtain⟨its,r',pl,hz⟩:=I.list hq;have hlen:=r'.length;obtain⟨o,ho,hc,n,hd⟩:=pl.isList;exact call_list_seq p (.inl rfl) ho hc hd (fun h' c' kp e=>fin its r' hz h' c' kp e) (by simp only[size_toArray]<;>omega)
 ·obtain⟨its,r',pl,hz⟩:=I.tuple hq;have hlen:=r'.length;obtain⟨o,ho,hc,n,hd⟩:=pl;exact call_list_seq p (.inr rfl) ho hc hd (fun h' c' kp e=>fin its r' hz h' c' kp e) (by simp only[size_toArray]<;>omega)
theorem oV:eE X (.type "tuple") (fun xs H Q=>∃ p ys,xs=[.ref p]/\((i0 X.K H p ys/\∀ l,H l=none->Q (.ref l) (bB H l (.tup ys)))\/(hJ X.K H p ys/\Q (.ref p) H))):=by
 intro pins s σ H xs us Q I r h;obtain⟨p,ys,rfl,h⟩:=h;obtain⟨u,rfl,rx⟩:=o6 r;cases rx;rcases h with ⟨hq,q⟩|⟨hq,q⟩
 ·obtain⟨its,r',pl,hz⟩:=I.list hq;have hlen:=r'.length;refine call_tuple_list pl.isList (fun h' kp=>?_) (by simp only[size_toArray]<;>omega)
  have I1:Inv X pins σ H { s with heap:=h' }:=I.kept (t':=s.toks) kp
  have I2:Inv X pins σ (bB H h'.objs.size (.tup ys)) { s with heap:=h'.push { cls:=.type "tuple",data:=.seq its.toArray } }:=
   I1.laid (t':=s.toks) (fun b o e=>Heap.get?_push_of_some _ e) (le_refl _) (show bK X.prog X.w _ _ _ (.tup ys)from ⟨hz,its,r',nM.new _ _⟩)
  exact⟨.ref h'.objs.size,_,I2,rfl,q _ (I1.hok.fresh (le_refl _))⟩
 ·obtain⟨its,r',pl,hz⟩:=I.tuple hq;exact call_tuple_same pl ⟨.ref p,H,I,rfl,q⟩
def EQ(K:Frag)(T:String)(x:V)(H:Hp):Prop:=match x with
 | .str _=>T="str"
 | .int _=>T="int"
 | .ref p=>(T="list"/\∃ xs,i0 K H p xs)\/(T="tuple"/\∃ o,K.lookup p=some o/\o.cls=.type "tuple"/\o.dict=none)\/
   (T="dict"/\((∃ kvs,H p=some (.dK kvs))\/∃ kvs,H p=some (.dT kvs)))\/(T="set"/\∃ S n,H p=some (.set S n))
 | _=>False
theorem A0{pins:List (Addr×Obj)}{σ:St}{H:Hp}{s:Shared}{T:String}{x:V}{v:Value}(I:Inv X pins σ H s)(r:aD x v)(ty:EQ X.K T x H):
  s.TypeIs v T/\∀ a,v=.ref a->∃ ob,s.heap.get? a=some ob/\ob.dict=none:=by
 cases x with
 | str z=>
  obtain⟨t,rfl⟩:=r;cases (show T="str" from ty)
  exact⟨typeIs_str s z t,fun _ e=>nomatch e⟩
 | int i=>
  obtain⟨t,rfl⟩:=r;cases (show T="int" from ty)
  exact⟨typeIs_int s i t,fun _ e=>nomatch e⟩
 | ref p=>
  cases r;rcases ty with ⟨rfl,xs,hq⟩|⟨rfl,o,hk,hc,hd⟩|⟨rfl,hk⟩|⟨rfl,S,n,hk⟩
  ·obtain⟨its,_,pl,_⟩:=I.list hq;refine⟨pl.isList.typeIs,fun a e=>?_⟩;cases e;obtain⟨o,n,e,c,hd,_⟩:=pl;exact⟨o,e,hd⟩
  ·refine⟨⟨o,I.kIn p o hk,hc⟩,fun a e=>?_⟩;cases e;exact⟨o,I.kIn _ o hk,hd⟩
  ·have z:∃ o,s.heap.get? p=some o/\o.ExactDict:=by
    rcases hk with ⟨kvs,hk⟩|⟨kvs,hk⟩
    ·obtain⟨_,_,_,_,o,_,_,e,ex,_⟩:=I.hok p _ hk;exact⟨o,e,ex⟩
    ·obtain⟨_,_,_,_,o,_,_,e,ex,_⟩:=I.hok p _ hk;exact⟨o,e,ex⟩
   obtain⟨o,e,ex⟩:=z;refine⟨⟨o,e,ex.1⟩,fun a e2=>?_⟩;cases e2;exact⟨o,e,ex.2.1⟩
  ·obtain⟨o,_,_,_,e,ex,_⟩:=I.hok p _ hk;refine⟨⟨o,e,ex.1⟩,fun a e2=>?_⟩;cases e2;exact⟨o,e,ex.2.1⟩
 | _=>exact False.elim ty
def EY(K:Frag)(T:String)(r:V->List V->Hp->VK->Prop)(to:TE)(t:TA):TE:=fun σ H Q=>to σ H fun x H1=>EQ K T x H1/\t σ H1 fun xs H2=>r x xs H2 Q
variable{o e:Expr}{es:List Expr}{to:TE}{t:TA}{name:Str}{apos cpos:Pos}{T id:String}{r:V->List V->Hp->VK->Prop}
theorem CY(pa:PlainAttrs T)(slot:Slot T name id)(hty:typeOf (.builtin id)=pure (.type "method_descriptor"))(hm:DP X id r)(ho:PE X o to)(ha:PA X (e::es) t)
  (hbase:attributeBase o name X.env (eval o X.env)=eval o X.env:=by rfl)
  (hfew:((backTo cpos (starEach (e::es) X.env)).all (fun x=>!x.1) && (backToKw cpos (keywordEach [] X.env)).all (fun x=>x.1.isSome)
   && decide ((e::es).length+([]:List Keyword).length+(if ([]:List Keyword).isEmpty then 0 else 1) < 30))=true:=by rfl)
  (hline:(apos.endLine == cpos.line)=true:=by rfl) (hs:starEach (e::es) X.env=(false,eval e X.env)::starEach es X.env:=by rfl) (hplain:(backTo cpos (starEach es X.env)).any (·.1)=false:=by rfl):
  PE X (.Call (.Attribute o name apos) (e::es) [] cpos) (EY X.K T r to t):=by
 intro pins s σ H Q I h;refine wpAny_Call_method_late hbase hfew hline rfl (bZ (ho pins s σ H _ I h) fun v s1 zz=>?_);obtain⟨x,H1,I1,r1,ty,q1⟩:=zz;obtain⟨h1,h2⟩:=A0 I1 r1 ty;refine⟨T,id,pa,slot,hty,h1,h2,?_⟩;have hA:=ha cpos pins s1 σ H1 _ I1 q1;rw[hs]at hA ⊢;refine Calls.callWith_builtin (by show (false || (backTo cpos (starEach es X.env)).any (·.1))=false;rw[hplain]<;>rfl) (Calls.evalArgs_plain ?_)
 exact bZ hA fun us s2 ⟨vs,H2,I2,r2,q2⟩=>hm pins s2 σ H2 x vs v us Q I2 r1 r2 q2
end
def E9(X:Cx)(id:String)(r:V->List V->Hp->VK->Prop):Prop:=
 ∀ (pins:List (Addr×Obj)) (s:Shared) (σ:St) (H:Hp) (x:V) (xs:List V) (v:Value) (us:List Value) (Q:VK),Inv X pins σ H s->aD x v->Vals xs us->r x xs H Q->
  wpAny (model X.prog X.w) X.A (call (.builtin id) (v::us)) (EP X pins σ Q) X.xe s
theorem Vals.one:∀ {x:V} {us:List Value},Vals [x] us->∃ u,us=[u]/\aD x u
 | _,_,.cons r .nil=>⟨_,rfl,r⟩
theorem Vals.two:∀ {x y:V} {us:List Value},Vals [x,y] us->∃ u v,us=[u,v]/\aD x u/\aD y v
 | _,_,_,.cons r (.cons q .nil)=>⟨_,_,rfl,r,q⟩
theorem Vals.reverse{xs:List V}{us:List Value}(h:Vals xs us):Vals xs.reverse us.reverse:=by
 induction h with
 | nil=>exact .nil
 | cons r t ih=>rw[List.reverse_cons,List.reverse_cons];exact Vals.append ih (.cons r .nil)
section
variable{X:Cx}{pins:List (Addr×Obj)}{σ:St}{H:Hp}{s:Shared}{l b:Addr}{xs ys zs:List V}
theorem Inv.lset{its its':List Value}{n:Nat}{f:Array Value->Array Value}{t':Nat}(I:Inv X pins σ H s)(hH:H l=some (.lst xs))
  (e:s.heap.get? l=some { cls:=.type "list",data:=.seq its.toArray n }) (hf:f its.toArray=its'.toArray) (hv:Vals ys its') (hz:ys.length<=sizeLine):
  Inv X pins σ (bB H l (.lst ys)) { s with heap:=s.heap.update l (Obj.mapSeq f),toks:=t' }:=by
 have q:=PySem.IsL.update e f;rw[hf]at q;refine I.write (x:=l) (e:=l) (by rw[hH];exact trivial) (.inl rfl) (fun b' u hb hu=>(Heap.get?_update_other s.heap (Obj.mapSeq f) (Ne.symm hb)).trans hu) ⟨_,q⟩ ?_
 exact⟨hz,its',_,hv,q⟩
theorem Inv.lnew{its:List Value}{t':Nat}(I:Inv X pins σ H s)(hv:Vals ys its)(hz:ys.length<=sizeLine):
  Inv X pins σ (bB H s.heap.objs.size (.lst ys)) { s with heap:=s.heap.push { cls:=.type "list",data:=.seq its.toArray },toks:=t' }:=
 I.laid (fun _ _ q=>Heap.get?_push_of_some _ q) (le_refl _) ⟨hz,its,0,hv,Heap.get?_push_size _ rfl⟩
theorem Inv.fresh(I:Inv X pins σ H s):H s.heap.objs.size=none:=I.hok.fresh (le_refl _)
theorem Inv.lstM(I:Inv X pins σ H s)(hH:H l=some (.lst xs)):xs.length<=sizeLine/\∃ (its:List Value) (n:Nat),Vals xs its/\xs.length=its.length/\s.heap.get? l=some { cls:=.type "list",data:=.seq its.toArray n }:=by
 obtain⟨z,its,n,r,e⟩:=I.hok l _ hH;exact⟨z,its,n,r,r.length,e⟩
end
section
variable{X:Cx}
def rAppend:V->List V->Hp->VK->Prop:=fun x vs H Q=>∃ l xs y,x=.ref l/\vs=[y]/\H l=some (.lst xs)/\xs.length < sizeLine/\Q .non (bB H l (.lst (xs ++ [y])))
theorem pD:E9 X "list.append" rAppend:=by
 intro pins s σ H x vs v us Q I rx rv h;obtain⟨l,xs,y,rfl,rfl,hH,hz,q⟩:=h;cases rx;obtain⟨u,rfl,ru⟩:=rv.one;obtain⟨z,its,n,r,hl,e⟩:=I.lstM hH;refine call_meets F.slot_list_append ⟨_,e,rfl⟩ F.entry_list_append (F.args_list_append_2 _ _) (PySem.list_append l its.toArray n u (by rw[size_toArray];omega)) ⟨e,?_⟩
 refine⟨.non,_,I.lset (its':=its ++ [u]) hH e (by simp) (r.append (.cons ru .nil)) ?_,rfl,q⟩
 rw[length_append,List.length_singleton];omega
theorem vt{α:Type}(xs:List α)(k:Nat):(List.replicate k xs).flatten.length=k*xs.length:=by
 induction k with
 | zero=>simp
 | succ k ih=>rw[List.replicate_succ,List.flatten_cons,length_append,ih,Nat.succ_mul,Nat.add_comm]
end
end L2
namespace Att
open PySem PySem.W PySem.Calls PyProof.Rows
theorem me{P:Params}{h:Heap}:∀ (ns:List Int) (vs:List Value),WellAll P h vs (ns.map WData.int)->IntsAre vs ns:=by
 intro ns
 induction ns with
 | nil=>
  intro vs w;rw[map_nil]at w;cases w;exact .nil
 | cons n ns ih=>
  intro vs w;rw[map_cons]at w;cases w with
  | cons a b=>
   cases a;exact .cons _ _ (ih _ b)
theorem vU{l:OpenLaw}{n:Nat}(hn:l.most=some n){P:Params}{h:Heap}{args:List WData}{vals:List Value}
  (hpre:l.row.toRowW.claim.pre args=true) (hwl:WellAll P h vals args):
  ∃ a vs ns,vals=[Value.ref a]/\args=[WData.list (ns.map WData.int)]/\h.get? a=some { cls:=.type "list",data:=.seq vs.toArray }/\IntsAre vs ns/\ns.length<=n:=by
 have hsh:WShape.hasAll [] args [.list .int]=true:=(pre_splitW hpre).1;have hc:l.pre.holds [] { args:=args }=true:=(pre_splitW hpre).2;obtain⟨d,r,rfl,h1,h2⟩:=hasAllW_cons hsh;obtain rfl:=hasAllW_nil h2;obtain⟨xs,rfl,h3⟩:=hasW_list h1;obtain⟨ns,rfl⟩:=items_int h3;have hlen:ns.length<=n:=by
  unfold OpenLaw.pre at hc;have h4:(WTm.not (.lt (.lit (.int (n:Int))) (.len (.arg 0)))).holds [] { args:=[.list (ns.map .int)] }=true:=by
   have h4:=(holds_andW hc).1;rw[hn]at h4;exact h4
  have h5:=condW_of h4 (w_not (w_lt w_lit (w_len_list (w_arg rfl))));rw[length_map]at h5;refine Nat.le_of_not_lt fun q=>?_;have q':(n:Int) < ((ns.length:Nat):Int):=by walk_at "o"
  first
   | (rw[decide_eq_true q']at h5;exact absurd h5 (by decide))
   | (simp at h5;omega)
 cases hwl with
 | cons w1 w2=>
  cases w2;cases w1 with
  | list ho hall=>exact⟨_,_,ns,rfl,rfl,ho,me ns _ hall,hlen⟩
theorem vZ(l:OpenLaw)(args:List WData):l.row.toRowW.claim.post args (.bool true) args=true:=
 postW_of (r:=l.row.toRowW) (X:=(true == true))
  (show WShape.has [] (.bool true) .bool=true by first|rfl|decide|simp[WShape.has,WShape.arms,WShape.armsAll])
  (show (WTm.eq .res (.lit (.bool true))).value [] { args:=args,res:=some (.bool true),after:=args }=some (.bool (true == true))from w_eq_bool (w_res rfl) w_lit) rfl
theorem attach_call{l:OpenLaw}{n:Nat}{q:Program}{loose:List Str}{XP:(Str->Option Value)->Heap->Prop}{YP:World->Heap->Prop}{d:DefRec}
  (hn:l.most=some n) (hdf:d.params.defaults=[])
  (call:∀ (w:World) (s₀ s₁:Shared) (mg mb:Str->Option Value) (fa:Addr) (o:Obj) (pm cd doc:Value) (a:Addr) (vs:List Value) (ns:List Int),
   Ground q loose [] XP w s₀ mg mb s₁.heap->YP w s₁.heap->
   s₁.heap.get? fa=some o->o.data=.func (docDef d.name d.params d.body d.scope pm cd doc)->s₁.heap.CodeRec cd d.name->mg d.name=some (.ref fa)->
   s₁.heap.get? a=some { cls:=.type "list",data:=.seq vs.toArray }->IntsAre vs ns->ns.length<=n->s₁.gens=#[]->
   codeAny (model l.prog w) callerA (.call (.ref fa) ⟨[.ref a],[]⟩) (fun r s'=>r=.ok (.ret (.bool true))/\OldK s₁.heap s'.heap/\s'.os=s₁.os/\AllBare s'.gens) s₁):
  WalkO q loose XP YP l.row.toRowW d [] (fun f vs=>PySem.call f vs):=by
 intro w s₀ s₁ mg mb G Y fa o pm cd doc dV kV ho hd hcd hD hmg hg args vals as hpre hlay hrd hwl hlo;obtain rfl:dV=.none:=Dflts.none hD hdf;obtain rfl:kV=.none:=Dflts.noKw hD;obtain⟨a,vs,ns,rfl,rfl,hobj,hints,hlen⟩:=vU hn hpre hwl;refine enter_call (codeAny_mono (call w s₀ s₁ mg mb fa o pm cd doc a vs ns G Y ho (fd_plain hd) hcd hmg hobj hints hlen hg) fun r s' hq=>?_);obtain⟨rfl,h2,h3,h4⟩:=hq;exact⟨.inl ⟨.bool true,.bool true,[],rfl,fun _=>rfl,.bool true,vZ l _,fun _=>⟨List.Pairwise.nil,fun _ hm=>(nomatch hm)⟩⟩,h2,h3,h4⟩
end Att
namespace L2
open PySem PySem.Spec PyProof.Rows
theorem o0:∀ {vs:List Value} {ns:List Int},IntsAre vs ns->Vals (ns.map V.int) vs
 | _,_,.nil=>.nil
 | _,_,.cons n t h=>.cons ⟨t,rfl⟩ (o0 h)
def As(H:Hp):Prop:=∀ b,H b=none\/∃ o xs,H b=some (.frz o (.lst xs))
theorem yc{P:Program}{w:World}{K:Frag}{mg mb:Str->Option Value}{CX:wU}{k:Nat}{fa a:Addr}{fd:FuncData}{x:Str}{sp:Sp}{s₁:Shared}{vs:List Value}{ns:List Int}
  (KX:K.In s₁.heap) (hns:s₁.heap.Ns mainGlobals mg) (hb:s₁.heap.Ns builtinsNs mb) (hbb:∀ x:Str,x≠"__name__"->mb x=bootBuiltins x) (hlim:s₁.heap.NoLimit) (hg:s₁.gens=#[])
  (ha:s₁.heap.get? a=some { cls:=.type "list",data:=.seq vs.toArray }) (hi:IntsAre vs ns) (hl:ns.length<=sizeLine) (hr:Room k callerA)
  (F:∀ base:Heap,K.In base->base.Ns mainGlobals mg->FnOk P w K mg base CX k fa fd [x] sp) (hbind:∀ (s:Shared) (u:Value),BindsTo s fd ⟨[u],[]⟩ [(x,u)])
  (hsp:∀ H:Hp,As H->i0 K H a (ns.map V.int)->sp [.ref a] H (fun v _=>v=.bl true) fun _ _ _=>False)
  (hCX:∀ H e s',CX [] H s₁ (fun _ _ _=>False) e s'->False):
  codeAny (model P w) callerA (.call (.ref fa) ⟨[.ref a],[]⟩) (fun r s'=>r=.ok (.ret (.bool true))/\OldK s₁.heap s'.heap/\s'.os=s₁.os/\AllBare s'.gens) s₁:=by
 have rv:=o0 hi;have lenV:=hi.length;have core:∀ H:Hp,As H->i0 K H a (ns.map V.int)->i3 P w H s₁.heap->(∀ b,H b≠none->b=a)->(H a≠none->K.lookup a=none)->
   codeAny (model P w) callerA (.call (.ref fa) ⟨[.ref a],[]⟩) (fun r s'=>r=.ok (.ret (.bool true))/\OldK s₁.heap s'.heap/\s'.os=s₁.os/\AllBare s'.gens) s₁:=by
  intro H hO hS hok hA hK;have base_of:∀ {b:Addr} {o:Obj},s₁.heap.get? b=some o->H b=none->(rf s₁.heap H).get? b=some o:=fun e n=>ym e n;have noA:∀ {b:Addr} {o:Obj} {es:Array DictEntry} {ep:Nat},s₁.heap.get? b=some o->o.data=.dict es ep->H b=none:=fun {b o es ep} e d=>by
   cases q:H b with
   | none=>rfl
   | some u=>
    have e':b=a:=hA b (by rw[q];simp)
    subst e';rw[ha]at e;cases e;have d':Data.seq vs.toArray _=Data.dict es ep:=d;cases d'
  have nsK:∀ {b:Addr} {m:Str->Option Value},s₁.heap.Ns b m->(rf s₁.heap H).Ns b m:=fun {b m} ⟨o,es,ep,e,d,r⟩=>⟨o,es,ep,base_of e (noA e d),d,r⟩;have hKb:K.In (rf s₁.heap H):=fun b o e=>base_of (KX b o e) (by
   cases q:H b with
   | none=>rfl
   | some u=>
    have e':b=a:=hA b (by rw[q];simp)
    subst e';rw[hK (by rw[q];simp)]at e;cases e)
  have hM:Mod K mg (rf s₁.heap H):=⟨hKb,nsK hns,⟨mb,nsK hb,hbb⟩,let ⟨mc,h1,h2⟩:=hlim;⟨mc,nsK h1,h2⟩⟩;have e0:Env0 P w K mg (rf s₁.heap H) callerA [] s₁ H:=⟨rfl,hM,fun b o e=>zI e,Nat.le_of_eq (wC _ _),trivial,fun b hb=>absurd (show b∈([]:List Addr)from hb) (by simp),hok,.of_eq hg⟩
  refine codeAny_mono ((F _ hKb (nsK hns)).run callerA [] s₁ H ⟨[.ref a],[]⟩ [.ref a] [.ref a] _ _ hr e0 (hbind s₁ (.ref a)) (.cons rfl .nil) (hsp H hO hS)) fun r s' h=>?_;cases r with
  | error e=>exact (hCX H e s' h).elim
  | ok fl=>
   cases fl with
   | next=>exact False.elim h
   | brk=>exact False.elim h
   | cont=>exact False.elim h
   | ret u=>
    obtain⟨v,H',os,bare,un,hok',r',q⟩:=h;have q':v=.bl true:=q;subst q';obtain rfl:u=Value.bool true:=r';refine⟨rfl,OldK.of_keep fun b o e=>?_,os,bare⟩;cases q:H b with
    | none=>exact un.keep b o e q (by intro z;exact absurd (show b∈([]:List Addr)from z) (by simp)) (by simp)
    | some u=>
     rcases hO b with z|⟨ob,xs,z⟩
     ·rw[q]at z;cases z
     ·have z2:=un.frzs b ob _ z;obtain⟨e1,_⟩:=hok b _ z;obtain⟨e2,_⟩:=hok' b _ z2;rw[e]at e1;cases e1;exact e2
 cases hk:K.lookup a with
 | some o=>
  have e:=KX a o hk;rw[ha]at e;cases e;refine core (fun _=>none) (fun _=>.inl rfl) (.inr ⟨_,vs.toArray,_,hk,rfl,rfl,rfl,by rw[size_toArray,lenV];exact hl,by simpa using rv⟩) (fun b u z=>by have z':(none:Option HO)=some u:=z;cases z') (fun b z=>absurd rfl z) fun z=>absurd rfl z
 | none=>
  refine core (fun b=>if b=a then some (.frz { cls:=.type "list",data:=.seq vs.toArray } (.lst (ns.map V.int)))else none) (fun b=>?_) (.inl (.inr ⟨{ cls:=.type "list",data:=.seq vs.toArray },if_pos rfl⟩)) (fun b u z=>?_) (fun b z=>?_) fun _=>hk
  ·by_cases hb:b=a
   ·exact .inr ⟨_,_,if_pos hb⟩
   ·exact .inl (if_neg hb)
  ·by_cases hb:b=a
   ·have z':=(if_pos hb).symm.trans z;cases z';subst hb;exact⟨ha,by rw[length_map];exact hl,vs,_,rv,ha⟩
   ·have z':=(if_neg hb).symm.trans z;cases z'
  ·by_cases hb:b=a
   ·exact hb
   ·exact absurd (if_neg hb) z
abbrev Fa{K:Frag}{h:Heap}(_:K.In h):Frag:=K
theorem walk_of{l:PySem.W.OpenLaw}{n k:Nat}{q:Program}{loose:List Str}{XP:(Str->Option Value)->Heap->Prop}{YP:World->Heap->Prop}{d:DefRec}{K:Params->Frag}{CX:World->wU}{sp:World->Sp}{x:Str}
  (hn:l.most=some n) (hn2:n<=sizeLine) (hdf:d.params.defaults=[]) (hr:Room k callerA)
  (hY:∀ (w:World) (h:Heap),YP w h->(K w.params).In h)
  (F:∀ (w:World) (mg:Str->Option Value) (fa:Addr) (h:Heap),(K w.params).In h->h.Ns mainGlobals mg->mg d.name=some (.ref fa)->
   ∃ fd:FuncData,(∀ (s:Shared) (u:Value),BindsTo s fd ⟨[u],[]⟩ [(x,u)])/\
    ∀ base:Heap,(K w.params).In base->base.Ns mainGlobals mg->FnOk l.prog w (K w.params) mg base (CX w) k fa fd [x] (sp w))
  (hsp:∀ (w:World) (H:Hp) (a:Addr) (ns:List Int),ns.length<=n->As H->i0 (K w.params) H a (ns.map V.int)->sp w [.ref a] H (fun v _=>v=.bl true) fun _ _ _=>False)
  (hCX:∀ (w:World) (H:Hp) (s:Shared) (e:Value) (s':Shared),CX w [] H s (fun _ _ _=>False) e s'->False):
  PySem.W.WalkO q loose XP YP l.row.toRowW d [] (fun f vs=>PySem.call f vs):=by
 refine Att.attach_call hn hdf fun w s₀ s₁ mg mb fa o pm cd doc a vs ns G Y ho hd hcd hmg hobj hints hlen hg=>?_;have KX:=hY w _ Y;obtain⟨fd,hb,hF⟩:=F w mg fa _ KX G.T.g hmg;exact yc KX G.T.g G.T.b G.T.builtins G.T.nolimit hg hobj hints (le_trans hlen hn2) hr hF hb (fun H hO hS=>hsp w H a ns hlen hO hS) fun H e s'=>hCX w H s₁ e s'
def fT(s:Stmt)(j:Nat):Stmt:=match s with
 | .ClassDef _ _ _ body _ _ _ _ _ _ _=>body.getD j (.Pass ⟨0,0,0,0⟩)
 | _=>.Pass ⟨0,0,0,0⟩
def aL(s:Stmt):Arguments:=match s with
 | .FunctionDef _ a _ _ _ _ _ _ _ _=>a
 | _=>{ posonlyargs:=[],args:=[],vararg:=none,kwonlyargs:=[],kw_defaults:=[],kwarg:=none,defaults:=[] }
def aH(s:Stmt):List Stmt:=match s with
 | .FunctionDef _ _ b _ _ _ _ _ _ _=>b
 | _=>[]
def aj(s:Stmt):Scope:=match s with
 | .FunctionDef _ _ _ _ _ _ sc _ _ _=>sc
 | _=>{ kind:=.function,names:=[],isGenerator:=false,isCoroutine:=false }
abbrev fk:wU:=fun _ _ _ _ _ _=>False
abbrev E0:XK:=fun _ _ _=>False
theorem vj{X:Cx}:nO fk X E0:=fun _ _ _ _ _ _ _ h=>h.elim
structure Fun(K:Frag)(x qual:Str)(st:Stmt)(f:Addr)(fd:FuncData):Prop where
 ex:∃ (oc:Value) (od:Option Addr) (kV doc pm:Value) (an:Option Addr) (cdv ct:Value) (osl:Array (Option Value)),
  fd=fnOf x qual (aL st) (aH st) (aj st) .none kV doc pm an cdv ct/\K.lookup f=some ⟨oc,od,.func fd,osl⟩/\codeIn K cdv qual=true
 kp:keepIn K (.ref f)=true
section
variable{P:Program}{w:World}{K:Frag}{mg:Str->Option Value}{base:Heap}
theorem Fun.ok{x qual:Str}{st:Stmt}{f:Addr}{fd:FuncData}{N ps:List Str}{k:Nat}{sp:Sp}(F:Fun K x qual st f fd)(S:FnScope N ps (aj st))(len:∀ vs H Q E,sp vs H Q E->vs.length=ps.length)
  (hbody:∀ (cdv:Value) (A:Around) (outer:List Env) (s:Shared) (H:Hp) (vs:List V) (Q:VK) (E:XK),Room k (A.deeper (envOfC qual (aj st) s.heap.objs.size f cdv))->sp vs H Q E->
   ∃ t,kZ (tM fk P w K mg base N qual (aj st) f cdv A outer s H E).nox (aH st) t/\t { nx:=fun _ H'=>Q .non H',rt:=Q } (start N vs) H):FnOk P w K mg base fk (k+1) f fd ps sp:=by
 obtain⟨oc,od,kV,doc,pm,an,cdv,ct,osl,rfl,lk,hcd⟩:=F.ex;refine AK lk hcd S len fun A outer s H vs Q E hr hsp=>?_;obtain⟨t,h,q⟩:=hbody cdv A outer s H vs Q E hr hsp;exact⟨t,h.nox,q⟩
end
section
variable{X:Cx}
theorem pv(i:Nat){x:Str}{pos:Pos}(hN:X.N[i]?=some x:=by rfl)(hv:Co X.env.scope x:=by first|exact Or.inl rfl|exact Or.inr (Or.inl rfl)|exact Or.inr (Or.inr rfl))(hd:(x == ("__debug__":Str))=false:=by decide)
  (hcd:(x == ("__classdict__":Str))=false:=by decide):PE X (.Name x pos) (Cu i):=uy hN hv hd hcd
end
theorem iteF{A B:Prop}(h:B):if false=true then A else B:=by
 rw[if_neg Bool.false_ne_true];exact h
theorem iteT{A B:Prop}(h:A):if true=true then A else B:=by
 rw[if_pos rfl];exact h
theorem ite2{c A B:Prop}[Decidable c](h1:c->A)(h2:¬ c->B):if c then A else B:=by
 by_cases h:c
 ·rw[if_pos h];exact h1 h
 ·rw[if_neg h];exact h2 h
def oX(H H':Hp):Prop:=∀ b o,H b=some o->H' b=some o
theorem oX.refl(H:Hp):oX H H:=fun _ _ h=>h
theorem oX.trans{H H1 H2:Hp}(a:oX H H1)(b:oX H1 H2):oX H H2:=fun c o h=>b c o (a c o h)
theorem oX.free{H H':Hp}(e:oX H H'){l:Addr}(h:H' l=Option.none):H l=Option.none:=by
 cases q:H l with
 | none=>rfl
 | some o=>
  rw[e l o q]at h;cases h
theorem oX.seq{K:Frag}{H H':Hp}{a:Addr}{xs:List V}(e:oX H H')(h:i0 K H a xs):i0 K H' a xs:=by
 rcases h with (h|⟨o,h⟩)|h
 ·exact .inl (.inl (e _ _ h))
 ·exact .inl (.inr ⟨o,e _ _ h⟩)
 ·exact .inr h
section
variable{κ:Type}[DecidableEq κ]
def iS(kvs:List (κ×V))(k:κ):Option V:=(kvs.find? fun kv=>decide (kv.1=k)).map (·.2)
def jj(kvs:List (κ×V))(k:κ)(v:V):List (κ×V):=
 if (kvs.any fun kv=>decide (kv.1=k))=true then kvs.map (fun kv=>if kv.1=k then (kv.1,v)else kv)else kvs ++ [(k,v)]
def AL(kvs:List (κ×V))(k:κ):List (κ×V):=kvs.filter fun kv=>decide (kv.1≠k)
theorem jz{p:κ×V}{r:List (κ×V)}{k:κ}(e:p.1=k):iS (p::r) k=some p.2:=by simp[iS,find?_cons,e]
theorem jA{p:κ×V}{r:List (κ×V)}{k:κ}(e:¬ p.1=k):iS (p::r) k=iS r k:=by simp[iS,find?_cons,e]
theorem mz(k:κ):∀ kvs:List (κ×V),(kvs.any fun kv=>decide (kv.1=k))=(iS kvs k).isSome
 | []=>rfl
 | p::r=>by
  rw[any_cons]
  by_cases e:p.1=k
  ·simp only[jz e,decide_eq_true e,Bool.true_or,Option.isSome_some]
  ·rw[jA e,decide_eq_false e,Bool.false_or];exact mz k r
theorem lD(kvs:List (κ×V))(k:κ)(v:V):(jj kvs k v).length<=kvs.length+1:=by
 unfold jj;split
 ·rw[length_map];omega
 ·rw[length_append,length_cons,length_nil];omega
theorem iz.isSome_eq{o:Option V}{u:Option Value}(r:iz o u):o.isSome=u.isSome:=by
 cases o with
 | none=>cases u with
  | none=>rfl
  | some _=>exact (show False from r).elim
 | some _=>cases u with
  | none=>exact (show False from r).elim
  | some _=>rfl
theorem iz.getD{o:Option V}{u:Option Value}{d:V}{d':Value}(r:iz o u)(rd:aD d d'):aD (o.getD d) (u.getD d'):=by
 cases o with
 | none=>cases u with
  | none=>exact rd
  | some _=>exact (show False from r).elim
 | some _=>cases u with
  | none=>exact (show False from r).elim
  | some _=>exact r
theorem KV.val{kvs:List (κ×V)}{vs:List (κ×Value)}(r:KV kvs vs)(k:κ):iz (iS kvs k) (valueAt vs k):=by
 unfold KV at r
 induction r with
 | nil=>exact True.intro
 | @cons p q ps qs h t ih=>
  obtain⟨h1,h2⟩:=h
  by_cases e:p.1=k
  ·have e':q.1=k:=h1.symm.trans e;have b:valueAt (q::qs) k=some q.2:=by simp[valueAt,find?_cons,e']
   rw[jz e,b];exact h2
  ·have e':¬ q.1=k:=fun z=>e (h1.trans z);have b:valueAt (q::qs) k=valueAt qs k:=by simp[valueAt,find?_cons,e']
   rw[jA e,b];exact ih
theorem KV.any{kvs:List (κ×V)}{vs:List (κ×Value)}(r:KV kvs vs)(k:κ):(kvs.any fun kv=>decide (kv.1=k))=vs.any fun kv=>decide (kv.1=k):=by
 unfold KV at r
 induction r with
 | nil=>rfl
 | cons h t ih=>rw[any_cons,any_cons,ih,h.1]
theorem KV.repl{kvs:List (κ×V)}{vs:List (κ×Value)}(r:KV kvs vs)(k:κ){y:V}{u:Value}(ry:aD y u):
  KV (kvs.map fun kv=>if kv.1=k then (kv.1,y)else kv) (vs.map fun kv=>if kv.1=k then (kv.1,u)else kv):=by
 unfold KV at r ⊢
 induction r with
 | nil=>exact .nil
 | @cons p q ps qs h t ih=>
  rw[map_cons,map_cons];refine .cons ?_ ih;obtain⟨h1,h2⟩:=h
  by_cases e:p.1=k
  ·rw[if_pos e,if_pos (h1.symm.trans e)];exact⟨h1,ry⟩
  ·rw[if_neg e,if_neg (fun z=>e (h1.trans z))];exact⟨h1,h2⟩
theorem KV.put{kvs:List (κ×V)}{vs:List (κ×Value)}(r:KV kvs vs)(k:κ){y:V}{u:Value}(ry:aD y u):KV (jj kvs k y) (stored vs k u):=by
 unfold jj stored;rw[r.any k]
 by_cases e:(vs.any fun kv=>decide (kv.1=k))=true
 ·rw[if_pos e,if_pos e];exact r.repl k ry
 ·rw[if_neg e,if_neg e];exact Paired.snoc r ⟨rfl,ry⟩
theorem KV.drop{kvs:List (κ×V)}{vs:List (κ×Value)}(r:KV kvs vs)(k:κ):KV (AL kvs k) (without vs k):=by
 unfold KV at r ⊢;unfold AL without
 induction r with
 | nil=>exact .nil
 | @cons p q ps qs h t ih=>
  obtain⟨h1,h2⟩:=h;rw[List.filter_cons,List.filter_cons]
  by_cases e:p.1=k
  ·have a:¬ decide (p.1≠k)=true:=by simp[e]
   have b:¬ decide (q.1≠k)=true:=by simp[h1.symm.trans e]
   rw[if_neg a,if_neg b];exact ih
  ·have e':¬ q.1=k:=fun z=>e (h1.trans z);have a:decide (p.1≠k)=true:=by simp[e]
   have b:decide (q.1≠k)=true:=by simp[e']
   rw[if_pos a,if_pos b];exact .cons ⟨h1,h2⟩ ih
theorem KV.keys{kvs:List (κ×V)}{vs:List (κ×Value)}(r:KV kvs vs):kvs.map (·.1)=vs.map (·.1):=by
 unfold KV at r
 induction r with
 | nil=>rfl
 | cons h t ih=>rw[map_cons,map_cons,ih,h.1]
theorem KV.length{kvs:List (κ×V)}{vs:List (κ×Value)}(r:KV kvs vs):kvs.length=vs.length:=Paired.length r
end
theorem pF{P:Program}{w:World}{k:aN}{u:Value}(r:aD (kV k) u):(bf P w).is k u=true:=by
 cases k with
 | inl i=>obtain⟨t,e⟩:=(show ∃ t,u=Value.int i t from r);subst e;exact sU P w i t
 | inr x=>obtain⟨t,e⟩:=(show ∃ t,u=Value.str x t from r);subst e;exact sT P w x t
theorem kM{P:Program}{w:World}:∀ {ks:List aN} {us:List Value},Vals (ks.map kV) us->ItemsAre (bf P w) ks us
 | [],_,r=>by rw[map_nil]at r;cases r;exact .nil
 | k::ks,_,r=>by
  rw[map_cons]at r;cases r with
  | cons h t=>exact .cons (pF h) (kM t)
abbrev KT(H:Hp):List (List aN×V)->List (List aN×Addr×Value)->Prop:=Paired fun p q=>p.1=q.1/\H q.2.1=some (.tup (p.1.map kV))/\aD p.2 q.2.2
theorem KT.val{H:Hp}{kvs:List (List aN×V)}{xs:List (List aN×Addr×Value)}(r:KT H kvs xs)(k:List aN):iz (iS kvs k) ((atKey xs k).map (·.2)):=by
 induction r with
 | nil=>exact True.intro
 | @cons p q ps qs h t ih=>
  obtain⟨h1,_,h2⟩:=h
  by_cases e:p.1=k
  ·have e':q.1=k:=h1.symm.trans e;have b:atKey (q::qs) k=some q.2:=by simp[atKey,find?_cons,e']
   rw[jz e,b];exact h2
  ·have e':¬ q.1=k:=fun z=>e (h1.trans z);have b:atKey (q::qs) k=atKey qs k:=by simp[atKey,find?_cons,e']
   rw[jA e,b];exact ih
theorem KT.repl{H:Hp}{kvs:List (List aN×V)}{xs:List (List aN×Addr×Value)}(r:KT H kvs xs)(k:List aN){y:V}{u:Value}(ry:aD y u):
  KT H (kvs.map fun kv=>if kv.1=k then (kv.1,y)else kv) (xs.map (putAt k u)):=by
 induction r with
 | nil=>exact .nil
 | @cons p q ps qs h t ih=>
  rw[map_cons,map_cons];refine .cons ?_ ih;obtain⟨h1,h2,h3⟩:=h;unfold putAt
  by_cases e:p.1=k
  ·rw[if_pos e,if_pos (h1.symm.trans e)];exact⟨h1,h2,ry⟩
  ·rw[if_neg e,if_neg (fun z=>e (h1.trans z))];exact⟨h1,h2,h3⟩
theorem KT.put{H:Hp}{kvs:List (List aN×V)}{xs:List (List aN×Addr×Value)}(r:KT H kvs xs)(k:List aN){b:Addr}{y:V}{u:Value}(hb:H b=some (.tup (k.map kV)))(ry:aD y u):
  KT H (jj kvs k y) (storedH xs k b u):=by
 have e:(kvs.any fun kv=>decide (kv.1=k))=(atKey xs k).isSome:=by
  rw[mz,(r.val k).isSome_eq,Option.isSome_map]
 unfold jj storedH;rw[e]
 by_cases q:(atKey xs k).isSome=true
 ·rw[if_pos q,if_pos q];exact r.repl k ry
 ·rw[if_neg q,if_neg q];exact Paired.snoc r ⟨rfl,hb,ry⟩
theorem KT.keeps{H H':Hp}{kvs:List (List aN×V)}{xs:List (List aN×Addr×Value)}(r:KT H kvs xs)(ht:∀ b ys,H b=some (.tup ys)->H' b=some (.tup ys)):KT H' kvs xs:=
 Paired.mapP r fun _ _ z=>⟨z.1,ht _ _ z.2.1,z.2.2⟩
section
variable{P:Program}{w:World}{H:Hp}{h:Heap}{a:Addr}
theorem Az{u:HO}(ok:i3 P w H h)(e:Rd H a u):bK P w H h a u:=e.ok ok
theorem pM{kvs:List (aN×V)}(ok:i3 P w H h)(e:Rd H a (.dK kvs)):kvs.length<=sizeLine/\(a == sysModules)=false/\∃ vs,KV kvs vs/\h.DictOf (bf P w) a vs:=
 show bK P w H h a (.dK kvs)from Az ok e
theorem Do{kvs:List (aN×V)}(ok:i3 P w H h)(e:H a=some (.dK kvs)):kvs.length<=sizeLine/\(a == sysModules)=false/\∃ vs,KV kvs vs/\h.DictOf (bf P w) a vs:=pM ok (.inl e)
theorem kL{ks:List aN}(ok:i3 P w H h)(e:H a=some (.tup (ks.map kV))):(tupleKind (bf P w)).is h ks a:=by
 obtain⟨_,its,r,o,h1,h2,n,h3⟩:=(show bK P w H h a (.tup (ks.map kV))from ok a _ e)
 exact⟨o,its.toArray,n,h1,h2.1,h3,by simpa using kM r⟩
theorem pL{kvs:List (List aN×V)}(ok:i3 P w H h)(e:Rd H a (.dT kvs)):kvs.length<=sizeLine/\(a == sysModules)=false/\
  ∃ xs,KT H kvs xs/\h.DictOfH (tupleKind (bf P w)) a xs:=by
 obtain⟨z,y,xs,r,o,es,ep,h1,h2,h3,h4,h5⟩:=(show bK P w H h a (.dT kvs)from Az ok e)
 refine⟨z,y,xs,r,o,es,ep,h1,h2,h3,h4,fun x hx=>?_,h5⟩;have all:∀ {l:List (List aN×V)} {m:List (List aN×Addr×Value)},KT H l m->∀ x∈m,(tupleKind (bf P w)).is h x.1 x.2.1:=by
  intro l m q
  induction q with
  | nil=>intro x hx;exact nomatch hx
  | @cons p q ps qs hq t ih=>
   intro x hx;rcases mem_cons.mp hx with e|hx
   ·subst e;exact kL ok (by rw[<- hq.1];exact hq.2.1)
   ·exact ih x hx
 exact all r x hx
theorem Dn{kvs:List (List aN×V)}(ok:i3 P w H h)(e:H a=some (.dT kvs)):kvs.length<=sizeLine/\(a == sysModules)=false/\
  ∃ xs,KT H kvs xs/\h.DictOfH (tupleKind (bf P w)) a xs:=pL ok (.inl e)
end
def nR(H:Hp)(a:Addr)(y:V)(r:Option V):Prop:=
 (∃ kvs k,Rd H a (.dK kvs)/\y=kV k/\r=iS kvs k)\/∃ kvs k b,Rd H a (.dT kvs)/\y=.ref b/\H b=some (.tup (k.map kV))/\r=iS kvs k
def wT(H:Hp)(a:Addr)(y v:V)(H':Hp):Prop:=
 (∃ kvs k,H a=some (.dK kvs)/\y=kV k/\kvs.length < sizeLine/\H'=bB H a (.dK (jj kvs k v)))\/
 ∃ kvs k b,H a=some (.dT kvs)/\y=.ref b/\H b=some (.tup (k.map kV))/\kvs.length < sizeLine/\H'=bB H a (.dT (jj kvs k v))
theorem nR.k{H:Hp}{a:Addr}{kvs:List (aN×V)}{k:aN}(e:H a=some (.dK kvs)):nR H a (kV k) (iS kvs k):=.inl ⟨kvs,k,.inl e,rfl,rfl⟩
theorem nR.t{H:Hp}{a b:Addr}{kvs:List (List aN×V)}{k:List aN}(e:H a=some (.dT kvs))(eb:H b=some (.tup (k.map kV))):nR H a (.ref b) (iS kvs k):=.inr ⟨kvs,k,b,.inl e,rfl,eb,rfl⟩
theorem wT.k{H:Hp}{a:Addr}{kvs:List (aN×V)}{k:aN}{v:V}(e:H a=some (.dK kvs))(hl:kvs.length < sizeLine):wT H a (kV k) v (bB H a (.dK (jj kvs k v))):=.inl ⟨kvs,k,e,rfl,hl,rfl⟩
theorem wT.t{H:Hp}{a b:Addr}{kvs:List (List aN×V)}{k:List aN}{v:V}(e:H a=some (.dT kvs))(eb:H b=some (.tup (k.map kV)))(hl:kvs.length < sizeLine):
  wT H a (.ref b) v (bB H a (.dT (jj kvs k v))):=.inr ⟨kvs,k,b,e,rfl,eb,hl,rfl⟩
section
variable{X:Cx}{pins:List (Addr×Obj)}{σ:St}{H:Hp}{s:Shared}{a:Addr}{y v:V}{u r:Value}{o:Option V}{A:Around}{E:Value->Shared->Prop}
theorem Inv.big(I:Inv X pins σ H s):sysModules < s.heap.objs.size:=by
 have h:mainGlobals < s.heap.objs.size:=(I.mod.glob.keeps I.bk).lt;exact Nat.lt_trans (by decide) h
theorem wJ{Q:Value->Shared->Prop}(hu:A.units+1 < cLine)(I:Inv X pins σ H s)(g:nR H a y (some v))(ry:aD y u)(h:∀ w' s',Inv X pins σ H s'->aD v w'->Q w' s'):
  wpAny (model X.prog X.w) A (getItem (.ref a) u) Q E s:=by
 rcases g with ⟨kvs,k,e,ey,l⟩|⟨kvs,k,b,e,ey,eb,l⟩
 ·subst ey;obtain⟨z,hd,vs,rel,dd⟩:=pM I.hok e;obtain⟨w',hw,rw'⟩:=iz.some_of (v:=v) (o:=valueAt vs k) (by rw[l];exact rel.val k)
  exact wpAny_getItem_of (pF ry) dd.mapOf hw (h w' _ (I.tok _) rw')
 ·subst ey;cases (show u=Value.ref b from ry)
  obtain⟨z,hd,xs,rel,dd⟩:=pL I.hok e;obtain⟨w',hw,rw'⟩:=iz.some_of (v:=v) (o:=(atKey xs k).map (·.2)) (by rw[l];exact rel.val k)
  obtain⟨p,hp,hp2⟩:=Option.map_eq_some_iff.mp hw;refine wpAny_getItem_heap (tupleKind_room_in1 hu) (kL I.hok eb) dd hp ?_;rw[hp2];exact h w' _ (I.tok _) rw'
theorem EA{Q:Value->Shared->Prop}(hu:A.units+1 < cLine)(I:Inv X pins σ H s)(g:nR H a y o)(ry:aD y u)(h:∀ s',Inv X pins σ H s'->Q (.bool o.isSome) s'):
  wpAny (model X.prog X.w) A (compareOp .In u (.ref a)) Q E s:=by
 rcases g with ⟨kvs,k,e,ey,l⟩|⟨kvs,k,b,e,ey,eb,l⟩
 ·subst ey;obtain⟨z,hd,vs,rel,dd⟩:=pM I.hok e;refine wpAny_in_of (pF ry) hd dd.mapOf ?_;rw[<- (rel.val k).isSome_eq,<- l];exact h _ (I.tok _)
 ·subst ey;cases (show u=Value.ref b from ry)
  obtain⟨z,hd,xs,rel,dd⟩:=pL I.hok e;refine wpAny_in_heap (tupleKind_room_in1 hu) (kL I.hok eb) hd dd ?_;have q:=(rel.val k).isSome_eq;rw[Option.isSome_map]at q;rw[<- q,<- l];exact h _ (I.tok _)
theorem Af{Q:Value->Shared->Prop}(hu:A.units+1 < cLine)(I:Inv X pins σ H s)(g:nR H a y o)(ry:aD y u)(h:∀ s',Inv X pins σ H s'->Q (.bool (!o.isSome)) s'):
  wpAny (model X.prog X.w) A (compareOp .NotIn u (.ref a)) Q E s:=by
 rcases g with ⟨kvs,k,e,ey,l⟩|⟨kvs,k,b,e,ey,eb,l⟩
 ·subst ey;obtain⟨z,hd,vs,rel,dd⟩:=pM I.hok e;refine wpAny_notIn_of (pF ry) hd dd.mapOf ?_;rw[<- (rel.val k).isSome_eq,<- l];exact h _ (I.tok _)
 ·subst ey;cases (show u=Value.ref b from ry)
  obtain⟨z,hd,xs,rel,dd⟩:=pL I.hok e;refine wpAny_notIn_heap (tupleKind_room_in1 hu) (kL I.hok eb) hd dd ?_;have q:=(rel.val k).isSome_eq;rw[Option.isSome_map]at q;rw[<- q,<- l];exact h _ (I.tok _)
theorem ms{h':Heap}{t':Nat}{ob:HO}(I:Inv X pins σ H s)(mu:yN (H a))(hs:Heap.SameBut a s.heap h')(he:∃ q,h'.get? a=some q)(new:bK X.prog X.w (bB H a ob) h' a ob):
  Inv X pins σ (bB H a ob) { s with heap:=h',toks:=t' }:=
 I.write (x:=a) (e:=a) mu (.inl rfl) (fun b q hb z=>(hs.2 b hb).trans z) he new
theorem B6{P:Program}{w:World}{H':Hp}{h':Heap}{kvs:List (aN×V)}{vs:List (aN×Value)}(z:kvs.length<=sizeLine)(hd:(a == sysModules)=false)(rel:KV kvs vs)(dd:h'.DictOf (bf P w) a vs):
  bK P w H' h' a (.dK kvs):=⟨z,hd,vs,rel,dd⟩
theorem wI{H':Hp}{Q:Unit->Shared->Prop}(hu:A.units+1 < cLine)(I:Inv X pins σ H s)(g:wT H a y v H')(ry:aD y u)(rv:aD v r)(h:∀ s',Inv X pins σ H' s'->Q () s'):
  wpAny (model X.prog X.w) A (setItem (.ref a) u r) Q E s:=by
 rcases g with ⟨kvs,k,e,ey,l,eH⟩|⟨kvs,k,b,e,ey,eb,l,eH⟩
 ·subst ey eH;obtain⟨z,hd,vs,rel,dd⟩:=Do I.hok e;have hz:vs.length<=sizeLine:=by rw[<- rel.length];exact z
  have hl:(jj kvs k v).length<=sizeLine:=by have:=lD kvs k v;omega
  refine wpAny_setItem_pairs (hsz:=hz) (pF ry) dd fun h' dd' hs=>h _ ?_;have he:∃ q,h'.get? a=some q:=let ⟨q,_,_,hq,_⟩:=dd';⟨q,hq⟩;exact ms I (by rw[e];exact True.intro) hs he (B6 hl hd (rel.put k rv) dd')
 ·subst ey eH;cases (show u=Value.ref b from ry)
  obtain⟨z,hd,xs,rel,dd⟩:=Dn I.hok e;have hz:xs.length<=sizeLine:=by rw[<- Paired.length rel];exact z
  have hl:(jj kvs k v).length<=sizeLine:=by have:=lD kvs k v;omega
  refine wpAny_setItem_heap (hsz:=hz) (tupleKind_room_in1 hu) (kL I.hok eb) dd fun h' dd' hs=>h _ ?_;obtain⟨q,es,ep,hq,h2,h3,h4,_,h5⟩:=dd';refine ms I (by rw[e];exact True.intro) hs ⟨q,hq⟩ ⟨hl,hd,_,(rel.put k eb rv).keeps fun c ys ec=>?_,q,es,ep,hq,h2,h3,h4,h5⟩
  rw[au (Db ec e (fun z=>nomatch z))];exact ec
end
def DO(i:Expr):Prop:=∀ ov iv,subscripted i false ov iv=operate [ov,iv] (getItem ov iv)
theorem yY{prog:Program}{w:World}{A:Around}{E:Value->Shared->Prop}{s:Shared}{env:Env}{value slice:Expr}{pos:Pos}{T id:String}{Q:Value->Shared->Prop}
  (hl:typeLookup (.type T) "__getitem__"=pure (some (.builtin id))) (hs:DO slice)
  (h:wpAny (model prog w) A (eval value env) (fun o s₁=>wpAny (model prog w) A (eval slice env) (fun i s₂=>s₂.TypeIs o T/\wpAny (model prog w) A (getItem o i) Q E s₂) E s₁) E s):
  wpAny (model prog w) A (eval (.Subscript value slice pos) env) Q E s:=by
 refine Subscript_ (wpAny_mono h (fun o s₁ h₁=>wpAny_mono h₁ (fun i s₂ h₂=>?_) fun _ _ x=>x) fun _ _ x=>x);obtain⟨hT,h₂⟩:=h₂;unfold subscriptTail;refine wpAny_bind ?_;rw[getitemInPython_of_ne hT.not_modules];refine wpAny_bind (wpAny_specialOf hT hl ?_);have fin:wpAny (model prog w) A (subscripted slice false o i) (fun r s₃=>wpAny (model prog w) A (letTemporaryGo value o r >>= fun _=>pure r) Q E s₃) E s₂:=by
  rw[hs o i];exact wpAny_operating (wpAny_mono h₂ (fun r s₃ h₃=>wpAny_bind (wpAny_letTemporaryGo (wpAny_pure h₃))) fun _ _ x=>x)
 first
  | exact wpAny_pure (wpAny_bind fin)
  | exact wpAny_bind (wpAny_pure (wpAny_bind fin))
  | exact wpAny_bind fin
theorem yy{P:Program}{w:World}{H:Hp}(h:Heap)(hb:sysModules < h.objs.size):bK P w H (h.push { cls:=.type "dict",data:=.dict #[] }) h.objs.size (.dK []):=
 ⟨zero_le _,beq_eq_false_iff_ne.mpr (Ne.symm (ne_of_lt hb)),[],.nil,Heap.DictOf.new h⟩
def A5:TE:=fun _ H Q=>∀ p,H p=none->Q (.ref p) (bB H p (.dK []))
section
variable{X:Cx}{pos:Pos}
theorem xN:PE X (.Dict [] [] pos) A5:=fun pins s σ H Q I h=>
 wpAny_Dict_empty ⟨.ref s.heap.objs.size,_,I.laid (a:=s.heap.objs.size) (o:=.dK []) (t':=s.toks) (fun _ _ q=>Heap.get?_push_of_some _ q) (le_refl _) (yy s.heap I.big),rfl,h _ (I.hok.fresh (le_refl _))⟩
end
structure M1(X:Cx)(o:Expr)(m:Str)(apos:Pos)(e:Expr)(cpos:Pos):Prop where
 base:attributeBase o m X.env (eval o X.env)=eval o X.env
 few:((backTo cpos (starEach [e] X.env)).all (fun x=>!x.1) && (backToKw cpos (keywordEach [] X.env)).all (fun x=>x.1.isSome)
  && decide (([e]:List Expr).length+([]:List Keyword).length+(if ([]:List Keyword).isEmpty then 0 else 1) < 30))=true
 line:(apos.endLine == cpos.line)=true
 trees:backTo cpos (starEach [e] X.env)=[(false,eval e X.env)]
structure M2(X:Cx)(o:Expr)(m:Str)(apos:Pos)(e f:Expr)(cpos:Pos):Prop where
 base:attributeBase o m X.env (eval o X.env)=eval o X.env
 few:((backTo cpos (starEach [e,f] X.env)).all (fun x=>!x.1) && (backToKw cpos (keywordEach [] X.env)).all (fun x=>x.1.isSome)
  && decide (([e,f]:List Expr).length+([]:List Keyword).length+(if ([]:List Keyword).isEmpty then 0 else 1) < 30))=true
 line:(apos.endLine == cpos.line)=true
 trees:backTo cpos (starEach [e,f] X.env)=[(false,eval e X.env),(false,eval f X.env)]
def E_(H:Hp)(a:Addr):Prop:=(∃ kvs,Rd H a (.dK kvs))\/∃ kvs,Rd H a (.dT kvs)
theorem BZ{X:Cx}{pins:List (Addr×Obj)}{σ:St}{H:Hp}{s:Shared}{a:Addr}(I:Inv X pins σ H s)(d:E_ H a):
  s.TypeIs (.ref a) "dict"/\(∀ b,Value.ref a=.ref b->∃ ob,s.heap.get? b=some ob/\ob.dict=none)/\(a == sysModules)=false:=by
 rcases d with ⟨kvs,e⟩|⟨kvs,e⟩
 ·obtain⟨_,hd,vs,_,dd⟩:=pM I.hok e;refine⟨dd.typeIs,fun b q=>?_,hd⟩;cases q;obtain⟨ob,_,_,h1,h2,_⟩:=dd;exact⟨ob,h1,h2.2.1⟩
 ·obtain⟨_,hd,xs,_,dd⟩:=pL I.hok e;refine⟨dd.typeIs,fun b q=>?_,hd⟩;cases q;obtain⟨ob,_,_,h1,h2,_⟩:=dd;exact⟨ob,h1,h2.2.1⟩
section
variable{X:Cx}{pins:List (Addr×Obj)}{σ:St}{H:Hp}{s:Shared}{a:Addr}{y d:V}{u r:Value}{o:Option V}{A:Around}{E:Value->Shared->Prop}
theorem B7{Q:Value->Shared->Prop}(hu:A.units+1 < cLine)(I:Inv X pins σ H s)(g:nR H a y o)(ry:aD y u)(rd:aD d r)(h:∀ w' s',Inv X pins σ H s'->aD (o.getD d) w'->Q w' s'):
  wpAny (model X.prog X.w) A (call (.builtin "dict.get") [.ref a,u,r]) Q E s:=by
 rcases g with ⟨kvs,k,e,ey,l⟩|⟨kvs,k,b,e,ey,eb,l⟩
 ·subst ey;obtain⟨z,hd,vs,rel,dd⟩:=pM I.hok e;refine call_meetsIn PySem.F.slot_dict_get dd.typeIs PySem.F.entry_dict_get (PySem.F.args_dict_get_3 _ _ _) (meets_dict_get_default (bf X.prog X.w) a (pF ry) hd r) ⟨_,dd.mapOf,h _ _ (I.tok _) ?_⟩;rw[l];exact (rel.val k).getD rd
 ·subst ey;cases (show u=Value.ref b from ry)
  obtain⟨z,hd,xs,rel,dd⟩:=pL I.hok e;refine call_meetsIn PySem.F.slot_dict_get dd.typeIs PySem.F.entry_dict_get (PySem.F.args_dict_get_3 _ _ _) (meetsH_dict_get_default (tupleKind (bf X.prog X.w)) a b hd r) ⟨tupleKind_room_in1 hu,k,xs,kL I.hok eb,dd,h _ _ (I.tok _) ?_⟩;rw[l];exact (rel.val k).getD rd
end
end L2
namespace L3
open PySem PySem.Spec PyProof.Rows L2
abbrev St:=L2.St
inductive D where
 | non|bl (b:Bool)|int (i:Int)|str (x:Str)|tup (ds:List D)|lst (ds:List D)|fl (ds:List D)|ref (a:Addr)|ty (n:String)
inductive GO where
 | lst (ds:List D)
 | ins (C:Addr) (L:List Str) (ds:List D)
 | dK (kvs:List (aN×D))
 | dT (hw:List aN->Int) (kvs:List (List aN×D))
abbrev Gp:=Addr->Option GO
def gset(G:Gp)(a:Addr)(o:GO):Gp:=fun b=>if b=a then some o else G b
def fh(G:Gp)(a:Addr):Gp:=fun b=>if b=a then none else G b
theorem ax{G:Gp}{a:Addr}{o:GO}:gset G a o a=some o:=by unfold gset;rw[if_pos rfl]
theorem aG{G:Gp}{a b:Addr}{o:GO}(h:b≠a):gset G a o b=G b:=by unfold gset;rw[if_neg h]
theorem dF{G:Gp}{a:Addr}{o u:GO}:gset (gset G a o) a u=gset G a u:=by
 funext b;unfold gset;split<;>rfl
theorem dG{G:Gp}{a:Addr}:fh G a a=none:=by unfold fh;rw[if_pos rfl]
theorem dH{G:Gp}{a b:Addr}(h:b≠a):fh G a b=G b:=by unfold fh;rw[if_neg h]
def yQ(K:Frag)(H:Hp)(a:Addr)(xs:List V):Prop:=
 (∃ o,H a=some (.frz o (.lst xs)))\/
  ∃ (o:Obj) (its:Array Value) (n:Nat),K.lookup a=some o/\o.cls=.type "list"/\o.dict=none/\o.data=.seq its n/\its.size<=sizeLine/\Vals xs its.toList
theorem yQ.sq{K:Frag}{H:Hp}{a:Addr}{xs:List V}(h:yQ K H a xs):i0 K H a xs:=by
 rcases h with ⟨o,e⟩|h
 ·exact .inl (.inr ⟨o,e⟩)
 ·exact .inr h
mutual
def RD(K:Frag)(H:Hp):D->V->Prop
 | .non,v=>v=.non
 | .bl b,v=>v=.bl b
 | .int i,v=>v=.int i
 | .str x,v=>v=.str x
 | .ref a,v=>v=.ref a
 | .ty n,v=>v=.ty n
 | .fl _,_=>False
 | .tup ds,v=>∃ a xs,v=.ref a/\hJ K H a xs/\RDs K H ds xs
 | .lst ds,v=>∃ a xs,v=.ref a/\yQ K H a xs/\RDs K H ds xs
def RDs(K:Frag)(H:Hp):List D->List V->Prop
 | [],xs=>xs=[]
 | d::ds,xs=>∃ x r,xs=x::r/\RD K H d x/\RDs K H ds r
end
structure Stb(K:Frag)(H H':Hp):Prop where
 t:∀ a xs,hJ K H a xs->hJ K H' a xs
 l:∀ a xs,yQ K H a xs->yQ K H' a xs
mutual
theorem RD.mono{K:Frag}{H H':Hp}(s:Stb K H H'):∀ (d:D) (v:V),RD K H d v->RD K H' d v
 | .non,v,h=>by simp only[RD]at h ⊢;exact h
 | .bl b,v,h=>by simp only[RD]at h ⊢;exact h
 | .int i,v,h=>by simp only[RD]at h ⊢;exact h
 | .str x,v,h=>by simp only[RD]at h ⊢;exact h
 | .ref a,v,h=>by simp only[RD]at h ⊢;exact h
 | .ty n,v,h=>by simp only[RD]at h ⊢;exact h
 | .fl _,v,h=>by simp only[RD]at h
 | .tup ds,v,h=>by
  simp only[RD]at h ⊢;obtain⟨a,xs,e,q,r⟩:=h;exact⟨a,xs,e,s.t _ _ q,RDs.mono s ds xs r⟩
 | .lst ds,v,h=>by
  simp only[RD]at h ⊢;obtain⟨a,xs,e,q,r⟩:=h;exact⟨a,xs,e,s.l _ _ q,RDs.mono s ds xs r⟩
theorem RDs.mono{K:Frag}{H H':Hp}(s:Stb K H H'):∀ (ds:List D) (xs:List V),RDs K H ds xs->RDs K H' ds xs
 | [],xs,h=>by simp only[RDs]at h ⊢;exact h
 | d::ds,xs,h=>by
  simp only[RDs]at h ⊢;obtain⟨x,r,e,h1,h2⟩:=h;exact⟨x,r,e,RD.mono s d x h1,RDs.mono s ds r h2⟩
end
section
variable{K:Frag}{H:Hp}
theorem RDs.nil:RDs K H [] []:=by simp only[RDs]
theorem RDs.cons{d:D}{x:V}{ds:List D}{xs:List V}(h:RD K H d x)(t:RDs K H ds xs):RDs K H (d::ds) (x::xs):=by
 simp only[RDs];exact⟨x,xs,rfl,h,t⟩
theorem RDs.inv_nil{xs:List V}(h:RDs K H [] xs):xs=[]:=by simpa only[RDs]using h
theorem RDs.inv_cons{d:D}{ds:List D}{xs:List V}(h:RDs K H (d::ds) xs):∃ x r,xs=x::r/\RD K H d x/\RDs K H ds r:=by simpa only[RDs]using h
theorem RDs.length:∀ {ds:List D} {xs:List V},RDs K H ds xs->ds.length=xs.length
 | [],xs,h=>by rw[h.inv_nil];rfl
 | d::ds,xs,h=>by
  obtain⟨x,r,e,_,h2⟩:=h.inv_cons;subst e;simp[RDs.length h2]
theorem RDs.get:∀ {ds:List D} {xs:List V} {i:Nat} {d:D},RDs K H ds xs->ds[i]?=some d->∃ x,xs[i]?=some x/\RD K H d x
 | [],xs,i,d,h,e=>by simp at e
 | c::ds,xs,0,d,h,e=>by
  obtain⟨x,r,e1,h1,h2⟩:=h.inv_cons;subst e1;simp at e;subst e;exact⟨x,rfl,h1⟩
 | c::ds,xs,i+1,d,h,e=>by
  obtain⟨x,r,e1,h1,h2⟩:=h.inv_cons;subst e1;obtain⟨y,q1,q2⟩:=RDs.get (i:=i) (d:=d) h2 (by simpa using e)
  exact⟨y,by simpa using q1,q2⟩
theorem RDs.append:∀ {ds es:List D} {xs ys:List V},RDs K H ds xs->RDs K H es ys->RDs K H (ds ++ es) (xs ++ ys)
 | [],es,xs,ys,h,h'=>by rw[h.inv_nil];exact h'
 | d::ds,es,xs,ys,h,h'=>by
  obtain⟨x,r,e,h1,h2⟩:=h.inv_cons;subst e;exact RDs.cons h1 (RDs.append h2 h')
theorem RDs.take:∀ {ds:List D} {xs:List V} (n:Nat),RDs K H ds xs->RDs K H (ds.take n) (xs.take n)
 | _,_,0,_=>by simp only[List.take_zero];exact RDs.nil
 | [],xs,n+1,h=>by rw[h.inv_nil];simp only[List.take_nil];exact RDs.nil
 | d::ds,xs,n+1,h=>by
  obtain⟨x,r,e,h1,h2⟩:=h.inv_cons;subst e;exact RDs.cons h1 (RDs.take n h2)
theorem RDs.drop:∀ {ds:List D} {xs:List V} (n:Nat),RDs K H ds xs->RDs K H (ds.drop n) (xs.drop n)
 | _,_,0,h=>by simpa only[drop_zero]using h
 | [],xs,n+1,h=>by rw[h.inv_nil];simp only[List.drop_nil];exact RDs.nil
 | d::ds,xs,n+1,h=>by
  obtain⟨x,r,e,h1,h2⟩:=h.inv_cons;subst e;exact RDs.drop n h2
theorem RDs.set:∀ {ds:List D} {xs:List V} {d:D} {x:V} (n:Nat),RDs K H ds xs->RD K H d x->RDs K H (ds.set n d) (xs.set n x)
 | [],xs,d,x,n,h,_=>by rw[h.inv_nil];simp only[List.set_nil];exact RDs.nil
 | c::ds,xs,d,x,0,h,h'=>by
  obtain⟨y,r,e,h1,h2⟩:=h.inv_cons;subst e;exact RDs.cons h' h2
 | c::ds,xs,d,x,n+1,h,h'=>by
  obtain⟨y,r,e,h1,h2⟩:=h.inv_cons;subst e;exact RDs.cons h1 (RDs.set n h2 h')
theorem RDs.reverse:∀ {ds:List D} {xs:List V},RDs K H ds xs->RDs K H ds.reverse xs.reverse
 | [],xs,h=>by rw[h.inv_nil];exact RDs.nil
 | d::ds,xs,h=>by
  obtain⟨x,r,e,h1,h2⟩:=h.inv_cons;subst e;rw[List.reverse_cons,List.reverse_cons];exact RDs.append (RDs.reverse h2) (RDs.cons h1 RDs.nil)
theorem RDs.ints:∀ ns:List Int,RDs K H (ns.map D.int) (ns.map V.int)
 | []=>RDs.nil
 | n::r=>RDs.cons (by simp only[RD]) (RDs.ints r)
theorem RDs.strs:∀ ns:List Str,RDs K H (ns.map D.str) (ns.map V.str)
 | []=>RDs.nil
 | n::r=>RDs.cons (by simp only[RD]) (RDs.strs r)
end
def rY(hw:List aN->Int)(a:Addr)(xs:List (List aN×Addr×Value)):Heap->Prop:=fun h=>(a == sysModules)=false/\∃ o es ep,h.get? a=some o/\o.ExactDict/\o.data=.dict es ep/\es.toList=xs.map fun x=>(⟨hw x.1,.ref x.2.1,x.2.2⟩:DictEntry)
def j7(K:Frag)(H:Hp):List (List aN×D)->List (List aN×Addr×Value)->Prop:=Paired fun p q=>p.1=q.1/\hJ K H q.2.1 (p.1.map kV)/\∃ v,RD K H p.2 v/\aD v q.2.2
def tV(K:Frag)(H:Hp):List (aN×D)->List (aN×V)->Prop:=Paired fun p q=>p.1=q.1/\RD K H p.2 q.2
def RO(K:Frag)(H:Hp)(a:Addr):GO->HO->Prop
 | .lst ds,.lst xs=>RDs K H ds xs
 | .ins C L ds,.ins C' _ gs=>C'=C/\gs.map (·.1)=L/\RDs K H ds (gs.map (·.2))
 | .dK kvs,.dK hs=>tV K H kvs hs
 | .dT hw kvs,.ext φ=>∃ xs,φ=rY hw a xs/\j7 K H kvs xs/\(kvs.map (·.1)).Nodup/\kvs.length<=sizeLine
 | _,_=>False
def RG(K:Frag)(H:Hp)(G:Gp):Prop:=∀ a o,G a=some o->∃ h,H a=some h/\RO K H a o h
def Kp(G:Gp)(H:Hp)(G':Gp)(H':Hp):Prop:=∀ a h,H a=some h->G a=none->H' a=some h/\G' a=none
def Cm(G:Gp)(H:Hp)(p:Addr):Prop:=∀ h,H p=some h->G p≠none
section
variable{K:Frag}{H H' H1 H2:Hp}{G G' G1 G2:Gp}{p:Addr}
theorem j7.mono(s:Stb K H H'){kvs:List (List aN×D)}{xs:List (List aN×Addr×Value)}(r:j7 K H kvs xs):j7 K H' kvs xs:=Paired.mapP r fun _ _ zz=>by
 obtain⟨a,b,v,c,d⟩:=zz;exact (
  ⟨a,s.t _ _ b,v,RD.mono s _ _ c,d⟩)
theorem tV.mono(s:Stb K H H'){kvs:List (aN×D)}{xs:List (aN×V)}(r:tV K H kvs xs):tV K H' kvs xs:=Paired.mapP r fun _ _ zz=>by
 obtain⟨a,b⟩:=zz;exact (
  ⟨a,RD.mono s _ _ b⟩)
theorem RO.mono(s:Stb K H H'){a:Addr}{o:GO}{h:HO}(r:RO K H a o h):RO K H' a o h:=by
 cases o<;>cases h<;>first
  | exact r.elim
  | exact RDs.mono s _ _ r
  | exact⟨r.1,r.2.1,RDs.mono s _ _ r.2.2⟩
  | exact tV.mono s r
  | (obtain⟨xs,e,q,n⟩:=r;exact⟨xs,e,q.mono s,n⟩)
theorem RG.none_of(rg:RG K H G){a:Addr}{h:HO}(e:H a=some h)(n:∀ o,¬ RO K H a o h):G a=none:=by
 cases q:G a with
 | none=>rfl
 | some o=>
  obtain⟨h',e',r⟩:=rg a o q;rw[e]at e';cases e';exact absurd r (n o)
theorem RG.free(rg:RG K H G)(e:H p=none):G p=none:=by
 cases q:G p with
 | none=>rfl
 | some o=>
  obtain⟨h',e',r⟩:=rg p o q;rw[e]at e';cases e'
theorem BI{a:Addr}(o:GO)(xs:List V):¬ RO K H a o (.tup xs):=by cases o<;>exact id
theorem xV{a:Addr}(o:GO)(ob:Obj)(u:HO):¬ RO K H a o (.frz ob u):=by cases o<;>exact id
theorem Kp.refl:Kp G H G H:=fun _ _ e n=>⟨e,n⟩
theorem Kp.trans(a:Kp G H G1 H1)(b:Kp G1 H1 G2 H2):Kp G H G2 H2:=fun x h e n=>b x h (a x h e n).1 (a x h e n).2
theorem Kp.stb(k:Kp G H G' H')(rg:RG K H G):Stb K H H' where
 t:=fun a xs q=>by
  rcases q with (q|⟨o,q⟩)|q
  ·exact .inl (.inl (k a _ q (rg.none_of q fun o=>BI o xs)).1)
  ·exact .inl (.inr ⟨o,(k a _ q (rg.none_of q fun o'=>xV o' o _)).1⟩)
  ·exact .inr q
 l:=fun a xs q=>by
  rcases q with ⟨o,q⟩|q
  ·exact .inl ⟨o,(k a _ q (rg.none_of q fun o'=>xV o' o _)).1⟩
  ·exact .inr q
theorem Kp.fr(k:Kp G H G1 H1)(f:Cm G1 H1 p):Cm G H p:=fun h e n=>f h (k p h e n).1 (k p h e n).2
theorem mq(e:H p=none):Cm G H p:=fun h q=>by rw[e]at q;cases q
theorem Kp.laid{o:HO}(e:H p=none):Kp G H G (bB H p o):=fun a h q n=>⟨by rw[au (bL q e)];exact q,n⟩
theorem RG.laid{o:HO}(rg:RG K H G)(e:H p=none):RG K (bB H p o) G:=fun a o' q=>by
 obtain⟨h,e1,r⟩:=rg a o' q;exact⟨h,by rw[au (bL e1 e)];exact e1,r.mono ((Kp.laid (G:=G) e).stb rg)⟩
end
abbrev fH:=List (Option D)
def wY(K:Frag)(H:Hp):Option D->Option V->Prop
 | some d,some v=>RD K H d v
 | none,_=>True
 | some _,none=>False
def RS(K:Frag)(H:Hp)(σ:fH)(τ:St):Prop:=Paired (wY K H) σ τ
section
variable{K:Frag}{H H':Hp}
theorem wY.mono(s:Stb K H H'):∀ {a:Option D} {b:Option V},wY K H a b->wY K H' a b
 | some d,some v,r=>RD.mono s d v r
 | none,_,_=>trivial
 | some _,none,r=>r.elim
theorem RS.mono(s:Stb K H H'){σ:fH}{τ:St}(r:RS K H σ τ):RS K H' σ τ:=Paired.mapP r fun _ _ q=>q.mono s
theorem RS.get:∀ {σ:fH} {τ:St} {i:Nat} {d:D},RS K H σ τ->σ[i]?=some (some d)->∃ v,τ[i]?=some (some v)/\RD K H d v
 | _,_,_,_,.nil,e=>by simp at e
 | _,_,0,d,.cons (b:=b) r _,e=>by
  simp at e;subst e;cases b with
  | none=>exact r.elim
  | some v=>exact⟨v,rfl,r⟩
 | _,_,i+1,d,.cons _ t,e=>by
  obtain⟨v,h1,h2⟩:=RS.get (i:=i) (d:=d) t (by simpa using e)
  exact⟨v,by simpa using h1,h2⟩
theorem RS.set{d:D}{v:V}(r:RD K H d v):∀ {σ:fH} {τ:St} (i:Nat),RS K H σ τ->RS K H (σ.set i (some d)) (τ.set i (some v))
 | _,_,_,.nil=>.nil
 | _,_,0,.cons _ t=>.cons (show wY K H (some d) (some v)from r) t
 | _,_,i+1,.cons q t=>.cons q (RS.set r i t)
theorem RS.length{σ:fH}{τ:St}(r:RS K H σ τ):σ.length=τ.length:=Paired.length r
end
def RE(K:Frag)(G:Gp)(H:Hp)(G':Gp)(H':Hp)(d:D)(v:V):Prop:=
 (∃ ds p xs,d=.fl ds/\v=.ref p/\H' p=some (.lst xs)/\G' p=none/\RDs K H' ds xs/\Cm G H p)\/RD K H' d v
section
variable{K:Frag}{H H' H1 H2:Hp}{G G' G1 G2:Gp}{d:D}{v:V}
theorem RE.of(r:RD K H' d v):RE K G H G' H' d v:=.inr r
theorem RE.wait(r:RE K G H G1 H1 d v)(k:Kp G1 H1 G2 H2)(rg:RG K H1 G1):RE K G H G2 H2 d v:=by
 rcases r with ⟨ds,p,xs,e1,e2,e3,e4,e5,e6⟩|r
 ·exact .inl ⟨ds,p,xs,e1,e2,(k p _ e3 e4).1,(k p _ e3 e4).2,RDs.mono (k.stb rg) _ _ e5,e6⟩
 ·exact .inr (RD.mono (k.stb rg) _ _ r)
theorem RE.base(r:RE K G1 H1 G2 H2 d v)(k:Kp G H G1 H1):RE K G H G2 H2 d v:=by
 rcases r with ⟨ds,p,xs,e1,e2,e3,e4,e5,e6⟩|r
 ·exact .inl ⟨ds,p,xs,e1,e2,e3,e4,e5,k.fr e6⟩
 ·exact .inr r
theorem RE.rd(r:RE K G H G' H' d v)(h:∀ ds,d≠.fl ds):RD K H' d v:=by
 rcases r with ⟨ds,p,xs,e1,_⟩|r
 ·exact absurd e1 (h ds)
 ·exact r
theorem RE.int{i:Int}(r:RE K G H G' H' (.int i) v):v=.int i:=by
 have:=r.rd (by intro ds h;cases h);simpa only[RD]using this
theorem RE.str{i:Str}(r:RE K G H G' H' (.str i) v):v=.str i:=by
 have:=r.rd (by intro ds h;cases h);simpa only[RD]using this
theorem RE.bl{i:Bool}(r:RE K G H G' H' (.bl i) v):v=.bl i:=by
 have:=r.rd (by intro ds h;cases h);simpa only[RD]using this
theorem RE.non(r:RE K G H G' H' .non v):v=.non:=by
 have:=r.rd (by intro ds h;cases h);simpa only[RD]using this
theorem RE.ref{a:Addr}(r:RE K G H G' H' (.ref a) v):v=.ref a:=by
 have:=r.rd (by intro ds h;cases h);simpa only[RD]using this
theorem RE.tup{ds:List D}(r:RE K G H G' H' (.tup ds) v):∃ a xs,v=.ref a/\hJ K H' a xs/\RDs K H' ds xs:=by
 have:=r.rd (by intro ds h;cases h);simpa only[RD]using this
theorem RE.lst{ds:List D}(r:RE K G H G' H' (.lst ds) v):∃ a xs,v=.ref a/\yQ K H' a xs/\RDs K H' ds xs:=by
 have:=r.rd (by intro ds h;cases h);simpa only[RD]using this
theorem RE.fl{ds:List D}(r:RE K G H G' H' (.fl ds) v):∃ p xs,v=.ref p/\H' p=some (.lst xs)/\G' p=none/\RDs K H' ds xs/\Cm G H p:=by
 rcases r with ⟨ds',p,xs,e1,e2,e3,e4,e5,e6⟩|r
 ·cases e1;exact⟨p,xs,e2,e3,e4,e5,e6⟩
 ·simp only[RD]at r
theorem dL{i:Int}:RD K H (.int i) (.int i):=by simp only[RD]
theorem ji{i:Str}:RD K H (.str i) (.str i):=by simp only[RD]
theorem gf{i:Bool}:RD K H (.bl i) (.bl i):=by simp only[RD]
theorem qk:RD K H .non .non:=by simp only[RD]
theorem h_{a:Addr}:RD K H (.ref a) (.ref a):=by simp only[RD]
theorem km{ds:List D}{xs:List V}{a:Addr}(h:hJ K H a xs)(r:RDs K H ds xs):RD K H (.tup ds) (.ref a):=by
 simp only[RD];exact⟨a,xs,rfl,h,r⟩
theorem mL{ds:List D}{xs:List V}{a:Addr}(h:yQ K H a xs)(r:RDs K H ds xs):RD K H (.lst ds) (.ref a):=by
 simp only[RD];exact⟨a,xs,rfl,h,r⟩
end
def pX(G:Gp):D->Option (List D)
 | .lst ds=>some ds
 | .fl ds=>some ds
 | .ref a=>match G a with
  | some (.lst ds)=>some ds
  | _=>none
 | _=>none
def wX(G:Gp):D->Option (List D)
 | .tup ds=>some ds
 | d=>pX G d
section
variable{K:Frag}{H H':Hp}{G G':Gp}{d:D}{v:V}{ds:List D}
theorem jv(h:pX G' d=some ds)(r:RE K G H G' H' d v)(rg:RG K H' G'):∃ a xs,v=.ref a/\i0 K H' a xs/\RDs K H' ds xs:=by
 cases d with
 | lst es=>
  obtain⟨a,xs,e,f,q⟩:=r.lst;simp only[pX,Option.some.injEq]at h;subst h;exact⟨a,xs,e,f.sq,q⟩
 | fl es=>
  obtain⟨a,xs,e,f,_,q,_⟩:=r.fl;simp only[pX,Option.some.injEq]at h;subst h;exact⟨a,xs,e,i0.of f,q⟩
 | ref a=>
  have e:=r.ref;simp only[pX]at h;cases q:G' a with
  | none=>rw[q]at h;cases h
  | some o=>
   rw[q]at h;cases o with
   | ins _ _ _=>cases h
   | dK _=>cases h
   | dT _ _=>cases h
   | lst es=>
    simp only[Option.some.injEq]at h;subst h;obtain⟨ho,e1,e2⟩:=rg a _ q;cases ho with
    | lst xs=>exact⟨a,xs,e,i0.of e1,e2⟩
    | _=>exact e2.elim
 | _=>simp[pX]at h
theorem kU(h:wX G' d=some ds)(r:RE K G H G' H' d v)(rg:RG K H' G'):∃ a xs,v=.ref a/\(i0 K H' a xs\/hJ K H' a xs)/\RDs K H' ds xs:=by
 cases d with
 | tup es=>
  obtain⟨a,xs,e,f,q⟩:=r.tup;simp only[wX,Option.some.injEq]at h;subst h;exact⟨a,xs,e,.inr f,q⟩
 | _=>
  obtain⟨a,xs,e,f,q⟩:=jv (by simpa only[wX]using h) r rg
  exact⟨a,xs,e,.inl f,q⟩
theorem rq{xs:List V}{p:Addr}(rg:RG K H G)(e:H p=none)(r:RDs K H ds xs):RE K G H G (bB H p (.lst xs)) (.fl ds) (.ref p):=
 .inl ⟨ds,p,xs,rfl,rfl,aT,rg.free e,RDs.mono ((Kp.laid (G:=G) e).stb rg) _ _ r,mq e⟩
theorem hV{xs:List V}{p:Addr}(rg:RG K H G)(e:H p=none)(r:RDs K H ds xs):RD K (bB H p (.tup xs)) (.tup ds) (.ref p):=
 km (hJ.of aT) (RDs.mono ((Kp.laid (G:=G) e).stb rg) _ _ r)
end
end L3
namespace L2
open PySem PySem.Spec PyProof.Rows
section
variable{X:Cx}
theorem PE.imp{e:Expr}{t t':TE}(h:PE X e t)(i:∀ σ H Q,t' σ H Q->t σ H Q):PE X e t':=fun pins s σ H Q I q=>h pins s σ H Q I (i σ H Q q)
theorem PT.imp{e:Expr}{t t':TT}(h:PT X e t)(i:∀ σ H Q,t' σ H Q->t σ H Q):PT X e t':=fun pins s σ H Q I q=>h pins s σ H Q I (i σ H Q q)
theorem PW.imp{e:Expr}{t t':TT}(h:PW X e t)(i:∀ σ H Q,t' σ H Q->t σ H Q):PW X e t':=fun wh pins s σ H Q I q=>h wh pins s σ H Q I (i σ H Q q)
theorem PA.imp{es:List Expr}{t t':TA}(h:PA X es t)(i:∀ σ H Q,t' σ H Q->t σ H Q):PA X es t':=fun pos pins s σ H Q I q=>h pos pins s σ H Q I (i σ H Q q)
theorem PS.imp{e:Stmt}{t t':TS}(h:PS X e t)(i:∀ D σ H,t' D σ H->t D σ H):PS X e t':=fun pins s σ H D I q=>h pins s σ H D I (i D σ H q)
theorem kZ.imp{e:List Stmt}{t t':TS}(h:kZ X e t)(i:∀ D σ H,t' D σ H->t D σ H):kZ X e t':=fun pins s σ H D I q=>h pins s σ H D I (i D σ H q)
theorem g_.imp{f:Value->Value->Sem Value}{r r':R2}(h:g_ X f r)(i:∀ x y H Q,r' x y H Q->r x y H Q):g_ X f r':=fun pins s σ H x y v u Q I rx ry q=>h pins s σ H x y v u Q I rx ry (i x y H Q q)
theorem eE.imp{f:Value}{r r':List V->Hp->VK->Prop}(h:eE X f r)(i:∀ xs H Q,r' xs H Q->r xs H Q):eE X f r':=fun pins s σ H xs us Q I r q=>h pins s σ H xs us Q I r (i xs H Q q)
theorem u7.imp{r r':V->Option Int->Option Int->Hp->VK->Prop}(h:u7 X r)(i:∀ x lo hi H Q,r' x lo hi H Q->r x lo hi H Q):u7 X r':=fun pins s σ H x v vl vu lo hi sl Q I rx hs pl pu q=>h pins s σ H x v vl vu lo hi sl Q I rx hs pl pu (i x lo hi H Q q)
theorem wQ.imp{r r':R2}(h:wQ X r)(i:∀ x y H Q,r' x y H Q->r x y H Q):wQ X r':=fun value slice pins s σ H x y v u Q I rx ry q hs=>h value slice pins s σ H x y v u Q I rx ry (i x y H Q q) hs
theorem Inv.freeze{pins:List (Addr×Obj)}{σ:St}{H:Hp}{s:Shared}{p:Addr}{xs:List V}(I:Inv X pins σ H s)(e:H p=some (.lst xs)):∃ o,Inv X pins σ (bB H p (.frz o (.lst xs))) s:=by
 obtain⟨its,n,rv,ho,hz⟩:=I.lst e;have stay:∀ b,H b=none->(bB H p (.frz { cls:=.type "list",data:=.seq its.toArray n } (.lst xs))) b=none:=fun b hb=>by
  rw[au (fun z=>by subst z;rw[hb]at e;cases e)];exact hb
 refine⟨{ cls:=.type "list",data:=.seq its.toArray n },⟨I.ok,I.os,I.bare,⟨I.base.keep,I.base.slot,fun b o h1 h2 h3=>stay b (I.base.free b o h1 h2 h3),I.base.there,fun b ys q=>?_,fun b o u q=>?_,fun b ps q=>?_⟩,I.loc,I.cell,stay _ I.free,fun x c hc=>stay c (I.freeC x c hc),fun q hq=>?_,fun b u q=>?_,I.len⟩⟩
 ·have q':=I.base.tups b ys q;rw[au (fun z=>by subst z;rw[e]at q';cases q')];exact q'
 ·have q':=I.base.frzs b o u q;rw[au (fun z=>by subst z;rw[e]at q';cases q')];exact q'
 ·obtain⟨more,q'⟩:=I.base.tbls b ps q;exact⟨more,by rw[au (fun z=>by subst z;rw[e]at q';cases q')];exact q'⟩
 ·obtain⟨h1,h2,h3⟩:=I.pin q hq;exact⟨h1,stay _ h2,h3⟩
 ·by_cases hb:b=p
  ·subst hb;rw[aT]at q;cases q;exact⟨ho,hz,its,n,rv,ho⟩
  ·rw[au hb]at q;refine (I.hok b u q).stay (fun _ _ _ z=>z) (fun c z=>?_) fun c ys z=>?_
   ·rw[au (fun y=>by subst y;rw[e]at z;cases z)];exact z
   ·rw[au (fun y=>by subst y;rw[e]at z;cases z)];exact z
def gh(t:TE):TE:=fun σ H Q=>t σ H fun v H1=>Q v H1\/∃ p xs,v=.ref p/\H1 p=some (.lst xs)/\∀ o,Q v (bB H1 p (.frz o (.lst xs)))
theorem CW{e:Expr}{t:TE}(h:PE X e t):PE X e (gh t):=fun pins s σ H Q I q=>
 bZ (h pins s σ H _ I q) fun u s' zz=>by
  obtain⟨v,H',I',r,q'⟩:=zz;rcases q' with q'|⟨p,xs,rfl,e,q'⟩
  ·exact⟨v,H',I',r,q'⟩
  ·obtain⟨o,I2⟩:=I'.freeze e;exact⟨.ref p,_,I2,r,q' o⟩
end
end L2
namespace L3
open PySem PySem.Spec PyProof.Rows L2
abbrev oW:=D->Gp->Prop
abbrev bJ:=fH->Gp->oW->Prop
abbrev mv:=fH->Gp->(Bool->Gp->Prop)->Prop
abbrev j6:=fH->Gp->(List D->Gp->Prop)->Prop
structure Ends3 where
 nx:fH->Gp->Prop
 rt:oW
 bk:fH->Gp->Prop:=fun _ _=>False
 ct:fH->Gp->Prop:=fun _ _=>False
abbrev dg:=Ends3->fH->Gp->Prop
def oY(K:Frag)(G:Gp)(H:Hp)(Q3:oW)(Q:VK):Prop:=∀ d G' v H',Q3 d G'->Kp G H G' H'->RG K H' G'->RE K G H G' H' d v->Q v H'
def aJ(K:Frag)(t:bJ):TE:=fun τ H Q=>∃ σ G Q3,RS K H σ τ/\RG K H G/\t σ G Q3/\oY K G H Q3 Q
def df(K:Frag)(t:mv):TT:=fun τ H Q=>∃ σ G Q3,RS K H σ τ/\RG K H G/\t σ G Q3/\∀ b G' H',Q3 b G'->Kp G H G' H'->RG K H' G'->Q b H'
def eT(K:Frag)(t:j6):TA:=fun τ H Q=>∃ σ G Q3,RS K H σ τ/\RG K H G/\t σ G Q3/\∀ ds G' vs H',Q3 ds G'->Kp G H G' H'->RG K H' G'->RDs K H' ds vs->Q vs H'
structure EndsOk(K:Frag)(G:Gp)(H:Hp)(D3:Ends3)(D:Ends):Prop where
 nx:∀ σ G' τ H',D3.nx σ G'->Kp G H G' H'->RG K H' G'->RS K H' σ τ->D.nx τ H'
 rt:oY K G H D3.rt D.rt
 bk:∀ σ G' τ H',D3.bk σ G'->Kp G H G' H'->RG K H' G'->RS K H' σ τ->D.bk τ H'
 ct:∀ σ G' τ H',D3.ct σ G'->Kp G H G' H'->RG K H' G'->RS K H' σ τ->D.ct τ H'
def cF(K:Frag)(t:dg):TS:=fun D τ H=>∃ σ G D3,RS K H σ τ/\RG K H G/\t D3 σ G/\EndsOk K G H D3 D
theorem oY.base{K:Frag}{G G1:Gp}{H H1:Hp}{Q3:oW}{Q:VK}(f:oY K G H Q3 Q)(k:Kp G H G1 H1):oY K G1 H1 Q3 Q:=
 fun d G' v H' q k' rg re=>f d G' v H' q (k.trans k') rg (re.base k)
theorem EndsOk.base{K:Frag}{G G1:Gp}{H H1:Hp}{D3:Ends3}{D:Ends}(f:EndsOk K G H D3 D)(k:Kp G H G1 H1):EndsOk K G1 H1 D3 D:=
 ⟨fun σ G' τ H' q k'=>f.nx σ G' τ H' q (k.trans k'),f.rt.base k,fun σ G' τ H' q k'=>f.bk σ G' τ H' q (k.trans k'),fun σ G' τ H' q k'=>f.ct σ G' τ H' q (k.trans k')⟩
def val:D->D
 | .fl ds=>.lst ds
 | d=>d
def vp(K:Frag)(t:bJ):TE:=fun τ H Q=>∃ σ G Q3,RS K H σ τ/\RG K H G/\t σ G Q3/\∀ d G' v H',Q3 d G'->Kp G H G' H'->RG K H' G'->RD K H' (val d) v->Q v H'
section
variable{X:Cx}{e:Expr}{t:bJ}
theorem yq{K:Frag}{G G':Gp}{H H':Hp}{p:Addr}{o:HO}(k:Kp G H G' H')(f:Cm G H p):Kp G H G' (bB H' p o):=fun a h e n=>by
 have:a≠p:=fun z=>by subst z;exact f h e n
 exact⟨by rw[au this];exact (k a h e n).1,(k a h e n).2⟩
theorem yp{K:Frag}{G':Gp}{H':Hp}{p:Addr}{xs:List V}{o:Obj}(rg:RG K H' G')(e:H' p=some (.lst xs))(n:G' p=none):RG K (bB H' p (.frz o (.lst xs))) G'/\Stb K H' (bB H' p (.frz o (.lst xs))):=by
 have st:Stb K H' (bB H' p (.frz o (.lst xs))):=by
  constructor
  ·intro a ys q;rcases q with (q|⟨ob,q⟩)|q
   ·exact .inl (.inl (by rw[au (fun z=>by subst z;rw[e]at q;cases q)];exact q))
   ·exact .inl (.inr ⟨ob,by rw[au (fun z=>by subst z;rw[e]at q;cases q)];exact q⟩)
   ·exact .inr q
  ·intro a ys q;rcases q with ⟨ob,q⟩|q
   ·exact .inl ⟨ob,by rw[au (fun z=>by subst z;rw[e]at q;cases q)];exact q⟩
   ·exact .inr q
 refine⟨fun a o' q=>?_,st⟩;obtain⟨h,e1,r⟩:=rg a o' q;exact⟨h,by rw[au (fun z=>by subst z;rw[n]at q;cases q)];exact e1,r.mono st⟩
theorem fI(h:PE X e (aJ X.K t)):PE X e (vp X.K t):=(CW h).imp fun τ H Q zz=>by
 obtain⟨σ,G,Q3,rs,rg,ht,hk⟩:=zz;refine⟨σ,G,Q3,rs,rg,ht,fun d G' v H' q k rg' re=>?_⟩;cases d with
 | fl ds=>
  obtain⟨p,xs,rfl,e1,e2,e3,e4⟩:=re.fl;refine .inr ⟨p,xs,rfl,e1,fun o=>?_⟩;obtain⟨rg2,st⟩:=yp (o:=o) rg' e1 e2;exact hk _ G' _ _ q (yq (K:=X.K) k e4) rg2 (mL (.inl ⟨o,aT⟩) (RDs.mono st _ _ e3))
 | _=>exact .inl (hk _ G' v H' q k rg' (re.rd (by intro ds z;cases z)))
end
def dq:dg:=fun D σ G=>D.nx σ G
def sSeq(t u:dg):dg:=fun D σ G=>t { D with nx:=u D } σ G
section
variable{X:Cx}{st:Stmt}{jJ:List Stmt}{t u:dg}{e:Expr}{te:bJ}{pos:Pos}
theorem eu:kZ X [] (cF X.K dq):=zl.imp fun D τ H zz=>by
 obtain⟨σ,G,D3,rs,rg,h,k⟩:=zz;exact (
  k.nx σ G τ H h Kp.refl rg rs)
theorem am(h1:PS X st (cF X.K t))(h2:kZ X jJ (cF X.K u)):kZ X (st::jJ) (cF X.K (sSeq t u)):=(xF h1 h2).imp fun D τ H zz=>by
 obtain⟨σ,G,D3,rs,rg,h,k⟩:=zz;exact (
   ⟨σ,G,{ D3 with nx:=u D3 },rs,rg,h,⟨fun σ' G' τ' H' q k' rg' rs'=>⟨σ',G',D3,rs',rg',q,k.base k'⟩,k.rt,k.bk,k.ct⟩⟩)
theorem aF(h1:PS X st (cF X.K t)):kZ X [st] (cF X.K t):=zk h1
def gx(te:bJ):dg:=fun D σ G=>te σ G fun _ G'=>D.nx σ G'
theorem gF(he:PE X e (aJ X.K te))(hs:swapsWith e none pos.line X.env=pure false:=by rfl):PS X (.Expr e pos) (cF X.K (gx te)):=(zm he hs).imp fun D τ H zz=>by
 obtain⟨σ,G,D3,rs,rg,h,k⟩:=zz;exact (
   ⟨σ,G,fun _ G'=>D3.nx σ G',rs,rg,h,fun d G' v H' q k' rg' _=>k.nx σ G' τ H' q k' rg' (rs.mono (k'.stb rg))⟩)
def dJ(te:bJ):dg:=fun D σ G=>te σ G D.rt
theorem cC(he:PE X e (aJ X.K te)):PS X (.Return (some e) pos) (cF X.K (dJ te)):=(xI he).imp fun D τ H zz=>by
 obtain⟨σ,G,D3,rs,rg,h,k⟩:=zz;exact (
  ⟨σ,G,D3.rt,rs,rg,h,k.rt⟩)
def CF:dg:=fun D _ G=>D.rt .non G
def Ba:dg:=fun D σ G=>D.bk σ G
def CI:dg:=fun D σ G=>D.ct σ G
def mG(c:mv)(t u:dg):dg:=fun D σ G=>c σ G fun b G'=>if b=true then t D σ G' else u D σ G'
theorem gU{c:Expr}{a b:List Stmt}{tc:mv}(hc:PT X c (df X.K tc))(ha:kZ X a (cF X.K t))(hb:kZ X b (cF X.K u)):PS X (.If c a b pos) (cF X.K (mG tc t u)):=
 (CQ hc ha hb).imp fun D τ H zz=>by
 obtain⟨σ,G,D3,rs,rg,h,k⟩:=zz;exact (
  ⟨σ,G,_,rs,rg,h,fun b G' H' q k' rg'=>by
    cases b with
    | true=>exact⟨σ,G',D3,rs.mono (k'.stb rg),rg',q,k.base k'⟩
    | false=>exact⟨σ,G',D3,rs.mono (k'.stb rg),rg',q,k.base k'⟩⟩)
def A_:dg:=fun _ _ _=>False
def bx(i:Nat)(te:bJ):dg:=fun D σ G=>te σ G fun d G'=>D.nx (σ.set i (some (val d))) G'
theorem aX{i:Nat}{x:Str}{pos':Pos}(hN:X.N.Nodup)(hi:X.N[i]?=some x)(hx:Cj X.env.scope x)(he:PE X e (aJ X.K te))(hs:swapsWith e (some (.Name x pos')) pos.line X.env=pure false:=by rfl)
  (hf:X.fn x=true\/X.env.scope.names.lookup x=some .local:=by first|exact .inl rfl|exact .inr rfl|assumption):PS X (.Assign [.Name x pos'] e pos) (cF X.K (bx i te)):=
 (xH hN hi hx (fI he) hs hf).imp fun D τ H zz=>by
 obtain⟨σ,G,D3,rs,rg,h,k⟩:=zz;exact (
  ⟨σ,G,_,rs,rg,h,fun d G' v H' q k' rg' rd=>k.nx _ G' _ H' q k' rg' ((rs.mono (k'.stb rg)).set rd i)⟩)
def vW(i:Nat)(te:bJ):dg:=fun D σ G=>te σ G fun d G'=>∃ ds,d=.fl ds/\∀ p,G' p=none->D.nx (σ.set i (some (.ref p))) (gset G' p (.lst ds))
theorem Bw{K:Frag}{G:Gp}{H:Hp}{p:Addr}{xs:List V}{ds:List D}(rg:RG K H G)(e:H p=some (.lst xs))(r:RDs K H ds xs):RG K H (gset G p (.lst ds)):=fun a o q=>by
 by_cases ha:a=p
 ·subst ha;rw[ax]at q;cases q;exact⟨_,e,r⟩
 ·rw[aG ha]at q;exact rg a o q
theorem Bx{G G':Gp}{H H':Hp}{p:Addr}{o:GO}(k:Kp G H G' H')(f:Cm G H p):Kp G H (gset G' p o) H':=fun a h e n=>by
 have:a≠p:=fun z=>by subst z;exact f h e n
 exact⟨(k a h e n).1,by rw[aG this];exact (k a h e n).2⟩
theorem vg{i:Nat}{x:Str}{pos':Pos}(hN:X.N.Nodup)(hi:X.N[i]?=some x)(hx:Cj X.env.scope x)(he:PE X e (aJ X.K te))(hs:swapsWith e (some (.Name x pos')) pos.line X.env=pure false:=by rfl)
  (hf:X.fn x=true\/X.env.scope.names.lookup x=some .local:=by first|exact .inl rfl|exact .inr rfl|assumption):PS X (.Assign [.Name x pos'] e pos) (cF X.K (vW i te)):=
 (xH hN hi hx he hs hf).imp fun D τ H zz=>by
 obtain⟨σ,G,D3,rs,rg,h,k⟩:=zz;exact (
  ⟨σ,G,_,rs,rg,h,fun d G' v H' q k' rg' re=>by
    obtain⟨ds,rfl,q⟩:=q;obtain⟨p,xs,rfl,e1,e2,e3,e4⟩:=re.fl;exact k.nx _ _ _ H' (q p e2) (Bx k' e4) (Bw rg' e1 e3) ((rs.mono (k'.stb rg)).set h_ i)⟩)
def fq(i:Nat):dg:=fun D σ G=>match σ[i]? with
 | some (some (.ref p))=>match G p with
  | some (.lst ds)=>D.rt (.fl ds) (fh G p)
  | _=>False
 | _=>False
theorem jK{i:Nat}{x:Str}{pos':Pos}(hN:X.N[i]?=some x)(hv:Co X.env.scope x)(hd:(x == ("__debug__":Str))=false:=by decide)(hcd:(x == ("__classdict__":Str))=false:=by decide):
  PS X (.Return (some (.Name x pos')) pos) (cF X.K (fq i)):=(xI (uy hN hv hd hcd)).imp fun D τ H zz=>by
 obtain⟨σ,G,D3,rs,rg,h,k⟩:=zz;unfold fq at h;split at h
 ·rename_i p hp;split at h
  ·rename_i ds hg;obtain⟨v,e1,r⟩:=rs.get hp;simp only[RD]at r;subst r;obtain⟨ho,e2,ro⟩:=rg p _ hg;refine⟨_,e1,?_⟩;cases ho with
   | lst xs=>
    have rg2:RG X.K H (fh G p):=fun a o q=>by
     by_cases ha:a=p
     ·subst ha;rw[dG]at q;cases q
     ·rw[dH ha]at q;exact rg a o q
    refine k.rt _ _ _ H h (fun a ha e n=>⟨e,?_⟩) rg2 (.inl ⟨ds,p,xs,rfl,rfl,e2,dG,ro,fun h' _=>by rw[hg];exact fun z=>nomatch z⟩)
    by_cases hap:a=p
    ·subst hap;exact dG
    ·rw[dH hap];exact n
   | _=>exact ro.elim
  ·exact h.elim
 ·exact h.elim
end
def ae(i:Nat):bJ:=fun σ G Q=>match σ[i]? with
 | some (some d)=>Q d G
 | _=>False
def eC(d:D):bJ:=fun _ G Q=>Q d G
section
variable{X:Cx}{pos:Pos}{j:Nat}
theorem C0{i:Nat}{x:Str}(hN:X.N[i]?=some x)(hv:Co X.env.scope x)(hd:(x == ("__debug__":Str))=false:=by decide)(hcd:(x == ("__classdict__":Str))=false:=by decide):PE X (.Name x pos) (aJ X.K (ae i)):=
 (uy hN hv hd hcd).imp fun τ H Q zz=>by
  obtain⟨σ,G,Q3,rs,rg,h,k⟩:=zz;unfold ae at h;split at h
  ·rename_i d hp;obtain⟨v,e1,r⟩:=rs.get hp;exact⟨v,e1,k d G v H h Kp.refl rg (.of r)⟩
  ·exact h.elim
theorem aw(i:Nat){x:Str}(hN:X.N[i]?=some x:=by rfl)(hv:Co X.env.scope x:=by first|exact Or.inl rfl|exact Or.inr (Or.inl rfl)|exact Or.inr (Or.inr rfl))(hd:(x == ("__debug__":Str))=false:=by decide)
  (hcd:(x == ("__classdict__":Str))=false:=by decide):PE X (.Name x pos) (aJ X.K (ae i)):=C0 hN hv hd hcd
theorem C4{e:Expr}{d:D}{v:V}(h:PE X e (tC v))(r:∀ H,RD X.K H d v):PE X e (aJ X.K (eC d)):=h.imp fun τ H Q zz=>by
 obtain⟨σ,G,Q3,rs,rg,hq,k⟩:=zz;exact (
  k d G v H hq Kp.refl rg (.of (r H)))
theorem ar{i:Int}:PE X (.Constant (.int i) j pos) (aJ X.K (eC (.int i))):=C4 Br fun _=>dL
theorem xQ{b:Bool}:PE X (.Constant (.bool b) j pos) (aJ X.K (eC (.bl b))):=C4 CZ fun _=>gf
theorem AB:PE X (.Constant .none j pos) (aJ X.K (eC .non)):=C4 Bp fun _=>qk
theorem ce{x:Str}:PE X (.Constant (.str x) j pos) (aJ X.K (eC (.str x))):=C4 Bo fun _=>ji
end
abbrev R3:=D->D->Gp->oW->Prop
def eR(K:Frag)(r3:R3):R2:=fun v u H Q=>∃ x y G0 H0 G Q3,RE K G0 H0 G H x v/\RE K G0 H0 G H y u/\RG K H G/\r3 x y G Q3/\oY K G H Q3 Q
def bG(r:R3)(ta tb:bJ):bJ:=fun σ G Q=>ta σ G fun x G1=>tb σ G1 fun y G2=>r x y G2 Q
section
variable{X:Cx}{a b c:Expr}{ta tb tc:bJ}{pos:Pos}{r r':R3}
theorem two{K:Frag}{r2:R2}{Q:VK}{τ:St}{H:Hp}(hr:r2=eR K r)(h:aJ K (bG r ta tb) τ H Q):Cw r2 (aJ K ta) (aJ K tb) τ H Q:=by
 subst hr;obtain⟨σ,G,Q3,rs,rg,h,k⟩:=h;refine⟨σ,G,fun x G1=>tb σ G1 fun y G2=>r x y G2 Q3,rs,rg,h,fun x G1 v H1 h1 k1 rg1 re1=>⟨σ,G1,fun y G2=>r x y G2 Q3,rs.mono (k1.stb rg),rg1,h1,fun y G2 u H2 h2 k2 rg2 re2=>?_⟩⟩;exact⟨x,y,G,H,G2,Q3,re1.wait k2 rg1,re2.base k1,rg2,h2,k.base (k1.trans k2)⟩
theorem cq{op:Operator}(ho:g_ X (binaryOp op) (eR X.K r))(ha:PE X a (aJ X.K ta))(hb:PE X b (aJ X.K tb)):PE X (.BinOp a op b pos) (aJ X.K (bG r ta tb)):=
 (CU ho ha hb).imp fun _ _ _ h=>two rfl h
def d5(t:bJ):mv:=fun σ G Q=>t σ G fun d G'=>match d with
 | .bl b=>Q b G'
 | _=>False
theorem p8{K:Frag}{t:bJ}{τ:St}{H:Hp}{Q:Bool->Hp->Prop}(h:df K (d5 t) τ H Q):Av (aJ K t) τ H Q:=by
 obtain⟨σ,G,Q3,rs,rg,h,k⟩:=h;refine⟨σ,G,_,rs,rg,h,fun d G' v H' q k' rg' re=>?_⟩;cases d with
 | bl b=>exact⟨b,re.bl,k b G' H' q k' rg'⟩
 | _=>exact q.elim
theorem qx{op:CmpOp}(ho:g_ X (compareOp op) (eR X.K r))(ha:PE X a (aJ X.K ta))(hb:PE X b (aJ X.K tb))(hm:behindInMarks op b=false):PT X (.Compare a [op] [b] pos) (df X.K (d5 (bG r ta tb))):=
 (vh ho ha hb hm).imp fun _ _ _ h=>two rfl (p8 h)
def B5(r r':R3)(ta tb tc:bJ):bJ:=fun σ G Q=>ta σ G fun x G1=>tb σ G1 fun y G2=>r x y G2 fun z G3=>match z with
 | .bl k=>if k=true then tc σ G3 fun w G4=>r' y w G4 Q else Q (.bl false) G3
 | _=>False
def o7(t u:mv):mv:=fun σ G Q=>t σ G fun c G1=>if c=true then u σ G1 Q else Q false G1
def xi(t u:mv):mv:=fun σ G Q=>t σ G fun c G1=>if c=true then Q true G1 else u σ G1 Q
def Cy(t:mv):mv:=fun σ G Q=>t σ G fun c G1=>Q (!c) G1
variable{tA tB:mv}{es:List Expr}
theorem xb(ha:PT X a (df X.K tA)):PW X (.BoolOp .And [a] pos) (df X.K tA):=zg ha
theorem Cs(ha:PT X a (df X.K tA)):PW X (.BoolOp .Or [a] pos) (df X.K tA):=Be ha
theorem Au(ha:PT X a (df X.K tA))(hb:PW X (.BoolOp .And (b::es) pos) (df X.K tB)):PW X (.BoolOp .And (a::b::es) pos) (df X.K (o7 tA tB)):=(Bf ha hb).imp fun τ H Q zz=>by
 obtain⟨σ,G,Q3,rs,rg,h,k⟩:=zz;exact (
   ⟨σ,G,_,rs,rg,h,fun c G1 H1 q k1 rg1=>by
    cases c with
    | true=>exact iteT ⟨σ,G1,Q3,rs.mono (k1.stb rg),rg1,q,fun b' G' H' q' k' rg'=>k b' G' H' q' (k1.trans k') rg'⟩
    | false=>exact iteF (k false G1 H1 q k1 rg1)⟩)
theorem DX(ha:PT X a (df X.K tA))(hb:PW X (.BoolOp .Or (b::es) pos) (df X.K tB)):PW X (.BoolOp .Or (a::b::es) pos) (df X.K (xi tA tB)):=(CP ha hb).imp fun τ H Q zz=>by
 obtain⟨σ,G,Q3,rs,rg,h,k⟩:=zz;exact (
   ⟨σ,G,_,rs,rg,h,fun c G1 H1 q k1 rg1=>by
    cases c with
    | false=>exact iteF ⟨σ,G1,Q3,rs.mono (k1.stb rg),rg1,q,fun b' G' H' q' k' rg'=>k b' G' H' q' (k1.trans k') rg'⟩
    | true=>exact iteT (k true G1 H1 q k1 rg1)⟩)
def Ez(ta tb:bJ):bJ:=fun σ G Q=>ta σ G fun x G1=>match x with
 | .bl c=>if c=true then tb σ G1 Q else Q (.bl false) G1
 | _=>False
def E7(ta tb:bJ):bJ:=fun σ G Q=>ta σ G fun x G1=>match x with
 | .bl c=>if c=true then Q (.bl true) G1 else tb σ G1 Q
 | _=>False
def Dj(ta:bJ):bJ:=fun σ G Q=>ta σ G fun x G1=>match x with
 | .bl c=>Q (.bl (!c)) G1
 | _=>False
def E8(c:mv)(ta tb:bJ):bJ:=fun σ G Q=>c σ G fun b G1=>if b=true then ta σ G1 Q else tb σ G1 Q
def A2(G:Gp):D->Option Bool
 | .non=>some false
 | .bl b=>some b
 | .int i=>some (i != 0)
 | .str y=>some ((y.length:Int) != 0)
 | d=>(wX G d).map fun ds=>!ds.isEmpty
def p9(t:bJ):mv:=fun σ G Q=>t σ G fun d G'=>match A2 G' d with
 | some b=>(match d with|.str y=>y.length<=sizeLine|_=>True)/\Q b G'
 | none=>False
theorem iF(ha:PE X a (aJ X.K ta))(he:∀ whole,isTrue a X.env whole=(do let v <- whole;standAt a.pos;holding [v] (truthy v)):=by intro _;rfl):PT X a (df X.K (p9 ta)):=
 (xD ha he).imp fun τ H Q zz=>by
 obtain⟨σ,G,Q3,rs,rg,h,k⟩:=zz;exact (
  ⟨σ,G,_,rs,rg,h,fun d G' v H' q k' rg' re=>by
    cases d with
    | non=>rw[re.non];exact⟨false,rfl,k _ G' H' q.2 k' rg'⟩
    | bl b=>rw[re.bl];exact⟨b,rfl,k _ G' H' q.2 k' rg'⟩
    | int i=>rw[re.int];exact⟨_,rfl,k _ G' H' q.2 k' rg'⟩
    | str y=>rw[re.str];exact⟨_,⟨q.1,rfl⟩,k _ G' H' q.2 k' rg'⟩
    | ty n=>exact q.elim
    | _=>
     split at q
     ·rename_i b hb;simp only[A2,Option.map_eq_some_iff]at hb;obtain⟨ds,hq,rfl⟩:=hb;obtain⟨a,xs,rfl,s,r⟩:=kU hq re rg';have el:(!ds.isEmpty)=!xs.isEmpty:=by
       have:=r.length;cases ds<;>cases xs<;>simp_all
      refine⟨!xs.isEmpty,?_,k _ G' H' (by rw[<- el];exact q.2) k' rg'⟩
      rcases s with s|s
      ·exact .inl ⟨xs,s,rfl⟩
      ·exact .inr (.inl ⟨xs,s,rfl⟩)
     ·exact q.elim⟩)
end
end L3
namespace L2
open PySem PySem.Spec PyProof.Rows
section
variable{X:Cx}
def CO(K:Frag):R2:=fun x y H Q=>∃ l b xs zs,x=.ref l/\y=.ref b/\i0 K H l xs/\i0 K H b zs/\xs.length+zs.length<=sizeLine/\∀ p,H p=none->Q (.ref p) (bB H p (.lst (xs ++ zs)))
theorem zH:g_ X (binaryOp .Add) (CO X.K):=by
 intro pins s σ H x y v u Q I rx ry h;obtain⟨l,b,xs,zs,rfl,rfl,hH,hB,hz,q⟩:=h;cases rx;cases ry;obtain⟨its,r,pl,z⟩:=I.list hH;obtain⟨its2,r2,pl2,z2⟩:=I.list hB;obtain⟨⟨cls,dd,data,sl⟩,ho,hc,n,hd⟩:=pl.isList;obtain⟨⟨cls2,dd2,data2,sl2⟩,ho2,hc2,n2,hd2⟩:=pl2.isList;simp only at hc hd hc2 hd2;subst hc hd hc2 hd2;have hl:=r.length;have hl2:=r2.length;have e:its.toArray ++ its2.toArray=(its ++ its2).toArray:=by simp
 refine concat_meets ⟨_,ho,rfl⟩ ⟨_,ho2,rfl⟩ noFill_list_add seq_list_add PySem.F.slot_list_add PySem.F.entry_list_add (PySem.F.args_list_add_2 _ _) (list_addW l b its.toArray its2.toArray n n2 dd dd2 sl sl2 (by simp only[size_toArray];omega)) ⟨ho,ho2,?_⟩
 rw[e];exact⟨.ref _,_,I.lnew (t':=s.toks) (r.append r2) (by rw[length_append];omega),rfl,q _ I.fresh⟩
end
end L2
namespace L3
open PySem PySem.Spec PyProof.Rows L2
section
variable{X:Cx}
def fQ:R3:=fun x y G Q=>match x,y with
 | .int i,.int j=>Q (.int (i+j)) G
 | .str i,.str j=>i.length+j.length<=sizeLine/\Q (.str (i ++ j)) G
 | .tup xs,.tup ys=>xs≠[]/\xs.length+ys.length<=sizeLine/\Q (.tup (xs ++ ys)) G
 | x,y=>match pX G x,pX G y with
  | some xs,some ys=>xs.length+ys.length<=sizeLine/\Q (.fl (xs ++ ys)) G
  | _,_=>False
theorem dP:g_ X (binaryOp .Add) (eR X.K fQ):=by
 refine ((BC (X:=X)).or ((uC (X:=X)).or ((zG (X:=X)).or (zH (X:=X))))).imp fun v u H Q zz=>?_;obtain⟨x,y,G0,H0,G,Q3,rx,ry,rg,h,k⟩:=zz;unfold fQ at h;split at h
 ·rename_i i j;exact .inl ⟨i,j,rx.int,ry.int,k _ G _ H h Kp.refl rg (.of dL)⟩
 ·rename_i i j;exact .inr (.inl ⟨i,j,rx.str,ry.str,h.1,k _ G _ H h.2 Kp.refl rg (.of ji)⟩)
 ·rename_i ds es;obtain⟨a,xs,rfl,s1,r1⟩:=rx.tup;obtain⟨b,ys,rfl,s2,r2⟩:=ry.tup;have l1:=r1.length;have l2:=r2.length;refine .inr (.inr (.inl ⟨a,b,xs,ys,rfl,rfl,s1,s2,fun z=>h.1 ?_,by have:=h.2.1;omega,fun z=>?_,fun _ p hp=>?_⟩))
  ·subst z;exact List.length_eq_zero_iff.mp l1
  ·subst z;have:es=[]:=List.length_eq_zero_iff.mp l2;subst this;have hh:=h.2.2;rw[append_nil]at hh;exact k _ G _ H hh Kp.refl rg (.of (km s1 r1))
  ·exact k _ G _ _ h.2.2 (Kp.laid hp) (rg.laid hp) (.of (hV rg hp (r1.append r2)))
 ·split at h
  ·rename_i ds es hx hy;obtain⟨a,xs,rfl,s1,r1⟩:=jv hx rx rg;obtain⟨b,ys,rfl,s2,r2⟩:=jv hy ry rg;have l1:=r1.length;have l2:=r2.length;exact .inr (.inr (.inr ⟨a,b,xs,ys,rfl,rfl,s1,s2,by have:=h.1;omega,fun p hp=>k _ G _ _ h.2 (Kp.laid hp) (rg.laid hp) (rq rg hp (r1.append r2))⟩))
  ·exact h.elim
def oI(C:Int->Int->Prop)(g:Int->Int->D):R3:=fun x y G Q=>match x,y with
 | .int i,.int j=>C i j/\Q (g i j) G
 | _,_=>False
def AD(g:Int->Int->D):R3:=fun x y G Q=>match x,y with
 | .int i,.int j=>Q (g i j) G
 | _,_=>False
theorem EO{f:Value->Value->Sem Value}{C:Int->Int->Prop}{g:Int->Int->V}{g3:Int->Int->D}(h:g_ X f (rI C g))(r:∀ i j H,RD X.K H (g3 i j) (g i j)):g_ X f (eR X.K (oI C g3)):=
 h.imp fun v u H Q zz=>by
  obtain⟨x,y,G0,H0,G,Q3,rx,ry,rg,h,k⟩:=zz;unfold oI at h;split at h
  ·rename_i i j;exact⟨i,j,rx.int,ry.int,h.1,k _ G _ H h.2 Kp.refl rg (.of (r i j H))⟩
  ·exact h.elim
theorem AX{f:Value->Value->Sem Value}{g:Int->Int->V}{g3:Int->Int->D}(h:g_ X f (Bc g))(r:∀ i j H,RD X.K H (g3 i j) (g i j)):g_ X f (eR X.K (AD g3)):=
 h.imp fun v u H Q zz=>by
  obtain⟨x,y,G0,H0,G,Q3,rx,ry,rg,h,k⟩:=zz;unfold AD at h;split at h
  ·rename_i i j;exact⟨i,j,rx.int,ry.int,k _ G _ H h Kp.refl rg (.of (r i j H))⟩
  ·exact h.elim
def BF:R3:=AD fun i j=>.int (i - j)
theorem Cp:g_ X (binaryOp .Sub) (eR X.K BF):=AX Bz fun _ _ _=>dL
def iu:R3:=oI (fun _ j=>0 < j) fun i j=>.int (i % j)
theorem fK:g_ X (binaryOp .Mod) (eR X.K iu):=EO BB fun _ _ _=>dL
def xT:R3:=oI DS fun i j=>.int (i / j)
theorem w4:g_ X (binaryOp .FloorDiv) (eR X.K xT):=EO zF fun _ _ _=>dL
def En:R3:=oI EN fun i j=>.int (i ^ j.toNat)
def Eo:R3:=AD fun i j=>.bl (decide (i < j))
theorem DV:g_ X (compareOp .Lt) (eR X.K Eo):=AX C5 fun _ _ _=>gf
def E4:R3:=AD fun i j=>.bl (decide (i<=j))
def C9:R3:=AD fun i j=>.bl (decide (j < i))
theorem Cr:g_ X (compareOp .Gt) (eR X.K C9):=AX C6 fun _ _ _=>gf
def E5:R3:=AD fun i j=>.bl (decide (j<=i))
def az:j6:=fun _ G Q=>Q [] G
def af(ta:bJ)(tr:j6):j6:=fun σ G Q=>ta σ G fun x G1=>tr σ G1 fun xs G2=>Q (val x::xs) G2
variable{e:Expr}{es:List Expr}{te:bJ}{t:j6}{pos:Pos}
theorem ao:PA X [] (eT X.K az):=Bu.imp fun τ H Q zz=>by
 obtain⟨σ,G,Q3,rs,rg,h,k⟩:=zz;exact (
  k [] G [] H h Kp.refl rg RDs.nil)
theorem aa(ha:PE X e (aJ X.K te))(hr:PA X es (eT X.K t))(hs:starEach (e::es) X.env=(false,eval e X.env)::starEach es X.env:=by rfl):PA X (e::es) (eT X.K (af te t)):=
 (zy (fI ha) hr hs).imp fun τ H Q zz=>by
 obtain⟨σ,G,Q3,rs,rg,h,k⟩:=zz;exact (
  ⟨σ,G,_,rs,rg,h,fun x G1 v H1 q k1 rg1 rd=>⟨σ,G1,_,rs.mono (k1.stb rg),rg1,q,fun ds G2 vs H2 q2 k2 rg2 rds=>
    k _ G2 _ H2 q2 (k1.trans k2) rg2 (RDs.cons (RD.mono (k2.stb rg1) _ _ rd) rds)⟩⟩)
def fU(t:j6):bJ:=fun σ G Q=>t σ G fun ds G1=>ds.length<=sizeLine/\Q (.tup ds) G1
def jt(t:j6):bJ:=fun σ G Q=>t σ G fun ds G1=>ds.length<=sizeLine/\Q (.fl ds) G1
theorem dI{x1}(h:PA X es (eT X.K t)):PE X (.Tuple es x1 pos) (aJ X.K (fU t)):=(Bn h).imp fun τ H Q zz=>by
 obtain⟨σ,G,Q3,rs,rg,h,k⟩:=zz;exact (
  ⟨σ,G,_,rs,rg,h,fun ds G1 vs H1 q k1 rg1 rds=>
   ⟨by rw[<- rds.length];exact q.1,fun p hp=>k _ G1 _ _ q.2 (k1.trans (Kp.laid hp)) (rg1.laid hp) (.of (hV rg1 hp rds))⟩⟩)
theorem gW(h:PA X es (eT X.K t)):PE X (.List es pos) (aJ X.K (jt t)):=(Bq h).imp fun τ H Q zz=>by
 obtain⟨σ,G,Q3,rs,rg,h,k⟩:=zz;exact (
  ⟨σ,G,_,rs,rg,h,fun ds G1 vs H1 q k1 rg1 rds=>
   ⟨by rw[<- rds.length];exact q.1,fun p hp=>k _ G1 _ _ q.2 (k1.trans (Kp.laid hp)) (rg1.laid hp) ((rq rg1 hp rds).base k1)⟩⟩)
def Ay(x:Str)(i:Int):Option D:=(g6 x.cps.toList i).map fun c=>.str ⟨#[c]⟩
def dO:R3:=fun x y G Q=>match x,y with
 | .str z,.int i=>z.length<=sizeLine/\match Ay z i with
  | some d=>Q d G
  | none=>False
 | x,.int i=>match wX G x with
  | some ds=>match g6 ds i with
   | some d=>Q d G
   | none=>False
  | none=>False
 | _,_=>False
theorem Al{K:Frag}{H:Hp}{ds:List D}{xs:List V}{i:Int}{d:D}(r:RDs K H ds xs)(h:g6 ds i=some d):∃ v,g6 xs i=some v/\RD K H d v:=by
 unfold g6 at h ⊢;rw[<- r.length];cases e:AI ds.length i with
 | none=>rw[e]at h;cases h
 | some j=>
  rw[e]at h;exact r.get h
theorem DW:wQ X (eR X.K dO):=(BW (X:=X)).imp fun v u H Q zz=>by
 obtain⟨x,y,G0,H0,G,Q3,rx,ry,rg,h,k⟩:=zz;unfold dO at h;split at h
 ·rename_i z i;obtain⟨h1,h2⟩:=h;split at h2
  ·rename_i d hd;unfold Ay at hd;rw[Option.map_eq_some_iff]at hd;obtain⟨c,hc,rfl⟩:=hd;exact .inr (.inr ⟨z,i,c,rx.str,ry.int,h1,hc,k _ G _ H h2 Kp.refl rg (.of ji)⟩)
  ·exact h2.elim
 ·rename_i i _;split at h
  ·rename_i ds hds;split at h
   ·rename_i d hd;obtain⟨a,xs,rfl,s,r⟩:=kU hds rx rg;obtain⟨w,hw,rd⟩:=Al r hd;have fin:=k _ G _ H h Kp.refl rg (.of rd);rcases s with s|s
    ·exact .inl ⟨a,xs,i,w,rfl,ry.int,s,hw,fin⟩
    ·exact .inr (.inl ⟨a,xs,i,w,rfl,ry.int,s,hw,fin⟩)
   ·exact h.elim
  ·exact h.elim
 ·exact h.elim
variable{a b:Expr}{ta tb:bJ}
theorem bC(ha:PE X a (aJ X.K ta))(hb:PE X b (aJ X.K tb))(hs:vM b:=by exact fun _ _=>rfl):PE X (.Subscript a b pos) (aJ X.K (bG dO ta tb)):=(CV DW ha hb hs).imp fun _ _ _ h=>two rfl h
abbrev Ao:=fH->Gp->(Option Int->Gp->Prop)->Prop
def lu(K:Frag)(t:Ao):TO:=fun τ H Q=>∃ σ G Q3,RS K H σ τ/\RG K H G/\t σ G Q3/\∀ o G' H',Q3 o G'->Kp G H G' H'->RG K H' G'->Q o H'
theorem PO.imp{e:Option Expr}{t t':TO}(h:PO X e t)(i:∀ σ H Q,t' σ H Q->t σ H Q):PO X e t':=fun pins s σ H Q I q=>h pins s σ H Q I (i σ H Q q)
def zJ:Ao:=fun _ G Q=>Q none G
def ip(t:bJ):Ao:=fun σ G Q=>t σ G fun x G1=>match x with
 | .int i=>Q (some i) G1
 | _=>False
theorem jo:PO X none (lu X.K zJ):=PO.imp zp fun τ H Q zz=>by
 obtain⟨σ,G,Q3,rs,rg,h,k⟩:=zz;exact (
  k none G H h Kp.refl rg)
theorem gG(h:PE X e (aJ X.K te)):PO X (some e) (lu X.K (ip te)):=PO.imp (zo h) fun τ H Q ⟨σ,G,Q3,rs,rg,h,k⟩=>⟨σ,G,_,rs,rg,h,fun d G1 v H1 q k1 rg1 re=>by
 cases d with
 | int i=>exact⟨i,re.int,k _ G1 H1 q k1 rg1⟩
 | _=>exact q.elim⟩
abbrev DN:=D->Option Int->Option Int->Gp->oW->Prop
def uK(K:Frag)(r:DN):V->Option Int->Option Int->Hp->VK->Prop:=fun v lo hi H Q=>∃ x G0 H0 G Q3,RE K G0 H0 G H x v/\RG K H G/\r x lo hi G Q3/\oY K G H Q3 Q
def Ae(r:DN)(te:bJ)(tl th:Ao):bJ:=fun σ G Q=>te σ G fun x G1=>tl σ G1 fun l G2=>th σ G2 fun u G3=>r x l u G3 Q
theorem ic{r:DN}{lo hi:Option Expr}{tl th:Ao}{p2:Pos}(hr:u7 X (uK X.K r))(he:PE X e (aJ X.K te))(hl:PO X lo (lu X.K tl))(hu:PO X hi (lu X.K th)):PE X (.Subscript e (.Slice lo hi none p2) pos) (aJ X.K (Ae r te tl th)):=
 (xM hr he hl hu).imp fun τ H Q zz=>by
 obtain⟨σ,G,Q3,rs,rg,h,k⟩:=zz;exact (
  ⟨σ,G,_,rs,rg,h,fun x G1 v H1 q1 k1 rg1 re=>⟨σ,G1,_,rs.mono (k1.stb rg),rg1,q1,fun l G2 H2 q2 k2 rg2=>
    ⟨σ,G2,_,rs.mono ((k1.trans k2).stb rg),rg2,q2,fun u G3 H3 q3 k3 rg3=>⟨x,G,H,G3,Q3,re.wait (k2.trans k3) rg1,rg3,q3,k.base (k1.trans (k2.trans k3))⟩⟩⟩⟩)
def cutD(ds:List D)(lo hi:Option Int):List D:=(ds.drop (HT.sIx ds.length 0 lo)).take (HT.sIx ds.length ds.length hi - HT.sIx ds.length 0 lo)
theorem rH{K:Frag}{H:Hp}{ds:List D}{xs:List V}(r:RDs K H ds xs)(lo hi:Option Int):RDs K H (cutD ds lo hi) (tN xs lo hi):=by
 unfold cutD tN;rw[r.length];exact (r.drop _).take _
end
end L3
namespace L2
open PySem PySem.Spec PyProof.Rows
def EL(xs:List V):It:=⟨fun i _=>i < xs.length,fun i H x H'=>H'=H/\xs[i]?=some x,fun i _=>i=xs.length⟩
def dh(x:Str):List V:=x.cps.toList.map fun c=>V.str ⟨#[c]⟩
theorem i4(x:Str):(dh x).length=x.cps.size:=by simp[dh]
theorem xf{P:Program}{w:World}{K:Frag}{tg:Expr}(it:Addr)(x:Str)(t:Tok)(ty:String)(hty:ty="str_ascii_iterator"\/ty="str_iterator"):
  Turn P w K tg (EL (dh x)) [it] it (fun i h=>h.IsStrIter it ty x t i) where
 mem:=by simp
 obj:=fun i h st b hb=>by
  have e:b=it:=by simpa using hb
  subst e;obtain⟨o,e,c,d⟩:=st;exact⟨o,e,fun v z=>by rw[d]at z;cases z⟩
 keep:=fun i h h' st k=>let ⟨o,ho,r⟩:=st;⟨o,k it (by simp) o ho,r⟩
 item:=by
  intro X hP hw hK hc i pins s σ H E I hf st hg;subst hP hw hK;obtain⟨f0,f1,f2,f3,f4,f5⟩:=hf it (by simp)
  have W:Walks X.prog X.w X.A it [it] [it] x.cps.size (SignAt x) (fun i h=>h.IsStrIter it ty x t i):=by
   rcases hty with rfl|rfl
   ·exact Walks.strAscii (I.ok.hd hc) it x t
   ·exact Walks.strWide (I.ok.hd hc) it x t
  refine W.item i s _ _ (by have:i < (dh x).length:=hg;rw[i4]at this;exact this) st fun v h' tk hv st' kk=>?_
  obtain⟨c,u,hc',rfl⟩:=hv;have I1:Inv X pins σ H { s with heap:=h',toks:=tk }:=I.turned (fun b o hb e=>kk b o (by simpa using hb) e) f0 f1 f3 f4 f5
  obtain⟨o,e,c1,d⟩:=id st';refine⟨_,rfl,tD (s:={ s with heap:=h',toks:=tk }) e c1 d (by rcases hty with rfl|rfl<;>decide) ⟨.str ⟨#[c]⟩,H,I1,⟨u,rfl⟩,⟨rfl,?_⟩,st',fun b hb=>(hf b hb).1⟩⟩
  simp only[dh,getElem?_map,Array.getElem?_toList,hc',Option.map_some]
 done:=by
  intro X hP hw hK hc i pins s σ H E I hf st hg;subst hP hw hK;obtain⟨f0,f1,f2,f3,f4,f5⟩:=hf it (by simp)
  have W:Walks X.prog X.w X.A it [it] [it] x.cps.size (SignAt x) (fun i h=>h.IsStrIter it ty x t i):=by
   rcases hty with rfl|rfl
   ·exact Walks.strAscii (I.ok.hd hc) it x t
   ·exact Walks.strWide (I.ok.hd hc) it x t
  have e:i=x.cps.size:=by have:i=(dh x).length:=hg;rw[i4]at this;exact this
  subst e;exact W.done s _ _ st fun h' tk kk=>⟨rfl,I.turned (fun b o hb e=>kk b o (by simpa using hb) e) f0 f1 f3 f4 f5⟩
 self:=fun A i s Q E st h=>by
  rcases hty with rfl|rfl
  ·exact wpAny_pyIter_striter_ascii st h
  ·exact wpAny_pyIter_striter_wide st h
section
variable{X:Cx}{tg:Expr}
theorem uZ{env:Env}:∀ (names:List (Str×NameKind)) (sc:Scope),sc.names=names->(∀ x∈names,x.2=.free->∃ c,env.cells.lookup x.1=some c)->
  ∃ cl,closureFor sc env=pure cl/\(∀ x c,cl.lookup x=some c->env.cells.lookup x=some c)/\(∀ x∈names,x.2=.free->∃ c,cl.lookup x.1=some c):=by
 have loop:∀ (names:List (Str×NameKind)) (cs:List (Str×Addr)),(∀ x∈names,x.2=.free->∃ c,env.cells.lookup x.1=some c)->(∀ x c,cs.lookup x=some c->env.cells.lookup x=some c)->
   ∃ cl,(forIn names cs fun (x:Str×NameKind) (r:List (Str×Addr))=>(match x with
    | (name,kind)=>if (kind == NameKind.free)=true then (do let a <- cellOf env name;pure (ForInStep.yield ((name,a)::r)))else pure (ForInStep.yield r):Sem (ForInStep (List (Str×Addr)))))=(pure cl:Sem (List (Str×Addr)))/\
    (∀ x c,cl.lookup x=some c->env.cells.lookup x=some c)/\(∀ x,(∃ c,cs.lookup x=some c)->∃ c,cl.lookup x=some c)/\(∀ x∈names,x.2=.free->∃ c,cl.lookup x.1=some c):=by
  intro names
  induction names with
  | nil=>intro cs _ h2;exact⟨cs,rfl,h2,fun _ z=>z,fun _ z=>nomatch z⟩
  | cons y r ih=>
   obtain⟨name,kind⟩:=y;intro cs h1 h2;cases hk:(kind == NameKind.free) with
   | false=>
    obtain⟨cl,e,a,b,c⟩:=ih cs (fun x hx=>h1 x (mem_cons_of_mem _ hx)) h2;refine⟨cl,?_,a,b,fun x hx hf=>?_⟩
    ·rw[forIn_cons];simp only[hk,Bool.false_eq_true,if_false];exact e
    ·rcases mem_cons.mp hx with rfl|hx
     ·rw[show kind=NameKind.free from hf]at hk;cases hk
     ·exact c x hx hf
   | true=>
    have hkf:kind=NameKind.free:=by simpa using hk
    obtain⟨ca,hca⟩:=h1 (name,kind) mem_cons_self hkf;have hca':env.cells.lookup name=some ca:=hca;have nx:∀ x c,((name,ca)::cs).lookup x=some c->env.cells.lookup x=some c:=fun x c hx=>by
     rw[lookup_cons]at hx;split at hx
     ·rename_i hb;have:x=name:=by simpa using hb
      cases hx;rw[this];exact hca'
     ·exact h2 x c hx
    obtain⟨cl,e,a,b,c⟩:=ih ((name,ca)::cs) (fun x hx=>h1 x (mem_cons_of_mem _ hx)) nx;refine⟨cl,?_,a,fun x ⟨c',hx⟩=>?_,fun x hx hf=>?_⟩
    ·rw[forIn_cons];simp only[hk,if_true];unfold cellOf;rw[hca'];exact e
    ·by_cases hxn:x=name
     ·exact b x ⟨ca,by rw[lookup_cons,hxn,beq_self_eq_true]⟩
     ·exact b x ⟨c',by rw[lookup_cons,show (x == name)=false by simpa using hxn];exact hx⟩
    ·rcases mem_cons.mp hx with rfl|hx
     ·exact b name ⟨ca,by rw[lookup_cons,beq_self_eq_true]⟩
     ·exact c x hx hf
 intro names sc hsc h;subst hsc;obtain⟨cl,e,a,_,c⟩:=loop sc.names [] h (fun x c z=>by simp at z)
 refine⟨cl,?_,a,c⟩;unfold closureFor;show (forIn sc.names [] _ >>= fun r=>pure r)=_
 refine Eq.trans ?_ (congrArg (fun m=>m >>= fun r=>(pure r:Sem (List (Str×Addr)))) e);rfl
def bN(X:Cx)(N':List Str)(scope:Scope)(cl:List (Str×Addr))(C:Addr)(s₀:Shared)(H₀:Hp)(fp:List Addr):Cx:=
 { X with N:=N',s₀:=s₀,H₀:=H₀,env:=compEnvC scope cl C X.env,outer:=X.stack,ex:=fp,fn:=fun _=>false,pn:=[],xe:=fun _ _=>False }
end
section
variable{prog:Program}{w:World}{A:Around}{R:Result->Shared->Prop}{s:Shared}
theorem iN{elt target iter:Expr}{ifs:List Expr}{scope:Scope}{pos:Pos}{it acc:Value}{env:Env}(J:Nat->Shared->Prop)
  (turn:∀ n s,J n s->wpAny (model prog w) A (pyNext it) (fun r s₁=>match r with
   | none=>R (.ok .next) s₁
   | some v=>wpAny (model prog w) A (letOwnedTupleGo target it v) (fun _ s₁'=>wpAny (model prog w) A (assign target env v) (fun _ s₂=>
     wpAny (model prog w) A (forIn ifs true fun c r=>if r=true then do let ok <- isTrue c env (eval c env);pure (ForInStep.yield ok)else pure (ForInStep.yield r)) (fun ok s₃=>
      if ok=true then wpAny (model prog w) A (eval elt env) (fun x s₄=>
       wpAny (model prog w) A (call (.builtin "list.append") [acc,x]) (fun _ s₅=>∃ m,m < n/\J m s₅) (fun _ _=>False) s₄) (fun _ _=>False) s₃
      else ∃ m,m < n/\J m s₃) (fun _ _=>False) s₂) (fun _ _=>False) s₁') (fun _ _=>False) s₁) (fun _ _=>False) s)
  (n:Nat) (h:J n s):codeAny (model prog w) A (.compLoop (.ListComp elt [⟨target,iter,ifs,0⟩] scope pos) 0 it acc env) R s:=by
 refine codeAny_loop rfl J (fun n s hI=>?_) n h;show wpAny _ A ((compTurn (.ListComp elt [⟨target,iter,ifs,0⟩] scope pos) 0 it acc env).onRaise (fun x=>do noteFrame x env;theTreesLotGoes x)) _ _ s
 refine wpAny_noted ?_;rw[compTurn_list];refine wpAny_bind (wpAny_standAt (wpAny_bind (wpAny_mono (turn n s hI) (fun r s₁ h₁=>?_) fun _ _ h'=>h'.elim)));cases r with
 | none=>exact wpAny_pure h₁
 | some v=>
  refine wpAny_bind (wpAny_mono h₁ (fun _ s₁' h₁'=>?_) fun _ _ h'=>h'.elim);refine wpAny_bind (wpAny_mono h₁' (fun _ s₂ h₂=>wpAny_bind (wpAny_mono h₂ (fun ok s₃ h₃=>?_) fun _ _ h'=>h'.elim)) fun _ _ h'=>h'.elim);cases ok with
  | false=>exact wpAny_pure ⟨rfl,h₃⟩
  | true=>exact wpAny_bind (wpAny_bind (wpAny_mono h₃ (fun x s₄ h₄=>wpAny_bind (wpAny_mono h₄ (fun _ s₅ h₅=>wpAny_pure (wpAny_pure ⟨rfl,h₅⟩)) fun _ _ h'=>h'.elim)) fun _ _ h'=>h'.elim))
end
def Ar(X:Cx)(ifs:List Expr)(tt:TT):Prop:=
 ∀ (pins:List (Addr×Obj)) (s:Shared) (σ:St) (H:Hp) (Q:Bool->Hp->Prop),Inv X pins σ H s->tt σ H Q->
  wpAny (model X.prog X.w) X.A (forIn ifs true fun c r=>if r=true then do let ok <- isTrue c X.env (eval c X.env);pure (ForInStep.yield ok)else pure (ForInStep.yield r)) (TP X pins σ Q) X.xe s
theorem zj{X:Cx}:Ar X [] (fun _ H Q=>Q true H):=fun pins s σ H Q I h=>wpAny_tests_nil ⟨H,I,h⟩
theorem zi{X:Cx}{c:Expr}{tt:TT}(h:PT X c tt):Ar X [c] tt:=fun pins s σ H Q I q=>wpAny_tests_one (h pins s σ H Q I q)
def xj(ent:St->St)(wi:TI)(g:TG)(tt:TT)(te:TE):TE:=fun σ H Q=>wi σ H fun J H1=>∀ D,H1 D=none->∃ W:Nat->Nat->List V->St->Hp->Prop,(∃ m,W 0 m [] (ent σ) (bB H1 D (.lst [])))/\
 ∀ i m ys σ1 H2,W i m ys σ1 H2->H2 D=some (.lst ys)/\((J.stop i H2/\Q (.ref D) H2)\/(J.go i H2/\∃ N:List V->St->Hp->Prop,(∀ ys' σ' H',N ys' σ' H'->∃ m',m' < m/\W (i+1) m' ys' σ' H')/\
  ∀ x H',J.yld i H2 x H'->g x σ1 H' fun σ2 H3=>tt σ2 H3 fun b H4=>if b=true then te σ2 H4 fun y H5=>H5 D=some (.lst ys)/\ys.length < sizeLine/\N (ys ++ [y]) σ2 (bB H5 D (.lst (ys ++ [y])))else N ys σ2 H4))
theorem fO{scope:Scope}{env:Env}(hcell:∀ y∈scope.names,y.2≠.cell){x:Str}(h:(relabel scope env).names.lookup x=some .cell\/(relabel scope env).names.lookup x=some .free):∃ y∈scope.names,y.1=x/\y.2=.free:=by
 have go:∀ (names:List (Str×NameKind)),(∀ y∈names,y.2≠.cell)->∀ k,(names.map fun (n,k)=>if (k == .free && env.scope.kind == .function && env.kindOf n == some .cell)then (n,NameKind.cell)else (n,k)).lookup x=some k->(k=.cell\/k=.free)->∃ y∈names,y.1=x/\y.2=.free:=by
  intro names
  induction names with
  | nil=>intro _ k e _;simp at e
  | cons y r ih=>
   obtain⟨n,kd⟩:=y;intro hc k e hk;rw[map_cons,lookup_cons]at e;split at e
   ·rename_i hb;cases e;have nc:kd≠.cell:=hc (n,kd) mem_cons_self;refine⟨(n,kd),mem_cons_self,?_,?_⟩
    ·split at hb
     ·simpa using (eq_of_beq hb).symm
     ·simpa using (eq_of_beq hb).symm
    ·split at hk
     ·rename_i hq;simp only[Bool.and_eq_true]at hq
      simpa using hq.1.1
     ·rcases hk with hk|hk
      ·exact absurd hk nc
      ·exact hk
   ·obtain⟨y,hy,q⟩:=ih (fun y hy=>hc y (mem_cons_of_mem _ hy)) k e hk;exact⟨y,mem_cons_of_mem _ hy,q⟩
 rcases h with h|h
 ·exact go scope.names hcell _ h (.inl rfl)
 ·exact go scope.names hcell _ h (.inr rfl)
theorem i5{scope:Scope}{env:Env}{x:Str}(h:(relabel scope env).names.lookup x=some .local):∃ y∈scope.names,y.1=x/\y.2=.local:=by
 have go:∀ (names:List (Str×NameKind)),(names.map fun (n,k)=>if (k == .free && env.scope.kind == .function && env.kindOf n == some .cell)then (n,NameKind.cell)else (n,k)).lookup x=some .local->∃ y∈names,y.1=x/\y.2=.local:=by
  intro names
  induction names with
  | nil=>intro e;simp at e
  | cons y r ih=>
   obtain⟨n,kd⟩:=y;intro e;rw[map_cons,lookup_cons]at e;split at e
   ·rename_i hb;refine⟨(n,kd),mem_cons_self,?_,?_⟩
    ·split at hb
     ·simpa using (eq_of_beq hb).symm
     ·simpa using (eq_of_beq hb).symm
    ·split at e
     ·cases e
     ·simpa using e
   ·obtain⟨y,hy,q⟩:=ih e;exact⟨y,mem_cons_of_mem _ hy,q⟩
 exact go scope.names h
structure CompOk(X:Cx)(scope:Scope)(T M:List Str):Prop where
 calm:X.calm=true
 kind:scope.kind=.function
 cell:∀ y∈scope.names,y.2≠.cell
 names:∀ y∈scope.names,y.2=.local->scope.names.lookup y.1=some .local
 loc:∀ y∈scope.names,y.2=.local->y.1∈((".0":Str)::T)
 len:M.length=X.N.length
 sub:∀ (i:Nat) x,M[i]?=some x->X.N[i]?=some x\/∀ y∈scope.names,y.1≠x
 off:∀ x∈M,x∉((".0":Str)::T)
 free:∀ y∈scope.names,y.2=.free->X.env.kindOf y.1=some .cell\/X.env.kindOf y.1=some .free
def ent(T:List Str)(σ:St):St:=T.map (fun _=>none) ++ σ
section
variable{X:Cx}{pins:List (Addr×Obj)}{σ:St}{H:Hp}{s:Shared}
theorem Inv.block{scope:Scope}{T M:List Str}{fp:List Addr}{h₁:Heap}{tk:Nat}{cl:List (Str×Addr)}(I:Inv X pins σ H s)(ok:CompOk X scope T M)(hf:∀ b∈fp,k_ X pins H b)(ho:∀ b∈fp,∃ o,s.heap.get? b=some o)
  (hc1:∀ x c,cl.lookup x=some c->X.env.cells.lookup x=some c) (hc2:∀ x∈scope.names,x.2=.free->∃ c,cl.lookup x.1=some c)
  (hns:h₁.Ns s.heap.objs.size fun _=>none) (kp:∀ b o,s.heap.get? b=some o->h₁.get? b=some o):
  Inv (bN X (T ++ M) scope cl s.heap.objs.size s H fp) [] (ent T σ) H { s with heap:=h₁,toks:=tk }:=by
 have fpC:∀ b∈fp,b≠s.heap.objs.size:=fun b hb z=>by
  obtain⟨o,e⟩:=ho b hb;exact absurd (Heap.lt_size e) (by rw[z];exact Nat.lt_irrefl _)
 have cellsOk:∀ x c,(bN X (T ++ M) scope cl s.heap.objs.size s H fp).env.cells.lookup x=some c->X.env.cells.lookup x=some c:=hc1;refine⟨⟨I.ok.mod,ok.kind,I.ok.glob,I.ok.blt,le_refl _,fun x y c h1 h2=>I.ok.inj x y c (hc1 x c h1) (hc1 y c h2),fun x hx=>?_,(fun x c h=>absurd h (by show ¬ (false=true);decide)),I.ok.hd,I.ok.frames,.inl rfl,fun b hb=>⟨fpC b hb,fun x c e=>(hf b hb).2.2.2.2.1 x c (hc1 x c e)⟩,I.bs,le_trans I.ok.bsz I.sz,fun b o e hb=>?_,fun b hb hs=>?_,I.stack,I.stkFree⟩,
  rfl,I.bare,Un.kept kp,⟨_,hns,fun i x v e1 e2 e3=>?_⟩,fun x c e=>?_,I.hok.fresh (le_refl _),fun x c e=>I.freeC x c (hc1 x c e),fun p hp=>absurd (show p∈([]:List (Addr×Obj))from hp) (by simp),I.hok.kept kp,?_⟩
 ·obtain⟨y,hy,e,hfr⟩:=fO ok.cell hx;rw[<- e];exact hc2 y hy hfr
 ·rcases (hf b hb).2.2.2.1 with z|z
  ·exact I.ok.noex b o e z
  ·exact absurd (lt_of_lt_of_le (Heap.lt_size e) (le_trans I.ok.bsz z)) (Nat.lt_irrefl _)
 ·rcases mem_cons.mp (I.stkSub b hs)with z|z
  ·exact (hf b hb).2.1 z
  ·exact (hf b hb).2.2.1 z
 ·-- a name that is known: it is drawn from around
  have hi:T.length<=i:=by
   refine Nat.le_of_not_lt fun hlt=>?_;unfold ent at e2;rw[List.getElem?_append_left (by simpa using hlt),getElem?_map]at e2
   cases q:T[i]? with
   | none=>rw[q]at e2;cases e2
   | some z=>rw[q]at e2;cases e2
  have e0':M[i - T.length]?=some x:=by
   have:=e1;show M[i - T.length]?=some x
   rw[<- List.getElem?_append_right hi];exact this
  have e1':X.N[i - T.length]?=some x:=by
   rcases ok.sub _ x e0' with z|z
   ·exact z
   ·exfalso;rcases e3 with e3|e3|e3
    ·obtain⟨y,hy,e,hl⟩:=i5 e3;exact z y hy e
    ·obtain⟨y,hy,e,_⟩:=fO ok.cell (.inl e3);exact z y hy e
    ·obtain⟨y,hy,e,_⟩:=fO ok.cell (.inr e3);exact z y hy e
  have e2':σ[i - T.length]?=some (some v):=by
   unfold ent at e2;rw[List.getElem?_append_right (by simpa using hi),length_map]at e2
   exact e2
  have hfree:(relabel scope X.env).names.lookup x=some .cell\/(relabel scope X.env).names.lookup x=some .free:=by
   rcases e3 with e3|e3|e3
   ·obtain⟨y,hy,e,hl⟩:=i5 e3;exact absurd (by rw[<- e];exact ok.loc y hy hl) (ok.off x (mem_of_getElem? e0'))
   ·exact .inl e3
   ·exact .inr e3
  obtain⟨y,hy,e,hfr⟩:=fO ok.cell hfree;subst e;have hk:=ok.free y hy hfr;obtain⟨m,hn,hl⟩:=I.loc;obtain⟨u,r,l⟩:=hl _ _ v e1' e2' (by rcases hk with hk|hk;exact .inr (.inl hk);exact .inr (.inr hk))
  refine⟨u,r,.inr ⟨hfree,?_⟩⟩;rcases l with ⟨l1,_⟩|⟨_,c,ec,z⟩
  ·rcases hk with hk|hk
   ·rw[hk]at l1;cases l1
   ·rw[hk]at l1;cases l1
  ·obtain⟨c',ec'⟩:=hc2 y hy hfr;have:=hc1 _ _ ec';rw[ec]at this;cases this;obtain⟨o,ho',hd⟩:=z;exact⟨c,ec',o,kp _ _ ho',hd⟩
 ·obtain⟨v,o,ho',hd⟩:=I.cell x c (hc1 x c e);exact⟨v,o,kp _ _ ho',hd⟩
 ·show (ent T σ).length=(T ++ M).length;unfold ent;rw[length_append,length_append,length_map,I.len,ok.len]
end
theorem i3.sameBut{P:Program}{w:World}{H:Hp}{h h':Heap}{C:Addr}(ok:i3 P w H h)(hn:H C=none)(sb:Heap.SameBut C h h'):i3 P w H h':=fun b ob e=>by
 refine (ok b ob e).stay (fun c u hc q=>(sb.2 c ?_).trans q) (fun _ q=>q) fun _ _ q=>q
 rintro rfl
 rcases hc with rfl|hc
 ·rw[hn]at e;cases e
 ·rw[hn]at hc;cases hc
section
variable{X:Cx}{elt tg iter:Expr}{ifs:List Expr}{scope:Scope}{T M:List Str}{pos:Pos}{wi:TI}{g:TG}{tt:TT}{te:TE}
theorem tO{pins:List (Addr×Obj)}{s2:Shared}{σ:St}{H1:Hp}{Q:VK}{J:It}{it:Addr}{fp:List Addr}{tn:Nat->Heap->Prop}{cl:List (Str×Addr)}{RR:Value->Addr->Result->Shared->Prop}{E:Value->Shared->Prop}(ok:CompOk X scope T M)
  (hin:∀ cl C s₀ H₀ fp,PG (bN X (T ++ M) scope cl C s₀ H₀ fp) tg g/\Ar (bN X (T ++ M) scope cl C s₀ H₀ fp) ifs tt/\PE (bN X (T ++ M) scope cl C s₀ H₀ fp) elt te)
  (hc1:∀ x c,cl.lookup x=some c->X.env.cells.lookup x=some c) (hc2:∀ x∈scope.names,x.2=.free->∃ c,cl.lookup x.1=some c)
  (I2:Inv X pins σ H1 s2) (Tn:Turn X.prog X.w X.K tg J fp it tn) (st2:tn 0 s2.heap) (f2:∀ b∈fp,k_ X pins H1 b)
  (h:∀ D,H1 D=none->∃ W:Nat->Nat->List V->St->Hp->Prop,(∃ m,W 0 m [] (ent T σ) (bB H1 D (.lst [])))/\
   ∀ i m ys σ1 H2,W i m ys σ1 H2->H2 D=some (.lst ys)/\((J.stop i H2/\Q (.ref D) H2)\/(J.go i H2/\∃ N:List V->St->Hp->Prop,(∀ ys' σ' H',N ys' σ' H'->∃ m',m' < m/\W (i+1) m' ys' σ' H')/\
    ∀ x H',J.yld i H2 x H'->g x σ1 H' fun σ2 H3=>tt σ2 H3 fun b H4=>if b=true then te σ2 H4 fun y H5=>H5 D=some (.lst ys)/\ys.length < sizeLine/\N (ys ++ [y]) σ2 (bB H5 D (.lst (ys ++ [y])))else N ys σ2 H4)))
  (hRR:∀ D C H' s',Inv X pins σ H' s'->(∃ m,s'.heap.Ns C m)->H' C=none->C≠X.env.locals->X.s₀.heap.objs.size<=C->(∀ x c,X.env.cells.lookup x=some c->c≠C)->(∀ p∈X.pn ++ pins,p.1≠C)->Q (.ref D) H'->RR (.ref D) C (.ok .next) s'):
  wpAny (model X.prog X.w) X.A (newList []) (fun acc s₃=>wpAny (model X.prog X.w) X.A (newFunctionEnv scope X.env.globals cl [] X.env.qual none .none (some X.env)) (fun cenv s₄=>
   codeAny (model X.prog X.w) X.A (.compStart (.ListComp elt [⟨tg,iter,ifs,0⟩] scope pos) 0 (.ref it) acc { cenv with scope:=relabel scope X.env }) (RR acc cenv.locals) s₄) E s₃) E s2:=by
 refine wpAny_newObj_type ?_;have hD:H1 s2.heap.objs.size=none:=I2.hok.fresh (le_refl _);obtain⟨W,⟨m0,w0⟩,turn⟩:=h _ hD;have I3:Inv X pins σ (bB H1 s2.heap.objs.size (.lst [])) { s2 with heap:=s2.heap.push { cls:=.type "list",data:=.seq ([]:List Value).toArray } }:=I2.lnew (t':=s2.toks) .nil (zero_le _)
 have f3:∀ b∈fp,k_ X pins (bB H1 s2.heap.objs.size (.lst [])) b:=fun b hb=>by
  have q:=f2 b hb;obtain⟨o,e,_⟩:=Tn.obj 0 _ st2 b hb;exact⟨by rw[au (ne_of_lt (Heap.lt_size e))];exact q.1,q.2⟩
 have st3:tn 0 (s2.heap.push { cls:=.type "list",data:=.seq ([]:List Value).toArray }):=Tn.keep _ _ _ st2 fun b _ o e=>Heap.get?_push_of_some _ e;generalize hs3:({ s2 with heap:=s2.heap.push { cls:=.type "list",data:=.seq ([]:List Value).toArray } }:Shared)=s3 at I3 ⊢
 have st3':tn 0 s3.heap:=by rw[<- hs3];exact st3
 generalize hH3:bB H1 s2.heap.objs.size (.lst [])=H3 at I3 f3 w0;generalize hDD:s2.heap.objs.size=D at *
 refine wpAny_newFunctionEnv ok.cell (by intro y hy;simp at hy) (fun h₁ hns₁ hsb₁=>?_) ok.kind
 have kp:∀ b o,s3.heap.get? b=some o->h₁.get? b=some o:=fun b o e=>hsb₁.extBut b o (ne_of_lt (Heap.lt_size e)) (Heap.get?_push_of_some _ e);have hns:h₁.Ns s3.heap.objs.size fun _=>none:=by simpa using hns₁
 have I4:Inv (bN X (T ++ M) scope cl s3.heap.objs.size s3 H3 fp) [] (ent T σ) H3 { s3 with heap:=h₁,toks:=s3.toks+([]:List (Str×Value)).length }:=
  I3.block ok f3 (fun b hb=>let ⟨o,e,_⟩:=Tn.obj 0 _ st3' b hb;⟨o,e⟩) hc1 hc2 hns kp
 have st4:tn 0 h₁:=Tn.keep _ _ _ st3' fun b _ o e=>kp b o e;obtain⟨hG,hT,hE⟩:=hin cl s3.heap.objs.size s3 H3 fp;have back:∀ {pins':List (Addr×Obj)} {σ':St} {H':Hp} {s':Shared},Inv (bN X (T ++ M) scope cl s3.heap.objs.size s3 H3 fp) pins' σ' H' s'->Inv X pins σ H' s':=fun {pins' σ' H' s'} I'=>
  I3.call' (ch:=fp) I'.os I'.base I'.hok I'.bare fun b hb=>let q:=f3 b hb;⟨q.2.2.2.1,q.2.1,q.2.2.2.2.1,q.2.2.2.2.2⟩
 have loop:∀ s4:Shared,Inv (bN X (T ++ M) scope cl s3.heap.objs.size s3 H3 fp) [] (ent T σ) H3 s4->tn 0 s4.heap->
   codeAny (model X.prog X.w) X.A (.compLoop (.ListComp elt [⟨tg,iter,ifs,0⟩] scope pos) 0 (.ref it) (.ref D) (compEnvC scope cl s3.heap.objs.size X.env)) (RR (.ref D) s3.heap.objs.size) s4:=by
  intro s4 I4 st4;have fpX:∀ {pins':List (Addr×Obj)} {H':Hp},pins'=[]->(∀ b∈fp,H' b=none)->∀ b∈fp,k_ (bN X (T ++ M) scope cl s3.heap.objs.size s3 H3 fp) pins' H' b:=fun {pins' H'} ep hn b hb=>by
   subst ep;refine⟨hn b hb,(I4.ok.exf b hb).1,I4.ok.exfs b hb,.inl hb,(I4.ok.exf b hb).2,fun p hp=>absurd (show p∈([]:List (Addr×Obj))from hp) (by simp)⟩
  refine iN (fun n s'=>∃ i ys σ' H',Inv (bN X (T ++ M) scope cl s3.heap.objs.size s3 H3 fp) [] σ' H' s'/\tn i s'.heap/\(∀ b∈fp,H' b=none)/\W i n ys σ' H') ?_ m0 ⟨0,[],ent T σ,H3,I4,st4,fun b hb=>(f3 b hb).1,w0⟩
  rintro n s5 ⟨i,ys,σ5,H5,I5,st5,fr5,w5⟩
  obtain⟨hDl,hstep⟩:=turn i n ys σ5 H5 w5;rcases hstep with ⟨stop,qn⟩|⟨go,N,hN,step⟩
  ·refine bZ (Tn.done (bN X (T ++ M) scope cl s3.heap.objs.size s3 H3 fp) rfl rfl rfl ok.calm i [] s5 _ H5 _ I5 (fpX rfl fr5) st5 stop) fun r s6 zz=>?_;obtain⟨hr,I6⟩:=zz;subst hr;have I7:=back I6;obtain⟨m,hm,_⟩:=I6.loc;refine hRR D s3.heap.objs.size H5 s6 I7 ⟨m,hm⟩ I6.free ?_ ?_ ?_ ?_ qn
   ·exact ne_of_gt I3.lt
   ·exact I3.sz
   ·intro x c e z;obtain⟨v,q⟩:=I3.cell x c e;exact absurd q.lt (by rw[z];exact Nat.lt_irrefl _)
   ·intro p hp z;exact absurd (Heap.lt_size (I3.pin p hp).1) (by rw[z];exact Nat.lt_irrefl _)
  ·refine bZ (Tn.item (bN X (T ++ M) scope cl s3.heap.objs.size s3 H3 fp) rfl rfl rfl ok.calm i [] s5 _ H5 _ I5 (fpX rfl fr5) st5 go) fun r s6 zz=>?_;obtain⟨u,hr,h6⟩:=zz;subst hr;refine bZ h6 fun _ s7 zz=>?_;obtain⟨x,H7,I7,r7,y7,st7,fr7⟩:=zz;have I7':=I7.pinned (fpX rfl fr7) (Tn.obj _ _ st7);refine bZ (hG _ s7 _ H7 x u _ I7' r7 (step x H7 y7)) fun _ s8 zz=>?_;obtain⟨σ8,H8,I8,q8⟩:=zz;have again:∀ {s9:Shared} {H9:Hp} {ys':List V},Inv (bN X (T ++ M) scope cl s3.heap.objs.size s3 H3 fp) ([] ++ ko fp s7.heap) σ8 H9 s9->N ys' σ8 H9->
     ∃ m,m < n/\∃ i ys σ' H',Inv (bN X (T ++ M) scope cl s3.heap.objs.size s3 H3 fp) [] σ' H' s9/\tn i s9.heap/\(∀ b∈fp,H' b=none)/\W i m ys σ' H':=fun {s9 H9 ys'} I9 n9=>by
    obtain⟨m',hm,w9⟩:=hN ys' σ8 H9 n9;refine⟨m',hm,i+1,ys',σ8,H9,I9.unpinned,Tn.keep _ _ _ st7 fun b hb o e=>(I9.pin (b,o) (mem_append_right _ (mem_append_right _ (gq hb e)))).1,fun b hb=>?_,w9⟩;obtain⟨o,e,d⟩:=Tn.obj _ _ st7 b hb;exact (I9.pin (b,o) (mem_append_right _ (mem_append_right _ (gq hb e)))).2.1
   refine bZ (hT _ s8 σ8 H8 _ I8 q8) fun b s9 zz=>?_;obtain⟨H9,I9,q9⟩:=zz;cases b with
   | false=>exact again I9 q9
   | true=>
    refine bZ (hE _ s9 σ8 H9 _ I9 q9) fun u10 s10 zz=>?_;obtain⟨y,H10,I10,r10,e10,l10,n10⟩:=zz;refine bZ (pD (X:=bN X (T ++ M) scope cl s3.heap.objs.size s3 H3 fp) _ s10 σ8 H10 (.ref D) [y] (.ref D) [u10] (fun v H'=>v=.non/\H'=bB H10 D (.lst (ys ++ [y]))) I10 rfl (.cons r10 .nil) ⟨D,ys,y,rfl,rfl,e10,l10,rfl,rfl⟩) fun u11 s11 zz=>?_;obtain⟨z,H11,I11,r11,_,e11⟩:=zz;subst e11;exact again I11 n10
 exact codeAny_compStart_list (loop _ I4 st4) (Tn.self _ 0 _ _ _ st4 (loop _ I4 st4))
theorem vC(ok:CompOk X scope T M){pins:List (Addr×Obj)}{σ:St}{H:Hp}{s:Shared}(I:Inv X pins σ H s):∃ cl,closureFor scope X.env=pure cl/\(∀ x c,cl.lookup x=some c->X.env.cells.lookup x=some c)/\(∀ x∈scope.names,x.2=.free->∃ c,cl.lookup x.1=some c):=
 uZ scope.names scope rfl fun x hx hf=>I.ok.has x.1 (ok.free x hx hf)
theorem zw(ok:CompOk X scope T M)
  (hin:∀ cl C s₀ H₀ fp,PG (bN X (T ++ M) scope cl C s₀ H₀ fp) tg g/\Ar (bN X (T ++ M) scope cl C s₀ H₀ fp) ifs tt/\PE (bN X (T ++ M) scope cl C s₀ H₀ fp) elt te)
  (hi:PI X tg iter wi) (hs:∀ x,foldedSetIterable iter X.env x=pure x:=by intro _;rfl):PE X (.ListComp elt [⟨tg,iter,ifs,0⟩] scope pos) (xj (ent T) wi g tt te):=by
 intro pins s σ H Q I h;obtain⟨cl,hcl,hc1,hc2⟩:=vC ok I;rw[eval_ListComp];refine wpAny_comprehension_free (use:=none) rfl hs hcl ok.kind ok.names (bZ (hi pins s σ H _ I h) fun v s1 h1=>bZ h1 fun itv s2 h2=>?_);obtain⟨it,fp,tn,J,H2,e,I2,Tn,st2,f2,hh⟩:=h2;subst e;refine tO (Q:=Q) (RR:=fun acc C=>compPost (model X.prog X.w) X.A X.xe none (EP X pins σ Q) acc C) ok hin hc1 hc2 I2 Tn st2 f2 hh ?_;intro D C H' s' I' hm hn n1 n2 n3 n4 q;obtain⟨m,hm⟩:=hm;exact⟨m,hm,fun h' sb=>⟨.ref D,H',I'.turned (t':=s'.toks) (fun b o hb e=>(sb.2 b hb).trans e) hn (Ne.symm (Ne.symm n1)) (.inr n2) n3 n4,rfl,q⟩⟩
theorem zn{i:Nat}{x:Str}{px spos:Pos}(ok:CompOk X scope T M)(hN:X.N.Nodup)(hix:X.N[i]?=some x)(hx:X.env.scope.names.lookup x=some .local)
  (hin:∀ cl C s₀ H₀ fp,PG (bN X (T ++ M) scope cl C s₀ H₀ fp) tg g/\Ar (bN X (T ++ M) scope cl C s₀ H₀ fp) ifs tt/\PE (bN X (T ++ M) scope cl C s₀ H₀ fp) elt te)
  (hi:PI X tg iter wi) (hsw:swapsWith (.ListComp elt [⟨tg,iter,ifs,0⟩] scope pos) (some (.Name x px)) spos.line X.env=pure true:=by rfl) (hs:∀ x,foldedSetIterable iter X.env x=pure x:=by intro _;rfl):
  PS X (.Assign [.Name x px] (.ListComp elt [⟨tg,iter,ifs,0⟩] scope pos) spos) (A6 (gh (xj (ent T) wi g tt te)) (tE i)):=by
 intro pins s σ H D3 I h;obtain⟨cl,hcl,hc1,hc2⟩:=vC ok I;rw[exec_Assign_Name_used _ _ _ _ hsw];refine wpAny_bind (wpAny_standAt (wpAny_bind ?_));show wpAny _ X.A (do let _ <- comprehension (.ListComp elt [⟨tg,iter,ifs,0⟩] scope pos) scope X.env _ (newList []) false (eval iter X.env) (some (assign (.Name x px) X.env))) _ _ s
 refine wpAny_bind (wpAny_mono (wpAny_comprehension_free (use:=some (assign (.Name x px) X.env)) (Q:=fun _ s'=>SP X pins D3 .next s') rfl hs hcl ok.kind ok.names
  (bZ (hi pins s σ H _ I h) fun v s1 h1=>bZ h1 fun itv s2 h2=>?_)) (fun _ s' hq=>wpAny_pure (wpAny_pure hq)) fun _ _ e=>e)
 obtain⟨it,fp,tn,J,H2,e,I2,Tn,st2,f2,hh⟩:=h2;subst e;refine tO (Q:=fun v H1=>tE i v σ H1 D3.nx\/∃ p xs,v=.ref p/\H1 p=some (.lst xs)/\∀ o,tE i v σ (bB H1 p (.frz o (.lst xs))) D3.nx) (RR:=fun acc C=>compPost (model X.prog X.w) X.A X.xe (some (assign (.Name x px) X.env)) (fun _ s'=>SP X pins D3 .next s') acc C) ok hin hc1 hc2 I2 Tn st2 f2 hh ?_;intro D C H' s' I' hm hn n1 n2 n3 n4 q;obtain⟨m,hm⟩:=hm;have fin:∀ {H'':Hp},Inv X pins σ H'' s'->H'' C=none->D3.nx (σ.set i (some (.ref D))) H''->
   wpAny (model X.prog X.w) X.A (assign (.Name x px) X.env (.ref D)) (fun _ s''=>∃ m,s''.heap.Ns C m/\∀ h',Heap.SameBut C s''.heap h'->SP X pins D3 .next { s'' with heap:=h' }) X.xe s':=fun {H''} J' hn' q'=>by
  refine wpAny_assign_Name (o8 (v:=V.ref D) J' hN hix (.inl hx) rfl (fun s'' I'' ⟨a,sb,ha⟩=>?_) (.inr hx));have aC:C≠a:=by
   rcases ha with z|z
   ·rw[z];exact n1
   ·exact fun y=>n3 _ _ z y.symm
  refine⟨m,hm.sameBut sb aC,fun h' sb'=>⟨_,H'',I''.turned (t':=s''.toks) (fun b o hb e=>(sb'.2 b hb).trans e) hn' n1 (.inr n2) n3 n4,q'⟩⟩
 rcases q with q|⟨p,xs,ep,e1,q⟩
 ·exact fin I' hn q
 ·obtain⟨o,I''⟩:=I'.freeze e1;refine fin I'' ?_ (q o);rw[au (fun z=>by subst z;rw[hn]at e1;cases e1)];exact hn
end
section
variable{X:Cx}{tg:Expr}
theorem PG.imp{e:Expr}{t t':TG}(h:PG X e t)(i:∀ v σ H Q,t' v σ H Q->t v σ H Q):PG X e t':=fun pins s σ H v u Q I r q=>h pins s σ H v u Q I r (i v σ H Q q)
theorem yL.imp{es:List Expr}{t t':Ap}(h:yL X es t)(i:∀ vs σ H Q,t' vs σ H Q->t vs σ H Q):yL X es t':=fun pins s σ H v u Q I r q=>h pins s σ H v u Q I r (i v σ H Q q)
theorem PI.imp{e:Expr}{t t':TI}(h:PI X tg e t)(i:∀ σ H R,t' σ H R->t σ H R):PI X tg e t':=fun pins s σ H R I q=>h pins s σ H R I (i σ H R q)
variable{pins:List (Addr×Obj)}{σ:St}{H:Hp}{s:Shared}{R:It->Hp->Prop}{E:Value->Shared->Prop}{a:Addr}{xs:List V}
theorem ww(I:Inv X pins σ H s)(hq:i0 X.K H a xs)(q:R (EM X.K a) H):wpAny (model X.prog X.w) X.A (pyIter (.ref a)) (Ci X pins σ tg R) E s:=by
 obtain⟨its,rv,p,hz⟩:=I.list hq;refine wpAny_pyIter_list p.isList ?_;refine⟨s.heap.objs.size,[s.heap.objs.size],_,_,H,rfl,I.kept (t':=s.toks) fun b o e=>Heap.get?_push_of_some _ e,vP a _,⟨_,Heap.get?_push_size _ rfl,rfl,rfl⟩,fun b hb=>?_,q⟩;have e:b=s.heap.objs.size:=by simpa using hb
 subst e;exact I.fpOk (le_refl _) (I.hok.fresh (le_refl _))
theorem yg(I:Inv X pins σ H s)(hq:hJ X.K H a xs)(q:R (EK X.K a) H):wpAny (model X.prog X.w) X.A (pyIter (.ref a)) (Ci X pins σ tg R) E s:=by
 obtain⟨its,rv,p,hz⟩:=I.tuple hq;refine wpAny_pyIter_tuple (show s.heap.IsTuple a its.toArray from p) ?_
 refine⟨s.heap.objs.size,[s.heap.objs.size],_,_,H,rfl,I.kept (t':=s.toks) fun b o e=>Heap.get?_push_of_some _ e,t5 a _,⟨_,Heap.get?_push_size _ rfl,rfl,rfl⟩,fun b hb=>?_,q⟩;have e:b=s.heap.objs.size:=by simpa using hb
 subst e;exact I.fpOk (le_refl _) (I.hok.fresh (le_refl _))
theorem yh{z:Str}{t:Tok}(I:Inv X pins σ H s)(q:R (EL (dh z)) H):wpAny (model X.prog X.w) X.A (pyIter (.str z t)) (Ci X pins σ tg R) E s:=by
 have fin:∀ (ty:String),(ty="str_ascii_iterator"\/ty="str_iterator")->Ci X pins σ tg R (.ref s.heap.objs.size) { s with heap:=s.heap.push { cls:=.type ty,data:=.fields #[.str z t,.int 0 0] } }:=fun ty hty=>by
  refine⟨s.heap.objs.size,[s.heap.objs.size],_,_,H,rfl,I.kept (t':=s.toks) fun b o e=>Heap.get?_push_of_some _ e,xf _ z t ty hty,⟨_,Heap.get?_push_size _ rfl,rfl,rfl⟩,fun b hb=>?_,q⟩;have e:b=s.heap.objs.size:=by simpa using hb
  subst e;exact I.fpOk (le_refl _) (I.hok.fresh (le_refl _))
 cases ha:z.cps.all (· < 128)
 ·exact wpAny_pyIter_wide ha (fin _ (.inr rfl))
 ·exact wpAny_pyIter_ascii ha (fin _ (.inl rfl))
end
end L2
namespace L3
open PySem PySem.Spec PyProof.Rows L2
abbrev tX:=D->fH->Gp->(fH->Gp->Prop)->Prop
abbrev wP:=List D->fH->Gp->(fH->Gp->Prop)->Prop
def lB(K:Frag)(g:tX):TG:=fun v τ H Q=>∃ d σ G Q3,RD K H d v/\RS K H σ τ/\RG K H G/\g d σ G Q3/\∀ σ' G' τ' H',Q3 σ' G'->Kp G H G' H'->RG K H' G'->RS K H' σ' τ'->Q τ' H'
def qN(K:Frag)(g:wP):Ap:=fun vs τ H Q=>∃ ds σ G Q3,RDs K H ds vs/\RS K H σ τ/\RG K H G/\g ds σ G Q3/\∀ σ' G' τ' H',Q3 σ' G'->Kp G H G' H'->RG K H' G'->RS K H' σ' τ'->Q τ' H'
def gN(i:Nat):tX:=fun d σ G Q=>Q (σ.set i (some d)) G
def gY:wP:=fun ds σ G Q=>match ds with
 | []=>Q σ G
 | _=>False
def bX(t:tX)(u:wP):wP:=fun ds σ G Q=>match ds with
 | d::r=>t d σ G fun σ' G'=>u r σ' G' Q
 | []=>False
def i7(n:Nat)(t:wP):tX:=fun d σ G Q=>match d with
 | .tup ds=>ds.length=n/\t ds σ G Q
 | _=>False
section
variable{X:Cx}{pos:Pos}{e:Expr}{es:List Expr}{t:tX}{u:wP}
theorem aW{i:Nat}{x:Str}(hN:X.N.Nodup)(hi:X.N[i]?=some x)(hx:Cj X.env.scope x)(hf:X.fn x=true\/X.env.scope.names.lookup x=some .local:=by first|exact .inl rfl|exact .inr rfl|assumption):PG X (.Name x pos) (lB X.K (gN i)):=
 (zr hN hi hx hf).imp fun v τ H Q zz=>by
 obtain⟨d,σ,G,Q3,rd,rs,rg,h,k⟩:=zz;exact (
  k _ G _ H h Kp.refl rg (rs.set rd i))
theorem pJ:yL X [] (qN X.K gY):=zq.imp fun vs τ H Q zz=>by
 obtain⟨ds,σ,G,Q3,rd,rs,rg,h,k⟩:=zz;cases ds with
 | nil=>exact⟨rd.inv_nil,k _ G _ H h Kp.refl rg rs⟩
 | cons _ _=>exact h.elim
theorem dM(h1:PG X e (lB X.K t))(h2:yL X es (qN X.K u))(hs:(assignEach (e::es) X.env).map (·.2)=assign e X.env::(assignEach es X.env).map (·.2):=by rfl):yL X (e::es) (qN X.K (bX t u)):=
 (xL h1 h2 hs).imp fun vs τ H Q zz=>by
  obtain⟨ds,σ,G,Q3,rd,rs,rg,h,k⟩:=zz;cases ds with
  | nil=>exact h.elim
  | cons d r=>
   obtain⟨x,xs,e1,r1,r2⟩:=rd.inv_cons;refine⟨x,xs,e1,d,σ,G,_,r1,rs,rg,h,fun σ' G' τ' H' q k' rg' rs'=>⟨r,σ',G',Q3,RDs.mono (k'.stb rg) _ _ r2,rs',rg',q,fun σ2 G2 τ2 H2 q2 k2=>k σ2 G2 τ2 H2 q2 (k'.trans k2)⟩⟩
theorem pI{k:Nat}{n:Nat}(hc:X.calm=true)(h:yL X es (qN X.K u))(hn:(assignEach es X.env).length=n:=by rfl)(hst:(assignEach es X.env).findIdx? (·.1)=none:=by rfl):PG X (.Tuple es k pos) (lB X.K (i7 n u)):=
 (Bl hc h hn hst).imp fun v τ H Q zz=>by
  obtain⟨d,σ,G,Q3,rd,rs,rg,h,k⟩:=zz;cases d with
  | tup ds=>
   simp only[RD]at rd;obtain⟨a,xs,e1,q,r⟩:=rd;exact⟨a,xs,e1,q,by rw[<- r.length];exact h.1,ds,σ,G,Q3,r,rs,rg,h.2,k⟩
  | _=>exact h.elim
end
abbrev yP:=fH->Gp->(List D->Gp->Prop)->Prop
def wR(K:Frag)(G0:Gp)(H0:Hp)(ds:List D)(J:It):Prop:=∀ i G H,Kp G0 H0 G H->RG K H G->
 (i < ds.length->J.go i H/\∀ x H',J.yld i H x H'->Kp G H G H'/\RG K H' G/\∃ d,ds[i]?=some d/\RD K H' d x)/\(i=ds.length->J.stop i H)
def lA(K:Frag)(ti:yP):TI:=fun τ H R=>∃ σ G Q3,RS K H σ τ/\RG K H G/\ti σ G Q3/\∀ ds G' J H',Q3 ds G'->Kp G H G' H'->RG K H' G'->wR K G' H' ds J->R J H'
def signs(x:Str):List D:=x.cps.toList.map fun c=>D.str ⟨#[c]⟩
theorem zY{K:Frag}{G0:Gp}{H0:Hp}{ds:List D}{xs:List V}(r:∀ H,RDs K H ds xs):wR K G0 H0 ds (EL xs):=fun i G H _ rg=>by
 have hl:=(r H).length;refine⟨fun hi=>⟨(show i < xs.length by walk_at "o"),fun x H' y=>?_⟩,fun e=>(show i=xs.length by walk_at "o")⟩
 obtain⟨rfl,hx⟩:=y;refine⟨Kp.refl,rg,ds[i],by simp[hi],?_⟩
 obtain⟨y,e,q⟩:=(r H').get (i:=i) (d:=ds[i]) (by simp[hi])
 rw[hx]at e;cases e;exact q
theorem zZ{K:Frag}{G0:Gp}{H0:Hp}{ds:List D}{xs:List V}{a:Addr}(rg0:RG K H0 G0)(f:yQ K H0 a xs)(r:RDs K H0 ds xs):wR K G0 H0 ds (EM K a):=fun i G H k rg=>by
 have hl:=r.length;have f':=(k.stb rg0).l _ _ f;have r':=RDs.mono (k.stb rg0) _ _ r;refine⟨fun hi=>⟨⟨xs,xs[i]'(by walk_at "o"),f'.sq,by simp[show i < xs.length by walk_at "o"]⟩,fun x H' y=>?_⟩,fun e=>⟨xs,f'.sq,by walk_at "o"⟩⟩
 obtain⟨rfl,hx⟩:=y;refine⟨Kp.refl,rg,ds[i],by simp[hi],?_⟩
 obtain⟨y,e,q⟩:=r'.get (i:=i) (d:=ds[i]) (by simp[hi])
 rw[hx xs f'.sq]at e;cases e;exact q
theorem BY{K:Frag}{G0:Gp}{H0:Hp}{ds:List D}{xs:List V}{a:Addr}(rg0:RG K H0 G0)(f:hJ K H0 a xs)(r:RDs K H0 ds xs):wR K G0 H0 ds (EK K a):=fun i G H k rg=>by
 have hl:=r.length;have f':=(k.stb rg0).t _ _ f;have r':=RDs.mono (k.stb rg0) _ _ r;refine⟨fun hi=>⟨⟨xs,xs[i]'(by walk_at "o"),f',by simp[show i < xs.length by walk_at "o"]⟩,fun x H' y=>?_⟩,fun e=>⟨xs,f',by walk_at "o"⟩⟩
 obtain⟨rfl,hx⟩:=y;refine⟨Kp.refl,rg,ds[i],by simp[hi],?_⟩
 obtain⟨y,e,q⟩:=r'.get (i:=i) (d:=ds[i]) (by simp[hi])
 rw[hx xs f']at e;cases e;exact q
def fR:D->Option (List D)
 | .lst ds=>some ds
 | .fl ds=>some ds
 | .tup ds=>some ds
 | .str x=>some (signs x)
 | _=>none
def eX(te:bJ):yP:=fun σ G Q=>te σ G fun d G'=>match fR d with
 | some ds=>Q ds G'
 | none=>False
def d6(lo:Int)(n:Nat):List D:=(List.range n).map fun k=>D.int (lo+(k:Nat))
theorem tj{K:Frag}{G0:Gp}{H0:Hp}{lo:Int}{n:Nat}:wR K G0 H0 (d6 lo n) (DQ lo n):=fun i G H _ rg=>by
 have hl:(d6 lo n).length=n:=by simp[d6]
 rw[hl];refine⟨fun hi=>⟨hi,fun x H' y=>?_⟩,fun e=>(show n<=i by walk_at "o")⟩
 obtain⟨rfl,rfl⟩:=y;exact⟨Kp.refl,rg,.int (lo+(i:Nat)),by simp[d6,hi],dL⟩
def B1(ta:j6):yP:=fun σ G Q=>ta σ G fun ds G'=>match ds with
 | [.int j]=>(-(2 ^ 62)<=j/\j < 2 ^ 62)/\Q (d6 0 j.toNat) G'
 | _=>False
def Et(ta:j6):yP:=fun σ G Q=>ta σ G fun ds G'=>match ds with
 | [.int i,.int j]=>(-(2 ^ 62)<=i/\i < 2 ^ 62/\-(2 ^ 62)<=j/\j < 2 ^ 62)/\Q (d6 i (j - i).toNat) G'
 | _=>False
section
variable{X:Cx}{tg e:Expr}{te:bJ}
theorem dY(h:PE X e (aJ X.K te)):PI X tg e (lA X.K (eX te)):=by
 intro pins s τ H R I hq;obtain⟨σ,G,Q3,rs,rg,hq,k⟩:=hq;refine bZ (fI h pins s τ H (fun v H1=>∃ d G1,Kp G H G1 H1/\RG X.K H1 G1/\RD X.K H1 (val d) v/\(match fR d with|some ds=>Q3 ds G1|none=>False)) I ⟨σ,G,_,rs,rg,hq,fun d G' v H' q k' rg' rd=>⟨d,G',k',rg',rd,q⟩⟩) fun u s1 zz=>?_
 obtain⟨v,H1,I1,r1,d,G1,k1,rg1,rd,q⟩:=zz;have seq:∀ {a:Addr} {xs:List V} {ds:List D},yQ X.K H1 a xs->RDs X.K H1 ds xs->Q3 ds G1->wpAny (model X.prog X.w) X.A (pyIter (.ref a)) (Ci X pins τ tg R) X.xe s1:=fun f r q=>ww I1 f.sq (k _ G1 _ H1 q k1 rg1 (zZ rg1 f r));cases d with
 | lst ds=>
  simp only[val,RD]at rd;obtain⟨a,xs,rfl,f,r⟩:=rd;cases r1;exact seq f r q
 | fl ds=>
  simp only[val,RD]at rd;obtain⟨a,xs,rfl,f,r⟩:=rd;cases r1;exact seq f r q
 | tup ds=>
  simp only[val,RD]at rd;obtain⟨a,xs,rfl,f,r⟩:=rd;cases r1;exact yg I1 f (k _ G1 _ H1 q k1 rg1 (BY rg1 f r))
 | str z=>
  simp only[val,RD]at rd;subst rd;obtain⟨t,rfl⟩:=r1;refine yh I1 (k _ G1 _ H1 q k1 rg1 (zY fun H'=>?_));have:signs z=(z.cps.toList.map fun c=>(⟨#[c]⟩:Str)).map D.str:=by simp[signs]
  rw[this];have e2:dh z=(z.cps.toList.map fun c=>(⟨#[c]⟩:Str)).map V.str:=by simp[dh]
  rw[e2];exact RDs.strs _
 | _=>exact q.elim
theorem iK{a:Expr}{ta:j6}{p pos:Pos}(hg:Gl X "range")(hm:X.mg "range"=none)(ha:PA X [a] (eT X.K ta))(hs:starEach [a] X.env=[(false,eval a X.env)]:=by rfl):PI X tg (.Call (.Name "range" p) [a] [] pos) (lA X.K (B1 ta)):=
 (v4 hg hm ha hs).imp fun τ H R zz=>by
 obtain⟨σ,G,Q3,rs,rg,h,k⟩:=zz;exact (
  ⟨σ,G,_,rs,rg,h,fun ds G1 vs H1 q k1 rg1 rds=>by
    split at q
    ·rename_i j;obtain⟨x,r,e1,r1,r2⟩:=rds.inv_cons;have:=r2.inv_nil;simp only[RD]at r1;subst e1 this r1;exact⟨j,rfl,q.1.1,q.1.2,k _ G1 _ H1 q.2 k1 rg1 tj⟩
    ·exact q.elim⟩)
theorem yl{a b:Expr}{ta:j6}{p pos:Pos}(hg:Gl X "range")(hm:X.mg "range"=none)(ha:PA X [a,b] (eT X.K ta))(hs:starEach [a,b] X.env=[(false,eval a X.env),(false,eval b X.env)]:=by rfl)(hs2:starEach [b] X.env=[(false,eval b X.env)]:=by rfl):
  PI X tg (.Call (.Name "range" p) [a,b] [] pos) (lA X.K (Et ta)):=
 (v3 hg hm ha hs hs2).imp fun τ H R zz=>by
 obtain⟨σ,G,Q3,rs,rg,h,k⟩:=zz;exact (
  ⟨σ,G,_,rs,rg,h,fun ds G1 vs H1 q k1 rg1 rds=>by
    split at q
    ·rename_i i j;obtain⟨x,r,e1,r1,r2⟩:=rds.inv_cons;obtain⟨x',r',e1',r1',r2'⟩:=r2.inv_cons;have:=r2'.inv_nil;simp only[RD]at r1 r1';subst e1 e1' this r1 r1';exact⟨i,j,rfl,q.1,k _ G1 _ H1 q.2 k1 rg1 tj⟩
    ·exact q.elim⟩)
end
def ForIn(g:tX)(tb:dg)(E:Ends3)(σ:fH)(ds:List D)(G1:Gp):Prop:=∃ Pv:Nat->fH->Gp->Prop,Pv 0 σ G1/\
 (∀ (i:Nat) d σ' G',ds[i]?=some d->Pv i σ' G'->g d σ' G' fun σ2 G2=>tb { E with nx:=Pv (i+1),ct:=Pv (i+1),bk:=E.nx } σ2 G2)/\∀ σ' G',Pv ds.length σ' G'->E.nx σ' G'
def fZ(ti:yP)(g:tX)(tb:dg):dg:=fun D σ G=>ti σ G fun ds G1=>ForIn g tb D σ ds G1
theorem fA{X:Cx}{tg iter:Expr}{body:List Stmt}{ti:yP}{g:tX}{tb:dg}{pos:Pos}(hp:PassesOwn (model X.prog X.w) X.A X.env X.xe)(hc:X.calm=true)(hi:PI X tg iter (lA X.K ti))(hg:PG X tg (lB X.K g))(hb:kZ X body (cF X.K tb))
  (hs:∀ x,foldedSetIterable iter X.env x=pure x:=by intro _;rfl):PS X (.For tg iter body [] pos) (cF X.K (fZ ti g tb)):=
 (Bi hp hc hi hg hb hs).imp fun D τ H zz=>by
 obtain⟨σ,G,D3,rs,rg,h,k⟩:=zz;exact (
  ⟨σ,G,_,rs,rg,h,fun ds G1 J H1 q k1 rg1 it=>by
    obtain⟨Pv,p0,step,fin⟩:=q;refine⟨fun i m τ' H'=>m=ds.length - i/\i<=ds.length/\∃ σ' G',RS X.K H' σ' τ'/\RG X.K H' G'/\Pv i σ' G'/\Kp G1 H1 G' H',⟨ds.length,rfl,zero_le _,σ,G1,rs.mono (k1.stb rg),rg1,p0,Kp.refl⟩,?_⟩
    rintro i m τ' H' ⟨rfl,hi',σ',G',rs',rg',pv,k'⟩
    obtain⟨hgo,hstop⟩:=it i G' H' k' rg'
    by_cases hlt:i < ds.length
    ·obtain⟨go,yld⟩:=hgo hlt;refine .inr ⟨go,fun τ2 H2=>∃ σ2 G2,RS X.K H2 σ2 τ2/\RG X.K H2 G2/\Pv (i+1) σ2 G2/\Kp G1 H1 G2 H2,fun τ2 H2 ⟨σ2,G2,a,b,c,d⟩=>⟨ds.length - (i+1),by walk_at "o",rfl,hlt,σ2,G2,a,b,c,d⟩,fun x H2 y=>?_⟩
     obtain⟨ky,rgy,d,hd,rd⟩:=yld x H2 y;refine⟨d,σ',G',_,rd,rs'.mono (ky.stb rg'),rgy,step i d σ' G' hd pv,fun σ3 G3 τ3 H3 q3 k3 rg3 rs3=>?_⟩;have kk:Kp G1 H1 G3 H3:=k'.trans (ky.trans k3);have kG:Kp G H G3 H3:=k1.trans kk;refine⟨σ3,G3,_,rs3,rg3,q3,⟨fun σ4 G4 τ4 H4 q4 k4 rg4 rs4=>⟨σ4,G4,rs4,rg4,q4,kk.trans k4⟩,k.rt.base kG,fun σ4 G4 τ4 H4 q4 k4=>k.nx σ4 G4 τ4 H4 q4 (kG.trans k4),fun σ4 G4 τ4 H4 q4 k4 rg4 rs4=>⟨σ4,G4,rs4,rg4,q4,kk.trans k4⟩⟩⟩
    ·have e:i=ds.length:=by walk_at "o"
     refine .inl ⟨hstop e,k.nx σ' G' τ' H' (fin σ' G' (by rw[<- e];exact pv)) (k1.trans k') rg' rs'⟩⟩)
def iC:mv:=fun _ G Q=>Q true G
def u_(k:Nat)(g:tX)(tt:mv)(te:bJ)(σ:fH)(ds:List D)(G1:Gp)(Q:oW):Prop:=ds.length<=sizeLine/\∃ Pv:Nat->List D->Gp->Prop,Pv 0 [] G1/\
 (∀ (i:Nat) d acc G',ds[i]?=some d->Pv i acc G'->g d (List.replicate k none ++ σ) G' fun σ2 G2=>(k<=σ2.length/\σ2.drop k=σ)/\tt σ2 G2 fun b G3=>if b=true then te σ2 G3 fun y G4=>Pv (i+1) (acc ++ [val y]) G4 else Pv (i+1) acc G3)/\
 ∀ acc G',Pv ds.length acc G'->Q (.fl acc) G'
def eV(k:Nat)(ti:yP)(g:tX)(tt:mv)(te:bJ):bJ:=fun σ G Q=>ti σ G fun ds G1=>u_ k g tt te σ ds G1 Q
theorem fF{k:Nat}{g:tX}{te:bJ}{σ:fH}{ds:List D}{G1:Gp}{Q:oW}(f:D->D)(hl:ds.length<=sizeLine)
  (he:∀ d∈ds,∀ P:oW,(∀ y,val y=f d->P y G1)->g d (List.replicate k none ++ σ) G1 fun σ2 G2=>(k<=σ2.length/\σ2.drop k=σ)/\te σ2 G2 P) (hq:Q (.fl (ds.map f)) G1):u_ k g iC te σ ds G1 Q:=by
 refine⟨hl,fun i acc G'=>acc=(ds.take i).map f/\G'=G1,⟨by simp,rfl⟩,fun i d acc G' hd ⟨ha,hG⟩=>?_,fun acc G' ⟨ha,hG⟩=>?_⟩
 ·subst hG;exact he d (mem_of_getElem? hd) (fun y G4=>acc ++ [val y]=(ds.take (i+1)).map f/\G4=G') fun y hy=>⟨by rw[ha,hy,take_add_one,hd];simp,rfl⟩
 ·subst hG;rw[ha,take_length];exact hq
theorem lJ{k:Nat}{g:tX}{tt:mv}{te:bJ}{σ:fH}{ds:List D}{G1:Gp}{Q:oW}(p:D->Bool)(f:D->D)(hl:ds.length<=sizeLine)
  (he:∀ d∈ds,∀ (P:oW) (R:Gp->Prop),(p d=true->∀ y,val y=f d->P y G1)->(p d=false->R G1)->g d (List.replicate k none ++ σ) G1 fun σ2 G2=>(k<=σ2.length/\σ2.drop k=σ)/\tt σ2 G2 fun b G3=>if b=true then te σ2 G3 P else R G3)
  (hq:Q (.fl ((ds.filter p).map f)) G1):u_ k g tt te σ ds G1 Q:=by
 refine⟨hl,fun i acc G'=>acc=((ds.take i).filter p).map f/\G'=G1,⟨by simp,rfl⟩,fun i d acc G' hd ⟨ha,hG⟩=>?_,fun acc G' ⟨ha,hG⟩=>?_⟩
 ·subst hG;have e:(ds.take (i+1)).filter p=(ds.take i).filter p ++ (if p d=true then [d]else []):=by
   rw[take_add_one,hd,List.filter_append];cases hp:p d<;>simp[hp]
  refine he d (mem_of_getElem? hd) (fun y G4=>acc ++ [val y]=((ds.take (i+1)).filter p).map f/\G4=G') (fun G4=>acc=((ds.take (i+1)).filter p).map f/\G4=G') (fun hp y hy=>⟨?_,rfl⟩) fun hp=>⟨?_,rfl⟩
  ·rw[e,hp,ha,hy];simp
  ·rw[e,hp,ha];simp
 ·subst hG;rw[ha,take_length];exact hq
section
variable{X:Cx}{elt tg iter:Expr}{ifs:List Expr}{scope:Scope}{T M:List Str}{pos:Pos}{ti:yP}{g:tX}{tt:mv}{te:bJ}
theorem Bb{K:Frag}{H:Hp}{σ:fH}{τ:St}(T:List Str)(r:RS K H σ τ):RS K H (List.replicate T.length none ++ σ) (ent T τ):=by
 unfold ent
 induction T with
 | nil=>exact r
 | cons a t ih=>exact .cons (show wY K H none none from trivial) ih
theorem pi{K:Frag}{H:Hp}:∀ (k:Nat) {σ:fH} {τ:St},k<=σ.length->RS K H σ τ->RS K H (List.replicate k none ++ σ.drop k) τ
 | 0,_,_,_,r=>r
 | k+1,[],_,h,_=>absurd h (by simp)
 | k+1,a::t,_,h,.cons _ r=>.cons (show wY K H none _ from trivial) (pi k (by simpa using h) r)
theorem pO{K:Frag}{τ:St}{H:Hp}{Q:VK}(h:aJ K (eV T.length ti g tt te) τ H Q):
  xj (ent T) (lA K ti) (lB K g) (df K tt) (vp K te) τ H Q:=by
 obtain⟨σ,G,Q3,rs,rg,h,k⟩:=h;refine⟨σ,G,_,rs,rg,h,fun ds G1 J H1 q k1 rg1 it Da hD=>?_⟩;obtain⟨hsz,Pv,p0,step,fin⟩:=q;have kD:Kp G1 H1 G1 (bB H1 Da (.lst [])):=Kp.laid hD;have rgD:RG K (bB H1 Da (.lst [])) G1:=rg1.laid hD;have gD:G1 Da=none:=rg1.free hD;refine⟨fun i m ys τ2 H2=>m=ds.length - i/\i<=ds.length/\∃ acc G2,H2 Da=some (.lst ys)/\G2 Da=none/\RG K H2 G2/\RS K H2 (List.replicate T.length none ++ σ) τ2/\RDs K H2 acc ys/\acc.length<=i/\Pv i acc G2/\(∀ a h,a≠Da->H1 a=some h->G1 a=none->H2 a=some h/\G2 a=none),
  ⟨ds.length,rfl,zero_le _,[],G1,aT,gD,rgD,Bb T (rs.mono ((k1.trans kD).stb rg)),RDs.nil,le_refl _,p0,fun a h ha e n=>⟨by rw[au ha];exact e,n⟩⟩,?_⟩
 rintro i m ys τ2 H2 ⟨rfl,hi',acc,G2,eD,nD,rg2,rs2,ra,la,pv,k2⟩
 have k2':Kp G1 H1 G2 H2:=fun a h e n=>k2 a h (bL e hD) e n;refine⟨eD,?_⟩;obtain⟨hgo,hstop⟩:=it i G2 H2 k2' rg2
 by_cases hlt:i < ds.length
 ·obtain⟨go,yld⟩:=hgo hlt;refine .inr ⟨go,fun ys' τ' H'=>∃ acc G',H' Da=some (.lst ys')/\G' Da=none/\RG K H' G'/\RS K H' (List.replicate T.length none ++ σ) τ'/\RDs K H' acc ys'/\acc.length<=i+1/\Pv (i+1) acc G'/\(∀ a h,a≠Da->H1 a=some h->G1 a=none->H' a=some h/\G' a=none),
   fun ys' τ' H' q'=>⟨ds.length - (i+1),by walk_at "o",rfl,hlt,q'⟩,fun x H3 y=>?_⟩
  obtain⟨ky,rgy,d,hd,rd⟩:=yld x H3 y;refine⟨d,List.replicate T.length none ++ σ,G2,_,rd,rs2.mono (ky.stb rg2),rgy,step i d acc G2 hd pv,fun σ4 G4 τ4 H4 q4 k4 rg4 rs4=>?_⟩;obtain⟨⟨hlen,hdrop⟩,q4⟩:=q4;have rs4':RS K H4 (List.replicate T.length none ++ σ) τ4:=by
   have:=pi T.length hlen rs4;rw[hdrop]at this;exact this
  refine⟨σ4,G4,_,rs4,rg4,q4,fun b G5 H5 q5 k5 rg5=>?_⟩;have e3:H3 Da=some (.lst ys):=(ky Da _ eD nD).1;have e4:=k4 Da _ e3 nD;have e5:=k5 Da _ e4.1 e4.2;have kk:∀ {G6:Gp} {H6:Hp},Kp G5 H5 G6 H6->∀ a h,a≠Da->H1 a=some h->G1 a=none->H6 a=some h/\G6 a=none:=fun k6 a h ha e n=>((((Kp.trans k2' ky).trans k4).trans k5).trans k6) a h e n;cases b with
  | false=>
   refine iteF ⟨acc,G5,e5.1,e5.2,rg5,rs4'.mono (k5.stb rg4),RDs.mono (((ky.trans k4).trans k5).stb rg2) _ _ ra,by walk_at "o",q5,kk Kp.refl⟩
  | true=>
   refine iteT ⟨σ4,G5,_,rs4.mono (k5.stb rg4),rg5,q5,fun yv G6 v H6 q6 k6 rg6 rd6=>?_⟩;have e6:=k6 Da _ e5.1 e5.2;have la':=ra.length;have st:Stb K H6 (bB H6 Da (.lst (ys ++ [v]))):=by
    constructor
    ·intro a zs q;rcases q with (q|⟨o,q⟩)|q
     ·exact .inl (.inl (by rw[au (fun z=>by subst z;rw[e6.1]at q;cases q)];exact q))
     ·exact .inl (.inr ⟨o,by rw[au (fun z=>by subst z;rw[e6.1]at q;cases q)];exact q⟩)
     ·exact .inr q
    ·intro a zs q;rcases q with ⟨o,q⟩|q
     ·exact .inl ⟨o,by rw[au (fun z=>by subst z;rw[e6.1]at q;cases q)];exact q⟩
     ·exact .inr q
   refine⟨e6.1,by walk_at "o",acc ++ [val yv],G6,aT,e6.2,fun a o q=>?_,(rs4'.mono ((k5.trans k6).stb rg4)).mono st,?_,by simp;omega,q6,fun a h ha e n=>?_⟩
   ·obtain⟨h',q1,q2⟩:=rg6 a o q;exact⟨h',by rw[au (fun z=>by subst z;rw[e6.2]at q;cases q)];exact q1,q2.mono st⟩
   ·exact RDs.append (RDs.mono st _ _ (RDs.mono ((((ky.trans k4).trans k5).trans k6).stb rg2) _ _ ra)) (RDs.cons (RD.mono st _ _ rd6) RDs.nil)
   ·rw[au ha];exact kk k6 a h ha e n
 ·have e:i=ds.length:=by walk_at "o"
  refine .inl ⟨hstop e,k _ G2 _ H2 (fin acc G2 (by rw[<- e];exact pv)) (k1.trans k2') rg2 (.inl ⟨acc,Da,ys,rfl,rfl,eD,nD,ra,?_⟩)⟩
  exact k1.fr (mq hD)
theorem iB:Ar X [] (df X.K iC):=fun pins s τ H Q I h=>by
 obtain⟨σ,G,Q3,rs,rg,h,k⟩:=h;exact zj pins s τ H Q I (k true G H h Kp.refl rg)
theorem p7{c:Expr}{tc:mv}(h:PT X c (df X.K tc)):Ar X [c] (df X.K tc):=zi h
theorem ig(ok:CompOk X scope T M)
  (hin:∀ cl C s₀ H₀ fp,PG (bN X (T ++ M) scope cl C s₀ H₀ fp) tg (lB X.K g)/\Ar (bN X (T ++ M) scope cl C s₀ H₀ fp) ifs (df X.K tt)/\PE (bN X (T ++ M) scope cl C s₀ H₀ fp) elt (aJ X.K te))
  (hi:PI X tg iter (lA X.K ti)) (hs:∀ x,foldedSetIterable iter X.env x=pure x:=by intro _;rfl):PE X (.ListComp elt [⟨tg,iter,ifs,0⟩] scope pos) (aJ X.K (eV T.length ti g tt te)):=
 (zw ok (fun cl C s₀ H₀ fp=>let ⟨a,b,c⟩:=hin cl C s₀ H₀ fp;⟨a,b,fI c⟩) hi hs).imp fun _ _ _ h=>pO h
theorem uq{i:Nat}{x:Str}{px spos:Pos}(ok:CompOk X scope T M)(hN:X.N.Nodup)(hix:X.N[i]?=some x)(hx:X.env.scope.names.lookup x=some .local)
  (hin:∀ cl C s₀ H₀ fp,PG (bN X (T ++ M) scope cl C s₀ H₀ fp) tg (lB X.K g)/\Ar (bN X (T ++ M) scope cl C s₀ H₀ fp) ifs (df X.K tt)/\PE (bN X (T ++ M) scope cl C s₀ H₀ fp) elt (aJ X.K te))
  (hi:PI X tg iter (lA X.K ti)) (hsw:swapsWith (.ListComp elt [⟨tg,iter,ifs,0⟩] scope pos) (some (.Name x px)) spos.line X.env=pure true:=by rfl) (hs:∀ x,foldedSetIterable iter X.env x=pure x:=by intro _;rfl):
  PS X (.Assign [.Name x px] (.ListComp elt [⟨tg,iter,ifs,0⟩] scope pos) spos) (cF X.K (bx i (eV T.length ti g tt te))):=
 (zn ok hN hix hx (fun cl C s₀ H₀ fp=>let ⟨a,b,c⟩:=hin cl C s₀ H₀ fp;⟨a,b,fI c⟩) hi hsw hs).imp fun D τ H zz=>by
  obtain⟨σ,G,D3,rs,rg,h,k⟩:=zz;refine pO (Q:=fun v H1=>D.nx (τ.set i (some v)) H1\/∃ p xs,v=.ref p/\H1 p=some (.lst xs)/\∀ o,D.nx (τ.set i (some v)) (bB H1 p (.frz o (.lst xs)))) ⟨σ,G,_,rs,rg,h,fun d G' v H' q k' rg' re=>?_⟩;cases d with
  | fl ds=>
   obtain⟨p,xs,rfl,e1,e2,e3,e4⟩:=re.fl;refine .inr ⟨p,xs,rfl,e1,fun o=>?_⟩;obtain⟨rg2,st⟩:=yp (o:=o) rg' e1 e2;exact k.nx _ G' _ _ q (yq (K:=X.K) k' e4) rg2 (((rs.mono (k'.stb rg)).mono st).set (mL (.inl ⟨o,aT⟩) (RDs.mono st _ _ e3)) i)
  | _=>exact .inl (k.nx _ G' _ H' q k' rg' ((rs.mono (k'.stb rg)).set (re.rd (by intro ds z;cases z)) i))
end
open PySem.SeqAt
def dZ(x y:D):Bool:=@decide (x=y) (Classical.propDecidable _)
theorem gy{x y:D}:dZ x y=true↔x=y:=by unfold dZ;exact @decide_eq_true_iff _ (Classical.propDecidable _)
theorem bj(x:D):dZ x x=true:=gy.mpr rfl
theorem nF{x y:D}(h:x=y):dZ x y=true:=gy.mpr h
theorem bA{x y:D}(h:x≠y):dZ x y=false:=by
 cases e:dZ x y with
 | false=>rfl
 | true=>exact absurd (gy.mp e) h
theorem iL{x y:D}{b:Bool}(h:(b=true)↔x=y):dZ x y=b:=by
 cases b with
 | true=>exact nF (h.mp rfl)
 | false=>exact bA fun e=>nomatch h.mpr e
def pl:Nat->D->Prop
 | _,.non=>True
 | _,.int _=>True
 | _,.str _=>True
 | n+1,.tup ds=>∀ d∈ds,pl n d
 | n+1,.lst ds=>∀ d∈ds,pl n d
 | _,_=>False
section
variable{X:Cx}{pins:List (Addr×Obj)}{σ:St}{H:Hp}{s:Shared}
theorem vm(I:Inv X pins σ H s){a:Addr}{xs ys:List V}(h1:hJ X.K H a xs)(h2:i0 X.K H a ys):False:=by
 obtain⟨_,_,⟨o,e,c,_⟩,_⟩:=I.tuple h1;obtain⟨_,_,p,_⟩:=I.list h2;obtain⟨o',e',c',_⟩:=p.isList;rw[e]at e';cases e';rw[c]at c';injection c' with z
 exact absurd z (by decide)
theorem ul(I:Inv X pins σ H s):∀ (n:Nat) {x y:D} {v:V},pl n x->pl n y->RD X.K H x v->RD X.K H y v->x=y:=by
 intro n
 induction n with
 | zero=>
  intro x y v px py rx ry;cases x<;>first|exact px.elim|(cases y<;>first|exact py.elim|(simp only[RD]at rx ry;subst rx;first|rfl|(cases ry;rfl)|cases ry))
 | succ n ih=>
  have seq:∀ {ds es:List D} {xs:List V},(∀ d∈ds,pl n d)->(∀ d∈es,pl n d)->RDs X.K H ds xs->RDs X.K H es xs->ds=es:=by
   intro ds
   induction ds with
   | nil=>
    intro es xs _ _ r1 r2;have:=r1.inv_nil;subst this;cases es with
    | nil=>rfl
    | cons e t=>have:=r2.length;simp at this
   | cons d t ihd=>
    intro es xs p1 p2 r1 r2;obtain⟨v,vs,e1,a1,b1⟩:=r1.inv_cons;subst e1;cases es with
    | nil=>have:=r2.length;simp at this
    | cons e u=>
     obtain⟨v',vs',e2,a2,b2⟩:=r2.inv_cons;cases e2;rw[ih (p1 d mem_cons_self) (p2 e mem_cons_self) a1 a2,ihd (fun z hz=>p1 z (mem_cons_of_mem _ hz)) (fun z hz=>p2 z (mem_cons_of_mem _ hz)) b1 b2]
  intro x y v px py rx ry;cases x with
  | tup ds=>
   simp only[RD]at rx;obtain⟨a,xs,rfl,s1,r1⟩:=rx;cases y with
   | tup es=>
    simp only[RD]at ry;obtain⟨b,ys,e,s2,r2⟩:=ry;cases e;have:=I.tuple_inj s1 s2;subst this;rw[seq px py r1 r2]
   | lst es=>
    simp only[RD]at ry;obtain⟨b,ys,e,s2,r2⟩:=ry;cases e;exact (vm I s1 s2.sq).elim
   | _=>first|exact py.elim|(simp only[RD]at ry;cases ry)
  | lst ds=>
   simp only[RD]at rx;obtain⟨a,xs,rfl,s1,r1⟩:=rx;cases y with
   | lst es=>
    simp only[RD]at ry;obtain⟨b,ys,e,s2,r2⟩:=ry;cases e;have:=I.list_inj s1.sq s2.sq;subst this;rw[seq px py r1 r2]
   | tup es=>
    simp only[RD]at ry;obtain⟨b,ys,e,s2,r2⟩:=ry;cases e;exact (vm I s2 s1.sq).elim
   | _=>first|exact py.elim|(simp only[RD]at ry;cases ry)
  | _=>first|exact px.elim|(cases y with
   | tup es=>simp only[RD]at rx ry;obtain⟨b,ys,e,_⟩:=ry;rw[rx]at e;cases e
   | lst es=>simp only[RD]at rx ry;obtain⟨b,ys,e,_⟩:=ry;rw[rx]at e;cases e
   | _=>first|exact py.elim|(simp only[RD]at rx ry;subst rx;first|rfl|(cases ry;rfl)|cases ry))
structure Cmp3(A:Around)(s:Shared)(v u:Value)(b:Bool):Prop where
 eq:EqAt A s v u b
 rc:RcAt A s v u b
 ne:RcNeAt A s v u (!b)
theorem rV{ds es:List D}(n:Nat)(hn:n=min ds.length es.length):((List.range n).all (fun j=>dZ (ds.getD j .non) (es.getD j .non)) && ds.length == es.length)=dZ (.tup ds) (.tup es):=by
 symm;refine iL ?_;rw[Bool.and_eq_true,all_eq_true,beq_iff_eq];constructor
 ·rintro⟨h1,h2⟩
  congr 1;refine List.ext_getElem h2 fun i hi hj=>?_;have:=gy.mp (h1 i (mem_range.mpr (by walk_at "o")))
  rw[getD_eq_getElem?_getD,getD_eq_getElem?_getD,getElem?_eq_getElem hi,getElem?_eq_getElem hj]at this
  simpa using this
 ·intro h;cases h;exact⟨fun i _=>bj _,rfl⟩
theorem Ac{ds es:List D}:dZ (.lst ds) (.lst es)=dZ (.tup ds) (.tup es):=iL (by rw[gy];constructor<;>(intro h;cases h;rfl))
theorem Vals.getV:∀ {xs:List V} {us:List Value} {i:Nat} {u:Value},Vals xs us->us[i]?=some u->∃ x,xs[i]?=some x/\aD x u
 | _,_,_,_,.nil,e=>by simp at e
 | _,_,0,_,.cons r _,e=>by simp at e;subst e;exact⟨_,rfl,r⟩
 | _,_,i+1,u,.cons _ t,e=>by
  obtain⟨x,h1,h2⟩:=Vals.getV (i:=i) (u:=u) t (by simpa using e)
  exact⟨x,by simpa using h1,h2⟩
theorem RDs.getV{K:Frag}{H:Hp}:∀ {ds:List D} {xs:List V} {i:Nat} {x:V},RDs K H ds xs->xs[i]?=some x->∃ d,ds[i]?=some d/\RD K H d x
 | [],xs,i,x,h,e=>by rw[h.inv_nil]at e;simp at e
 | d::ds,xs,i,x,h,e=>by
  obtain⟨y,r,e1,h1,h2⟩:=h.inv_cons;subst e1;cases i with
  | zero=>simp at e;subst e;exact⟨d,rfl,h1⟩
  | succ i=>
   obtain⟨z,q1,q2⟩:=RDs.getV (i:=i) (x:=x) h2 (by simpa using e)
   exact⟨z,by simpa using q1,q2⟩
def sc:D->Prop
 | .non=>True
 | .int _=>True
 | .str _=>True
 | _=>False
theorem Cc{j:Int}{t:Tok}{A:Around}:Cmp3 A s .none (.int j t) (dZ .non (.int j)):=by rw[bA (by intro z;cases z)];exact⟨EqAt.none_int _ _,RcAt.none_int _ _,RcNeAt.none_int _ _⟩
theorem Ca{j:Str}{t:Tok}{A:Around}:Cmp3 A s .none (.str j t) (dZ .non (.str j)):=by rw[bA (by intro z;cases z)];exact⟨EqAt.none_str _ _,RcAt.none_str _ _,RcNeAt.none_str _ _⟩
theorem Ce{j:Int}{t:Tok}{A:Around}:Cmp3 A s (.int j t) .none (dZ (.int j) .non):=by rw[bA (by intro z;cases z)];exact⟨EqAt.int_none _ _,RcAt.int_none _ _,RcNeAt.int_none _ _⟩
theorem B9{j:Str}{t:Tok}{A:Around}:Cmp3 A s (.str j t) .none (dZ (.str j) .non):=by rw[bA (by intro z;cases z)];exact⟨EqAt.str_none _ _,RcAt.str_none _ _,RcNeAt.str_none _ _⟩
theorem Cd{i:Int}{j:Str}{t u:Tok}{A:Around}:Cmp3 A s (.int i t) (.str j u) (dZ (.int i) (.str j)):=by rw[bA (by intro z;cases z)];exact⟨EqAt.int_str _ _ _ _,RcAt.int_str _ _ _ _,RcNeAt.int_str _ _ _ _⟩
theorem B_{i:Str}{j:Int}{t u:Tok}{A:Around}:Cmp3 A s (.str i t) (.int j u) (dZ (.str i) (.int j)):=by rw[bA (by intro z;cases z)];exact⟨EqAt.str_int _ _ _ _,RcAt.str_int _ _ _ _,RcNeAt.str_int _ _ _ _⟩
theorem Cf{i j:Int}{t u:Tok}{A:Around}:Cmp3 A s (.int i t) (.int j u) (dZ (.int i) (.int j)):=by
 have e:dZ (.int i) (.int j)=(i == j):=iL (by rw[beq_iff_eq];exact⟨fun z=>by rw[z],fun z=>by cases z;rfl⟩)
 rw[e];exact⟨EqAt.int_int _ _ _ _,RcAt.int_int _ _ _ _,RcNeAt.int_int _ _ _ _⟩
theorem B8{i j:Str}{t u:Tok}{A:Around}:Cmp3 A s (.str i t) (.str j u) (dZ (.str i) (.str j)):=by
 have e:dZ (.str i) (.str j)=(i == j):=iL (by rw[beq_iff_eq];exact⟨fun z=>by rw[z],fun z=>by cases z;rfl⟩)
 rw[e];exact⟨EqAt.str_str _ _ _ _,RcAt.str_str _ _ _ _,RcNeAt.str_str _ _ _ _⟩
theorem Cb{A:Around}:Cmp3 A s .none .none (dZ .non .non):=by rw[bj];exact⟨EqAt.same _,RcAt.none_none,RcNeAt.none_none⟩
theorem j9{K:Frag}{x:D}{v:V}{v':Value}(h:sc x)(r:RD K H x v)(l:aD v v'):(x=.non/\v'=.none)\/(∃ i t,x=.int i/\v'=.int i t)\/(∃ i t,x=.str i/\v'=.str i t):=by
 cases x with
 | non=>simp only[RD]at r;subst r;exact .inl ⟨rfl,l⟩
 | int i=>simp only[RD]at r;subst r;obtain⟨t,e⟩:=l;exact .inr (.inl ⟨i,t,rfl,e⟩)
 | str i=>simp only[RD]at r;subst r;obtain⟨t,e⟩:=l;exact .inr (.inr ⟨i,t,rfl,e⟩)
 | _=>exact h.elim
theorem yF{K:Frag}{A:Around}{x y:D}{v u:V}{v' u':Value}(h1:sc x)(h2:sc y)(rx:RD K H x v)(ry:RD K H y u)(lx:aD v v')(ly:aD u u'):Cmp3 A s v' u' (dZ x y):=by
 rcases j9 h1 rx lx with ⟨rfl,rfl⟩|⟨i,t,rfl,rfl⟩|⟨i,t,rfl,rfl⟩
 ·rcases j9 h2 ry ly with ⟨rfl,rfl⟩|⟨j,u,rfl,rfl⟩|⟨j,u,rfl,rfl⟩
  ·exact Cb
  ·exact Cc
  ·exact Ca
 ·rcases j9 h2 ry ly with ⟨rfl,rfl⟩|⟨j,u,rfl,rfl⟩|⟨j,u,rfl,rfl⟩
  ·exact Ce
  ·exact Cf
  ·exact Cd
 ·rcases j9 h2 ry ly with ⟨rfl,rfl⟩|⟨j,u,rfl,rfl⟩|⟨j,u,rfl,rfl⟩
  ·exact B9
  ·exact B_
  ·exact B8
theorem ph{n:Nat}{x:D}(p:pl n x):sc x\/(∃ m ds,n=m+1/\x=.tup ds/\∀ d∈ds,pl m d)\/(∃ m ds,n=m+1/\x=.lst ds/\∀ d∈ds,pl m d):=by
 cases x with
 | non=>exact .inl trivial
 | int _=>exact .inl trivial
 | str _=>exact .inl trivial
 | tup ds=>cases n with
  | zero=>exact p.elim
  | succ m=>exact .inr (.inl ⟨m,ds,rfl,rfl,p⟩)
 | lst ds=>cases n with
  | zero=>exact p.elim
  | succ m=>exact .inr (.inr ⟨m,ds,rfl,rfl,p⟩)
 | bl _=>cases n<;>exact p.elim
 | fl _=>cases n<;>exact p.elim
 | ref _=>cases n<;>exact p.elim
 | ty _=>cases n<;>exact p.elim
theorem yD{K:Frag}{A:Around}{b:Addr}{its:Array Value}{es:List D}(hu0:A.units < cLine)(t2:s.heap.IsTuple b its){x:D}{v:V}{v':Value}(h:sc x)(rx:RD K H x v)(lx:aD v v'):Cmp3 A s v' (.ref b) (dZ x (.tup es))/\Cmp3 A s (.ref b) v' (dZ (.tup es) x):=by
 rcases j9 h rx lx with ⟨rfl,rfl⟩|⟨i,t,rfl,rfl⟩|⟨i,t,rfl,rfl⟩
 ·rw[bA (by intro z;cases z),bA (by intro z;cases z)]
  exact⟨⟨EqAt.none_tuple t2 hu0,RcAt.none_tuple t2 hu0,RcNeAt.none_tuple t2 hu0⟩,⟨EqAt.tuple_none t2 hu0,RcAt.tuple_none t2 hu0,RcNeAt.tuple_none t2 hu0⟩⟩
 ·rw[bA (by intro z;cases z),bA (by intro z;cases z)]
  exact⟨⟨EqAt.int_tuple _ _ t2 hu0,RcAt.int_tuple _ _ t2 hu0,RcNeAt.int_tuple _ _ t2 hu0⟩,⟨EqAt.tuple_int _ _ t2 hu0,RcAt.tuple_int _ _ t2 hu0,RcNeAt.tuple_int _ _ t2 hu0⟩⟩
 ·rw[bA (by intro z;cases z),bA (by intro z;cases z)]
  exact⟨⟨EqAt.str_tuple _ _ t2 hu0,RcAt.str_tuple _ _ t2 hu0,RcNeAt.str_tuple _ _ t2 hu0⟩,⟨EqAt.tuple_str _ _ t2 hu0,RcAt.tuple_str _ _ t2 hu0,RcNeAt.tuple_str _ _ t2 hu0⟩⟩
theorem yE{K:Frag}{A:Around}{b:Addr}{its:Array Value}{es:List D}(hu0:A.units < cLine)(t2:s.heap.IsList b its){x:D}{v:V}{v':Value}(h:sc x)(rx:RD K H x v)(lx:aD v v'):Cmp3 A s v' (.ref b) (dZ x (.lst es))/\Cmp3 A s (.ref b) v' (dZ (.lst es) x):=by
 rcases j9 h rx lx with ⟨rfl,rfl⟩|⟨i,t,rfl,rfl⟩|⟨i,t,rfl,rfl⟩
 ·rw[bA (by intro z;cases z),bA (by intro z;cases z)]
  exact⟨⟨EqAt.none_list t2 hu0,RcAt.none_list t2 hu0,RcNeAt.none_list t2 hu0⟩,⟨EqAt.list_none t2 hu0,RcAt.list_none t2 hu0,RcNeAt.list_none t2 hu0⟩⟩
 ·rw[bA (by intro z;cases z),bA (by intro z;cases z)]
  exact⟨⟨EqAt.int_list _ _ t2 hu0,RcAt.int_list _ _ t2 hu0,RcNeAt.int_list _ _ t2 hu0⟩,⟨EqAt.list_int _ _ t2 hu0,RcAt.list_int _ _ t2 hu0,RcNeAt.list_int _ _ t2 hu0⟩⟩
 ·rw[bA (by intro z;cases z),bA (by intro z;cases z)]
  exact⟨⟨EqAt.str_list _ _ t2 hu0,RcAt.str_list _ _ t2 hu0,RcNeAt.str_list _ _ t2 hu0⟩,⟨EqAt.list_str _ _ t2 hu0,RcAt.list_str _ _ t2 hu0,RcNeAt.list_str _ _ t2 hu0⟩⟩
theorem pP(I:Inv X pins σ H s):∀ (n:Nat) {x y:D} {v u:V} {v' u':Value} {A:Around},pl n x->pl n y->RD X.K H x v->RD X.K H y u->aD v v'->aD u u'->A.units+n < cLine->Cmp3 A s v' u' (dZ x y):=by
 intro n
 induction n with
 | zero=>
  intro x y v u v' u' A px py rx ry lx ly hu;rcases ph px with h1|⟨m,_,e,_⟩|⟨m,_,e,_⟩
  ·rcases ph py with h2|⟨m,_,e,_⟩|⟨m,_,e,_⟩
   ·exact yF h1 h2 rx ry lx ly
   ·cases e
   ·cases e
  ·cases e
  ·cases e
 | succ n ih=>
  intro x y v u v' u' A px py rx ry lx ly hu;have hu0:A.units < cLine:=by walk_at "o"
  have hu1:A.in1.units+n < cLine:=by show A.units+1+n < cLine;omega
  have items:∀ {ds es:List D} {xs ys:List V} {its its2:List Value},(∀ d∈ds,pl n d)->(∀ d∈es,pl n d)->RDs X.K H ds xs->RDs X.K H es ys->Vals xs its->Vals ys its2->
    ∀ j (h1:j < its.toArray.size) (h2:j < its2.toArray.size),EqAt A.in1 s its.toArray[j] its2.toArray[j] (dZ (ds.getD j .non) (es.getD j .non)):=by
   intro ds es xs ys its its2 p1 p2 r1 r2 w1 w2 j h1 h2;obtain⟨x1,e1,q1⟩:=Vals.getV (i:=j) (u:=its.toArray[j]) w1 (by simp at h1;simp[h1])
   obtain⟨x2,e2,q2⟩:=Vals.getV (i:=j) (u:=its2.toArray[j]) w2 (by simp at h2;simp[h2])
   obtain⟨d1,f1,g1⟩:=RDs.getV r1 e1;obtain⟨d2,f2,g2⟩:=RDs.getV r2 e2;have:=(ih (A:=A.in1) (p1 d1 (mem_of_getElem? f1)) (p2 d2 (mem_of_getElem? f2)) g1 g2 q1 q2 hu1).eq;rw[getD_eq_getElem?_getD,getD_eq_getElem?_getD,f1,f2];exact this
  rcases ph px with h1|⟨m,ds,e1,rfl,p1⟩|⟨m,ds,e1,rfl,p1⟩
  ·rcases ph py with h2|⟨m,es,e2,rfl,p2⟩|⟨m,es,e2,rfl,p2⟩
   ·exact yF h1 h2 rx ry lx ly
   ·simp only[RD]at ry;obtain⟨b,ys,rfl,s2,r2⟩:=ry;cases ly;obtain⟨its2,w2,t2,z2⟩:=I.tuple s2;exact (yD hu0 t2 h1 rx lx).1
   ·simp only[RD]at ry;obtain⟨b,ys,rfl,s2,r2⟩:=ry;cases ly;obtain⟨its2,w2,t2,z2⟩:=I.list s2.sq;exact (yE hu0 t2.isList h1 rx lx).1
  ·cases e1;simp only[RD]at rx;obtain⟨a,xs,rfl,s1,r1⟩:=rx;cases lx;obtain⟨its,w1,t1,z1⟩:=I.tuple s1;have l1:=w1.length;have l1':=r1.length;rcases ph py with h2|⟨m,es,e2,rfl,p2⟩|⟨m,es,e2,rfl,p2⟩
   ·exact (yD hu0 t1 h2 ry ly).2
   ·cases e2;simp only[RD]at ry;obtain⟨b,ys,rfl,s2,r2⟩:=ry;cases ly;obtain⟨its2,w2,t2,z2⟩:=I.tuple s2;have l2:=w2.length;have l2':=r2.length;have he:=items p1 p2 r1 r2 w1 w2;have hsz:its.toArray.size=ds.length:=by simp only[size_toArray];omega
    have hsz2:its2.toArray.size=es.length:=by simp only[size_toArray];omega
    have rc:=RcAt.tuples (A:=A) t1 t2 hu0 he;have rn:=RcNeAt.tuples (A:=A) t1 t2 hu0 he;rw[hsz,hsz2,rV _ rfl]at rc;rw[hsz,hsz2,rV _ rfl]at rn;refine⟨?_,rc,rn⟩
    by_cases hab:a=b
    ·subst hab;have:D.tup ds=D.tup es:=ul I (n+1) (v:=.ref a) px py (km s1 r1) (km s2 r2);rw[this,bj];exact EqAt.same _
    ·exact EqAt.of_refs hab rc
   ·simp only[RD]at ry;obtain⟨b,ys,rfl,s2,r2⟩:=ry;cases ly;obtain⟨its2,w2,t2,z2⟩:=I.list s2.sq;rw[bA (by intro z;cases z)]
    exact⟨EqAt.tuple_list t1 t2.isList hu0,RcAt.tuple_list t1 t2.isList hu0,RcNeAt.tuple_list t1 t2.isList hu0⟩
  ·cases e1;simp only[RD]at rx;obtain⟨a,xs,rfl,s1,r1⟩:=rx;cases lx;obtain⟨its,w1,t1,z1⟩:=I.list s1.sq;have l1:=w1.length;have l1':=r1.length;rcases ph py with h2|⟨m,es,e2,rfl,p2⟩|⟨m,es,e2,rfl,p2⟩
   ·exact (yE hu0 t1.isList h2 ry ly).2
   ·simp only[RD]at ry;obtain⟨b,ys,rfl,s2,r2⟩:=ry;cases ly;obtain⟨its2,w2,t2,z2⟩:=I.tuple s2;rw[bA (by intro z;cases z)]
    exact⟨EqAt.list_tuple t1.isList t2 hu0,RcAt.list_tuple t1.isList t2 hu0,RcNeAt.list_tuple t1.isList t2 hu0⟩
   ·cases e2;simp only[RD]at ry;obtain⟨b,ys,rfl,s2,r2⟩:=ry;cases ly;obtain⟨its2,w2,t2,z2⟩:=I.list s2.sq;have l2:=w2.length;have l2':=r2.length;have he:=items p1 p2 r1 r2 w1 w2;have hsz:its.toArray.size=ds.length:=by simp only[size_toArray];omega
    have hsz2:its2.toArray.size=es.length:=by simp only[size_toArray];omega
    have rc:RcAt A s (.ref a) (.ref b) (dZ (.lst ds) (.lst es))/\RcNeAt A s (.ref a) (.ref b) (!dZ (.lst ds) (.lst es)):=by
     rw[Ac]
     by_cases hl:ds.length=es.length
     ·have rc:=RcAt.lists (A:=A) t1.isList t2.isList (by walk_at "o") hu0 he
      have rn:=RcNeAt.lists (A:=A) t1.isList t2.isList (by walk_at "o") hu0 he
      have e:=rV (ds:=ds) (es:=es) its.toArray.size (by walk_at "o")
      rw[hl,beq_self_eq_true,Bool.and_true]at e;rw[e]at rc rn;exact⟨rc,rn⟩
     ·rw[bA (by intro z;cases z;exact hl rfl)]
      exact⟨RcAt.lists_lengths t1.isList t2.isList (by rw[hsz,hsz2];simpa using hl) hu0,RcNeAt.lists_lengths t1.isList t2.isList (by rw[hsz,hsz2];simpa using hl) hu0⟩
    refine⟨?_,rc.1,rc.2⟩
    by_cases hab:a=b
    ·subst hab;have:D.lst ds=D.lst es:=ul I (n+1) (v:=.ref a) px py (mL s1 r1) (mL s2 r2);rw[this,bj];exact EqAt.same _
    ·exact EqAt.of_refs hab rc.1
end
end L3
namespace L2
open PySem PySem.Spec PyProof.Rows
def ju(cs:List Nat)(lo hi:Option Int):List Nat:=(cs.drop (HT.sIx cs.length 0 lo)).take (HT.sIx cs.length cs.length hi - HT.sIx cs.length 0 lo)
theorem xK(cs:Array Nat)(i k:Nat):(List.range k).filterMap (fun m=>cs[i+m]?)=(cs.toList.drop i).take k:=by
 induction k generalizing i with
 | zero=>simp
 | succ k ih=>
  rw[List.range_succ_eq_map,filterMap_cons,List.filterMap_map];have e:(fun m=>cs[i+m]?) ∘ Nat.succ=fun m=>cs[(i+1)+m]?:=by funext m;simp[Nat.succ_eq_add_one];congr 1;omega
  rw[e,ih (i+1)];cases h:cs.toList.drop i with
  | nil=>
   have hl:cs.toList.length<=i:=List.drop_eq_nil_iff.mp h;have h1:cs[i+0]?=none:=by simp at hl;simp[hl]
   have h2:cs.toList.drop (i+1)=[]:=List.drop_eq_nil_iff.mpr (by walk_at "o")
   rw[h1,h2];simp
  | cons c r=>
   have hlt:i < cs.toList.length:=by
    refine Nat.lt_of_not_le fun hle=>?_;rw[List.drop_eq_nil_iff.mpr hle]at h;cases h
   have h0:=List.drop_eq_getElem_cons hlt;rw[h]at h0;cases h0;have h1:cs[i+0]?=some cs.toList[i]:=by simp at hlt;simp[hlt]
   rw[h1,List.take_succ_cons]
theorem tP(n:Nat)(o:Option Int)(d:Nat)(hd:d<=n):(match o with
  | none=>(d:Int)
  | some i=>max 0 (min (if i < 0 then i+(n:Int)else i) (n:Int)))=((HT.sIx n d o:Nat):Int):=by
 cases o with
 | none=>rfl
 | some i=>
  simp only[HT.sIx]
  by_cases h:i < 0
  ·simp only[h,if_true];omega
  ·simp only[h,if_false];omega
theorem nq(lo hi:Option Int)(n:Nat):Builtin.Str.strSliceIndices lo hi 1 n=(List.range (HT.sIx n n hi - HT.sIx n 0 lo)).map fun m=>HT.sIx n 0 lo+m:=by
 have h1:=tP n lo 0 (zero_le _);have h2:=tP n hi n (le_refl _);have e:Builtin.Str.strSliceIndices lo hi 1 n=sliceRange ((HT.sIx n 0 lo:Nat):Int) ((HT.sIx n n hi:Nat):Int) 1:=by
  rw[<- h1,<- h2];unfold Builtin.Str.strSliceIndices;cases lo<;>cases hi<;>simp
 rw[e];unfold sliceRange;simp only[show (1:Int) > 0 by decide,if_true]
 have c:(if ((HT.sIx n 0 lo:Nat):Int) < ((HT.sIx n n hi:Nat):Int)then (((HT.sIx n n hi:Nat):Int) - ((HT.sIx n 0 lo:Nat):Int)+1 - 1) / 1 else 0).toNat=HT.sIx n n hi - HT.sIx n 0 lo:=by
  rw[Int.ediv_one];split<;>omega
 rw[c];refine map_congr_left fun k _=>?_;omega
theorem nJ(cs:List Nat)(lo hi:Option Int):(ju cs lo hi).length<=cs.length:=by
 unfold ju;rw[length_take,length_drop];omega
theorem vR(x:Str)(lo hi:Option Int):Txt.slice x lo hi=⟨(ju x.cps.toList lo hi).toArray⟩:=by
 have hn:x.length=x.cps.toList.length:=by simp[Str.length]
 have key:(Builtin.Str.strSliceIndices lo hi 1 x.length).filterMap (x.cps[·]?)=ju x.cps.toList lo hi:=by
  rw[nq,List.filterMap_map];unfold ju;rw[<- hn,<- xK];rfl
 unfold Txt.slice;split
 ·rename_i h;rw[Bool.and_eq_true]at h;have hl:(Builtin.Str.strSliceIndices lo hi 1 x.length).length=x.length:=by simpa using h.2
  rw[nq,length_map,List.length_range]at hl;have b1:HT.sIx x.length x.length hi<=x.length:=HT.sIx_le _ _ (le_refl _) _;have h0:HT.sIx x.length 0 lo=0\/x.length=0:=by walk_at "o"
  have e:ju x.cps.toList lo hi=x.cps.toList:=by
   unfold ju;rw[<- hn];rcases h0 with h0|h0
   ·have h3:HT.sIx x.length x.length hi=x.length:=by walk_at "o"
    rw[h0,h3,drop_zero,sub_zero,hn,take_length]
   ·have:x.cps.toList=[]:=List.length_eq_zero_iff.mp (by walk_at "o")
    rw[this];simp
  rw[e]
 ·rw[key]
section
variable{X:Cx}
def sx(x:Str)(k:Nat):Str:=⟨(List.replicate k x.cps.toList).flatten.toArray⟩
theorem kO(x:Array Nat):∀ (k:Nat) (acc:List Nat),(List.replicate k x).foldl (· ++ ·) acc.toArray=(acc ++ (List.replicate k x.toList).flatten).toArray
 | 0,acc=>by simp
 | k+1,acc=>by
  rw[List.replicate_succ,foldl_cons,List.replicate_succ,List.flatten_cons];have:acc.toArray ++ x=(acc ++ x.toList).toArray:=by simp
  rw[this,kO x k];simp
theorem uB:g_ X (binaryOp .Mult) (fun x y H Q=>∃ z n,x=.str z/\y=.int n/\-(2 ^ 63)<=n/\n < 2 ^ 63/\z.length*n.toNat<=sizeLine/\Q (.str (sx z n.toNat)) H):=by
 intro pins s σ H x y v u Q I rx ry h;obtain⟨z,n,rfl,rfl,h1,h2,hl,q⟩:=h;obtain⟨t,rfl⟩:=rx;obtain⟨t',rfl⟩:=ry;have hn:=iH;have vt:(sx z n.toNat).length=z.length*n.toNat:=by
  simp[sx,Str.length,Nat.mul_comm]
 have bound:¬ n < 1->(z.length:Int)<=(2 ^ 63 - 1) / n:=fun h=>by
  rw[Int.le_ediv_iff_mul_le (by walk_at "o")]
  have e:(z.length:Int)*n=((z.length*n.toNat:Nat):Int):=by
   rw[Int.natCast_mul,Int.toNat_of_nonneg (by walk_at "o")]
  rw[e];omega
 refine PySem.P.mul_str (by rw[decide_eq_false (by walk_at "o"),decide_eq_false (by walk_at "o")];rfl) (fun h _=>by have:=bound h;omega) (fun h _=>?_) ?_
 ·unfold Builtin.Str.tooLong;exact decide_eq_false (by walk_at "o")
 ·have fin:∀ tk s',Inv X pins σ H s'->∀ w,w=sx z n.toNat->EP X pins σ Q (.str w tk) s':=fun tk s' I' w e=>⟨.str (sx z n.toNat),H,I',⟨tk,by rw[e]⟩,q⟩
  split
  ·rename_i hlt;have:n.toNat=0:=by walk_at "o"
   exact⟨by decide,fin _ _ (I.tok _) _ (by rw[this];rfl)⟩
  ·split
   ·rename_i hlt he;refine fin _ _ I _ ?_;rw[Bool.or_eq_true]at he;rcases he with he|he
    ·have:n=1:=by simpa using he
     subst this;simp[sx]
    ·have hz:z.length=0:=by simpa using he
     have hz':z.cps=#[]:=Array.eq_empty_of_size_eq_zero hz;cases z;simp only at hz';subst hz';simp[sx]
   ·refine⟨?_,fin _ _ (I.tok _) _ ?_⟩
    ·show (⟨_⟩:Str).length<=sizeLine;have e:=kO z.cps n.toNat [];simp only[nil_append]at e;rw[show (#[]:Array Nat)=[].toArray from rfl,e]
     exact le_trans (Nat.le_of_eq vt) hl
    ·have e:=kO z.cps n.toNat [];simp only[nil_append]at e;rw[show (#[]:Array Nat)=[].toArray from rfl,e]
     rfl
theorem A7:u7 X (fun x lo hi H Q=>∃ z,x=.str z/\z.length<=sizeLine/\Q (.str ⟨(ju z.cps.toList lo hi).toArray⟩) H):=by
 intro pins s σ H x v vl vu lo hi sl Q I rx hs pl pu h;obtain⟨z,rfl,hz,q⟩:=h;obtain⟨t,rfl⟩:=rx;refine⟨"str",_,PySem.F.slot_str_getitem.lookup,typeIs_str _ _ _,?_⟩;have part:∀ {v:Value} {o:Option Int},IsPart v o->∃ p:Option (Int×Tok),v=partValue p/\p.map (·.1)=o:=by
  intro v o h;cases h with
  | none=>exact⟨none,rfl,rfl⟩
  | int i t=>exact⟨some (i,t),rfl,rfl⟩
 obtain⟨pl',e1,f1⟩:=part pl;obtain⟨pu',e2,f2⟩:=part pu;subst e1 e2;refine wpAny_getItem_str_slice (l:=pl') (u:=pu') (st:=none) ?_ rfl ?_
 ·obtain⟨o,a,b,c⟩:=hs;exact⟨o,a,b,c⟩
 ·unfold sliceMade;subst f1 f2;have e:(if (((none:Option (Int×Tok)).map (·.1)).getD 1 == 1 && (slicePicked z pl' pu' none).length == z.length)=true then z else ⟨((slicePicked z pl' pu' none).filterMap (z.cps[·]?)).toArray⟩)=(⟨(ju z.cps.toList (pl'.map (·.1)) (pu'.map (·.1))).toArray⟩:Str):=by
   rw[<- vR];rfl
  refine post_val_or_str ⟨?_,fun t' k=>?_⟩
  ·rw[e];show (ju z.cps.toList (pl'.map (·.1)) (pu'.map (·.1))).toArray.size<=sizeLine
   rw[size_toArray];refine le_trans (nJ _ _ _) ?_
   simpa[Str.length]using hz
  ·rw[e];exact⟨.str _,H,I.tok k,⟨t',rfl⟩,q⟩
end
end L2
namespace L3
open PySem PySem.Spec PyProof.Rows L2
def jW(K:Frag)(r3:R3):R2:=fun v u H Q=>∃ x y G Q3,RD K H x v/\RD K H y u/\RG K H G/\r3 x y G Q3/\oY K G H Q3 Q
def ix(r:R3)(ta tb:bJ):bJ:=fun σ G Q=>ta σ G fun x G1=>tb σ G1 fun y G2=>r (val x) (val y) G2 Q
section
variable{X:Cx}{a b c:Expr}{ta tb tc:bJ}{pos:Pos}{r:R3}
theorem D4{K:Frag}{Q:VK}{τ:St}{H:Hp}(h:aJ K (ix r ta tb) τ H Q):Cw (jW K r) (vp K ta) (vp K tb) τ H Q:=by
 obtain⟨σ,G,Q3,rs,rg,h,k⟩:=h;refine⟨σ,G,_,rs,rg,h,fun x G1 v H1 h1 k1 rg1 re1=>⟨σ,G1,_,rs.mono (k1.stb rg),rg1,h1,fun y G2 u H2 h2 k2 rg2 re2=>?_⟩⟩;exact⟨val x,val y,G2,Q3,RD.mono (k2.stb rg1) _ _ re1,re2,rg2,h2,k.base (k1.trans k2)⟩
theorem cX{op:CmpOp}(ho:g_ X (compareOp op) (jW X.K r))(ha:PE X a (aJ X.K ta))(hb:PE X b (aJ X.K tb))(hm:behindInMarks op b=false):PT X (.Compare a [op] [b] pos) (df X.K (d5 (ix r ta tb))):=
 (vh ho (fI ha) (fI hb) hm).imp fun _ _ _ h=>D4 (p8 h)
def xS:R3:=fun x y G Q=>match x,y with
 | .bl a,.bl b=>Q (.bl (a == b)) G
 | x,y=>pl 8 x/\pl 8 y/\Q (.bl (dZ x y)) G
def Cn:R3:=fun x y G Q=>match x,y with
 | .bl a,.bl b=>Q (.bl (!(a == b))) G
 | x,y=>pl 8 x/\pl 8 y/\Q (.bl (!dZ x y)) G
theorem r6(hu:X.A.units+8 < cLine):g_ X (compareOp .Eq) (jW X.K xS):=by
 rintro pins s σ H v u v' u' Q I rv ru ⟨x,y,G,Q3,rx,ry,rg,h,k⟩
 unfold xS at h;split at h
 ·rename_i a b;simp only[RD]at rx ry;subst rx ry;cases rv;cases ru;exact SeqAt.RcAt.bool_bool a b X.prog X.w X.xe _ ⟨.bl (a == b),H,I,rfl,k _ G _ H h Kp.refl rg (.of gf)⟩
 ·obtain⟨p1,p2,q⟩:=h;exact (pP I 8 p1 p2 rx ry rv ru hu).rc X.prog X.w X.xe _ ⟨.bl _,H,I,rfl,k _ G _ H q Kp.refl rg (.of gf)⟩
theorem AW(hu:X.A.units+8 < cLine):g_ X (compareOp .NotEq) (jW X.K Cn):=by
 rintro pins s σ H v u v' u' Q I rv ru ⟨x,y,G,Q3,rx,ry,rg,h,k⟩
 unfold Cn at h;split at h
 ·rename_i a b;simp only[RD]at rx ry;subst rx ry;cases rv;cases ru;exact SeqAt.RcNeAt.bool_bool a b X.prog X.w X.xe _ ⟨.bl (!(a == b)),H,I,rfl,k _ G _ H h Kp.refl rg (.of gf)⟩
 ·obtain⟨p1,p2,q⟩:=h;exact (pP I 8 p1 p2 rx ry rv ru hu).ne X.prog X.w X.xe _ ⟨.bl _,H,I,rfl,k _ G _ H q Kp.refl rg (.of gf)⟩
abbrev eF:=List D->Gp->oW->Prop
def aE(K:Frag)(sp:eF):Sp:=fun vs H Q _=>∃ ds G Q3,RDs K H ds vs/\RG K H G/\sp ds G Q3/\oY K G H Q3 Q
def fb(N:List Str)(ds:List D):fH:=ds.map some ++ List.replicate (N.length - ds.length) none
theorem sr{K:Frag}{H:Hp}{N:List Str}{ds:List D}{vs:List V}(r:RDs K H ds vs):RS K H (fb N ds) (L2.start N vs):=by
 unfold fb L2.start;have hl:=r.length;rw[hl];have rep:∀ n:Nat,Paired (wY K H) (List.replicate n none) (List.replicate n none):=fun n=>by
  induction n with
  | zero=>exact .nil
  | succ n ih=>exact .cons (show wY K H none none from trivial) ih
 have go:∀ {ds:List D} {vs:List V} {σ:fH} {τ:St},RDs K H ds vs->Paired (wY K H) σ τ->Paired (wY K H) (ds.map some ++ σ) (vs.map some ++ τ):=by
  intro ds
  induction ds with
  | nil=>intro vs σ τ r q;rw[r.inv_nil];exact q
  | cons d t ih=>
   intro vs σ τ r q;obtain⟨x,xs,e,h1,h2⟩:=r.inv_cons;subst e;exact .cons (show wY K H (some d) (some x)from h1) (ih h2 q)
 exact go r (rep _)
variable{P:Program}{w:World}{K:Frag}{mg:Str->Option Value}{base:Heap}
theorem Fun.ok3{x qual:Str}{st:Stmt}{f:Addr}{fd:FuncData}{N ps:List Str}{k:Nat}{sp:eF}(F:Fun K x qual st f fd)(S:FnScope N ps (aj st))(len:∀ ds G Q,sp ds G Q->ds.length=ps.length)
  (hbody:∀ (cdv:Value) (A:Around) (outer:List Env) (s:Shared) (H:Hp) (E:XK),Room k (A.deeper (envOfC qual (aj st) s.heap.objs.size f cdv))->
   ∃ t:dg,kZ (tM fk P w K mg base N qual (aj st) f cdv A outer s H E).nox (aH st) (cF K t)/\∀ ds G Q,sp ds G Q->t { nx:=fun _ G'=>Q .non G',rt:=Q } (fb N ds) G):FnOk P w K mg base fk (k+1) f fd ps (aE K sp):=by
 refine F.ok S (fun vs H Q E ⟨ds,G,Q3,rds,rg,h,kk⟩=>by rw[<- rds.length];exact len ds G Q3 h) (fun cdv A outer s H vs Q E hr zz=>?_)
 obtain⟨ds,G,Q3,rds,rg,h,kk⟩:=zz;obtain⟨t,ht,hq⟩:=hbody cdv A outer s H E hr;refine⟨cF K t,ht,fb N ds,G,{ nx:=fun _ G'=>Q3 .non G',rt:=Q3 },sr rds,rg,hq ds G Q3 h,⟨fun σ' G' τ' H' q k' rg' rs'=>kk _ G' _ H' q k' rg' (.of qk),kk,fun _ _ _ _ q=>q.elim,fun _ _ _ _ q=>q.elim⟩⟩
structure Fn3(P:Program)(w:World)(K:Frag)(mg:Str->Option Value)(base:Heap)(k:Nat)(x:Str)(dds:List D)(sp:eF):Prop where
 ex:∃ f fd ps ds dvs,FnOk P w K mg base fk k f fd ps (aE K sp)/\mg x=some (.ref f)/\keepIn K (.ref f)=true/\e8 K fd ps ds/\Vals dvs ds/\∀ H,RDs K H dds dvs
structure Mt3(P:Program)(w:World)(K:Frag)(mg:Str->Option Value)(base:Heap)(k:Nat)(C:Addr)(m:Str)(dds:List D)(sp:eF):Prop where
 cl:Cls K C
 ex:∃ f fd ps ds dvs,FnOk P w K mg base fk k f fd ps (aE K sp)/\Meth K C m f/\e8 K fd ps ds/\Vals dvs ds/\∀ H,RDs K H dds dvs
structure Mk3(P:Program)(w:World)(K:Frag)(mg:Str->Option Value)(base:Heap)(k:Nat)(x:Str)(C:Addr)(dds:List D)(sp:eF):Prop where
 ex:∃ f fd ps ds dvs,Mk K C f/\mg x=some (.ref C)/\FnOk P w K mg base fk k f fd ps (aE K sp)/\e8 K fd ps ds/\Vals dvs ds/\∀ H,RDs K H dds dvs
def bD(sp:eF)(dds:List D)(ta:j6):bJ:=fun σ G Q=>ta σ G fun ds G1=>sp (ds ++ dds) G1 Q
def Dk(C:Addr)(L:List Str)(sp:eF)(dds:List D)(to:bJ)(ta:j6):bJ:=fun σ G Q=>to σ G fun x G1=>match x with
 | .ref a=>match G1 a with
  | some (.ins C' L' _)=>(C'=C/\L'=L)/\ta σ G1 fun ds G2=>sp (.ref a::(ds ++ dds)) G2 Q
  | _=>False
 | _=>False
def nG(C:Addr)(sp:eF)(dds:List D)(ta:j6):bJ:=fun σ G Q=>ta σ G fun ds G1=>∀ a,G1 a=none->sp (.ref a::(ds ++ dds)) (gset G1 a (.ins C [] [])) fun d G2=>d=.non/\Q (.ref a) G2
variable{e o:Expr}{es:List Expr}{t:j6}{te to:bJ}{k:Nat}{x m:Str}{p apos:Pos}{dds:List D}{sp:eF}{C:Addr}
theorem wM{Q:VK}{τ:St}{H:Hp}{dvs:List V}(hd:∀ H,RDs K H dds dvs)(h:aJ K (bD sp dds t) τ H Q)(E:XK):Ax (aE K sp) dvs E (eT K t) τ H Q:=by
 obtain⟨σ,G,Q3,rs,rg,h,kk⟩:=h;exact⟨σ,G,_,rs,rg,h,fun ds G1 vs H1 q k1 rg1 rds=>⟨ds ++ dds,G1,Q3,rds.append (hd H1),rg1,q,kk.base k1⟩⟩
theorem bz(F:Fn3 X.prog X.w X.K X.mg X.base k x dds sp)(hr:Room k X.A)(hg:Gl X x)(ha:PA X (e::es) (eT X.K t))(hdb:(x == ("__debug__":Str))=false:=by decide)(he:starEach (e::es) X.env=(false,eval e X.env)::starEach es X.env:=by rfl)
  (hpl:(backTo pos (starEach es X.env)).any (·.1)=false:=by rfl):PE X (.Call (.Name x p) (e::es) [] pos) (aJ X.K (bD sp dds t)):=by
 obtain⟨f,fd,ps,ds,dvs,ok,hm,hk,hb,hv,hd⟩:=F.ex;exact (zx ok hr hg hm hk hb hv vj ha hdb he hpl).imp fun _ _ _ h=>wM hd h E0
theorem wm{K:Frag}{gs:List (Str×V)}{L:List Str}{m:Str}(h:gs.map (·.1)=L)(n:m∉L):gs.lookup m=none:=by
 subst h
 induction gs with
 | nil=>rfl
 | cons g r ih=>
  obtain⟨y,v⟩:=g;rw[map_cons,mem_cons,not_or]at n;rw[lookup_cons,show (m == y)=false by simpa using n.1]
  exact ih n.2
theorem wj{Q:VK}{τ:St}{H:Hp}{dvs:List V}(hd:∀ H,RDs K H dds dvs)(h:aJ K (nG C sp dds t) τ H Q)(E:XK):Aw C (aE K sp) dvs E (eT K t) τ H Q:=by
 obtain⟨σ,G,Q3,rs,rg,h,kk⟩:=h;refine⟨σ,G,_,rs,rg,h,fun ds G1 vs H1 q k1 rg1 rds a dx na nd ne=>?_⟩;have kd:Kp G1 H1 G1 (bB H1 dx (.own a)):=Kp.laid nd;have rgd:RG K (bB H1 dx (.own a)) G1:=rg1.laid nd;have na':bB H1 dx (.own a) a=none:=by rw[au (Ne.symm ne)];exact na
 have ka:Kp G1 H1 (gset G1 a (.ins C [] [])) (bB (bB H1 dx (.own a)) a (.ins C dx [])):=fun b h' e n=>by
  have:b≠a:=bL e na;exact⟨by rw[au this,au (bL e nd)];exact e,by rw[aG this];exact n⟩
 have st:Stb K H1 (bB (bB H1 dx (.own a)) a (.ins C dx [])):=ka.stb rg1;have rga:RG K (bB (bB H1 dx (.own a)) a (.ins C dx [])) (gset G1 a (.ins C [] [])):=fun b o q=>by
  by_cases hb:b=a
  ·subst hb;rw[ax]at q;cases q;exact⟨_,aT,rfl,rfl,RDs.nil⟩
  ·rw[aG hb]at q;obtain⟨h',e1,r⟩:=rg1 b o q;exact⟨h',by rw[au hb,au (bL e1 nd)];exact e1,r.mono st⟩
 refine⟨.ref a::(ds ++ dds),_,_,RDs.cons h_ (RDs.append (RDs.mono st _ _ rds) (hd _)),rga,q a (rg1.free na),fun d G2 v H2 q2 k2 rg2 re=>?_⟩;obtain⟨rfl,q2⟩:=q2;exact⟨re.non,kk _ G2 _ H2 q2 (k1.trans (ka.trans k2)) rg2 (.of h_)⟩
theorem qy(F:Mk3 X.prog X.w X.K X.mg X.base k x C dds sp)(hr:Room (k+1) X.A)(hg:Gl X x)(ha:PA X (e::es) (eT X.K t))(hdb:(x == ("__debug__":Str))=false:=by decide)(he:starEach (e::es) X.env=(false,eval e X.env)::starEach es X.env:=by rfl)
  (hpl:(backTo pos (starEach es X.env)).any (·.1)=false:=by rfl):PE X (.Call (.Name x p) (e::es) [] pos) (aJ X.K (nG C sp dds t)):=by
 obtain⟨f,fd,ps,ds,dvs,M,hm,ok,hb,hv,hd⟩:=F.ex;exact (zt M ok hr hg hm hb hv vj ha hdb he hpl).imp fun _ _ _ h=>wj hd h E0
def Ey(C:Addr)(L:List Str)(i:Nat)(to:bJ):bJ:=fun σ G Q=>to σ G fun x G1=>match x with
 | .ref a=>match G1 a with
  | some (.ins C' L' ds)=>(C'=C/\L'=L)/\match ds[i]? with
   | some d=>Q d G1
   | none=>False
  | _=>False
 | _=>False
theorem put_new:∀ {gs:List (Str×V)} {f:Str} (v:V),f∉gs.map (·.1)->gl f v gs=gs ++ [(f,v)]
 | [],f,v,h=>rfl
 | (g,u)::r,f,v,h=>by
  rw[map_cons,mem_cons,not_or]at h;simp only[gl,if_neg (Ne.symm h.1),put_new v h.2,cons_append]
def CH(C:Addr)(L:List Str)(i:Nat)(to tv:bJ):dg:=fun D σ G=>tv σ G fun d G1=>to σ G1 fun x G2=>match x with
 | .ref a=>match G2 a with
  | some (.ins C' L' ds)=>(C'=C/\L'=L)/\D.nx σ (gset G2 a (.ins C L (ds.set i (val d))))
  | _=>False
 | _=>False
def CG(C:Addr)(L:List Str)(f:Str)(to tv:bJ):dg:=fun D σ G=>tv σ G fun d G1=>to σ G1 fun x G2=>match x with
 | .ref a=>match G2 a with
  | some (.ins C' L' ds)=>(C'=C/\L'=L)/\D.nx σ (gset G2 a (.ins C (L ++ [f]) (ds ++ [val d])))
  | _=>False
 | _=>False
theorem Bg{H:Hp}{G:Gp}{a:Addr}{C2 dx:Addr}{gs gs':List (Str×V)}{L':List Str}{ds':List D}(rg:RG K H G)(e1:H a=some (.ins C2 dx gs))(r1:gs'.map (·.1)=L')(r2:RDs K H ds' (gs'.map (·.2)))(hg:G a≠none):
  Kp G H (gset G a (.ins C2 L' ds')) (bB H a (.ins C2 dx gs'))/\RG K (bB H a (.ins C2 dx gs')) (gset G a (.ins C2 L' ds')):=by
 have kp:Kp G H (gset G a (.ins C2 L' ds')) (bB H a (.ins C2 dx gs')):=fun b h e n=>by
  have:b≠a:=fun z=>by subst z;exact hg n
  exact⟨by rw[au this];exact e,by rw[aG this];exact n⟩
 have st:=kp.stb rg;refine⟨kp,fun b o q=>?_⟩
 by_cases hb:b=a
 ·subst hb;rw[ax]at q;cases q;exact⟨_,aT,rfl,r1,RDs.mono st _ _ r2⟩
 ·rw[aG hb]at q;obtain⟨h',e2,r⟩:=rg b o q;exact⟨h',by rw[au hb];exact e2,r.mono st⟩
def Eg(te:bJ)(g:tX):dg:=fun D σ G=>te σ G fun d G'=>g (val d) σ G' D.nx
abbrev vL:=List D->Gp->oW->Prop
def lC(K:Frag)(r3:vL):List V->Hp->VK->Prop:=fun vs H Q=>∃ ds G Q3,RDs K H ds vs/\RG K H G/\r3 ds G Q3/\oY K G H Q3 Q
def eB(r:vL)(ta:j6):bJ:=fun σ G Q=>ta σ G fun ds G1=>r ds G1 Q
variable{id T:String}{r3:vL}
theorem AN{Q:VK}{τ:St}{H:Hp}(h:aJ K (eB r3 t) τ H Q):Ec (lC K r3) (eT K t) τ H Q:=by
 obtain⟨σ,G,Q3,rs,rg,h,kk⟩:=h;exact⟨σ,G,_,rs,rg,h,fun ds G1 vs H1 q k1 rg1 rds=>⟨ds,G1,Q3,rds,rg1,q,kk.base k1⟩⟩
theorem ck(hc:eE X (.builtin id) (lC X.K r3))(hg:Gl X x)(hm:X.mg x=none)(hv:bootBuiltins x=some (.builtin id))(ha:PA X (e::es) (eT X.K t))(hn:x≠"__name__":=by decide)(hdb:(x == ("__debug__":Str))=false:=by decide)
  (he:starEach (e::es) X.env=(false,eval e X.env)::starEach es X.env:=by rfl) (hpl:(backTo pos (starEach es X.env)).any (·.1)=false:=by rfl):PE X (.Call (.Name x p) (e::es) [] pos) (aJ X.K (eB r3 t)):=
 (xO hc hg hm hv ha hn hdb he hpl).imp fun _ _ _ h=>AN h
theorem jL(hc:eE X (.type T) (lC X.K r3))(hg:Gl X x)(hm:X.mg x=none)(hv:bootBuiltins x=some (.type T))(ha:PA X (e::es) (eT X.K t))(hn:x≠"__name__":=by decide)(hdb:(x == ("__debug__":Str))=false:=by decide)
  (he:starEach (e::es) X.env=(false,eval e X.env)::starEach es X.env:=by rfl) (hpl:(backTo pos (starEach es X.env)).any (·.1)=false:=by rfl):PE X (.Call (.Name x p) (e::es) [] pos) (aJ X.K (eB r3 t)):=
 (v9 hc hg hm hv ha hn hdb he hpl).imp fun _ _ _ h=>AN h
def iZ:vL:=fun ds G Q=>match ds with
 | [.str z]=>z.length<=sizeLine/\Q (.int z.length) G
 | [d]=>match wX G d with
  | some es=>Q (.int es.length) G
  | none=>False
 | _=>False
theorem fP{H:Hp}{d:D}{vs:List V}(r:RDs K H [d] vs):∃ v,vs=[v]/\RD K H d v:=by
 obtain⟨v,t,e,h1,h2⟩:=r.inv_cons;have:=h2.inv_nil;subst this;exact⟨v,e,h1⟩
theorem b_len:eE X (.builtin "len") (lC X.K iZ):=((rL (X:=X)).or (rM (X:=X))).imp fun vs H Q zz=>by
 obtain⟨ds,G,Q3,rds,rg,h,kk⟩:=zz;unfold iZ at h;split at h
 ·rename_i z;obtain⟨v,rfl,rd⟩:=fP rds;simp only[RD]at rd;subst rd;exact .inl ⟨z,rfl,h.1,kk _ G _ H h.2 Kp.refl rg (.of dL)⟩
 ·rename_i d _;obtain⟨v,rfl,rd⟩:=fP rds;split at h
  ·rename_i es he;obtain⟨a,xs,rfl,s,r⟩:=kU (G:=G) (H:=H) he (.of rd) rg;exact .inr ⟨a,xs,rfl,s,by rw[<- r.length];exact kk _ G _ H h Kp.refl rg (.of dL)⟩
  ·exact h.elim
 ·exact h.elim
def pW:vL:=fun ds G Q=>match ds with
 | [d]=>match wX G d with
  | some es=>Q (.fl es) G
  | none=>False
 | _=>False
theorem b_list:eE X (.type "list") (lC X.K pW):=(rK (X:=X)).imp fun vs H Q zz=>by
 obtain⟨ds,G,Q3,rds,rg,h,kk⟩:=zz;unfold pW at h;split at h
 ·rename_i d;obtain⟨v,rfl,rd⟩:=fP rds;split at h
  ·rename_i es he;obtain⟨a,xs,rfl,s,r⟩:=kU (G:=G) (H:=H) he (.of rd) rg;exact⟨a,xs,rfl,s,fun p hp=>kk _ G _ _ h (Kp.laid hp) (rg.laid hp) (rq rg hp r)⟩
  ·exact h.elim
 ·exact h.elim
def rO:vL:=fun ds G Q=>match ds with
 | [d]=>match wX G d with
  | some es=>Q (.tup es) G
  | none=>False
 | _=>False
theorem b_tuple:eE X (.type "tuple") (lC X.K rO):=(oV (X:=X)).imp fun vs H Q zz=>by
 obtain⟨ds,G,Q3,rds,rg,h,kk⟩:=zz;unfold rO at h;split at h
 ·rename_i d;obtain⟨v,rfl,rd⟩:=fP rds;split at h
  ·rename_i es he;obtain⟨a,xs,rfl,s,r⟩:=kU (G:=G) (H:=H) he (.of rd) rg;refine⟨a,xs,rfl,?_⟩;rcases s with s|s
   ·exact .inl ⟨s,fun p hp=>kk _ G _ _ h (Kp.laid hp) (rg.laid hp) (.of (hV rg hp r))⟩
   ·exact .inr ⟨s,kk _ G _ H h Kp.refl rg (.of (km s r))⟩
  ·exact h.elim
 ·exact h.elim
def EB:vL:=fun ds G Q=>match ds with
 | [d]=>∃ ns:List Int,pX G d=some (ns.map D.int)/\Q (.int ns.sum) G
 | _=>False
def EC:vL:=fun ds G Q=>match ds with
 | [.int i,.int j]=>Q (.int (if j < i then j else i)) G
 | _=>False
def ED:vL:=fun ds G Q=>match ds with
 | [.int i,.int j]=>Q (.int (if j > i then j else i)) G
 | _=>False
end
section
variable{X:Cx}
def uE:R3:=fun x y G Q=>match x,y with
 | .int i,.int j=>yO i j/\Q (.int (i*j)) G
 | .str z,.int n=>(-(2 ^ 63)<=n/\n < 2 ^ 63/\z.length*n.toNat<=sizeLine)/\Q (.str (sx z n.toNat)) G
 | _,_=>False
theorem vd:g_ X (binaryOp .Mult) (eR X.K uE):=((BA (X:=X)).or (uB (X:=X))).imp fun v u H Q zz=>by
 obtain⟨x,y,G0,H0,G,Q3,rx,ry,rg,h,k⟩:=zz;unfold uE at h;split at h
 ·rename_i i j;exact .inl ⟨i,j,rx.int,ry.int,h.1,k _ G _ H h.2 Kp.refl rg (.of dL)⟩
 ·rename_i z n;exact .inr ⟨z,n,rx.str,ry.int,h.1.1,h.1.2.1,h.1.2.2,k _ G _ H h.2 Kp.refl rg (.of ji)⟩
 ·exact h.elim
def y9:DN:=fun x lo hi G Q=>match x with
 | .str z=>z.length<=sizeLine/\Q (.str ⟨(ju z.cps.toList lo hi).toArray⟩) G
 | .tup ds=>¬ (HT.sIx ds.length 0 lo=0/\HT.sIx ds.length ds.length hi=ds.length)/\Q (.tup (cutD ds lo hi)) G
 | x=>match pX G x with
  | some ds=>Q (.fl (cutD ds lo hi)) G
  | none=>False
theorem vN:u7 X (uK X.K y9):=((A7 (X:=X)).or ((xm (X:=X)).or (y8 (X:=X)))).imp fun v lo hi H Q zz=>by
 obtain⟨x,G0,H0,G,Q3,rx,rg,h,k⟩:=zz;unfold y9 at h;split at h
 ·rename_i z;exact .inl ⟨z,rx.str,h.1,k _ G _ H h.2 Kp.refl rg (.of ji)⟩
 ·rename_i ds;obtain⟨a,xs,rfl,s,r⟩:=rx.tup;refine .inr (.inl ⟨a,xs,rfl,s,by rw[<- r.length];exact h.1,fun p hp=>k _ G _ _ h.2 (Kp.laid hp) (rg.laid hp) (.of (hV rg hp (rH r lo hi)))⟩)
 ·split at h
  ·rename_i ds hds;obtain⟨a,xs,rfl,s,r⟩:=jv hds rx rg;exact .inr (.inr ⟨a,xs,rfl,s,fun p hp=>k _ G _ _ h (Kp.laid hp) (rg.laid hp) (rq rg hp (rH r lo hi))⟩)
  ·exact h.elim
def Dm(to:bJ)(ta:j6):bJ:=fun σ G Q=>to σ G fun x G1=>match x with
 | .str z=>ta σ G1 fun ds G2=>match ds with
  | [d]=>∃ ys:List Str,pX G2 d=some (ys.map D.str)/\(ys.map (·.length)).sum+ys.length*z.length<=16777216/\Q (.str (Txt.join z ys)) G2
  | _=>False
 | _=>False
variable{o e:Expr}{es:List Expr}{to te:bJ}{t:j6}{apos cpos pos p:Pos}
def im(to:bJ)(ta:j6):bJ:=fun σ G Q=>to σ G fun x G1=>match x with
 | .ref a=>(∃ ds,G1 a=some (.lst ds))/\ta σ G1 fun es G2=>match es with
  | [d]=>match G2 a with
   | some (.lst ds)=>ds.length < sizeLine/\Q .non (gset G2 a (.lst (ds ++ [d])))
   | _=>False
  | _=>False
 | _=>False
theorem zO{K:Frag}{H:Hp}{G:Gp}{a:Addr}{xs ys:List V}{ds':List D}(rg:RG K H G)(e1:H a=some (.lst xs))(r2:RDs K H ds' ys)(hg:G a≠none):
  Kp G H (gset G a (.lst ds')) (bB H a (.lst ys))/\RG K (bB H a (.lst ys)) (gset G a (.lst ds')):=by
 have kp:Kp G H (gset G a (.lst ds')) (bB H a (.lst ys)):=fun b h e n=>by
  have:b≠a:=fun z=>by subst z;exact hg n
  exact⟨by rw[au this];exact e,by rw[aG this];exact n⟩
 have st:=kp.stb rg;refine⟨kp,fun b o q=>?_⟩
 by_cases hb:b=a
 ·subst hb;rw[ax]at q;cases q;exact⟨_,aT,RDs.mono st _ _ r2⟩
 ·rw[aG hb]at q;obtain⟨h',e2,r⟩:=rg b o q;exact⟨h',by rw[au hb];exact e2,r.mono st⟩
theorem yb{K:Frag}{H:Hp}{G:Gp}{a:Addr}{ds:List D}(rg:RG K H G)(e:G a=some (.lst ds)):∃ xs,H a=some (.lst xs)/\RDs K H ds xs:=by
 obtain⟨ho,e1,ro⟩:=rg a _ e;cases ho with
 | lst xs=>exact⟨xs,e1,ro⟩
 | _=>exact ro.elim
theorem jM(ho:PE X o (aJ X.K to))(ha:PA X [e] (eT X.K t))(hbase:attributeBase o "append" X.env (eval o X.env)=eval o X.env:=by rfl)
  (hfew:((backTo cpos (starEach [e] X.env)).all (fun x=>!x.1) && (backToKw cpos (keywordEach [] X.env)).all (fun x=>x.1.isSome)
   && decide (([e]:List Expr).length+([]:List Keyword).length+(if ([]:List Keyword).isEmpty then 0 else 1) < 30))=true:=by rfl)
  (hline:(apos.endLine == cpos.line)=true:=by rfl) (hs:starEach [e] X.env=(false,eval e X.env)::starEach [] X.env:=by rfl) (hplain:(backTo cpos (starEach [] X.env)).any (·.1)=false:=by rfl):
  PE X (.Call (.Attribute o "append" apos) [e] [] cpos) (aJ X.K (im to t)):=
 (CY PySem.F.plainAttrs_list PySem.F.slot_list_append PySem.F.type_list_append pD ho ha hbase hfew hline hs hplain).imp fun τ H Q zz=>by
 obtain⟨σ,G,Q3,rs,rg,h,k⟩:=zz;exact (
  ⟨σ,G,_,rs,rg,h,fun d G1 v H1 q k1 rg1 re=>by
    cases d with
    | ref a=>
     rw[re.ref];obtain⟨⟨ds,hg⟩,q⟩:=q;obtain⟨xs,e1,r1⟩:=yb rg1 hg;refine⟨.inl ⟨rfl,xs,i0.of e1⟩,σ,G1,_,rs.mono (k1.stb rg),rg1,q,fun es G2 vs H2 q2 k2 rg2 rds=>?_⟩;split at q2
     ·rename_i d;obtain⟨v2,rfl,rd⟩:=fP rds;split at q2
      ·rename_i ds2 hg2;obtain⟨xs2,e2,r2⟩:=yb rg2 hg2;have rr:RDs X.K H2 (ds2 ++ [d]) (xs2 ++ [v2]):=r2.append (RDs.cons rd RDs.nil);obtain⟨kp,rg3⟩:=zO rg2 e2 rr (by rw[hg2];exact fun z=>nomatch z)
       exact⟨a,xs2,v2,rfl,rfl,e2,by rw[<- r2.length];exact q2.1,k _ _ _ _ q2.2 ((k1.trans k2).trans kp) rg3 (.of qk)⟩
      ·exact q2.elim
     ·exact q2.elim
    | _=>exact q.elim⟩)
def qR(G:Gp):D->Option String
 | .int _=>some "int"
 | .str _=>some "str"
 | .bl _=>some "bool"
 | .tup _=>some "tuple"
 | d=>(pX G d).map fun _=>"list"
def EE:vL:=fun ds G Q=>match ds with
 | [d,.ty T]=>qR G d=some T/\Q (.bl true) G
 | _=>False
theorem vk{x:Str}{d:D}{v:V}{u:Value}(hg:Gl X x)(hm:X.mg x=some u)(r:aD v u)(rd:∀ H,RD X.K H d v)(hd:(x == ("__debug__":Str))=false:=by decide):PE X (.Name x pos) (aJ X.K (eC d)):=C4 (vi hg hm r hd) rd
def B2(te:bJ):bJ:=fun σ G Q=>te σ G fun x G1=>match x with
 | .int i=>Q (.int (-i)) G1
 | _=>False
theorem C1(he:PE X e (aJ X.K te)):PE X (.UnaryOp .USub e pos) (aJ X.K (B2 te)):=(CT AZ he).imp fun τ H Q ⟨σ,G,Q3,rs,rg,h,k⟩=>⟨σ,G,_,rs,rg,h,fun d G1 v H1 q k1 rg1 re=>by
 cases d with
 | int i=>exact⟨i,re.int,k _ G1 _ H1 q k1 rg1 (.of dL)⟩
 | _=>exact q.elim⟩
end
def vB(N:List Str)(osc scope:Scope)(T M:List Str):Bool:=
 decide (scope.kind=.function) && scope.names.all (fun y=>decide (y.2≠.cell) && (decide (y.2≠.local) || (decide (scope.names.lookup y.1=some .local) && ((".0":Str)::T).contains y.1)) &&
  (decide (y.2≠.free) || (decide (osc.names.lookup y.1=some .cell) || decide (osc.names.lookup y.1=some .free)))) && (M.all fun x=>!((".0":Str)::T).contains x) && decide (M.length=N.length) &&
  ((M.zip N).all fun p=>decide (p.1=p.2) || scope.names.all fun y=>decide (y.1≠p.1))
theorem cx{X:Cx}{scope:Scope}{T M:List Str}(hc:X.calm=true)(h:vB X.N X.env.scope scope T M=true):CompOk X scope T M:=by
 unfold vB at h;rw[Bool.and_eq_true,Bool.and_eq_true,Bool.and_eq_true]at h;obtain⟨⟨⟨h12,h3⟩,h4⟩,h5⟩:=h;have hlen:M.length=X.N.length:=of_decide_eq_true h4;simp only[Bool.and_eq_true,all_eq_true,Bool.or_eq_true,decide_eq_true_eq,Bool.not_eq_true',List.contains_eq_mem]at h12 h3 h5;obtain⟨h1,h2⟩:=h12;refine⟨hc,h1,fun y hy=>(h2 y hy).1.1,fun y hy hl=>?_,fun y hy hl=>?_,hlen,fun i x hx=>?_,fun x hx=>?_,fun y hy hf=>?_⟩
 ·rcases (h2 y hy).1.2 with z|z
  ·exact absurd hl z
  ·exact z.1
 ·rcases (h2 y hy).1.2 with z|z
  ·exact absurd hl z
  ·simpa using z.2
 ·have hi:i < M.length:=(List.getElem?_eq_some_iff.mp hx).1;have hi2:i < X.N.length:=by walk_at "o"
  have hm:(x,X.N[i])∈M.zip X.N:=by
   refine mem_of_getElem? (i:=i) ?_;rw[List.getElem?_zip_eq_some];exact⟨hx,getElem?_eq_getElem hi2⟩
  rcases h5 _ hm with z|z
  ·left;rw[getElem?_eq_getElem hi2];exact congrArg some (show x=X.N[i]from z).symm
  ·exact .inr fun y hy=>z y hy
 ·simpa using h3 x hx
 ·rcases (h2 y hy).2 with z|z
  ·exact absurd hf z
  ·exact z
structure Fun3(K:Frag)(x qual:Str)(st:Stmt)(f:Addr)(fd:FuncData):Prop where
 ex:∃ (oc:Value) (od:Option Addr) (dV kV doc pm:Value) (an:Option Addr) (cdv ct:Value) (osl:Array (Option Value)),
  fd=fnOf x qual (aL st) (aH st) (aj st) dV kV doc pm an cdv ct/\K.lookup f=some ⟨oc,od,.func fd,osl⟩/\codeIn K cdv qual=true
section
variable{P:Program}{w:World}{K:Frag}{mg:Str->Option Value}{base:Heap}
theorem Fun3.ok3{x qual:Str}{st:Stmt}{f:Addr}{fd:FuncData}{N ps:List Str}{k:Nat}{sp:eF}(F:Fun3 K x qual st f fd)(S:FnScope N ps (aj st))(len:∀ ds G Q,sp ds G Q->ds.length=ps.length)
  (hbody:∀ (cdv:Value) (A:Around) (outer:List Env) (s:Shared) (H:Hp) (E:XK),Room k (A.deeper (envOfC qual (aj st) s.heap.objs.size f cdv))->
   ∃ t:dg,kZ (tM fk P w K mg base N qual (aj st) f cdv A outer s H E).nox (aH st) (cF K t)/\∀ ds G Q,sp ds G Q->t { nx:=fun _ G'=>Q .non G',rt:=Q } (fb N ds) G):FnOk P w K mg base fk (k+1) f fd ps (aE K sp):=by
 obtain⟨oc,od,dV,kV,doc,pm,an,cdv,ct,osl,rfl,lk,hcd⟩:=F.ex;refine AK lk hcd S (fun vs H Q E ⟨ds,G,Q3,rds,rg,h,kk⟩=>by rw[<- rds.length];exact len ds G Q3 h) fun A outer s H vs Q E hr hsp=>?_
 obtain⟨ds,G,Q3,rds,rg,h,kk⟩:=hsp;obtain⟨t,ht,hq⟩:=hbody cdv A outer s H E hr;refine⟨cF K t,ht.nox,fb N ds,G,{ nx:=fun _ G'=>Q3 .non G',rt:=Q3 },sr rds,rg,hq ds G Q3 h,⟨fun σ' G' τ' H' q k' rg' rs'=>kk _ G' _ H' q k' rg' (.of qk),kk,fun _ _ _ _ q=>q.elim,fun _ _ _ _ q=>q.elim⟩⟩
theorem aR{x qual:Str}{st:Stmt}{f:Addr}{oc:Value}{od an:Option Addr}{osl:Array (Option Value)}{dV kV doc pm cdv ct:Value}(l:K.lookup f=some ⟨oc,od,.func (fnOf x qual (aL st) (aH st) (aj st) dV kV doc pm an cdv ct),osl⟩)
  (c:codeIn K cdv qual=true):Fun3 K x qual st f (fnOf x qual (aL st) (aH st) (aj st) dV kV doc pm an cdv ct):=⟨⟨oc,od,dV,kV,doc,pm,an,cdv,ct,osl,rfl,l,c⟩⟩
end
theorem ag{t u:dg}{D:Ends3}{σ:fH}{G:Gp}:sSeq t u D σ G=t { D with nx:=u D } σ G:=rfl
theorem vA{ds:List D}{i:Int}(h:0<=i):cutD ds none (some i)=ds.take i.toNat:=by
 have:HT.sIx ds.length ds.length (some i)=min i.toNat ds.length:=by simp only[HT.sIx];rw[if_neg (by walk_at "o")]
 unfold cutD;rw[this];simp only[HT.sIx,drop_zero,sub_zero];rw[List.take_eq_take_iff];omega
theorem yA{ds:List D}{i j:Int}(h:0<=i)(h2:0<=j):cutD ds (some i) (some j)=(ds.drop i.toNat).take (j.toNat - i.toNat):=by
 have e1:HT.sIx ds.length 0 (some i)=min i.toNat ds.length:=by simp only[HT.sIx];rw[if_neg (by walk_at "o")]
 have e2:HT.sIx ds.length ds.length (some j)=min j.toNat ds.length:=by simp only[HT.sIx];rw[if_neg (by walk_at "o")]
 unfold cutD;rw[e1,e2]
 by_cases hi:i.toNat<=ds.length
 ·rw[Nat.min_eq_left hi,List.take_eq_take_iff,length_drop]
  by_cases hj:j.toNat<=ds.length
  ·rw[Nat.min_eq_left hj]
  ·have hj':=Nat.le_of_not_le hj;rw[Nat.min_eq_right hj',Nat.min_self,Nat.min_eq_right (Nat.sub_le_sub_right hj' _)]
 ·rw[Nat.min_eq_right (Nat.le_of_not_le hi),List.drop_length,List.drop_eq_nil_of_le (le_of_lt (Nat.lt_of_not_le hi))];simp
theorem Ai{cs:List Nat}{i:Int}(h:0<=i):ju cs none (some i)=cs.take i.toNat:=by
 have:HT.sIx cs.length cs.length (some i)=min i.toNat cs.length:=by simp only[HT.sIx];rw[if_neg (by walk_at "o")]
 unfold ju;rw[this];simp only[HT.sIx,drop_zero,sub_zero];rw[List.take_eq_take_iff];omega
def S(cs:List Nat):Str:=⟨cs.toArray⟩
theorem yI{ds:List D}{i:Int}(h0:0<=i)(h:i < ds.length):g6 ds i=some (ds[i.toNat]'(by walk_at "o")):=by
 unfold g6 AI;rw[if_pos h0,if_pos h];simp[show i.toNat < ds.length by walk_at "o"]
theorem aq:1000000<=sizeLine:=by decide
theorem bY(lo:Int)(n:Nat):(d6 lo n).length=n:=by simp[d6]
theorem uo{lo:Int}{n i:Nat}{d:D}(h:(d6 lo n)[i]?=some d):i < n/\d=.int (lo+(i:Nat)):=by
 have hl:i < (d6 lo n).length:=(List.getElem?_eq_some_iff.mp h).1;rw[bY]at hl;refine⟨hl,?_⟩;rw[d6,getElem?_map,List.getElem?_range hl]at h
 simpa using h.symm
def qa:eF:=fun vs _ Q=>match vs with
 | [.lst ds]=>∃ ns:List Int,ds=ns.map D.int/\ns.length<=63/\∀ G',Q (.bl true) G'
 | _=>False
theorem wp{K:Frag}{H:Hp}{a:Addr}{ns:List Int}(hl:ns.length<=63)(hO:As H)(hS:i0 K H a (ns.map V.int))(E:XK):aE K qa [.ref a] H (fun v _=>v=.bl true) E:=by
 have hF:yQ K H a (ns.map V.int):=by
  rcases hS with (h|⟨o,h⟩)|h
  ·rcases hO a with e|⟨o,xs,e⟩
   ·rw[h]at e;cases e
   ·rw[h]at e;cases e
  ·exact .inl ⟨o,h⟩
  ·exact .inr h
 refine⟨[.lst (ns.map D.int)],fun _=>none,fun d _=>d=.bl true,RDs.cons (mL hF (RDs.ints ns)) RDs.nil,(fun b o q=>nomatch q),⟨ns,rfl,hl,fun _=>rfl⟩,fun d G' v H' q _ _ re=>?_⟩;subst q;exact re.bl
theorem walk3{l:PySem.W.OpenLaw}{q:Program}{loose:List Str}{XP:(Str->Option Value)->Heap->Prop}{YP:World->Heap->Prop}{d:DefRec}{K:Params->Frag}{k:Nat}{x:Str}(hn:l.most=some 63)(hdf:d.params.defaults=[])(hr:Room k callerA)
  (hY:∀ (w:World) (h:Heap),YP w h->(K w.params).In h)
  (F:∀ (w:World) (mg:Str->Option Value) (fa:Addr) (h:Heap),(K w.params).In h->h.Ns mainGlobals mg->mg d.name=some (.ref fa)->
   ∃ fd:FuncData,(∀ (s:Shared) (u:Value),BindsTo s fd ⟨[u],[]⟩ [(x,u)])/\∀ base:Heap,(K w.params).In base->base.Ns mainGlobals mg->FnOk l.prog w (K w.params) mg base fk k fa fd [x] (aE (K w.params) qa)):
  PySem.W.WalkO q loose XP YP l.row.toRowW d [] (fun f vs=>PySem.call f vs):=
 L2.walk_of (n:=63) (k:=k) (x:=x) (CX:=fun _=>fk) (sp:=fun w=>aE (K w.params) qa) hn (by decide) hdf hr hY F (fun _ _ _ _ hl hO hS=>wp hl hO hS _) fun _ _ _ _ _ z=>z
end L3
namespace L2
open PySem PySem.Spec PyProof.Rows
section
variable{X:Cx}
theorem PS.or{st:Stmt}{t t':TS}(h:PS X st t)(h':PS X st t'):PS X st (fun D σ H=>t D σ H\/t' D σ H):=fun pins s σ H D I q=>by
 rcases q with q|q
 ·exact h pins s σ H D I q
 ·exact h' pins s σ H D I q
end
end L2
namespace L3
open PySem PySem.Spec PyProof.Rows L2
def Ee(i:Nat)(t:dg):dg:=fun D σ G=>match σ[i]? with
 | some (some (.ref p))=>match G p with
  | some (.lst ds)=>t D (σ.set i (some (.lst ds))) (fh G p)
  | _=>False
 | some (some (.lst _))=>t D σ G
 | _=>False
def Es(ta:j6):yP:=fun σ G Q=>ta σ G fun ds G'=>match ds with
 | [.lst es]=>Q es.reverse G'
 | _=>False
theorem DK{a:D}:g6 [a] 0=some a:=rfl
theorem DJ{a b:D}:g6 [a,b] 0=some a:=rfl
theorem DI{a b:D}:g6 [a,b] 1=some b:=rfl
theorem DH{a b c:D}:g6 [a,b,c] 0=some a:=rfl
theorem DG{a b c:D}:g6 [a,b,c] 1=some b:=rfl
theorem DF{a b c:D}:g6 [a,b,c] 2=some c:=rfl
theorem AS{a b c d:D}:g6 [a,b,c,d] 0=some a:=rfl
theorem AR{a b c d:D}:g6 [a,b,c,d] 1=some b:=rfl
theorem AQ{a b c d:D}:g6 [a,b,c,d] 2=some c:=rfl
theorem AO{a b c d:D}:g6 [a,b,c,d] 3=some d:=rfl
theorem DE{a b c d e:D}:g6 [a,b,c,d,e] 0=some a:=rfl
theorem DD{a b c d e:D}:g6 [a,b,c,d,e] 1=some b:=rfl
theorem DC{a b c d e:D}:g6 [a,b,c,d,e] 2=some c:=rfl
theorem DB{a b c d e:D}:g6 [a,b,c,d,e] 3=some d:=rfl
theorem DA{a b c d e:D}:g6 [a,b,c,d,e] 4=some e:=rfl
theorem be{c:mv}{t u:dg}{E:Ends3}{σ:fH}{G:Gp}(b:Bool)(hc:∀ K:Bool->Gp->Prop,K b G->c σ G K)(h:if b=true then t E σ G else u E σ G):mG c t u E σ G:=hc _ h
theorem xp{t u:dg}{E:Ends3}{σ:fH}{G:Gp}{NX:fH->Gp->Prop}(h2:∀ σ' G',NX σ' G'->u E σ' G')(h1:∀ NX':fH->Gp->Prop,(∀ σ' G',NX σ' G'->NX' σ' G')->t { E with nx:=NX' } σ G):sSeq t u E σ G:=h1 (u E) h2
open PySem.SeqAt
def oq(x:D)(ds:List D):Bool:=ds.any fun d=>dZ d x
theorem mZ{x:D}{ds:List D}:oq x ds=true↔x∈ds:=by
 unfold oq;rw[any_eq_true];constructor
 ·rintro⟨d,hd,e⟩
  rw[<- gy.mp e];exact hd
 ·intro h;exact⟨x,h,bj x⟩
theorem m3{x:D}{ds:List D}:oq x ds=false↔x∉ds:=by
 rw[<- mZ];simp
def kW(K:Frag)(H:Hp)(ds:List D)(x:D)(u:Value):Bool:=@decide (∃ d∈ds,d=x/\∃ v,RD K H d v/\aD v u) (Classical.propDecidable _)
section
variable{X:Cx}{pins:List (Addr×Obj)}{σ:St}{H:Hp}{s:Shared}
theorem rT(I:Inv X pins σ H s){n:Nat}{ds:List D}{x d:D}{v:V}{u:Value}(px:pl n x)(pds:∀ d∈ds,pl n d)(hd:d∈ds)(r:RD X.K H d v)(l:aD v u):kW X.K H ds x u=dZ d x:=by
 symm;refine iL ?_;unfold kW;rw[@decide_eq_true_iff _ (Classical.propDecidable _)];constructor
 ·rintro⟨d',hd',rfl,v',r',l'⟩
  have:=aD.inj l l';subst this;exact ul I n (pds d hd) (pds _ hd') r r'
 ·rintro rfl
  exact⟨d,hd,rfl,v,r,l⟩
theorem nL(I:Inv X pins σ H s){n:Nat}{x:D}(px:pl n x){ds0:List D}(pds:∀ d∈ds0,pl n d):∀ {ds:List D} {xs:List V} {its:List Value},(∀ d∈ds,d∈ds0)->RDs X.K H ds xs->Vals xs its->its.any (kW X.K H ds0 x)=oq x ds
 | [],xs,its,_,r,w=>by
  rw[r.inv_nil]at w;cases w;rfl
 | d::ds,xs,its,hs,r,w=>by
  obtain⟨v,t,e,h1,h2⟩:=r.inv_cons;subst e;cases w with
  | cons l w=>
   rw[any_cons,rT I px pds (hs d mem_cons_self) h1 l,nL I px pds (fun e he=>hs e (mem_cons_of_mem _ he)) h2 w];rfl
theorem mY(I:Inv X pins σ H s){n:Nat}{x:D}{v:V}{v':Value}{A:Around}(px:pl n x){ds:List D}(pds:∀ d∈ds,pl n d){xs:List V}{its:List Value}(r:RDs X.K H ds xs)(w:Vals xs its)(rx:RD X.K H x v)(lx:aD v v')(hu:A.in1.units+n < cLine):
  ∀ y,y∈its.toArray->EqAt A.in1 s y v' (kW X.K H ds x y):=fun y hy=>by
 have hy':y∈its:=by simpa using hy
 obtain⟨i,hi,e⟩:=List.mem_iff_getElem.mp hy';obtain⟨x1,e1,q1⟩:=Vals.getV (i:=i) (u:=y) w (by rw[getElem?_eq_getElem hi,e])
 obtain⟨d,e2,q2⟩:=RDs.getV r e1;have hd:=mem_of_getElem? e2;rw[rT I px pds hd q2 q1];exact (pP I n (pds d hd) px q2 rx q1 lx hu).eq
end
def AC:R3:=fun x y G Q=>match wX G y with
 | some ds=>(pl 7 x/\∀ d∈ds,pl 7 d)/\Q (.bl (oq x ds)) G
 | none=>False
def BG:R3:=fun x y G Q=>match wX G y with
 | some ds=>(pl 7 x/\∀ d∈ds,pl 7 d)/\Q (.bl (!oq x ds)) G
 | none=>False
section
variable{X:Cx}
theorem yV(hu:X.A.units+8 < cLine):g_ X (compareOp .In) (jW X.K AC):=by
 rintro pins s σ H v u v' u' Q I rv ru ⟨x,y,G,Q3,rx,ry,rg,h,k⟩
 unfold AC at h;split at h
 ·rename_i ds hq;obtain⟨⟨px,pds⟩,q⟩:=h;obtain⟨a,xs,rfl,sq,r⟩:=kU (G:=G) (H:=H) hq (.of ry) rg;cases ru;have hu1:X.A.in1.units+7 < cLine:=by show X.A.units+1+7 < cLine;omega
  rcases sq with sq|sq
  ·obtain⟨its,w,p,hz⟩:=I.list sq;refine in_listAt (kW X.K H ds x) p.isList (mY I px pds r w rx rv hu1) ⟨.bl _,H,I,rfl,?_⟩;rw[show its.toArray.any (kW X.K H ds x)=its.any (kW X.K H ds x)by simp,nL I px pds (fun _ h=>h) r w]
   exact k _ G _ H q Kp.refl rg (.of gf)
  ·obtain⟨its,w,p,hz⟩:=I.tuple sq;refine in_tupleAt (kW X.K H ds x) p (mY I px pds r w rx rv hu1) ⟨.bl _,H,I,rfl,?_⟩;rw[show its.toArray.any (kW X.K H ds x)=its.any (kW X.K H ds x)by simp,nL I px pds (fun _ h=>h) r w]
   exact k _ G _ H q Kp.refl rg (.of gf)
 ·exact h.elim
end
section
variable{κ:Type}[DecidableEq κ]
def dN(kvs:List (κ×D))(k:κ):Option D:=(kvs.find? fun kv=>decide (kv.1=k)).map (·.2)
def cm(kvs:List (κ×D))(k:κ)(v:D):List (κ×D):=
 if (kvs.any fun kv=>decide (kv.1=k))=true then kvs.map (fun kv=>if kv.1=k then (kv.1,v)else kv)else kvs ++ [(k,v)]
theorem j5(k:κ):∀ kvs:List (κ×D),(kvs.any fun kv=>decide (kv.1=k))=(dN kvs k).isSome
 | []=>rfl
 | p::r=>by
  by_cases e:p.1=k
  ·simp[dN,find?_cons,e]
  ·have ih:=j5 k r;simp only[any_cons,e,decide_false,Bool.false_or,ih];simp[dN,find?_cons,e]
theorem fB(kvs:List (κ×D))(k:κ)(v:D):(cm kvs k v).length<=kvs.length+1:=by
 unfold cm;split<;>simp
theorem vY(kvs:List (κ×D))(k:κ)(v:D):(cm kvs k v).map (·.1)=if k∈kvs.map (·.1)then kvs.map (·.1)else kvs.map (·.1) ++ [k]:=by
 unfold cm;have e:((kvs.any fun kv=>decide (kv.1=k))=true)↔k∈kvs.map (·.1):=by
  rw[any_eq_true,mem_map];constructor
  ·rintro⟨p,hp,q⟩;exact⟨p,hp,of_decide_eq_true q⟩
  ·rintro⟨p,hp,rfl⟩;exact⟨p,hp,decide_eq_true rfl⟩
 by_cases h:k∈kvs.map (·.1)
 ·rw[if_pos (e.mpr h),if_pos h,map_map];refine map_congr_left fun p _=>?_;simp only[Function.comp_apply];split<;>rfl
 ·rw[if_neg (fun z=>h (e.mp z)),if_neg h];simp
theorem jk{kvs:List (κ×D)}(k:κ)(v:D)(h:(kvs.map (·.1)).Nodup):((cm kvs k v).map (·.1)).Nodup:=by
 rw[vY];split
 ·exact h
 ·rename_i hk;rw[List.nodup_append];refine⟨h,by simp,fun a ha b hb=>?_⟩
  have:b=k:=by simpa using hb
  subst this;exact fun z=>hk (z ▸ ha)
end
def zW:D->Option aN
 | .int i=>some (.inl i)
 | .str x=>some (.inr x)
 | _=>none
def kD:aN->D
 | .inl i=>.int i
 | .inr x=>.str x
def s_:List D->Option (List aN)
 | []=>some []
 | d::r=>match zW d,s_ r with
  | some k,some ks=>some (k::ks)
  | _,_=>none
def j1:D->Option (List aN)
 | .tup ds=>s_ ds
 | _=>none
theorem BS(k:aN):zW (kD k)=some k:=by cases k<;>rfl
theorem vy:∀ ks:List aN,s_ (ks.map kD)=some ks
 | []=>rfl
 | k::r=>by simp only[map_cons,s_,BS,vy r]
section
variable{K:Frag}{H:Hp}
theorem uN{d:D}{k:aN}{v:V}(h:zW d=some k)(r:RD K H d v):v=kV k:=by
 cases d with
 | int i=>simp only[zW,Option.some.injEq]at h;subst h;simp only[RD]at r;exact r
 | str i=>simp only[zW,Option.some.injEq]at h;subst h;simp only[RD]at r;exact r
 | _=>simp[zW]at h
theorem sZ:∀ {ds:List D} {ks:List aN} {vs:List V},s_ ds=some ks->RDs K H ds vs->vs=ks.map kV
 | [],ks,vs,h,r=>by
  simp only[s_,Option.some.injEq]at h;subst h;exact r.inv_nil
 | d::t,ks,vs,h,r=>by
  obtain⟨x,u,e,h1,h2⟩:=r.inv_cons;subst e;simp only[s_]at h;split at h
  ·rename_i k kr e1 e2;simp only[Option.some.injEq]at h;subst h;rw[uN e1 h1,sZ e2 h2];rfl
  ·cases h
theorem mm{d:D}{ks:List aN}{v:V}(h:j1 d=some ks)(r:RD K H d v):∃ b,v=.ref b/\hJ K H b (ks.map kV):=by
 cases d with
 | tup ds=>
  simp only[RD]at r;obtain⟨a,xs,e,q,rr⟩:=r;exact⟨a,e,by rw[<- sZ h rr];exact q⟩
 | _=>simp[j1]at h
theorem j7.keys{kvs:List (List aN×D)}{xs:List (List aN×Addr×Value)}(r:j7 K H kvs xs):kvs.map (·.1)=xs.map (·.1):=by
 unfold j7 at r
 induction r with
 | nil=>rfl
 | cons h _ ih=>rw[map_cons,map_cons,h.1,ih]
theorem j7.val{kvs:List (List aN×D)}{xs:List (List aN×Addr×Value)}(r:j7 K H kvs xs)(k:List aN):
  (dN kvs k=none/\atKey xs k=none)\/∃ d b u v,dN kvs k=some d/\atKey xs k=some (b,u)/\RD K H d v/\aD v u:=by
 unfold j7 at r
 induction r with
 | nil=>exact .inl ⟨rfl,rfl⟩
 | @cons p q ps qs h t ih=>
  obtain⟨h1,_,v,h2,h3⟩:=h
  by_cases e:p.1=k
  ·have e':q.1=k:=h1.symm.trans e;exact .inr ⟨p.2,q.2.1,q.2.2,v,by simp[dN,find?_cons,e],by simp[atKey,find?_cons,e'],h2,h3⟩
  ·have e':¬ q.1=k:=fun z=>e (h1.trans z);have a1:dN (p::ps) k=dN ps k:=by simp[dN,find?_cons,e]
   have a2:atKey (q::qs) k=atKey qs k:=by simp[atKey,find?_cons,e']
   rw[a1,a2];exact ih
theorem j7.put{kvs:List (List aN×D)}{xs:List (List aN×Addr×Value)}(r:j7 K H kvs xs)(k:List aN){b:Addr}{d:D}{v:V}{u:Value}(hb:hJ K H b (k.map kV))(hd:RD K H d v)(hu:aD v u):j7 K H (cm kvs k d) (storedH xs k b u):=by
 have e:(kvs.any fun kv=>decide (kv.1=k))=(atKey xs k).isSome:=by
  rw[j5];rcases r.val k with ⟨a,b⟩|⟨_,_,_,_,a,b,_⟩<;>rw[a,b]<;>rfl
 unfold cm storedH;rw[e]
 by_cases q:(atKey xs k).isSome=true
 ·rw[if_pos q,if_pos q];unfold j7 at r ⊢;clear e q
  induction r with
  | nil=>exact .nil
  | @cons p q ps qs h t ih=>
   rw[map_cons,map_cons];refine .cons ?_ ih;obtain⟨h1,h2,v',h3,h4⟩:=h;unfold putAt
   by_cases e:p.1=k
   ·rw[if_pos e,if_pos (h1.symm.trans e)];exact⟨h1,h2,v,hd,hu⟩
   ·rw[if_neg e,if_neg (fun z=>e (h1.trans z))];exact⟨h1,h2,v',h3,h4⟩
 ·rw[if_neg q,if_neg q];exact Paired.snoc r ⟨rfl,hb,v,hd,hu⟩
theorem tV.val{kvs:List (aN×D)}{xs:List (aN×V)}(r:tV K H kvs xs)(k:aN):(dN kvs k=none/\iS xs k=none)\/∃ d v,dN kvs k=some d/\iS xs k=some v/\RD K H d v:=by
 unfold tV at r
 induction r with
 | nil=>exact .inl ⟨rfl,rfl⟩
 | @cons p q ps qs h t ih=>
  obtain⟨h1,h2⟩:=h
  by_cases e:p.1=k
  ·have e':q.1=k:=h1.symm.trans e;exact .inr ⟨p.2,q.2,by simp[dN,find?_cons,e],jz e',h2⟩
  ·have e':¬ q.1=k:=fun z=>e (h1.trans z);have a1:dN (p::ps) k=dN ps k:=by simp[dN,find?_cons,e]
   rw[a1,jA e'];exact ih
theorem tV.put{kvs:List (aN×D)}{xs:List (aN×V)}(r:tV K H kvs xs)(k:aN){d:D}{v:V}(hd:RD K H d v):tV K H (cm kvs k d) (jj xs k v):=by
 have e:(kvs.any fun kv=>decide (kv.1=k))=(xs.any fun kv=>decide (kv.1=k)):=by
  rw[j5,mz];rcases r.val k with ⟨a,b⟩|⟨_,_,a,b,_⟩<;>rw[a,b]<;>rfl
 unfold cm jj;rw[e]
 by_cases q:(xs.any fun kv=>decide (kv.1=k))=true
 ·rw[if_pos q,if_pos q];unfold tV at r ⊢;clear e q
  induction r with
  | nil=>exact .nil
  | @cons p q ps qs h t ih=>
   rw[map_cons,map_cons];refine .cons ?_ ih;obtain⟨h1,h2⟩:=h
   by_cases e:p.1=k
   ·rw[if_pos e,if_pos (h1.symm.trans e)];exact⟨h1,hd⟩
   ·rw[if_neg e,if_neg (fun z=>e (h1.trans z))];exact⟨h1,h2⟩
 ·rw[if_neg q,if_neg q];exact Paired.snoc r ⟨rfl,hd⟩
theorem tV.length{kvs:List (aN×D)}{xs:List (aN×V)}(r:tV K H kvs xs):kvs.length=xs.length:=Paired.length r
theorem j7.length{kvs:List (List aN×D)}{xs:List (List aN×Addr×Value)}(r:j7 K H kvs xs):kvs.length=xs.length:=Paired.length r
end
def ah(P:Program)(w:World):List aN->Int:=tupleKeyHash (bf P w)
section
variable{X:Cx}{pins:List (Addr×Obj)}{σ:St}{H:Hp}{s:Shared}{a:Addr}
theorem key_at(I:Inv X pins σ H s){b:Addr}{ks:List aN}(h:hJ X.K H b (ks.map kV)):(tupleKind (bf X.prog X.w)).is s.heap ks b:=by
 obtain⟨its,r,⟨o,h1,h2,n,h3⟩,_⟩:=I.tuple h;exact⟨o,its.toArray,n,h1,h2,h3,by simpa using kM r⟩
theorem rE(I:Inv X pins σ H s){kvs:List (List aN×D)}{xs:List (List aN×Addr×Value)}(e:H a=some (.ext (rY (ah X.prog X.w) a xs)))(r:j7 X.K H kvs xs)(nd:(kvs.map (·.1)).Nodup):
  (a == sysModules)=false/\s.heap.DictOfH (tupleKind (bf X.prog X.w)) a xs:=by
 obtain⟨hd,o,es,ep,h1,h2,h3,h4⟩:=(show bK X.prog X.w H s.heap a (.ext (rY (ah X.prog X.w) a xs))from I.hok a _ e).1
 refine⟨hd,o,es,ep,h1,h2,h3,h4,?_,by rw[<- r.keys];exact nd⟩
 unfold j7 at r;clear h4 e nd
 induction r with
 | nil=>intro x hx;exact nomatch hx
 | @cons p q ps qs hq t ih=>
  intro x hx;rcases mem_cons.mp hx with e|hx
  ·subst e;exact key_at I (by rw[<- hq.1];exact hq.2.1)
  ·exact ih x hx
theorem kS{P:Program}{w:World}{H':Hp}{h:Heap}{hw:List aN->Int}{xs:List (List aN×Addr×Value)}(h1:rY hw a xs h):bK P w H' h a (.ext (rY hw a xs)):=by
 obtain⟨hd,o,es,ep,e,r⟩:=h1;exact⟨⟨hd,o,es,ep,e,r⟩,⟨o,e⟩,fun h1 h2 ⟨hd,o,es,ep,e,r⟩ k=>⟨hd,o,es,ep,k o e,r⟩⟩
end
section
variable{K:Frag}{H:Hp}{G:Gp}
theorem Aa{p:Addr}{o:GO}{ho:HO}(rg:RG K H G)(e:H p=none)(ro:∀ H':Hp,Stb K H H'->RO K H' p o ho):Kp G H (gset G p o) (bB H p ho)/\RG K (bB H p ho) (gset G p o):=by
 have kp:Kp G H (gset G p o) (bB H p ho):=fun b h q n=>by
  have:b≠p:=bL q e;exact⟨by rw[au this];exact q,by rw[aG this];exact n⟩
 refine⟨kp,fun b u q=>?_⟩
 by_cases hb:b=p
 ·subst hb;rw[ax]at q;cases q;exact⟨_,aT,ro _ (kp.stb rg)⟩
 ·rw[aG hb]at q;obtain⟨h,q1,q2⟩:=rg b u q;exact⟨h,by rw[au hb];exact q1,q2.mono (kp.stb rg)⟩
theorem rh{a:Addr}{o:GO}{ho:HO}(rg:RG K H G)(hg:G a≠none)(ro:∀ H':Hp,Stb K H H'->RO K H' a o ho):Kp G H (gset G a o) (bB H a ho)/\RG K (bB H a ho) (gset G a o):=by
 have kp:Kp G H (gset G a o) (bB H a ho):=fun b h e n=>by
  have:b≠a:=fun z=>by subst z;exact hg n
  exact⟨by rw[au this];exact e,by rw[aG this];exact n⟩
 refine⟨kp,fun b u q=>?_⟩
 by_cases hb:b=a
 ·subst hb;rw[ax]at q;cases q;exact⟨_,aT,ro _ (kp.stb rg)⟩
 ·rw[aG hb]at q;obtain⟨h,q1,q2⟩:=rg b u q;exact⟨h,by rw[au hb];exact q1,q2.mono (kp.stb rg)⟩
end
def nH(hw:List aN->Int):bJ:=fun _ G Q=>∀ p,G p=none->Q (.ref p) (gset G p (.dT hw []))
def yx:bJ:=fun _ G Q=>∀ p,G p=none->Q (.ref p) (gset G p (.dK []))
section
variable{X:Cx}{pos:Pos}
theorem mP:PE X (.Dict [] [] pos) (aJ X.K (nH (ah X.prog X.w))):=fun pins s τ H Q I zz=>by
 obtain⟨σ,G,Q3,rs,rg,h,k⟩:=zz;have hf:H s.heap.objs.size=none:=I.hok.fresh (le_refl _);obtain⟨kp,rg2⟩:=Aa (o:=.dT (ah X.prog X.w) []) (ho:=.ext (rY (ah X.prog X.w) s.heap.objs.size [])) rg hf fun H' _=>⟨[],rfl,.nil,nodup_nil,zero_le _⟩;have hd:(s.heap.objs.size == sysModules)=false:=beq_eq_false_iff_ne.mpr (Ne.symm (ne_of_lt I.big));exact wpAny_Dict_empty ⟨.ref s.heap.objs.size,_,I.laid (a:=s.heap.objs.size) (t':=s.toks) (fun _ _ q=>Heap.get?_push_of_some _ q) (le_refl _) (kS ⟨hd,_,#[],0,Heap.get?_push_size _ rfl,⟨rfl,rfl,rfl⟩,rfl,rfl⟩),rfl,
  k _ _ _ _ (h _ (rg.free hf)) kp rg2 (.of h_)⟩
theorem Bv:PE X (.Dict [] [] pos) (aJ X.K yx):=xN.imp fun τ H Q ⟨σ,G,Q3,rs,rg,h,k⟩ p hp=>by
 obtain⟨kp,rg2⟩:=Aa (o:=.dK []) (ho:=.dK []) rg hp fun H' _=>(show tV X.K H' [] []from .nil)
 exact k _ _ _ _ (h _ (rg.free hp)) kp rg2 (.of h_)
end
def lb(hw:List aN->Int):D->D->D->Gp->(Gp->Prop)->Prop:=fun o i v G Q=>match o with
 | .ref a=>match G a with
  | some (.dT hw' kvs)=>hw'=hw/\∃ ks,j1 i=some ks/\kvs.length < sizeLine/\Q (gset G a (.dT hw (cm kvs ks v)))
  | some (.dK kvs)=>∃ k,zW i=some k/\kvs.length < sizeLine/\Q (gset G a (.dK (cm kvs k v)))
  | some (.lst ds)=>match i with
   | .int j=>∃ m,AI ds.length j=some m/\Q (gset G a (.lst (ds.set m v)))
   | _=>False
  | _=>False
 | _=>False
def zP(K:Frag)(r:D->D->D->Gp->(Gp->Prop)->Prop):An:=fun o i v H Q=>∃ x y z G Q3,RD K H x o/\RD K H y i/\RD K H z v/\RG K H G/\r x y z G Q3/\∀ G' H',Q3 G'->Kp G H G' H'->RG K H' G'->Q H'
def eY(hw:List aN->Int)(to ti te:bJ):dg:=fun E σ G=>te σ G fun v G1=>to σ G1 fun o G2=>ti σ G2 fun i G3=>lb hw (val o) (val i) (val v) G3 fun G4=>E.nx σ G4
section
variable{X:Cx}
theorem AU(hu:X.A.units+8 < cLine):Ch X (zP X.K (lb (ah X.prog X.w))):=by
 rintro pins s σ H o i v ov iv u Q I ro ri rv ⟨x,y,z,G,Q3,rx,ry,rz,rg,h,k⟩
 unfold lb at h;split at h
 ·rename_i a;simp only[RD]at rx;subst rx;cases ro;split at h
  ·rename_i hw' kvs hg;obtain⟨rfl,ks,hk,hl,h⟩:=h;obtain⟨b,rfl,sq⟩:=mm hk ry;cases ri;obtain⟨ho,e,r⟩:=rg a _ hg;cases ho with
   | ext φ=>
    obtain⟨xs,rfl,rt,nd,_⟩:=r;obtain⟨hd,dd⟩:=rE I e rt nd;have hz:xs.length<=sizeLine:=by rw[<- rt.length];omega
    refine wpAny_setItem_heap (hsz:=hz) (tupleKind_room_in1 (show X.A.units+1 < cLine by walk_at "o")) (key_at I sq) dd fun h' dd' hs=>?_
    obtain⟨q,es,ep,hq,h2,h3,h4,_,h5⟩:=dd';obtain⟨kp,rg2⟩:=rh (a:=a) (o:=.dT (ah X.prog X.w) (cm kvs ks z)) (ho:=.ext (rY (ah X.prog X.w) a (storedH xs ks b u))) rg (by rw[hg];exact fun z=>nomatch z)
     fun H' st=>⟨_,rfl,(rt.put ks sq rz rv).mono st,jk ks z nd,by have:=fB kvs ks z;omega⟩
    exact⟨_,ms I (by rw[e];exact True.intro) hs ⟨q,hq⟩ (kS ⟨hd,q,es,ep,hq,h2,h3,h4⟩),k _ _ h kp rg2⟩
   | _=>exact r.elim
  ·rename_i kvs hg;obtain⟨kk,hk,hl,h⟩:=h;have ei:=uN hk ry;subst ei;obtain⟨ho,e,r⟩:=rg a _ hg;cases ho with
   | dK xs=>
    have r':tV X.K H kvs xs:=r;obtain⟨kp,rg2⟩:=rh (a:=a) (o:=.dK (cm kvs kk z)) (ho:=.dK (jj xs kk v)) rg (by rw[hg];exact fun z=>nomatch z) fun H' st=>(r'.put kk rz).mono st
    exact wI (by walk_at "o") I (wT.k e (by rw[<- r'.length];exact hl)) ri rv fun s' I'=>⟨_,I',k _ _ h kp rg2⟩
   | _=>exact r.elim
  ·rename_i ds hg;split at h
   ·rename_i j;obtain⟨m,hm,h⟩:=h;simp only[RD]at ry;subst ry;obtain⟨ho,e,r⟩:=rg a _ hg;cases ho with
    | lst xs=>
     have r':RDs X.K H ds xs:=r;obtain⟨kp,rg2⟩:=rh (a:=a) (o:=.lst (ds.set m z)) (ho:=.lst (xs.set m v)) rg (by rw[hg];exact fun z=>nomatch z) fun H' st=>RDs.mono st _ _ (r'.set m rz)
     exact xo pins s σ H (.ref a) _ _ _ _ _ _ I rfl ri rv ⟨a,xs,j,m,rfl,rfl,e,by rw[<- r'.length];exact hm,k _ _ h kp rg2⟩
    | _=>exact r.elim
   ·exact h.elim
  ·exact h.elim
 ·exact h.elim
theorem ia{o i e:Expr}{to ti te:bJ}{pos pos':Pos}(hu:X.A.units+8 < cLine)(ho:PE X o (aJ X.K to))(hi:PE X i (aJ X.K ti))(he:PE X e (aJ X.K te))
  (hs:swapsWithSole [.Subscript o i pos'] e pos.line X.env=pure false:=by rfl) (hw:swappedStores [.Subscript o i pos'] e X.env=pure none:=by rfl) (h1:(assignEach [.Subscript o i pos'] X.env).map (·.2)=[assign (.Subscript o i pos') X.env]:=by rfl)
  (ha:∀ v,assign (.Subscript o i pos') X.env v=(do
   let ov <- holding [v] (eval o X.env)
   let iv <- holding [v,ov] (eval i X.env)
   standAt pos'
   holding [v,ov,iv] (setItem ov iv v)
   release [v,ov,iv] []):=by intro _;rfl):PS X (.Assign [.Subscript o i pos'] e pos) (cF X.K (eY (ah X.prog X.w) to ti te)):=
 (Bk (fI he) (Bm (fI ho) (fI hi) (AU hu) ha) hs hw h1).imp fun E τ H zz=>by
 obtain⟨σ,G,E3,rs,rg,h,k⟩:=zz;exact (
  ⟨σ,G,_,rs,rg,h,fun v G1 u H1 q1 k1 rg1 rd1=>
    ⟨σ,G1,_,rs.mono (k1.stb rg),rg1,q1,fun o G2 u2 H2 q2 k2 rg2 rd2=>⟨σ,G2,_,rs.mono ((k1.trans k2).stb rg),rg2,q2,fun i G3 u3 H3 q3 k3 rg3 rd3=>
     ⟨val o,val i,val v,G3,_,RD.mono (k3.stb rg2) _ _ rd2,rd3,RD.mono ((k2.trans k3).stb rg1) _ _ rd1,rg3,q3,fun G4 H4 q4 k4 rg4=>k.nx σ G4 τ H4 q4 (k1.trans (k2.trans (k3.trans k4))) rg4 (rs.mono ((k1.trans (k2.trans (k3.trans k4))).stb rg))⟩⟩⟩⟩)
end
def cj(hw:List aN->Int)(G:Gp)(o i:D)(r:Option D):Prop:=match o with
 | .ref a=>match G a with
  | some (.dT hw' kvs)=>hw'=hw/\∃ ks,j1 i=some ks/\r=dN kvs ks
  | some (.dK kvs)=>∃ k,zW i=some k/\r=dN kvs k
  | _=>False
 | _=>False
def ir(G:Gp)(o:D):Prop:=match o with
 | .ref a=>match G a with
  | some (.dT _ _)=>True
  | some (.dK _)=>True
  | _=>False
 | _=>False
section
variable{X:Cx}{pins:List (Addr×Obj)}{σ:St}{H:Hp}{s:Shared}{G:Gp}{A:Around}{E:Value->Shared->Prop}{x y d z:D}{o i zv:V}{ov iv zu:Value}{r:Option D}
theorem cj.split(h:cj (ah X.prog X.w) G x y r)(I:Inv X pins σ H s)(rg:RG X.K H G)(rx:RD X.K H x o)(ro:aD o ov)(ry:RD X.K H y i)(ri:aD i iv):
  ∃ a,ov=.ref a/\((∃ hs k,H a=some (.dK hs)/\i=kV k/\((r=none/\iS hs k=none)\/∃ d v,r=some d/\iS hs k=some v/\RD X.K H d v))\/
   ∃ xs ks b,(a == sysModules)=false/\s.heap.DictOfH (tupleKind (bf X.prog X.w)) a xs/\iv=.ref b/\(tupleKind (bf X.prog X.w)).is s.heap ks b/\
    ((r=none/\atKey xs ks=none)\/∃ d b' u v,r=some d/\atKey xs ks=some (b',u)/\RD X.K H d v/\aD v u)):=by
 unfold cj at h;split at h
 ·rename_i a;simp only[RD]at rx;subst rx;cases ro;refine⟨a,rfl,?_⟩;split at h
  ·rename_i hw' kvs hg;obtain⟨rfl,ks,hk,rfl⟩:=h;obtain⟨b,rfl,sq⟩:=mm hk ry;cases ri;obtain⟨ho,e,q⟩:=rg a _ hg;cases ho with
   | ext φ=>
    obtain⟨xs,rfl,rt,nd,_⟩:=q;obtain⟨hd,dd⟩:=rE I e rt nd;exact .inr ⟨xs,ks,b,hd,dd,rfl,key_at I sq,rt.val ks⟩
   | _=>exact q.elim
  ·rename_i kvs hg;obtain⟨k,hk,rfl⟩:=h;obtain⟨ho,e,q⟩:=rg a _ hg;cases ho with
   | dK hs=>
    have q':tV X.K H kvs hs:=q;exact .inl ⟨hs,k,e,uN hk ry,q'.val k⟩
   | _=>exact q.elim
  ·exact h.elim
 ·exact h.elim
theorem ir.at(h:ir G x)(I:Inv X pins σ H s)(rg:RG X.K H G)(rx:RD X.K H x o)(ro:aD o ov):
  s.TypeIs ov "dict"/\(∀ b,ov=.ref b->∃ ob,s.heap.get? b=some ob/\ob.dict=none):=by
 unfold ir at h;split at h
 ·rename_i a;simp only[RD]at rx;subst rx;cases ro;split at h
  ·rename_i hw' kvs hg;obtain⟨ho,e,q⟩:=rg a _ hg;cases ho with
   | ext φ=>
    obtain⟨xs,rfl,rt,nd,_⟩:=q;obtain⟨hd,ob,es,ep,h1,h2,h3,h4⟩:=(show bK X.prog X.w H s.heap a (.ext (rY hw' a xs))from I.hok a _ e).1
    refine⟨⟨ob,h1,h2.1⟩,fun b hb=>?_⟩;cases hb;exact⟨ob,h1,h2.2.1⟩
   | _=>exact q.elim
  ·rename_i kvs hg;obtain⟨ho,e,q⟩:=rg a _ hg;cases ho with
   | dK hs=>
    obtain⟨t1,t2,_⟩:=BZ I (.inl ⟨hs,.inl e⟩);exact⟨t1,t2⟩
   | _=>exact q.elim
  ·exact h.elim
 ·exact h.elim
theorem cj.dct{hw:List aN->Int}(h:cj hw G x y r):ir G x:=by
 unfold cj at h;unfold ir;split at h
 ·split at h
  ·rename_i e;simp only[e]
  ·rename_i e;simp only[e]
  ·exact h.elim
 ·exact h.elim
theorem Ag{Q:Value->Shared->Prop}(hu:A.units+1 < cLine)(I:Inv X pins σ H s)(rg:RG X.K H G)(h:cj (ah X.prog X.w) G x y (some d))(rx:RD X.K H x o)(ro:aD o ov)(ry:RD X.K H y i)(ri:aD i iv)
  (q:∀ v u s',Inv X pins σ H s'->RD X.K H d v->aD v u->Q u s'):wpAny (model X.prog X.w) A (getItem ov iv) Q E s:=by
 obtain⟨a,rfl,⟨hs,k,e,rfl,r⟩|⟨xs,ks,b,hd,dd,rfl,hk,r⟩⟩:=h.split I rg rx ro ry ri
 ·rcases r with ⟨z,_⟩|⟨d',v,e1,e2,rd⟩
  ·cases z
  ·cases e1;exact wJ hu I (.inl ⟨hs,k,.inl e,rfl,e2.symm⟩) ri fun u s' I' rv=>q v u s' I' rd rv
 ·rcases r with ⟨z,_⟩|⟨d',b',u,v,e1,e2,rd,rv⟩
  ·cases z
  ·cases e1;exact wpAny_getItem_heap (tupleKind_room_in1 hu) hk dd e2 (q v u _ (I.tok _) rd rv)
theorem AM{Q:Value->Shared->Prop}(hu:A.units+1 < cLine)(I:Inv X pins σ H s)(rg:RG X.K H G)(h:cj (ah X.prog X.w) G x y r)(rx:RD X.K H x o)(ro:aD o ov)(ry:RD X.K H y i)(ri:aD i iv)
  (q:∀ s',Inv X pins σ H s'->Q (.bool r.isSome) s'):wpAny (model X.prog X.w) A (compareOp .In iv ov) Q E s:=by
 obtain⟨a,rfl,⟨hs,k,e,rfl,l⟩|⟨xs,ks,b,hd,dd,rfl,hk,l⟩⟩:=h.split I rg rx ro ry ri
 ·refine EA hu I (nR.k e) ri fun s' I'=>?_;rcases l with ⟨rfl,e2⟩|⟨d,v,rfl,e2,_⟩<;>rw[e2]<;>exact q s' I'
 ·refine wpAny_in_heap (tupleKind_room_in1 hu) hk hd dd ?_;rcases l with ⟨rfl,e2⟩|⟨d,b',u,v,rfl,e2,_⟩<;>rw[e2]<;>exact q _ (I.tok _)
theorem yz{Q:Value->Shared->Prop}(hu:A.units+1 < cLine)(I:Inv X pins σ H s)(rg:RG X.K H G)(h:cj (ah X.prog X.w) G x y r)(rx:RD X.K H x o)(ro:aD o ov)(ry:RD X.K H y i)(ri:aD i iv)
  (q:∀ s',Inv X pins σ H s'->Q (.bool (!r.isSome)) s'):wpAny (model X.prog X.w) A (compareOp .NotIn iv ov) Q E s:=by
 obtain⟨a,rfl,⟨hs,k,e,rfl,l⟩|⟨xs,ks,b,hd,dd,rfl,hk,l⟩⟩:=h.split I rg rx ro ry ri
 ·refine Af hu I (nR.k e) ri fun s' I'=>?_;rcases l with ⟨rfl,e2⟩|⟨d,v,rfl,e2,_⟩<;>rw[e2]<;>exact q s' I'
 ·refine wpAny_notIn_heap (tupleKind_room_in1 hu) hk hd dd ?_;rcases l with ⟨rfl,e2⟩|⟨d,b',u,v,rfl,e2,_⟩<;>rw[e2]<;>exact q _ (I.tok _)
theorem Ah{Q:Value->Shared->Prop}(hu:A.units+1 < cLine)(I:Inv X pins σ H s)(rg:RG X.K H G)(h:cj (ah X.prog X.w) G x y r)(rx:RD X.K H x o)(ro:aD o ov)(ry:RD X.K H y i)(ri:aD i iv)(rz:RD X.K H z zv)(rzu:aD zv zu)
  (q:∀ v u s',Inv X pins σ H s'->RD X.K H (r.getD z) v->aD v u->Q u s'):wpAny (model X.prog X.w) A (call (.builtin "dict.get") [ov,iv,zu]) Q E s:=by
 obtain⟨a,rfl,⟨hs,k,e,rfl,l⟩|⟨xs,ks,b,hd,dd,rfl,hk,l⟩⟩:=h.split I rg rx ro ry ri
 ·refine B7 hu I (nR.k e) ri rzu fun u s' I' rv=>?_;rcases l with ⟨rfl,e2⟩|⟨d,v,rfl,e2,rd⟩<;>rw[e2]at rv
  ·exact q _ u s' I' rz rv
  ·exact q _ u s' I' rd rv
 ·refine call_meetsIn PySem.F.slot_dict_get dd.typeIs PySem.F.entry_dict_get (PySem.F.args_dict_get_3 _ _ _) (meetsH_dict_get_default (tupleKind (bf X.prog X.w)) a b hd zu) ⟨tupleKind_room_in1 hu,ks,xs,hk,dd,?_⟩;rcases l with ⟨rfl,e2⟩|⟨d,b',u,v,rfl,e2,rd,rv⟩<;>rw[e2]
  ·exact q zv _ _ (I.tok _) rz rzu
  ·exact q v _ _ (I.tok _) rd rv
end
def tJ(hw:List aN->Int)(to ti:bJ):bJ:=fun σ G Q=>to σ G fun x G1=>ti σ G1 fun y G2=>∃ d,cj hw G2 (val x) (val y) (some d)/\Q d G2
def rD(hw:List aN->Int)(ti to:bJ):bJ:=fun σ G Q=>ti σ G fun y G1=>to σ G1 fun x G2=>∃ r,cj hw G2 (val x) (val y) r/\Q (.bl r.isSome) G2
def j4(hw:List aN->Int)(ti to:bJ):bJ:=fun σ G Q=>ti σ G fun y G1=>to σ G1 fun x G2=>∃ r,cj hw G2 (val x) (val y) r/\Q (.bl (!r.isSome)) G2
def kR(hw:List aN->Int)(to ti tz:bJ):bJ:=fun σ G Q=>to σ G fun x G1=>ir G1 (val x)/\ti σ G1 fun y G2=>tz σ G2 fun z G3=>∃ r,cj hw G3 (val x) (val y) r/\Q (r.getD (val z)) G3
section
variable{X:Cx}{o i e f:Expr}{to ti tz:bJ}{pos apos cpos:Pos}
theorem cR{t:bJ}{e:Expr}(h:PE X e (aJ X.K t)){pins:List (Addr×Obj)}{s:Shared}{τ:St}{H:Hp}{σ:fH}{G:Gp}{Q3:oW}(I:Inv X pins τ H s)(rs:RS X.K H σ τ)(rg:RG X.K H G)(ht:t σ G Q3):
  wpAny (model X.prog X.w) X.A (eval e X.env) (EP X pins τ fun v H1=>∃ d G1,Q3 d G1/\Kp G H G1 H1/\RG X.K H1 G1/\RD X.K H1 (val d) v) X.xe s:=
 fI h pins s τ H _ I ⟨σ,G,Q3,rs,rg,ht,fun d G' v H' q k rg' rd=>⟨d,G',q,k,rg',rd⟩⟩
theorem pA(hu:X.A.units+8 < cLine)(ho:PE X o (aJ X.K to))(hi:PE X i (aJ X.K ti))(hs:DO i:=by exact fun _ _=>rfl):PE X (.Subscript o i pos) (aJ X.K (tJ (ah X.prog X.w) to ti)):=by
 rintro pins s τ H Q I ⟨σ,G,Q3,rs,rg,h,k⟩
 refine yY PySem.F.slot_dict_getitem.lookup hs (bZ (cR ho I rs rg h) fun ov s1 zz=>?_);obtain⟨ox,H1,I1,rox,x,G1,q1,k1,rg1,rd1⟩:=zz;refine bZ (cR hi I1 (rs.mono (k1.stb rg)) rg1 q1) fun iv s2 zz=>?_;obtain⟨iy,H2,I2,riy,y,G2,q2,k2,rg2,rd2⟩:=zz;obtain⟨d,l,q2⟩:=q2;have rx:=RD.mono (k2.stb rg1) _ _ rd1;exact⟨(l.dct.at I2 rg2 rx rox).1,Ag (by walk_at "o") I2 rg2 l rx rox rd2 riy fun v u s3 I3 rd rv=>⟨v,H2,I3,rv,k _ G2 _ H2 q2 (k1.trans k2) rg2 (.of rd)⟩⟩
theorem C3(hu:X.A.units+8 < cLine)(hi:PE X i (aJ X.K ti))(ho:PE X o (aJ X.K to))(hm:behindInMarks .In o=false:=by rfl):PE X (.Compare i [.In] [o] pos) (aJ X.K (rD (ah X.prog X.w) ti to)):=by
 refine Bt (op:=.In) (fun pins s τ H Q I zz=>?_) hm;obtain⟨σ,G,Q3,rs,rg,h,k⟩:=zz;refine bZ (cR hi I rs rg h) fun iv s1 zz=>?_;obtain⟨iy,H1,I1,riy,y,G1,q1,k1,rg1,rd1⟩:=zz;refine bZ (cR ho I1 (rs.mono (k1.stb rg)) rg1 q1) fun ov s2 zz=>?_;obtain⟨ox,H2,I2,rox,x,G2,q2,k2,rg2,rd2⟩:=zz;obtain⟨r,l,q2⟩:=q2;exact AM (by walk_at "o") I2 rg2 l rd2 rox (RD.mono (k2.stb rg1) _ _ rd1) riy fun s3 I3=>⟨.bl r.isSome,H2,I3,rfl,k _ G2 _ H2 q2 (k1.trans k2) rg2 (.of gf)⟩
theorem qz(hu:X.A.units+8 < cLine)(ho:PE X o (aJ X.K to))(he:PE X e (aJ X.K ti))(hf:PE X f (aJ X.K tz))(m:M2 X o "get" apos e f cpos:=by exact⟨rfl,rfl,rfl,rfl⟩):PE X (.Call (.Attribute o "get" apos) [e,f] [] cpos) (aJ X.K (kR (ah X.prog X.w) to ti tz)):=by
 rintro pins s τ H Q I ⟨σ,G,Q3,rs,rg,h,k⟩
 refine wpAny_Call_method m.base m.few m.line PySem.F.plainAttrs_dict PySem.F.slot_dict_get PySem.F.type_dict_get (bZ (cR ho I rs rg h) fun ov s1 zz=>?_);obtain⟨ox,H1,I1,rox,x,G1,q1,k1,rg1,rd1⟩:=zz;obtain⟨t1,t2⟩:=q1.1.at I1 rg1 rd1 rox;refine⟨t1,t2,?_⟩;rw[m.trees];refine Calls.callWith_builtin rfl (Calls.evalArgs_plain (Calls.spliced_cons (bZ (cR he I1 (rs.mono (k1.stb rg)) rg1 q1.2) fun iv s2 ⟨iy,H2,I2,riy,y,G2,q2,k2,rg2,rd2⟩=>Calls.spliced_cons (bZ (cR hf I2 (rs.mono ((k1.trans k2).stb rg)) rg2 q2) fun fv s3 zz=>?_))));obtain⟨fz,H3,I3,rfz,z,G3,q3,k3,rg3,rd3⟩:=zz;refine Calls.spliced_nil ?_;obtain⟨r,l,q3⟩:=q3;exact Ah (by walk_at "o") I3 rg3 l (RD.mono ((k2.trans k3).stb rg1) _ _ rd1) rox (RD.mono (k3.stb rg2) _ _ rd2) riy rd3 rfz fun v u s4 I4 rd rv=>⟨v,H3,I4,rv,k _ G3 _ H3 q3 (k1.trans (k2.trans k3)) rg3 (.of rd)⟩
end
end L3
namespace PySem.W
open PySem PyProof.Rows
def KasT.run{α:Type}(lt:Nat->Nat->Bool):KasT α->α
 | .ret a=>a
 | .ask i j k=>(k (lt i j)).run lt
theorem KasT.run_bind{α β:Type}(lt:Nat->Nat->Bool)(f:α->KasT β):∀ t:KasT α,(t.bind f).run lt=(f (t.run lt)).run lt
 | .ret _=>rfl
 | .ask i j k=>by
  show ((k (lt i j)).bind f).run lt=_
  rw[KasT.run_bind lt f (k (lt i j))];rfl
section
variable(r:Nat->Nat)
def iY(i j:Nat):Bool:=decide (r i < r j)
def RR(p:Array Nat)(i:Nat):Nat:=r (p.getD i 0)
def i8(p:Array Nat)(n:Nat):Prop:=∀ i,i+1 < n->RR r p i<=RR r p (i+1)
def nQ(p:Array Nat)(n:Nat):Prop:=∀ i,i+1 < n->RR r p (i+1)<=RR r p i
end
section
variable{r:Nat->Nat}{p:Array Nat}
theorem i8.le{n:Nat}(h:i8 r p n){i j:Nat}(hij:i<=j)(hj:j < n):RR r p i<=RR r p j:=by
 induction j with
 | zero=>
      have:i=0:=by walk_at "o"
      subst this;exact le_refl _
 | succ j ih=>
  rcases lt_or_ge i (j+1)with h1|h1
  ·exact le_trans (ih (by walk_at "o") (by walk_at "o")) (h j hj)
  ·have:i=j+1:=by walk_at "o"
   subst this;exact le_refl _
theorem nQ.le{n:Nat}(h:nQ r p n){i j:Nat}(hij:i<=j)(hj:j < n):RR r p j<=RR r p i:=by
 induction j with
 | zero=>
      have:i=0:=by walk_at "o"
      subst this;exact le_refl _
 | succ j ih=>
  rcases lt_or_ge i (j+1)with h1|h1
  ·exact le_trans (h j hj) (ih (by walk_at "o") (by walk_at "o"))
  ·have:i=j+1:=by walk_at "o"
   subst this;exact le_refl _
theorem tU{p q:Array Nat}{i j:Nat}(h:p[i]?=q[j]?):RR r p i=RR r q j:=by
 unfold RR;rw[Array.getD_eq_getD_getElem?,Array.getD_eq_getD_getElem?,h]
theorem rW{i j:Nat}(hj:j<=p.size)(k:Nat):RR r (kas_rev p i j) k=if i<=k/\k < j then RR r p (i+j - 1 - k)else RR r p k:=by
 have e:=getElem?_mirror_all (xs:=p) (i:=i) hj k;unfold kas_rev;split
 ·rename_i h;rw[if_pos h]at e;exact tU e
 ·rename_i h;rw[if_neg h]at e;exact tU e
theorem f_(i j:Nat):(kas_rev p i j).size=p.size:=mirror_size _ _ _ _
theorem kX{i j:Nat}(hj:j<=p.size)(he:∀ k,i<=k->k < j->RR r p k=RR r p (j - 1))(k:Nat):RR r (kas_rev p i j) k=RR r p k:=by
 rw[rW hj];split
 ·rename_i h;rw[he _ (by walk_at "o") (by walk_at "o"),he k h.1 h.2]
 ·rfl
theorem nK{i j:Nat}:iY r i j=true↔r i < r j:=by unfold iY;exact decide_eq_true_iff
theorem gZ{i j:Nat}:iY r i j=false↔r j<=r i:=by unfold iY;rw[decide_eq_false_iff_not];omega
theorem u0:∀ (f n:Nat),1<=n->∃ m,(kas_asc p f n).run (iY r)=m/\n<=m/\m<=n+f/\(∀ i,n<=i->i < m->RR r p (i - 1)<=RR r p i)/\(m < n+f->RR r p m < RR r p (m - 1))
 | 0,n,_=>⟨n,rfl,le_refl _,le_refl _,fun i h1 h2=>absurd h1 (by walk_at "o"),fun h=>absurd h (by walk_at "o")⟩
 | f+1,n,hn=>by
  show ∃ m,((fun c=>if c=true then KasT.ret n else kas_asc p f (n+1)) (iY r (p.getD n 0) (p.getD (n - 1) 0))).run (iY r)=m/\_
  cases e:iY r (p.getD n 0) (p.getD (n - 1) 0) with
  | true=>exact⟨n,rfl,le_refl _,by walk_at "o",fun i h1 h2=>absurd h1 (by walk_at "o"),fun _=>nK.mp e⟩
  | false=>
   obtain⟨m,e1,h1,h2,h3,h4⟩:=u0 f (n+1) (by walk_at "o")
   refine⟨m,e1,by walk_at "o",by walk_at "o",fun i h5 h6=>?_,fun h=>h4 (by walk_at "o")⟩
   rcases lt_or_ge n i with h7|h7
   ·exact h3 i h7 h6
   ·have:i=n:=by walk_at "o"
    subst this;exact gZ.mp e
structure DSt(r:Nat->Nat)(p:Array Nat)(n q:Nat):Prop where
 hq:q+1<=n
 hn:n<=p.size
 dec:nQ r p n
 eq:∀ k,n - (q+1)<=k->k < n->RR r p k=RR r p (n - 1)
theorem xR{n:Nat}:∀ k,n+1 - (0+1)<=k->k < n+1->RR r p k=RR r p (n+1 - 1):=fun k h1 h2=>by
 have:k=n+1 - 1:=by walk_at "o"
 subst this;rfl
theorem rG:∀ (f:Nat) (p:Array Nat) (n q:Nat),DSt r p n q->n+f<=p.size->∃ p' n' q',(kas_desc f p n q).run (iY r)=(p',n',q')/\DSt r p' n' q'/\n<=n'/\n'<=n+f/\p'.size=p.size/\p'.Perm p
 | 0,p,n,q,h,_=>⟨p,n,q,rfl,h,le_refl _,le_refl _,rfl,Array.Perm.refl _⟩
 | f+1,p,n,q,h,hf=>by
  have hq:=h.hq;show ∃ p' n' q',((fun c=>if c=true then (if q > 0 then kas_desc f (kas_rev p (n - (q+1)) n) (n+1) 0 else kas_desc f p (n+1) 0)
   else .ask (p.getD (n - 1) 0) (p.getD n 0) fun d=>if d=true then .ret (p,n,q)else kas_desc f p (n+1) (q+1)) (iY r (p.getD n 0) (p.getD (n - 1) 0))).run (iY r)=(p',n',q')/\_
  cases e:iY r (p.getD n 0) (p.getD (n - 1) 0) with
  | true=>
   have lt:RR r p n < RR r p (n - 1):=nK.mp e;have next:∀ p1:Array Nat,p1.size=p.size->p1.Perm p->(∀ k,RR r p1 k=RR r p k)->∃ p' n' q',(kas_desc f p1 (n+1) 0).run (iY r)=(p',n',q')/\DSt r p' n' q'/\n<=n'/\n'<=n+(f+1)/\p'.size=p.size/\p'.Perm p:=fun p1 hz hp hR=>by
    have hn:=h.hn;have dc:nQ r p1 (n+1):=fun i hi=>by
     rw[hR,hR];rcases lt_or_ge (i+1) n with h7|h7
     ·exact h.dec i h7
     ·have e2:n=i+1:=by walk_at "o"
      have e3:i=n - 1:=by walk_at "o"
      rw[<- e2,e3];exact le_of_lt lt
    obtain⟨p',n',q',e1,h1,h2,h3,h4,h5⟩:=rG f p1 (n+1) 0 ⟨by walk_at "o",by walk_at "o",dc,xR⟩ (by walk_at "o")
    exact⟨p',n',q',e1,h1,by walk_at "o",by walk_at "o",by walk_at "o",h5.trans hp⟩
   show ∃ p' n' q',(if q > 0 then kas_desc f (kas_rev p (n - (q+1)) n) (n+1) 0 else kas_desc f p (n+1) 0).run (iY r)=(p',n',q')/\_
   by_cases hq0:q > 0
   ·rw[if_pos hq0];exact next _ (f_ _ _) (mirror_perm _ _ _ _) (kX (by walk_at "o") h.eq)
   ·rw[if_neg hq0];exact next p rfl (Array.Perm.refl _) fun _=>rfl
  | false=>
   have ge:RR r p (n - 1)<=RR r p n:=gZ.mp e;show ∃ p' n' q',((fun d=>if d=true then KasT.ret (p,n,q)else kas_desc f p (n+1) (q+1)) (iY r (p.getD (n - 1) 0) (p.getD n 0))).run (iY r)=(p',n',q')/\_
   cases e2:iY r (p.getD (n - 1) 0) (p.getD n 0) with
   | true=>exact⟨p,n,q,rfl,h,le_refl _,by walk_at "o",rfl,Array.Perm.refl _⟩
   | false=>
    have le:RR r p n<=RR r p (n - 1):=gZ.mp e2;have dc:nQ r p (n+1):=fun i hi=>by
     rcases lt_or_ge (i+1) n with h7|h7
     ·exact h.dec i h7
     ·have e2:n=i+1:=by walk_at "o"
      have e3:i=n - 1:=by walk_at "o"
      rw[<- e2,e3];exact le
    have eqq:∀ k,n+1 - (q+1+1)<=k->k < n+1->RR r p k=RR r p (n+1 - 1):=fun k h1 h2=>by
     show RR r p k=RR r p n
     rcases lt_or_ge k n with h7|h7
     ·rw[h.eq k (by walk_at "o") h7];omega
     ·have:k=n:=by walk_at "o"
      subst this;rfl
    obtain⟨p',n',q',e1,h1,h2,h3,h4,h5⟩:=rG f p (n+1) (q+1) ⟨by walk_at "o",by walk_at "o",dc,eqq⟩ (by walk_at "o")
    exact⟨p',n',q',e1,h1,by walk_at "o",by walk_at "o",h4,h5⟩
theorem se{n nrem:Nat}(h1:1<=n)(hn:n<=nrem)(hz:nrem<=p.size)(hd:nQ r p n):∃ m p',(kas_tail3 n nrem p).run (iY r)=(m,p')/\1<=m/\m<=nrem/\p'.size=p.size/\p'.Perm p/\i8 r p' m:=by
 unfold kas_tail3;rw[KasT.run_bind];obtain⟨m,e,a1,a2,a3,_⟩:=u0 (r:=r) (p:=kas_rev p 0 n) (nrem - n) n h1;rw[e];refine⟨m,_,rfl,by walk_at "o",by walk_at "o",f_ _ _,mirror_perm _ _ _ _,fun i hi=>?_⟩
 rcases lt_or_ge (i+1) n with h7|h7
 ·rw[rW (by walk_at "o"),rW (by walk_at "o"),if_pos (by walk_at "o"),if_pos (by walk_at "o")]
  exact hd.le (by walk_at "o") (by walk_at "o")
 ·exact a3 (i+1) h7 hi
theorem lF{n nrem:Nat}(h1:1<=n)(hn:n+1<=nrem)(hz:nrem<=p.size)(hd:nQ r p (n+1)):∃ m p',(kas_descPart n nrem p).run (iY r)=(m,p')/\1<=m/\m<=nrem/\p'.size=p.size/\p'.Perm p/\i8 r p' m:=by
 unfold kas_descPart;rw[KasT.run_bind];obtain⟨p1,n1,q1,e,d,a1,a2,a3,a4⟩:=rG (r:=r) (nrem - (n+1)) p (n+1) 0 ⟨by walk_at "o",by walk_at "o",hd,xR⟩ (by walk_at "o")
 rw[e];have hq:=d.hq
 by_cases hq0:q1 > 0
 ·show ∃ m p',(if q1 > 0 then kas_tail3 n1 nrem (kas_rev p1 (n1 - (q1+1)) n1)else kas_tail3 n1 nrem p1).run (iY r)=(m,p')/\_
  rw[if_pos hq0];have hR:=kX (r:=r) (p:=p1) (i:=n1 - (q1+1)) (j:=n1) d.hn d.eq;obtain⟨m,p',b1,b2,b3,b4,b5,b6⟩:=se (r:=r) (p:=kas_rev p1 (n1 - (q1+1)) n1) (n:=n1) (nrem:=nrem) (by walk_at "o") (by walk_at "o") (by rw[f_];omega) (fun i hi=>by rw[hR,hR];exact d.dec i hi)
  exact⟨m,p',b1,b2,b3,by rw[b4,f_,a3],(b5.trans (mirror_perm _ _ _ _)).trans a4,b6⟩
 ·show ∃ m p',(if q1 > 0 then kas_tail3 n1 nrem (kas_rev p1 (n1 - (q1+1)) n1)else kas_tail3 n1 nrem p1).run (iY r)=(m,p')/\_
  rw[if_neg hq0];obtain⟨m,p',b1,b2,b3,b4,b5,b6⟩:=se (r:=r) (p:=p1) (n:=n1) (nrem:=nrem) (by walk_at "o") (by walk_at "o") (by walk_at "o") d.dec
  exact⟨m,p',b1,b2,b3,by rw[b4,a3],b5.trans a4,b6⟩
theorem yB{nrem:Nat}(h1:1<=nrem)(hz:nrem<=p.size):∃ m p',(kas_count nrem p).run (iY r)=(m,p')/\1<=m/\m<=nrem/\p'.size=p.size/\p'.Perm p/\i8 r p' m:=by
 unfold kas_count;rw[KasT.run_bind];obtain⟨n,e,a1,a2,a3,a4⟩:=u0 (r:=r) (p:=p) (nrem - 1) 1 (le_refl _);rw[e];have adj:i8 r p n:=fun i hi=>a3 (i+1) (by walk_at "o") hi
 by_cases h2:n=nrem
 ·rw[if_pos (by simpa using h2)]
  exact⟨n,p,rfl,by walk_at "o",by walk_at "o",rfl,Array.Perm.refl _,adj⟩
 ·rw[if_neg (by simpa using h2)]
  have dn:RR r p n < RR r p (n - 1):=a4 (by walk_at "o")
  by_cases h3:n > 1
  ·rw[if_pos h3];show ∃ m p',((fun c=>if c=true then KasT.ret (n,p)else kas_descPart n nrem (kas_rev p 0 n)) (iY r (p.getD 0 0) (p.getD (n - 1) 0))).run (iY r)=(m,p')/\_
   cases e2:iY r (p.getD 0 0) (p.getD (n - 1) 0) with
   | true=>exact⟨n,p,rfl,by walk_at "o",by walk_at "o",rfl,Array.Perm.refl _,adj⟩
   | false=>
    have ge:RR r p (n - 1)<=RR r p 0:=gZ.mp e2;have eq:∀ k,0<=k->k < n->RR r p k=RR r p (n - 1):=fun k _ hk=>by
     have:=adj.le (zero_le k) hk;have:=adj.le (show k<=n - 1 by walk_at "o") (by walk_at "o")
     omega
    have hR:=kX (r:=r) (p:=p) (i:=0) (j:=n) (by walk_at "o") eq
    obtain⟨m,p',b1,b2,b3,b4,b5,b6⟩:=lF (r:=r) (p:=kas_rev p 0 n) (n:=n) (nrem:=nrem) (by walk_at "o") (by walk_at "o") (by rw[f_];omega) (fun i hi=>by
     rw[hR,hR];rcases lt_or_ge (i+1) n with h7|h7
     ·rw[eq i (by walk_at "o") (by walk_at "o"),eq (i+1) (by walk_at "o") h7];exact le_refl _
     ·have e3:n=i+1:=by walk_at "o"
      have e4:i=n - 1:=by walk_at "o"
      rw[<- e3,e4];exact le_of_lt dn)
    exact⟨m,p',b1,b2,b3,by rw[b4,f_],b5.trans (mirror_perm _ _ _ _),b6⟩
  ·rw[if_neg h3];have e1:n=1:=by walk_at "o"
   subst e1;exact lF (by walk_at "o") (by walk_at "o") hz (fun i hi=>by
    have:i=0:=by walk_at "o"
    subst this;exact le_of_lt dn)
theorem mN{k:Nat}(hs:i8 r p k):∀ (f l u:Nat),l<=u->u<=k->u - l<=f->(∀ i,i < l->RR r p i<=RR r p k)->(∀ i,u<=i->i < k->RR r p k < RR r p i)->
  ∃ m,(kas_place p k f l u).run (iY r)=m/\m<=k/\(∀ i,i < m->RR r p i<=RR r p k)/\(∀ i,m<=i->i < k->RR r p k < RR r p i)
 | 0,l,u,h1,h2,h3,h4,h5=>⟨l,rfl,by walk_at "o",h4,fun i a b=>h5 i (by walk_at "o") b⟩
 | f+1,l,u,h1,h2,h3,h4,h5=>by
  unfold kas_place
  by_cases hlu:l>=u
  ·rw[if_pos hlu];exact⟨l,rfl,by walk_at "o",h4,fun i a b=>h5 i (by walk_at "o") b⟩
  ·rw[if_neg hlu];show ∃ m,((fun c=>if c=true then kas_place p k f l ((l+u) / 2)else kas_place p k f ((l+u) / 2+1) u) (iY r (p.getD k 0) (p.getD ((l+u) / 2) 0))).run (iY r)=m/\_
   cases e:iY r (p.getD k 0) (p.getD ((l+u) / 2) 0) with
   | true=>
    have lt:RR r p k < RR r p ((l+u) / 2):=nK.mp e;exact mN hs f l ((l+u) / 2) (by walk_at "o") (by walk_at "o") (by walk_at "o") h4 fun i a b=>lt_of_lt_of_le lt (hs.le a b)
   | false=>
    have ge:RR r p ((l+u) / 2)<=RR r p k:=gZ.mp e;exact mN hs f ((l+u) / 2+1) u (by walk_at "o") h2 (by walk_at "o") (fun i a=>le_trans (hs.le (show i<=(l+u) / 2 by walk_at "o") (by walk_at "o")) ge) h5
theorem kY{src d:Nat}(hs:src < p.size)(hd:d<=src)(k:Nat):RR r (bubble p src d) k=if k=src - d then RR r p src else if src - d < k/\k<=src then RR r p (k - 1)else RR r p k:=by
 have e:=getElem?_bubble hs d hd k;split
 ·rename_i h;rw[if_pos h]at e;exact tU e
 ·rename_i h;rw[if_neg h]at e;split
  ·rename_i h2;rw[if_pos h2]at e;exact tU e
  ·rename_i h2;rw[if_neg h2]at e;exact tU e
theorem yG:∀ (f:Nat) (p:Array Nat) (k:Nat),k+f=p.size->i8 r p k->∃ p',(kas_bin f p k).run (iY r)=p'/\p'.size=p.size/\p'.Perm p/\i8 r p' p.size
 | 0,p,k,h,a=>⟨p,rfl,rfl,Array.Perm.refl _,by rw[<- h];exact a⟩
 | f+1,p,k,h,a=>by
  unfold kas_bin;rw[KasT.run_bind];obtain⟨l,e,b1,b2,b3⟩:=mN (r:=r) a k 0 k (by walk_at "o") (le_refl _) (by walk_at "o") (fun i z=>absurd z (by walk_at "o")) (fun i x y=>absurd x (by walk_at "o"))
  rw[e];have hk:k < p.size:=by walk_at "o"
  obtain⟨p',c1,c2,c3,c4⟩:=yG f (bubble p k (k - l)) (k+1) (by rw[bubble_size];omega) (fun i hi=>by
   have e1:=kY (r:=r) hk (show k - l<=k by walk_at "o") i
   have e2:=kY (r:=r) hk (show k - l<=k by walk_at "o") (i+1)
   have ek:k - (k - l)=l:=by walk_at "o"
   rw[ek]at e1 e2;rw[e1,e2];rcases Nat.lt_trichotomy i l with hil|hil|hil
   ·rw[if_neg (by walk_at "o"),if_neg (by walk_at "o")]
    by_cases h2:i+1=l
    ·rw[if_pos h2];exact b2 i hil
    ·rw[if_neg h2,if_neg (by walk_at "o")];exact a i (by walk_at "o")
   ·rw[if_pos hil,if_neg (by walk_at "o"),if_pos (by walk_at "o")]
    have:i+1 - 1=i:=by walk_at "o"
    rw[this];exact le_of_lt (b3 i (by walk_at "o") (by walk_at "o"))
   ·rw[if_neg (by walk_at "o"),if_pos (by walk_at "o"),if_neg (by walk_at "o"),if_pos (by walk_at "o")]
    have:i+1 - 1=(i - 1)+1:=by walk_at "o"
    rw[this];exact a (i - 1) (by walk_at "o"))
  rw[bubble_size]at c2 c4;exact⟨p',c1,c2,c3.trans (bubble_perm _ _ _),c4⟩
theorem yZ(r:Nat->Nat)(n:Nat)(hn:1<=n):∃ p,(kas_sort n).run (iY r)=p/\p.toList.Perm (List.range n)/\i8 r p n:=by
 unfold kas_sort;rw[KasT.run_bind];have hz:(List.toArray (List.range n)).size=n:=by simp
 obtain⟨m,p1,e,a1,a2,a3,a4,a5⟩:=yB (r:=r) (p:=List.toArray (List.range n)) (nrem:=n) hn (by rw[hz];exact le_refl _)
 rw[e];have toL:∀ {p:Array Nat},p.Perm (List.toArray (List.range n))->p.toList.Perm (List.range n):=fun h=>by simpa using Array.perm_iff_toList_perm.mp h
 show ∃ p,(if m < n then kas_bin (n - max m 1) p1 (max m 1)else KasT.ret p1).run (iY r)=p/\_
 by_cases h:m < n
 ·rw[if_pos h];obtain⟨p',b1,b2,b3,b4⟩:=yG (r:=r) (n - max m 1) p1 (max m 1) (by rw[a3,hz];omega) (by rw[show max m 1=m by walk_at "o"];exact a5)
  exact⟨p',b1,toL (b3.trans a4),by rw[a3,hz]at b4;exact b4⟩
 ·rw[if_neg h];have:m=n:=by walk_at "o"
  subst this;exact⟨p1,rfl,toL a4,a5⟩
end
section
variable{κ:Type}(blt:κ->κ->Bool)
structure SWO:Prop where
 irrefl:∀ a,blt a a=false
 trans:∀ a b c,blt a b=true->blt b c=true->blt a c=true
 neg:∀ a b c,blt a c=true->blt a b=true\/blt b c=true
def rankIn(ks:List κ)(a:κ):Nat:=ks.countP fun k=>blt k a
end
section
variable{κ:Type}{blt:κ->κ->Bool}
theorem pN{p q:κ->Bool}(ks:List κ)(h:∀ x,p x=true->q x=true):ks.countP p<=ks.countP q:=by
 induction ks with
 | nil=>exact le_refl _
 | cons x r ih=>
  rw[countP_cons,countP_cons];cases hp:p x with
  | false=>simp;split<;>omega
  | true=>rw[h x hp];simp;omega
theorem wK{p q:κ->Bool}{ks:List κ}(h:∀ x,p x=true->q x=true){y:κ}(hy:y∈ks)(h1:p y=false)(h2:q y=true):ks.countP p < ks.countP q:=by
 induction ks with
 | nil=>simp at hy
 | cons x r ih=>
  rw[countP_cons,countP_cons];rcases mem_cons.mp hy with rfl|hy
  ·have:=pN r h;rw[h1,h2];simp;omega
  ·have:=ih hy;cases hp:p x with
   | false=>simp;split<;>omega
   | true=>rw[h x hp];simp;omega
theorem rank_lt(o:SWO blt){ks:List κ}{a b:κ}(ha:a∈ks):blt a b=decide (rankIn blt ks a < rankIn blt ks b):=by
 cases e:blt a b with
 | true=>
  symm;rw[decide_eq_true_iff];exact wK (fun x hx=>o.trans _ _ _ hx e) ha (o.irrefl a) e
 | false=>
  symm;rw[decide_eq_false_iff_not,Nat.not_lt];refine pN ks fun x hx=>?_;rcases o.neg x a b hx with h|h
  ·exact h
  ·rw[e]at h;cases h
end
def KasT.allR{α:Type}(n:Nat)(P:α->Prop):KasT α->Prop
 | .ret a=>P a
 | .ask i j k=>i < n/\j < n/\∀ b,(k b).allR n P
theorem KasT.allR_mono{α:Type}{n:Nat}{P P':α->Prop}(h:∀ a,P a->P' a):∀ {t:KasT α},t.allR n P->t.allR n P'
 | .ret a,q=>h a q
 | .ask i j k,q=>⟨q.1,q.2.1,fun b=>KasT.allR_mono h (q.2.2 b)⟩
theorem KasT.allR_bind{α β:Type}{n:Nat}{P:α->Prop}{P':β->Prop}{f:α->KasT β}(h:∀ a,P a->(f a).allR n P'):∀ {t:KasT α},t.allR n P->(t.bind f).allR n P'
 | .ret a,q=>h a q
 | .ask i j k,q=>⟨q.1,q.2.1,fun b=>KasT.allR_bind h (q.2.2 b)⟩
theorem KasT.walked{α:Type}{n:Nat}{P:α->Prop}{lt:Nat->Nat->Bool}{J:Shared->Prop}{cmp:Nat->Nat->(Bool->Shared->Prop)->Shared->Prop}{Q:α->Shared->Prop}
  (hc:∀ i j C s,i < n->j < n->J s->(∀ s',J s'->C (lt i j) s')->cmp i j C s):∀ (t:KasT α) (s:Shared),t.allR n P->J s->(∀ s',J s'->P (t.run lt)->Q (t.run lt) s')->t.kasWp cmp Q s
 | .ret a,s,q,j,h=>h s j q
 | .ask i j k,s,q,hj,h=>hc i j _ s q.1 q.2.1 hj fun s' hj'=>KasT.walked hc (k (lt i j)) s' (q.2.2 _) hj' h
structure EntN(n:Nat)(p:Array Nat):Prop where
 size:p.size=n
 ent:∀ i,p.getD i 0 < n
section
variable{N:Nat}{p:Array Nat}
theorem EntN.rev(e:EntN N p){i j:Nat}(hj:j<=N):EntN N (kas_rev p i j):=by
 refine⟨by rw[f_];exact e.size,fun k=>?_⟩
 have h:=rW (r:=id) (p:=p) (i:=i) (j:=j) (by rw[e.size];exact hj) k
 unfold RR at h;simp only[id]at h;rw[h];split<;>exact e.ent _
theorem EntN.bub(e:EntN N p){src d:Nat}(hs:src < N)(hd:d<=src):EntN N (bubble p src d):=by
 refine⟨by rw[bubble_size];exact e.size,fun k=>?_⟩
 have h:=kY (r:=id) (p:=p) (src:=src) (d:=d) (by rw[e.size];exact hs) hd k
 unfold RR at h;simp only[id]at h;rw[h];split
 ·exact e.ent _
 ·split<;>exact e.ent _
theorem u5(e:EntN N p):∀ (f n:Nat),(kas_asc p f n).allR N fun m=>n<=m/\m<=n+f
 | 0,n=>⟨le_refl _,le_refl _⟩
 | f+1,n=>⟨e.ent _,e.ent _,fun b=>by
   cases b with
   | true=>exact⟨le_refl _,by walk_at "o"⟩
   | false=>exact KasT.allR_mono (fun m h=>⟨by walk_at "o",by walk_at "o"⟩) (u5 e f (n+1))⟩
theorem mr:∀ (f:Nat) (p:Array Nat) (n q:Nat),EntN N p->n+f<=N->(kas_desc f p n q).allR N fun r=>EntN N r.1/\n<=r.2.1/\r.2.1<=n+f
 | 0,p,n,q,e,_=>⟨e,le_refl _,le_refl _⟩
 | f+1,p,n,q,e,h=>⟨e.ent _,e.ent _,fun b=>by
   have mono:∀ {t:KasT (Array Nat×Nat×Nat)},(t.allR N fun r=>EntN N r.1/\n+1<=r.2.1/\r.2.1<=n+1+f)->t.allR N fun r=>EntN N r.1/\n<=r.2.1/\r.2.1<=n+(f+1):=fun h=>KasT.allR_mono (fun r z=>⟨z.1,by walk_at "o",by walk_at "o"⟩) h
   cases b with
   | true=>
    show KasT.allR N _ (if q > 0 then kas_desc f (kas_rev p (n - (q+1)) n) (n+1) 0 else kas_desc f p (n+1) 0)
    split
    ·exact mono (mr f _ (n+1) 0 (e.rev (by walk_at "o")) (by walk_at "o"))
    ·exact mono (mr f _ (n+1) 0 e (by walk_at "o"))
   | false=>exact⟨e.ent _,e.ent _,fun d=>by
     cases d with
     | true=>exact⟨e,le_refl _,show n<=n+(f+1)by walk_at "o"⟩
     | false=>exact mono (mr f p (n+1) (q+1) e (by walk_at "o"))⟩⟩
theorem sf(e:EntN N p){n nrem:Nat}(hn:n<=N):(kas_tail3 n nrem p).allR N fun r=>EntN N r.2:=by
 unfold kas_tail3;refine KasT.allR_bind (fun m _=>?_) (u5 (e.rev (i:=0) hn) (nrem - n) n);exact (e.rev hn:EntN N (kas_rev p 0 n))
theorem lG(e:EntN N p){n nrem:Nat}(hn:n+1<=nrem)(hz:nrem<=N):(kas_descPart n nrem p).allR N fun r=>EntN N r.2:=by
 unfold kas_descPart;refine KasT.allR_bind (fun r h=>?_) (mr (nrem - (n+1)) p (n+1) 0 e (by walk_at "o"))
 obtain⟨p1,n1,q1⟩:=r;obtain⟨h1,h2,h3⟩:=h;show KasT.allR N _ (if q1 > 0 then kas_tail3 n1 nrem (kas_rev p1 (n1 - (q1+1)) n1)else kas_tail3 n1 nrem p1)
 have hn1:n1<=N:=by simp only at h3;omega
 split
 ·exact sf (h1.rev hn1) hn1
 ·exact sf h1 hn1
theorem yC(e:EntN N p){nrem:Nat}(h1:1<=nrem)(hz:nrem<=N):(kas_count nrem p).allR N fun r=>EntN N r.2:=by
 unfold kas_count;refine KasT.allR_bind (fun n h=>?_) (u5 e _ _)
 by_cases h2:n=nrem
 ·rw[if_pos (by simpa using h2)];exact e
 ·rw[if_neg (by simpa using h2)]
  by_cases h3:n > 1
  ·rw[if_pos h3];refine⟨e.ent _,e.ent _,fun b=>?_⟩;cases b with
   | true=>exact e
   | false=>exact lG (e.rev (by walk_at "o")) (by walk_at "o") hz
  ·rw[if_neg h3];exact lG e (by walk_at "o") hz
theorem mO(e:EntN N p)(k:Nat):∀ (f l u:Nat),(kas_place p k f l u).allR N fun _=>True
 | 0,l,u=>trivial
 | f+1,l,u=>by
  unfold kas_place;split
  ·exact trivial
  ·exact⟨e.ent _,e.ent _,fun b=>by
    cases b with
    | true=>exact mO e k f _ _
    | false=>exact mO e k f _ _⟩
theorem yH:∀ (f:Nat) (p:Array Nat) (k:Nat),EntN N p->k+f<=N->(kas_bin f p k).allR N (EntN N)
 | 0,p,k,e,_=>e
 | f+1,p,k,e,h=>by
  unfold kas_bin;refine KasT.allR_bind (fun l _=>?_) (mO e k k 0 k);exact yH f _ (k+1) (e.bub (by walk_at "o") (by walk_at "o")) (by walk_at "o")
theorem y0{n:Nat}(hn:1<=n):(kas_sort n).allR n (EntN n):=by
 have e:EntN n (List.toArray (List.range n)):=⟨by simp,fun i=>by
  rw[Array.getD_eq_getD_getElem?,List.getElem?_toArray];cases h:(List.range n)[i]? with
  | none=>exact hn
  | some x=>exact mem_range.mp (mem_of_getElem? h)⟩
 unfold kas_sort;refine KasT.allR_bind (fun r h=>?_) (yC e hn (le_refl _));obtain⟨m,p⟩:=r;show KasT.allR n _ (if m < n then kas_bin (n - max m 1) p (max m 1)else KasT.ret p)
 split
 ·exact yH _ _ _ h (by walk_at "o")
 ·exact h
end
section
variable{α:Type}(blt:α->α->Bool)
structure STO:Prop where
 irrefl:∀ a,blt a a=false
 trans:∀ a b c,blt a b=true->blt b c=true->blt a c=true
 tot:∀ a b,blt a b=false->blt b a=false->a=b
def ot[DecidableEq α]:List α->List α->Bool
 | [],[]=>false
 | [],_::_=>true
 | _::_,[]=>false
 | a::r,b::t=>if a=b then ot r t else blt a b
end
section
variable{α:Type}{blt:α->α->Bool}
theorem STO.neg(o:STO blt)(a b c:α)(h:blt a c=true):blt a b=true\/blt b c=true:=by
 cases e:blt a b with
 | true=>exact .inl rfl
 | false=>
  cases e2:blt b c with
  | true=>exact .inr rfl
  | false=>
   cases e3:blt b a with
   | true=>have:=o.trans _ _ _ e3 h;rw[e2]at this;cases this
   | false=>
    have:=o.tot _ _ e e3;subst this;rw[h]at e2;cases e2
variable[DecidableEq α]
theorem iQ(a b:α)(r t:List α):ot blt (a::r) (b::t)=if a=b then ot blt r t else blt a b:=rfl
theorem vq(o:STO blt):STO (ot blt) where
 irrefl:=by
  intro a
  induction a with
  | nil=>rfl
  | cons x r ih=>rw[iQ,if_pos rfl,ih]
 trans:=by
  intro a
  induction a with
  | nil=>
   intro b c h1 h2;cases c with
   | nil=>cases b<;>cases h2
   | cons _ _=>rfl
  | cons x r ih=>
   intro b c h1 h2;cases b with
   | nil=>cases h1
   | cons y t=>
    cases c with
    | nil=>cases h2
    | cons z u=>
     rw[iQ]at h1 h2 ⊢
     by_cases e1:x=y
     ·subst e1;rw[if_pos rfl]at h1
      by_cases e2:x=z
      ·subst e2;rw[if_pos rfl]at h2 ⊢;exact ih t u h1 h2
      ·rw[if_neg e2]at h2 ⊢;exact h2
     ·rw[if_neg e1]at h1
      by_cases e2:y=z
      ·subst e2;rw[if_neg e1];exact h1
      ·rw[if_neg e2]at h2;have h3:=o.trans _ _ _ h1 h2;rw[if_neg (fun e=>by subst e;rw[o.irrefl]at h3;cases h3)]
       exact h3
 tot:=by
  intro a
  induction a with
  | nil=>
   intro b h1 h2;cases b with
   | nil=>rfl
   | cons _ _=>cases h1
  | cons x r ih=>
   intro b h1 h2;cases b with
   | nil=>cases h2
   | cons y t=>
    rw[iQ]at h1 h2
    by_cases e1:x=y
    ·subst e1;rw[if_pos rfl]at h1 h2;rw[ih t h1 h2]
    ·rw[if_neg e1]at h1;rw[if_neg (Ne.symm e1)]at h2;exact absurd (o.tot _ _ h1 h2) e1
end
def sS(a b:Nat):Bool:=decide (a < b)
theorem vo:STO sS:=⟨fun a=>by simp[sS],fun a b c h1 h2=>by simp only[sS,decide_eq_true_eq]at *;omega,fun a b h1 h2=>by simp only[sS,decide_eq_false_iff_not]at *;omega⟩
theorem m5:∀ a b:List Nat,ot sS a b=decide (a < b)
 | [],[]=>by simp[ot]
 | [],b::t=>by simp[ot]
 | a::r,[]=>by simp[ot]
 | a::r,b::t=>by
  rw[iQ]
  by_cases e:a=b
  ·subst e;rw[if_pos rfl,m5 r t];simp
  ·rw[if_neg e];simp[sS,List.cons_lt_cons_iff,e]
end PySem.W
namespace L3
open PySem PySem.Spec PyProof.Rows L2 PySem.SeqAt
open PySem.AutoSeq1 (wpAny_loadPart')
open PySem.MeetsSeq PySem.MeetsSeq2 PySem.MeetsSeq3
def cS(blt:D->D->Bool):List D->List D->Bool
 | [],[]=>false
 | [],_::_=>true
 | _::_,[]=>false
 | a::r,b::t=>if dZ a b=true then cS blt r t else blt a b
def iq:Nat->D->D->Bool
 | _,.int a,.int b=>decide (a < b)
 | _,.str x,.str y=>decide (x.cps.toList < y.cps.toList)
 | n+1,.tup xs,.tup ys=>cS (iq n) xs ys
 | _,_,_=>false
def Dp(n:Nat)(P:D->D->Prop):List D->List D->Prop
 | a::r,b::t=>(pl n a/\pl n b)/\(a≠b->P a b)/\Dp n P r t
 | _,_=>True
def wW:Nat->D->D->Prop
 | _,.int _,.int _=>True
 | _,.str _,.str _=>True
 | n+1,.tup xs,.tup ys=>Dp n (wW n) xs ys
 | _,_,_=>False
def Aq(op:CmpOp)(A:Around)(s:Shared)(v u:Value)(b:Bool):Prop:=
 ∀ (prog:Program) (w:World) (E:Value->Shared->Prop) (Q:Value->Shared->Prop),Q (.bool b) s->wpAny (model prog w) A (richCompare op v u) Q E s
def p5(op:CmpOp)(fin:Bool)(A:Around)(s:Shared):List Value->List Value->Bool->Prop
 | v::vs,u::us,out=>∃ e,EqAt A s v u e/\(e=true->p5 op fin A s vs us out)/\(e=false->Aq op A s v u out)
 | _,_,out=>out=fin
theorem wo{op:CmpOp}{fin out:Bool}{A:Around}{s:Shared}:∀ {vs us:List Value},p5 op fin A s vs us out->vs.zip us=[]->out=fin
 | [],_,h,_=>h
 | _::_,[],h,_=>h
 | _::_,_::_,_,e=>by rw[zip_cons_cons]at e;cases e
theorem t7(l b:Addr)(items items2:Array Value)(n n2:Nat)(dd dd2:Option Addr)(sl sl2:Array (Option Value))(out:Bool):
  Meets (Builtin.«tuple.__lt__» ⟨[.ref l,.ref b],[]⟩)
   (fun A R s=>s.heap.get? l=some { cls:=.type "tuple",dict:=dd,data:=.seq items n,slots:=sl }/\s.heap.get? b=some { cls:=.type "tuple",dict:=dd2,data:=.seq items2 n2,slots:=sl2 }/\
    p5 .Lt (decide (items.size < items2.size)) A.in1 s items.toList items2.toList out/\R (.ok (.ret (.bool out))) s):=
 .of_wp fun prog w A R s h=>by
  obtain⟨hp,g,d,tk,os⟩:=s;obtain⟨hl,hb,hx,h⟩:=h;have f2:=AutoSeq1.sub_tuple_tuple
  wp_walk using wpAny_loadPart' hl,wpAny_loadPart' hb,wpAny_forIn_list _ (fun jJ b s'=>b.1=none/\s'=⟨hp,g,d,tk,os⟩/\∃ vs ws,jJ=vs.zip ws/\p5 .Lt (decide (items.size < items2.size)) A.in1 ⟨hp,g,d,tk,os⟩ vs ws out) _
  case turn=>
   rintro⟨y,x⟩ jJ b s' ⟨hb',rfl,vs,ws,hz,lx⟩
   cases vs with
   | nil=>rw[List.zip_nil_left]at hz;cases hz
   | cons v vs=>
    cases ws with
    | nil=>rw[List.zip_nil_right]at hz;cases hz
    | cons u ws=>
     rw[zip_cons_cons]at hz;injection hz with hyx hrest
     injection hyx with hy hx'
     subst hy hx';obtain⟨e,he,l1,l2⟩:=lx;refine wpAny_bind (he prog w _ _ ?_);cases e with
     | true=>
      wp_walk
      exact⟨rfl,rfl,_,_,hrest,l1 rfl⟩
     | false=>
      have hri:=l2 rfl prog w
      wp_walk using hri
      exact⟨_,rfl,by simpa using h⟩
  case fin=>
   rintro⟨b1,b2⟩ s' ⟨hb',rfl,vs,ws,hz,lx⟩
   simp only at hb';subst hb';have hv:=wo lx hz.symm;rw[hv]at h
   wp_walk
   exact⟨_,rfl,by simpa[Builtin.Tuple.tupleCompareSizes]using h⟩
  case h=>
   exact⟨rfl,rfl,items.toList,items2.toList,rfl,hx⟩
theorem xZ{A:Around}{s:Shared}{l b:Addr}{items items2:Array Value}{out:Bool}(hl:s.heap.IsTuple l items)(hb:s.heap.IsTuple b items2)(hu:A.units < cLine)
  (hx:p5 .Lt (decide (items.size < items2.size)) A.in1 s items.toList items2.toList out):Aq .Lt A s (.ref l) (.ref b) out:=fun prog w E Q h=>by
 obtain⟨⟨cls,dd,data,sl⟩,ho,hc,n,hd⟩:=id hl;obtain⟨⟨cls2,dd2,data2,sl2⟩,ho2,hc2,n2,hd2⟩:=id hb;simp only at hc hd hc2 hd2;subst hc hd hc2 hd2;exact richCompare_meets_room (op:=.Lt) ⟨_,ho,rfl⟩ ⟨_,ho2,rfl⟩ PySem.F.slot_tuple_lt PySem.F.entry_tuple_lt (PySem.F.args_tuple_lt_2 _ _) (t7 l b items items2 n n2 dd dd2 sl sl2 out)
  ⟨ho,ho2,hx,show Value.bool out≠Value.notImplemented/\Q (.bool out) s from ⟨(fun x=>nomatch x),h⟩⟩ hu
section
variable{X:Cx}{pins:List (Addr×Obj)}{σ:St}{H:Hp}{s:Shared}
theorem sX(I:Inv X pins σ H s){n:Nat}{A:Around}(hu:A.units+n < cLine){N1 N2:Nat}
  (ih:∀ {x y:D} {v u:V} {v' u':Value},wW n x y->RD X.K H x v->RD X.K H y u->aD v v'->aD u u'->Aq .Lt A s v' u' ( iq n x y)):
  ∀ {ds es:List D} {xs ys:List V} {us ws:List Value},Dp n (wW n) ds es->RDs X.K H ds xs->RDs X.K H es ys->Vals xs us->Vals ys ws->ds.length+N2=es.length+N1->p5 .Lt (decide (N1 < N2)) A s us ws ( cS (iq n) ds es)
 | [],es,xs,ys,us,ws,_,r1,r2,w1,w2,hl=>by
  rw[r1.inv_nil]at w1;cases w1;show ( cS (iq n) [] es)=decide (N1 < N2)
  cases es with
  | nil=>
   simp only[length_nil]at hl;have e1:N2=N1:=by walk_at "o"
   subst e1;simp[cS]
  | cons b t=>
   simp only[length_nil,length_cons]at hl;have:N1 < N2:=by walk_at "o"
   simp[cS];omega
 | a::r,[],xs,ys,us,ws,_,r1,r2,w1,w2,hl=>by
  rw[r2.inv_nil]at w2;cases w2;obtain⟨x1,t1,e1,_,_⟩:=r1.inv_cons;subst e1;cases w1;show ( cS (iq n) (a::r) [])=decide (N1 < N2)
  simp only[length_nil,length_cons]at hl;have:N2 < N1:=by walk_at "o"
  simp[cS];omega
 | a::r,b::t,xs,ys,us,ws,⟨p,c,q⟩,r1,r2,w1,w2,hl=>by
  obtain⟨x1,t1,e1,g1,g2⟩:=r1.inv_cons;subst e1;obtain⟨x2,t2,e2,f1,f2⟩:=r2.inv_cons;subst e2;cases w1 with
  | cons k1 w1=>
  cases w2 with
  | cons k2 w2=>
   refine⟨dZ a b,(pP I n p.1 p.2 g1 f1 k1 k2 hu).eq,fun e=>?_,fun e=>?_⟩
   ·rw[show cS (iq n) (a::r) (b::t)=cS (iq n) r t by simp[cS,e]]
    simp only[length_cons]at hl;exact sX I hu ih q g2 f2 w1 w2 (by walk_at "o")
   ·rw[show cS (iq n) (a::r) (b::t)=iq n a b by simp[cS,e]]
    exact ih (c fun z=>by rw[z,bj]at e;cases e) g1 f1 k1 k2
theorem By(I:Inv X pins σ H s):∀ (n:Nat) {x y:D} {v u:V} {v' u':Value} {A:Around},wW n x y->RD X.K H x v->RD X.K H y u->aD v v'->aD u u'->A.units+n < cLine->Aq .Lt A s v' u' ( iq n x y):=by
 intro n
 induction n with
 | zero=>
  intro x y v u v' u' A c rx ry lx ly hu;cases x<;>cases y<;>first|exact c.elim|skip
  ·simp only[RD]at rx ry;subst rx ry;obtain⟨t,rfl⟩:=lx;obtain⟨t',rfl⟩:=ly;intro prog w E Q h;exact (PyProof.Rows.lt_int h:wpAny (model prog w) A (compareOp .Lt (.int _ t) (.int _ t')) Q E s)
  ·simp only[RD]at rx ry;subst rx ry;obtain⟨t,rfl⟩:=lx;obtain⟨t',rfl⟩:=ly;intro prog w E Q h;exact (PySem.P.lt_str h:wpAny (model prog w) A (compareOp .Lt (.str _ t) (.str _ t')) Q E s)
 | succ n ih=>
  intro x y v u v' u' A c rx ry lx ly hu;cases x<;>cases y<;>first|exact c.elim|skip
  ·simp only[RD]at rx ry;subst rx ry;obtain⟨t,rfl⟩:=lx;obtain⟨t',rfl⟩:=ly;intro prog w E Q h;exact (PyProof.Rows.lt_int h:wpAny (model prog w) A (compareOp .Lt (.int _ t) (.int _ t')) Q E s)
  ·simp only[RD]at rx ry;subst rx ry;obtain⟨t,rfl⟩:=lx;obtain⟨t',rfl⟩:=ly;intro prog w E Q h;exact (PySem.P.lt_str h:wpAny (model prog w) A (compareOp .Lt (.str _ t) (.str _ t')) Q E s)
  ·rename_i ds es;simp only[RD]at rx ry;obtain⟨a,xs,rfl,s1,r1⟩:=rx;obtain⟨b,ys,rfl,s2,r2⟩:=ry;cases lx;cases ly;obtain⟨its,w1,t1,z1⟩:=I.tuple s1;obtain⟨its2,w2,t2,z2⟩:=I.tuple s2;have l1:=w1.length;have l1':=r1.length;have l2:=w2.length;have l2':=r2.length;refine xZ t1 t2 (by walk_at "o") ?_
   exact sX I (A:=A.in1) (by show A.units+1+n < cLine;omega) (fun c rx ry lx ly=>ih c rx ry lx ly (by show A.units+1+n < cLine;omega)) c r1 r2 w1 w2 (by simp only[size_toArray];omega)
end
def Em:R3:=fun x y G Q=>wW 4 x y/\Q (.bl (! iq 4 x y)) G
open PySem.W
def jw(h:Heap)(d:Addr)(vs:List Value)(ep:Nat):Prop:=∃ o es,h.get? d=some o/\o.ExactDict/\o.data=.dict es ep/\es.toList.map (·.val)=vs
section
variable{prog:Program}{w:World}{A:Around}{E:Value->Shared->Prop}{s:Shared}{d r it:Addr}{vs:List Value}{ep i:Nat}
theorem jw.ty(x:jw s.heap d vs ep):s.TypeIs (.ref d) "dict":=let ⟨o,_,e,z,_⟩:=x;⟨o,e,z.1⟩
theorem jw.there{h:Heap}(x:jw h d vs ep):d < h.objs.size:=let ⟨_,_,e,_⟩:=x;Heap.lt_size e
theorem jw.stay{h h':Heap}(x:jw h d vs ep)(k:∀ o,h.get? d=some o->h'.get? d=some o):jw h' d vs ep:=let ⟨o,es,e,z⟩:=x;⟨o,es,k o e,z⟩
theorem um(hs:(d == sysModules)=false):MeetsIn prog w (Builtin.«dict.values» ⟨[.ref d],[]⟩) (fun _ R s=>(∃ vs ep,jw s.heap d vs ep)/\
  R (.ok (.ret (.ref s.heap.objs.size))) { s with heap:=s.heap.push { cls:=.type "dict_values",data:=.fields #[.ref d] } }):=
 .of_wp fun A R s zz=>by
  obtain⟨⟨vs,ep,x⟩,q⟩:=zz;refine wpAny_bind ?_;unfold Builtin.Dict.noArgs;refine wpAny_bind (wpAny_notOrdered_dict x.ty ?_);show wpAny _ _ (pure d) _ _ s;refine wpAny_pure ?_
  show wpAny _ _ (Builtin.Dict.showsAll d >>= _) _ _ s;unfold Builtin.Dict.showsAll
  rw[if_neg (fun z=>by rw[hs]at z;cases z)];refine wpAny_bind (wpAny_pure ?_)
  exact wpAny_bind (wpAny_newObj_type (wpAny_pure ⟨_,rfl,q⟩))
theorem xy{Q:Value->Shared->Prop}(hr:s.heap.IsValuesView r d)(x:jw s.heap d vs ep)
  (q:Q (.ref s.heap.objs.size) { s with heap:=s.heap.push { cls:=.type "dict_valueiterator",data:=.fields #[.ref d,.int 0 0,.int vs.length 0,.int ep 0] } }):wpAny (model prog w) A (pyIter (.ref r)) Q E s:=by
 obtain⟨ov,e1,c1,d1⟩:=id hr;obtain⟨o,es,e2,c2,d2,rfl⟩:=x;refine wpAny_pyIter_slot hr.typeIs F.slot_dict_values_iter (wpAny_call_entry F.slot_dict_values_iter hr.typeIs F.entry_dict_values_iter ?_ (F.args_dict_values_iter_1 _));unfold Builtin.«dict_values.__iter__»;refine wpAny_bind (wpAny_pure ?_);refine wpAny_bind ?_;unfold Builtin.Dict_items.dictOf;refine wpAny_bind (wpAny_field e1 d1 (x:=.ref d) rfl (wpAny_pure ?_));refine wpAny_bind ?_;unfold Builtin.Dict_items.newIterator;refine wpAny_bind (wpAny_dictEntries e2 d2 ?_);refine wpAny_bind (wpAny_dictEpoch e2 d2 ?_);have own:Builtin.Dict_items.ownsTuple "dict_valueiterator"=false:=by decide
 simp only[own,Bool.false_eq_true,if_false];refine wpAny_newObj_type (wpAny_pure ⟨_,rfl,"dict_valueiterator",_,⟨_,Heap.get?_push_size _ rfl,rfl⟩,F.slot_dict_valueiterator_next.lookup,?_⟩)
 simpa[rawInt]using q
theorem xz{v:Value}{Q:Option Value->Shared->Prop}(hi:s.heap.IsValIter it d i vs.length ep)(x:jw s.heap d vs ep)(hv:vs[i]?=some v)
  (q:∀ h',h'.IsValIter it d (i+1) vs.length ep->Heap.SameBut it s.heap h'->Q (some v) { s with heap:=h' }):wpAny (model prog w) A (pyNext (.ref it)) Q E s:=by
 obtain⟨o,e1,c1,d1⟩:=id hi;obtain⟨od,es,e2,c2,d2,rfl⟩:=x;unfold pyNext;refine wpAny_bind (wpAny_attempt (wpAny_callSpecial?_slot (name:=Str.ofString "__next__") hi.typeIs F.slot_dict_valueiterator_next (wpAny_call_entry F.slot_dict_valueiterator_next hi.typeIs F.entry_dict_valueiterator_next ?_ (F.args_dict_valueiterator_next_1 _))));refine wpAny_bind (wpAny_pure ?_);refine wpAny_bind ?_;refine wpAny_bind ?_
 first|refine wpAny_bind (wpAny_typeNameOfWhole_valiter hi.typeIs (wpAny_pure ?_))|refine wpAny_bind (wpAny_typeNameOf_valiter hi.typeIs (wpAny_pure ?_))
 refine wpAny_bind (wpAny_fieldsOf e1 d1 ?_);have own:Builtin.Dict_items.ownsTuple "dict_valueiterator"=false:=by decide
 simp only[own,Bool.false_eq_true,if_false];show wpAny _ _ (if (Value.ref d == Value.none)=true then _ else _) _ _ s;rw[if_neg (show ¬ ((Value.ref d == Value.none)=true)from Bool.false_ne_true)]
 refine wpAny_bind (wpAny_pure ?_);refine wpAny_bind (wpAny_dictEntries e2 d2 ?_);have z:es.size=(es.toList.map (·.val)).length:=by simp
 rw[if_neg (by rw[z];simp)];refine wpAny_bind (wpAny_pure ?_);refine wpAny_bind (wpAny_dictEpoch e2 d2 ?_)
 rw[if_neg (by simp)];refine wpAny_pure ?_
 have lt:i < es.size:=by
  rw[z];rcases lt_or_ge i (es.toList.map (·.val)).length with h|h
  ·exact h
  ·rw[getElem?_eq_none h]at hv;cases hv
 have val:es[i].val=v:=by
  rw[getElem?_map]at hv
  simpa[lt]using hv
 simp only[show ¬ ((i:Int) < 0)from by walk_at "o",if_false,Int.toNat_natCast,Array.getElem?_eq_getElem lt];refine wpAny_bind ?_
 first|refine wpAny_bind (wpAny_typeNameOfWhole_valiter hi.typeIs (wpAny_pure ?_))|refine wpAny_bind (wpAny_typeNameOf_valiter hi.typeIs (wpAny_pure ?_))
 refine wpAny_bind (wpAny_isOneOf_valiter hi.typeIs ?_);show wpAny _ _ (setField (.ref it) 1 (rawInt ((i:Int)+1)) >>= _) _ _ s;refine wpAny_bind (wpAny_setField e1 d1 (by simp) ?_)
 have hi':(s.heap.update it (Obj.mapFields (·.setIfInBounds 1 (rawInt ((i:Int)+1))))).IsValIter it d (i+1) (es.toList.map (·.val)).length ep:=
  ⟨_,Heap.get?_update_self _ e1 (Obj.isFreed_of_fields (Obj.data_mapFields d1 _)),(Obj.cls_mapFields ..).trans c1,by rw[Obj.data_mapFields d1];simp[rawInt]⟩
 refine wpAny_bind (wpAny_holding ?_);refine wpAny_bind (wpAny_isOneOf_valiter (s:={ s with heap:=s.heap.update it (Obj.mapFields (·.setIfInBounds 1 (rawInt ((i:Int)+1)))) }) hi'.typeIs ?_)
 refine wpAny_bind (wpAny_isOneOf_valiter (s:={ s with heap:=s.heap.update it (Obj.mapFields (·.setIfInBounds 1 (rawInt ((i:Int)+1)))) }) hi'.typeIs ?_);show wpAny _ _ (pure es[i].val) _ _ _
 exact wpAny_pure (wpAny_pure ⟨_,rfl,wpAny_pure (val ▸ q _ hi' (Heap.SameBut.update ..))⟩)
theorem zd{Q:Option Value->Shared->Prop}(hh:A.handled=none)(hi:s.heap.IsValIter it d i vs.length ep)(x:jw s.heap d vs ep)(hv:vs[i]?=none)
  (q:∀ h',Heap.ExtBut it s.heap h'->Q none { s with heap:=h' }):wpAny (model prog w) A (pyNext (.ref it)) Q E s:=by
 obtain⟨o,e1,c1,d1⟩:=id hi;obtain⟨od,es,e2,c2,d2,rfl⟩:=x;unfold pyNext;refine wpAny_bind (wpAny_attempt (wpAny_callSpecial?_slot (name:=Str.ofString "__next__") hi.typeIs F.slot_dict_valueiterator_next (wpAny_call_entry F.slot_dict_valueiterator_next hi.typeIs F.entry_dict_valueiterator_next ?_ (F.args_dict_valueiterator_next_1 _))));refine wpAny_bind (wpAny_pure ?_);refine wpAny_bind ?_;refine wpAny_bind ?_
 first|refine wpAny_bind (wpAny_typeNameOfWhole_valiter hi.typeIs (wpAny_pure ?_))|refine wpAny_bind (wpAny_typeNameOf_valiter hi.typeIs (wpAny_pure ?_))
 refine wpAny_bind (wpAny_fieldsOf e1 d1 ?_);have own:Builtin.Dict_items.ownsTuple "dict_valueiterator"=false:=by decide
 simp only[own,Bool.false_eq_true,if_false];show wpAny _ _ (if (Value.ref d == Value.none)=true then _ else _) _ _ s;rw[if_neg (show ¬ ((Value.ref d == Value.none)=true)from Bool.false_ne_true)]
 refine wpAny_bind (wpAny_pure ?_);refine wpAny_bind (wpAny_dictEntries e2 d2 ?_);have z:es.size=(es.toList.map (·.val)).length:=by simp
 rw[if_neg (by rw[z];simp)];refine wpAny_bind (wpAny_pure ?_);refine wpAny_bind (wpAny_dictEpoch e2 d2 ?_)
 rw[if_neg (by simp)];refine wpAny_pure ?_
 have ge:es.size<=i:=by rw[z];simpa using hv
 simp only[show ¬ ((i:Int) < 0)from by walk_at "o",if_false,Int.toNat_natCast,Array.getElem?_eq_none ge];refine wpAny_bind ?_
 first|refine wpAny_bind (wpAny_typeNameOfWhole_valiter hi.typeIs (wpAny_pure ?_))|refine wpAny_bind (wpAny_typeNameOf_valiter hi.typeIs (wpAny_pure ?_))
 show wpAny _ _ (setField (.ref it) 0 .none >>= _) _ _ s;refine wpAny_bind (wpAny_setField e1 d1 (by simp) ?_)
 show wpAny _ _ (newExc (.type "StopIteration") [] >>= _) _ _ _;refine wpAny_bind ?_
 simp only[newExc,newTuple];refine wpAny_bind (wpAny_newObj_type ?_ (by size_fits))
 refine wpAny_bind (m:=firstArgMember _ _) (wpAny_of_eq (a:=Value.none) (by first|rfl|(simp only[firstArgMember];rfl)) ?_);refine wpAny_newObj_type ?_ (by size_fits)
 simp only[raiseNew];refine wpAny_bind (wpAny_handled ?_);rw[show A.in1.handled=none from hh]
 refine wpAny_bind (wpAny_pure (wpAny_throw ?_));refine wpAny_bind (wpAny_isInstance (T:="StopIteration") (b:=true) ⟨_,Heap.get?_push_size _ rfl,rfl⟩ isSubtype_stop ?_);exact wpAny_pure (q _ (((Heap.SameBut.update ..).extBut.push _).push _))
theorem xx(hh:A.handled=none)(hne:d≠it):Walks prog w A it [it,d] [it] vs.length (fun i v=>vs[i]?=some v) (fun i h=>h.IsValIter it d i vs.length ep/\jw h d vs ep) where
 sub:=fun b hb=>by rw[mem_singleton.mp hb];exact mem_cons_self
 frame:=fun _ _ _ t k=>⟨t.1.at fun o e=>k it mem_cons_self o e,t.2.stay fun o e=>k d (mem_cons_of_mem _ mem_cons_self) o e⟩
 item:=fun i s Q E hi t q=>by
  obtain⟨v,hv⟩:∃ v,vs[i]?=some v:=⟨vs[i],by simp[hi]⟩
  refine xz t.1 t.2 hv fun h' a b=>?_;exact q v h' s.toks hv ⟨a,t.2.stay fun o e=>b.extBut d o hne e⟩ fun c o hc e=>b.extBut c o (fun z=>hc (by rw[z];exact mem_cons_self)) e
 done:=fun s Q E t q=>zd hh t.1 t.2 (by simp) fun h' b=>q h' s.toks fun c o hc e=>b c o (fun z=>hc (by rw[z];exact mem_cons_self)) e
 self:=fun _ _ _ _ t q=>wpAny_pyIter_valiter t.1 q
theorem zc:KdlSrc prog w "dict_values" r d vs.length (fun i v=>vs[i]?=some v) (fun h=>h.IsValuesView r d/\jw h d vs ep) where
 type:=fun _ x=>x.1.typeIs
 there:=fun _ x=>⟨let ⟨_,e,_⟩:=x.1;Heap.lt_size e,x.2.there⟩
 keep:=fun _ _ x k=>⟨let ⟨o,e,z⟩:=x.1;⟨o,k r (.inl rfl) o e,z⟩,x.2.stay fun o e=>k d (.inr rfl) o e⟩
 notList:=by decide
 notTuple:=by decide
 hint:=fun _ _ _ _ x q=>kdl_hint_values x.1.typeIs q
 iter:=fun _ _ hh x=>⟨_,_,(fun _ _ q=>xy x.1 x.2 q),xx hh (ne_of_lt x.2.there),⟨⟨_,Heap.get?_push_size _ rfl,rfl,rfl⟩,x.2.stay fun o e=>Heap.get?_push_of_some _ e⟩⟩
end
def XO(a:Addr)(o:Obj):HO:=.ext fun h=>h.get? a=some o
theorem At{P:Program}{w:World}{H:Hp}{h:Heap}{a:Addr}{o:Obj}(e:h.get? a=some o):bK P w H h a (XO a o):=⟨e,⟨o,e⟩,fun _ _ p k=>k _ p⟩
section
variable{X:Cx}{pins:List (Addr×Obj)}{τ:St}{H H0:Hp}{s:Shared}{G:Gp}{a:Addr}{o:Obj}{u:HO}
theorem js(I:Inv X pins τ H s)(e:H a=some (XO a o)):s.heap.get? a=some o:=(show bK X.prog X.w H s.heap a (XO a o)from I.hok a _ e).1
theorem kN{t':Nat}{h':Heap}(I:Inv X pins τ H s)(ha:s.heap.objs.size=a)(hh:h'=s.heap.push o)(hf:o.isFreed=false:=by rfl):Inv X pins τ (bB H a (XO a o)) { s with heap:=h',toks:=t' }:=by
 subst ha hh;exact I.laid (fun _ _ e=>Heap.get?_push_of_some _ e) (le_refl _) (At (Heap.get?_push_size _ hf))
theorem no{t':Nat}{o':Obj}{f:Obj->Obj}(I:Inv X pins τ H s)(e:H a=some (XO a o))(e':(s.heap.update a f).get? a=some o'):Inv X pins τ (bB H a (XO a o')) { s with heap:=s.heap.update a f,toks:=t' }:=
 I.write (x:=a) (e:=a) (by rw[e];exact trivial) (.inl rfl) (fun b u hb hu=>(Heap.get?_update_other s.heap f (Ne.symm hb)).trans hu) ⟨_,e'⟩ (At e')
theorem ja{K:Frag}(mu:yN (H a)):Stb K H (bB H a u) where
 t:=fun b xs q=>by
  rcases q with (q|⟨z,q⟩)|q
  ·exact .inl (.inl (by rw[au (fun e=>by subst e;rw[q]at mu;exact mu)];exact q))
  ·exact .inl (.inr ⟨z,by rw[au (fun e=>by subst e;rw[q]at mu;exact mu)];exact q⟩)
  ·exact .inr q
 l:=fun b xs q=>by
  rcases q with ⟨z,q⟩|q
  ·exact .inl ⟨z,by rw[au (fun e=>by subst e;rw[q]at mu;exact mu)];exact q⟩
  ·exact .inr q
theorem vf{K:Frag}(rg:RG K H G)(g:G a=none)(mu:yN (H a)):RG K (bB H a u) G:=fun b z q=>by
 obtain⟨h,e1,r⟩:=rg b z q;have hb:b≠a:=fun e=>by subst e;rw[q]at g;cases g
 exact⟨h,by rw[au hb];exact e1,r.mono (ja mu)⟩
theorem td(k:Kp G H0 G H)(n:H0 a=none):Kp G H0 G (bB H a u):=fun b h e g=>⟨by rw[au (bL e n)];exact (k b h e g).1,g⟩
theorem zR{k:Nat}{f:Addr}{fd:FuncData}{ps:List Str}{sp:eF}{d kd:D}{v:V}{x:Value}{A:Around}{E:Value->Shared->Prop}(F:FnOk X.prog X.w X.K X.mg X.base fk k f fd ps (aE X.K sp))(hb:e8 X.K fd ps [])(hr:Room k A)(hA:Env0 X.prog X.w X.K X.mg X.base A X.stack s H)
  (I:Inv X pins τ H s) (rg:RG X.K H G) (rd:RD X.K H d v) (rv:aD v x) (hs:sp [d] G fun z G'=>z=kd/\G'=G) (nf:∀ l,kd≠.fl l) {Q:Value->Shared->Prop}
  (q:∀ u v' H' s',Inv X pins τ H' s'->Kp G H G H'->RG X.K H' G->RD X.K H' kd v'->aD v' u->Q u s'):wpAny (model X.prog X.w) A (call (.ref f) [x]) Q E s:=by
 have sp1:aE X.K sp [v] H (fun v' H'=>Kp G H G H'/\RG X.K H' G/\RD X.K H' kd v') (fun _ _ _=>False):=
  ⟨[d],G,_,RDs.cons rd RDs.nil,rg,hs,fun z G' v' H' e k1 rg1 re=>by obtain⟨rfl,rfl⟩:=e;exact⟨k1,rg1,re.rd nf⟩⟩
 have r2:Vals [v] [x]:=.cons rv .nil;have hl:([x] ++ ([]:List Value)).length=ps.length:=by
  have:=F.len _ _ _ _ sp1
  simpa using this
 refine wpAny_call (codeAny_mono (F.run A X.stack s H ⟨[x],[]⟩ ([x] ++ []) [v] _ _ hr hA (hb s [x] I.kIn hl) (by simpa using r2) sp1) fun r s' hq=>?_)
 cases r with
 | error e=>exact False.elim hq
 | ok fl=>
  cases fl with
  | ret u=>
   obtain⟨v',H',I',rv',k1,rg1,rd1⟩:=I.after hq;exact q u v' H' s' I' k1 rg1 rd1 rv'
  | next=>exact False.elim hq
  | brk=>exact False.elim hq
  | cont=>exact False.elim hq
end
theorem tf{X:Cx}{pins:List (Addr×Obj)}{τ:St}{H0:Hp}{G:Gp}{k:Nat}{f:Addr}{fd:FuncData}{ps:List Str}{sp:eF}{A:Around}{E:Value->Shared->Prop}(F:FnOk X.prog X.w X.K X.mg X.base fk k f fd ps (aE X.K sp))(hb:e8 X.K fd ps [])(hr:Room k A)
  (hA:∀ {s H},Inv X pins τ H s->Env0 X.prog X.w X.K X.mg X.base A X.stack s H) {S D0:Addr} {oD:Obj} (nS:H0 S=none) (nD:H0 D0=none) (gS:G S=none) (gD:G D0=none) (hne:S≠D0)
  {body:Value->PUnit->Sem (ForInStep PUnit)}
  (hbd:∀ x s Q,wpAny (model X.prog X.w) A (call (.ref f) [x]) (fun u s'=>wpAny (model X.prog X.w) A (Builtin.List.listUpdate (.ref S) (·.push u)) (fun _=>Q (.yield ⟨⟩)) E s') (fun _ _=>False) s->wpAny (model X.prog X.w) A (body x ⟨⟩) Q E s):
  ∀ {ds ks:List D} {vs:List V} {us:List Value},ks.length=ds.length->(∀ (i:Nat) d kd,ds[i]?=some d->ks[i]?=some kd->(sp [d] G fun z G'=>z=kd/\G'=G)/\∀ l,kd≠.fl l)->
   ∀ {H:Hp} {s:Shared} {done:List D} {kv:List V} {ku:List Value} {n:Nat},Inv X pins τ H s->Kp G H0 G H->RG X.K H G->RDs X.K H ds vs->Vals vs us->H D0=some (XO D0 oD)->H S=some (XO S (seqObj "list" ku.toArray n))->RDs X.K H done kv->Vals kv ku->ku.length+us.length < 64->
   ∀ {Q:PUnit->Shared->Prop},(∀ H' s' kv' ku' n',Inv X pins τ H' s'->Kp G H0 G H'->RG X.K H' G->H' D0=some (XO D0 oD)->H' S=some (XO S (seqObj "list" ku'.toArray n'))->RDs X.K H' (done ++ ks) kv'->Vals kv' ku'->Stb X.K H H'->Q ⟨⟩ s')->
   wpAny (model X.prog X.w) A (forIn us PUnit.unit body) Q E s
 | [],ks,vs,us,hl,hk,H,s,done,kv,ku,n,I,kp,rg,rds,rv,eD,eS,rdk,rvk,hz,Q,q=>by
  rw[rds.inv_nil]at rv;cases rv;rw[forIn_nil];have:ks=[]:=List.length_eq_zero_iff.mp (by simpa using hl)
  subst this;exact wpAny_pure (q H s kv ku n I kp rg eD eS (by rw[append_nil];exact rdk) rvk ⟨fun _ _ z=>z,fun _ _ z=>z⟩)
 | d::ds,[],vs,us,hl,_,_,_,_,_,_,_,_,_,_,_,_,_,_,_,_,_,_,_=>by simp at hl
 | d::ds,kd::ks,vs,us,hl,hk,H,s,done,kv,ku,n,I,kp,rg,rds,rv,eD,eS,rdk,rvk,hz,Q,q=>by
  obtain⟨v,t,e,h1,h2⟩:=rds.inv_cons;subst e;cases rv with
  | @cons _ x _ us l rv=>
   rw[forIn_cons];obtain⟨hs,nf⟩:=hk 0 d kd rfl rfl;refine wpAny_bind (hbd x s _ (zR F hb hr (hA I) I rg h1 l hs nf fun u v' H' s' I' k1 rg1 rd1 rv1=>?_));have eS':=(k1 S _ eS gS).1;have eD':=(k1 D0 _ eD gD).1;have st1:=k1.stb rg;have oS:=js I' eS';simp only[length_cons]at hz;refine listUpdate_at oS rfl ?_ (by rw[size_toArray,sizeLine_eq];omega) (by rw[Array.size_push,size_toArray,sizeLine_eq];omega)
   have ea:ku.toArray.push u=(ku ++ [u]).toArray:=by simp
   have e2:=get?_update_seq oS (·.push u);rw[ea]at e2;generalize (if ((ku ++ [u]).toArray.size == ku.toArray.size)=true then n else n+1)=n2 at e2
   have mu:yN (H' S):=by rw[eS'];exact trivial
   have I2:=no (t':=s'.toks) I' eS' e2;have st2:Stb X.K H' (bB H' S (XO S (seqObj "list" (ku ++ [u]).toArray n2))):=ja mu;refine tf F hb hr hA nS nD gS gD hne hbd (ds:=ds) (ks:=ks) (by simpa using hl) (fun i d' kd' a b=>hk (i+1) d' kd' (by simpa using a) (by simpa using b)) I2 (td (kp.trans k1) nS) (vf rg1 gS mu)
    (RDs.mono st2 _ _ (RDs.mono st1 _ _ h2)) rv (by rw[au hne.symm];exact eD') aT (done:=done ++ [kd]) (kv:=kv ++ [v']) (RDs.append (RDs.mono st2 _ _ (RDs.mono st1 _ _ rdk)) (RDs.cons (RD.mono st2 _ _ rd1) RDs.nil)) (rvk.append (.cons rv1 .nil)) (by simp;omega)
    fun H3 s3 kv3 ku3 n3 I3 kp3 rg3 eD3 eS3 rd3 rv3 st3=>q H3 s3 kv3 ku3 n3 I3 kp3 rg3 eD3 eS3 (by simpa using rd3) rv3 ⟨fun b xs z=>st3.t _ _ (st2.t _ _ (st1.t _ _ z)),fun b xs z=>st3.l _ _ (st2.l _ _ (st1.l _ _ z))⟩
section
variable{X:Cx}{pins:List (Addr×Obj)}{τ:St}{H H0:Hp}{s:Shared}{G:Gp}
theorem AG(I:L2.Inv X pins τ H s){n:Nat}{A:Around}(hu:A.units+n < cLine){b:Bool}{N1 N2:Nat}{Q:Bool->Shared->Prop}:
  ∀ {ds es:List D} {xs ys:List V} {us ws:List Value} {i:Nat},(b && i == 0)=false->Dp n (wW n) ds es->RDs X.K H ds xs->RDs X.K H es ys->Vals xs us->Vals ys ws->ds.length+N2=es.length+N1->Q (cS (iq n) ds es) s->
   KatLex X.prog X.w A b (decide (N1 < N2)) Q (us.zip ws) i s
 | [],es,xs,ys,us,ws,i,hb,c,r1,r2,w1,w2,hl,q=>by
  rw[r1.inv_nil]at w1;cases w1;rw[List.zip_nil_left];refine kat_nil ?_;cases es with
  | nil=>
   simp only[length_nil]at hl;rw[decide_eq_false (by walk_at "o")]
   exact q
  | cons b t=>
   simp only[length_nil,length_cons]at hl;rw[decide_eq_true (by walk_at "o")]
   exact q
 | a::r,[],xs,ys,us,ws,i,hb,c,r1,r2,w1,w2,hl,q=>by
  rw[r2.inv_nil]at w2;cases w2;rw[List.zip_nil_right];refine kat_nil ?_;simp only[length_nil,length_cons]at hl;rw[decide_eq_false (by walk_at "o")]
  exact q
 | a::r,b'::t,xs,ys,us,ws,i,hb,⟨p,c,z⟩,r1,r2,w1,w2,hl,q=>by
  obtain⟨x1,t1,e1,g1,g2⟩:=r1.inv_cons;subst e1;obtain⟨x2,t2,e2,f1,f2⟩:=r2.inv_cons;subst e2;cases w1 with
  | cons k1 w1=>
  cases w2 with
  | cons k2 w2=>
   rw[zip_cons_cons];refine kat_cons ((pP I n p.1 p.2 g1 f1 k1 k2 hu).eq X.prog X.w _ _ (kat_go (fun e=>kat_yes ?_) fun e=>kat_no ?_))
   ·rw[show cS (iq n) (a::r) (b'::t)=cS (iq n) r t by simp[cS,e]]at q
    simp only[length_cons]at hl;exact AG I hu (by simp) z g2 f2 w1 w2 (by walk_at "o") q
   ·rw[show cS (iq n) (a::r) (b'::t)=iq n a b' by simp[cS,e]]at q
    rw[hb];refine kat_one _ _ ?_;exact (By I n (c fun y=>by rw[y,bj]at e;cases e) g1 f1 k1 k2 hu) X.prog X.w _ _ q
def wu(d:D):Prop:=∃ t r,d=.tup (.int t::r)
theorem DL(I:L2.Inv X pins τ H s){A:Around}(hu:A.units+4 < cLine){kx ky:D}{v u:V}{v' u':Value}(cp:wW 4 kx ky)(hx:wu kx)(hy:wu ky)(rx:RD X.K H kx v)(ry:RD X.K H ky u)(lx:aD v v')(ly:aD u u'){C:Bool->Shared->Prop}{E:Value->Shared->Prop}
  (q:C (iq 4 kx ky) s):wpAny (model X.prog X.w) A (keyLt' (tuples' true) v' u') C E s:=by
 obtain⟨i,r,rfl⟩:=hx;obtain⟨j,t,rfl⟩:=hy;simp only[RD]at rx ry;obtain⟨a,xs,rfl,s1,r1⟩:=rx;obtain⟨b,ys,rfl,s2,r2⟩:=ry;cases lx;cases ly;obtain⟨its,w1,⟨o1,h1,c1,n1,d1⟩,z1⟩:=I.tuple s1;obtain⟨its2,w2,⟨o2,h2,c2,n2,d2⟩,z2⟩:=I.tuple s2;refine kat_lt h1 d1 h2 d2 ?_;have l1:=w1.length;have l1':=r1.length;have l2:=w2.length;have l2':=r2.length;obtain⟨x1,t1,e1,g1,g2⟩:=RDs.inv_cons (d:=.int i) (ds:=r) r1;subst e1;obtain⟨x2,t2,e2,f1,f2⟩:=RDs.inv_cons (d:=.int j) (ds:=t) r2;subst e2;simp only[RD]at g1 f1;subst g1 f1;cases w1 with
 | @cons _ u1 _ m1 k1 w1=>
 cases w2 with
 | @cons _ u2 _ m2 k2 w2=>
  obtain⟨tk,rfl⟩:=k1;obtain⟨tk',rfl⟩:=k2;obtain⟨p,c,z⟩:=(show Dp 3 (wW 3) (.int i::r) (.int j::t)from cp)
  have q':C (cS (iq 3) (.int i::r) (.int j::t)) s:=q;show KatLex _ _ _ _ _ _ ((_::m1).zip (_::m2)) 0 s
  rw[zip_cons_cons];refine kat_cons ((pP I 3 (x:=.int i) (y:=.int j) (v:=.int i) (u:=.int j) p.1 p.2 dL dL ⟨tk,rfl⟩ ⟨tk',rfl⟩ (by walk_at "o")).eq X.prog X.w _ _ (kat_go (fun e=>kat_yes ?_) fun e=>kat_no ?_))
  ·rw[show cS (iq 3) (.int i::r) (.int j::t)=cS (iq 3) r t by simp[cS,e]]at q'
   simp only[length_cons]at l1 l1' l2 l2';exact AG I (by walk_at "o") (by simp) z g2 f2 w1 w2 (by simp only[size_toArray,length_cons];omega) q'
  ·rw[show cS (iq 3) (.int i::r) (.int j::t)=iq 3 (.int i) (.int j)by simp[cS,e]]at q'
   show wpAny _ _ (oneLt' true _ _) _ _ _
   exact oneLt_int q'
theorem BJ(I:L2.Inv X pins τ H s){A:Around}{E:Value->Shared->Prop}{Q:SortKind->Shared->Prop}{ks:List D}{kv:List V}{ku:List Value}(hk:∀ d∈ks,wu d)(r:RDs X.K H ks kv)(w:Vals kv ku)(hn:0 < ks.length)(q:Q (tuples' true) s):
  wpAny (model X.prog X.w) A (keyKind' ku.toArray) Q E s:=by
 have go:∀ {ks:List D} {kv:List V} {ku:List Value},(∀ d∈ks,wu d)->RDs X.K H ks kv->Vals kv ku->∃ fs,KatTups s.heap ku fs/\fs.length=ks.length/\∀ v∈fs,∃ i t,v=Value.int i t:=by
  intro ks
  induction ks with
  | nil=>
   intro kv ku _ r w;rw[r.inv_nil]at w;cases w;exact⟨[],KatTups.nil,rfl,fun v hv=>by simp at hv⟩
  | cons d t ih=>
   intro kv ku hk r w;obtain⟨x1,t1,e1,g1,g2⟩:=r.inv_cons;subst e1;cases w with
   | cons k1 w=>
    obtain⟨fs,h1,h2,h3⟩:=ih (fun d hd=>hk d (mem_cons_of_mem _ hd)) g2 w;obtain⟨i,rr,rfl⟩:=hk d mem_cons_self;simp only[RD]at g1;obtain⟨a,xs,rfl,s1,r1⟩:=g1;cases k1;obtain⟨its,w1,⟨o1,e1,c1,n1,d1⟩,z1⟩:=I.tuple s1;obtain⟨y1,u1,e2,g3,_⟩:=RDs.inv_cons (d:=.int i) (ds:=rr) r1;subst e2;simp only[RD]at g3;subst g3;cases w1 with
    | cons k2 w1=>
     obtain⟨tk,rfl⟩:=k2;refine⟨.int i tk::fs,KatTups.cons e1 c1 d1 (by simp) h1,by simp[h2],fun v hv=>?_⟩
     rcases mem_cons.mp hv with rfl|hv
     ·exact⟨i,tk,rfl⟩
     ·exact h3 v hv
 obtain⟨fs,h1,h2,h3⟩:=go hk r w;refine kat_kind (T:=.type "int") h1 (by walk_at "o") (fun v hv=>?_) (by decide) ?_
 ·obtain⟨i,t,rfl⟩:=h3 v hv;exact Looks.of_pure rfl
 ·rw[show (Value.type "int" != Value.type "tuple")=true by decide]
  exact q
end
section
variable{X:Cx}{pins:List (Addr×Obj)}{τ:St}{H H0:Hp}{s:Shared}{G:Gp}{S D0:Addr}{A:Around}{E:Value->Shared->Prop}{P:PySem.Fin->Shared->Prop}
theorem sd(I:L2.Inv X pins τ H s)(rg:RG X.K H G)(kp:Kp G H0 G H)(nS:H0 S=none)(nD:H0 D0=none)(gS:G S=none)(gD:G D0=none)(hne:S≠D0){e1 n:Nat}{ku out:List Value}{ov:List V}{st:SortSt}
  (eD:H D0=some (XO D0 (seqObj "list" #[] e1))) (eS:H S=some (XO S (seqObj "list" ku.toArray n))) (hz:ku.length < 64) (ho:(arrOf st).map (·.2)=out.toArray) (hf:failedOf st=none) (hv:Vals ov out) (hl:out.length < 64)
  (q:∀ H' s',L2.Inv X pins τ H' s'->Kp G H0 G H'->RG X.K H' G->H' D0=some (.lst ov)->Stb X.K H H'->P (.done (.ret .none)) s'):wpAny (model X.prog X.w) A (ksk_tail D0 false e1 (.ref S) st) P E s:=by
 unfold ksk_tail;dsimp only;rw[ho];simp only[Bool.false_eq_true,if_false];have oS:=js I eS;have e2:=get?_update_seq oS (fun _=>(#[]:Array Value));have mu:yN (H S):=by rw[eS];exact trivial
 have I1:=no (t':=s.toks) I eS e2;have eD1:(bB H S (XO S (seqObj "list" #[] (if ((#[]:Array Value).size == ku.toArray.size)=true then n else n+1)))) D0=some (XO D0 (seqObj "list" #[] e1)):=by rw[au hne.symm];exact eD
 have oD:=js I1 eD1;have mu2:yN ((bB H S (XO S (seqObj "list" #[] (if ((#[]:Array Value).size == ku.toArray.size)=true then n else n+1)))) D0):=by rw[eD1];exact trivial
 have e3:=get?_update_seq oD (fun _=>out.toArray);refine wpAny_bind (listUpdate_at oS rfl ?_ (by rw[size_toArray,sizeLine_eq];omega) (zero_le _))
 refine wpAny_bind (wpAny_letGo ?_);refine wpAny_bind (seqEpoch_at oD rfl ?_);refine wpAny_bind (listUpdate_at oD rfl ?_ (zero_le _) (by rw[size_toArray,sizeLine_eq];omega))
 rw[hf];simp only[bne_self_eq_false,Bool.false_eq_true,if_false];have I2:=I1.write (x:=D0) (e:=D0) (o:=.lst ov) (t':=s.toks) mu2 (.inl rfl) (fun b u hb hu=>(Heap.get?_update_other _ (Obj.mapSeq fun _=>out.toArray) (Ne.symm hb)).trans hu) ⟨_,e3⟩ ⟨by rw[hv.length,sizeLine_eq];omega,out,_,hv,e3⟩
 refine wpAny_pure (q _ _ I2 (td (td kp nS) nD) (vf (vf rg gS mu) gD mu2) aT ?_);exact⟨fun b xs z=>(ja mu2).t _ _ ((ja mu).t _ _ z),fun b xs z=>(ja mu2).l _ _ ((ja mu).l _ _ z)⟩
theorem wE{vs:List V}{us:List Value}(w:Vals vs us)(i:Nat)(hi:i < vs.length):aD (vs.getD i .non) (us.getD i .none):=by
 have hl:=w.length;obtain⟨v,e,r⟩:=Vals.getV (i:=i) (u:=us[i]'(by walk_at "o")) w (by simp)
 rw[getD_eq_getElem?_getD,getD_eq_getElem?_getD,e,getElem?_eq_getElem (by walk_at "o")]
 exact r
theorem sV{vs:List V}{us:List Value}(w:Vals vs us):∀ {p:List Nat},(∀ i∈p,i < vs.length)->Vals (p.map fun i=>vs.getD i .non) (p.map fun i=>us.getD i .none)
 | [],_=>.nil
 | i::r,h=>.cons (wE w i (h i mem_cons_self)) (sV w fun j hj=>h j (mem_cons_of_mem _ hj))
theorem yo{K:Frag}{ds:List D}{vs:List V}(r:RDs K H ds vs)(i:Nat)(hi:i < vs.length):RD K H (ds.getD i .non) (vs.getD i .non):=by
 obtain⟨d,e,q⟩:=RDs.getV (i:=i) r (getElem?_eq_getElem hi);rw[getD_eq_getElem?_getD,getD_eq_getElem?_getD,e,getElem?_eq_getElem hi];exact q
theorem qL{K:Frag}{ds:List D}{vs:List V}(r:RDs K H ds vs):∀ {p:List Nat},(∀ i∈p,i < vs.length)->RDs K H (p.map fun i=>ds.getD i .non) (p.map fun i=>vs.getD i .non)
 | [],_=>RDs.nil
 | i::t,h=>RDs.cons (yo r i (h i mem_cons_self)) (qL r fun j hj=>h j (mem_cons_of_mem _ hj))
theorem range_getD{α:Type}(l:List α)(d:α):(List.range l.length).map (fun i=>l.getD i d)=l:=by
 refine List.ext_getElem (by simp) fun i h1 h2=>?_
 simp[h2]
theorem Ad(I:L2.Inv X pins τ H s)(rg:RG X.K H G)(kp:Kp G H0 G H)(nS:H0 S=none)(nD:H0 D0=none)(gS:G S=none)(gD:G D0=none)(hne:S≠D0){e1 n:Nat}{ks:List D}{kv vs:List V}{ku us:List Value}
  (eD:H D0=some (XO D0 (seqObj "list" #[] e1))) (eS:H S=some (XO S (seqObj "list" ku.toArray n))) (rk:RDs X.K H ks kv) (wk:Vals kv ku) (wv:Vals vs us) (hl:ku.length=us.length) (hz:us.length < 64) (hu:A.units+4 < cLine)
  (hk:∀ d∈ks,wu d) (hc:∀ a∈ks,∀ b∈ks,wW 4 a b) (r:Nat->Nat) (hr:∀ i j a b,ks[i]?=some a->ks[j]?=some b->iq 4 a b=decide (r i < r j))
  (q:∀ (p:List Nat) H' s',p.Perm (List.range us.length)->(p.map r).Pairwise (·<=·)->L2.Inv X pins τ H' s'->Kp G H0 G H'->RG X.K H' G->H' D0=some (.lst (p.map fun i=>vs.getD i .non))->Stb X.K H H'->P (.done (.ret .none)) s'):
  wpAny (model X.prog X.w) A (ksk_end D0 false us.toArray e1 (.ref S) ku.toArray) P E s:=by
 have lk:=wk.length;have lk':=rk.length;have lv:=wv.length;unfold ksk_end;dsimp only;simp only[Bool.false_eq_true,if_false]
 by_cases h2:us.length < 2
 ·have hs:us.toArray.size < 2:=by rw[size_toArray];exact h2
  rw[if_pos hs,if_pos hs];refine wpAny_bind (wpAny_pure ?_);refine wpAny_bind (wpAny_pure ?_);refine sd I rg kp nS nD gS gD hne eD eS (by walk_at "o") (out:=us) (ov:=vs) (st:=SortSt.mk' general' (ku.toArray.zip us.toArray) #[] 7 none) ?_ rfl wv hz fun H' s' I' kp' rg' e' st'=>?_
  ·apply Array.toList_inj.mp;show ((ku.toArray.zip us.toArray).map (·.2)).toList=_
   rw[Array.toList_map,ksk_zip];simp[List.map_snd_zip,hl]
  ·refine q (List.range us.length) H' s' (List.Perm.refl _) ?_ I' kp' rg' (by rw[<- lv,range_getD];exact e') st'
   have:us.length=0\/us.length=1:=by walk_at "o"
   rcases this with e|e<;>rw[e]<;>simp[List.range_succ]
 ·have hs:¬ us.toArray.size < 2:=by rw[size_toArray];exact h2
  rw[if_neg hs,if_neg hs];obtain⟨p,ep,hp,adj⟩:=yZ r us.length (by walk_at "o")
  refine wpAny_bind (BJ I hk rk wk (by walk_at "o") ?_)
  refine wpAny_bind (wpAny_mono (kat_run (Q:=fun st' s'=>∃ p':Array Nat,arrOf st'=p'.map (kas_item (ku.toArray.zip us.toArray))/\failedOf st'=none/\s'=s/\p'=p) hl (by walk_at "o") hz (G:=fun p' s'=>s'=s/\p'=p)
   (fun p' st' s' a1 a2 a3 a4=>⟨p',a2,a3,a4.1,a4.2⟩) ?_) ?_ fun _ _ x=>x)
  ·refine KasT.walked (lt:=iY r) (J:=fun s'=>s'=s) (fun i j C s' hi hj e c=>?_) _ s (y0 (by walk_at "o")) rfl fun s' e _=>⟨e,ep⟩
   subst e;unfold kas_ask;obtain⟨v1,f1,g1⟩:=Vals.getV (i:=i) (u:=ku[i]'(by walk_at "o")) wk (by simp)
   obtain⟨v2,f2,g2⟩:=Vals.getV (i:=j) (u:=ku[j]'(by walk_at "o")) wk (by simp)
   obtain⟨d1,b1,c1⟩:=RDs.getV rk f1;obtain⟨d2,b2,c2⟩:=RDs.getV rk f2;have m1:=mem_of_getElem? b1;have m2:=mem_of_getElem? b2;rw[show ku.getD i Value.none=ku[i]'(by walk_at "o")by simp[show i < ku.length by walk_at "o"],show ku.getD j Value.none=ku[j]'(by walk_at "o")by simp[show j < ku.length by walk_at "o"]]
   refine DL I hu (hc _ m1 _ m2) (hk _ m1) (hk _ m2) c1 c2 g1 g2 ?_;rw[hr i j d1 d2 b1 b2];exact c _ rfl
  ·rintro⟨⟨⟩,st'⟩ s' ⟨p',har,hf,rfl,rfl⟩
   dsimp only;have lp:p'.toList.length=us.length:=by rw[hp.length_eq,List.length_range]
   have inr:∀ i∈p'.toList,i < us.length:=fun i hi=>mem_range.mp (hp.mem_iff.mp hi);refine sd I rg kp nS nD gS gD hne eD eS (by walk_at "o") (out:=p'.toList.map fun i=>us.getD i Value.none) (ov:=p'.toList.map fun i=>vs.getD i .non) (kat_snds hl har) hf (sV wv fun i hi=>by rw[lv];exact inr i hi) (by rw[length_map,lp];exact hz) fun H' s' I' kp' rg' e' st'=>?_
   refine q p'.toList H' s' hp ?_ I' kp' rg' e' st';rw[List.pairwise_map,List.pairwise_iff_getElem];intro i j hi hj hij;have h:=adj.le (le_of_lt hij) (by walk_at "o")
   unfold RR at h;have gi:p'.getD i 0=p'.toList[i]:=by
    have:i < p'.size:=by simpa using hi
    simp[Array.getD,this]
   have gj:p'.getD j 0=p'.toList[j]:=by
    have:j < p'.size:=by simpa using hj
    simp[Array.getD,this]
   rw[gi,gj]at h;exact h
end
structure SortBy(sp:eF)(G:Gp)(ds:List D)(ks:List D)(r:Nat->Nat):Prop where
 few:ds.length < 64
 len:ks.length=ds.length
 key:∀ (i:Nat) d kd,ds[i]?=some d->ks[i]?=some kd->sp [d] G fun z G'=>z=kd/\G'=G
 ki:∀ d∈ks,wu d
 cp:∀ a∈ks,∀ b∈ks,wW 4 a b
 lt:∀ i j a b,ks[i]?=some a->ks[j]?=some b->iq 4 a b=decide (r i < r j)
section
variable{X:Cx}{pins:List (Addr×Obj)}{τ:St}{H H0:Hp}{s:Shared}{G:Gp}{S D0:Addr}{A:Around}{E:Value->Shared->Prop}{P:PySem.Fin->Shared->Prop}
 {k:Nat} {f:Addr} {fd:FuncData} {ps:List Str} {sp:eF} {ds ks:List D} {r:Nat->Nat} {vs:List V} {us:List Value}
theorem xv(F:FnOk X.prog X.w X.K X.mg X.base fk k f fd ps (aE X.K sp))(hb:e8 X.K fd ps [])(hr:Room k A)(hA:∀ {s H},L2.Inv X pins τ H s->Env0 X.prog X.w X.K X.mg X.base A X.stack s H)(sb:SortBy sp G ds ks r)(hu:A.units+4 < cLine)
  (I:L2.Inv X pins τ H s) (rg:RG X.K H G) (kp:Kp G H0 G H) (nS:H0 S=none) (nD:H0 D0=none) (gS:G S=none) (gD:G D0=none) (hne:S≠D0) {e1:Nat}
  (eD:H D0=some (XO D0 (seqObj "list" #[] e1))) (eS:H S=some (XO S (seqObj "list" #[] 0))) (rd:RDs X.K H ds vs) (wv:Vals vs us)
  (q:∀ (p:List Nat) H' s',p.Perm (List.range ds.length)->(p.map r).Pairwise (·<=·)->L2.Inv X pins τ H' s'->Kp G H0 G H'->RG X.K H' G->H' D0=some (.lst (p.map fun i=>vs.getD i .non))->Stb X.K H H'->P (.done (.ret .none)) s'):
  wpAny (model X.prog X.w) A (ksk_rest D0 (.ref f) false us.toArray e1 (.ref S)) P E s:=by
 have l1:=rd.length;have l2:=wv.length;have few:=sb.few;unfold ksk_rest;refine wpAny_bind (wpAny_rule ?_)
 first
  | rw[List.forIn_toArray]
  | (rw[<- Array.forIn_toList];simp only[List.toList_toArray])
  | rw[<- Array.forIn_toList]
 refine wpAny_bind (tf F hb hr hA nS nD gS gD hne (fun x s' Q' h=>?_) sb.len (fun i d kd a b=>⟨sb.key i d kd a b,fun l e=>?_⟩) I kp rg rd wv eD (ku:=[]) (n:=0) (done:=[]) (kv:=[]) eS RDs.nil .nil (by simp only[length_nil];omega)
  fun H' s' kv' ku' n' I' kp' rg' eD' eS' rk wk st=>?_)
 ·refine wpAny_bind (wpAny_attempt (wpAny_mono h (fun u s'' hu'=>?_) fun _ _ hF=>hF.elim));dsimp only;exact wpAny_bind (wpAny_mono hu' (fun _ s3 hq=>wpAny_pure hq) fun _ _ x=>x)
 ·obtain⟨t,rr,e2⟩:=sb.ki kd (mem_of_getElem? b);rw[e2]at e;cases e
 ·have l3:=rk.length;have l4:=wk.length;have sl:=sb.len;simp only[nil_append]at rk l3;refine wpAny_bind (listItems_at (js I' eS') rfl ?_);refine Ad I' rg' kp' nS nD gS gD hne eD' eS' rk wk wv (by walk_at "o") (by walk_at "o") hu sb.ki sb.cp r sb.lt fun p H'' s'' hp hs I'' kp'' rg'' e'' st''=>?_
  refine q p H'' s'' (by rw[show ds.length=us.length by walk_at "o"];exact hp) hs I'' kp'' rg'' e'' ⟨fun b xs z=>st''.t _ _ (st.t _ _ z),fun b xs z=>st''.l _ _ (st.l _ _ z)⟩
theorem r9(F:FnOk X.prog X.w X.K X.mg X.base fk k f fd ps (aE X.K sp))(hb:e8 X.K fd ps [])(hr:Room k A)(hA:∀ {s H},L2.Inv X pins τ H s->Env0 X.prog X.w X.K X.mg X.base A X.stack s H)(sb:SortBy sp G ds ks r)(hu:A.units+4 < cLine)
  (I:L2.Inv X pins τ H s) (rg:RG X.K H G) (kp:Kp G H0 G H) (h0:∀ a,H a=none->H0 a=none) (nD:H0 D0=none) (gD:G D0=none) {n:Nat}
  (eD:H D0=some (XO D0 (seqObj "list" us.toArray n))) (rd:RDs X.K H ds vs) (wv:Vals vs us)
  (q:∀ (p:List Nat) H' s',p.Perm (List.range ds.length)->(p.map r).Pairwise (·<=·)->L2.Inv X pins τ H' s'->Kp G H0 G H'->RG X.K H' G->H' D0=some (.lst (p.map fun i=>vs.getD i .non))->Stb X.K H H'->P (.done (.ret .none)) s'):
  wpAny (model X.prog X.w) A (ksk_tree D0 (.ref f) false) P E s:=by
 have l1:=rd.length;have l2:=wv.length;have few:=sb.few;have oD:=js I eD;have mu:yN (H D0):=by rw[eD];exact trivial
 have e2:=get?_update_seq oD (fun _=>(#[]:Array Value));generalize (if ((#[]:Array Value).size == us.toArray.size)=true then n else n+1)=e1 at e2
 have I1:=no (t':=s.toks) I eD e2;unfold ksk_tree;refine wpAny_bind (listItems_at oD rfl ?_);refine wpAny_bind (listUpdate_at oD rfl ?_ (by rw[size_toArray,sizeLine_eq];omega) (zero_le _))
 refine wpAny_bind (seqEpoch_at e2 rfl ?_);refine wpAny_bind (wpAny_newTuple ?_ (by show us.length<=_;rw[sizeLine_eq];omega))
 refine wpAny_bind (wpAny_newList ?_ (zero_le _));refine wpAny_holding ?_;have I2:L2.Inv X pins τ _ { s with heap:=(s.heap.update D0 (Obj.mapSeq fun _=>#[])).push { cls:=.type "tuple",data:=.seq us.toArray } }:=I1.kept (t':=s.toks) fun b u e=>Heap.get?_push_of_some _ e
 have fS:=I2.fresh;have I3:=kN (t':=s.toks) (o:=seqObj "list" #[] 0) I2 rfl rfl;have hS0:H ((s.heap.update D0 (Obj.mapSeq fun _=>(#[]:Array Value))).push { cls:=.type "tuple",data:=.seq us.toArray }).objs.size=none:=by
  by_cases e:((s.heap.update D0 (Obj.mapSeq fun _=>(#[]:Array Value))).push { cls:=.type "tuple",data:=.seq us.toArray }).objs.size=D0
  ·rw[e]at fS;rw[aT]at fS;cases fS
  ·rw[au e]at fS;exact fS
 have hne:((s.heap.update D0 (Obj.mapSeq fun _=>(#[]:Array Value))).push { cls:=.type "tuple",data:=.seq us.toArray }).objs.size≠D0:=fun e=>by rw[e,eD]at hS0;cases hS0
 have rg1:RG X.K (bB H D0 (XO D0 (seqObj "list" #[] e1))) G:=vf rg gD mu;have st1:Stb X.K H (bB H D0 (XO D0 (seqObj "list" #[] e1))):=ja mu;have st2:Stb X.K (bB H D0 (XO D0 (seqObj "list" #[] e1))) (bB (bB H D0 (XO D0 (seqObj "list" #[] e1))) ((s.heap.update D0 (Obj.mapSeq fun _=>(#[]:Array Value))).push { cls:=.type "tuple",data:=.seq us.toArray }).objs.size (XO ((s.heap.update D0 (Obj.mapSeq fun _=>(#[]:Array Value))).push { cls:=.type "tuple",data:=.seq us.toArray }).objs.size (seqObj "list" #[] 0))):=(Kp.laid (G:=G) fS).stb rg1;refine xv F hb hr hA sb hu I3 (rg1.laid fS) (td (td kp nD) (h0 _ hS0)) (h0 _ hS0) nD (rg.free hS0) gD hne (by rw[au hne.symm,aT]) aT (RDs.mono st2 _ _ (RDs.mono st1 _ _ rd)) wv fun p H' s' hp hs I' kp' rg' e' st'=>?_
 exact q p H' s' hp hs I' kp' rg' e' ⟨fun b xs z=>st'.t _ _ (st2.t _ _ (st1.t _ _ z)),fun b xs z=>st'.l _ _ (st2.l _ _ (st1.l _ _ z))⟩
theorem ub{d vw:Addr}{Q:Value->Shared->Prop}(F:FnOk X.prog X.w X.K X.mg X.base fk k f fd ps (aE X.K sp))(hb:e8 X.K fd ps [])(hr:Room (k+2) X.A)(sb:SortBy sp G ds ks r)(hu:X.A.units+8 < cLine)(hh:X.A.handled=none)
  (I:L2.Inv X pins τ H s) (rg:RG X.K H G) {ep:Nat} (hv:s.heap.IsValuesView vw d) (dr:jw s.heap d us ep) (rd:RDs X.K H ds vs) (wv:Vals vs us)
  (q:∀ (p:List Nat) D0 H' s',p.Perm (List.range ds.length)->(p.map r).Pairwise (·<=·)->L2.Inv X pins τ H' s'->Kp G H G H'->RG X.K H' G->H D0=none->H' D0=some (.lst (p.map fun i=>vs.getD i .non))->RDs X.K H' (p.map fun i=>ds.getD i .non) (p.map fun i=>vs.getD i .non)->Q (.ref D0) s'):
  wpAny (model X.prog X.w) X.A (call (.builtin "sorted") [.ref vw] [(Str.ofString "key",.ref f)]) Q E s:=by
 have l1:=rd.length;have l2:=wv.length;have few:=sb.few;refine call_function_entry_kw kind_sorted plain_sorted entry_sorted (ksk_s1 _ _) ?_;unfold Builtin.«sorted»;refine wpAny_bind (m:=checkCount "sorted" 1 1 _) (wpAny_pure ?_);refine wpAny_bind (kdu_collect (A:=X.A.in1) (zc (r:=vw) (d:=d) (vs:=us) (ep:=ep)) hh ⟨hv,dr⟩ (by rw[sizeLine_eq];omega) fun h' tk acc hk hacc=>?_)
 have ea:acc.toList=us:=by
  refine List.ext_getElem? fun i=>?_;rcases lt_or_ge i acc.size with h|h
  ·have e:acc[i]?=some acc[i]:=by simp[h]
   have:=hacc.2 i _ e;rw[this];simp[h]
  ·rw[getElem?_eq_none (by simpa using h),getElem?_eq_none (by rw[<- hacc.1];exact h)]
 rw[ea];have I1:L2.Inv X pins τ H { s with heap:=h',toks:=tk }:=I.kept hk
 refine wpAny_bind (wpAny_newList ?_ (by rw[sizeLine_eq];omega))
 have fD:=I1.fresh;have I2:=kN (t':=tk) (o:=seqObj "list" us.toArray 0) I1 rfl rfl;have st:Stb X.K H (bB H h'.objs.size (XO h'.objs.size (seqObj "list" us.toArray 0))):=(Kp.laid (G:=G) fD).stb rg;refine wpAny_bind (wpAny_holding (wpAny_call_entry_kw slot_list_sort ⟨_,js I2 aT,rfl⟩ entry_list_sort ?_ (ksk_l1 _ _)));rw[ksk_t1];refine r9 F hb (hr.in1.in1) (fun J=>J.env0.in1.in1) sb (by show X.A.units+1+1+4 < cLine;omega) I2 (rg.laid fD) (Kp.laid fD) (fun a e=>?_) fD (rg.free fD) aT (RDs.mono st _ _ rd) wv fun p H' s' hp hs I' kp' rg' e' st'=>⟨_,rfl,?_⟩
 ·by_cases h:a=h'.objs.size
  ·subst h;exact fD
  ·rw[au h]at e;exact e
 ·refine wpAny_pure ⟨_,rfl,q p _ H' s' hp hs I' kp' rg' fD e' (qL (RDs.mono st' _ _ (RDs.mono st _ _ rd)) fun i hi=>?_)⟩;rw[<- l1];exact mem_range.mp (hp.mem_iff.mp hi)
end
def uU(sp:eF)(to:bJ):bJ:=fun σ G Q=>to σ G fun x G1=>match val x with
 | .ref a=>match G1 a with
  | some (.dT _ kvs)=>∃ ks r,SortBy sp G1 (kvs.map (·.2)) ks r/\∀ p:List Nat,p.Perm (List.range (kvs.map (·.2)).length)->(p.map r).Pairwise (·<=·)->Q (.fl (p.map fun i=>(kvs.map (·.2)).getD i .non)) G1
  | _=>False
 | _=>False
theorem xu{K:Frag}{H:Hp}{kvs:List (List aN×D)}{xs:List (List aN×Addr×Value)}(r:j7 K H kvs xs):∃ vs,RDs K H (kvs.map (·.2)) vs/\Vals vs (xs.map (·.2.2)):=by
 unfold j7 at r
 induction r with
 | nil=>exact⟨[],RDs.nil,.nil⟩
 | cons h _ ih=>
  obtain⟨_,_,v,h1,h2⟩:=h;obtain⟨vs,a,b⟩:=ih;exact⟨v::vs,RDs.cons h1 a,.cons h2 b⟩
theorem zA{X:Cx}{k:Nat}{f:Str}{sp:eF}{o:Expr}{to:bJ}{p0 apos cpos np kpos pos:Pos}(F:Fn3 X.prog X.w X.K X.mg X.base k f [] sp)(hr:Room (k+2) X.A)(hc:X.calm=true)(hgf:Gl X f)(hg:Gl X "sorted")(hm:X.mg "sorted"=none)(ho:PE X o (aJ X.K to))
  (hbase:attributeBase o "values" X.env (eval o X.env)=eval o X.env:=by rfl) (hline:(apos.endLine == cpos.line)=true:=by rfl) (hdf:(f == ("__debug__":Str))=false:=by decide):
  PE X (.Call (.Name "sorted" p0) [.Call (.Attribute o "values" apos) [] [] cpos] [⟨some "key",.Name f np,kpos⟩] pos) (aJ X.K (uU sp to)):=by
 obtain⟨fa,fd,ps,dv,dvs,ok,hmf,_,hb,hv0,hd0⟩:=F.ex;have e0:dvs=[]:=(hd0 (fun _=>none)).inv_nil;subst e0;cases hv0;have hu:=hr.units
 rintro pins s τ H Q I ⟨σ,G,Q3,rs,rg,h,kf⟩
 refine wpAny_Call_Name_kw (gI I hg hm (u:=.builtin "sorted") (by decide +kernel) ?_ (by decide) (by decide))
 refine callWith_kw (id:="sorted") ?_;show wpAny _ _ (spliced [(false,eval (.Call (.Attribute o "values" apos) [] [] cpos) X.env)]) _ _ _
 refine Calls.spliced_cons (wpAny_Call_method0_late hbase hline (bZ (cR ho I rs rg h) fun ov s1 zz=>?_));obtain⟨ox,H1,I1,rox,x,G1,q1,k1,rg1,rd1⟩:=zz;split at q1
 ·rename_i a hx;rw[hx]at rd1;simp only[RD]at rd1;subst rd1;cases rox;split at q1
  ·rename_i hw kvs hga;obtain⟨ks,r,sb,q1⟩:=q1;obtain⟨hob,eo,ro⟩:=rg1 a _ hga;cases hob with
   | ext φ=>
    obtain⟨xs,rfl,rt,nd,hz⟩:=ro;obtain⟨hsm,o1,es,ep,g1,g2,g3,g4⟩:=(show bK X.prog X.w H1 s1.heap a (.ext (rY hw a xs))from I1.hok a _ eo).1
    obtain⟨vs,rv,wv⟩:=xu rt;have dr:jw s1.heap a (xs.map (·.2.2)) ep:=⟨o1,es,g1,g2,g3,by rw[g4,map_map];rfl⟩
    refine⟨"dict","dict.values",PySem.F.plainAttrs_dict,PySem.F.slot_dict_values,PySem.F.type_dict_values,dr.ty,fun b e=>?_,?_⟩
    ·cases e;exact⟨o1,g1,g2.2.1⟩
    ·refine Calls.callWith_builtin rfl (PySem.evalArgs_none (call_meetsIn PySem.F.slot_dict_values dr.ty PySem.F.entry_dict_values (PySem.F.args_dict_values_1 _) (um hsm) ⟨⟨_,ep,dr⟩,?_⟩));refine Calls.spliced_nil ?_;have I2:L2.Inv X pins τ H1 { s1 with heap:=s1.heap.push { cls:=.type "dict_values",data:=.fields #[.ref a] } }:=I1.kept (t':=s1.toks) fun b u e=>Heap.get?_push_of_some _ e
     show wpAny _ _ (evalAll [(do let v <- eval (.Name f np) X.env;standAt pos;pure v)]) _ _ _
     refine wpAny_evalAll_cons (wpAny_bind (j0 I2 hgf hmf (wpAny_bind (wpAny_standAt (wpAny_pure (wpAny_evalAll_nil ?_)))) hdf));show wpAny _ _ (call (.builtin "sorted") [.ref s1.heap.objs.size] [(Str.ofString "key",.ref fa)]) _ _ _
     refine ub ok hb hr sb (by walk_at "o") (I.ok.hd hc) I2 rg1 (ep:=ep) ⟨_,Heap.get?_push_size _ rfl,rfl,rfl⟩ (dr.stay fun b e=>Heap.get?_push_of_some _ e) rv wv fun p D0 H' s' hp hs I' kp' rg' n0 e' rd'=>?_
     exact⟨.ref D0,H',I',rfl,kf _ G1 _ H' (q1 p hp hs) (k1.trans kp') rg' (.inl ⟨_,D0,_,rfl,rfl,e',rg1.free n0,rd',k1.fr (mq n0)⟩)⟩
   | _=>exact ro.elim
  ·exact q1.elim
 ·exact q1.elim
def Dl(te:bJ):bJ:=fun σ G Q=>te σ G fun x G1=>match pX G1 (val x) with
 | some ds=>Q (.fl ds.reverse) G1
 | none=>False
def B4(to:bJ):bJ:=fun σ G Q=>to σ G fun x G1=>match x with
 | .ref a=>match G1 a with
  | some (.lst _)=>Q .non (gset G1 a (.lst []))
  | _=>False
 | _=>False
def CS{α:Type}(xs:List α)(lo hi st:Option Int):List α:=
 (sliceRange (sliceBounds lo hi st xs.length).1 (sliceBounds lo hi st xs.length).2.1 (sliceBounds lo hi st xs.length).2.2).filterMap (xs[·]?)
def Di(te:bJ)(tl th ts:Ao):bJ:=fun σ G Q=>te σ G fun x G1=>tl σ G1 fun l G2=>th σ G2 fun u G3=>ts σ G3 fun st G4=>st≠some 0/\match pX G4 (val x) with
 | some ds=>Q (.fl (CS ds l u st)) G4
 | none=>False
def rX(K:Frag)(mg:Str->Option Value)(x:Str)(d:D):Prop:=∃ u v,mg x=some u/\aD v u/\∀ H,RD K H d v
theorem iG{X:Cx}{x:Str}{d:D}{pos:Pos}(hg:Gl X x)(h:rX X.K X.mg x d)(hd:(x == ("__debug__":Str))=false:=by decide):PE X (.Name x pos) (aJ X.K (eC d)):=by
 obtain⟨u,v,hm,r,rd⟩:=h;exact vk hg hm r rd hd
theorem wL{K:Frag}{mg:Str->Option Value}{x:Str}{ds:List D}{vs:List V}{its:Array Value}{a:Addr}{n:Nat}{sl:Array (Option Value)}(hm:mg x=some (.ref a))(hl:K.lookup a=some ⟨.type "tuple",none,.seq its n,sl⟩)
  (hz:its.size<=sizeLine) (w:Vals vs its.toList) (r:∀ H,RDs K H ds vs):rX K mg x (.tup ds):=
 ⟨.ref a,.ref a,hm,rfl,fun H=>km (.inr ⟨_,its,n,hl,⟨rfl,rfl⟩,rfl,hz,w⟩) (r H)⟩
end L3
namespace L2
open PySem PySem.Spec PyProof.Rows
theorem Inv.turnedL{X:Cx}{pins:List (Addr×Obj)}{σ:St}{H:Hp}{s:Shared}{h':Heap}{t':Nat}{fp:List Addr}(I:Inv X pins σ H s)(k:∀ b o,b∉fp->s.heap.get? b=some o->h'.get? b=some o)(hf:∀ b∈fp,k_ X pins H b):
  Inv X pins σ H { s with heap:=h',toks:=t' }:=by
 have nit:∀ b u,H b=some u->b∉fp:=fun b u e z=>by rw[(hf b z).1]at e;cases e
 have hL:X.env.locals∉fp:=fun z=>(hf _ z).2.1 rfl;refine I.step (g':=s.gens) (d':=s.drawn) (ch:=fp) (fun b hb=>⟨(hf b hb).2.2.2.1,(hf b hb).2.1,(hf b hb).2.2.2.2.1,(hf b hb).2.2.2.2.2⟩) (fun b o _ _ hc e _=>k b o hc e) (fun b o _ _ hc e _=>⟨o.slots,k b o hc e⟩) (fun _ _ _ _ n=>n)
  (fun b o hc e=>⟨o,k b o hc e⟩) (fun _ _ e=>e) (fun _ _ _ e=>e) (fun b ps e=>⟨#[],by rw[e];simp⟩) (fun m hm=>?_) (fun b u e=>?_) I.bare
 ·obtain⟨o,es,ep,ho,r⟩:=hm;exact⟨o,es,ep,k _ o hL ho,r⟩
 ·refine (I.hok b u e).stay (fun c v hc q=>k c v ?_ q) (fun _ q=>q) fun _ _ q=>q;rcases hc with z|z
  ·rw[z];exact nit b u e
  ·exact nit c _ z
end L2
namespace L3
open PySem PySem.Spec PyProof.Rows L2
def fC(a b:String):Bool:=(a == b) || ((a == "bool") && (b == "int"))
def gr(b:String):Prop:=b="int"\/b="bool"\/b="str"\/b="tuple"\/b="list"
def EF:vL:=fun ds G Q=>match ds with
 | [d,.ty T]=>gr T/\∃ T',qR G d=some T'/\Q (.bl (fC T' T)) G
 | _=>False
def Dr:vL:=fun ds G Q=>match ds with
 | [.bl b]=>Q (.int (if b then 1 else 0)) G
 | _=>False
end L3
namespace L2
open PySem PySem.Spec PyProof.Rows
end L2
namespace L3
open PySem PySem.Spec PyProof.Rows L2
def ud(c:mv)(tb:dg):dg:=fun E σ G=>∃ W:Nat->fH->Gp->Prop,(∃ m,W m σ G)/\∀ m σ' G',W m σ' G'->
 c σ' G' fun b G1=>if b=true then ∃ N:fH->Gp->Prop,(∀ σ2 G2,N σ2 G2->∃ m',m' < m/\W m' σ2 G2)/\tb { E with nx:=N,ct:=N,bk:=E.nx } σ' G1 else E.nx σ' G1
theorem zf{X:Cx}{c:Expr}{body:List Stmt}{tc:mv}{tb:dg}{pos:Pos}(hp:PassesOwn (model X.prog X.w) X.A X.env X.xe)(hc:PT X c (df X.K tc))(hb:kZ X body (cF X.K tb)):PS X (.While c body [] pos) (cF X.K (ud tc tb)):=
 (xG hp hc hb).imp fun D τ H ⟨σ,G,D3,rs,rg,⟨W,⟨m0,w0⟩,turn⟩,k⟩=>by
  refine⟨fun m τ' H'=>∃ σ' G',RS X.K H' σ' τ'/\RG X.K H' G'/\W m σ' G'/\Kp G H G' H',⟨m0,σ,G,rs,rg,w0,Kp.refl⟩,?_⟩
  rintro m τ' H' ⟨σ',G',rs',rg',w',k'⟩
  refine⟨σ',G',_,rs',rg',turn m σ' G' w',fun b G1 H1 q k1 rg1=>?_⟩;cases b with
  | true=>
   rw[if_pos rfl]at q ⊢;obtain⟨N,hN,q⟩:=q;refine⟨fun τ2 H2=>∃ σ2 G2,RS X.K H2 σ2 τ2/\RG X.K H2 G2/\N σ2 G2/\Kp G H G2 H2,fun τ2 H2 ⟨σ2,G2,a,b,n,d⟩=>?_,?_⟩
   ·obtain⟨m',hm,w2⟩:=hN σ2 G2 n;exact⟨m',hm,σ2,G2,a,b,w2,d⟩
   ·have kG:=k'.trans k1;exact⟨σ',G1,_,rs'.mono (k1.stb rg'),rg1,q,⟨fun σ4 G4 τ4 H4 q4 k4 rg4 rs4=>⟨σ4,G4,rs4,rg4,q4,kG.trans k4⟩,k.rt.base kG,fun σ4 G4 τ4 H4 q4 k4=>k.nx σ4 G4 τ4 H4 q4 (kG.trans k4),fun σ4 G4 τ4 H4 q4 k4 rg4 rs4=>⟨σ4,G4,rs4,rg4,q4,kG.trans k4⟩⟩⟩
  | false=>
   rw[if_neg Bool.false_ne_true]at q ⊢;exact k.nx σ' G1 τ' H1 q (k'.trans k1) rg1 (rs'.mono (k1.stb rg'))
theorem BR:gr "int"=True:=eq_true (by unfold gr;simp)
theorem tx:fC "int" "int"=true:=by decide
theorem qZ:fC "int" "bool"=false:=by decide
theorem tw:fC "int" "str"=false:=by decide
theorem oM:fC "int" "tuple"=false:=by decide
theorem qY:fC "int" "list"=false:=by decide
theorem zV:gr "bool"=True:=eq_true (by unfold gr;simp)
theorem q_:fC "bool" "int"=true:=by decide
theorem oO:fC "bool" "bool"=true:=by decide
theorem q0:fC "bool" "str"=false:=by decide
theorem ni:fC "bool" "tuple"=false:=by decide
theorem oN:fC "bool" "list"=false:=by decide
theorem BQ:gr "str"=True:=eq_true (by unfold gr;simp)
theorem tu:fC "str" "int"=false:=by decide
theorem qV:fC "str" "bool"=false:=by decide
theorem tq:fC "str" "str"=true:=by decide
theorem oH:fC "str" "tuple"=false:=by decide
theorem qU:fC "str" "list"=false:=by decide
theorem yf:gr "tuple"=True:=eq_true (by unfold gr;simp)
theorem oG:fC "tuple" "int"=false:=by decide
theorem ng:fC "tuple" "bool"=false:=by decide
theorem oF:fC "tuple" "str"=false:=by decide
theorem ma:fC "tuple" "tuple"=true:=by decide
theorem m_:fC "tuple" "list"=false:=by decide
theorem zU:gr "list"=True:=eq_true (by unfold gr;simp)
theorem qX:fC "list" "int"=false:=by decide
theorem oK:fC "list" "bool"=false:=by decide
theorem qW:fC "list" "str"=false:=by decide
theorem nh:fC "list" "tuple"=false:=by decide
theorem oJ:fC "list" "list"=true:=by decide
def cG:List Str->List D->Str->Option D
 | g::L,d::ds,f=>if g=f then some d else cG L ds f
 | _,_,_=>none
def fL(L:List Str)(f:Str):List Str:=match L with
 | []=>[f]
 | g::r=>if g=f then g::r else g::fL r f
def eZ:List Str->List D->Str->D->List D
 | g::L,x::ds,f,d=>if g=f then d::ds else x::eZ L ds f d
 | _,_,_,d=>[d]
section
variable{K:Frag}{H:Hp}
theorem nC:∀ {gs:List (Str×V)} {ds:List D} {f:Str} {d:D},RDs K H ds (gs.map (·.2))->cG (gs.map (·.1)) ds f=some d->∃ v,gs.lookup f=some v/\RD K H d v
 | [],ds,f,d,r,e=>by simp[cG]at e
 | (g,u)::t,ds,f,d,r,e=>by
  cases ds with
  | nil=>simp[cG]at e
  | cons x ds=>
   obtain⟨y,q,e1,h1,h2⟩:=r.inv_cons;rw[map_cons,List.cons.injEq]at e1;obtain⟨rfl,e1⟩:=e1;simp only[map_cons,cG]at e;split at e
   ·rename_i hg;cases e;subst hg;exact⟨u,by rw[lookup_cons,beq_self_eq_true],h1⟩
   ·rename_i hg;obtain⟨v,e2,h3⟩:=nC (gs:=t) (by rw[e1];exact h2) e
    exact⟨v,by rw[lookup_cons,show (f == g)=false by simpa using Ne.symm hg];exact e2,h3⟩
theorem sA:∀ {gs:List (Str×V)} {f:Str} {v:V},(gl f v gs).map (·.1)=fL (gs.map (·.1)) f
 | [],f,v=>rfl
 | (g,u)::t,f,v=>by
  simp only[gl,map_cons,fL];split
  ·rename_i hg;simp[hg]
  ·simp[sA (gs:=t)]
theorem sB:∀ {gs:List (Str×V)} {ds:List D} {f:Str} {v:V} {d:D},RDs K H ds (gs.map (·.2))->RD K H d v->RDs K H (eZ (gs.map (·.1)) ds f d) ((gl f v gs).map (·.2))
 | [],ds,f,v,d,r,h=>by
  have:eZ ([]:List Str) ds f d=[d]:=by unfold eZ;rfl
  exact RDs.cons h RDs.nil
 | (g,u)::t,ds,f,v,d,r,h=>by
  cases ds with
  | nil=>exact absurd r.length (by simp)
  | cons x ds=>
   obtain⟨y,q,e1,h1,h2⟩:=r.inv_cons;rw[map_cons,List.cons.injEq]at e1;obtain⟨rfl,e1⟩:=e1;simp only[gl,map_cons,eZ];split
   ·rename_i hg;subst e1;exact RDs.cons h h2
   ·exact RDs.cons h1 (sB (gs:=t) (by rw[e1];exact h2) h)
end
def fE(cs:List Addr)(f:Str)(to:bJ):bJ:=fun σ G Q=>to σ G fun x G1=>match x with
 | .ref a=>match G1 a with
  | some (.ins C L ds)=>C∈cs/\match cG L ds f with
   | some d=>Q d G1
   | none=>False
  | _=>False
 | _=>False
def gQ(cs:List Addr)(f:Str)(to tv:bJ):dg:=fun D σ G=>tv σ G fun d G1=>to σ G1 fun x G2=>match x with
 | .ref a=>match G2 a with
  | some (.ins C L ds)=>(C∈cs/\L.length < 1000)/\D.nx σ (gset G2 a (.ins C (fL L f) (eZ L ds f (val d))))
  | _=>False
 | _=>False
def fi(cs:List (Addr×eF))(m:Str)(dds:List D)(to:bJ)(ta:j6):bJ:=fun σ G Q=>to σ G fun x G1=>match x with
 | .ref a=>match G1 a with
  | some (.ins C L _)=>m∉L/\∃ sp,(C,sp)∈cs/\ta σ G1 fun ds G2=>sp (.ref a::(ds ++ dds)) G2 Q
  | _=>False
 | _=>False
section
variable{X:Cx}{o e:Expr}{es:List Expr}{to te:bJ}{t:j6}{pos apos:Pos}{k:Nat}{m:Str}{dds:List D}{sp:eF}
theorem ie{f:Str}{cs:List Addr}(tab:∀ C∈cs,Cls X.K C/\eW X.K C f)(ho:PE X o (aJ X.K to))(hb:attributeBase o f X.env (eval o X.env)=eval o X.env:=by rfl):PE X (.Attribute o f pos) (aJ X.K (fE cs f to)):=
 (Bs ho hb).imp fun τ H Q zz=>by
 obtain⟨σ,G,Q3,rs,rg,h,kk⟩:=zz;exact (
  ⟨σ,G,_,rs,rg,h,fun d G1 v H1 q k1 rg1 re=>by
    cases d with
    | ref a=>
     dsimp only at q;split at q
     ·rename_i C L ds hg;obtain⟨hc,q⟩:=q;split at q
      ·rename_i d hd;obtain⟨ho,e1,ro⟩:=rg1 a _ hg;cases ho with
       | ins C2 dx gs=>
        obtain⟨rfl,r2,r3⟩:=ro;subst r2;obtain⟨w,hw,rd⟩:=nC r3 hd;exact⟨a,_,dx,gs,w,re.ref,e1,(tab _ hc).1,(tab _ hc).2,hw,kk _ G1 _ H1 q k1 rg1 (.of rd)⟩
       | _=>exact ro.elim
      ·exact q.elim
     ·exact q.elim
    | _=>exact q.elim⟩)
theorem gg{f:Str}{cs:List Addr}{pos':Pos}(tab:∀ C∈cs,Cls X.K C/\eW X.K C f)(ho:PE X o (aJ X.K to))(hv:PE X e (aJ X.K te))(hs:swapsWith e (some (.Attribute o f pos')) pos.line X.env=pure false:=by rfl):
  PS X (.Assign [.Attribute o f pos'] e pos) (cF X.K (gQ cs f to te)):=
 (Bj ho (fI hv) hs).imp fun Dd τ H zz=>by
 obtain⟨σ,G,D3,rs,rg,h,kk⟩:=zz;exact (
  ⟨σ,G,_,rs,rg,h,fun d G1 v H1 q1 k1 rg1 rd=>⟨σ,G1,_,rs.mono (k1.stb rg),rg1,q1,fun x G2 u H2 q2 k2 rg2 re=>by
    cases x with
    | ref a=>
     dsimp only at q2;split at q2
     ·rename_i C L ds hg;obtain⟨⟨hc,hl⟩,q2⟩:=q2;obtain⟨ho,e1,ro⟩:=rg2 a _ hg;cases ho with
      | ins C2 dx gs=>
       obtain⟨rfl,r2,r3⟩:=ro;subst r2;have rd2:=RD.mono (k2.stb rg1) _ _ rd;obtain⟨kp,rg3⟩:=Bg (gs':=gl f v gs) (L':=fL (gs.map (·.1)) f) (ds':=eZ (gs.map (·.1)) ds f (val d)) rg2 e1 sA (sB r3 rd2) (by rw[hg];exact fun z=>nomatch z)
       exact⟨a,_,dx,gs,re.ref,e1,(tab _ hc).1,(tab _ hc).2,by simpa using hl,kk.nx _ _ _ _ q2 ((k1.trans k2).trans kp) rg3 (rs.mono ((((k1.trans k2).trans kp)).stb rg))⟩
      | _=>exact ro.elim
     ·exact q2.elim
    | _=>exact q2.elim⟩⟩)
theorem gn{pl:Sem Bool}{cs:List (Addr×eF)}(tab:∀ c∈cs,∃ k',k'<=k/\Mt3 X.prog X.w X.K X.mg X.base k' c.1 m dds c.2)(hr:Room k X.A)(ho:PE X o (aJ X.K to))
  (ht:eval (.Call (.Attribute o m apos) [] [] pos) X.env=(do
   let ov <- eval o X.env
   standAt apos.atName
   let (f,first) <- holding [ov] (getMethod ov m pl)
   callWith pos f first (backTo pos (starEach [] X.env)) (backToKw pos (keywordEach [] X.env))):=by rfl):
  PE X (.Call (.Attribute o m apos) [] [] pos) (aJ X.K (fi cs m dds to az)):=by
 rintro pins s τ H Q I ⟨σ,G,Q3,rs,rg,h,kk⟩
 refine PySem.W.methodCall_KW (pl:=pl) (bZ (cR ho I rs rg h) fun u s1 zz=>?_) ht;obtain⟨x,H1,I1,rx,d,G1,q,k1,rg1,rd⟩:=zz;cases d with
 | ref a=>
  simp only[val,RD]at rd;subst rd;obtain rfl:u=Value.ref a:=rx;dsimp only at q;split at q
  ·rename_i C L ds hg;obtain⟨hL,sp,hc,q⟩:=q;obtain⟨k',hk,F⟩:=tab _ hc;obtain⟨f,fd,ps,ds',dvs,ok,hm,hb,hv,hd⟩:=F.ex;obtain⟨ho,e1,ro⟩:=rg1 a _ hg;cases ho with
   | ins C2 dx gs=>
    obtain⟨rfl,r2,r3⟩:=ro;refine uS I1 e1 F.cl hm (wm (K:=X.K) r2 hL) ?_;exact PySem.W.callWith_K0 (first:=[.ref a]) I1.kIn hm.kp (ug (us:=[.ref a]) (vs:=[.ref a]) ok (hr.mono hk) hb hv vj I1 (.cons rfl .nil) ⟨.ref a::([] ++ dds),G1,Q3,RDs.cons h_ (hd H1),rg1,q,kk.base k1⟩)
   | _=>exact ro.elim
  ·exact q.elim
 | _=>exact q.elim
structure Cf3(P:Program)(w:World)(K:Frag)(mg:Str->Option Value)(base:Heap)(k:Nat)(x m:Str)(dds:List D)(sp:eF):Prop where
 ex:∃ C f fd ps ds dvs,FnOk P w K mg base fk k f fd ps (aE K sp)/\mg x=some (.ref C)/\specialIn K (.ref C) "__getattribute__"=some (some (.builtin "type.__getattribute__"))/\readsIn K C (.type "type")=true/\
  findCls K (.ref C) (.type "type") m=some (.val (.ref f))/\keepIn K (.ref f)=true/\e8 K fd ps ds/\Vals dvs ds/\∀ H,RDs K H dds dvs
theorem iP{pl:Sem Bool}{x:Str}{p:Pos}(F:Cf3 X.prog X.w X.K X.mg X.base k x m dds sp)(hr:Room k X.A)(hg:Gl X x)(ha:PA X (e::es) (eT X.K t))(hdb:(x == ("__debug__":Str))=false:=by decide)
  (hst:starEach (e::es) X.env=(false,eval e X.env)::starEach es X.env:=by rfl) (hpl:(backTo pos (starEach es X.env)).any (·.1)=false:=by rfl)
  (ht:eval (.Call (.Attribute (.Name x p) m apos) (e::es) [] pos) X.env=(do
   let ov <- eval (.Name x p) X.env
   standAt apos.atName
   let (f,first) <- holding [ov] (getMethod ov m pl)
   callWith pos f first (backTo pos (starEach (e::es) X.env)) (backToKw pos (keywordEach [] X.env))):=by rfl):
  PE X (.Call (.Attribute (.Name x p) m apos) (e::es) [] pos) (aJ X.K (bD sp dds t)):=by
 obtain⟨C,f,fd,ps,ds,dvs,ok,hm,hga,hrd,hfc,hk,hb,hv,hd⟩:=F.ex;intro pins s τ H Q I h;refine PySem.W.methodCall_KW (pl:=pl) (bZ (vi (v:=.ref C) hg hm rfl hdb pins s τ H (fun v H1=>v=.ref C/\H1=H) I ⟨rfl,rfl⟩) fun u s1 zz=>?_) ht;obtain⟨v,H1,I1,rx,e1,e2⟩:=zz;subst e1 e2;obtain rfl:u=Value.ref C:=rx;refine PySem.W.method_cls I1.kIn hga (PySem.W.cls_value I1.kIn hrd hfc rfl ?_);have I2:=I1.tok (s1.toks+1);obtain⟨σ,G,Q3,rs,rg,h,kk⟩:=h;refine callWith_K (first:=[]) (h₀:=X.base) I.ok.mod.kin hk (bZ (ha pos pins _ τ H1 (fun vs H2=>∃ ds G1,sp (ds ++ dds) G1 Q3/\Kp G H1 G1 H2/\RG X.K H2 G1/\RDs X.K H2 ds vs) I2 ⟨σ,G,_,rs,rg,h,fun ds G1 vs H2 q k1 rg1 rds=>⟨ds,G1,q,k1,rg1,rds⟩⟩) fun us s2 ⟨vs,H2,I3,r,ds1,G1,q2,k1,rg1,rds⟩=>⟨I3.kIn,?_⟩) hst hpl
 exact ug (us:=us) (vs:=vs) ok hr hb hv vj I3 r ⟨ds1 ++ dds,G1,Q3,rds.append (hd _),rg1,q2,kk.base k1⟩
end
end L3
theorem L3.all_cons{α:Type}{p:α->Prop}{a:α}{l:List α}(h:p a)(t:∀ x∈l,p x):∀ x∈a::l,p x:=fun x hx=>by
 rcases mem_cons.mp hx with rfl|hx
 ·exact h
 ·exact t x hx
namespace L3
open PySem PySem.Spec PyProof.Rows L2 PySem.SeqAt PySem.W
def nj:D->Bool
 | .non=>true
 | _=>false
def Ep:R3:=fun x y G Q=>match y with
 | .non=>Q (.bl (nj x)) G
 | _=>False
def sM:R3:=fun x y G Q=>match y with
 | .non=>Q (.bl (!nj x)) G
 | _=>False
section
variable{X:Cx}
theorem xw{K:Frag}{G0 G:Gp}{H0 H:Hp}{x:D}{v:V}{u:Value}(r:RE K G0 H0 G H x v)(l:aD v u):(u == Value.none)=nj x:=by
 cases x with
 | non=>rw[r.non]at l;cases l;rfl
 | fl ds=>
  obtain⟨p,xs,rfl,_⟩:=r.fl;cases l;rfl
 | lst ds=>
  obtain⟨a,xs,rfl,_⟩:=r.lst;cases l;rfl
 | tup ds=>
  obtain⟨a,xs,rfl,_⟩:=r.tup;cases l;rfl
 | int i=>rw[r.int]at l;obtain⟨t,rfl⟩:=l;rfl
 | str i=>rw[r.str]at l;obtain⟨t,rfl⟩:=l;rfl
 | bl i=>rw[r.bl]at l;cases l;rfl
 | ref a=>rw[r.ref]at l;cases l;rfl
 | ty T=>
  have:=r.rd (by intro ds z;cases z)
  simp only[RD]at this;subst this;cases l;rfl
theorem AV:g_ X (compareOp .IsNot) (eR X.K sM):=by
 rintro pins s σ H v u v' u' Q I rv ru ⟨x,y,G0,H0,G,Q3,rx,ry,rg,h,k⟩
 unfold sM at h;split at h
 ·rw[ry.non]at ru;cases ru;refine isnot_none_gen ?_;rw[xw rx rv];exact⟨.bl _,H,I,rfl,k _ G _ H h Kp.refl rg (.of gf)⟩
 ·exact h.elim
end
section
variable{X:Cx}{o i:Expr}{to ti:bJ}{pos:Pos}
theorem uA(hu:X.A.units+8 < cLine)(hi:PE X i (aJ X.K ti))(ho:PE X o (aJ X.K to))(hm:behindInMarks .In o=false:=by rfl):PT X (.Compare i [.In] [o] pos) (df X.K (d5 (rD (ah X.prog X.w) ti to))):=by
 refine (xE (op:=.In) (t:=aJ X.K (rD (ah X.prog X.w) ti to)) (fun pins s τ H Q I ⟨σ,G,Q3,rs,rg,h,k⟩=>?_) hm).imp fun τ H Q h=>p8 h;refine bZ (cR hi I rs rg h) fun iv s1 zz=>?_;obtain⟨iy,H1,I1,riy,y,G1,q1,k1,rg1,rd1⟩:=zz;refine bZ (cR ho I1 (rs.mono (k1.stb rg)) rg1 q1) fun ov s2 zz=>?_;obtain⟨ox,H2,I2,rox,x,G2,q2,k2,rg2,rd2⟩:=zz;obtain⟨r,l,q2⟩:=q2;exact AM (by walk_at "o") I2 rg2 l rd2 rox (RD.mono (k2.stb rg1) _ _ rd1) riy fun s3 I3=>⟨.bl r.isSome,H2,I3,rfl,k _ G2 _ H2 q2 (k1.trans k2) rg2 (.of gf)⟩
theorem v_(hu:X.A.units+8 < cLine)(hi:PE X i (aJ X.K ti))(ho:PE X o (aJ X.K to))(hm:behindInMarks .NotIn o=false:=by rfl):PT X (.Compare i [.NotIn] [o] pos) (df X.K (d5 (j4 (ah X.prog X.w) ti to))):=by
 refine (xE (op:=.NotIn) (t:=aJ X.K (j4 (ah X.prog X.w) ti to)) (fun pins s τ H Q I ⟨σ,G,Q3,rs,rg,h,k⟩=>?_) hm).imp fun τ H Q h=>p8 h;refine bZ (cR hi I rs rg h) fun iv s1 zz=>?_;obtain⟨iy,H1,I1,riy,y,G1,q1,k1,rg1,rd1⟩:=zz;refine bZ (cR ho I1 (rs.mono (k1.stb rg)) rg1 q1) fun ov s2 zz=>?_;obtain⟨ox,H2,I2,rox,x,G2,q2,k2,rg2,rd2⟩:=zz;obtain⟨r,l,q2⟩:=q2;exact yz (by walk_at "o") I2 rg2 l rd2 rox (RD.mono (k2.stb rg1) _ _ rd1) riy fun s3 I3=>⟨.bl (!r.isSome),H2,I3,rfl,k _ G2 _ H2 q2 (k1.trans k2) rg2 (.of gf)⟩
end
def uX(hw:List aN->Int)(tk tv:bJ):bJ:=fun σ G Q=>∀ p,G p=none->tk σ (gset G p (.dT hw [])) fun x G1=>tv σ G1 fun y G2=>match G2 p with
 | some (.dT hw' [])=>hw'=hw/\∃ ks,j1 (val x)=some ks/\Q (.ref p) (gset G2 p (.dT hw [(ks,val y)]))
 | _=>False
section
variable{X:Cx}{pos:Pos}
theorem zE{k v:Expr}{tk tv:bJ}(hu:X.A.units+8 < cLine)(hk:PE X k (aJ X.K tk))(hv:PE X v (aJ X.K tv)):PE X (.Dict [some k] [v] pos) (aJ X.K (uX (ah X.prog X.w) tk tv)):=fun pins s τ H Q I zz=>by
 obtain⟨σ,G,Q3,rs,rg,h,kk⟩:=zz;have hf:H s.heap.objs.size=none:=I.hok.fresh (le_refl _);obtain⟨kp,rg2⟩:=Aa (o:=.dT (ah X.prog X.w) []) (ho:=.ext (rY (ah X.prog X.w) s.heap.objs.size [])) rg hf fun H' _=>⟨[],rfl,.nil,nodup_nil,zero_le _⟩;have hd:(s.heap.objs.size == sysModules)=false:=beq_eq_false_iff_ne.mpr (Ne.symm (ne_of_lt I.big));have I1:=I.laid (a:=s.heap.objs.size) (t':=s.toks) (fun _ _ q=>Heap.get?_push_of_some _ q) (le_refl _) (kS (P:=X.prog) (w:=X.w) (hw:=ah X.prog X.w) (xs:=[]) ⟨hd,_,#[],0,Heap.get?_push_size (h:=s.heap) (o:={ cls:=.type "dict",data:=.dict #[] }) rfl,⟨rfl,rfl,rfl⟩,rfl,rfl⟩);refine wpAny_Dict_any (by rfl) (by rfl) (by simp) (by simp) ?_
 refine pairTrees_cons_walk (bZ (cR hk I1 (rs.mono (kp.stb rg)) rg2 (h _ (rg.free hf))) fun kv s1 zz=>?_);obtain⟨ox,H1,I2,rox,x,G1,q1,k1,rg1,rd1⟩:=zz;refine bZ (cR hv I2 (rs.mono ((kp.trans k1).stb rg)) rg1 q1) fun vv s2 zz=>?_;obtain⟨oy,H2,I3,roy,y,G2,q2,k2,rgb,rd2⟩:=zz;refine pairTrees_nil_walk ?_;unfold storeAll;rw[forIn_cons];split at q2
 ·rename_i hw' hg;obtain⟨rfl,ks,hks,q2⟩:=q2;have rd1':=RD.mono (k2.stb rg1) _ _ rd1;obtain⟨b,rfl,sq⟩:=mm hks rd1';cases rox;obtain⟨ho,e,r⟩:=rgb _ _ hg;cases ho with
  | ext φ=>
   obtain⟨xs,rfl,rt,nd,_⟩:=r;have e0:xs=[]:=by
    have:=rt.length;exact List.length_eq_zero_iff.mp this.symm
   subst e0;obtain⟨hd2,dd⟩:=rE I3 e rt nd;refine wpAny_bind (wpAny_bind (wpAny_dictSet_heap (hsz:=zero_le _) (show X.A.units < cLine by walk_at "o") (key_at I3 sq) dd fun h' dd' hs=>wpAny_pure ?_))
   dsimp only;rw[forIn_nil];refine wpAny_pure ?_;obtain⟨q,es,ep,hq,h2,h3,h4,_,h5⟩:=dd';obtain⟨kp3,rg3⟩:=rh (a:=s.heap.objs.size) (o:=.dT (ah X.prog X.w) (cm [] ks (val y))) (ho:=.ext (rY (ah X.prog X.w) s.heap.objs.size (storedH [] ks b vv))) rgb (by rw[hg];exact fun z=>nomatch z)
    fun H' st=>⟨_,rfl,(rt.put ks sq rd2 roy).mono st,jk ks (val y) nd,by have:=fB ([]:List (List aN×D)) ks (val y);have hs:=aq;simp only[length_nil]at this;omega⟩
   exact⟨.ref _,_,ms I3 (by rw[e];exact True.intro) hs ⟨q,hq⟩ (kS ⟨hd2,q,es,ep,hq,h2,h3,h4⟩),rfl,kk _ _ _ _ q2 (kp.trans (k1.trans (k2.trans kp3))) rg3 (.of h_)⟩
  | _=>exact r.elim
 ·exact q2.elim
end
def cT(x:D):List D->Nat
 | []=>0
 | d::r=>if dZ d x then 0 else cT x r+1
theorem pG{x:D}:∀ {ds:List D},x∈ds->∃ h:cT x ds < ds.length,ds[cT x ds]=x/\∀ m (hm:m < ds.length),m < cT x ds->ds[m]≠x
 | [],h=>absurd h (by simp)
 | d::r,h=>by
  unfold cT
  by_cases e:dZ d x=true
  ·simp only[e,if_true];exact⟨by simp,by simpa using gy.mp e,fun m hm z=>absurd z (Nat.not_lt_zero _)⟩
  ·have hne:d≠x:=fun z=>e (nF z);have hr:x∈r:=by
    rcases mem_cons.mp h with z|z
    ·exact absurd z.symm hne
    ·exact z
   obtain⟨h1,h2,h3⟩:=pG hr;simp only[e,if_false,Bool.false_eq_true];refine⟨by simp;omega,by simpa using h2,fun m hm z=>?_⟩
   cases m with
   | zero=>simpa using hne
   | succ m=>simpa using h3 m (by simpa using hm) (by walk_at "o")
def B3(to:bJ)(ta:j6):bJ:=fun σ G Q=>to σ G fun x G1=>match x with
 | .lst ds=>ta σ G1 fun es G2=>match es with
  | [y]=>(pl 7 y/\(∀ d∈ds,pl 7 d)/\y∈ds)/\Q (.int (cT y ds)) G2
  | _=>False
 | _=>False
def rB(sp:eF)(to:bJ):bJ:=fun σ G Q=>to σ G fun x G1=>match pX G1 (val x) with
 | some ds=>∃ ks r,SortBy sp G1 ds ks r/\∀ p:List Nat,p.Perm (List.range ds.length)->(p.map r).Pairwise (·<=·)->Q (.fl (p.map fun i=>ds.getD i .non)) G1
 | none=>False
section
variable{X:Cx}{pins:List (Addr×Obj)}{τ:St}{H H0:Hp}{s:Shared}{G:Gp}{E:Value->Shared->Prop}
 {k:Nat} {f:Addr} {fd:FuncData} {ps:List Str} {sp:eF} {ds ks:List D} {r:Nat->Nat} {vs:List V} {us:List Value}
theorem si{l:Addr}{Q:Value->Shared->Prop}(F:FnOk X.prog X.w X.K X.mg X.base fk k f fd ps (aE X.K sp))(hb:e8 X.K fd ps [])(hr:Room (k+2) X.A)(sb:SortBy sp G ds ks r)(hu:X.A.units+8 < cLine)
  (I:L2.Inv X pins τ H s) (rg:RG X.K H G) (hl:s.heap.IsList l us.toArray) (rd:RDs X.K H ds vs) (wv:Vals vs us)
  (q:∀ (p:List Nat) D0 H' s',p.Perm (List.range ds.length)->(p.map r).Pairwise (·<=·)->L2.Inv X pins τ H' s'->Kp G H G H'->RG X.K H' G->H D0=none->H' D0=some (.lst (p.map fun i=>vs.getD i .non))->RDs X.K H' (p.map fun i=>ds.getD i .non) (p.map fun i=>vs.getD i .non)->Q (.ref D0) s'):
  wpAny (model X.prog X.w) X.A (call (.builtin "sorted") [.ref l] [(Str.ofString "key",.ref f)]) Q E s:=by
 have l1:=rd.length;have l2:=wv.length;have few:=sb.few;refine call_function_entry_kw kind_sorted plain_sorted entry_sorted (ksk_s1 _ _) ?_;unfold Builtin.«sorted»;refine wpAny_bind (m:=checkCount "sorted" 1 1 _) (wpAny_pure ?_);refine wpAny_bind (collect_list hl ?_ (by rw[sizeLine_eq];omega))
 have hk:∀ b o,s.heap.get? b=some o->((s.heap.push (seqObj "list" #[] 0)).update s.heap.objs.size (Obj.mapSeq (· ++ us.toArray))).get? b=some o:=fun b o q=>by
  have hlt:b < s.heap.objs.size:=Heap.lt_size q;rw[Heap.get?_update_ne _ _ _ _ (ne_of_lt hlt),Heap.get?_push_ne _ _ _ (ne_of_lt hlt)];exact q
 generalize (s.heap.push (seqObj "list" #[] 0)).update s.heap.objs.size (Obj.mapSeq (· ++ us.toArray))=h' at hk ⊢;have I1:L2.Inv X pins τ H { s with heap:=h',toks:=s.toks }:=I.kept hk
 refine wpAny_bind (wpAny_newList ?_ (by rw[sizeLine_eq];omega))
 have fD:=I1.fresh;have I2:=kN (t':=s.toks) (o:=seqObj "list" us.toArray 0) I1 rfl rfl;have st:Stb X.K H (bB H h'.objs.size (XO h'.objs.size (seqObj "list" us.toArray 0))):=(Kp.laid (G:=G) fD).stb rg;refine wpAny_bind (wpAny_holding (wpAny_call_entry_kw slot_list_sort ⟨_,js I2 aT,rfl⟩ entry_list_sort ?_ (ksk_l1 _ _)));rw[ksk_t1];refine r9 F hb (hr.in1.in1) (fun J=>J.env0.in1.in1) sb (by show X.A.units+1+1+4 < cLine;omega) I2 (rg.laid fD) (Kp.laid fD) (fun a e=>?_) fD (rg.free fD) aT (RDs.mono st _ _ rd) wv fun p H' s' hp hs I' kp' rg' e' st'=>⟨_,rfl,?_⟩
 ·by_cases h:a=h'.objs.size
  ·subst h;exact fD
  ·rw[au h]at e;exact e
 ·refine wpAny_pure ⟨_,rfl,q p _ H' s' hp hs I' kp' rg' fD e' (qL (RDs.mono st' _ _ (RDs.mono st _ _ rd)) fun i hi=>?_)⟩;rw[<- l1];exact mem_range.mp (hp.mem_iff.mp hi)
end
theorem zB{X:Cx}{k:Nat}{f:Str}{sp:eF}{o:Expr}{to:bJ}{p0 np kpos pos:Pos}(F:Fn3 X.prog X.w X.K X.mg X.base k f [] sp)(hr:Room (k+2) X.A)(hgf:Gl X f)(hg:Gl X "sorted")(hm:X.mg "sorted"=none)(ho:PE X o (aJ X.K to))
  (hs:starEach [o] X.env=[(false,eval o X.env)]:=by rfl) (hdf:(f == ("__debug__":Str))=false:=by decide):
  PE X (.Call (.Name "sorted" p0) [o] [⟨some "key",.Name f np,kpos⟩] pos) (aJ X.K (rB sp to)):=by
 obtain⟨fa,fd,ps,dv,dvs,ok,hmf,_,hb,hv0,hd0⟩:=F.ex;have e0:dvs=[]:=(hd0 (fun _=>none)).inv_nil;subst e0;cases hv0;have hu:=hr.units
 rintro pins s τ H Q I ⟨σ,G,Q3,rs,rg,h,kf⟩
 refine wpAny_Call_Name_kw (gI I hg hm (u:=.builtin "sorted") (by decide +kernel) ?_ (by decide) (by decide))
 refine callWith_kw (id:="sorted") ?_ (he:=by rw[hs];rfl) (hplain:=by rw[hs];rfl)
 rw[show backTo pos (starEach [o] X.env)=[(false,eval o X.env)]by rw[hs];rfl]
 refine Calls.spliced_cons (bZ (cR ho I rs rg h) fun ov s1 zz=>?_);obtain⟨ox,H1,I1,rox,x,G1,q1,k1,rg1,rd1⟩:=zz;refine Calls.spliced_nil ?_;split at q1
 ·rename_i ds hq;obtain⟨ks,r,sb,q1⟩:=q1;obtain⟨b,xs,rfl,sq,rr⟩:=jv (G:=G1) (H:=H1) hq (.of rd1) rg1;cases rox;obtain⟨its,rv,pl,hz⟩:=I1.list sq;show wpAny _ _ (evalAll [(do let v <- eval (.Name f np) X.env;standAt pos;pure v)]) _ _ _
  refine wpAny_evalAll_cons (wpAny_bind (j0 I1 hgf hmf (wpAny_bind (wpAny_standAt (wpAny_pure (wpAny_evalAll_nil ?_)))) hdf));show wpAny _ _ (call (.builtin "sorted") [.ref b] [(Str.ofString "key",.ref fa)]) _ _ _
  refine si ok hb hr sb (by walk_at "o") I1 rg1 pl.isList rr rv fun p D0 H' s' hp hs I' kp' rg' n0 e' rd'=>?_
  exact⟨.ref D0,H',I',rfl,kf _ G1 _ H' (q1 p hp hs) (k1.trans kp') rg' (.inl ⟨_,D0,_,rfl,rfl,e',rg1.free n0,rd',k1.fr (mq n0)⟩)⟩
 ·exact q1.elim
def tm(c:Bool):Nat:=if c then 31 else 7
def Tb(c:Bool)(pl:Array Nat)(led plain:Bool):SetTable:={ mask:=tm c,place:=pl,dummies:=#[],finger:=0,led:=led,moves:=if c then 1 else 0,plain:=plain }
abbrev Pb:=SetTable.Probe
def look(c:Bool)(pl:Array Nat)(hs:Nat->Int)(same:Nat->Bool)(h:Int):Nat->Pb->Option (Option Nat)
 | 0,_=>none
 | f+1,p=>match (Tb c pl false false).probe hs h p with
  | none=>none
  | some (.empty j _)=>some (some j)
  | some (.candidate _ i next)=>if same i then some none else look c pl hs same h f next
structure OwnOk(owner:Array (Option Nat))(k:Nat):Prop where
 size:owner.size=32
 all:(owner.toList.filterMap id).Perm (List.range k)
def CD(es:Array (Int×Value))(ep:Nat)(t:SetTable):Obj:={ cls:=.type "set",dict:=none,data:=.set es ep t }
def nN(h:Heap)(b:Addr):Prop:=∃ o items n x t r,h.get? b=some o/\o.cls=.type "tuple"/\o.data=.seq items n/\items.toList=.str x t::r
section
variable{prog:Program}{w:World}{κ:Type}[DecidableEq κ]{kn:KeyKind prog w κ}{A:Around}{E:Value->Shared->Prop}{s:Shared}{a b:Addr}
abbrev hK(kn:KeyKind prog w κ):List κ->Int:=tupleKeyHash kn
def Ex(kn:KeyKind prog w κ)(xs:List (List κ×Addr)):Array (Int×Value):=(xs.map fun x=>(hK kn x.1,Value.ref x.2)).toArray
end
section
variable{prog:Program}{w:World}{κ:Type}[DecidableEq κ]{kn:KeyKind prog w κ}{A:Around}{E:Value->Shared->Prop}{s:Shared}{a b:Addr}
structure SetIs(kn:KeyKind prog w κ)(h:Heap)(a:Addr)(xs:List (List κ×Addr))(c:Bool)(pl:Array Nat)(l q:Bool):Prop where
 here:∃ ep,h.get? a=some (CD (Ex kn xs) ep (Tb c pl l q))
 len:pl.size=xs.length
 pq:q=true->xs=[]
end
section
variable{prog:Program}{w:World}{κ:Type}[DecidableEq κ]{kn:KeyKind prog w κ}{A:Around}{E:Value->Shared->Prop}{s:Shared}{a b:Addr}
theorem nN.stay{h h':Heap}(x:nN h a)(e:∀ o,h.get? a=some o->h'.get? a=some o):nN h' a:=by
 obtain⟨o,its,n,y,t,r,ho,z⟩:=x;exact⟨o,its,n,y,t,r,e o ho,z⟩
theorem SetIs.stay{h h':Heap}{xs:List (List κ×Addr)}{c:Bool}{pl:Array Nat}{l q:Bool}(x:SetIs kn h a xs c pl l q)(e:∀ o,h.get? a=some o->h'.get? a=some o):SetIs kn h' a xs c pl l q:=
 ⟨let ⟨ep,z⟩:=x.here;⟨ep,e _ z⟩,x.len,x.pq⟩
end
set_option maxRecDepth 100000
def E6(first:Value)(i n ep:Nat)(S:Addr):Obj:={ cls:=.type "set_iterator",data:=.fields #[first,.int i 0,.ref S,.int n 0,.int ep 0] }
inductive Mode(w:World)(h:Heap)(S:Addr)(es:Array (Int×Value))(ep:Nat)(t:SetTable)(vs:List Value)(tp:Addr)(i:Nat):Value->Prop
 | text (m:Int):w.params.followText "set-order"=true->vs=(pickOrder (w.params.setOrder S ep) es).toList.map (·.2)->Mode w h S es ep t vs tp i (.int m 0)
 | few (m:Nat):w.params.followText "set-order"=false->t.led=true->es.size<=1->vs=es.toList.map (·.2)->(i=0/\m=0\/i=1/\t.place=#[m - 1]/\0 < m)->Mode w h S es ep t vs tp i (.int m 0)
 | drawn (ys:List Nat):w.params.followText "set-order"=false->h.get? tp=some { cls:=.type "tuple",data:=.seq (ys.map fun (y:Nat)=>rawInt y).toArray }->ys.Perm (List.range es.size)->vs=ys.map (fun y=>(es[y]?.map (·.2)).getD .none)->tp≠S->Mode w h S es ep t vs tp i (.ref tp)
structure SIt(w:World)(h:Heap)(it S:Addr)(es:Array (Int×Value))(ep:Nat)(t:SetTable)(vs:List Value)(tp:Addr)(i:Nat):Prop where
 set:h.get? S=some (CD es ep t)
 fit:t.fits es.size=true
 here:∃ first,h.get? it=some (E6 first i es.size ep S)/\Mode w h S es ep t vs tp i first
set_option maxRecDepth 100000
section
variable{prog:Program}{w:World}{A:Around}{E:Value->Shared->Prop}{s:Shared}{it S tp:Addr}{es:Array (Int×Value)}{ep i:Nat}{t:SetTable}{vs:List Value}
theorem SIt.stay{h h':Heap}(x:SIt w h it S es ep t vs tp i)(k:∀ b,b=it\/b=S\/b=tp->∀ o,h.get? b=some o->h'.get? b=some o):SIt w h' it S es ep t vs tp i:=by
 obtain⟨hs,hf,first,e1,md⟩:=x
 refine⟨k S (.inr (.inl rfl)) _ hs,hf,first,k it (.inl rfl) _ e1,?_⟩
 cases md with
 | text m hb ev=>exact .text m hb ev
 | few m hb hl hz ev hm=>exact .few m hb hl hz ev hm
 | drawn ys hb et hp ev hts=>exact .drawn ys hb (k tp (.inr (.inr rfl)) _ et) hp ev hts
end
set_option maxRecDepth 100000
set_option maxRecDepth 100000
structure InsAsk(K:Frag)(C:Addr):Prop where
 cl:Cls K C
 ca:findIn K (.ref C) "__class__"=some (some (.builtin "object.__class__"))
 gs:specialIn K (.builtin "object.__class__") "__get__"=some (some (.builtin "getset_descriptor.__get__"))
 tk:takesIn K (.builtin "object.__class__")=some true
 mo:mroIn K C (.type "object")=some true
def rP(cs:List (Addr×Bool))(c:Addr):vL:=fun ds G Q=>match ds with
 | [.ref a,.ref c']=>c'=c/\match G a with
  | some (.ins C _ _)=>∃ b,(C,b)∈cs/\Q (.bl b) G
  | _=>False
 | _=>False
theorem qA{X:Cx}{nm:Str}{C:Addr}{pos:Pos}(hg:Gl X nm)(hm:X.mg nm=some (.ref C))(hd:(nm == ("__debug__":Str))=false:=by decide):PE X (.Name nm pos) (aJ X.K (eC (.ref C))):=vk (v:=.ref C) hg hm rfl (fun _=>by simp only[RD]) hd
theorem vE{X:Cx}{cs:List (Addr×Bool)}{c:Addr}(tab:∀ p∈cs,InsAsk X.K p.1/\kitOne X.K (.ref p.1) (.ref c)=some p.2):eE X (.builtin "isinstance") (lC X.K (rP cs c)):=by
 rintro pins s σ H vs us Q I rv ⟨ds,G,Q3,rds,rg,h,kk⟩
 unfold rP at h;split at h
 ·rename_i a c';obtain⟨rfl,h⟩:=h;split at h
  ·rename_i C L es hg;obtain⟨b,hb,hq⟩:=h;obtain⟨v,t,e,h1,h2⟩:=rds.inv_cons;obtain⟨u2,e2,h3⟩:=fP h2;simp only[RD]at h1 h3;subst e e2 h1 h3;obtain⟨u,w',rfl,ru,rw'⟩:=Ct rv;cases ru;cases rw';obtain⟨ho,e1,ro⟩:=rg a _ hg;cases ho with
   | ins C2 dx gs=>
    obtain⟨rfl,r2,r3⟩:=ro;obtain⟨t1,t2⟩:=tab _ hb;exact wz (x:=V.ref a) I rfl (TyOf.ins e1 t1.cl t1.ca t1.gs t1.tk t1.mo) t2 fun tk=>⟨.bl _,H,I.tok tk,rfl,kk _ G _ H hq Kp.refl rg (.of gf)⟩
   | _=>exact ro.elim
  ·exact h.elim
 ·exact h.elim
end L3
namespace RQ
open PySem PySem.Spec PyProof.Rows L2 L3
structure Rw where
 pen:Str
 num:Int
 time:Int
 act:D
instance:Inhabited Rw:=⟨⟨"",0,0,.non⟩⟩
def Rw.d(r:Rw):D:=.tup [.tup [.str r.pen,.int r.num],.int r.time,r.act]
def Rw.key(r:Rw):D:=.tup [.int r.time,.tup [.str r.pen,.int r.num]]
def Rw.ok(r:Rw):Prop:=pl 4 r.act
def Rw.lt(a b:Rw):Bool:=if a.time=b.time then (if a.pen=b.pen then decide (a.num < b.num)else decide (a.pen.cps.toList < b.pen.cps.toList))else decide (a.time < b.time)
def fj(rs:List Rw):Prop:=rs.Pairwise fun a b=>a.lt b=true
def e9(a b:Rw):Prop:=¬ (a.pen=b.pen/\a.num=b.num)
def fW(rs:List Rw):Prop:=∀ a∈rs,∀ b∈rs,a.pen=b.pen->a.num=b.num->a=b
abbrev HW:=List aN->Int
open PySem.W (SWO STO ot sS vo vq m5 rankIn rank_lt)
theorem rJ:STO (fun a b:List Nat=>decide (a < b)):=by
 have e:(fun a b:List Nat=>decide (a < b))=ot sS:=by funext a b;exact (m5 a b).symm
 rw[e];exact vq vo
theorem Aj{x y:Str}(h:x.cps.toList=y.cps.toList):x=y:=by
 cases x;cases y;simp only at h;rw[Array.toList_inj.mp h]
theorem lt_irrefl(a:Rw):a.lt a=false:=by simp[Rw.lt]
theorem lt_trans(a b c:Rw)(h1:a.lt b=true)(h2:b.lt c=true):a.lt c=true:=by
 unfold Rw.lt at *
 by_cases e1:a.time=b.time
 ·rw[if_pos e1]at h1
  by_cases e2:b.time=c.time
  ·rw[if_pos e2]at h2;rw[if_pos (e1.trans e2)]
   by_cases p1:a.pen=b.pen
   ·rw[if_pos p1]at h1
    by_cases p2:b.pen=c.pen
    ·rw[if_pos p2]at h2;rw[if_pos (p1.trans p2)];simp only[decide_eq_true_eq]at *
     omega
    ·rw[if_neg p2]at h2;rw[p1,if_neg p2];exact h2
   ·rw[if_neg p1]at h1
    by_cases p2:b.pen=c.pen
    ·rw[<- p2,if_neg p1];exact h1
    ·rw[if_neg p2]at h2;have h3:=rJ.trans _ _ _ h1 h2;rw[if_neg (fun e=>by rw[e,rJ.irrefl]at h3;cases h3)]
     exact h3
  ·rw[if_neg e2]at h2;rw[e1,if_neg e2];exact h2
 ·rw[if_neg e1]at h1
  by_cases e2:b.time=c.time
  ·rw[<- e2,if_neg e1];exact h1
  ·rw[if_neg e2]at h2;simp only[decide_eq_true_eq]at *
   rw[if_neg (by walk_at "o")]
   simp only[decide_eq_true_eq];omega
theorem x_(a b:Rw)(h1:a.lt b=false)(h2:b.lt a=false):a.pen=b.pen/\a.num=b.num/\a.time=b.time:=by
 unfold Rw.lt at *
 by_cases e1:a.time=b.time
 ·rw[if_pos e1]at h1;rw[if_pos e1.symm]at h2
  by_cases p1:a.pen=b.pen
  ·rw[if_pos p1]at h1;rw[if_pos p1.symm]at h2;simp only[decide_eq_false_iff_not]at *
   exact⟨p1,by walk_at "o",e1⟩
  ·rw[if_neg p1]at h1;rw[if_neg (Ne.symm p1)]at h2;exact absurd (Aj (rJ.tot _ _ h1 h2)) p1
 ·rw[if_neg e1]at h1;rw[if_neg (Ne.symm e1)]at h2;simp only[decide_eq_false_iff_not]at *
  omega
theorem ya{a b:Rw}(h:a.lt b=true):b.lt a=false:=by
 cases e:b.lt a with
 | false=>rfl
 | true=>have:=lt_trans _ _ _ h e;rw[lt_irrefl]at this;cases this
theorem zN{a b c:Rw}(p:a.pen=b.pen)(n:a.num=b.num)(t:a.time=b.time):a.lt c=b.lt c/\c.lt a=c.lt b:=by
 unfold Rw.lt;rw[p,n,t];exact⟨rfl,rfl⟩
theorem ue:SWO Rw.lt where
 irrefl:=lt_irrefl
 trans:=lt_trans
 neg:=fun a b c h=>by
  cases e:a.lt b with
  | true=>exact .inl rfl
  | false=>
   cases e2:b.lt c with
   | true=>exact .inr rfl
   | false=>
    cases e3:b.lt a with
    | true=>have:=lt_trans _ _ _ e3 h;rw[e2]at this;cases this
    | false=>
     obtain⟨p,n,t⟩:=x_ a b e e3;rw[(zN (c:=c) p n t).1,e2]at h;cases h
theorem gC:∀ {xs ys:List Rw},fj xs->fj ys->(∀ r,r∈xs↔r∈ys)->xs=ys
 | [],ys,_,_,h=>by
  cases ys with
  | nil=>rfl
  | cons y t=>have:=(h y).mpr mem_cons_self;simp at this
 | x::xs,[],_,_,h=>by have:=(h x).mp mem_cons_self;simp at this
 | x::xs,y::ys,h1,h2,h=>by
  unfold fj at h1 h2;rw[List.pairwise_cons]at h1 h2;have hxy:x=y:=by
   rcases mem_cons.mp ((h x).mp mem_cons_self)with e|m1
   ·exact e
   ·rcases mem_cons.mp ((h y).mpr mem_cons_self)with e|m2
    ·exact e.symm
    ·have a1:=h2.1 x m1;have a2:=h1.1 y m2;rw[ya a1]at a2;cases a2
  subst hxy;have nx:x∉xs:=fun m=>by have:=h1.1 x m;rw[lt_irrefl]at this;cases this
  have ny:x∉ys:=fun m=>by have:=h2.1 x m;rw[lt_irrefl]at this;cases this
  rw[gC h1.2 h2.2 fun r=>⟨fun m=>?_,fun m=>?_⟩]
  ·rcases mem_cons.mp ((h r).mp (mem_cons_of_mem _ m))with e|m'
   ·subst e;exact absurd m nx
   ·exact m'
  ·rcases mem_cons.mp ((h r).mpr (mem_cons_of_mem _ m))with e|m'
   ·subst e;exact absurd m ny
   ·exact m'
theorem hX{xs:List Rw}(h:fj xs):xs.Nodup:=List.Pairwise.imp (fun {a b} q e=>by subst e;rw[lt_irrefl]at q;cases q) h
theorem lK{xs:List Rw}(h:xs.Pairwise e9):xs.Nodup:=List.Pairwise.imp (fun {a b} q e=>by subst e;exact q ⟨rfl,rfl⟩) h
open Classical in
theorem gX:∀ {xs ys:List Rw},xs.Nodup->(∀ r∈xs,r∈ys)->xs.length<=ys.length
 | [],_,_,_=>zero_le _
 | x::xs,ys,h,s=>by
  rw[nodup_cons]at h;have hx:=s x mem_cons_self;have:=gX (ys:=ys.erase x) h.2 fun r hr=>(List.mem_erase_of_ne (fun e=>by subst e;exact h.1 hr)).mpr (s r (mem_cons_of_mem _ hr))
  rw[List.length_erase_of_mem hx]at this;have hp:0 < ys.length:=List.length_pos_of_mem hx;rw[length_cons];omega
theorem wN{rs:List Rw}(h:rs.Pairwise e9):fW rs:=by
 induction h with
 | nil=>intro a ha;simp at ha
 | @cons x xs h1 h2 ih=>
  intro a ha b hb p n;rcases mem_cons.mp ha with e|ha
  ·rcases mem_cons.mp hb with e'|hb
   ·rw[e,e']
   ·rw[e]at p n;exact absurd ⟨p,n⟩ (h1 b hb)
  ·rcases mem_cons.mp hb with e|hb
   ·rw[e]at p n;exact absurd ⟨p.symm,n.symm⟩ (h1 a ha)
   ·exact ih a ha b hb p n
theorem BD{rs ss:List Rw}(h:fW rs)(s:∀ r∈ss,r∈rs):fW ss:=fun a ha b hb=>h a (s a ha) b (s b hb)
theorem BM(a b:Rw):iq 4 a.key b.key=a.lt b:=by
 show cS (iq 3) [.int a.time,.tup [.str a.pen,.int a.num]] [.int b.time,.tup [.str b.pen,.int b.num]]=_
 unfold Rw.lt
 by_cases e:a.time=b.time
 ·rw[if_pos e];have h1:dZ (.int a.time) (.int b.time)=true:=by rw[e];exact bj _
  rw[show cS (iq 3) [.int a.time,.tup [.str a.pen,.int a.num]] [.int b.time,.tup [.str b.pen,.int b.num]]=cS (iq 3) [.tup [.str a.pen,.int a.num]] [.tup [.str b.pen,.int b.num]]by simp[cS,h1]]
  have inner:iq 3 (.tup [.str a.pen,.int a.num]) (.tup [.str b.pen,.int b.num])=if a.pen=b.pen then decide (a.num < b.num)else decide (a.pen.cps.toList < b.pen.cps.toList):=by
   show cS (iq 2) [.str a.pen,.int a.num] [.str b.pen,.int b.num]=_
   by_cases p:a.pen=b.pen
   ·have h2:dZ (.str a.pen) (.str b.pen)=true:=by rw[p];exact bj _
    rw[if_pos p]
    by_cases n:a.num=b.num
    ·have h3:dZ (.int a.num) (.int b.num)=true:=by rw[n];exact bj _
     simp[cS,h2,n,bj]
    ·have h3:dZ (.int a.num) (.int b.num)=false:=bA (by simpa using n)
     simp[cS,h2,h3,iq]
   ·have h2:dZ (.str a.pen) (.str b.pen)=false:=bA (by simpa using p)
    rw[if_neg p];simp[cS,h2,iq]
  by_cases t:(D.tup [.str a.pen,.int a.num])=.tup [.str b.pen,.int b.num]
  ·have h2:=nF t;simp only[D.tup.injEq,List.cons.injEq,D.str.injEq,D.int.injEq,and_true]at t;simp[cS,t.1,t.2,bj]
  ·rw[<- inner];simp[cS,bA t]
 ·rw[if_neg e];have h1:dZ (.int a.time) (.int b.time)=false:=bA (by simpa using e)
  simp[cS,h1,iq]
theorem zS(a b:Rw):iq 4 (.tup [.int a.time,.str a.pen,.int a.num]) (.tup [.int b.time,.str b.pen,.int b.num])=a.lt b:=by
 show cS (iq 3) [.int a.time,.str a.pen,.int a.num] [.int b.time,.str b.pen,.int b.num]=_
 unfold Rw.lt
 by_cases e:a.time=b.time
 ·have h1:dZ (.int a.time) (.int b.time)=true:=by rw[e];exact bj _
  rw[if_pos e]
  by_cases p:a.pen=b.pen
  ·have h2:dZ (.str a.pen) (.str b.pen)=true:=by rw[p];exact bj _
   rw[if_pos p]
   by_cases n:a.num=b.num
   ·have h3:dZ (.int a.num) (.int b.num)=true:=by rw[n];exact bj _
    simp[cS,h1,h2,n,bj]
   ·have h3:dZ (.int a.num) (.int b.num)=false:=bA (by simpa using n)
    simp[cS,h1,h2,h3,iq]
  ·have h2:dZ (.str a.pen) (.str b.pen)=false:=bA (by simpa using p)
   rw[if_neg p];simp[cS,h1,h2,iq]
 ·have h1:dZ (.int a.time) (.int b.time)=false:=bA (by simpa using e)
  rw[if_neg e];simp[cS,h1,iq]
theorem BP(a b:Rw):wW 4 a.key b.key:=by
 refine⟨⟨trivial,trivial⟩,fun _=>trivial,⟨fun d hd=>?_,fun d hd=>?_⟩,fun _=>?_,trivial⟩
 ·simp only[mem_cons,not_mem_nil,or_false]at hd;rcases hd with rfl|rfl<;>trivial
 ·simp only[mem_cons,not_mem_nil,or_false]at hd;rcases hd with rfl|rfl<;>trivial
 ·exact⟨⟨trivial,trivial⟩,fun _=>trivial,⟨trivial,trivial⟩,fun _=>trivial,trivial⟩
theorem zT(a b:Rw):wW 4 (.tup [.int a.time,.str a.pen,.int a.num]) (.tup [.int b.time,.str b.pen,.int b.num]):=
 ⟨⟨trivial,trivial⟩,fun _=>trivial,⟨trivial,trivial⟩,fun _=>trivial,⟨trivial,trivial⟩,fun _=>trivial,trivial⟩
def lg(r:Rw):List aN:=[.inr r.pen,.inl r.num]
def kJ(r:Rw):List aN×D:=(lg r,r.d)
theorem pC{a b:Rw}:lg a=lg b↔a.pen=b.pen/\a.num=b.num:=by
 simp[lg]
theorem Bh{vs:List Rw}{r:Rw}(h:r∈vs)(o:∀ a∈vs,a.pen=r.pen->a.num=r.num->a=r):cm (vs.map kJ) (lg r) r.d=vs.map kJ:=by
 unfold cm;rw[if_pos (by rw[any_eq_true];exact⟨kJ r,List.mem_map_of_mem h,decide_eq_true rfl⟩),map_map]
 refine map_congr_left fun a ha=>?_;simp only[Function.comp_apply];split
 ·rename_i e;obtain⟨p,n⟩:=pC.mp e;have:=o a ha p n;subst this;rfl
 ·rfl
theorem put_new{vs:List Rw}{r:Rw}(h:∀ a∈vs,e9 a r):cm (vs.map kJ) (lg r) r.d=(vs ++ [r]).map kJ:=by
 unfold cm;rw[if_neg]
 ·rw[map_append];rfl
 ·rw[Bool.not_eq_true,List.any_eq_false];intro kv hkv;obtain⟨a,ha,rfl⟩:=mem_map.mp hkv;simp only[decide_eq_true_eq];intro e;exact h a ha (pC.mp e)
theorem sj{vs:List Rw}(hv:vs.Pairwise e9){p:List Nat}(hp:p.Perm (List.range vs.length))(hs:(p.map fun i=>rankIn Rw.lt vs (vs.getD i default)).Pairwise (·<=·)):
  fj (p.map fun i=>vs.getD i default)/\∀ r,r∈(p.map fun i=>vs.getD i default)↔r∈vs:=by
 have inr:∀ i∈p,i < vs.length:=fun i hi=>mem_range.mp (hp.mem_iff.mp hi);have gm:∀ i,i < vs.length->vs.getD i default∈vs:=fun i hi=>by rw[getD_eq_getElem?_getD,getElem?_eq_getElem hi];exact getElem_mem hi
 constructor
 ·unfold fj;rw[List.pairwise_map]at hs ⊢;have nd:p.Nodup:=hp.nodup_iff.mpr List.nodup_range;refine (hs.and nd).imp_of_mem fun {i j} hi hj h=>?_;have li:=inr i hi;have lj:=inr j hj;have nlt:(vs.getD j default).lt (vs.getD i default)=false:=by
   rw[rank_lt ue (gm j lj),decide_eq_false_iff_not,Nat.not_lt];exact h.1
  cases e:(vs.getD i default).lt (vs.getD j default) with
  | true=>rfl
  | false=>
   obtain⟨pp,nn,_⟩:=x_ _ _ e nlt;have ap:e9 (vs.getD i default) (vs.getD j default):=by
    rw[getD_eq_getElem?_getD,getD_eq_getElem?_getD,getElem?_eq_getElem li,getElem?_eq_getElem lj];rcases Nat.lt_or_gt_of_ne h.2 with l|l
    ·exact List.pairwise_iff_getElem.mp hv i j li lj l
    ·exact fun z=>List.pairwise_iff_getElem.mp hv j i lj li l ⟨z.1.symm,z.2.symm⟩
   exact absurd ⟨pp,nn⟩ ap
 ·intro r;have e:((List.range vs.length).map fun i=>vs.getD i default)=vs:=L3.range_getD vs default;have q:=hp.map fun i=>vs.getD i default;rw[e]at q;exact q.mem_iff
theorem gA{κ:Type}[DecidableEq κ](k k':κ)(v:D):∀ kvs:List (κ×D),dN (cm kvs k v) k'=if k'=k then some v else dN kvs k':=by
 have go:∀ kvs:List (κ×D),(kvs.any fun kv=>decide (kv.1=k))=true->dN (kvs.map fun kv=>if kv.1=k then (kv.1,v)else kv) k'=if k'=k then some v else dN kvs k':=by
  intro kvs
  induction kvs with
  | nil=>intro h;simp at h
  | cons p r ih=>
   intro h
   by_cases e:p.1=k
   ·by_cases e':k'=k
    ·rw[if_pos e'];simp[dN,find?_cons,e,e']
    ·rw[if_neg e'];have n1:¬ k=k':=fun z=>e' z.symm;have skip:∀ q:List (κ×D),dN (((p.1,v):κ×D)::q) k'=dN q k':=fun q=>by simp[dN,find?_cons,e,n1]
     have skip2:dN (p::r) k'=dN r k':=by simp[dN,find?_cons,e,n1]
     rw[map_cons,if_pos e,skip,skip2]
     by_cases hr:(r.any fun kv=>decide (kv.1=k))=true
     ·have:=ih hr;rw[if_neg e']at this;exact this
     ·have:r.map (fun kv=>if kv.1=k then (kv.1,v)else kv)=r:=by
       rw[Bool.not_eq_true,List.any_eq_false]at hr
       conv=>rhs;rw[<- List.map_id r]
       refine map_congr_left fun a ha=>?_;have:=hr a ha;simp only[decide_eq_true_eq]at this;rw[if_neg this];rfl
      rw[this]
   ·have hr:(r.any fun kv=>decide (kv.1=k))=true:=by simpa[e]using h
    rw[map_cons,if_neg e]
    by_cases e2:p.1=k'
    ·have n1:¬ k'=k:=fun z=>e (e2.trans z);rw[if_neg n1];simp[dN,find?_cons,e2]
    ·have s1:∀ q:List (κ×D),dN (p::q) k'=dN q k':=fun q=>by simp[dN,find?_cons,e2]
     rw[s1,s1];exact ih hr
 intro kvs;unfold cm
 by_cases h:(kvs.any fun kv=>decide (kv.1=k))=true
 ·rw[if_pos h];exact go kvs h
 ·rw[if_neg h]
  by_cases e':k'=k
  ·rw[if_pos e'];subst e';have hn:dN kvs k'=none:=by
    have:=j5 k' kvs;rw[Bool.not_eq_true]at h;rw[h]at this;cases q:dN kvs k' with
    | none=>rfl
    | some _=>rw[q]at this;cases this
   unfold dN at hn ⊢;rw[List.find?_append];cases q:kvs.find? fun kv=>decide (kv.1=k') with
   | none=>simp
   | some z=>rw[q]at hn;cases hn
  ·rw[if_neg e'];unfold dN;rw[List.find?_append];cases q:kvs.find? fun kv=>decide (kv.1=k') with
   | none=>simp;exact fun z=>e' z.symm
   | some z=>rfl
structure Sl where
 pen:Str
 n:Int
 k:Int
deriving DecidableEq
instance:Inhabited Sl:=⟨⟨"",0,0⟩⟩
def Sl.d(s:Sl):D:=.tup [.str s.pen,.int s.n,.int s.k]
def Sl.key(s:Sl):List aN:=[.inr s.pen,.inl s.n,.inl s.k]
theorem Sl.key_inj{a b:Sl}(h:a.key=b.key):a=b:=by
 obtain⟨a1,a2,a3⟩:=a;obtain⟨b1,b2,b3⟩:=b;simp only[Sl.key,List.cons.injEq,Sum.inr.injEq,Sum.inl.injEq,and_true]at h;obtain⟨rfl,rfl,rfl⟩:=h;rfl
theorem Sl.d_inj{a b:Sl}(h:a.d=b.d):a=b:=by
 obtain⟨a1,a2,a3⟩:=a;obtain⟨b1,b2,b3⟩:=b;simp only[Sl.d,D.tup.injEq,List.cons.injEq,D.str.injEq,D.int.injEq,and_true]at h;obtain⟨rfl,rfl,rfl⟩:=h;rfl
theorem qS(s:Sl):j1 s.d=some s.key:=rfl
def aA:Sl:=⟨Str.ofString "",0,0⟩
inductive Act where
 | put (a:Sl) (x:Str)
 | strike (ns:List Sl)
 | dress (ns:List Sl) (w:Str)
 | move (ns:List Sl) (a:Sl)
def Act.d:Act->D
 | .put a x=>.tup [.str "put",a.d,.str x]
 | .strike ns=>.tup [.str "strike",.tup (ns.map Sl.d)]
 | .dress ns w=>.tup [.str "dress",.tup (ns.map Sl.d),.str w]
 | .move ns a=>.tup [.str "move",.tup (ns.map Sl.d),a.d]
def Act.many:Act->Nat
 | .put _ x=>x.length
 | .move ns _=>ns.length
 | _=>0
def Act.anch:Act->Sl
 | .put a _=>a
 | .move _ a=>a
 | _=>aA
structure Sk where
 pen:Str
 num:Int
 time:Int
 act:Act
instance:Inhabited Sk:=⟨⟨"",0,0,.strike []⟩⟩
def Sk.rw(s:Sk):Rw:=⟨s.pen,s.num,s.time,s.act.d⟩
def Sk.d(s:Sk):D:=.tup [.tup [.str s.pen,.int s.num],.int s.time,s.act.d]
def Sk.ok(s:Sk):Prop:=1<=s.num/\s.act.many<=1000
def aQ(pen:Str)(n:Int)(m:Nat):List Sl:=(List.range m).map fun (k:Nat)=>⟨pen,n,(k:Int)+1⟩
def made(s:Sk):List Sl:=aQ s.pen s.num s.act.many
def fJ(m:Nat):List Sl:=aQ (Str.ofString "") 0 m
theorem bw(p:Str)(n:Int)(m:Nat):(aQ p n m).length=m:=by simp[aQ]
theorem dy(p:Str)(n:Int)(m:Nat):(aQ p n m).Nodup:=by
 unfold aQ List.Nodup;rw[List.pairwise_map];refine List.Pairwise.imp ?_ (List.nodup_range (n:=m));intro a b h e;injection e with e1 e2 e3
 exact h (by walk_at "o")
theorem bv{p:Str}{n:Int}{m:Nat}{x:Sl}(h:x∈aQ p n m):x.pen=p/\x.n=n/\1<=x.k:=by
 unfold aQ at h;obtain⟨k,_,rfl⟩:=mem_map.mp h;exact⟨rfl,rfl,by show 1<=(k:Int)+1;omega⟩
def wV:List Sl->D
 | []=>.non
 | s::_=>s.d
def nx:List Sl->Sl->D
 | [],_=>.non
 | a::t,c=>if a=c then wV t else nx t c
def iw:List Sl->Sl->Sl->List Sl
 | [],_,_=>[]
 | a::t,b,x=>if a=b then a::x::t else a::iw t b x
def bM:List Sl->Sl->List Sl->List Sl
 | W,_,[]=>W
 | W,b,x::t=>bM (iw W b x) x t
theorem eU{W:List Sl}{b x:Sl}(hb:b∈W):∀ c,c∈iw W b x↔c∈W\/c=x:=by
 induction W with
 | nil=>simp at hb
 | cons a t ih=>
  intro c;unfold iw
  by_cases e:a=b
  ·rw[if_pos e];simp only[mem_cons];constructor
   ·rintro (h|h|h)
    ·exact .inl (.inl h)
    ·exact .inr h
    ·exact .inl (.inr h)
   ·rintro ((h|h)|h)
    ·exact .inl h
    ·exact .inr (.inr h)
    ·exact .inr (.inl h)
  ·rw[if_neg e];have hb':b∈t:=by
    rcases mem_cons.mp hb with z|z
    ·exact absurd z.symm e
    ·exact z
   simp only[mem_cons,ih hb' c];constructor
   ·rintro (h|h|h)
    ·exact .inl (.inl h)
    ·exact .inl (.inr h)
    ·exact .inr h
   ·rintro ((h|h)|h)
    ·exact .inl h
    ·exact .inr (.inl h)
    ·exact .inr (.inr h)
theorem iJ{W:List Sl}{b x:Sl}(hb:b∈W):(iw W b x).length=W.length+1:=by
 induction W with
 | nil=>simp at hb
 | cons a t ih=>
  unfold iw
  by_cases e:a=b
  ·rw[if_pos e];simp
  ·rw[if_neg e];have hb':b∈t:=by
    rcases mem_cons.mp hb with z|z
    ·exact absurd z.symm e
    ·exact z
   simp[ih hb']
theorem uR{W:List Sl}{b x:Sl}(hW:W.Nodup)(hx:x∉W)(hb:b∈W):(iw W b x).Nodup:=by
 induction W with
 | nil=>simp at hb
 | cons a t ih=>
  unfold iw;rw[nodup_cons]at hW
  by_cases e:a=b
  ·rw[if_pos e,nodup_cons,nodup_cons];simp only[mem_cons,not_or]at hx;refine⟨?_,hx.2,hW.2⟩;rw[mem_cons,not_or];exact⟨Ne.symm hx.1,hW.1⟩
  ·rw[if_neg e];have hb':b∈t:=by
    rcases mem_cons.mp hb with z|z
    ·exact absurd z.symm e
    ·exact z
   simp only[mem_cons,not_or]at hx;rw[nodup_cons];refine⟨fun z=>?_,ih hW.2 hx.2 hb'⟩;rcases (eU hb' a).mp z with z|z
   ·exact hW.1 z
   ·exact hx.1 z.symm
theorem yi{W:List Sl}{b x:Sl}:wV (iw W b x)=wV W:=by
 cases W with
 | nil=>rfl
 | cons a t=>
  unfold iw;split<;>rfl
theorem z9{W:List Sl}{b x:Sl}(hW:W.Nodup)(hx:x∉W)(hb:b∈W):∀ c,nx (iw W b x) c=if c=x then nx W b else if c=b then x.d else nx W c:=by
 induction W with
 | nil=>simp at hb
 | cons a t ih=>
  intro c;rw[nodup_cons]at hW;simp only[mem_cons,not_or]at hx;unfold iw
  by_cases e:a=b
  ·subst e;rw[if_pos rfl];simp only[nx]
   by_cases c1:c=x
   ·subst c1;rw[if_neg (Ne.symm hx.1),if_pos rfl,if_pos rfl];simp
   ·rw[if_neg c1]
    by_cases c2:c=a
    ·subst c2;simp[wV]
    ·rw[if_neg (Ne.symm c2),if_neg (fun z=>c1 z.symm),if_neg c2,if_neg (Ne.symm c2)]
  ·rw[if_neg e];have hb':b∈t:=by
    rcases mem_cons.mp hb with z|z
    ·exact absurd z.symm e
    ·exact z
   simp only[nx];rw[yi,ih hW.2 hx.2 hb' c]
   by_cases c0:a=c
   ·subst c0;rw[if_pos rfl,if_neg (fun z=>hx.1 z.symm),if_neg e,if_pos rfl]
   ·rw[if_neg c0,if_neg c0,if_neg e]
def wS(kvs:List (List aN×D))(W:List Sl):Prop:=W.Nodup/\kvs.length=W.length/\(∀ s,s∉W->dN kvs s.key=none)/\∀ s∈W,dN kvs s.key=some (nx W s)
theorem sC{κ:Type}[DecidableEq κ]{kvs:List (κ×D)}{k:κ}{v:D}:(cm kvs k v).length=if (dN kvs k).isSome=true then kvs.length else kvs.length+1:=by
 unfold cm;rw[j5];split<;>simp
theorem yt{kvs:List (List aN×D)}{W:List Sl}{b x:Sl}(h:wS kvs W)(hb:b∈W)(hx:x∉W):wS (cm (cm kvs x.key (nx W b)) b.key x.d) (iw W b x):=by
 obtain⟨h1,h2,h3,h4⟩:=h;have hne:b≠x:=fun z=>hx (z ▸ hb);have at2:∀ c:Sl,dN (cm (cm kvs x.key (nx W b)) b.key x.d) c.key=if c=b then some x.d else if c=x then some (nx W b)else dN kvs c.key:=fun c=>by
  rw[gA,gA]
  by_cases e1:c=b
  ·subst e1;rw[if_pos rfl,if_pos rfl]
  ·rw[if_neg (fun z=>e1 (Sl.key_inj z)),if_neg e1]
   by_cases e2:c=x
   ·subst e2;rw[if_pos rfl,if_pos rfl]
   ·rw[if_neg (fun z=>e2 (Sl.key_inj z)),if_neg e2]
 refine⟨uR h1 hx hb,?_,fun c hc=>?_,fun c hc=>?_⟩
 ·rw[sC,sC,h3 x hx,gA,if_neg (fun z=>hne (Sl.key_inj z)),h4 b hb,iJ hb,h2];simp
 ·have hc':c∉W/\c≠x:=⟨fun z=>hc ((eU hb c).mpr (.inl z)),fun z=>hc ((eU hb c).mpr (.inr z))⟩;rw[at2,if_neg (fun (z:c=b)=>hc'.1 (by rw[z];exact hb)),if_neg hc'.2]
  exact h3 c hc'.1
 ·rw[at2,z9 h1 hx hb]
  by_cases e1:c=b
  ·subst e1;rw[if_pos rfl,if_neg hne,if_pos rfl]
  ·rw[if_neg e1]
   by_cases e2:c=x
   ·rw[if_pos e2,if_pos e2]
   ·rw[if_neg e2,if_neg e2,if_neg e1];rcases (eU hb c).mp hc with z|z
    ·exact h4 c z
    ·exact absurd z e2
theorem wF(v:List Sl->Prop):wS [(aA.key,.non)] [aA]:=by
 refine⟨by simp,rfl,fun s hs=>?_,fun s hs=>?_⟩
 ·have:s≠aA:=by simpa using hs
  simp only[dN,find?_cons,List.find?_nil];rw[decide_eq_false (fun z=>this (Sl.key_inj z).symm)];rfl
 ·have:s=aA:=by simpa using hs
  subst this;simp[dN,nx,wV]
def cy(W:List Sl)(s:Sk):List Sl:=if s.act.anch∈W then bM W s.act.anch (made s)else W
def je(n:Nat)(out:List Sk):List Sl:=out.foldl cy (bM [aA] aA (fJ n))
theorem gu:∀ {ss W:List Sl} {b:Sl},b∈W->∀ c,c∈bM W b ss↔c∈W\/c∈ss
 | [],W,b,hb,c=>by simp[bM]
 | x::t,W,b,hb,c=>by
  unfold bM;rw[gu (ss:=t) ((eU hb x).mpr (.inr rfl)) c,eU hb c,mem_cons];constructor
  ·rintro ((h|h)|h)
   ·exact .inl h
   ·exact .inr (.inl h)
   ·exact .inr (.inr h)
  ·rintro (h|h|h)
   ·exact .inl (.inl h)
   ·exact .inl (.inr h)
   ·exact .inr h
theorem i6:∀ {ss W:List Sl} {b:Sl},b∈W->(bM W b ss).length=W.length+ss.length
 | [],W,b,hb=>by simp[bM]
 | x::t,W,b,hb=>by
  unfold bM;rw[i6 (ss:=t) ((eU hb x).mpr (.inr rfl)),iJ hb,length_cons];omega
theorem uQ{pre post:List Sl}{b x:Sl}(h:b∉pre):iw (pre ++ b::post) b x=pre ++ b::x::post:=by
 induction pre with
 | nil=>simp[iw]
 | cons a t ih=>
  simp only[mem_cons,not_or]at h;simp only[cons_append,iw];rw[if_neg (Ne.symm h.1),ih h.2]
theorem j2:∀ {ss pre post:List Sl} {b:Sl},b∉pre->ss.Nodup->(∀ x∈ss,x∉pre/\x≠b)->bM (pre ++ b::post) b ss=pre ++ b::(ss ++ post)
 | [],pre,post,b,_,_,_=>by simp[bM]
 | x::t,pre,post,b,h,nd,hs=>by
  unfold bM;rw[uQ h];rw[nodup_cons]at nd;have hx:=hs x mem_cons_self;have e:pre ++ b::x::post=(pre ++ [b]) ++ x::post:=by simp
  rw[e,j2 (ss:=t) (pre:=pre ++ [b]) (post:=post) (b:=x) (by simp[hx.1,hx.2]) nd.2 (fun y hy=>?_)]
  ·simp
  ·have hy':=hs y (mem_cons_of_mem _ hy);refine⟨by simp[hy'.1,hy'.2],fun z=>nd.1 (z ▸ hy)⟩
def tW(done:List Sk)(W:List Sl):Prop:=∀ x∈W,x.n=0\/∃ s∈done,x.pen=s.pen/\x.n=s.num
theorem tG{done:List Sk}{W:List Sl}{s:Sk}(h:tW done W)(hs:1<=s.num)(ap:∀ r∈done,¬ (r.pen=s.pen/\r.num=s.num)):∀ x∈made s,x∉W:=fun x hx hW=>by
 obtain⟨p1,p2,_⟩:=bv hx;rcases h x hW with z|⟨r,hr,z1,z2⟩
 ·omega
 ·exact ap r hr ⟨z1.symm.trans p1,z2.symm.trans p2⟩
theorem pK{done:List Sk}{W:List Sl}{s:Sk}(h:tW done W):tW (done ++ [s]) (cy W s):=fun x hx=>by
 unfold cy at hx;have up:x∈W->x.n=0\/∃ r∈done ++ [s],x.pen=r.pen/\x.n=r.num:=fun z=>by
  rcases h x z with q|⟨r,hr,q⟩
  ·exact .inl q
  ·exact .inr ⟨r,List.mem_append_left _ hr,q⟩
 split at hx
 ·rename_i ha;rcases (gu ha x).mp hx with z|z
  ·exact up z
  ·obtain⟨p1,p2,_⟩:=bv z;exact .inr ⟨s,by simp,p1,p2⟩
 ·exact up hx
theorem dz(n:Nat):bM [aA] aA (fJ n)=aA::fJ n:=by
 have:=j2 (ss:=fJ n) (pre:=[]) (post:=[]) (b:=aA) (by simp) (dy _ _ _) (fun x hx=>⟨by simp,fun z=>by
  obtain⟨_,_,h⟩:=bv hx;rw[z]at h;exact absurd h (by decide)⟩)
 simpa using this
theorem nr(n:Nat):tW [] (bM [aA] aA (fJ n)):=fun x hx=>by
 rw[dz]at hx;rcases mem_cons.mp hx with z|z
 ·subst z;exact .inl rfl
 ·exact .inl (bv z).2.1
theorem tF(n:Nat):∀ (out done:List Sk) (W:List Sl),tW done W->tW (done ++ out) (out.foldl cy W)
 | [],done,W,h=>by simpa using h
 | s::t,done,W,h=>by
  have:=tF n t (done ++ [s]) (cy W s) (pK h)
  simpa using this
theorem vQ{W:List Sl}{s:Sk}{R:List Sl}(h:W=aA::R):∃ R',cy W s=aA::R':=by
 unfold cy;split
 ·rename_i ha;clear ha;generalize made s=ss;generalize s.act.anch=b
  induction ss generalizing W b R with
  | nil=>exact⟨R,h⟩
  | cons x t ih=>
   unfold bM;subst h;unfold iw;split
   ·exact ih rfl _
   ·exact ih rfl _
 ·exact⟨R,h⟩
theorem su(n:Nat):∀ (out:List Sk) (W R:List Sl),W=aA::R->∃ R',out.foldl cy W=aA::R'
 | [],W,R,h=>⟨R,h⟩
 | s::t,W,R,h=>by
  obtain⟨R',h'⟩:=vQ (s:=s) h;exact su n t _ R' h'
def dR(n:Nat)(out:List Sk):List Sl:=(je n out).tail
theorem ml(n:Nat)(out:List Sk):je n out=aA::dR n out:=by
 obtain⟨R,h⟩:=su n out _ (fJ n) (dz n);unfold dR;have:je n out=aA::R:=h;rw[this];rfl
theorem pj(n:Nat)(out:List Sk)(s:Sk):je n (out ++ [s])=cy (je n out) s:=by simp[je]
theorem qI(W:List Sl):val (wV W)=wV W:=by cases W<;>rfl
theorem BH(W:List Sl)(c:Sl):val (nx W c)=nx W c:=by
 induction W with
 | nil=>rfl
 | cons a t ih=>
  unfold nx;split
  ·exact qI t
  ·exact ih
end RQ
open RQ
namespace L3
open PySem PySem.Spec PyProof.Rows L2 PySem.SeqAt PySem.W
end L3
namespace L3
open PySem PySem.Spec PyProof.Rows L2 PySem.SeqAt PySem.W
def nP(h:Heap)(d:Addr)(vs:List Value)(ep:Nat):Prop:=∃ o es,h.get? d=some o/\o.ExactDict/\o.data=.dict es ep/\es.toList.map (·.key)=vs
section
variable{prog:Program}{w:World}{A:Around}{E:Value->Shared->Prop}{s:Shared}{d r it:Addr}{vs:List Value}{ep i:Nat}
theorem nP.ty(x:nP s.heap d vs ep):s.TypeIs (.ref d) "dict":=let ⟨o,_,e,z,_⟩:=x;⟨o,e,z.1⟩
theorem nP.there{h:Heap}(x:nP h d vs ep):d < h.objs.size:=let ⟨_,_,e,_⟩:=x;Heap.lt_size e
theorem nP.stay{h h':Heap}(x:nP h d vs ep)(k:∀ o,h.get? d=some o->h'.get? d=some o):nP h' d vs ep:=let ⟨o,es,e,z⟩:=x;⟨o,es,k o e,z⟩
theorem xA{v:Value}{Q:Option Value->Shared->Prop}(hi:s.heap.IsKeyIter it d i vs.length ep)(x:nP s.heap d vs ep)(hv:vs[i]?=some v)
  (q:∀ h',h'.IsKeyIter it d (i+1) vs.length ep->Heap.SameBut it s.heap h'->Q (some v) { s with heap:=h' }):wpAny (model prog w) A (pyNext (.ref it)) Q E s:=by
 obtain⟨o,e1,c1,d1⟩:=id hi;obtain⟨od,es,e2,c2,d2,rfl⟩:=x;unfold pyNext;refine wpAny_bind (wpAny_attempt (wpAny_callSpecial?_slot (name:=Str.ofString "__next__") hi.typeIs F.slot_dict_keyiterator_next (wpAny_call_entry F.slot_dict_keyiterator_next hi.typeIs F.entry_dict_keyiterator_next ?_ (F.args_dict_keyiterator_next_1 _))));refine wpAny_bind (wpAny_pure ?_);refine wpAny_bind ?_;refine wpAny_bind ?_
 first|refine wpAny_bind (wpAny_typeNameOfWhole_keyiter hi.typeIs (wpAny_pure ?_))|refine wpAny_bind (wpAny_typeNameOf_keyiter hi.typeIs (wpAny_pure ?_))
 refine wpAny_bind (wpAny_fieldsOf e1 d1 ?_);have own:Builtin.Dict_items.ownsTuple "dict_keyiterator"=false:=by decide
 simp only[own,Bool.false_eq_true,if_false];show wpAny _ _ (if (Value.ref d == Value.none)=true then _ else _) _ _ s;rw[if_neg (show ¬ ((Value.ref d == Value.none)=true)from Bool.false_ne_true)]
 refine wpAny_bind (wpAny_pure ?_);refine wpAny_bind (wpAny_dictEntries e2 d2 ?_);have z:es.size=(es.toList.map (·.key)).length:=by simp
 rw[if_neg (by rw[z];simp)];refine wpAny_bind (wpAny_pure ?_);refine wpAny_bind (wpAny_dictEpoch e2 d2 ?_)
 rw[if_neg (by simp)];refine wpAny_pure ?_
 have lt:i < es.size:=by
  rw[z];rcases lt_or_ge i (es.toList.map (·.key)).length with h|h
  ·exact h
  ·rw[getElem?_eq_none h]at hv;cases hv
 have val:es[i].key=v:=by
  rw[getElem?_map]at hv
  simpa[lt]using hv
 simp only[show ¬ ((i:Int) < 0)from by walk_at "o",if_false,Int.toNat_natCast,Array.getElem?_eq_getElem lt];refine wpAny_bind ?_
 first|refine wpAny_bind (wpAny_typeNameOfWhole_keyiter hi.typeIs (wpAny_pure ?_))|refine wpAny_bind (wpAny_typeNameOf_keyiter hi.typeIs (wpAny_pure ?_))
 refine wpAny_bind (wpAny_isOneOf_keyiter hi.typeIs ?_);show wpAny _ _ (setField (.ref it) 1 (rawInt ((i:Int)+1)) >>= _) _ _ s;refine wpAny_bind (wpAny_setField e1 d1 (by simp) ?_)
 have hi':(s.heap.update it (Obj.mapFields (·.setIfInBounds 1 (rawInt ((i:Int)+1))))).IsKeyIter it d (i+1) (es.toList.map (·.key)).length ep:=
  ⟨_,Heap.get?_update_self _ e1 (Obj.isFreed_of_fields (Obj.data_mapFields d1 _)),(Obj.cls_mapFields ..).trans c1,by rw[Obj.data_mapFields d1];simp[rawInt]⟩
 refine wpAny_bind (wpAny_holding ?_);refine wpAny_bind (wpAny_isOneOf_keyiter (s:={ s with heap:=s.heap.update it (Obj.mapFields (·.setIfInBounds 1 (rawInt ((i:Int)+1)))) }) hi'.typeIs ?_)
 show wpAny _ _ (pure es[i].key) _ _ _
 exact wpAny_pure (wpAny_pure ⟨_,rfl,wpAny_pure (val ▸ q _ hi' (Heap.SameBut.update ..))⟩)
theorem ze{Q:Option Value->Shared->Prop}(hh:A.handled=none)(hi:s.heap.IsKeyIter it d i vs.length ep)(x:nP s.heap d vs ep)(hv:vs[i]?=none)
  (q:∀ h',Heap.ExtBut it s.heap h'->Q none { s with heap:=h' }):wpAny (model prog w) A (pyNext (.ref it)) Q E s:=by
 obtain⟨o,e1,c1,d1⟩:=id hi;obtain⟨od,es,e2,c2,d2,rfl⟩:=x;unfold pyNext;refine wpAny_bind (wpAny_attempt (wpAny_callSpecial?_slot (name:=Str.ofString "__next__") hi.typeIs F.slot_dict_keyiterator_next (wpAny_call_entry F.slot_dict_keyiterator_next hi.typeIs F.entry_dict_keyiterator_next ?_ (F.args_dict_keyiterator_next_1 _))));refine wpAny_bind (wpAny_pure ?_);refine wpAny_bind ?_;refine wpAny_bind ?_
 first|refine wpAny_bind (wpAny_typeNameOfWhole_keyiter hi.typeIs (wpAny_pure ?_))|refine wpAny_bind (wpAny_typeNameOf_keyiter hi.typeIs (wpAny_pure ?_))
 refine wpAny_bind (wpAny_fieldsOf e1 d1 ?_);have own:Builtin.Dict_items.ownsTuple "dict_keyiterator"=false:=by decide
 simp only[own,Bool.false_eq_true,if_false];show wpAny _ _ (if (Value.ref d == Value.none)=true then _ else _) _ _ s;rw[if_neg (show ¬ ((Value.ref d == Value.none)=true)from Bool.false_ne_true)]
 refine wpAny_bind (wpAny_pure ?_);refine wpAny_bind (wpAny_dictEntries e2 d2 ?_);have z:es.size=(es.toList.map (·.key)).length:=by simp
 rw[if_neg (by rw[z];simp)];refine wpAny_bind (wpAny_pure ?_);refine wpAny_bind (wpAny_dictEpoch e2 d2 ?_)
 rw[if_neg (by simp)];refine wpAny_pure ?_
 have ge:es.size<=i:=by rw[z];simpa using hv
 simp only[show ¬ ((i:Int) < 0)from by walk_at "o",if_false,Int.toNat_natCast,Array.getElem?_eq_none ge];refine wpAny_bind ?_
 first|refine wpAny_bind (wpAny_typeNameOfWhole_keyiter hi.typeIs (wpAny_pure ?_))|refine wpAny_bind (wpAny_typeNameOf_keyiter hi.typeIs (wpAny_pure ?_))
 show wpAny _ _ (setField (.ref it) 0 .none >>= _) _ _ s;refine wpAny_bind (wpAny_setField e1 d1 (by simp) ?_)
 show wpAny _ _ (newExc (.type "StopIteration") [] >>= _) _ _ _;refine wpAny_bind ?_
 simp only[newExc,newTuple];refine wpAny_bind (wpAny_newObj_type ?_ (by size_fits))
 refine wpAny_bind (m:=firstArgMember _ _) (wpAny_of_eq (a:=Value.none) (by first|rfl|(simp only[firstArgMember];rfl)) ?_);refine wpAny_newObj_type ?_ (by size_fits)
 simp only[raiseNew];refine wpAny_bind (wpAny_handled ?_);rw[show A.in1.handled=none from hh]
 refine wpAny_bind (wpAny_pure (wpAny_throw ?_));refine wpAny_bind (wpAny_isInstance (T:="StopIteration") (b:=true) ⟨_,Heap.get?_push_size _ rfl,rfl⟩ isSubtype_stop ?_);exact wpAny_pure (q _ (((Heap.SameBut.update ..).extBut.push _).push _))
end
open HT
section
variable{X:Cx}{prog:Program}{w:World}{A:Around}{E:Value->Shared->Prop}{s:Shared}
theorem uO{t sl:Addr}{items:Array Value}{vl vu:Value}{lo hi:Option Int}{Q:Value->Shared->Prop}(ht:IsTup s.heap t items)(hs:s.heap.IsSliceOf sl vl vu .none)(pl:IsPart vl lo)(pu:IsPart vu hi)
  (hw:sIx items.size 0 lo=0/\sIx items.size items.size hi=items.size) (h:Q (.ref t) s):wpAny (model prog w) A (getItem (.ref t) (.ref sl)) Q E s:=by
 obtain⟨os,hos,hcs,hds⟩:=id hs;have hT:s.TypeIs (.ref sl) "slice":=⟨os,hos,hcs⟩;unfold getItem
 try with_reducible refine wpAny_holding ?_
 refine wpAny_bind (wpAny_sequenceKey ht.typeIs (by decide) ?_)
 refine wpAny_bind (wpAny_callSpecial?_slot (name:=Str.ofString "__getitem__") ht.typeIs PyProof.Rows.slot_tuple_getitem (wpAny_call_entry PyProof.Rows.slot_tuple_getitem ht.typeIs entry_tuple_getitem ?_ (args_tuple_getitem _ _)));show wpAny _ _ (Builtin.Tuple.tupleItemsOf (.ref t) >>= _) _ _ s
 refine wpAny_bind (tupleItemsOf_ ht ?_);refine wpAny_bind (wpAny_typeOf hT ?_);rw[if_pos (by decide)]
 refine wpAny_bind (gM hs pl pu ?_);have yes:(((sIx items.size 0 lo:Nat):Int) == 0 && (1:Int) == 1 && (sIx items.size items.size hi - sIx items.size 0 lo) == items.size)=true:=by
  rw[hw.1,hw.2];simp
 show wpAny _ _ (if (((sIx items.size 0 lo:Nat):Int) == 0 && (1:Int) == 1 && (sIx items.size items.size hi - sIx items.size 0 lo) == items.size)=true then _ else _) _ _ s
 rw[if_pos yes];unfold Builtin.Tuple.tupleIsExact;refine wpAny_bind (wpAny_bind (wpAny_typeOf ht.typeIs (wpAny_pure ?_)));rw[if_pos (by decide)]
 exact wpAny_bind (wpAny_rule (wpAny_pure ⟨_,rfl,wpAny_pure h⟩))
def Eh(K:Frag):V->Option Int->Option Int->Hp->VK->Prop:=fun x lo hi H Q=>∃ a xs,x=.ref a/\hJ K H a xs/\(sIx xs.length 0 lo=0/\sIx xs.length xs.length hi=xs.length)/\Q (.ref a) H
theorem xl:u7 X (Eh X.K):=by
 intro pins s σ H x v vl vu lo hi sl Q I rx hs pl pu h;obtain⟨a,xs,rfl,hx,hw,q⟩:=h;cases rx;obtain⟨its,r,ht,hz⟩:=I.tuple hx;have hlen:its.toArray.size=xs.length:=by rw[size_toArray];exact r.length.symm
 exact⟨"tuple",_,PyProof.Rows.slot_tuple_getitem.lookup,ht.typeIs,uO ht hs pl pu (by rw[hlen];exact hw) ⟨.ref a,H,I,rfl,q⟩⟩
def DU:DN:=fun x lo hi G Q=>match x with
 | .tup ds=>Q (.tup (cutD ds lo hi)) G
 | _=>False
theorem Cq:u7 X (uK X.K DU):=((xm (X:=X)).or (xl (X:=X))).imp fun v lo hi H Q ⟨x,G0,H0,G,Q3,rx,rg,h,k⟩=>by
 unfold DU at h;split at h
 ·rename_i ds;obtain⟨a,xs,rfl,sq,r⟩:=rx.tup
  by_cases hw:sIx xs.length 0 lo=0/\sIx xs.length xs.length hi=xs.length
  ·refine .inr ⟨a,xs,rfl,sq,hw,k _ G _ _ h Kp.refl rg (.of ?_)⟩;have e:cutD ds lo hi=ds:=by
    unfold cutD;rw[r.length,hw.1,hw.2,drop_zero,sub_zero,<- r.length,take_length]
   rw[e];exact⟨a,xs,rfl,sq,r⟩
  ·exact .inl ⟨a,xs,rfl,sq,hw,fun p hp=>k _ G _ _ h (Kp.laid hp) (rg.laid hp) (.of (hV rg hp (rH r lo hi)))⟩
 ·exact h.elim
end
end L3
namespace L2
open PySem PySem.Spec PyProof.Rows
end L2
namespace L3
open PySem PySem.Spec PyProof.Rows L2
theorem RDs.bls_inv{K:Frag}{H:Hp}:∀ (ns:List Bool) {xs:List V},RDs K H (ns.map D.bl) xs->xs=ns.map V.bl
 | [],xs,h=>h.inv_nil
 | n::r,xs,h=>by
  obtain⟨x,t,e,h1,h2⟩:=RDs.inv_cons (d:=.bl n) (ds:=r.map D.bl) h;simp only[RD]at h1;subst e h1;rw[RDs.bls_inv r h2];rfl
theorem tS:∀ {ns:List Bool} {us:List Value},Vals (ns.map V.bl) us->us=ns.map Value.bool
 | [],us,w=>by cases w;rfl
 | n::r,us,w=>by
  rw[map_cons]at w;cases w with
  | cons h w=>
   cases h;rw[tS w];rfl
def vF:vL:=fun ds G Q=>match ds with
 | [d]=>∃ bs:List Bool,pX G d=some (bs.map D.bl)/\Q (.bl (bs.all id)) G
 | _=>False
theorem pY:∀ (bs:List Bool),(List.range bs.length).all (fun i=>bs.getD i false)=bs.all id
 | []=>rfl
 | b::r=>by
  rw[length_cons,List.range_succ_eq_map,List.all_cons,List.all_cons,List.all_map];have:=pY r;rw[<- this];rfl
theorem Cg{X:Cx}(hc:X.calm=true):eE X (.builtin "all") (lC X.K vF):=by
 rintro pins s σ H vs us Q I rv ⟨ds,G,Q3,rds,rg,h,kk⟩
 unfold vF at h;split at h
 ·rename_i d;obtain⟨v,rfl,rd⟩:=fP rds;obtain⟨bs,he,h⟩:=h;obtain⟨a,xs,rfl,sq,r⟩:=jv (G:=G) (H:=H) he (.of rd) rg;obtain⟨u,rfl,ru⟩:=o6 rv;cases ru;rw[RDs.bls_inv bs r]at sq;obtain⟨its,w,pl,hz⟩:=I.list sq;have ei:its=bs.map Value.bool:=tS w;have ll:a < s.heap.objs.size:=let ⟨o,e,_⟩:=pl.isList;Heap.lt_size e;refine call_all_walk (wpAny_pyIter_list pl.isList ?_);refine⟨s.heap.objs.size,_,_,_,_,_,fun i=>bs.getD i false,rfl,Walks.list (A:=X.A.in1) (I.ok.hd hc) _ a (ne_of_lt ll) its.toArray,⟨⟨_,Heap.get?_push_size _ rfl,rfl,rfl⟩,pl.isList.push _⟩,fun i v s Q E hP hQ=>?_,fun h' tk hk=>?_⟩
  ·have e:v=.bool (bs.getD i false):=by
    have hP':its[i]?=some v:=by simpa using hP
    rw[ei,getElem?_map]at hP';cases hb:bs[i]? with
    | none=>rw[hb]at hP';cases hP'
    | some b=>
     rw[hb]at hP';cases hP';rw[getD_eq_getElem?_getD,hb];rfl
   rw[e];exact wpAny_truthy_bool hQ
  ·have el:its.toArray.size=bs.length:=by rw[size_toArray,ei,length_map]
   rw[el,pY];refine⟨.bl _,H,I.kept fun b o e=>hk b o (fun z=>?_) (Heap.get?_push_of_some _ e),rfl,kk _ G _ H h Kp.refl rg (.of gf)⟩;rw[mem_singleton.mp z]at e;exact absurd (Heap.lt_size e) (Nat.lt_irrefl _)
 ·exact h.elim
end L3
namespace L2
open PySem PySem.Spec PyProof.Rows
abbrev fG(h:Heap)(z TI TO:Addr)(f0 f1:Value):Prop:=
 h.get? z=some { cls:=.type "zip",dict:=none,data:=.fields #[f0,f1,.bool false,.ref TI,.ref TO],slots:=#[] }
def u9(f0:Value):Prop:=f0=.none\/∃ T:Addr,f0=rawInt T
structure ZApart(z TI TO i1 i2:Addr)(fp1 fp2:List Addr):Prop where
 a1:TI≠z
 a2:TO≠z
 a3:i1≠z
 a4:i2≠z
 a5:TI≠TO
 a6:TI≠i1
 a7:TI≠i2
 a8:TO≠i1
 a9:TO≠i2
 a10:i1≠i2
 f1:∀ b∈fp1,b≠z/\b≠TO/\b≠i2
 f2:∀ b∈fp2,b≠z/\b≠TO/\b≠i1
section
variable{prog:Program}{w:World}{A:Around}{E:Value->Shared->Prop}{s:Shared}
theorem w6{α:Type}{M:Model}{a:Addr}{k:Option Obj->Sem α}{Q:α->Shared->Prop}(h:wpAny M A (k (s.heap.get? a)) Q E s):wpAny M A (loadIfAlive a >>= k) Q E s:=fun Γ p hΓ=>by
 have e:(loadIfAlive a >>= k)=Sem.loadIfAlive a k:=rfl;rw[e,Sem.wp_loadIfAlive];exact h Γ p hΓ
theorem rZ{z TI TO:Addr}{f0 f1:Value}{Q:Bool->Shared->Prop}(hz:fG s.heap z TI TO f0 f1)(hf:u9 f0)(q1:Q true s)
  (q2:∀ h' f1',fG h' z TI TO f0 f1'->Heap.SameBut z s.heap h'->Q false { s with heap:=h' }):wpAny (model prog w) A (Builtin.SmallTypes.ownedTupleIsFree (.ref z)) Q E s:=by
 unfold Builtin.SmallTypes.ownedTupleIsFree;refine wpAny_bind (wpAny_field hz rfl (x:=f0) rfl ?_);rcases hf with rfl|⟨T,rfl⟩
 ·exact wpAny_pure q1
 ·show wpAny _ _ (loadIfAlive _ >>= _) _ _ _;refine w6 ?_;cases hT:s.heap.get? (Int.toNat (T:Int)) with
  | none=>exact wpAny_pure q1
  | some o=>
   show wpAny _ _ (field (.ref z) 1 >>= _) _ _ _
   refine wpAny_bind (wpAny_field hz rfl (x:=f1) rfl ?_)
   by_cases e:(f1 != Value.bool true)=true
   ·rw[if_pos e];exact wpAny_bind (wpAny_setField_rec hz (by simp) fun h1 hz1 hs1=>wpAny_pure (q2 h1 _ hz1 hs1))
   ·rw[if_neg e];exact wpAny_bind (wpAny_pure (wpAny_pure (q2 s.heap f1 hz (Heap.SameBut.refl ..))))
theorem r0{z TI TO i1 i2:Addr}{f0 f1 a b:Value}{i:Nat}{fp1 fp2:List Addr}{n1 n2:Nat}{P1 P2:Nat->Value->Prop}{St1 St2:Nat->Heap->Prop}{Q:Option Value->Shared->Prop}
  (D1:Draws prog w A.in1 i1 fp1 n1 P1 St1) (D2:Draws prog w A.in1 i2 fp2 n2 P2 St2) (D:ZApart z TI TO i1 i2 fp1 fp2) (hz:fG s.heap z TI TO f0 f1) (hf:u9 f0) (hTI:IsPair s.heap TI (.ref i1) (.ref i2)) (hTO:IsPair s.heap TO a b)
  (h1:St1 i s.heap) (h2:St2 i s.heap) (l1:i < n1) (l2:i < n2)
  (hQ:∀ h' tk x y f0' f1' a' b',P1 i x->P2 i y->u9 f0'->fG h' z TI TO f0' f1'->IsPair h' TO a' b'->St1 (i+1) h'->St2 (i+1) h'->IsPair h' s.heap.objs.size x y->h'.objs.size=s.heap.objs.size+1->
   (∀ c o,c≠z->c≠TO->c≠i1->c≠i2->s.heap.get? c=some o->h'.get? c=some o)->Q (some (.ref s.heap.objs.size)) { s with heap:=h',toks:=tk }):
  wpAny (model prog w) A (pyNext (.ref z)) Q E s:=by
 have hT:s.TypeIs (.ref z) "zip":=⟨_,hz,rfl⟩;unfold pyNext;refine wpAny_bind (wpAny_attempt (wpAny_callSpecial?_slot (name:=Str.ofString "__next__") hT F.slot_zip_next (wpAny_call_entry F.slot_zip_next hT F.entry_zip_next ?_ (F.args_zip_next_1 _))));show wpAny _ _ (field (.ref z) 2 >>= _) _ _ _;refine wpAny_bind (wpAny_field hz rfl (x:=.bool false) rfl ?_)
 show wpAny _ _ (field (.ref z) 3 >>= _) _ _ _;refine wpAny_bind (wpAny_field hz rfl (x:=.ref TI) rfl ?_)
 refine wpAny_bind (wpAny_seqItems hTI rfl ?_);show wpAny _ _ (Builtin.SmallTypes.ownedTupleIsFree (.ref z) >>= _) _ _ _;refine wpAny_bind (rZ hz hf ?_ fun h0 f1' hz0 hs0=>?_)
 ·simp only[if_true];refine wpAny_bind (wpAny_rule ?_);refine wpAny_bind (wpAny_field hz rfl (x:=.ref TO) rfl ?_);refine wpAny_bind (wpAny_setField_rec hz (by simp) fun g1 z1 s1=>?_)
  replace z1:fG g1 z TI TO .ellipsis f1:=z1
  refine wpAny_bind ?_;simp only[List.zipIdx_cons,List.zipIdx_nil,forIn_cons,forIn_nil];refine wpAny_bind (wpAny_bind (wpAny_onRaise ?_));show wpAny _ _ (Builtin.SmallTypes.nextOf (.ref i1) >>= _) _ _ _;refine wpAny_bind (D1.item i { s with heap:=g1 } _ _ l1 (D1.frame i _ _ h1 fun b hb o e=>s1.extBut _ _ (D.f1 b hb).1 e) fun x g2 t2 p1 st1 s2=>wpAny_pure ?_)
  have o2:IsPair g2 TO a b:=s2.extBut _ _ D.a8 (s1.extBut _ _ D.a2 hTO);refine wpAny_bind (wpAny_seqItems o2 rfl ?_);refine wpAny_bind (wpAny_updateSeq_pair o2 fun g3 o3 s3=>?_)
  replace o3:IsPair g3 TO x b:=o3
  refine wpAny_bind (wpAny_letGo (wpAny_pure ?_));refine wpAny_bind (wpAny_bind (wpAny_onRaise ?_));show wpAny _ _ (Builtin.SmallTypes.nextOf (.ref i2) >>= _) _ _ _;refine wpAny_bind (D2.item i { s with heap:=g3,toks:=t2 } _ _ l2 (D2.frame i _ _ h2 fun b hb o e=>s3.extBut _ _ (D.f2 b hb).2.1 (s2.extBut _ _ (D.f2 b hb).2.2 (s1.extBut _ _ (D.f2 b hb).1 e))) fun y g4 t4 p2 st2 s4=>wpAny_pure ?_)
  have o4:IsPair g4 TO x b:=s4.extBut _ _ D.a9 o3;refine wpAny_bind (wpAny_seqItems o4 rfl ?_);refine wpAny_bind (wpAny_updateSeq_pair o4 fun g5 o5 s5=>?_)
  replace o5:IsPair g5 TO x y:=o5
  refine wpAny_bind (wpAny_letGo (wpAny_pure (wpAny_pure ?_)));refine wpAny_bind (wpAny_seqItems o5 rfl ?_);refine wpAny_bind (wpAny_newTuple ?_);have sz:g5.objs.size=s.heap.objs.size:=by rw[s5.1,s4.1,s3.1,s2.1,s1.1]
  have z5:fG g5 z TI TO .ellipsis f1:=s5.extBut _ _ D.a2.symm (s4.extBut _ _ D.a4.symm (s3.extBut _ _ D.a2.symm (s2.extBut _ _ D.a3.symm z1)));have k5:∀ c o,c≠z->c≠TO->c≠i1->c≠i2->s.heap.get? c=some o->g5.get? c=some o:=fun c o c1 c2 c3 c4 e=>s5.extBut _ _ c2 (s4.extBut _ _ c4 (s3.extBut _ _ c2 (s2.extBut _ _ c3 (s1.extBut _ _ c1 e))));have lz:z < g5.objs.size:=Heap.lt_size z5;show wpAny _ _ (Builtin.SmallTypes.ownedTupleHandOut (.ref z) (.ref g5.objs.size) >>= _) _ _ _;refine wpAny_bind ?_;unfold Builtin.SmallTypes.ownedTupleHandOut
  have z6:fG (g5.push { cls:=.type "tuple",data:=.seq #[x,y] }) z TI TO .ellipsis f1:=Heap.get?_push_of_some _ z5;refine wpAny_bind (wpAny_setField_rec z6 (by simp) fun g7 z7 s7=>?_)
  replace z7:fG g7 z TI TO (rawInt g5.objs.size) f1:=z7
  refine wpAny_setField_rec z7 (by simp) fun g8 z8 s8=>?_
  replace z8:fG g8 z TI TO (rawInt g5.objs.size) (.bool false):=z8
  have up:∀ c o,c≠z->g5.get? c=some o->g8.get? c=some o:=fun c o c1 e=>s8.extBut _ _ c1 (s7.extBut _ _ c1 (Heap.get?_push_of_some _ e));have t8:IsPair g8 g5.objs.size x y:=s8.extBut _ _ (ne_of_gt lz) (s7.extBut _ _ (ne_of_gt lz) (Heap.get?_push_size _ rfl));have sz8:g8.objs.size=g5.objs.size+1:=by rw[s8.1,s7.1,Heap.size_push]
  have r1:St1 (i+1) g8:=D1.frame _ _ _ st1 fun b hb o e=>up b o (D.f1 b hb).1 (s5.extBut _ _ (D.f1 b hb).2.1 (s4.extBut _ _ (D.f1 b hb).2.2 (s3.extBut _ _ (D.f1 b hb).2.1 e)));have r2:St2 (i+1) g8:=D2.frame _ _ _ st2 fun b hb o e=>up b o (D.f2 b hb).1 (s5.extBut _ _ (D.f2 b hb).2.1 e);rw[sz]at z8 t8 sz8;refine wpAny_pure ⟨.ref g5.objs.size,rfl,wpAny_pure ?_⟩;rw[sz];exact hQ g8 t4 x y _ _ x y p1 p2 (.inr ⟨_,rfl⟩) z8 (up _ _ D.a2 o5) r1 r2 t8 sz8 fun c o c1 c2 c3 c4 e=>up c o c1 (k5 c o c1 c2 c3 c4 e)
 ·simp only[Bool.false_eq_true,if_false];rw[<- Array.forIn_toList];simp only[forIn_cons,forIn_nil];refine wpAny_bind (wpAny_bind (wpAny_bind (wpAny_holding ?_)));show wpAny _ _ (Builtin.SmallTypes.nextOf (.ref i1) >>= _) _ _ _
  refine wpAny_bind (D1.item i { s with heap:=h0 } _ _ l1 (D1.frame i _ _ h1 fun b hb o e=>hs0.extBut _ _ (D.f1 b hb).1 e) fun x g2 t2 p1 st1 s2=>wpAny_pure (wpAny_pure ?_))
  refine wpAny_bind (wpAny_bind (wpAny_holding ?_));show wpAny _ _ (Builtin.SmallTypes.nextOf (.ref i2) >>= _) _ _ _
  refine wpAny_bind (D2.item i { s with heap:=g2,toks:=t2 } _ _ l2 (D2.frame i _ _ h2 fun b hb o e=>s2.extBut _ _ (D.f2 b hb).2.2 (hs0.extBut _ _ (D.f2 b hb).1 e)) fun y g4 t4 p2 st2 s4=>wpAny_pure (wpAny_pure (wpAny_pure ?_)))
  refine wpAny_bind (wpAny_newTuple ?_ (by show 2<=sizeLine;decide))
  have sz:g4.objs.size=s.heap.objs.size:=by rw[s4.1,s2.1,hs0.1]
  have k4:∀ c o,c≠z->c≠TO->c≠i1->c≠i2->s.heap.get? c=some o->g4.get? c=some o:=fun c o c1 _ c3 c4 e=>s4.extBut _ _ c4 (s2.extBut _ _ c3 (hs0.extBut _ _ c1 e));have z4:fG g4 z TI TO f0 f1':=s4.extBut _ _ D.a4.symm (s2.extBut _ _ D.a3.symm hz0);have o4:IsPair g4 TO a b:=s4.extBut _ _ D.a9 (s2.extBut _ _ D.a8 (hs0.extBut _ _ D.a2 hTO));refine wpAny_pure ⟨.ref g4.objs.size,rfl,wpAny_pure ?_⟩;have up:∀ c o,g4.get? c=some o->(g4.push { cls:=.type "tuple",data:=.seq #[x,y] }).get? c=some o:=fun c o e=>Heap.get?_push_of_some _ e;have t8:IsPair (g4.push { cls:=.type "tuple",data:=.seq #[x,y] }) g4.objs.size x y:=Heap.get?_push_size _ rfl;have sz8:(g4.push { cls:=.type "tuple",data:=.seq #[x,y] }).objs.size=g4.objs.size+1:=Heap.size_push ..;rw[sz]at t8 sz8 ⊢;exact hQ _ t4 x y _ _ a b p1 p2 hf (up _ _ z4) (up _ _ o4) (D1.frame _ _ _ st1 fun b hb o e=>up _ _ (s4.extBut _ _ (D.f1 b hb).2.2 e)) (D2.frame _ _ _ st2 fun b _ o e=>up b o e) t8 sz8 fun c o c1 c2 c3 c4 e=>up _ _ (k4 c o c1 c2 c3 c4 e)
theorem tZ{z TI TO i1 i2:Addr}{f0 f1 a b:Value}{i:Nat}{fp1 fp2:List Addr}{n1 n2:Nat}{P1 P2:Nat->Value->Prop}{St1 St2:Nat->Heap->Prop}{Q:Option Value->Shared->Prop}
  (D1:Draws prog w A.in1 i1 fp1 n1 P1 St1) (D2:Draws prog w A.in1 i2 fp2 n2 P2 St2) (D:ZApart z TI TO i1 i2 fp1 fp2) (hz:fG s.heap z TI TO f0 f1) (hf:u9 f0) (hTI:IsPair s.heap TI (.ref i1) (.ref i2)) (hTO:IsPair s.heap TO a b)
  (h1:St1 i s.heap) (h2:St2 i s.heap) (le:i=n1\/(i < n1/\i=n2))
  (hQ:∀ h' tk,(∀ c o,c≠z->c≠TO->c≠i1->c≠i2->s.heap.get? c=some o->h'.get? c=some o)->Q none { s with heap:=h',toks:=tk }):
  wpAny (model prog w) A (pyNext (.ref z)) Q E s:=by
 have hT:s.TypeIs (.ref z) "zip":=⟨_,hz,rfl⟩;unfold pyNext;have fin:∀ {h':Heap} {tk:Nat} {e:Addr},(∀ c o,c≠z->c≠TO->c≠i1->c≠i2->s.heap.get? c=some o->h'.get? c=some o)->(∃ o,h'.get? e=some o/\o.cls=.type "StopIteration")->
   wpAny (model prog w) A (do if <- isInstance (.ref e) (.type "StopIteration")then pure none else throw (.ref e)) Q E { s with heap:=h',toks:=tk }:=fun hk ⟨o,ho,hc⟩=>
  wpAny_bind (wpAny_isInstance (T:="StopIteration") (b:=true) ⟨o,ho,hc⟩ isSubtype_stop (wpAny_pure (hQ _ _ hk)))
 refine wpAny_bind (wpAny_attempt (wpAny_callSpecial?_slot (name:=Str.ofString "__next__") hT F.slot_zip_next (wpAny_call_entry F.slot_zip_next hT F.entry_zip_next ?_ (F.args_zip_next_1 _))));show wpAny _ _ (field (.ref z) 2 >>= _) _ _ _;refine wpAny_bind (wpAny_field hz rfl (x:=.bool false) rfl ?_)
 show wpAny _ _ (field (.ref z) 3 >>= _) _ _ _;refine wpAny_bind (wpAny_field hz rfl (x:=.ref TI) rfl ?_)
 refine wpAny_bind (wpAny_seqItems hTI rfl ?_);show wpAny _ _ (Builtin.SmallTypes.ownedTupleIsFree (.ref z) >>= _) _ _ _;refine wpAny_bind (rZ hz hf ?_ fun h0 f1' hz0 hs0=>?_)
 ·simp only[if_true];refine wpAny_bind (wpAny_rule ?_);refine wpAny_bind (wpAny_field hz rfl (x:=.ref TO) rfl ?_);refine wpAny_bind (wpAny_setField_rec hz (by simp) fun g1 z1 s1=>?_)
  replace z1:fG g1 z TI TO .ellipsis f1:=z1
  refine wpAny_bind ?_;simp only[List.zipIdx_cons,List.zipIdx_nil,forIn_cons,forIn_nil];refine wpAny_bind (wpAny_bind (wpAny_onRaise ?_));show wpAny _ _ (Builtin.SmallTypes.nextOf (.ref i1) >>= _) _ _ _;have st0:St1 i g1:=D1.frame i _ _ h1 fun b hb o e=>s1.extBut _ _ (D.f1 b hb).1 e;rcases le with rfl|⟨l1,rfl⟩
  ·refine wpAny_bind (D1.done { s with heap:=g1 } _ _ st0 fun g2 e s2 he=>?_)
   obtain⟨oe,hoe,hce⟩:=he;have z2:fG g2 z TI TO .ellipsis f1:=s2 _ _ D.a3.symm z1;have hez:e≠z:=fun x=>by subst x;rw[z2]at hoe;cases hoe;simp at hce
   exact wpAny_setField_rec z2 (by simp) fun g3 _ s3=>fin (tk:=s.toks) (fun c o c1 _ c3 _ x=>s3.extBut _ _ c1 (s2 _ _ c3 (s1.extBut _ _ c1 x))) ⟨oe,s3.extBut _ _ hez hoe,hce⟩
  ·refine wpAny_bind (D1.item i { s with heap:=g1 } _ _ l1 st0 fun x g2 t2 p1 st1 s2=>wpAny_pure ?_)
   have o2:IsPair g2 TO a b:=s2.extBut _ _ D.a8 (s1.extBut _ _ D.a2 hTO);refine wpAny_bind (wpAny_seqItems o2 rfl ?_);refine wpAny_bind (wpAny_updateSeq_pair o2 fun g3 o3 s3=>?_);refine wpAny_bind (wpAny_letGo (wpAny_pure ?_));refine wpAny_bind (wpAny_bind (wpAny_onRaise ?_));show wpAny _ _ (Builtin.SmallTypes.nextOf (.ref i2) >>= _) _ _ _;refine wpAny_bind (D2.done { s with heap:=g3,toks:=t2 } _ _ (D2.frame i _ _ h2 fun b hb o e=>s3.extBut _ _ (D.f2 b hb).2.1 (s2.extBut _ _ (D.f2 b hb).2.2 (s1.extBut _ _ (D.f2 b hb).1 e))) fun g4 e s4 he=>?_)
   obtain⟨oe,hoe,hce⟩:=he;have z4:fG g4 z TI TO .ellipsis f1:=s4 _ _ D.a4.symm (s3.extBut _ _ D.a2.symm (s2.extBut _ _ D.a3.symm z1));have hez:e≠z:=fun x=>by subst x;rw[z4]at hoe;cases hoe;simp at hce
   exact wpAny_setField_rec z4 (by simp) fun g5 _ s5=>fin (tk:=t2) (fun c o c1 c2 c3 c4 x=>s5.extBut _ _ c1 (s4 _ _ c4 (s3.extBut _ _ c2 (s2.extBut _ _ c3 (s1.extBut _ _ c1 x))))) ⟨oe,s5.extBut _ _ hez hoe,hce⟩
 ·simp only[Bool.false_eq_true,if_false];rw[<- Array.forIn_toList];simp only[forIn_cons,forIn_nil];refine wpAny_bind (wpAny_bind (wpAny_bind (wpAny_holding ?_)));show wpAny _ _ (Builtin.SmallTypes.nextOf (.ref i1) >>= _) _ _ _
  have st0:St1 i h0:=D1.frame i _ _ h1 fun b hb o e=>hs0.extBut _ _ (D.f1 b hb).1 e;rcases le with rfl|⟨l1,rfl⟩
  ·exact wpAny_bind (D1.done { s with heap:=h0 } _ _ st0 fun g2 e s2 he=>fin (tk:=s.toks) (fun c o c1 _ c3 _ x=>s2 _ _ c3 (hs0.extBut _ _ c1 x)) he)
  ·refine wpAny_bind (D1.item i { s with heap:=h0 } _ _ l1 st0 fun x g2 t2 p1 st1 s2=>wpAny_pure (wpAny_pure ?_))
   refine wpAny_bind (wpAny_bind (wpAny_holding ?_));show wpAny _ _ (Builtin.SmallTypes.nextOf (.ref i2) >>= _) _ _ _
   exact wpAny_bind (D2.done { s with heap:=g2,toks:=t2 } _ _ (D2.frame i _ _ h2 fun b hb o e=>s2.extBut _ _ (D.f2 b hb).2.2 (hs0.extBut _ _ (D.f2 b hb).1 e)) fun g4 e s4 he=>fin (tk:=t2) (fun c o c1 _ c3 c4 x=>s4 _ _ c4 (s2.extBut _ _ c3 (hs0.extBut _ _ c1 x))) he)
theorem AT{tg:Expr}{z TI TO:Addr}{f0 f1 u:Value}{Q:Unit->Shared->Prop}(hz:fG s.heap z TI TO f0 f1)(hf:u9 f0)
  (hQ:∀ h' f0',u9 f0'->fG h' z TI TO f0' f1->Heap.SameBut z s.heap h'->Q () { s with heap:=h' }):wpAny (model prog w) A (letOwnedTupleGo tg (.ref z) u) Q E s:=by
 have same:Q () s:=hQ s.heap f0 hf hz (Heap.SameBut.refl ..);unfold letOwnedTupleGo;cases tg<;>first
  | exact wpAny_pure same
  | (cases u<;>first
    | exact wpAny_pure same
    | (refine wpAny_bind (wpAny_load hz ?_)
       dsimp only;split
       ·refine wpAny_bind (wpAny_rule ?_);exact wpAny_setField_rec hz (by simp) fun h1 z1 s1=>hQ h1 _ (.inl rfl) z1 s1
       ·exact wpAny_pure same))
end
inductive Zk where
 | lst (l:Addr) (xs:List V)
 | txt (z:Str) (t:Tok)
def Zk.vs:Zk->List V
 | .lst _ xs=>xs
 | .txt z _=>dh z
def Zk.val:Zk->Value
 | .lst l _=>.ref l
 | .txt z t=>.str z t
def Zk.here(K:Frag)(H:Hp):Zk->Prop
 | .lst l xs=>i0 K H l xs
 | .txt _ _=>True
def Zk.ready(h:Heap):Zk->Prop
 | .lst l xs=>∃ us,Vals xs us/\h.IsList l us.toArray
 | .txt _ _=>True
def Zk.it(it:Addr)(i:Nat)(h:Heap):Zk->Prop
 | .lst l _=>h.IsListIter it l i
 | .txt z t=>h.IsStrIter it (strIterType z) z t i
theorem i_(z:Str):strIterType z="str_ascii_iterator"\/strIterType z="str_iterator":=by unfold strIterType;split;exact .inl rfl;exact .inr rfl
theorem Zk.obj{k:Zk}{it:Addr}{i:Nat}{h:Heap}(x:k.it it i h):∃ o,h.get? it=some o/\(∀ v,o.data≠.cell v)/\o.cls≠.type "list"/\o.cls≠.type "tuple"/\o.cls≠.type "zip":=by
 cases k with
 | lst l xs=>
  obtain⟨o,e,c,d⟩:=x;exact⟨o,e,(fun v z=>by rw[d]at z;cases z),by rw[c];decide,by rw[c];decide,by rw[c];decide⟩
 | txt z t=>
  obtain⟨o,e,c,d⟩:=x;refine⟨o,e,(fun v z=>by rw[d]at z;cases z),?_⟩
  rw[c];rcases i_ z with q|q<;>rw[q]<;>decide
theorem Zk.keep{k:Zk}{it:Addr}{i:Nat}{h h':Heap}(x:k.it it i h)(q:∀ o,h.get? it=some o->h'.get? it=some o):k.it it i h':=by
 cases k with
 | lst l xs=>exact x.at fun o e=>q o e
 | txt z t=>
  obtain⟨o,e,c⟩:=x;exact⟨o,q o e,c⟩
theorem Zk.of{X:Cx}{pins:List (Addr×Obj)}{σ:St}{H:Hp}{s:Shared}{k:Zk}(I:Inv X pins σ H s)(x:k.here X.K H):k.ready s.heap:=by
 cases k with
 | lst l xs=>
  obtain⟨its,rv,p,_⟩:=I.list x;exact⟨its,rv,p.isList⟩
 | txt z t=>exact True.intro
theorem Zk.draws{P:Program}{w:World}{k:Zk}{it:Addr}{h:Heap}{j:Nat}(x:k.ready h)(y:k.it it j h):∃ (fp:List Addr) (Pv:Nat->Value->Prop) (St:Nat->Heap->Prop),(∀ A:Around,A.handled=none->Draws P w A it fp k.vs.length Pv St)/\(∀ i v,Pv i v->∃ u,k.vs[i]?=some u/\aD u v)/\
  (∀ i,k.it it i h->St i h)/\(∀ i h',St i h'->k.it it i h')/\∀ b∈fp,b=it\/∃ o,h.get? b=some o/\o.cls=.type "list":=by
 cases k with
 | lst l xs=>
  obtain⟨us,rv,p⟩:=x;obtain⟨o,e,c,d⟩:=id y;obtain⟨o',e',c',d'⟩:=id p;have hne:l≠it:=fun z=>by subst z;rw[e]at e';cases e';rw[c]at c';exact absurd c' (by decide)
  have hl:us.toArray.size=xs.length:=by rw[size_toArray];exact rv.length.symm
  refine⟨[it,l],fun i v=>us.toArray[i]?=some v,fun i h=>h.IsListIter it l i/\h.IsList l us.toArray,fun A hh=>?_,fun i v q=>?_,fun i q=>⟨q,p⟩,fun i h' q=>q.1,fun b hb=>?_⟩
  ·have:=Draws.list (prog:=P) (w:=w) hh it l hne us.toArray;rw[hl]at this;exact this
  ·have q':us[i]?=some v:=by simpa using q
   obtain⟨u,e1,r⟩:=L3.Vals.getV rv q';exact⟨u,e1,r⟩
  ·have hb':b=it\/b=l:=by simpa using hb
   rcases hb' with rfl|rfl
   ·exact .inl rfl
   ·exact .inr ⟨o',e',c'⟩
 | txt z t=>
  have hz:(dh z).length=z.cps.size:=by simp[dh]
  refine⟨[it],fun i v=>∃ c u,z.cps[i]?=some c/\v=.str ⟨#[c]⟩ u,fun i h=>h.IsStrIter it (strIterType z) z t i,fun A hh=>?_,fun i v q=>?_,fun i q=>q,fun i h' q=>q,fun b hb=>.inl (by simpa using hb)⟩
  ·show Draws P w A it [it] (dh z).length _ _;rw[hz];rcases i_ z with q|q<;>rw[q]
   ·exact Draws.strAscii hh it z t
   ·exact Draws.strWide hh it z t
  ·obtain⟨c,u,e1,rfl⟩:=q;have e2:z.cps.toList[i]?=some c:=by simpa using e1
   exact⟨.str ⟨#[c]⟩,by simp[Zk.vs,dh,e2],⟨u,rfl⟩⟩
def vK(k1 k2:Zk)(z TI TO i1 i2:Addr)(i:Nat)(h:Heap):Prop:=
 (∃ f0 f1,u9 f0/\fG h z TI TO f0 f1)/\IsPair h TI (.ref i1) (.ref i2)/\(∃ a b,IsPair h TO a b)/\k1.it i1 i h/\k2.it i2 i h
structure ZAp(z TI TO i1 i2:Addr):Prop where
 t:TI≠TO
 i:i1≠i2
theorem vK.apart{k1 k2:Zk}{z TI TO i1 i2:Addr}{i:Nat}{h:Heap}{fp1 fp2:List Addr}(D:ZAp z TI TO i1 i2)(x:vK k1 k2 z TI TO i1 i2 i h)(q1:∀ b∈fp1,b=i1\/∃ o,h.get? b=some o/\o.cls=.type "list")(q2:∀ b∈fp2,b=i2\/∃ o,h.get? b=some o/\o.cls=.type "list"):ZApart z TI TO i1 i2 fp1 fp2:=by
 obtain⟨⟨f0,f1,_,hz⟩,hTI,⟨a,b,hTO⟩,h1,h2⟩:=x;obtain⟨o1,e1,_,c1,c2,c3⟩:=Zk.obj h1;obtain⟨o2,e2,_,d1,d2,d3⟩:=Zk.obj h2;have ne:∀ {a b:Addr} {o o':Obj},h.get? a=some o->h.get? b=some o'->o.cls≠o'.cls->a≠b:=fun ha hb hc z=>by subst z;rw[ha]at hb;cases hb;exact hc rfl
 have y1:i1≠z:=ne e1 hz c3;have y2:i2≠z:=ne e2 hz d3;have y3:TO≠i1:=(ne e1 hTO c2).symm;have y4:TO≠i2:=(ne e2 hTO d2).symm;have tz:Value.type "tuple"≠Value.type "zip":=by decide
 have lz:Value.type "list"≠Value.type "zip":=by decide
 have lt:Value.type "list"≠Value.type "tuple":=by decide
 refine⟨ne hTI hz tz,ne hTO hz tz,y1,y2,D.t,(ne e1 hTI c2).symm,(ne e2 hTI d2).symm,y3,y4,D.i,fun b hb=>?_,fun b hb=>?_⟩
 ·rcases q1 b hb with rfl|⟨o,e,c⟩
  ·exact⟨y1,y3.symm,D.i⟩
  ·exact⟨ne e hz (by rw[c];exact lz),ne e hTO (by rw[c];exact lt),ne e e2 (by rw[c];exact d1.symm)⟩
 ·rcases q2 b hb with rfl|⟨o,e,c⟩
  ·exact⟨y2,y4.symm,D.i.symm⟩
  ·exact⟨ne e hz (by rw[c];exact lz),ne e hTO (by rw[c];exact lt),ne e e1 (by rw[c];exact c1.symm)⟩
section
variable{prog:Program}{w:World}{A:Around}{E:Value->Shared->Prop}{s:Shared}{k1 k2:Zk}{z TI TO i1 i2:Addr}{i:Nat}
theorem va{Q:Option Value->Shared->Prop}(hh:A.in1.handled=none)(D:ZAp z TI TO i1 i2)(x:vK k1 k2 z TI TO i1 i2 i s.heap)(r1:k1.ready s.heap)(r2:k2.ready s.heap)(l1:i < k1.vs.length)(l2:i < k2.vs.length)
  (hQ:∀ h' tk x y u v,k1.vs[i]?=some u->k2.vs[i]?=some v->aD u x->aD v y->vK k1 k2 z TI TO i1 i2 (i+1) h'->IsPair h' s.heap.objs.size x y->h'.objs.size=s.heap.objs.size+1->
   (∀ c o,c∉[z,TI,TO,i1,i2]->s.heap.get? c=some o->h'.get? c=some o)->Q (some (.ref s.heap.objs.size)) { s with heap:=h',toks:=tk }):wpAny (model prog w) A (pyNext (.ref z)) Q E s:=by
 obtain⟨fp1,P1,St1,D1,v1,t1,b1,q1⟩:=Zk.draws (P:=prog) (w:=w) r1 x.2.2.2.1;obtain⟨fp2,P2,St2,D2,v2,t2,b2,q2⟩:=Zk.draws (P:=prog) (w:=w) r2 x.2.2.2.2;have ap:=x.apart D q1 q2;obtain⟨⟨f0,f1,hf,hz⟩,hTI,⟨a,b,hTO⟩,h1,h2⟩:=x;refine r0 (D1 _ hh) (D2 _ hh) ap hz hf hTI hTO (t1 i h1) (t2 i h2) l1 l2 fun h' tk x y f0' f1' a' b' p1 p2 hf' z' o' s1 s2 tp sz kp=>?_;obtain⟨u,e1,ru⟩:=v1 i x p1;obtain⟨v,e2,rv⟩:=v2 i y p2;exact hQ h' tk x y u v e1 e2 ru rv ⟨⟨f0',f1',hf',z'⟩,kp _ _ ap.a1 ap.a5 ap.a6 ap.a7 hTI,⟨a',b',o'⟩,b1 _ _ s1,b2 _ _ s2⟩ tp sz fun c o hc e=>kp c o (fun q=>hc (by simp[q])) (fun q=>hc (by simp[q])) (fun q=>hc (by simp[q])) (fun q=>hc (by simp[q])) e
theorem wZ{Q:Option Value->Shared->Prop}(hh:A.in1.handled=none)(D:ZAp z TI TO i1 i2)(x:vK k1 k2 z TI TO i1 i2 i s.heap)(r1:k1.ready s.heap)(r2:k2.ready s.heap)(l:i=min k1.vs.length k2.vs.length)
  (hQ:∀ h' tk,(∀ c o,c∉[z,TI,TO,i1,i2]->s.heap.get? c=some o->h'.get? c=some o)->Q none { s with heap:=h',toks:=tk }):wpAny (model prog w) A (pyNext (.ref z)) Q E s:=by
 obtain⟨fp1,P1,St1,D1,v1,t1,b1,q1⟩:=Zk.draws (P:=prog) (w:=w) r1 x.2.2.2.1;obtain⟨fp2,P2,St2,D2,v2,t2,b2,q2⟩:=Zk.draws (P:=prog) (w:=w) r2 x.2.2.2.2;have ap:=x.apart D q1 q2;obtain⟨⟨f0,f1,hf,hz⟩,hTI,⟨a,b,hTO⟩,h1,h2⟩:=x;exact tZ (D1 _ hh) (D2 _ hh) ap hz hf hTI hTO (t1 i h1) (t2 i h2) (by walk_at "o") fun h' tk kp=>hQ h' tk fun c o hc e=>kp c o (fun q=>hc (by simp[q])) (fun q=>hc (by simp[q])) (fun q=>hc (by simp[q])) (fun q=>hc (by simp[q])) e
theorem vK.keep{h h':Heap}(x:vK k1 k2 z TI TO i1 i2 i h)(q:∀ b∈[z,TI,TO,i1,i2],∀ o,h.get? b=some o->h'.get? b=some o):vK k1 k2 z TI TO i1 i2 i h':=by
 obtain⟨⟨f0,f1,hf,hz⟩,hTI,⟨a,b,hTO⟩,h1,h2⟩:=x;exact⟨⟨f0,f1,hf,q z (by simp) _ hz⟩,q TI (by simp) _ hTI,⟨a,b,q TO (by simp) _ hTO⟩,Zk.keep h1 fun o e=>q i1 (by simp) o e,Zk.keep h2 fun o e=>q i2 (by simp) o e⟩
end
def ES(K:Frag)(k1 k2:Zk):It:=
 ⟨fun i H=>(i < k1.vs.length/\i < k2.vs.length)/\k1.here K H/\k2.here K H,fun i H x H'=>∃ p u v,H p=none/\x=.ref p/\H'=bB H p (.tup [u,v])/\k1.vs[i]?=some u/\k2.vs[i]?=some v,fun i H=>i=min k1.vs.length k2.vs.length/\k1.here K H/\k2.here K H⟩
theorem mB{P:Program}{w:World}{K:Frag}{tg:Expr}(k1 k2:Zk)(z TI TO i1 i2:Addr)(D:ZAp z TI TO i1 i2):Turn P w K tg (ES K k1 k2) [z,TI,TO,i1,i2] z (vK k1 k2 z TI TO i1 i2) where
 mem:=by simp
 obj:=fun i h st b hb=>by
  obtain⟨⟨f0,f1,hf,hz⟩,hTI,⟨a,b',hTO⟩,h1,h2⟩:=st;obtain⟨o1,e1,c1,_⟩:=Zk.obj h1;obtain⟨o2,e2,c2,_⟩:=Zk.obj h2;simp only[mem_cons,not_mem_nil,or_false]at hb;rcases hb with rfl|rfl|rfl|rfl|rfl
  ·exact⟨_,hz,fun v q=>by cases q⟩
  ·exact⟨_,hTI,fun v q=>by cases q⟩
  ·exact⟨_,hTO,fun v q=>by cases q⟩
  ·exact⟨o1,e1,c1⟩
  ·exact⟨o2,e2,c2⟩
 keep:=fun i h h' st q=>st.keep q
 item:=by
  intro X hP hw hK hc i pins s σ H E I hf st hg;subst hP hw hK;obtain⟨⟨l1,l2⟩,e1,e2⟩:=hg;refine va (I.ok.hd hc) D st (Zk.of I e1) (Zk.of I e2) l1 l2 fun h' tk x y u v q1 q2 ru rv st' tp sz kp=>?_;refine⟨_,rfl,?_⟩;obtain⟨⟨f0,f1,hl,hz⟩,hTI,⟨a,b,hTO⟩,h1,h2⟩:=id st';refine AT (s:={ s with heap:=h',toks:=tk }) hz hl fun h2' f0' hl' hz' sb=>?_
  have hn:H s.heap.objs.size=none:=I.hok.fresh (le_refl _);have lt:∀ b∈[z,TI,TO,i1,i2],b≠s.heap.objs.size:=fun b hb=>by
   obtain⟨o,e,_⟩:=(show ∃ o,s.heap.get? b=some o/\True from by
    obtain⟨⟨g0,g1,_,gz⟩,gTI,⟨ga,gb,gTO⟩,k1',k2'⟩:=st;obtain⟨o1,x1,_⟩:=Zk.obj k1';obtain⟨o2,x2,_⟩:=Zk.obj k2';simp only[mem_cons,not_mem_nil,or_false]at hb;rcases hb with rfl|rfl|rfl|rfl|rfl
    ·exact⟨_,gz,True.intro⟩
    ·exact⟨_,gTI,True.intro⟩
    ·exact⟨_,gTO,True.intro⟩
    ·exact⟨_,x1,True.intro⟩
    ·exact⟨_,x2,True.intro⟩)
   exact ne_of_lt (Heap.lt_size e)
  have up:∀ c o,c≠z->h'.get? c=some o->h2'.get? c=some o:=fun c o hc e=>sb.extBut _ _ hc e;have hzs:z≠s.heap.objs.size:=lt z (by simp)
  have I0:Inv X pins σ (bB H s.heap.objs.size (.tup [u,v])) { s with heap:=s.heap.push { cls:=.type "tuple",data:=.seq #[x,y] },toks:=s.toks }:=by
   refine I.laid (t':=s.toks) (fun b v q=>Heap.get?_push_of_some _ q) (le_refl _) ?_;exact⟨by show 2<=sizeLine;decide,[x,y],.cons ru (.cons rv .nil),nM.new _ _⟩
  have I1:Inv X pins σ (bB H s.heap.objs.size (.tup [u,v])) { s with heap:=h2',toks:=tk }:=by
   have:=Inv.turnedL (s:={ s with heap:=s.heap.push { cls:=.type "tuple",data:=.seq #[x,y] },toks:=s.toks }) (h':=h2') (t':=tk) (fp:=[z,TI,TO,i1,i2]) I0 (fun b o hb q=>?_) fun b hb=>?_
   ·exact this
   ·have hbz:b≠z:=fun q=>hb (by simp[q])
    have q':(s.heap.push { cls:=.type "tuple",data:=.seq #[x,y] }).get? b=some o:=q
    by_cases hbs:b=s.heap.objs.size
    ·subst hbs;rw[Heap.get?_push_size _ rfl]at q';cases q';exact up _ _ hbz tp
    ·rw[Heap.get?_push_ne _ _ _ hbs]at q';exact up _ _ hbz (kp b o hb q')
   ·obtain⟨g0,g1,g2,g3,g4,g5⟩:=hf b hb;exact⟨by rw[au (lt b hb)];exact g0,g1,g2,g3,g4,g5⟩
  have ap:=st'.apart (fp1:=[]) (fp2:=[]) D (fun b hb=>by simp at hb) fun b hb=>by simp at hb
  refine⟨.ref s.heap.objs.size,_,I1,rfl,⟨_,u,v,hn,rfl,rfl,q1,q2⟩,⟨⟨f0',f1,hl',hz'⟩,up _ _ ap.a1 hTI,⟨a,b,up _ _ ap.a2 hTO⟩,Zk.keep h1 fun o e=>up _ _ ap.a3 e,Zk.keep h2 fun o e=>up _ _ ap.a4 e⟩,fun b hb=>?_⟩;rw[au (lt b hb)];exact (hf b hb).1
 done:=by
  intro X hP hw hK hc i pins s σ H E I hf st hg;subst hP hw hK;obtain⟨l,e1,e2⟩:=hg;exact wZ (I.ok.hd hc) D st (Zk.of I e1) (Zk.of I e2) l fun h' tk kp=>⟨rfl,I.turnedL (t':=tk) (fp:=[z,TI,TO,i1,i2]) kp hf⟩
 self:=fun _ _ _ _ _ st h=>by
  obtain⟨⟨f0,f1,_,hz⟩,_⟩:=st;have hT:=(⟨_,hz,rfl⟩:Shared.TypeIs _ (.ref z) "zip");refine wpAny_pyIter_slot hT F.slot_zip_iter (wpAny_call_entry F.slot_zip_iter hT F.entry_zip_iter ?_ (F.args_zip_iter_1 _));show wpAny _ _ (ret (.ref z)) _ _ _
  exact wpAny_pure ⟨_,rfl,"zip",_,hT,F.slot_zip_next.lookup,h⟩
def Zk.itObj:Zk->Obj
 | .lst l _=>{ cls:=.type "list_iterator",data:=.fields #[.ref l,.int 0 0] }
 | .txt z t=>{ cls:=.type (strIterType z),data:=.fields #[.str z t,.int 0 0] }
theorem Zk.iter{prog:Program}{w:World}{A:Around}{E:Value->Shared->Prop}{s:Shared}{k:Zk}{Q:Value->Shared->Prop}(r:k.ready s.heap)(hQ:Q (.ref s.heap.objs.size) { s with heap:=s.heap.push k.itObj }):wpAny (model prog w) A (pyIter k.val) Q E s:=by
 cases k with
 | lst l xs=>
  obtain⟨us,_,p⟩:=r;exact wpAny_pyIter_list p hQ
 | txt z t=>exact wpAny_pyIter_strU hQ
theorem Zk.grow{k:Zk}{h h':Heap}(r:k.ready h)(q:∀ c o,h.get? c=some o->h'.get? c=some o):k.ready h':=by
 cases k with
 | lst l xs=>
  obtain⟨us,rv,p⟩:=r;exact⟨us,rv,p.at fun o e=>q l o e⟩
 | txt z t=>exact True.intro
theorem Zk.it0{k:Zk}{h:Heap}{it:Addr}(e:h.get? it=some k.itObj):k.it it 0 h:=by
 cases k with
 | lst l xs=>exact⟨_,e,rfl,rfl⟩
 | txt z t=>exact⟨_,e,rfl,rfl⟩
theorem Zk.alive{k:Zk}{h:Heap}:(h.push k.itObj).get? h.objs.size=some k.itObj:=by
 cases k with
 | lst l xs=>exact Heap.get?_push_size _ rfl
 | txt z t=>exact Heap.get?_push_size _ rfl
abbrev yU(h:Heap)(k1:Zk):Heap:=h.push k1.itObj
abbrev yT(h:Heap)(k1 k2:Zk):Heap:=(yU h k1).push k2.itObj
abbrev yS(h:Heap)(k1 k2:Zk):Heap:=(yT h k1 k2).push { cls:=.type "tuple",data:=.seq #[.ref h.objs.size,.ref (yU h k1).objs.size] }
abbrev yR(h:Heap)(k1 k2:Zk):Heap:=(yS h k1 k2).push { cls:=.type "tuple",data:=.seq #[.none,.none] }
abbrev tY(h:Heap)(k1 k2:Zk):Heap:=(yR h k1 k2).push { cls:=.type "zip",data:=.fields #[.none,.bool false,.bool false,.ref (yT h k1 k2).objs.size,.ref (yS h k1 k2).objs.size] }
theorem uG(k1 k2:Zk):Meets (Builtin.«zip.__new__» ⟨[.type "zip",k1.val,k2.val],[]⟩) (fun _ R s=>k1.ready s.heap/\k2.ready s.heap/\R (.ok (.ret (.ref (yR s.heap k1 k2).objs.size))) { s with heap:=tY s.heap k1 k2 }):=
 .of_wp fun prog w A R s h=>by
  obtain⟨hp,g,d,tk,os⟩:=s;obtain⟨r1,r2,h⟩:=h;have hsub:=sub_zip;have q2:k2.ready (Shared.heap ⟨hp.push k1.itObj,g,d,tk,os⟩):=Zk.grow r2 fun c o e=>Heap.get?_push_of_some _ e
  wp_walk using Zk.iter (k:=k1) (s:=⟨hp,g,d,tk,os⟩) r1,Zk.iter (k:=k2) (s:=⟨hp.push k1.itObj,g,d,tk,os⟩) q2
  exact⟨_,rfl,h⟩
theorem pQ{prog:Program}{w:World}{A:Around}{E:Value->Shared->Prop}{s:Shared}{k1 k2:Zk}{Q:Value->Shared->Prop}(r1:k1.ready s.heap)(r2:k2.ready s.heap)
  (h:∀ h',vK k1 k2 (s.heap.objs.size+4) (s.heap.objs.size+2) (s.heap.objs.size+3) s.heap.objs.size (s.heap.objs.size+1) 0 h'->h'.objs.size=s.heap.objs.size+5->
   (∀ c o,s.heap.get? c=some o->h'.get? c=some o)->Q (.ref (s.heap.objs.size+4)) { s with heap:=h' }):wpAny (model prog w) A (call (.type "zip") [k1.val,k2.val]) Q E s:=by
 refine callType_new F.called_zip (by decide) (F.typeCall_zip_2 _ _) (F.newCall_zip_2 _ _) (fun obj=>F.args_object_init_3 obj _ _) F.entry_zip_new (uG k1 k2) ⟨r1,r2,?_⟩
 have z1:(yU s.heap k1).objs.size=s.heap.objs.size+1:=Heap.size_push ..;have z2:(yT s.heap k1 k2).objs.size=s.heap.objs.size+2:=by rw[Heap.size_push,z1]
 have z3:(yS s.heap k1 k2).objs.size=s.heap.objs.size+3:=by rw[Heap.size_push,z2]
 have z4:(yR s.heap k1 k2).objs.size=s.heap.objs.size+4:=by rw[Heap.size_push,z3]
 have z5:(tY s.heap k1 k2).objs.size=s.heap.objs.size+5:=by rw[Heap.size_push,z4]
 have u:∀ {h:Heap} {c:Addr} {o o':Obj},h.get? c=some o->(h.push o').get? c=some o:=fun e=>Heap.get?_push_of_some _ e;have g5:(tY s.heap k1 k2).get? (yR s.heap k1 k2).objs.size=some _:=Heap.get?_push_size _ rfl;have g4:(tY s.heap k1 k2).get? (yS s.heap k1 k2).objs.size=some _:=u (Heap.get?_push_size _ rfl);have g3:(tY s.heap k1 k2).get? (yT s.heap k1 k2).objs.size=some _:=u (u (Heap.get?_push_size _ rfl));have g2:(tY s.heap k1 k2).get? (yU s.heap k1).objs.size=some k2.itObj:=u (u (u Zk.alive));have g1:(tY s.heap k1 k2).get? s.heap.objs.size=some k1.itObj:=u (u (u (u Zk.alive)));show _/\_
 rw[z2,z3,z4]at g5;rw[z1,z2]at g3;rw[z3]at g4;rw[z1]at g2;rw[z4];exact⟨⟨_,g5,rfl⟩,h _ ⟨⟨_,_,.inl rfl,g5⟩,g3,⟨_,_,g4⟩,Zk.it0 g1,Zk.it0 g2⟩ z5 fun c o x=>u (u (u (u (u x))))⟩
end L2
namespace L3
open PySem PySem.Spec PyProof.Rows L2
def e_:D->Option (List D)
 | .lst ds=>some ds
 | .str x=>some (signs x)
 | _=>none
def jy:List D->List D->List D
 | a::r,b::t=>.tup [a,b]::jy r t
 | _,_=>[]
theorem iA:∀ (a b:List D),(jy a b).length=min a.length b.length
 | [],_=>by simp[jy]
 | _::_,[]=>by simp[jy]
 | _::r,_::t=>by simp only[jy,length_cons,iA r t];omega
theorem my:∀ {a b:List D} {i:Nat} {x y:D},a[i]?=some x->b[i]?=some y->(jy a b)[i]?=some (.tup [x,y])
 | _::_,_::_,0,_,_,h,h'=>by simp at h h';subst h h';rfl
 | _::r,_::t,i+1,_,_,h,h'=>by simp only[getElem?_cons_succ]at h h';simpa[jy]using my h h'
 | [],_,_,_,_,h,_=>by simp at h
 | _::_,[],_,_,_,_,h=>by simp at h
theorem pd{K:Frag}{H:Hp}(z:Str):RDs K H (signs z) (dh z):=by
 have e1:signs z=(z.cps.toList.map fun c=>(⟨#[c]⟩:Str)).map D.str:=by simp[signs]
 have e2:dh z=(z.cps.toList.map fun c=>(⟨#[c]⟩:Str)).map V.str:=by simp[dh]
 rw[e1,e2];exact RDs.strs _
theorem vc{K:Frag}{H:Hp}{d:D}{v:V}{u:Value}{ds:List D}(e:e_ d=some ds)(r:RD K H d v)(ru:aD v u):
  ∃ k:Zk,u=k.val/\RDs K H ds k.vs/\∀ (G:Gp) (G':Gp) (H':Hp),RG K H G->Kp G H G' H'->k.here K H'/\RDs K H' ds k.vs:=by
 cases d with
 | lst es=>
  simp only[e_,Option.some.injEq]at e;subst e;simp only[RD]at r;obtain⟨a,xs,rfl,f,rr⟩:=r;cases ru;exact⟨.lst a xs,rfl,rr,fun G G' H' rg k=>⟨((k.stb rg).l _ _ f).sq,RDs.mono (k.stb rg) _ _ rr⟩⟩
 | str z=>
  simp only[e_,Option.some.injEq]at e;subst e;simp only[RD]at r;subst r;obtain⟨t,rfl⟩:=ru;exact⟨.txt z t,rfl,pd z,fun _ _ _ _ _=>⟨True.intro,pd z⟩⟩
 | _=>simp[e_]at e
theorem BX{K:Frag}{G0:Gp}{H0:Hp}{ds es:List D}{k1 k2:Zk}(rg0:RG K H0 G0)(r1:∀ (G:Gp) (G':Gp) (H':Hp),RG K H0 G->Kp G H0 G' H'->k1.here K H'/\RDs K H' ds k1.vs)(r2:∀ (G:Gp) (G':Gp) (H':Hp),RG K H0 G->Kp G H0 G' H'->k2.here K H'/\RDs K H' es k2.vs):
  wR K G0 H0 (jy ds es) (ES K k1 k2):=fun i G H k rg=>by
 obtain⟨a1,q1⟩:=r1 G0 G H rg0 k;obtain⟨a2,q2⟩:=r2 G0 G H rg0 k;have n1:=q1.length;have n2:=q2.length;rw[iA];refine⟨fun hi=>⟨⟨⟨by walk_at "o",by walk_at "o"⟩,a1,a2⟩,fun x H' y=>?_⟩,fun e=>⟨by walk_at "o",a1,a2⟩⟩
 obtain⟨p,u,v,hn,rfl,rfl,e1,e2⟩:=y;have i1:i < ds.length:=by walk_at "o"
 have i2:i < es.length:=by walk_at "o"
 obtain⟨u',f1,g1⟩:=q1.get (getElem?_eq_getElem i1);obtain⟨v',f2,g2⟩:=q2.get (getElem?_eq_getElem i2);rw[e1]at f1;cases f1;rw[e2]at f2;cases f2;exact⟨Kp.laid hn,rg.laid hn,_,my (getElem?_eq_getElem i1) (getElem?_eq_getElem i2),hV rg hn (RDs.cons g1 (RDs.cons g2 RDs.nil))⟩
def wB(ta:j6):yP:=fun σ G Q=>ta σ G fun ds G'=>match ds with
 | [x,y]=>∃ a b,(e_ x=some a/\e_ y=some b)/\Q (jy a b) G'
 | _=>False
theorem tR:bootBuiltins "zip"=some (.type "zip"):=by kernel_rfl
theorem p6{K:Frag}{H:Hp}{x y:D}{vs:List V}(h:RDs K H [x,y] vs):∃ v u,vs=[v,u]/\RD K H x v/\RD K H y u:=by
 obtain⟨v,t,rfl,h1,h2⟩:=h.inv_cons;obtain⟨u,rfl,h3⟩:=fP h2;exact⟨v,u,rfl,h1,h3⟩
end L3
namespace L2
open PySem PySem.Spec PyProof.Rows
theorem qM:typeLookup (.type "list") "keys"=pure none:=by rw[typeLookup_type,builtinLookup_eq_fast];kernel_rfl
theorem sW:typeLookup (.type "zip") "keys"=pure none:=by rw[typeLookup_type,builtinLookup_eq_fast];kernel_rfl
theorem j8:typeLookup (.type "zip") "__getattr__"=pure none:=by rw[typeLookup_type,builtinLookup_eq_fast];kernel_rfl
theorem rA:entryFor table "zip.__getattribute__"=some Builtin.«object.__getattribute__»:=entryFor_alias (id':="object.__getattribute__") (by kernel_rfl) (by first|rfl|decide +kernel) (by decide +kernel) (by kernel_rfl)
theorem wg:(["__module__","__name__","__qualname__","__doc__","__annotations__"]:List Str).contains (Str.ofString "keys")=false:=by decide +kernel
theorem o_:(Str.ofString "keys").length+100<=sizeLine:=by rw[sizeLine_eq];decide +kernel
theorem m4(a:Addr)(vs:Array Value)(u:Tok):Meets (Builtin.«object.__getattribute__» ⟨[.ref a,.str "keys" u],[]⟩) (fun A R s=>s.heap.get? a=some { cls:=.type "zip",dict:=none,data:=.fields vs,slots:=#[] }/\raisesAttr (.ref a) "keys" A R s):=
 Meets.of_wp fun prog w A R s hs=>by
  obtain⟨hp,g,d,tk,os⟩:=s;obtain⟨hx,hs⟩:=hs;have hT:(⟨hp,g,d,tk,os⟩:Shared).TypeIs (.ref a) "zip":=⟨_,hx,rfl⟩;have f4:=sW;unfold Builtin.«object.__getattribute__»
  repeat (any_goals (first|assumption|wp_step))
  exact wpAny_raiseAttrError hs.1 hs.2 (attrMsg_fits (by decide +kernel) o_)
section
variable{prog:Program}{w:World}{A:Around}{E:Value->Shared->Prop}{s:Shared}{a:Addr}{Q:Option Value->Shared->Prop}
theorem qJ{xs:Array Value}{k:Nat}{sl:Array (Option Value)}(hx:s.heap.get? a=some { cls:=.type "list",dict:=none,data:=.seq xs k,slots:=sl })(hA:A.in1.handled=none)
  (h:∀ h' tk,(∀ c o,s.heap.get? c=some o->h'.get? c=some o)->Q none { s with heap:=h',toks:=tk }):wpAny (model prog w) A (getAttr? (.ref a) "keys") Q E s:=by
 obtain⟨hp,g,d,tk,os⟩:=s;have hT:∀ tk',(⟨hp,g,d,tk',os⟩:Shared).TypeIs (.ref a) "list":=fun _=>⟨_,hx,rfl⟩;have f1:=sub_AttributeError;have f3:=F.slot_list_getattribute.lookup;have f4:=F.slot_list_getattribute.bind (.ref a);have f5:=am_list_getattr_none;unfold getAttr? getAttrBy?
 repeat (any_goals (first|assumption|exact hT _|((with_reducible show wpAny _ _ (call _ _ _) _ _ _);refine call_meets F.slot_list_getattribute (hT _) am_entry_list_getattribute (F.args_list_getattribute_2 _ _) (meets_getattribute_miss_list a xs k sl _ _ qM wg o_) ⟨hx,hA,fun h' t' e hx'=>?_⟩)|wp_step))
 obtain⟨t1,u1,he⟩:=hx'.there;show wpAny _ _ (getattributeRaised _ _ _ _ _ _ _) _ _ _
 unfold getattributeRaised
 repeat (any_goals (first|assumption|wp_step))
 exact h _ _ hx'.keeps
theorem sP{vs:Array Value}(hx:s.heap.get? a=some { cls:=.type "zip",dict:=none,data:=.fields vs,slots:=#[] })(hA:A.in1.handled=none)
  (h:∀ h' tk,(∀ c o,s.heap.get? c=some o->h'.get? c=some o)->Q none { s with heap:=h',toks:=tk }):wpAny (model prog w) A (getAttr? (.ref a) "keys") Q E s:=by
 obtain⟨hp,g,d,tk,os⟩:=s;have hT:∀ tk',(⟨hp,g,d,tk',os⟩:Shared).TypeIs (.ref a) "zip":=fun _=>⟨_,hx,rfl⟩;have f1:=sub_AttributeError;have f3:=F.slot_zip_getattribute.lookup;have f4:=F.slot_zip_getattribute.bind (.ref a);have f5:=j8;unfold getAttr? getAttrBy?
 repeat (any_goals (first|assumption|exact hT _|((with_reducible show wpAny _ _ (call _ _ _) _ _ _);refine call_meets F.slot_zip_getattribute (hT _) rA (F.args_zip_getattribute_2 _ _) (m4 a vs _) ⟨hx,hA,fun h' t' e hx'=>?_⟩)|wp_step))
 obtain⟨t1,u1,he⟩:=hx'.there;show wpAny _ _ (getattributeRaised _ _ _ _ _ _ _) _ _ _
 unfold getattributeRaised
 repeat (any_goals (first|assumption|wp_step))
 exact h _ _ hx'.keeps
end
structure PWalk(prog:Program)(w:World)(A:Around)(it:Addr)(wr:List Addr)(n:Nat)(Pv:Nat->Value->Value->Prop)(St:Nat->Heap->Prop):Prop where
 frame:∀ i h h',St i h->(∀ c o,o.cls≠.type "dict"->h.get? c=some o->h'.get? c=some o)->St i h'
 item:∀ i (s:Shared) (Q:Option Value->Shared->Prop) (E:Value->Shared->Prop),i < n->St i s.heap->
  (∀ h' tk p k v,Pv i k v->(∃ o m,h'.get? p=some o/\o.cls=.type "tuple"/\o.data=.seq #[k,v] m)->St (i+1) h'->(∀ c o,c∉wr->s.heap.get? c=some o->h'.get? c=some o)->Q (some (.ref p)) { s with heap:=h',toks:=tk })->
  wpAny (model prog w) A (pyNext (.ref it)) Q E s
 done:∀ (s:Shared) (Q:Option Value->Shared->Prop) (E:Value->Shared->Prop),St n s.heap->(∀ h' tk,(∀ c o,c∉wr->s.heap.get? c=some o->h'.get? c=some o)->Q none { s with heap:=h',toks:=tk })->
  wpAny (model prog w) A (pyNext (.ref it)) Q E s
theorem eQ:plainId "dict.update.loop"=true:=by decide +kernel
theorem iM:entryFor table "dict.update.loop"=some Builtin.«dict.update.loop»:=entryFor_of_tree (by kernel_rfl)
section
variable{prog:Program}{w:World}{A:Around}{it d:Addr}{wr:List Addr}{n:Nat}{Pv:Nat->Value->Value->Prop}{St:Nat->Heap->Prop}{R:Result->Shared->Prop}{h0:Heap}
def DR(prog:Program)(w:World)(h:Heap)(d:Addr)(xs:List (List aN×Addr×Value)):Prop:=
 ∃ o es ep,h.get? d=some o/\o.ExactDict/\o.data=.dict es ep/\es.toList=xs.map (entryOfKey (tupleKind (bf prog w)))/\(xs.map (·.1)).Nodup
theorem uz{p:Addr}{k v:Value}{s:Shared}{E:Value->Shared->Prop}{Q:List Value->Shared->Prop}(h:∃ o m,s.heap.get? p=some o/\o.cls=.type "tuple"/\o.data=.seq #[k,v] m)(q:Q [k,v] s):wpAny (model prog w) A (Builtin.Dict.pairItems (.ref p)) Q E s:=by
 obtain⟨o,m,e,c,dt⟩:=h;unfold Builtin.Dict.pairItems;refine wpAny_bind (wpAny_typeOf (T:="tuple") ⟨o,e,c⟩ ?_);rw[if_pos (by decide)]
 exact wpAny_bind (wpAny_seqItems e dt (wpAny_pure q))
theorem xc(W:PWalk prog w A.in1 it wr n Pv St)(hu:A.units+1 < cLine)(hd:d∉wr)(hn:n<=sizeLine)(Acc:Nat->List (List aN×Addr×Value)->Prop)
  (hk:∀ i k v xs,Pv i k v->Acc i xs->∃ ks b,k=.ref b/\Acc (i+1) (storedH xs ks b v)/\∀ h,(∀ c o,c∉wr->c≠d->h0.get? c=some o->h.get? c=some o)->(tupleKind (bf prog w)).is h ks b)
  (hx:∀ i xs,Acc i xs->xs.length<=i/\∀ x∈xs,∀ h,(∀ c o,c∉wr->c≠d->h0.get? c=some o->h.get? c=some o)->(tupleKind (bf prog w)).is h x.1 x.2.1):
  ∀ (k i:Nat) (s:Shared) (xs:List (List aN×Addr×Value)),n - i=k->i<=n->St i s.heap->(∀ c o,c∉wr->c≠d->h0.get? c=some o->s.heap.get? c=some o)->DR prog w s.heap d xs->Acc i xs->
   (∀ h' tk ys,(∀ c o,c∉wr->c≠d->h0.get? c=some o->h'.get? c=some o)->(∀ c o,c∉wr->c≠d->s.heap.get? c=some o->h'.get? c=some o)->DR prog w h' d ys->Acc n ys->R (.ok (.ret .none)) { s with heap:=h',toks:=tk })->
   codeAny (model prog w) A (.builtin "dict.update.loop" ⟨[.ref d,.ref it,rawInt i,.none],[]⟩) R s:=by
 intro k
 induction k with
 | zero=>
  intro i s xs hk' hi st keep dr ac hR;have hin:i=n:=by walk_at "o"
  subst hin;refine codeAny_builtin iM ?_;rw[Around.under_plainId eQ _];show wpAny _ A.in1 (pyNext (.ref it) >>= _) _ _ s
  refine wpAny_bind (W.done s _ _ st fun h' tk kp=>?_);show wpAny _ _ (Builtin.Dict.addKeywords d [] >>= _) _ _ _
  refine wpAny_bind (wpAny_pure (wpAny_pure ?_));obtain⟨o,es,ep,e,r⟩:=dr;exact hR h' tk xs (fun c o hc hcd q=>kp c o hc (keep c o hc hcd q)) (fun c o hc _ q=>kp c o hc q) ⟨o,es,ep,kp d o hd e,r⟩ ac
 | succ k ih=>
  intro i s xs hk' hi st keep dr ac hR;have hlt:i < n:=by walk_at "o"
  refine codeAny_builtin iM ?_;rw[Around.under_plainId eQ _];show wpAny _ A.in1 (pyNext (.ref it) >>= _) _ _ s
  refine wpAny_bind (W.item i s _ _ hlt st fun h1 t1 p kv vv pv tp st1 kp=>?_);obtain⟨ks,b,rfl,ac',key⟩:=hk i kv vv xs pv ac;refine wpAny_bind (wpAny_holding (wpAny_bind (wpAny_tryCatch (uz tp ?_))));refine wpAny_holding ?_;obtain⟨o,es,ep,e,r1,r2,r3,r4⟩:=dr;have keep1:∀ c o,c∉wr->c≠d->h0.get? c=some o->h1.get? c=some o:=fun c o hc hcd q=>kp c o hc (keep c o hc hcd q);obtain⟨len,keys⟩:=hx i xs ac;have dd:Heap.DictOfH (tupleKind (bf prog w)) h1 d xs:=⟨o,es,ep,kp d o hd e,r1,r2,r3,fun x hx'=>keys x hx' h1 keep1,r4⟩;refine wpAny_dictSet_heap (s:={ s with heap:=h1,toks:=t1 }) (hsz:=by walk_at "o") (show A.in1.units < cLine from hu) (key h1 keep1) dd fun h2 dd2 sb=>?_
  obtain⟨o2,es2,ep2,e2,q1,q2,q3,_,q4⟩:=dd2;have up:∀ c o,c≠d->h1.get? c=some o->h2.get? c=some o:=fun c o hc q=>sb.extBut _ _ hc q;have kpd:h1.get? d=some o:=kp d o hd e;refine wpAny_pure ⟨plainId_quiet eQ _,?_⟩;have:=ih (i+1) { s with heap:=h2,toks:=t1+(tupleKind (bf prog w)).draws ks } (storedH xs ks b vv) (by walk_at "o") hlt (W.frame _ _ _ st1 fun c o' hc q=>up c o' (fun z=>by subst z;rw[kpd]at q;cases q;exact hc r1.1) q) (fun c o hc hcd q=>up c o hcd (keep1 c o hc hcd q)) ⟨o2,es2,ep2,e2,q1,q2,q3,q4⟩ ac'
   fun h' tk ys k1 k2 k3 k4=>hR h' tk ys k1 (fun c o hc hcd q=>k2 c o hc hcd (up c o hcd (kp c o hc q))) k3 k4
  exact this
end
end L2
namespace L3
open PySem PySem.Spec PyProof.Rows L2
def sI(kv:List aN×D):D:=.tup [.tup (kv.1.map kD),kv.2]
def dictOf(kvs:List (List aN×D)):List (List aN×D):=kvs.foldl (fun a kv=>cm a kv.1 kv.2) []
theorem j3(kvs:List (List aN×D)):∀ a:List (List aN×D),(kvs.foldl (fun a kv=>cm a kv.1 kv.2) a).length<=a.length+kvs.length:=by
 induction kvs with
 | nil=>intro a;exact le_refl _
 | cons kv r ih=>
  intro a;have h1:=ih (cm a kv.1 kv.2);have h2:=fB a kv.1 kv.2;simp only[foldl_cons,length_cons];omega
theorem tL{kvs:List (List aN×D)}{i:Nat}{kv:List aN×D}(h:kvs[i]?=some kv):dictOf (kvs.take (i+1))=cm (dictOf (kvs.take i)) kv.1 kv.2:=by
 unfold dictOf;rw[take_add_one,h,List.foldl_append];rfl
theorem rF(kvs:List (List aN×D)):((dictOf kvs).map (·.1)).Nodup:=by
 unfold dictOf
 suffices h:∀ a:List (List aN×D),(a.map (·.1)).Nodup->((kvs.foldl (fun a kv=>cm a kv.1 kv.2) a).map (·.1)).Nodup from h [] nodup_nil
 induction kvs with
 | nil=>intro a h;exact h
 | cons kv r ih=>intro a h;exact ih _ (jk kv.1 kv.2 h)
theorem wH{prog:Program}{w:World}{A:Around}{E:Value->Shared->Prop}{s:Shared}{src:Addr}{T:String}{Q:Value->Shared->Prop}(hT:∃ o,s.heap.get? src=some o/\o.cls=.type T)(hne:(Value.type T != Value.type "dict")=true)
  (hno:∀ (s':Shared) (Q':Option Value->Shared->Prop) (E':Value->Shared->Prop),(∀ c o,s.heap.get? c=some o->s'.heap.get? c=some o)->(∀ h' tk,(∀ c o,s'.heap.get? c=some o->h'.get? c=some o)->Q' none { s' with heap:=h',toks:=tk })->wpAny (model prog w) A.in1.in1 (getAttr? (.ref src) "keys") Q' E' s')
  (h:∀ h' tk,(∀ c o,s.heap.get? c=some o->h'.get? c=some o)->h'.get? s.heap.objs.size=some { cls:=.type "dict",data:=.dict #[] }->
   wpAny (model prog w) A.in1.in1 (pyIter (.ref src)) (fun it s2=>codeAny (model prog w) A.in1 (.builtin "dict.update.loop" ⟨[.ref s.heap.objs.size,it,rawInt 0,.none],[]⟩) (wants (fun r s₂=>r=.none/\Q (.ref s.heap.objs.size) s₂) E) s2) (fun e s'=>wants (fun r s₂=>r=.none/\Q (.ref s.heap.objs.size) s₂) E (.error e) s') { s with heap:=h',toks:=tk }):
  wpAny (model prog w) A (call (.type "dict") [.ref src]) Q E s:=by
 refine callType_codes (Q₁:=fun obj s₁=>obj=.ref s.heap.objs.size/\s₁={ s with heap:=s.heap.push { cls:=.type "dict",data:=.dict #[] } }) F.kt_called_dict (F.kt_typeCall_dict_1 _) F.entry_dict_init (kt_code_dict_new _ ⟨rfl,rfl⟩) ?_
 rintro obj s₁ ⟨rfl,rfl⟩
 have hd:(s.heap.push { cls:=.type "dict",data:=.dict #[] }).get? s.heap.objs.size=some { cls:=.type "dict",data:=.dict #[] }:=Heap.get?_push_size _ rfl;have tyd:Shared.TypeIs { s with heap:=s.heap.push { cls:=.type "dict",data:=.dict #[] } } (.ref s.heap.objs.size) "dict":=⟨_,hd,rfl⟩
 obtain⟨o,e,c⟩:=hT;have up:∀ c o,s.heap.get? c=some o->(s.heap.push { cls:=.type "dict",data:=.dict #[] }).get? c=some o:=fun c o e=>Heap.get?_push_of_some _ e;refine⟨tyd,F.args_dict_init_2 _ _,?_⟩;unfold Builtin.«dict.__init__»;refine wpAny_bind ?_;unfold Builtin.Dict.selfAndRest;refine wpAny_bind (wpAny_notOrdered_dict tyd ?_);show wpAny _ _ (pure (s.heap.objs.size,[Value.ref src])) _ _ _;refine wpAny_pure ?_
 show wpAny _ _ (Builtin.Dict.updateFrom "dict.__init__" s.heap.objs.size (.ref src) [] .none) _ _ _
 unfold Builtin.Dict.updateFrom;refine wpAny_bind (wpAny_typeOf (T:=T) ⟨o,up _ _ e,c⟩ ?_);rw[if_pos hne];refine wpAny_bind (hno _ _ _ up fun h' tk kp=>?_);simp only[Option.isNone_none,if_true];refine wpAny_bind (wpAny_rule ?_);refine wpAny_bind (wpAny_mono (h h' tk (fun c o e=>kp c o (up c o e)) (kp _ _ hd)) (fun it s2 q=>wpAny_pure ⟨plainId_quiet eQ _,q⟩) fun _ _ q=>q)
section
variable{X:Cx}{pins:List (Addr×Obj)}{τ:St}{H1:Hp}{s1:Shared}{G1:Gp}
theorem tK{src:Addr}{T:String}{kvs:List (List aN×D)}{Q:Value->Shared->Prop}(hu:X.A.units+8 < cLine)(I1:L2.Inv X pins τ H1 s1)(rg1:RG X.K H1 G1)(hz:kvs.length<=900000)
  (hT:∃ o,s1.heap.get? src=some o/\o.cls=.type T) (hne:(Value.type T != Value.type "dict")=true)
  (hno:∀ (s':Shared) (Q':Option Value->Shared->Prop) (E':Value->Shared->Prop),(∀ c o,s1.heap.get? c=some o->s'.heap.get? c=some o)->(∀ h' tk,(∀ c o,s'.heap.get? c=some o->h'.get? c=some o)->Q' none { s' with heap:=h',toks:=tk })->wpAny (model X.prog X.w) X.A.in1.in1 (getAttr? (.ref src) "keys") Q' E' s')
  (hit:∀ (h2:Heap) (tk2:Nat) (Q':Value->Shared->Prop) (E':Value->Shared->Prop),(∀ c o,s1.heap.get? c=some o->h2.get? c=some o)->s1.heap.objs.size < h2.objs.size->
   (∀ it wr Pv St h3,PWalk X.prog X.w X.A.in1.in1 it wr kvs.length Pv St->St 0 h3->(∀ c o,h2.get? c=some o->h3.get? c=some o)->(∀ b∈wr,k_ X pins H1 b/\b≠s1.heap.objs.size)->
    (∀ i k v,Pv i k v->∃ kv b x,kvs[i]?=some kv/\k=.ref b/\hJ X.K H1 b (kv.1.map kV)/\RD X.K H1 kv.2 x/\aD x v)->Q' (.ref it) { s1 with heap:=h3,toks:=tk2 })->
   wpAny (model X.prog X.w) X.A.in1.in1 (pyIter (.ref src)) Q' E' { s1 with heap:=h2,toks:=tk2 })
  (q:∀ s' H',L2.Inv X pins τ H' s'->H1 s1.heap.objs.size=none->Kp G1 H1 (gset G1 s1.heap.objs.size (.dT (ah X.prog X.w) (dictOf kvs))) H'->RG X.K H' (gset G1 s1.heap.objs.size (.dT (ah X.prog X.w) (dictOf kvs)))->Q (.ref s1.heap.objs.size) s'):
  wpAny (model X.prog X.w) X.A (call (.type "dict") [.ref src]) Q X.xe s1:=by
 have hsl:=aq;have sle:=sizeLine_eq;refine wH hT hne hno fun h2 tk2 kp2 hd2=>?_;refine hit h2 tk2 _ _ kp2 (Heap.lt_size hd2) fun it wr Pv St h3 W st0 kp3 hwr hpv=>?_;have hf:H1 s1.heap.objs.size=none:=I1.hok.fresh (le_refl _);have hdw:s1.heap.objs.size∉wr:=fun z=>(hwr _ z).2 rfl;have ltk:∀ {b:Addr} {ks:List aN},hJ X.K H1 b (ks.map kV)->b∉wr/\b≠s1.heap.objs.size/\∀ h:Heap,(∀ c o,c∉wr->c≠s1.heap.objs.size->s1.heap.get? c=some o->h.get? c=some o)->(tupleKind (bf X.prog X.w)).is h ks b:=fun {b ks} sq=>by
  have key:=key_at I1 sq;obtain⟨o,its,n,e,c,dd,ii⟩:=id key;have hb1:b≠s1.heap.objs.size:=ne_of_lt (Heap.lt_size e);have hb2:b∉wr:=fun z=>by
   obtain⟨⟨g0,g1,g2,g3,g4,g5⟩,_⟩:=hwr b z;rcases sq with (e1|⟨o',e1⟩)|⟨o',its',n',kl,_⟩
   ·rw[g0]at e1;cases e1
   ·rw[g0]at e1;cases e1
   ·have e2:X.base.get? b=some o':=I1.mod.kin b o' kl;rcases g3 with g3|g3
    ·exact I1.ok.noex b o' e2 g3
    ·exact absurd (Heap.lt_size (I1.ok.bs b o' e2).1) (Nat.not_lt.mpr g3)
  exact⟨hb2,hb1,fun h kp=>⟨o,its,n,kp b o hb2 hb1 e,c,dd,ii⟩⟩
 have accT:∀ {i:Nat} {xs:List (List aN×Addr×Value)},j7 X.K H1 (dictOf (kvs.take i)) xs->xs.length<=i/\∀ x∈xs,hJ X.K H1 x.2.1 (x.1.map kV):=fun {i xs} r=>by
  refine⟨?_,?_⟩
  ·rw[<- r.length];have:=j3 (kvs.take i) [];rw[length_take]at this;unfold dictOf;simp only[length_nil]at this;omega
  ·unfold j7 at r;generalize dictOf (kvs.take i)=ks at r
   induction r with
   | nil=>intro x hx;exact nomatch hx
   | @cons p q ps qs hq t ih=>
    intro x hx;rcases mem_cons.mp hx with e|hx
    ·subst e;rw[<- hq.1];exact hq.2.1
    ·exact ih x hx
 refine xc (A:=X.A.in1) (h0:=s1.heap) (d:=s1.heap.objs.size) W (show X.A.units+1+1 < cLine by walk_at "o") hdw (by walk_at "o") (fun i xs=>j7 X.K H1 (dictOf (kvs.take i)) xs) (fun i k v xs pv ac=>?_) (fun i xs ac=>?_) kvs.length 0 { s1 with heap:=h3,toks:=tk2 } [] (sub_zero _) (zero_le _) st0 (fun c o _ _ e=>kp3 c o (kp2 c o e)) ⟨_,#[],0,kp3 _ _ hd2,⟨rfl,rfl,rfl⟩,rfl,rfl,nodup_nil⟩ .nil fun h' tk ys k1 k2 dr ac=>?_
 ·obtain⟨kv,b,x,e,rfl,sq,rd,rv⟩:=hpv i k v pv;refine⟨kv.1,b,rfl,?_,(ltk sq).2.2⟩;show j7 X.K H1 (dictOf (kvs.take (i+1))) _
  rw[tL e];exact j7.put ac kv.1 sq rd rv
 ·obtain⟨len,ks⟩:=accT ac;exact⟨len,fun x hx h kp=>(ltk (ks x hx)).2.2 h kp⟩
 ·rw[take_length]at ac;obtain⟨o,es,ep,e,r1,r2,r3,r4⟩:=dr;have hsm:(s1.heap.objs.size == sysModules)=false:=beq_eq_false_iff_ne.mpr (Ne.symm (ne_of_lt I1.big));have fd:o.isFreed=false:=by
   obtain⟨c,dd,dt,sl⟩:=o;have r2':dt=.dict es ep:=r2;subst r2';rfl
  obtain⟨kpp,rg2⟩:=Aa (o:=.dT (ah X.prog X.w) (dictOf kvs)) (ho:=.ext (rY (ah X.prog X.w) s1.heap.objs.size ys)) rg1 hf fun H' st=>⟨ys,rfl,ac.mono st,rF kvs,by
   have:=j3 kvs [];unfold dictOf;simp only[length_nil]at this;omega⟩
  have I2:L2.Inv X pins τ (bB H1 s1.heap.objs.size (.ext (rY (ah X.prog X.w) s1.heap.objs.size ys))) { s1 with heap:=s1.heap.push o,toks:=s1.toks }:=
   I1.laid (fun _ _ q=>Heap.get?_push_of_some _ q) (le_refl _) (kS ⟨hsm,o,es,ep,Heap.get?_push_size _ fd,r1,r2,r3⟩)
  have I3:=Inv.turnedL (s:={ s1 with heap:=s1.heap.push o,toks:=s1.toks }) (h':=h') (t':=tk) (fp:=wr) I2 (fun b o' hb qb=>by
   have qb':(s1.heap.push o).get? b=some o':=qb
   by_cases hbs:b=s1.heap.objs.size
   ·subst hbs;rw[Heap.get?_push_size _ fd]at qb';cases qb';exact e
   ·rw[Heap.get?_push_ne _ _ _ hbs]at qb';exact k1 b o' hb hbs qb') fun b hb=>by
   obtain⟨⟨g0,g1,g2,g3,g4,g5⟩,nb⟩:=hwr b hb;exact⟨by rw[au nb];exact g0,g1,g2,g3,g4,g5⟩
  exact⟨rfl,q _ _ I3 hf kpp rg2⟩
end
end L3
namespace L2
open PySem PySem.Spec PyProof.Rows
theorem ur{prog:Program}{w:World}{A:Around}{it l:Addr}{us:List Value}{Pv:Nat->Value->Value->Prop}(hh:A.handled=none):
  PWalk prog w A it [it] us.length Pv (fun i h=>h.IsListIter it l i/\h.IsList l us.toArray/\∀ j u,us[j]?=some u->∃ p kk vv,u=.ref p/\(∃ o m,h.get? p=some o/\o.cls=.type "tuple"/\o.data=.seq #[kk,vv] m)/\Pv j kk vv) where
 frame:=fun i h h' ⟨⟨o1,e1,c1,d1⟩,⟨o2,e2,c2,d2⟩,ps⟩ kp=>⟨⟨o1,kp _ _ (by rw[c1];decide) e1,c1,d1⟩,⟨o2,kp _ _ (by rw[c2];decide) e2,c2,d2⟩,fun j u hu=>by
  obtain⟨p,kk,vv,e,⟨o,m,g,c,dt⟩,pv⟩:=ps j u hu;exact⟨p,kk,vv,e,⟨o,m,kp _ _ (by rw[c];decide) g,c,dt⟩,pv⟩⟩
 item:=fun i s Q E hi ⟨x1,x2,ps⟩ q=>by
  have hu:us[i]?=some us[i]:=getElem?_eq_getElem hi;obtain⟨p,kk,vv,e,tp,pv⟩:=ps i _ hu;refine wpAny_pyNext_list_item x1 x2 (x:=us[i]) (by simpa using hu) fun h' st' sb=>?_
  obtain⟨o1,e1,c1,_⟩:=x1;obtain⟨o2,e2,c2,_⟩:=id x2;have ne:∀ {b:Addr} {o:Obj} {T:String},s.heap.get? b=some o->o.cls=.type T->Value.type T≠.type "list_iterator"->b≠it:=fun hb hc hT z=>by subst z;rw[e1]at hb;cases hb;rw[c1]at hc;exact hT hc.symm
  have lk:∀ {p:Addr} {kk vv:Value},(∃ o m,s.heap.get? p=some o/\o.cls=.type "tuple"/\o.data=.seq #[kk,vv] m)->∃ o m,h'.get? p=some o/\o.cls=.type "tuple"/\o.data=.seq #[kk,vv] m:=fun⟨o,m,g,c,dt⟩=>⟨o,m,(sb.2 _ (ne g c (by decide))).trans g,c,dt⟩
  rw[e];refine q h' s.toks p kk vv pv (lk tp) ⟨st',x2.at fun o g=>(sb.2 l (ne e2 c2 (by decide))).trans g,fun j u hu=>?_⟩ fun c o hc g=>(sb.2 c (fun z=>hc (by simp[z]))).trans g
  obtain⟨p',k',v',e',tp',pv'⟩:=ps j u hu;exact⟨p',k',v',e',lk tp',pv'⟩
 done:=fun s Q E ⟨x1,x2,ps⟩ q=>wpAny_pyNext_list_end hh x1 x2 (by simp) fun h' eb=>q h' s.toks fun c o hc g=>eb c o (fun z=>hc (by simp[z])) g
theorem vK.wr{k1 k2:Zk}{z TI TO i1 i2:Addr}{i:Nat}{h:Heap}(x:vK k1 k2 z TI TO i1 i2 i h):∀ b∈[z,TI,TO,i1,i2],∃ o,h.get? b=some o/\o.cls≠.type "list"/\o.cls≠.type "dict":=by
 obtain⟨⟨f0,f1,_,hz⟩,hTI,⟨a,b',hTO⟩,h1,h2⟩:=x;have nd:∀ {k:Zk} {it:Addr},k.it it i h->∃ o,h.get? it=some o/\o.cls≠.type "list"/\o.cls≠.type "dict":=fun {k it} y=>by
  cases k with
  | lst l xs=>
   obtain⟨o,e,c,_⟩:=y;exact⟨o,e,by rw[c];decide,by rw[c];decide⟩
  | txt z t=>
   obtain⟨o,e,c,_⟩:=y;refine⟨o,e,?_⟩;rw[c];rcases i_ z with q|q<;>rw[q]<;>decide
 intro b hb;simp only[mem_cons,not_mem_nil,or_false]at hb;rcases hb with rfl|rfl|rfl|rfl|rfl
 ·exact⟨_,hz,by show Value.type "zip"≠_;decide,by show Value.type "zip"≠_;decide⟩
 ·exact⟨_,hTI,by show Value.type "tuple"≠_;decide,by show Value.type "tuple"≠_;decide⟩
 ·exact⟨_,hTO,by show Value.type "tuple"≠_;decide,by show Value.type "tuple"≠_;decide⟩
 ·exact nd h1
 ·exact nd h2
theorem Zk.stay{k:Zk}{h h':Heap}(r:k.ready h)(q:∀ c o,o.cls=.type "list"->h.get? c=some o->h'.get? c=some o):k.ready h':=by
 cases k with
 | lst l xs=>
  obtain⟨us,rv,o,e,c,d⟩:=r;exact⟨us,rv,o,q l o c e,c,d⟩
 | txt z t=>exact True.intro
theorem vX{prog:Program}{w:World}{A:Around}{k1 k2:Zk}{z TI TO i1 i2:Addr}(hh:A.in1.handled=none)(D:ZAp z TI TO i1 i2):
  PWalk prog w A z [z,TI,TO,i1,i2] (min k1.vs.length k2.vs.length) (fun i k v=>∃ u x,k1.vs[i]?=some u/\k2.vs[i]?=some x/\aD u k/\aD x v) (fun i h=>vK k1 k2 z TI TO i1 i2 i h/\k1.ready h/\k2.ready h) where
 frame:=fun i h h' ⟨st,r1,r2⟩ kp=>⟨st.keep fun b hb o e=>by
  obtain⟨o',e',_,c⟩:=st.wr b hb;rw[e]at e';cases e';exact kp b o c e,Zk.stay r1 fun c o hc e=>kp c o (by rw[hc];decide) e,Zk.stay r2 fun c o hc e=>kp c o (by rw[hc];decide) e⟩
 item:=fun i s Q E hi ⟨st,r1,r2⟩ q=>by
  refine va hh D st r1 r2 (by walk_at "o") (by walk_at "o") fun h' tk x y u v e1 e2 ru rv st' tp sz kp=>?_
  have ls:∀ c o,o.cls=.type "list"->s.heap.get? c=some o->h'.get? c=some o:=fun c o hc e=>kp c o (fun hb=>by
   obtain⟨o',e',c',_⟩:=st.wr c hb;rw[e]at e';cases e';exact c' hc) e
  exact q h' tk _ x y ⟨u,v,e1,e2,ru,rv⟩ ⟨_,_,tp,rfl,rfl⟩ ⟨st',Zk.stay r1 ls,Zk.stay r2 ls⟩ kp
 done:=fun s Q E ⟨st,r1,r2⟩ q=>wZ hh D st r1 r2 rfl fun h' tk kp=>q h' tk kp
end L2
namespace L3
open PySem PySem.Spec PyProof.Rows L2
theorem pR:bootBuiltins "dict"=some (.type "dict"):=by kernel_rfl
theorem AJ{X:Cx}{tg:Expr}{a b:Expr}{ta:j6}{p pos:Pos}(hg:Gl X "zip")(hm:X.mg "zip"=none)(ha:PA X [a,b] (eT X.K ta))(hs:starEach [a,b] X.env=[(false,eval a X.env),(false,eval b X.env)]:=by rfl)(hs2:starEach [b] X.env=[(false,eval b X.env)]:=by rfl):
  PI X tg (.Call (.Name "zip" p) [a,b] [] pos) (lA X.K (wB ta)):=by
 intro pins s τ H R I h;obtain⟨σ,G,Q3,rs,rg,hq,k⟩:=h;refine Call_ (gI I hg hm tR (PyProof.Rows.callWith_type1 (bZ (ha pos pins s τ H (fun vs H1=>∃ ds G1,(match ds with|[x,y]=>∃ a b,(e_ x=some a/\e_ y=some b)/\Q3 (jy a b) G1|_=>False)/\Kp G H G1 H1/\RG X.K H1 G1/\RDs X.K H1 ds vs) I
  ⟨σ,G,_,rs,rg,hq,fun ds G1 vs H1 q k1 rg1 rds=>⟨ds,G1,q,k1,rg1,rds⟩⟩) fun us s1 ⟨vs,H1,I1,r1,q1⟩=>?_) (by rw[hs,hs2]) (by rw[hs2];rfl)))
 obtain⟨ds,G1,q,k1,rg1,rds⟩:=q1;split at q
 ·rename_i x y;obtain⟨as,bs,⟨ea,eb⟩,q⟩:=q;obtain⟨v,v',rfl,rd1,rd2⟩:=p6 rds;obtain⟨u,u',rfl,ru1,ru2⟩:=r1.two;obtain⟨z1,rfl,_,w1⟩:=vc ea rd1 ru1;obtain⟨z2,rfl,_,w2⟩:=vc eb rd2 ru2;have hr1:=(w1 G1 G1 H1 rg1 Kp.refl).1;have hr2:=(w2 G1 G1 H1 rg1 Kp.refl).1;refine pQ (Zk.of I1 hr1) (Zk.of I1 hr2) fun h' zs hsz kp=>?_;have D:ZAp (s1.heap.objs.size+4) (s1.heap.objs.size+2) (s1.heap.objs.size+3) s1.heap.objs.size (s1.heap.objs.size+1):=⟨ne_of_lt (lt_succ_self (s1.heap.objs.size+2)),ne_of_lt (lt_succ_self s1.heap.objs.size)⟩;refine (mB (P:=X.prog) (w:=X.w) (K:=X.K) (tg:=tg) z1 z2 _ _ _ _ _ D).self _ 0 _ _ _ zs ?_;refine⟨s1.heap.objs.size+4,[s1.heap.objs.size+4,s1.heap.objs.size+2,s1.heap.objs.size+3,s1.heap.objs.size,s1.heap.objs.size+1],_,_,H1,rfl,I1.kept (t':=s1.toks) kp,mB z1 z2 _ _ _ _ _ D,zs,fun c hc=>?_,k _ G1 _ H1 q k1 rg1 (BX rg1 w1 w2)⟩;have hc':s1.heap.objs.size<=c:=by
   simp only[mem_cons,not_mem_nil,or_false]at hc;rcases hc with rfl|rfl|rfl|rfl|rfl<;>first|exact le_refl _|exact Nat.le_add_right _ _
  exact I1.fpOk hc' (I1.hok.fresh hc')
 ·exact q.elim
def uW(hw:List aN->Int)(te:bJ):bJ:=fun σ G Q=>te σ G fun x G1=>match pX G1 (val x) with
 | some ds=>∃ kvs:List (List aN×D),(ds=kvs.map sI/\kvs.length<=900000)/\∀ p,G1 p=none->Q (.ref p) (gset G1 p (.dT hw (dictOf kvs)))
 | none=>False
def uV(hw:List aN->Int)(ta:j6):bJ:=fun σ G Q=>ta σ G fun ds G1=>match ds with
 | [x,y]=>∃ a b,∃ kvs:List (List aN×D),(e_ x=some a/\e_ y=some b/\jy a b=kvs.map sI/\kvs.length<=900000)/\∀ p,G1 p=none->Q (.ref p) (gset G1 p (.dT hw (dictOf kvs)))
 | _=>False
theorem AH{K:Frag}{H:Hp}{ks:List aN}{v:V}(r:RD K H (.tup (ks.map kD)) v):∃ b,v=.ref b/\hJ K H b (ks.map kV):=mm (d:=.tup (ks.map kD)) (vy ks) r
theorem zD{X:Cx}{e:Expr}{te:bJ}{p1 pos:Pos}(hu:X.A.units+8 < cLine)(hc:X.calm=true)(hg:Gl X "dict")(hm:X.mg "dict"=none)(he:PE X e (aJ X.K te))(hs:starEach [e] X.env=[(false,eval e X.env)]:=by rfl):
  PE X (.Call (.Name "dict" p1) [e] [] pos) (aJ X.K (uW (ah X.prog X.w) te)):=by
 rintro pins s τ H Q I ⟨σ,G,Q3,rs,rg,h,k⟩
 refine Call_ (gI I hg hm pR (PyProof.Rows.callWith_type1 ?_ hs rfl) (by decide) (by decide))
 rw[show backTo pos (starEach [e] X.env)=[(false,eval e X.env)]by rw[hs];rfl]
 refine Calls.spliced_cons (bZ (cR he I rs rg h) fun ov s1 ⟨ox,H1,I1,rox,x,G1,q1,k1,rg1,rd1⟩=>Calls.spliced_nil ?_);split at q1
 ·rename_i ds hq;obtain⟨kvs,⟨rfl,hz⟩,q1⟩:=q1;obtain⟨l,xs,rfl,sq,r⟩:=jv (G:=G1) (H:=H1) hq (.of rd1) rg1;cases rox;obtain⟨its,rv,pl,_⟩:=I1.list sq;have n1:=r.length;have n2:=rv.length;rw[length_map]at n1;obtain⟨lo,ln,le,lc,ld,ldat⟩:=id pl;have tps:∀ (j:Nat) u,its[j]?=some u->∃ p kk vv,u=.ref p/\(∃ o m,s1.heap.get? p=some o/\o.cls=.type "tuple"/\o.data=.seq #[kk,vv] m)/\∃ kv b x,kvs[j]?=some kv/\kk=.ref b/\hJ X.K H1 b (kv.1.map kV)/\RD X.K H1 kv.2 x/\aD x vv:=fun j u hu=>by
   obtain⟨v,e1,ru⟩:=Vals.getV rv hu;obtain⟨d,e2,rd⟩:=RDs.getV r e1;rw[getElem?_map]at e2;cases hkv:kvs[j]? with
   | none=>rw[hkv]at e2;cases e2
   | some kv=>
    rw[hkv]at e2;cases e2;unfold sI at rd;simp only[RD]at rd;obtain⟨p,ys,rfl,sqp,ry⟩:=rd;obtain⟨y1,y2,rfl,ra,rb⟩:=p6 ry;obtain⟨b,rfl,sb⟩:=AH (ks:=kv.1) (by simpa only[RD]using ra)
    cases ru;obtain⟨its2,rv2,tp,_⟩:=I1.tuple sqp;obtain⟨o,g1,g2,m,g3⟩:=tp;obtain⟨w1,w2,rfl,rw1,rw2⟩:=rv2.two;cases rw1;exact⟨p,_,w2,rfl,⟨o,m,g1,g2,by simpa using g3⟩,kv,b,y2,rfl,rfl,sb,rb,rw2⟩
  refine tK (T:="list") (kvs:=kvs) hu I1 rg1 hz ⟨lo,le,lc⟩ (by decide) (fun s' Q' E' kp q'=>?_) (fun h2 tk2 Q' E' kp hlt q'=>?_) fun s' H' I' hf kp rg'=>⟨.ref s1.heap.objs.size,H',I',rfl,k _ _ _ H' (q1 _ (rg1.free hf)) (k1.trans kp) rg' (.of h_)⟩
  ·obtain⟨c0,d0,t0,s0⟩:=lo;simp only at lc ld ldat;subst lc ld ldat;exact qJ (kp _ _ le) (I.ok.hd hc) q'
  ·refine wpAny_pyIter_list (pl.isList.at fun o e=>kp _ _ e) ?_;have hln:kvs.length=its.length:=n1.trans n2;have W:=ur (prog:=X.prog) (w:=X.w) (A:=X.A.in1.in1) (it:=h2.objs.size) (l:=l) (us:=its) (Pv:=fun (j:Nat) (kk vv:Value)=>∃ (kv:List aN×D) (b:Addr) (x:V),kvs[j]?=some kv/\kk=Value.ref b/\hJ X.K H1 b (kv.1.map kV)/\RD X.K H1 kv.2 x/\aD x vv) (I.ok.hd hc);rw[<- hln]at W;refine q' h2.objs.size [h2.objs.size] _ _ _ W ⟨⟨_,Heap.get?_push_size _ rfl,rfl,rfl⟩,(pl.isList.at fun o e=>kp _ _ e).push _,fun j u hu=>?_⟩ (fun c o e=>Heap.get?_push_of_some _ e) (fun b hb=>?_) fun i k v pv=>pv
   ·obtain⟨p,kk,vv,e,⟨o,m,g1,g2,g3⟩,pv⟩:=tps j u hu;exact⟨p,kk,vv,e,⟨o,m,Heap.get?_push_of_some _ (kp _ _ g1),g2,g3⟩,pv⟩
   ·have e:=mem_singleton.mp hb;subst e;exact⟨I1.fpOk (le_of_lt hlt) (I1.hok.fresh (le_of_lt hlt)),ne_of_gt hlt⟩
 ·exact q1.elim
theorem zC{X:Cx}{a b:Expr}{ta:j6}{p1 p2 pos pos2:Pos}(hu:X.A.units+8 < cLine)(hc:X.calm=true)(hg1:Gl X "dict")(hm1:X.mg "dict"=none)(hg2:Gl X "zip")(hm2:X.mg "zip"=none)(ha:PA X [a,b] (eT X.K ta))
  (hs:starEach [a,b] X.env=[(false,eval a X.env),(false,eval b X.env)]:=by rfl) (hs2:starEach [b] X.env=[(false,eval b X.env)]:=by rfl):
  PE X (.Call (.Name "dict" p1) [.Call (.Name "zip" p2) [a,b] [] pos2] [] pos) (aJ X.K (uV (ah X.prog X.w) ta)):=by
 rintro pins s τ H Q I ⟨σ,G,Q3,rs,rg,h,k⟩
 refine Call_ (gI I hg1 hm1 pR (PyProof.Rows.callWith_type1 ?_ rfl rfl) (by decide) (by decide))
 show wpAny _ _ (spliced [(false,eval (.Call (.Name "zip" p2) [a,b] [] pos2) X.env)]) _ _ _
 refine Calls.spliced_cons (Call_ (gI I hg2 hm2 tR (PyProof.Rows.callWith_type1 (bZ (ha pos2 pins s τ H (fun vs H1=>∃ ds G1,(match ds with|[x,y]=>∃ a b,∃ kvs:List (List aN×D),(e_ x=some a/\e_ y=some b/\jy a b=kvs.map sI/\kvs.length<=900000)/\∀ p,G1 p=none->Q3 (.ref p) (gset G1 p (.dT (ah X.prog X.w) (dictOf kvs)))|_=>False)/\Kp G H G1 H1/\RG X.K H1 G1/\RDs X.K H1 ds vs) I
  ⟨σ,G,_,rs,rg,h,fun ds G1 vs H1 q k1 rg1 rds=>⟨ds,G1,q,k1,rg1,rds⟩⟩) fun us s1 ⟨vs,H1,I1,r1,q1⟩=>?_) (by rw[hs,hs2]) (by rw[hs2];rfl)) (by decide) (by decide)))
 obtain⟨ds,G1,q,k1,rg1,rds⟩:=q1;split at q
 ·rename_i x y;obtain⟨as,bs,kvs,⟨ea,eb,ez,hz⟩,q⟩:=q;obtain⟨v,v',rfl,rd1,rd2⟩:=p6 rds;obtain⟨u,u',rfl,ru1,ru2⟩:=r1.two;obtain⟨z1,rfl,t1,w1⟩:=vc ea rd1 ru1;obtain⟨z2,rfl,t2,w2⟩:=vc eb rd2 ru2;have n1:=t1.length;have n2:=t2.length;have hr1:=(w1 G1 G1 H1 rg1 Kp.refl).1;have hr2:=(w2 G1 G1 H1 rg1 Kp.refl).1;refine pQ (Zk.of I1 hr1) (Zk.of I1 hr2) fun h' zs hsz kp=>Calls.spliced_nil ?_;have I2:L2.Inv X pins τ H1 { s1 with heap:=h' }:=I1.kept (t':=s1.toks) kp
  have DZ:ZAp (s1.heap.objs.size+4) (s1.heap.objs.size+2) (s1.heap.objs.size+3) s1.heap.objs.size (s1.heap.objs.size+1):=⟨ne_of_lt (lt_succ_self (s1.heap.objs.size+2)),ne_of_lt (lt_succ_self s1.heap.objs.size)⟩;obtain⟨f0,f1,_,hzo⟩:=zs.1;have hlen:kvs.length=min z1.vs.length z2.vs.length:=by
   have:=iA as bs;rw[ez,length_map]at this;omega
  refine tK (s1:={ s1 with heap:=h' }) (T:="zip") (kvs:=kvs) hu I2 rg1 hz ⟨_,hzo,rfl⟩ (by decide) (fun s' Q' E' kp' q'=>sP (kp' _ _ hzo) (I.ok.hd hc) q') (fun h2 tk2 Q' E' kp2 hlt q'=>?_) fun s' H' I' hf kp' rg'=>⟨.ref h'.objs.size,H',I',rfl,k _ _ _ H' (q _ (rg1.free hf)) (k1.trans kp') rg' (.of h_)⟩
  have zs2:vK z1 z2 (s1.heap.objs.size+4) (s1.heap.objs.size+2) (s1.heap.objs.size+3) s1.heap.objs.size (s1.heap.objs.size+1) 0 h2:=zs.keep fun b _ o e=>kp2 b o e;refine (mB (P:=X.prog) (w:=X.w) (K:=X.K) (tg:=.Name "" pos) z1 z2 _ _ _ _ _ DZ).self _ 0 { s1 with heap:=h2,toks:=tk2 } _ _ zs2 ?_
  have W:=vX (prog:=X.prog) (w:=X.w) (A:=X.A.in1.in1) (k1:=z1) (k2:=z2) (I.ok.hd hc) DZ;rw[<- hlen]at W;refine q' _ _ _ _ _ W ⟨zs2,Zk.grow (Zk.of I1 hr1) fun c o e=>kp2 c o (kp c o e),Zk.grow (Zk.of I1 hr2) fun c o e=>kp2 c o (kp c o e)⟩ (fun _ _ e=>e) (fun c hc=>?_) fun i kk vv pv=>?_
  ·have hc':s1.heap.objs.size<=c/\c≠s1.heap.objs.size+5:=by
    simp only[mem_cons,not_mem_nil,or_false]at hc;rcases hc with rfl|rfl|rfl|rfl|rfl
    ·exact⟨Nat.le_add_right _ _,ne_of_lt (Nat.add_lt_add_left (by decide) _)⟩
    ·exact⟨Nat.le_add_right _ _,ne_of_lt (Nat.add_lt_add_left (by decide) _)⟩
    ·exact⟨Nat.le_add_right _ _,ne_of_lt (Nat.add_lt_add_left (by decide) _)⟩
    ·exact⟨le_refl _,ne_of_lt (Nat.lt_add_of_pos_right (by decide))⟩
    ·exact⟨Nat.le_add_right _ _,ne_of_lt (Nat.add_lt_add_left (by decide) _)⟩
   refine⟨I1.fpOk hc'.1 (I1.hok.fresh hc'.1),?_⟩;show c≠h'.objs.size
   rw[hsz];exact hc'.2
  ·obtain⟨u,x,e1,e2,ru,rx⟩:=pv;obtain⟨d1,g1,r1⟩:=RDs.getV t1 e1;obtain⟨d2,g2,r2⟩:=RDs.getV t2 e2;have e3:=my g1 g2;rw[ez,getElem?_map]at e3;cases hkv:kvs[i]? with
   | none=>rw[hkv]at e3;cases e3
   | some kv=>
    rw[hkv]at e3;simp only[Option.map_some,Option.some.injEq,sI,D.tup.injEq,List.cons.injEq,and_true]at e3;obtain⟨rfl,rfl⟩:=e3;obtain⟨b,rfl,sb⟩:=AH r1;cases ru;exact⟨kv,b,x,rfl,rfl,sb,r2,rx⟩
 ·exact q.elim
def yd(kv:List aN×D):D:=.tup (kv.1.map kD)
def xr(te:bJ)(g:tX)(tb:dg):dg:=fun E σ G=>te σ G fun d G1=>match d with
 | .ref a=>∃ hw kvs,G1 a=some (.dT hw kvs)/\ForIn g tb { nx:=fun σ' G'=>E.nx σ' (gset G' a (.dT hw kvs)),rt:=fun _ _=>False } σ (kvs.map yd) (fh G1 a)
 | _=>False
theorem wx{prog:Program}{w:World}{A:Around}{E:Value->Shared->Prop}{s:Shared}{d:Addr}{vs:List Value}{ep:Nat}{Q:Value->Shared->Prop}(hd:(d == sysModules)=false)(x:nP s.heap d vs ep)
  (q:Q (.ref s.heap.objs.size) { s with heap:=s.heap.push { cls:=.type "dict_keyiterator",data:=.fields #[.ref d,.int 0 0,.int vs.length 0,.int ep 0] } }):wpAny (model prog w) A (pyIter (.ref d)) Q E s:=by
 obtain⟨o,es,ho,hc,hdat,rfl⟩:=id x;refine wpAny_pyIter_slot x.ty PySem.F.slot_dict_iter (wpAny_call_entry PySem.F.slot_dict_iter x.ty PySem.F.entry_dict_iter ?_ (PySem.F.args_dict_iter_1 _));unfold Builtin.«dict.__iter__»;refine wpAny_bind ?_;unfold Builtin.Dict.dictSlotNone;refine wpAny_bind (wpAny_notOrdered_dict x.ty ?_);show wpAny _ _ (pure (Value.ref d)) _ _ s;refine wpAny_pure ?_
 show wpAny _ _ (Builtin.Dict.showsAll d >>= _) _ _ s;unfold Builtin.Dict.showsAll;rw[if_neg (by rw[hd];exact Bool.false_ne_true)]
 refine wpAny_bind (wpAny_pure ?_);refine wpAny_bind (wpAny_dictEntries ho hdat ?_);refine wpAny_bind (wpAny_dictEpoch ho hdat ?_);refine wpAny_bind (wpAny_newObj_type (wpAny_pure ⟨_,rfl,"dict_keyiterator",_,⟨_,Heap.get?_push_size _ rfl,rfl⟩,PySem.F.slot_dict_keyiterator_next.lookup,?_⟩))
 simpa[rawInt]using q
theorem uk{K:Frag}{H:Hp}:∀ ks:List aN,RDs K H (ks.map kD) (ks.map kV)
 | []=>RDs.nil
 | .inl i::r=>RDs.cons dL (uk r)
 | .inr x::r=>RDs.cons ji (uk r)
theorem j7.at{K:Frag}{H:Hp}{kvs:List (List aN×D)}{xs:List (List aN×Addr×Value)}(r:j7 K H kvs xs):∀ {i:Nat} {kv:List aN×D},kvs[i]?=some kv->∃ x,xs[i]?=some x/\RD K H (yd kv) (.ref x.2.1):=by
 unfold j7 at r
 induction r with
 | nil=>intro i kv h;simp at h
 | @cons p q ps qs hq t ih=>
  intro i kv h;cases i with
  | zero=>
   simp only[getElem?_cons_zero,Option.some.injEq]at h;subst h;refine⟨q,rfl,?_⟩;unfold yd;simp only[RD];exact⟨q.2.1,_,rfl,hq.2.1,uk _⟩
  | succ i=>
   simp only[getElem?_cons_succ]at h ⊢;exact ih h
abbrev EX(a:Addr)(o:Obj):HO:=.ext fun h=>h.get? a=some o
theorem Dg{P:Program}{w:World}{H:Hp}{h:Heap}{a:Addr}{o:Obj}(e:h.get? a=some o):bK P w H h a (EX a o):=⟨e,⟨o,e⟩,fun _ _ q k=>k o q⟩
theorem Bd{X:Cx}{tg iter:Expr}{body:List Stmt}{te:bJ}{g:tX}{tb:dg}{pos:Pos}(hp:PassesOwn (model X.prog X.w) X.A X.env X.xe)(hc:X.calm=true)(hi:PE X iter (aJ X.K te))(hg:PG X tg (lB X.K g))(hb:kZ X body (cF X.K tb))
  (hs:∀ x,foldedSetIterable iter X.env x=pure x:=by intro _;rfl):PS X (.For tg iter body [] pos) (cF X.K (xr te g tb)):=by
 rintro pins s τ H Dd I ⟨σ,G,D3,rs,rg,h,k⟩
 refine wpAny_For (bZ (cR hi I rs rg h) fun v s1 ⟨ox,H1,I1,rox,d,G1,q1,k1,rg1,rd1⟩=>?_) hs;cases d with
 | ref a=>
  obtain⟨hw,kvs,hga,Pv,p0,step,fin⟩:=q1;simp only[val,RD]at rd1;subst rd1;cases rox;obtain⟨hob,eo,ro⟩:=rg1 a _ hga;cases hob with
  | ext φ=>
   obtain⟨xs,rfl,rt,nd,len⟩:=ro;obtain⟨hsm,o1,es,ep,g1,g2,g3,g4⟩:=(show bK X.prog X.w H1 s1.heap a (.ext (rY hw a xs))from I1.hok a _ eo).1
   have raw:∀ {h:Heap},h.get? a=some o1->nP h a (xs.map fun x=>Value.ref x.2.1) ep:=fun e=>⟨o1,es,e,g2,g3,by rw[g4,map_map];rfl⟩
   have lx:=rt.length;refine wx hsm (raw g1) ?_;have hita:a≠s1.heap.objs.size:=ne_of_lt (Heap.lt_size g1);have kpA:Kp G1 H1 (fh G1 a) (bB H1 a (EX a o1)):=fun b u e n=>by
    have hb:b≠a:=fun z=>by subst z;rw[hga]at n;cases n
    exact⟨by rw[au hb];exact e,by rw[dH hb];exact n⟩
   have rg2:RG X.K (bB H1 a (EX a o1)) (fh G1 a):=fun b u e=>by
    have hb:b≠a:=fun z=>by subst z;rw[dG]at e;cases e
    rw[dH hb]at e;obtain⟨ho,e1,r1⟩:=rg1 b u e;exact⟨ho,by rw[au hb];exact e1,r1.mono (kpA.stb rg1)⟩
   have I1':L2.Inv X pins τ (bB H1 a (EX a o1)) { s1 with heap:=s1.heap,toks:=s1.toks }:=I1.write (x:=a) (e:=a) (by rw[eo];exact True.intro) (.inl rfl) (fun _ _ _ q=>q) ⟨o1,g1⟩ (Dg g1)
   have I2:L2.Inv X pins τ (bB H1 a (EX a o1)) { s1 with heap:=s1.heap.push { cls:=.type "dict_keyiterator",data:=.fields #[.ref a,.int 0 0,.int (xs.map fun x=>Value.ref x.2.1).length 0,.int ep 0] } }:=I1'.kept (t':=s1.toks) fun _ _ q=>Heap.get?_push_of_some _ q
   have fit:k_ X pins (bB H1 a (EX a o1)) s1.heap.objs.size:=I1.fpOk (le_refl _) (by rw[au hita.symm];exact I1.hok.fresh (le_refl _))
   have back:∀ {τ':St} {H':Hp} {G':Gp} {σ':fH} {s':Shared},L2.Inv X pins τ' H' s'->Kp (fh G1 a) (bB H1 a (EX a o1)) G' H'->RS X.K H' σ' τ'->RG X.K H' G'->D3.nx σ' (gset G' a (.dT hw kvs))->∃ τ'' H'',L2.Inv X pins τ'' H'' s'/\Dd.nx τ'' H'':=fun {τ' H' G' σ' s'} I' kk rs' rg' q=>by
    obtain⟨e1,e2⟩:=kk a _ aT dG;have e3:s'.heap.get? a=some o1:=(show bK X.prog X.w H' s'.heap a (EX a o1)from I'.hok a _ e1).1
    have I'':L2.Inv X pins τ' (bB H' a (.ext (rY hw a xs))) { s' with heap:=s'.heap,toks:=s'.toks }:=I'.write (x:=a) (e:=a) (by rw[e1];exact True.intro) (.inl rfl) (fun _ _ _ q=>q) ⟨o1,e3⟩ (kS ⟨hsm,o1,es,ep,e3,g2,g3,g4⟩)
    have st1:=(kpA.stb rg1);have st2:=(kk.stb rg2);have st3:Stb X.K H' (bB H' a (.ext (rY hw a xs))):=⟨fun b ys y=>by
     rcases y with (y|⟨o',y⟩)|y
     ·exact .inl (.inl (by rw[au (fun z=>by rw[z,e1]at y;cases y)];exact y))
     ·exact .inl (.inr ⟨o',by rw[au (fun z=>by rw[z,e1]at y;cases y)];exact y⟩)
     ·exact .inr y,fun b ys y=>by
     rcases y with ⟨o',y⟩|y
     ·exact .inl ⟨o',by rw[au (fun z=>by rw[z,e1]at y;cases y)];exact y⟩
     ·exact .inr y⟩
    have rg3:RG X.K (bB H' a (.ext (rY hw a xs))) (gset G' a (.dT hw kvs)):=fun b u e=>by
     by_cases hb:b=a
     ·subst hb;rw[ax]at e;cases e;exact⟨_,aT,xs,rfl,((rt.mono st1).mono st2).mono st3,nd,len⟩
     ·rw[aG hb]at e;obtain⟨ho,e4,r4⟩:=rg' b u e;exact⟨ho,by rw[au hb];exact e4,r4.mono st3⟩
    have kpC:Kp G H (gset G' a (.dT hw kvs)) (bB H' a (.ext (rY hw a xs))):=fun b u e n=>by
     obtain⟨e4,n4⟩:=k1 b u e n;have hb:b≠a:=fun z=>by subst z;rw[hga]at n4;cases n4
     obtain⟨e5,n5⟩:=kk b u (by rw[au hb];exact e4) (by rw[dH hb];exact n4)
     exact⟨by rw[au hb];exact e5,by rw[aG hb];exact n5⟩
    exact⟨τ',_,I'',k.nx σ' _ τ' _ q kpC rg3 (rs'.mono st3)⟩
   refine codeAny_forLoop_any (fun n s'=>∃ i σ' τ' G' H',L2.Inv X pins τ' H' s'/\s'.heap.IsKeyIter s1.heap.objs.size a i (xs.map fun x=>Value.ref x.2.1).length ep/\H' s1.heap.objs.size=none/\RS X.K H' σ' τ'/\RG X.K H' G'/\Pv i σ' G'/\Kp (fh G1 a) (bB H1 a (EX a o1)) G' H'/\i<=kvs.length/\n=kvs.length - i) ?_ kvs.length
    ⟨0,σ,τ,fh G1 a,_,I2,⟨_,Heap.get?_push_size _ rfl,rfl,rfl⟩,fit.1,rs.mono ((k1.trans kpA).stb rg),rg2,p0,Kp.refl,zero_le _,rfl⟩
   rintro n s3 ⟨i,σ3,τ3,G3,H3,I3,ki,fr3,rs3,rg3,pv,kk,hil,rfl⟩
   obtain⟨e1,e2⟩:=kk a _ aT dG;have e3:s3.heap.get? a=some o1:=(show bK X.prog X.w H3 s3.heap a (EX a o1)from I3.hok a _ e1).1
   by_cases hlt:i < kvs.length
   ·obtain⟨x,hx,rd⟩:=((rt.mono (kpA.stb rg1)).mono (kk.stb rg2)).at (getElem?_eq_getElem hlt);refine wpAny_passesOwn hp (xA ki (raw e3) (v:=.ref x.2.1) (by rw[getElem?_map,hx];rfl) fun h4 ki4 sb=>?_)
    have I4:L2.Inv X pins τ3 H3 { s3 with heap:=h4,toks:=s3.toks }:=I3.turned (fun b o hb e=>(sb.2 b hb).trans e) fr3 fit.2.1 fit.2.2.2.1 fit.2.2.2.2.1 fit.2.2.2.2.2
    obtain⟨oi,ei,ci,di⟩:=id ki4;refine wpAny_passesOwn hp (tD (s:={ s3 with heap:=h4 }) ei ci di (by decide) ?_)
    have I4':=I4.pinned (fp:=[s1.heap.objs.size]) (fun b hb=>by rw[mem_singleton.mp hb];exact⟨fr3,fit.2⟩) fun b hb=>by rw[mem_singleton.mp hb];exact⟨oi,ei,fun v z=>by rw[di]at z;cases z⟩
    refine wpAny_passesOwn hp (bZ (hg _ _ τ3 H3 (.ref x.2.1) (.ref x.2.1) (fun τ2 H2=>cF X.K tb { nx:=fun τ' H'=>∃ σ' G',RS X.K H' σ' τ'/\RG X.K H' G'/\Pv (i+1) σ' G'/\Kp (fh G1 a) (bB H1 a (EX a o1)) G' H',ct:=fun τ' H'=>∃ σ' G',RS X.K H' σ' τ'/\RG X.K H' G'/\Pv (i+1) σ' G'/\Kp (fh G1 a) (bB H1 a (EX a o1)) G' H',bk:=fun τ' H'=>∃ σ' G',RS X.K H' σ' τ'/\RG X.K H' G'/\D3.nx σ' (gset G' a (.dT hw kvs))/\Kp (fh G1 a) (bB H1 a (EX a o1)) G' H',rt:=fun _ _=>False } τ2 H2) I4' rfl
     ⟨yd kvs[i],σ3,G3,_,rd,rs3,rg3,step i _ σ3 G3 (by rw[getElem?_map,getElem?_eq_getElem hlt];rfl) pv,fun σ5 G5 τ5 H5 q5 k5 rg5 rs5=>⟨σ5,G5,_,rs5,rg5,q5,⟨fun σ6 G6 τ6 H6 q6 k6 rg6 rs6=>⟨σ6,G6,rs6,rg6,q6,kk.trans (k5.trans k6)⟩,fun _ _ _ _ q _ _ _=>q.elim,fun σ6 G6 τ6 H6 q6 k6 rg6 rs6=>⟨σ6,G6,rs6,rg6,q6,kk.trans (k5.trans k6)⟩,fun σ6 G6 τ6 H6 q6 k6 rg6 rs6=>⟨σ6,G6,rs6,rg6,q6,kk.trans (k5.trans k6)⟩⟩⟩⟩) fun _ s6 ⟨σ6,H6,I6,q6⟩=>?_)
    refine wpAny_passesOwn hp (bZ (hb _ s6 σ6 H6 _ I6 q6) fun f s7 q7=>?_);have again:∀ {τ7:St} {H7:Hp},L2.Inv X (pins ++ ko [s1.heap.objs.size] h4) τ7 H7 s7->(∃ σ' G',RS X.K H7 σ' τ7/\RG X.K H7 G'/\Pv (i+1) σ' G'/\Kp (fh G1 a) (bB H1 a (EX a o1)) G' H7)->∃ m,m < kvs.length - i/\∃ i σ' τ' G' H',L2.Inv X pins τ' H' s7/\s7.heap.IsKeyIter s1.heap.objs.size a i (xs.map fun x=>Value.ref x.2.1).length ep/\H' s1.heap.objs.size=none/\RS X.K H' σ' τ'/\RG X.K H' G'/\Pv i σ' G'/\Kp (fh G1 a) (bB H1 a (EX a o1)) G' H'/\i<=kvs.length/\m=kvs.length - i:=fun {τ7 H7} I7 ⟨σ7,G7,rs7,rg7,pv7,k7⟩=>by
     have pin:=I7.pin (s1.heap.objs.size,oi) (mem_append_right _ (mem_append_right _ (gq (by simp) ei)))
     exact⟨kvs.length - (i+1),by walk_at "o",i+1,σ7,τ7,G7,H7,I7.unpinned,⟨oi,pin.1,ci,di⟩,pin.2.1,rs7,rg7,pv7,k7,hlt,rfl⟩
    cases f with
    | next=>obtain⟨σ7,H7,I7,n7⟩:=q7;exact again I7 n7
    | cont=>obtain⟨σ7,H7,I7,n7⟩:=q7;exact again I7 n7
    | brk=>
     obtain⟨σ7,H7,I7,σ8,G8,rs8,rg8,q8,k8⟩:=q7;exact back I7.unpinned k8 rs8 rg8 q8
    | ret v=>obtain⟨x7,σ7,H7,I7,r7,q7⟩:=q7;exact q7.elim
   ·have ei:i=kvs.length:=by walk_at "o"
    subst ei;refine wpAny_passesOwn hp (ze (I.ok.hd hc) ki (raw e3) (by rw[getElem?_map,getElem?_eq_none (by walk_at "o")];rfl) fun h4 eb=>wpAny_execs_nil ?_)
    have I4:L2.Inv X pins τ3 H3 { s3 with heap:=h4,toks:=s3.toks }:=I3.turned (fun b o hb e=>eb b o hb e) fr3 fit.2.1 fit.2.2.2.1 fit.2.2.2.2.1 fit.2.2.2.2.2
    exact back I4 kk rs3 rg3 (fin σ3 G3 (by rw[length_map];exact pv))
  | _=>exact ro.elim
 | _=>exact q1.elim
open HT PySem.SeqAt
section
variable{prog:Program}{w:World}{A:Around}{E:Value->Shared->Prop}{s:Shared}
theorem v0(xs:List Value):((List.range xs.length).filterMap fun (k:Nat)=>xs.toArray[(((xs.length:Int) - 1)+(k:Int)*(-1)).toNat]?)=xs.reverse:=by
 have h:∀ k∈List.range xs.length,xs.toArray[(((xs.length:Int) - 1)+(k:Int)*(-1)).toNat]?=xs.reverse[k]?:=fun k hk=>by
  have hk':=mem_range.mp hk;rw[List.getElem?_toArray,List.getElem?_reverse hk'];congr 1;omega
 have cg:∀ (l:List Nat) (f g:Nat->Option Value),(∀ k∈l,f k=g k)->l.filterMap f=l.filterMap g:=fun l f g hh=>by
  induction l with
  | nil=>rfl
  | cons a r ih=>rw[filterMap_cons,filterMap_cons,hh a mem_cons_self,ih fun k hk=>hh k (mem_cons_of_mem _ hk)]
 rw[cg _ _ _ h];have e:∀ ys:List Value,((List.range ys.length).filterMap fun k=>ys[k]?)=ys:=fun ys=>by
  induction ys with
  | nil=>rfl
  | cons y r ih=>
   rw[length_cons,List.range_succ_eq_map,List.filterMap_cons_some (b:=y) (by simp),List.filterMap_map]
   congr 1
 have:=e xs.reverse;rwa[List.length_reverse]at this
theorem wy{t sl:Addr}{items:List Value}{kt:Tok}{Q:Value->Shared->Prop}(ht:IsTup s.heap t items.toArray)(hs:s.heap.IsSliceOf sl .none .none (.int (-1) kt))(hsz:items.length<=sizeLine)
  (h:Q (.ref s.heap.objs.size) { s with heap:=s.heap.push { cls:=.type "tuple",data:=.seq items.reverse.toArray } }):wpAny (model prog w) A (getItem (.ref t) (.ref sl)) Q E s:=by
 obtain⟨os,hos,hcs,hds⟩:=id hs;have hT:s.TypeIs (.ref sl) "slice":=⟨os,hos,hcs⟩;unfold getItem
 try with_reducible refine wpAny_holding ?_
 refine wpAny_bind (wpAny_sequenceKey ht.typeIs (by decide) ?_);refine wpAny_bind (wpAny_callSpecial?_slot (name:=Str.ofString "__getitem__") ht.typeIs PyProof.Rows.slot_tuple_getitem (wpAny_call_entry PyProof.Rows.slot_tuple_getitem ht.typeIs entry_tuple_getitem ?_ (args_tuple_getitem _ _)))
 show wpAny _ _ (Builtin.Tuple.tupleItemsOf (.ref t) >>= _) _ _ s;refine wpAny_bind (tupleItemsOf_ ht ?_);refine wpAny_bind (wpAny_typeOf hT ?_)
 rw[if_pos (by decide)]
 refine wpAny_bind ?_;unfold Builtin.Slice.sliceApplied Builtin.Slice.sliceFields;refine wpAny_bind (wpAny_bind (wpAny_field hos hds (x:=.none) rfl (wpAny_bind (wpAny_field hos hds (x:=.none) rfl (wpAny_bind (wpAny_field hos hds (x:=.int (-1) kt) rfl (wpAny_pure ?_)))))));refine wpAny_bind (slicePart_int ?_);show wpAny _ _ (if ((-1:Int) == 0)=true then _ else _) _ _ s;rw[if_neg (by decide)]
 refine wpAny_bind (slicePart_none (wpAny_bind (slicePart_none (wpAny_bind (wpAny_pure ?_)))));have e1:Builtin.Slice.sliceAdjust none none (-1) ((items.toArray.size:Nat):Int)=((items.length:Int) - 1,-1):=by simp[Builtin.Slice.sliceAdjust]
 show wpAny _ _ (match Builtin.Slice.sliceAdjust none none (-1) ((items.toArray.size:Nat):Int) with|(lo,hi)=>pure (lo,(-1:Int),Builtin.Slice.slicePlaces lo hi (-1))) _ _ s
 rw[e1];have e2:Builtin.Slice.slicePlaces ((items.length:Int) - 1) (-1) (-1)=items.length:=by
  unfold Builtin.Slice.slicePlaces;rw[if_neg (by decide)]
  split
  ·rw[show (- -1:Int)=1 by decide,Int.ediv_one];omega
  ·omega
 show wpAny _ _ (pure ((items.length:Int) - 1,(-1:Int),Builtin.Slice.slicePlaces ((items.length:Int) - 1) (-1) (-1))) _ _ s
 rw[e2];refine wpAny_pure ?_;show wpAny _ _ (if (((items.length:Int) - 1) == 0 && (-1:Int) == 1 && items.length == items.toArray.size)=true then _ else _) _ _ s
 rw[if_neg (by simp)]
 have e3:=v0 items;refine wpAny_bind ?_;show wpAny _ _ (Builtin.Tuple.tupleExact ((List.range items.length).filterMap fun (k:Nat)=>items.toArray[(((items.length:Int) - 1)+(k:Int)*(-1)).toNat]?).toArray) _ _ s
 rw[e3];exact wpAny_newObj_type (wpAny_pure ⟨_,rfl,wpAny_pure h⟩) (by show items.reverse.toArray.size<=sizeLine;rw[size_toArray,List.length_reverse];exact hsz)
end
def yw(te:bJ)(tl th ts:Ao):bJ:=fun σ G Q=>te σ G fun x G1=>tl σ G1 fun l G2=>th σ G2 fun u G3=>ts σ G3 fun st G4=>match x with
 | .tup ds=>(l=none/\u=none/\st=some (-1))/\Q (.tup ds.reverse) G4
 | _=>False
theorem wa{X:Cx}{e:Expr}{te:bJ}{lo hi:Option Expr}{st:Expr}{tl th ts:Ao}{p2 pos:Pos}(he:PE X e (aJ X.K te))(hl:PO X lo (lu X.K tl))(hu:PO X hi (lu X.K th))(hst:PO X (some st) (lu X.K ts)):PE X (.Subscript e (.Slice lo hi (some st) p2) pos) (aJ X.K (yw te tl th ts)):=by
 rintro pins s τ H Q I ⟨σ,G,Q3,rs,rg,h,k⟩
 have po:∀ {oe:Option Expr} {t:Ao} {s:Shared} {H:Hp} {σ:fH} {G:Gp} {q:Option Int->Gp->Prop},PO X oe (lu X.K t)->L2.Inv X pins τ H s->RS X.K H σ τ->RG X.K H G->t σ G q->
   wpAny (model X.prog X.w) X.A (evalPart oe X.env) (fun u s'=>∃ o H',L2.Inv X pins τ H' s'/\IsPart u o/\∃ G',q o G'/\Kp G H G' H'/\RG X.K H' G') X.xe s:=fun hp I rs rg ht=>
  hp pins _ τ _ _ I ⟨_,_,_,rs,rg,ht,fun o G' H' q k rg'=>⟨G',q,k,rg'⟩⟩
 refine Subscript_ (bZ (cR he I rs rg h) fun v s1 ⟨ox,H1,I1,rox,x,G1,q1,k1,rg1,rd1⟩=>?_);refine wpAny_Slice (bZ (po hl I1 (rs.mono (k1.stb rg)) rg1 q1) fun vl s2 ⟨l,H2,I2,pl,G2,q2,k2,rg2⟩=>bZ (po hu I2 (rs.mono ((k1.trans k2).stb rg)) rg2 q2) fun vu s3 ⟨u,H3,I3,pu,G3,q3,k3,rg3⟩=>
  bZ (po hst I3 (rs.mono ((k1.trans (k2.trans k3)).stb rg)) rg3 q3) fun vs s4 ⟨stp,H4,I4,ps,G4,q4,k4,rg4⟩=>?_)
 split at q4
 ·rename_i ds;obtain⟨⟨rfl,rfl,rfl⟩,q4⟩:=q4;have rd4:=RD.mono ((k2.trans (k3.trans k4)).stb rg1) _ _ rd1;simp only[val,RD]at rd4;obtain⟨b,xs,rfl,sq,r⟩:=rd4;cases rox;cases pl;cases pu;cases ps with
  | int _ kt=>
  have I5:L2.Inv X pins τ H4 { s4 with heap:=s4.heap.push { cls:=.type "slice",data:=.fields #[.none,.none,.int (-1) kt] } }:=I4.kept (t':=s4.toks) fun b ob q=>Heap.get?_push_of_some _ q
  obtain⟨its,rv,tp,hz⟩:=I5.tuple sq;have hlen:=rv.length;show wpAny (model X.prog X.w) X.A (subscriptTail e (.Slice lo hi (some st) p2) (.ref b) (.ref s4.heap.objs.size)) _ X.xe { s4 with heap:=s4.heap.push { cls:=.type "slice",data:=.fields #[.none,.none,.int (-1) kt] } }
  refine tail_any (ops:=[.ref b,.ref s4.heap.objs.size]) tp.typeIs PyProof.Rows.slot_tuple_getitem.lookup ?_ (by with_unfolding_all rfl)
  refine wy tp (Heap.IsSliceOf.new ..) (by walk_at "o") ?_
  have fr:=I5.fresh;have I6:=I5.laid (t':=s4.toks) (h':=(s4.heap.push { cls:=.type "slice",data:=.fields #[.none,.none,.int (-1) kt] }).push { cls:=.type "tuple",data:=.seq its.reverse.toArray }) (a:=(s4.heap.push { cls:=.type "slice",data:=.fields #[.none,.none,.int (-1) kt] }).objs.size) (o:=.tup xs.reverse) (fun b ob q=>Heap.get?_push_of_some _ q) (le_refl _) ⟨by rw[List.length_reverse];omega,its.reverse,rv.reverse,nM.new _ _⟩
  exact⟨.ref _,_,I6,rfl,k _ G4 _ _ q4 ((k1.trans (k2.trans (k3.trans k4))).trans (Kp.laid fr)) (rg4.laid fr) (.of (hV rg4 fr r.reverse))⟩
 ·exact q4.elim
theorem nT(l:Addr)(items:Array Value)(n:Nat)(dd:Option Addr)(sl:Array (Option Value))(x:Value)(e:Value->Bool)(j:Nat)(hj:j < items.size)(hit:e items[j]=true)(hno:∀ m (hm:m < items.size),m < j->e items[m]=false):
  Meets (Builtin.«tuple.index» ⟨[.ref l,x],[]⟩) (fun A R s=>s.heap.get? l=some { cls:=.type "tuple",dict:=dd,data:=.seq items n,slots:=sl }/\(∀ y,y∈items->EqAt A.in1 s y x (e y))/\R (.ok (.ret (.int j s.toks))) { s with toks:=s.toks+1 }):=by
 intro prog w A R s h;obtain⟨hp,g,d,tk,os⟩:=s;obtain⟨hl,he,h⟩:=h;unfold Builtin.«tuple.index»;show wpAny _ _ (Builtin.Tuple.tupleItemsOf (.ref l) >>= _) _ _ _
 refine wpAny_bind (tupleItemsOf_ (show IsTup hp l items from ⟨_,hl,rfl,_,rfl⟩) ?_)
 refine wpAny_bind (wpAny_pure ?_);refine wpAny_bind (wpAny_pure ?_);refine wpAny_bind ?_;rw[Std.Legacy.Range.forIn_eq_forIn_range'];have hsz:([0:min items.size items.size]:Std.Legacy.Range).size=items.size:=by simp[Std.Legacy.Range.size]
 rw[hsz];have loop:∀ k i m:Nat,i+k=j->i+m=items.size->wpAny (model prog w) A.in1 (forIn (List.range' i m 1) ((none,()):Option Fin×Unit) fun (i:Nat) __s=>(match items[i]? with
   | some y=>do
    let __do_lift <- eqBool y x
    if __do_lift=true then do
      let __do_lift <- retInt (i:Int)
      pure (ForInStep.done (some __do_lift,()))
     else pure (ForInStep.yield (none,()))
   | x=>pure (ForInStep.yield (none,())):Sem (ForInStep (Option Fin×Unit)))) (fun a s'=>a=(some (.done (.ret (.int j tk))),())/\s'=⟨hp,g,d,tk+1,os⟩) (fun e s'=>R (Except.error e) s') ⟨hp,g,d,tk,os⟩:=by
  intro k
  induction k with
  | zero=>
   intro i m e1 e2;have ei:i=j:=by walk_at "o"
   subst ei;obtain⟨m',rfl⟩:∃ m',m=m'+1:=⟨m - 1,by walk_at "o"⟩
   rw[List.range'_succ,forIn_cons,Array.getElem?_eq_getElem hj];refine wpAny_bind ?_;refine wpAny_bind (he _ (Array.getElem_mem hj) prog w _ _ ?_);rw[hit,if_pos rfl]
   wp_walk
   exact⟨rfl,rfl⟩
  | succ k ih=>
   intro i m e1 e2;have hi:i < items.size:=by walk_at "o"
   obtain⟨m',rfl⟩:∃ m',m=m'+1:=⟨m - 1,by walk_at "o"⟩
   rw[List.range'_succ,forIn_cons,Array.getElem?_eq_getElem hi];refine wpAny_bind ?_;refine wpAny_bind (he _ (Array.getElem_mem hi) prog w _ _ ?_);rw[hno i hi (by walk_at "o"),if_neg Bool.false_ne_true]
   exact wpAny_pure (ih (i+1) m' (by walk_at "o") (by walk_at "o"))
 refine wpAny_mono (loop j 0 items.size (Nat.zero_add _) (Nat.zero_add _)) (fun a s' q=>?_) fun _ _ q=>q;obtain⟨rfl,rfl⟩:=q;exact wpAny_pure h
def rC(to:bJ)(ta:j6):bJ:=fun σ G Q=>to σ G fun x G1=>match x with
 | .tup ds=>ta σ G1 fun es G2=>match es with
  | [y]=>(pl 7 y/\(∀ d∈ds,pl 7 d)/\y∈ds)/\Q (.int (cT y ds)) G2
  | _=>False
 | _=>False
theorem xg{X:Cx}{pins:List (Addr×Obj)}{σ:L2.St}{H:Hp}{s:Shared}{a:Addr}{xs:List V}(I:L2.Inv X pins σ H s)(h:hJ X.K H a xs):∃ (its:List Value) (n:Nat) (sl:Array (Option Value)),Vals xs its/\s.heap.get? a=some { cls:=.type "tuple",dict:=none,data:=.seq its.toArray n,slots:=sl }:=by
 rcases h with h|⟨o,its,n,hk,hc,hs,hz,r⟩
 ·obtain⟨z,its,r,⟨c,d,t,sl⟩,e,⟨c1,c2⟩,n,dt⟩:=h.ok I.hok;simp only at c1 c2 dt;subst c1 c2 dt;exact⟨its,n,sl,r,e⟩
 ·obtain⟨c,d,t,sl⟩:=o;obtain⟨c1,c2⟩:=hc;simp only at c1 c2 hs;subst c1 c2 hs;exact⟨its.toList,n,sl,r,by simpa using I.kIn a _ hk⟩
theorem xP{X:Cx}{o e:Expr}{to:bJ}{t:j6}{apos cpos:Pos}(hu:X.A.units+8 < cLine)(ho:PE X o (aJ X.K to))(ha:PA X [e] (eT X.K t))(hbase:attributeBase o "index" X.env (eval o X.env)=eval o X.env:=by rfl)
  (hfew:((backTo cpos (starEach [e] X.env)).all (fun x=>!x.1) && (backToKw cpos (keywordEach [] X.env)).all (fun x=>x.1.isSome)
   && decide (([e]:List Expr).length+([]:List Keyword).length+(if ([]:List Keyword).isEmpty then 0 else 1) < 30))=true:=by rfl)
  (hline:(apos.endLine == cpos.line)=true:=by rfl) (hs:starEach [e] X.env=(false,eval e X.env)::starEach [] X.env:=by rfl) (hplain:(backTo cpos (starEach [] X.env)).any (·.1)=false:=by rfl):
  PE X (.Call (.Attribute o "index" apos) [e] [] cpos) (aJ X.K (rC to t)):=by
 rintro pins s τ H Q I ⟨σ,G,Q3,rs,rg,h,k⟩
 refine wpAny_Call_method_late hbase hfew hline rfl (bZ (cR ho I rs rg h) fun v s1 ⟨ox,H1,I1,rox,x,G1,q1,k1,rg1,rd1⟩=>?_);cases x with
 | tup ds=>
  simp only[val,RD]at rd1;obtain⟨l,xs,rfl,sq,r⟩:=rd1;cases rox;obtain⟨its,n,sl,w,e1⟩:=xg I1 sq;refine⟨"tuple","tuple.index",PySem.F.plainAttrs_tuple,PySem.F.slot_tuple_index,PySem.F.type_tuple_index,⟨_,e1,rfl⟩,fun b eb=>by cases eb;exact⟨_,e1,rfl⟩,?_⟩
  have hA:=ha cpos pins s1 τ H1 (fun vs H2=>∃ es G2,(match es with|[y]=>(pl 7 y/\(∀ d∈ds,pl 7 d)/\y∈ds)/\Q3 (.int (cT y ds)) G2|_=>False)/\Kp G1 H1 G2 H2/\RG X.K H2 G2/\RDs X.K H2 es vs) I1 ⟨σ,G1,_,rs.mono (k1.stb rg),rg1,q1,fun es G2 vs H2 q k2 rg2 rds=>⟨es,G2,q,k2,rg2,rds⟩⟩
  rw[hs]at hA ⊢;refine Calls.callWith_builtin (by show (false || (backTo cpos (starEach [] X.env)).any (·.1))=false;rw[hplain]<;>rfl) (Calls.evalArgs_plain ?_)
  refine bZ hA fun us s2 ⟨vs,H2,I2,r2,es,G2,q2,k2,rg2,rds⟩=>?_;split at q2
  ·rename_i y;obtain⟨⟨p1,p2,hm⟩,q2⟩:=q2;obtain⟨v2,rfl,rd⟩:=fP rds;obtain⟨u,rfl,ru⟩:=o6 r2;have sq2:=(k2.stb rg1).t _ _ sq;have rr:=RDs.mono (k2.stb rg1) _ _ r;obtain⟨its2,n2,sl2,w2,e2⟩:=xg I2 sq2;obtain⟨h1,h2,h3⟩:=pG hm;have l1:=rr.length;have l2:=w2.length;have ans:∀ m (hm:m < its2.length),kW X.K H2 ds y its2[m]=dZ (ds[m]'(by walk_at "o")) y:=fun m hm=>by
    have hm2:m < ds.length:=by walk_at "o"
    obtain⟨v1,g1,q1⟩:=rr.get (i:=m) (d:=ds[m]) (getElem?_eq_getElem hm2);obtain⟨u1,g3,q3⟩:=w2.get g1;rw[getElem?_eq_getElem hm]at g3;cases g3;exact rT I2 p1 p2 (getElem_mem hm2) q1 q3
   have hj:cT y ds < its2.toArray.size:=by rw[size_toArray];omega
   refine call_meets PySem.F.slot_tuple_index ⟨_,e2,rfl⟩ PySem.F.entry_tuple_index (PySem.F.args_tuple_index_2 _ _) (nT l its2.toArray n2 none sl2 u (kW X.K H2 ds y) (cT y ds) hj ?_ ?_) ⟨e2,?_,?_⟩
   ·show kW X.K H2 ds y its2.toArray[cT y ds]=true;rw[List.getElem_toArray,ans _ (by walk_at "o"),h2,bj]
   ·intro m hm' hlt;rw[List.getElem_toArray,ans _ (by simpa using hm')]
    exact bA (h3 m (by rw[size_toArray]at hm';omega) hlt)
   ·exact mY I2 p1 p2 rr w2 rd ru (by show X.A.units+1+7 < cLine;omega)
   ·exact⟨.int _,H2,I2.tok _,⟨_,rfl⟩,k _ _ _ _ q2 (k1.trans k2) rg2 (.of dL)⟩
  ·exact q2.elim
 | _=>exact q1.elim
end L3
namespace RQ
open PySem PySem.Spec PyProof.Rows L2 L3
section
variable{α:Type}
def c8(l:List (Sl×α))(k:Sl):Option α:=(l.find? fun p=>decide (p.1=k)).map (·.2)
def ib(l:List (Sl×α))(k:Sl)(v:α):List (Sl×α):=if (l.any fun p=>decide (p.1=k))=true then l.map (fun p=>if p.1=k then (p.1,v)else p)else l ++ [(k,v)]
def bd(l m:List (Sl×α)):List (Sl×α):=m.foldl (fun a p=>ib a p.1 p.2) l
def aS(f:α->D)(l:List (Sl×α)):List (List aN×D):=l.map fun p=>(p.1.key,f p.2)
theorem vJ(f:α->D)(k:Sl):∀ l:List (Sl×α),((aS f l).any fun kv=>decide (kv.1=k.key))=l.any fun p=>decide (p.1=k)
 | []=>rfl
 | p::r=>by
  have ih:=vJ f k r;unfold aS at ih ⊢;simp only[map_cons,any_cons,ih];congr 1
  by_cases e:p.1=k
  ·rw[decide_eq_true e,decide_eq_true (by rw[e])]
  ·rw[decide_eq_false e,decide_eq_false (fun z=>e (Sl.key_inj z))]
theorem sD(f:α->D)(l:List (Sl×α))(k:Sl)(v:α):cm (aS f l) k.key (f v)=aS f (ib l k v):=by
 unfold cm ib;rw[vJ];split
 ·unfold aS;rw[map_map,map_map];refine map_congr_left fun p _=>?_;simp only[Function.comp]
  by_cases e:p.1=k
  ·rw[if_pos e,if_pos (by rw[e])]
  ·rw[if_neg e,if_neg (fun z=>e (Sl.key_inj z))]
 ·unfold aS;rw[map_append];rfl
theorem vG(f:α->D)(k:Sl):∀ l:List (Sl×α),dN (aS f l) k.key=(c8 l k).map f
 | []=>rfl
 | p::r=>by
  have ih:=vG f k r;unfold aS c8 dN at *
  by_cases e:p.1=k
  ·simp[find?_cons,e]
  ·have e':¬ p.1.key=k.key:=fun z=>e (Sl.key_inj z);simp only[map_cons,find?_cons,decide_eq_false e,decide_eq_false e'];exact ih
theorem nI(f:α->D)(m:List (Sl×α)):dictOf (aS f m)=aS f (bd [] m):=by
 unfold dictOf bd;have:∀ (m l:List (Sl×α)),(aS f m).foldl (fun a kv=>cm a kv.1 kv.2) (aS f l)=aS f (m.foldl (fun a p=>ib a p.1 p.2) l):=by
  intro m
  induction m with
  | nil=>intro l;rfl
  | cons p r ih=>
   intro l;unfold aS at ih ⊢;simp only[map_cons,foldl_cons];have:=sD f l p.1 p.2;unfold aS at this;rw[this];exact ih _
 exact this m []
theorem rS(l:List (Sl×α))(k j:Sl)(v:α):c8 (ib l k v) j=if j=k then some v else c8 l j:=by
 unfold ib;split
 ·rename_i h
  induction l with
  | nil=>simp at h
  | cons p r ih=>
   simp only[map_cons,c8,find?_cons]
   by_cases e:p.1=k
   ·rw[if_pos e]
    by_cases ej:j=k
    ·rw[if_pos ej];simp[e,ej]
    ·rw[if_neg ej];have e2:¬ p.1=j:=fun z=>ej (z.symm.trans e);simp only[decide_eq_false e2];clear ih h
     induction r with
     | nil=>rfl
     | cons q t ih2=>
      simp only[map_cons,find?_cons]
      by_cases e3:q.1=k
      ·rw[if_pos e3];have e4:¬ q.1=j:=fun z=>ej (z.symm.trans e3);simp only[decide_eq_false e4];exact ih2
      ·rw[if_neg e3]
       by_cases e4:q.1=j
       ·simp[e4]
       ·simp only[decide_eq_false e4];exact ih2
   ·rw[if_neg e];simp only[any_cons,decide_eq_false e,Bool.false_or]at h;have ih':=ih h;unfold c8 at ih'
    by_cases e2:p.1=j
    ·have ej:¬ j=k:=fun z=>e (e2.trans z);rw[if_neg ej];simp[e2]
    ·simp only[decide_eq_false e2];exact ih'
 ·rename_i h;have hn:∀ p∈l,p.1≠k:=fun p hp z=>h (any_eq_true.mpr ⟨p,hp,decide_eq_true z⟩);unfold c8;rw[List.find?_append]
  by_cases ej:j=k
  ·rw[if_pos ej];have:l.find? (fun p=>decide (p.1=j))=none:=List.find?_eq_none.mpr fun p hp=>by simpa using fun z=>hn p hp (z.trans ej)
   rw[this];simp[ej]
  ·rw[if_neg ej];cases l.find? (fun p=>decide (p.1=j)) with
   | some p=>rfl
   | none=>
    have ek:¬ k=j:=fun z=>ej z.symm;simp[ek]
theorem xB{l:List (Sl×α)}{k:Sl}{v:α}{p:Sl×α}(h:p∈ib l k v):p∈l\/p=(k,v):=by
 unfold ib at h;split at h
 ·obtain⟨q,hq,e⟩:=mem_map.mp h;split at e
  ·rename_i z;exact .inr (by rw[<- e,z])
  ·exact .inl (e ▸ hq)
 ·rcases mem_append.mp h with h|h
  ·exact .inl h
  ·exact .inr (mem_singleton.mp h)
theorem pr{m:List (Sl×α)}:∀ {l:List (Sl×α)} {p:Sl×α},p∈bd l m->p∈l\/p∈m:=by
 induction m with
 | nil=>intro l p h;exact .inl h
 | cons q r ih=>
  intro l p h;rcases ih (l:=ib l q.1 q.2) h with h|h
  ·rcases xB h with h|h
   ·exact .inl h
   ·exact .inr (h ▸ mem_cons_self)
  ·exact .inr (mem_cons_of_mem _ h)
theorem vI{l:List (Sl×α)}{k:Sl}{v:α}(h:c8 l k=some v):(k,v)∈l:=by
 unfold c8 at h;cases e:l.find? fun p=>decide (p.1=k) with
 | none=>rw[e]at h;cases h
 | some p=>
  rw[e]at h;cases h;have h1:=List.mem_of_find?_eq_some e;have h2:=List.find?_some e;have:p.1=k:=of_decide_eq_true h2;rw[<- this];exact h1
theorem yJ{l:List (Sl×α)}{p:Sl×α}(h:p∈l):∃ v,c8 l p.1=some v:=by
 unfold c8;cases e:l.find? fun q=>decide (q.1=p.1) with
 | none=>exact absurd (List.find?_eq_none.mp e p h) (by simp)
 | some q=>exact⟨q.2,rfl⟩
theorem xC(l:List (Sl×α))(k:Sl)(v:α):(ib l k v).length<=l.length+1:=by
 unfold ib;split<;>simp
theorem eA(m:List (Sl×α)):∀ l:List (Sl×α),(bd l m).length<=l.length+m.length:=by
 induction m with
 | nil=>intro l;exact le_refl _
 | cons p r ih=>
  intro l;have h1:=ih (ib l p.1 p.2);have h2:=xC l p.1 p.2;show (bd (ib l p.1 p.2) r).length<=_
  rw[length_cons];omega
theorem cW(l a b:List (Sl×α)):bd l (a ++ b)=bd (bd l a) b:=by unfold bd;rw[List.foldl_append]
theorem jl(l a:List (Sl×α))(p:Sl×α):bd l (a ++ [p])=ib (bd l a) p.1 p.2:=by rw[cW];rfl
end
def El(c:Nat):Str:=⟨#[c]⟩
def vS(x:Str):List Str:=x.cps.toList.map El
def fV(s:Sk):List (Sl×Str):=match s.act with
 | .put _ x=>(made s).zip (vS x)
 | _=>[]
def gL(s:Sk):List (Sl×Unit):=match s.act with
 | .strike ns=>ns.map fun n=>(n,())
 | _=>[]
def gB(s:Sk):List (Sl×Sl):=match s.act with
 | .move ns _=>ns.zip (made s)
 | _=>[]
def hU(s:Sk):List (Sl×Str):=match s.act with
 | .dress ns w=>ns.map fun n=>(n,w)
 | _=>[]
def Sk.wd(s:Sk):Nat:=match s.act with
 | .put _ x=>x.length
 | .strike ns=>ns.length
 | .dress ns _=>ns.length
 | .move ns _=>ns.length
def aB(x:Str)(o:List Sk):List (Sl×Str):=bd [] ((fJ x.length).zip (vS x) ++ o.flatMap fV)
def bF(o:List Sk):List (Sl×Unit):=bd [] (o.flatMap gL)
def cn(o:List Sk):List (Sl×Sl):=bd [] (o.flatMap gB)
def ft(o:List Sk):List (Sl×Str):=bd [] (o.flatMap hU)
abbrev Nm:=Str×Int
def Nm.d(n:Nm):D:=.tup [.str n.1,.int n.2]
def Nm.key(n:Nm):List aN:=[.inr n.1,.inl n.2]
def Sk.nm(s:Sk):Nm:=(s.pen,s.num)
def cQ(row:List Sl)(s:Sk):Bool:=(made s).all fun x=>decide (x∈row)
def fM(out:List Sk)(names:List Nm)(row:List Sl):List Sk:=(out.filter fun s=>decide (s.nm∈names)).filter (cQ row)
def bW(x:Str)(w:List Sk):List (Sl×Sl):=bd [] (((aB x w).filter fun p=>(c8 (bF w) p.1).isNone).map fun p=>((c8 (cn w) p.1).getD p.1,p.1))
structure Seat where
 slot:Sl
 name:Sl
 sign:Str
 word:Str
def Seat.d(s:Seat):D:=.tup [s.slot.d,s.name.d,.str s.sign,.str s.word]
def iO(x:Str)(w:List Sk)(row:List Sl):List (Sl×Sl):=row.filterMap fun s=>(c8 (bW x w) s).map fun n=>(s,n)
def jB(x:Str)(out:List Sk)(names:List Nm):List Seat:=
 (iO x (fM out names (dR x.length out)) (dR x.length out)).map fun p=>⟨p.1,p.2,(c8 (aB x (fM out names (dR x.length out))) p.2).getD "",(c8 (ft (fM out names (dR x.length out))) p.2).getD ""⟩
def iT(i:Nat):Stmt:=PySem.Challenge.pw_redquill_k32_where_and_what_it_wears.main.body.getD i (.Pass ⟨0,0,0,0⟩)
def k_START:D:=.tup [.str "",.int 0,.int 0]
theorem nu{a0 a1 a2 a3:D}:cG ["name","time","anchor","names"] [a0,a1,a2,a3] "name"=some a0:=by kernel_rfl
theorem nt{a0 a1 a2 a3:D}:cG ["name","time","anchor","names"] [a0,a1,a2,a3] "time"=some a1:=by kernel_rfl
theorem kP{a0 a1 a2 a3:D}:cG ["name","time","anchor","names"] [a0,a1,a2,a3] "anchor"=some a2:=by kernel_rfl
theorem mf{a0 a1 a2 a3:D}:cG ["name","time","anchor","names"] [a0,a1,a2,a3] "names"=some a3:=by kernel_rfl
theorem qp:fL [] "name"=(["name"]:List Str):=by kernel_rfl
theorem qv{x:D}:eZ [] [] "name" x=[x]:=by kernel_rfl
theorem qo:fL ["name"] "time"=(["name","time"]:List Str):=by kernel_rfl
theorem qu{a0 x:D}:eZ ["name"] [a0] "time" x=[a0,x]:=by kernel_rfl
theorem qm:fL ["name","time"] "anchor"=(["name","time","anchor"]:List Str):=by kernel_rfl
theorem qt{a0 a1 x:D}:eZ ["name","time"] [a0,a1] "anchor" x=[a0,a1,x]:=by kernel_rfl
theorem ql:fL ["name","time","anchor"] "names"=(["name","time","anchor","names"]:List Str):=by kernel_rfl
theorem qr{a0 a1 a2 x:D}:eZ ["name","time","anchor"] [a0,a1,a2] "names" x=[a0,a1,a2,x]:=by kernel_rfl
theorem lV:(("slots":Str)∉(["name","time","anchor","names"]:List Str))=True:=eq_true (by decide +kernel)
theorem jQ:(("touched":Str)∉(["name","time","anchor","names"]:List Str))=True:=eq_true (by decide +kernel)
theorem tI{a0 a1 a2 a3 a4:D}:cG ["name","time","anchor","names","signs"] [a0,a1,a2,a3,a4] "name"=some a0:=by kernel_rfl
theorem tH{a0 a1 a2 a3 a4:D}:cG ["name","time","anchor","names","signs"] [a0,a1,a2,a3,a4] "time"=some a1:=by kernel_rfl
theorem oP{a0 a1 a2 a3 a4:D}:cG ["name","time","anchor","names","signs"] [a0,a1,a2,a3,a4] "anchor"=some a2:=by kernel_rfl
theorem rl{a0 a1 a2 a3 a4:D}:cG ["name","time","anchor","names","signs"] [a0,a1,a2,a3,a4] "names"=some a3:=by kernel_rfl
theorem rj{a0 a1 a2 a3 a4:D}:cG ["name","time","anchor","names","signs"] [a0,a1,a2,a3,a4] "signs"=some a4:=by kernel_rfl
theorem v6:fL ["name","time","anchor","names"] "anchor"=(["name","time","anchor","names"]:List Str):=by kernel_rfl
theorem v8{a0 a1 a2 a3 x:D}:eZ ["name","time","anchor","names"] [a0,a1,a2,a3] "anchor" x=[a0,a1,x,a3]:=by kernel_rfl
theorem v5:fL ["name","time","anchor","names"] "signs"=(["name","time","anchor","names","signs"]:List Str):=by kernel_rfl
theorem v7{a0 a1 a2 a3 x:D}:eZ ["name","time","anchor","names"] [a0,a1,a2,a3] "signs" x=[a0,a1,a2,a3,x]:=by kernel_rfl
theorem qK:(("slots":Str)∉(["name","time","anchor","names","signs"]:List Str))=True:=eq_true (by decide +kernel)
theorem mT:(("touched":Str)∉(["name","time","anchor","names","signs"]:List Str))=True:=eq_true (by decide +kernel)
theorem nw{a0 a1 a2 a3:D}:cG ["name","time","anchor","names"] [a0,a1,a2,a3] "name"=some a0:=by kernel_rfl
theorem nv{a0 a1 a2 a3:D}:cG ["name","time","anchor","names"] [a0,a1,a2,a3] "time"=some a1:=by kernel_rfl
theorem kQ{a0 a1 a2 a3:D}:cG ["name","time","anchor","names"] [a0,a1,a2,a3] "anchor"=some a2:=by kernel_rfl
theorem mh{a0 a1 a2 a3:D}:cG ["name","time","anchor","names"] [a0,a1,a2,a3] "names"=some a3:=by kernel_rfl
theorem qq:fL ["name","time","anchor","names"] "names"=(["name","time","anchor","names"]:List Str):=by kernel_rfl
theorem qw{a0 a1 a2 a3 x:D}:eZ ["name","time","anchor","names"] [a0,a1,a2,a3] "names" x=[a0,a1,a2,x]:=by kernel_rfl
theorem lW:(("slots":Str)∉(["name","time","anchor","names"]:List Str))=True:=eq_true (by decide +kernel)
theorem jR:(("touched":Str)∉(["name","time","anchor","names"]:List Str))=True:=eq_true (by decide +kernel)
theorem oU{a0 a1 a2 a3 a4:D}:cG ["name","time","anchor","names","word"] [a0,a1,a2,a3,a4] "name"=some a0:=by kernel_rfl
theorem oT{a0 a1 a2 a3 a4:D}:cG ["name","time","anchor","names","word"] [a0,a1,a2,a3,a4] "time"=some a1:=by kernel_rfl
theorem mi{a0 a1 a2 a3 a4:D}:cG ["name","time","anchor","names","word"] [a0,a1,a2,a3,a4] "anchor"=some a2:=by kernel_rfl
theorem nA{a0 a1 a2 a3 a4:D}:cG ["name","time","anchor","names","word"] [a0,a1,a2,a3,a4] "names"=some a3:=by kernel_rfl
theorem oR{a0 a1 a2 a3 a4:D}:cG ["name","time","anchor","names","word"] [a0,a1,a2,a3,a4] "word"=some a4:=by kernel_rfl
theorem sF:fL ["name","time","anchor","names"] "names"=(["name","time","anchor","names"]:List Str):=by kernel_rfl
theorem sH{a0 a1 a2 a3 x:D}:eZ ["name","time","anchor","names"] [a0,a1,a2,a3] "names" x=[a0,a1,a2,x]:=by kernel_rfl
theorem sE:fL ["name","time","anchor","names"] "word"=(["name","time","anchor","names","word"]:List Str):=by kernel_rfl
theorem sG{a0 a1 a2 a3 x:D}:eZ ["name","time","anchor","names"] [a0,a1,a2,a3] "word" x=[a0,a1,a2,a3,x]:=by kernel_rfl
theorem mU:(("slots":Str)∉(["name","time","anchor","names","word"]:List Str))=True:=eq_true (by decide +kernel)
theorem kB:(("touched":Str)∉(["name","time","anchor","names","word"]:List Str))=True:=eq_true (by decide +kernel)
theorem rp{a0 a1 a2 a3:D}:cG ["name","time","anchor","names"] [a0,a1,a2,a3] "name"=some a0:=by kernel_rfl
theorem rm{a0 a1 a2 a3:D}:cG ["name","time","anchor","names"] [a0,a1,a2,a3] "time"=some a1:=by kernel_rfl
theorem nz{a0 a1 a2 a3:D}:cG ["name","time","anchor","names"] [a0,a1,a2,a3] "anchor"=some a2:=by kernel_rfl
theorem oQ{a0 a1 a2 a3:D}:cG ["name","time","anchor","names"] [a0,a1,a2,a3] "names"=some a3:=by kernel_rfl
theorem uv:fL ["name","time","anchor","names"] "names"=(["name","time","anchor","names"]:List Str):=by kernel_rfl
theorem ux{a0 a1 a2 a3 x:D}:eZ ["name","time","anchor","names"] [a0,a1,a2,a3] "names" x=[a0,a1,a2,x]:=by kernel_rfl
theorem uu:fL ["name","time","anchor","names"] "anchor"=(["name","time","anchor","names"]:List Str):=by kernel_rfl
theorem uw{a0 a1 a2 a3 x:D}:eZ ["name","time","anchor","names"] [a0,a1,a2,a3] "anchor" x=[a0,a1,x,a3]:=by kernel_rfl
theorem on:(("slots":Str)∉(["name","time","anchor","names"]:List Str))=True:=eq_true (by decide +kernel)
theorem lX:(("touched":Str)∉(["name","time","anchor","names"]:List Str))=True:=eq_true (by decide +kernel)
abbrev dC:Stmt:=iT 3
theorem nV:FnScope ["name","how_many"] ["name","how_many"] (aj dC):=by walk_at "j"
theorem lY:((["k"]:List Str) ++ (["name","how_many"]:List Str)).Nodup:=by decide +kernel
abbrev d8:Stmt:=iT 9
theorem fN:FnScope ["row","name","time","act"] ["row"] (aj d8):=by walk_at "j"
abbrev b7:Stmt:=iT 10
theorem jC:FnScope ["row"] ["row"] (aj b7):=by walk_at "j"
abbrev ff:Stmt:=iT 11
theorem iE:FnScope ["rows","by_name","row"] ["rows"] (aj ff):=by walk_at "j"
abbrev d9:Stmt:=iT 13
theorem qe:FnScope ["old"] ["old"] (aj d9):=by walk_at "j"
abbrev dD:Stmt:=iT 14
theorem fo:FnScope ["following","anchor","slots","behind","slot"] ["following","anchor","slots"] (aj dD):=by walk_at "j"
abbrev fX:Stmt:=iT 15
theorem h9:FnScope ["following","row","slot"] ["following"] (aj fX):=by walk_at "j"
abbrev fe:Stmt:=iT 16
theorem iD:FnScope ["old","strokes","following","stroke"] ["old","strokes"] (aj fe):=by walk_at "j"
theorem oo:((["row"]:List Str) ++ (["old","strokes","following","stroke"]:List Str)).Nodup:=by decide +kernel
abbrev gP:Stmt:=iT 18
theorem vV:FnScope ["keys"] ["keys"] (aj gP):=by walk_at "j"
theorem sR:((["key"]:List Str) ++ (["keys"]:List Str)).Nodup:=by decide +kernel
abbrev d_:Stmt:=iT 19
theorem qf:FnScope ["stroke","in_row"] ["stroke","in_row"] (aj d_):=by walk_at "j"
theorem mV:((["slot"]:List Str) ++ (["stroke","in_row"]:List Str)).Nodup:=by decide +kernel
abbrev ee:Stmt:=iT 20
theorem h8:FnScope ["strokes","standing","in_row","stands","chosen"] ["strokes","standing","in_row"] (aj ee):=by walk_at "j"
theorem mX:((["row"]:List Str) ++ (["strokes","standing","in_row","stands","chosen"]:List Str)).Nodup:=by decide +kernel
theorem mW:((["stroke"]:List Str) ++ (["strokes","standing","in_row","stands","chosen"]:List Str)).Nodup:=by decide +kernel
abbrev cu:Stmt:=iT 21
theorem cH:FnScope ["old","strokes","brought","stroke","name","sign"] ["old","strokes"] (aj cu):=by walk_at "j"
abbrev cI:Stmt:=iT 22
theorem d4:FnScope ["strokes","struck","stroke","name"] ["strokes"] (aj cI):=by walk_at "j"
abbrev da:Stmt:=iT 23
theorem dj:FnScope ["strokes","taken","stroke","name","slot"] ["strokes"] (aj da):=by walk_at "j"
abbrev dB:Stmt:=iT 24
theorem fm:FnScope ["strokes","worn","stroke","name"] ["strokes"] (aj dB):=by walk_at "j"
abbrev gO:Stmt:=iT 25
theorem c_:FnScope ["old","strokes","standing","row","working","brought","struck","taken","worn","sitting","name","seats"] ["old","strokes","standing"] (aj gO):=by walk_at "j"
theorem sQ:((["slot"]:List Str) ++ (["old","strokes","standing","row","working","brought","struck","taken","worn","sitting","name","seats"]:List Str)).Nodup:=by decide +kernel
theorem lf:((["slot","name"]:List Str) ++ (["old","strokes","standing","row","working","brought","struck","taken","worn","sitting","-name","seats"]:List Str)).Nodup:=by decide +kernel
abbrev cK:Stmt:=iT 27
theorem lL:FnScope ["_law_script","_law_k"] ["_law_script","_law_k"] (aj cK):=by walk_at "j"
abbrev db:Stmt:=iT 28
theorem dk:FnScope ["_law_cell","_law_many","_law_found","_law_number","_law_k"] ["_law_cell","_law_many"] (aj db):=by walk_at "j"
abbrev cJ:Stmt:=iT 29
theorem ay:FnScope ["_law_cells","_law_pens","_law_old","_law_signs","_law_slots","_law_rows","_law_many","_law_cell","_law_xs","_law_pen","_law_name","_law_anchor","_law_at","_law_names","_law_act","_law_dress"] ["_law_cells","_law_pens","_law_old"] (aj cJ):=by walk_at "j"
theorem jU:((["_law_k"]:List Str) ++ (["_law_cells","_law_pens","_law_old","_law_signs","_law_slots","_law_rows","_law_many","_law_cell","_law_xs","_law_pen","_law_name","_law_anchor","_law_at","_law_names","_law_act","_law_dress"]:List Str)).Nodup:=by decide +kernel
theorem jT:((["_law_k"]:List Str) ++ (["_law_cells","_law_pens","_law_old","_law_signs","_law_slots","_law_rows","_law_many","_law_cell","_law_xs","_law_pen","_law_name","_law_anchor","_law_at","_law_names","_law_act","_law_dress"]:List Str)).Nodup:=by decide +kernel
theorem jS:((["_law_k"]:List Str) ++ (["_law_cells","_law_pens","_law_old","_law_signs","_law_slots","_law_rows","_law_many","_law_cell","_law_xs","_law_pen","_law_name","_law_anchor","_law_at","_law_names","_law_act","_law_dress"]:List Str)).Nodup:=by decide +kernel
abbrev cv:Stmt:=iT 30
theorem fc:FnScope ["_law_rows","_law_cell","_law_found","_law_k"] ["_law_rows","_law_cell"] (aj cv):=by walk_at "j"
abbrev fg:Stmt:=iT 31
theorem sn:FnScope ["_law_row"] ["_law_row"] (aj fg):=by walk_at "j"
abbrev eg:Stmt:=iT 32
theorem cV:FnScope ["_law_name","_law_acts","_law_slots","_law_seat_here","_law_one","_law_time","_law_act","_law_slot"] ["_law_name","_law_acts","_law_slots"] (aj eg):=by walk_at "j"
abbrev ef:Stmt:=iT 33
theorem dA:FnScope ["_law_name","_law_acts","_law_word_here","_law_one","_law_time","_law_act"] ["_law_name","_law_acts"] (aj ef):=by walk_at "j"
abbrev jF:Stmt:=iT 34
theorem eG:FnScope ["_law_script","_law_first","_law_old","_law_pens","_law_rows","_law_standing_here","_law_handed","_law_found","_law_slots","_law_acts","_law_slot","_law_name","_law_sign","_law_word_here"] ["_law_script"] (aj jF):=by walk_at "j"
theorem xW:((["_law_row"]:List Str) ++ (["_law_script","_law_first","_law_old","_law_pens","_law_rows","_law_standing_here","_law_handed","_law_found","_law_slots","_law_acts","_law_slot","_law_name","_law_sign","_law_word_here"]:List Str)).Nodup:=by decide +kernel
abbrev bT:Stmt:=fT (iT 4) 0
theorem jc:FnScope ["self","name","time"] ["self","name","time"] (aj bT):=by walk_at "j"
abbrev cL:Stmt:=fT (iT 4) 1
theorem lM:FnScope ["self"] ["self"] (aj cL):=by walk_at "j"
abbrev b8:Stmt:=fT (iT 4) 2
theorem jD:FnScope ["self"] ["self"] (aj b8):=by walk_at "j"
abbrev cM:Stmt:=fT (iT 5) 0
theorem lN:FnScope ["self","name","time","anchor","signs"] ["self","name","time","anchor","signs"] (aj cM):=by walk_at "j"
abbrev eh:Stmt:=fT (iT 5) 1
theorem qg:FnScope ["self"] ["self"] (aj eh):=by walk_at "j"
abbrev bU:Stmt:=fT (iT 6) 0
theorem jd:FnScope ["self","name","time","names"] ["self","name","time","names"] (aj bU):=by walk_at "j"
abbrev b9:Stmt:=fT (iT 7) 0
theorem jE:FnScope ["self","name","time","names","word"] ["self","name","time","names","word"] (aj b9):=by walk_at "j"
abbrev cw:Stmt:=fT (iT 8) 0
theorem j_:FnScope ["self","name","time","names","anchor"] ["self","name","time","names","anchor"] (aj cw):=by walk_at "j"
abbrev dE:Stmt:=fT (iT 8) 1
theorem nW:FnScope ["self"] ["self"] (aj dE):=by walk_at "j"
def aK(_ _ _ _ _:Addr)(_:HW):eF:=fun ds G Q=>match ds with
 | [d]=>∃ r:Rw,d=r.d/\Q r.key G
 | _=>False
def io(G G':Gp):Prop:=∀ a o,G a=some o->G' a=some o
theorem io.refl{G:Gp}:io G G:=fun _ _ h=>h
theorem io.trans{G G1 G2:Gp}(a:io G G1)(b:io G1 G2):io G G2:=fun x o h=>b x o (a x o h)
theorem io.gset{G G1:Gp}{p:Addr}{o:GO}(a:io G G1)(hp:G p=none):io G (gset G1 p o):=fun x y h=>by
 have:x≠p:=fun z=>by subst z;rw[hp]at h;cases h
 rw[aG this];exact a x y h
def bI(_ _ _ _ _:Addr)(_:HW):eF:=fun ds G Q=>match ds with
 | [.lst xs]=>∃ rs base:List Rw,(xs=rs.map Rw.d/\fW rs/\rs.length<=1000/\base.length < 64/\∀ r∈rs,r∈base)/\∀ out G',io G G'->fj out->(∀ r,r∈out↔r∈rs)->Q (.fl (out.map Rw.d)) G'
 | _=>False
def aV(_ _ _ _ _:Addr)(_:HW):eF:=fun ds G Q=>match ds with
 | [.tup [.str p,.int n],.int m]=>(0<=m/\m<=1000)/\Q (.fl ((aQ p n m.toNat).map Sl.d)) G
 | _=>False
def bV(Z1 Z2 Z3 Z4 Z5:Addr)(s:Sk):GO:=match s.act with
 | .put a x=>.ins Z2 ["name","time","anchor","names","signs"] [.tup [.str s.pen,.int s.num],.int s.time,a.d,.tup [],.str x]
 | .strike ns=>.ins Z3 ["name","time","anchor","names"] [.tup [.str s.pen,.int s.num],.int s.time,aA.d,.tup (ns.map Sl.d)]
 | .dress ns w=>.ins Z4 ["name","time","anchor","names","word"] [.tup [.str s.pen,.int s.num],.int s.time,aA.d,.tup (ns.map Sl.d),.str w]
 | .move ns a=>.ins Z5 ["name","time","anchor","names"] [.tup [.str s.pen,.int s.num],.int s.time,a.d,.tup (ns.map Sl.d)]
def av(Z1 Z2 Z3 Z4 Z5:Addr)(hw:HW):eF:=fun ds G Q=>match ds with
 | [.ref a,d,.int t]=>(∃ C,C∈[Z1,Z2,Z3,Z4,Z5]/\G a=some (.ins C [] [])/\∃ p n,d=.tup [.str p,.int n]/\Q .non (gset G a (.ins C ["name","time","anchor","names"] [d,.int t,aA.d,.tup []])))
 | _=>False
def a_(Z1 Z2 Z3 Z4 Z5:Addr)(hw:HW):eF:=fun ds G Q=>match ds with
 | [.ref a,d,.int t,b,.str x]=>G a=some (.ins Z2 [] [])/\∃ p n s,d=.tup [.str p,.int n]/\b=Sl.d s/\Q .non (gset G a (.ins Z2 ["name","time","anchor","names","signs"] [d,.int t,b,.tup [],.str x]))
 | _=>False
def aM(Z1 Z2 Z3 Z4 Z5:Addr)(hw:HW):eF:=fun ds G Q=>match ds with
 | [.ref a,d,.int t,.tup ns]=>G a=some (.ins Z3 [] [])/\∃ p n,d=.tup [.str p,.int n]/\Q .non (gset G a (.ins Z3 ["name","time","anchor","names"] [d,.int t,aA.d,.tup ns]))
 | _=>False
def aP(Z1 Z2 Z3 Z4 Z5:Addr)(hw:HW):eF:=fun ds G Q=>match ds with
 | [.ref a,d,.int t,.tup ns,.str w]=>G a=some (.ins Z4 [] [])/\∃ p n,d=.tup [.str p,.int n]/\Q .non (gset G a (.ins Z4 ["name","time","anchor","names","word"] [d,.int t,aA.d,.tup ns,.str w]))
 | _=>False
def aU(Z1 Z2 Z3 Z4 Z5:Addr)(hw:HW):eF:=fun ds G Q=>match ds with
 | [.ref a,d,.int t,.tup ns,b]=>G a=some (.ins Z5 [] [])/\∃ p n s,d=.tup [.str p,.int n]/\b=Sl.d s/\Q .non (gset G a (.ins Z5 ["name","time","anchor","names"] [d,.int t,b,.tup ns]))
 | _=>False
def br(Z1 Z2 Z3 Z4 Z5:Addr)(hw:HW):eF:=fun ds G Q=>match ds with
 | [d]=>∃ s:Sk,d=s.d/\∀ p,G p=none->Q (.ref p) (gset G p (bV Z1 Z2 Z3 Z4 Z5 s))
 | _=>False
def ai(_ _ _ _ _:Addr)(_:HW):eF:=fun ds G Q=>match ds with
 | [.ref _]=>Q (.fl []) G
 | _=>False
def aO(Z1 Z2 Z3 Z4 Z5:Addr)(hw:HW):eF:=fun ds G Q=>match ds with
 | [.ref a]=>∃ (s:Sk) (b:Sl) (x:Str),(s.act=.put b x/\G a=some (bV Z1 Z2 Z3 Z4 Z5 s)/\x.length<=1000)/\Q (.fl ((made s).map Sl.d)) G
 | _=>False
def aI(Z1 Z2 Z3 Z4 Z5:Addr)(hw:HW):eF:=fun ds G Q=>match ds with
 | [.ref a]=>∃ (s:Sk) (b:Sl) (ns:List Sl),(s.act=.move ns b/\G a=some (bV Z1 Z2 Z3 Z4 Z5 s)/\ns.length<=1000)/\Q (.fl ((made s).map Sl.d)) G
 | _=>False
def bu(_ _ _ _ _:Addr)(_:HW):eF:=fun ds G Q=>match ds with
 | [.str x]=>x.length<=1000/\Q (.fl ((fJ x.length).map Sl.d)) G
 | _=>False
def bq(Z1 Z2 Z3 Z4 Z5:Addr)(hw:HW):eF:=fun ds G Q=>match ds with
 | [.ref p,a,.lst xs]=>∃ (b:Sl) (ss W:List Sl) (kvs:List (List aN×D)),(a=b.d/\xs=ss.map Sl.d/\G p=some (.dT hw kvs)/\wS kvs W/\b∈W/\ss.Nodup/\(∀ x∈ss,x∉W)/\W.length+ss.length<=900000)/\
   ∀ kvs',wS kvs' (bM W b ss)->Q .non (gset G p (.dT hw kvs'))
 | _=>False
def cE(Z1 Z2 Z3 Z4 Z5:Addr)(hw:HW):eF:=fun ds G Q=>match ds with
 | [.ref p]=>∃ (R:List Sl) (kvs:List (List aN×D)),(G p=some (.dT hw kvs)/\wS kvs (aA::R)/\R.length<=900000)/\Q (.fl (R.map Sl.d)) G
 | _=>False
def bH(Z1 Z2 Z3 Z4 Z5:Addr)(hw:HW):eF:=fun ds G Q=>match ds with
 | [.str x,.lst xs]=>∃ sks base:List Sk,(xs=sks.map Sk.d/\x.length<=1000/\fW (sks.map Sk.rw)/\sks.length<=1000/\base.length < 64/\(∀ s∈sks,s∈base)/\∀ s∈sks,s.ok)/\
   ∀ out G',io G G'->fj (out.map Sk.rw)->(∀ s,s∈out↔s∈sks)->Q (.fl ((dR x.length out).map Sl.d)) G'
 | _=>False
def gJ(Z1 Z2 Z3 Z4 Z5:Addr)(G:Gp)(ps:List Addr)(o:List Sk):Prop:=ps.length=o.length/\∀ (j:Nat) p s,ps[j]?=some p->o[j]?=some s->G p=some (bV Z1 Z2 Z3 Z4 Z5 s)
def pZ(o:List Sk):Prop:=o.length<=64/\∀ s∈o,s.wd<=1000
def cr(Z1 Z2 Z3 Z4 Z5:Addr)(hw:HW):eF:=fun ds G Q=>match ds with
 | [.lst xs]=>(∃ ss:List Sl,(xs=ss.map Sl.d/\ss.length<=900000)/\∀ p,G p=none->Q (.ref p) (gset G p (.dT hw (aS (fun _=>.bl true) (bd [] (ss.map fun s=>(s,())))))))\/
   ∃ ns:List Nm,(xs=ns.map Nm.d/\ns.length<=900000)/\∀ p,G p=none->Q (.ref p) (gset G p (.dT hw (dictOf (ns.map fun n=>(n.key,.bl true)))))
 | _=>False
def bO(Z1 Z2 Z3 Z4 Z5:Addr)(hw:HW):eF:=fun ds G Q=>match ds with
 | [.ref a,.ref p]=>∃ (s:Sk) (row:List (Sl×Unit)),(G a=some (bV Z1 Z2 Z3 Z4 Z5 s)/\s.wd<=1000/\G p=some (.dT hw (aS (fun _=>.bl true) row)))/\Q (.bl ((made s).all fun x=>(c8 row x).isSome)) G
 | _=>False
def bP(Z1 Z2 Z3 Z4 Z5:Addr)(hw:HW):eF:=fun ds G Q=>match ds with
 | [.lst xs,.lst ns,.ref p]=>∃ (sks base:List Sk) (names:List Nm) (row:List Sl),(xs=sks.map Sk.d/\fW (sks.map Sk.rw)/\sks.length<=1000/\base.length < 64/\(∀ s∈sks,s∈base)/\(∀ s∈sks,s.wd<=1000)/\ns=names.map Nm.d/\names.length<=900000/\G p=some (.dT hw (aS (fun _=>.bl true) (bd [] (row.map fun s=>(s,()))))))/\
   ∀ out ps G',io G G'->fj (out.map Sk.rw)->(∀ s,s∈out↔s∈sks)->gJ Z1 Z2 Z3 Z4 Z5 G' ps (fM out names row)->Q (.fl (ps.map D.ref)) G'
 | _=>False
def bb(Z1 Z2 Z3 Z4 Z5:Addr)(hw:HW):eF:=fun ds G Q=>match ds with
 | [.str x,.lst xs]=>∃ (ps:List Addr) (o:List Sk),(xs=ps.map D.ref/\gJ Z1 Z2 Z3 Z4 Z5 G ps o/\pZ o/\x.length<=1000)/\∀ p,G p=none->Q (.ref p) (gset G p (.dT hw (aS D.str (aB x o))))
 | _=>False
def ab(Z1 Z2 Z3 Z4 Z5:Addr)(hw:HW):eF:=fun ds G Q=>match ds with
 | [.ref a]=>∃ (s:Sk) (ns:List Sl),((s.act=.strike ns\/(∃ w,s.act=.dress ns w)\/∃ b,s.act=.move ns b)/\G a=some (bV Z1 Z2 Z3 Z4 Z5 s)/\ns.length<=1000)/\Q (.fl (ns.map Sl.d)) G
 | _=>False
def bg(Z1 Z2 Z3 Z4 Z5:Addr)(hw:HW):eF:=fun ds G Q=>match ds with
 | [.lst xs]=>∃ (ps:List Addr) (o:List Sk),(xs=ps.map D.ref/\gJ Z1 Z2 Z3 Z4 Z5 G ps o/\pZ o)/\∀ p,G p=none->Q (.ref p) (gset G p (.dT hw (aS (fun _=>.bl true) (bF o))))
 | _=>False
def bo(Z1 Z2 Z3 Z4 Z5:Addr)(hw:HW):eF:=fun ds G Q=>match ds with
 | [.lst xs]=>∃ (ps:List Addr) (o:List Sk),(xs=ps.map D.ref/\gJ Z1 Z2 Z3 Z4 Z5 G ps o/\pZ o)/\∀ p,G p=none->Q (.ref p) (gset G p (.dT hw (aS Sl.d (cn o))))
 | _=>False
def bE(Z1 Z2 Z3 Z4 Z5:Addr)(hw:HW):eF:=fun ds G Q=>match ds with
 | [.lst xs]=>∃ (ps:List Addr) (o:List Sk),(xs=ps.map D.ref/\gJ Z1 Z2 Z3 Z4 Z5 G ps o/\pZ o)/\∀ p,G p=none->Q (.ref p) (gset G p (.dT hw (aS D.str (ft o))))
 | _=>False
def c9(Z1 Z2 Z3 Z4 Z5:Addr)(hw:HW):eF:=fun ds G Q=>match ds with
 | [.str x,.lst xs,.lst ns]=>∃ (sks base:List Sk) (names:List Nm),(xs=sks.map Sk.d/\x.length<=1000/\fW (sks.map Sk.rw)/\sks.length<=1000/\base.length < 64/\(∀ s∈sks,s∈base)/\(∀ s∈sks,1<=s.num/\s.wd<=1000)/\ns=names.map Nm.d/\names.length<=900000)/\
   ∀ out G',io G G'->fj (out.map Sk.rw)->(∀ s,s∈out↔s∈sks)->Q (.fl ((jB x out names).map Seat.d)) G'
 | _=>False
def aZ(_ _ _ _ _:Addr)(_:HW):eF:=fun ds G Q=>match ds with
 | [.lst xs,.int k]=>∃ ns:List Int,(xs=ns.map D.int/\0<=k)/\∀ c:Int,Q (.int c) G
 | _=>False
def jb(_ _ _ _ _:Addr)(_:HW):eF:=fun vs _ Q=>match vs with
 | [.lst ds]=>∃ ns:List Int,ds=ns.map D.int/\ns.length<=63/\∀ G',Q (.bl true) G'
 | _=>False
def aY(_ _ _ _ _:Addr)(_:HW):eF:=fun ds G Q=>match ds with
 | [.int _,.int m]=>(0<=m/\m<=100)/\∀ xs:List Int,(xs.length:Int)=m->(∀ x∈xs,0<=x/\x < 2147483647)->Q (.fl (xs.map D.int)) G
 | _=>False
def bS(_ _ _ _ _:Addr)(_:HW):eF:=fun ds G Q=>match ds with
 | [d]=>∃ r:Rw,d=r.d/\Q (.tup [.int r.time,.str r.pen,.int r.num]) G
 | _=>False
def Act.nodup:Act->Prop
 | .move ns _=>ns.Nodup
 | _=>True
def Ck(sks:List Sk):Prop:=sks.length<=32/\(∀ s∈sks,1<=s.num/\s.wd<=3/\s.act.nodup)/\(sks.map Sk.rw).Pairwise e9
def bh(_ _ _ _ _:Addr)(_:HW):eF:=fun ds _ Q=>match ds with
 | [.lst cs,.lst pens,.str x]=>∃ (ns:List Int) (ps:List Str),(cs=ns.map D.int/\ns.length<=32/\pens=ps.map D.str/\0 < ps.length/\ps.length<=4/\x.length<=12/\Str.ofString "zoe"∉ps)/\∀ (sks:List Sk) G',Ck sks->Q (.fl (sks.map Sk.d)) G'
 | _=>False
def bc(_ _ _ _ _:Addr)(_:HW):eF:=fun ds _ Q=>match ds with
 | [.lst xs,.int _]=>∃ sks:List Sk,(xs=sks.map Sk.d/\sks.length<=32)/\∀ (names:List Nm) G',names.length<=32->Q (.fl (names.map Nm.d)) G'
 | _=>False
def dQ(name:Sl)(slots:List Sl)(h:Sl)(s:Sk):Sl:=match s.act with
 | .move ns _=>if name∈ns/\(⟨s.pen,s.num,1+(cT name.d (ns.map Sl.d):Int)⟩:Sl)∈slots then ⟨s.pen,s.num,1+(cT name.d (ns.map Sl.d):Int)⟩else h
 | _=>h
def fu(name:Sl)(h:Str)(s:Sk):Str:=match s.act with
 | .dress ns w=>if name∈ns then w else h
 | _=>h
def bR(_ _ _ _ _:Addr)(_:HW):eF:=fun ds G Q=>match ds with
 | [a,.lst xs,.lst ys]=>∃ (name:Sl) (acts:List Sk) (slots:List Sl),(a=name.d/\xs=acts.map Sk.d/\ys=slots.map Sl.d)/\Q (acts.foldl (dQ name slots) name).d G
 | _=>False
def bQ(_ _ _ _ _:Addr)(_:HW):eF:=fun ds G Q=>match ds with
 | [a,.lst xs]=>∃ (name:Sl) (acts:List Sk),(a=name.d/\xs=acts.map Sk.d)/\Q (.str (acts.foldl (fu name) (Str.ofString ""))) G
 | _=>False
def c5(Z1 Z2 Z3 Z4 Z5:Addr)(hw:List aN->Int):dg:=sSeq (mG (d5 (bG Eo (ae 1) (eB iZ (af (ae 0) (az))))) (dJ (bG dO (ae 0) (ae 1))) (dq))
 (dJ (eC (.int 0)))
def dw(Z1 Z2 Z3 Z4 Z5:Addr)(hw:List aN->Int):dg:=sSeq (vW 2 (jt (az)))
 (sSeq (bx 3 (bG iu (bG uE (bG fQ (ae 0) (eC (.int 1))) (eC (.int 48271))) (eC (.int 2147483647))))
 (sSeq (fZ (B1 (af (ae 1) (az))) (gN 4) (sSeq (bx 3 (bG iu (bG uE (bG fQ (bG fQ (ae 3) (bG uE (eC (.int 7919)) (ae 4))) (eC (.int 1))) (bG fQ (bG xT (ae 3) (eC (.int 1009))) (eC (.int 69621)))) (eC (.int 2147483647))))
 (gx (im (ae 2) (af (ae 3) (az))))))
 (fq 2)))
def cZ(Z1 Z2 Z3 Z4 Z5:Addr)(hw:List aN->Int):dg:=sSeq (bx 3 (bG fQ (eV 1 (B1 (af (eB iZ (af (ae 2) (az))) (az))) (gN 0) (iC) (fU (af (eC (.str "")) (af (eC (.int 0)) (af (bG fQ (ae 0) (eC (.int 1))) (az)))))) (jt (af (fU (af (eC (.str "zoe")) (af (eC (.int 1)) (af (eC (.int 1)) (az))))) (az)))))
 (sSeq (bx 4 (bG fQ (jt (af (fU (af (eC (.str "")) (af (eC (.int 0)) (af (eC (.int 0)) (az))))) (az))) (ae 3)))
 (sSeq (vW 5 (jt (az)))
 (sSeq (bx 6 (yx))
 (sSeq (fZ (eX (ae 0)) (gN 7) (sSeq (bx 8 (bD (aY Z1 Z2 Z3 Z4 Z5 hw) [] (af (ae 7) (af (eC (.int 8)) (az)))))
 (sSeq (bx 9 (bG dO (ae 1) (bG iu (bG dO (ae 8) (eC (.int 0))) (eB iZ (af (ae 1) (az))))))
 (sSeq (eY hw (ae 6) (ae 9) (bG fQ (kR hw (ae 6) (ae 9) (eC (.int 0))) (eC (.int 1))))
 (sSeq (bx 10 (fU (af (ae 9) (af (tJ hw (ae 6) (ae 9)) (az)))))
 (sSeq (bx 11 (bG dO (ae 4) (bG iu (bG dO (ae 8) (eC (.int 2))) (eB iZ (af (ae 4) (az))))))
 (sSeq (bx 12 (bG iu (bG dO (ae 8) (eC (.int 3))) (eB iZ (af (ae 3) (az)))))
 (sSeq (bx 13 (eB rO (af (Ae y9 (ae 3) (ip (ae 12)) (ip (bG fQ (bG fQ (ae 12) (eC (.int 1))) (bG iu (bG dO (ae 8) (eC (.int 4))) (eC (.int 3)))))) (az))))
 (sSeq (mG (d5 (ix xS (bG iu (bG dO (ae 8) (eC (.int 7))) (eC (.int 3))) (eC (.int 0)))) (bx 13 (yw (ae 13) (zJ) (zJ) (ip (B2 (eC (.int 1)))))) (dq))
 (sSeq (bx 14 (fU (af (eC (.str "put")) (af (ae 11) (af (bG dO (jt (af (eC (.str "a")) (af (eC (.str "b\n")) (af (eC (.str "xyz")) (az))))) (bG iu (bG dO (ae 8) (eC (.int 4))) (eC (.int 3)))) (az))))))
 (sSeq (mG (d5 (bG C9 (bG iu (bG dO (ae 8) (eC (.int 5))) (eC (.int 9))) (eC (.int 1)))) (sSeq (bx 15 (fU (af (eC (.str "dress")) (af (ae 13) (af (bG dO (jt (af (eC (.str "")) (af (eC (.str "bold")) (af (eC (.str "b")) (af (eC (.str "red")) (az)))))) (bG iu (bG dO (ae 8) (eC (.int 6))) (eC (.int 4)))) (az))))))
 (bx 14 (bG dO (jt (af (fU (af (eC (.str "move")) (af (ae 13) (af (ae 11) (az))))) (af (ae 15) (af (fU (af (eC (.str "move")) (af (ae 13) (af (ae 11) (az))))) (af (fU (af (eC (.str "strike")) (af (Ae DU (ae 13) (zJ) (ip (eC (.int 1)))) (az)))) (az)))))) (bG iu (bG dO (ae 8) (eC (.int 5))) (eC (.int 4)))))) (dq))
 (sSeq (gx (im (ae 5) (af (fU (af (ae 10) (af (bG fQ (eC (.int 1)) (bG iu (bG dO (ae 8) (eC (.int 1))) (eC (.int 9)))) (af (ae 14) (az))))) (az))))
 (sSeq (mG (d5 (ix xS (bG dO (ae 14) (eC (.int 0))) (eC (.str "put")))) (sSeq (bx 3 (bG fQ (ae 3) (eV 1 (B1 (af (eB iZ (af (bG dO (ae 14) (eC (.int 2))) (az))) (az))) (gN 0) (iC) (fU (af (bG dO (ae 11) (eC (.int 0))) (af (bG dO (ae 11) (eC (.int 1))) (af (bG fQ (ae 0) (eC (.int 1))) (az))))))))
 (bx 4 (bG fQ (ae 4) (Ae y9 (ae 3) (ip (bG BF (eB iZ (af (ae 3) (az))) (eB iZ (af (bG dO (ae 14) (eC (.int 2))) (az))))) (zJ))))) (dq))
 (mG (d5 (ix xS (bG dO (ae 14) (eC (.int 0))) (eC (.str "move")))) (bx 4 (bG fQ (ae 4) (eV 1 (B1 (af (eB iZ (af (ae 13) (az))) (az))) (gN 0) (iC) (fU (af (bG dO (ae 11) (eC (.int 0))) (af (bG dO (ae 11) (eC (.int 1))) (af (bG fQ (ae 0) (eC (.int 1))) (az)))))))) (dq)))))))))))))))
 (fq 5)))))
def cO(Z1 Z2 Z3 Z4 Z5:Addr)(hw:List aN->Int):dg:=sSeq (vW 2 (jt (az)))
 (sSeq (fZ (B1 (af (eB iZ (af (ae 0) (az))) (az))) (gN 3) (mG (d5 (bG C9 (bG iu (bG dO (bD (aY Z1 Z2 Z3 Z4 Z5 hw) [] (af (bG fQ (ae 1) (bG uE (eC (.int 7919)) (ae 3))) (af (eC (.int 2)) (az)))) (eC (.int 1))) (eC (.int 4))) (eC (.int 0)))) (gx (im (ae 2) (af (bG dO (bG dO (ae 0) (ae 3)) (eC (.int 0))) (az)))) (dq)))
 (fq 2))
def dW(Z1 Z2 Z3 Z4 Z5:Addr)(hw:List aN->Int):dg:=sSeq (bx 3 (ae 1))
 (fZ (eX (ae 2)) (gN 4) (sSeq (eY hw (ae 0) (ae 4) (tJ hw (ae 0) (ae 3)))
 (sSeq (eY hw (ae 0) (ae 3) (ae 4))
 (bx 3 (ae 4)))))
def dU(Z1 Z2 Z3 Z4 Z5:Addr)(hw:List aN->Int):dg:=dJ (eV 1 (Et (af (eC (.int 1)) (af (bG fQ (ae 1) (eC (.int 1))) (az)))) (gN 0) (iC) (bG fQ (ae 1) (fU (af (ae 0) (az)))))
def eK(Z1 Z2 Z3 Z4 Z5:Addr)(hw:List aN->Int):dg:=dJ (bD (aV Z1 Z2 Z3 Z4 Z5 hw) [] (af (Ae y9 (eC k_START) (zJ) (ip (eC (.int 2)))) (af (eB iZ (af (ae 0) (az))) (az))))
def cz(Z1 Z2 Z3 Z4 Z5:Addr)(hw:List aN->Int):dg:=dJ (fU (af (bG dO (ae 0) (eC (.int 1))) (af (bG dO (ae 0) (eC (.int 0))) (az))))
def fx(Z1 Z2 Z3 Z4 Z5:Addr)(hw:List aN->Int):dg:=sSeq (bx 1 (nH hw))
 (sSeq (fZ (eX (ae 0)) (gN 2) (eY hw (ae 1) (bG dO (ae 2) (eC (.int 0))) (ae 2)))
 (dJ (uU (aK Z1 Z2 Z3 Z4 Z5 hw) (ae 1))))
def b_(Z1 Z2 Z3 Z4 Z5:Addr)(hw:List aN->Int):dg:=sSeq (gQ [Z1,Z2,Z3,Z4,Z5] "name" (ae 0) (ae 1))
 (sSeq (gQ [Z1,Z2,Z3,Z4,Z5] "time" (ae 0) (ae 2))
 (sSeq (gQ [Z1,Z2,Z3,Z4,Z5] "anchor" (ae 0) (eC k_START))
 (gQ [Z1,Z2,Z3,Z4,Z5] "names" (ae 0) (fU (az)))))
def c7(Z1 Z2 Z3 Z4 Z5:Addr)(hw:List aN->Int):dg:=sSeq (gx (bD (av Z1 Z2 Z3 Z4 Z5 hw) [] (af (ae 0) (af (ae 1) (af (ae 2) (az))))))
 (sSeq (gQ [Z1,Z2,Z3,Z4,Z5] "anchor" (ae 0) (ae 3))
 (gQ [Z1,Z2,Z3,Z4,Z5] "signs" (ae 0) (ae 4)))
def cb(Z1 Z2 Z3 Z4 Z5:Addr)(hw:List aN->Int):dg:=sSeq (gx (bD (av Z1 Z2 Z3 Z4 Z5 hw) [] (af (ae 0) (af (ae 1) (af (ae 2) (az))))))
 (gQ [Z1,Z2,Z3,Z4,Z5] "names" (ae 0) (ae 3))
def cB(Z1 Z2 Z3 Z4 Z5:Addr)(hw:List aN->Int):dg:=sSeq (gx (bD (av Z1 Z2 Z3 Z4 Z5 hw) [] (af (ae 0) (af (ae 1) (af (ae 2) (az))))))
 (sSeq (gQ [Z1,Z2,Z3,Z4,Z5] "names" (ae 0) (ae 3))
 (gQ [Z1,Z2,Z3,Z4,Z5] "word" (ae 0) (ae 4)))
def cP(Z1 Z2 Z3 Z4 Z5:Addr)(hw:List aN->Int):dg:=sSeq (gx (bD (av Z1 Z2 Z3 Z4 Z5 hw) [] (af (ae 0) (af (ae 1) (af (ae 2) (az))))))
 (sSeq (gQ [Z1,Z2,Z3,Z4,Z5] "names" (ae 0) (ae 3))
 (gQ [Z1,Z2,Z3,Z4,Z5] "anchor" (ae 0) (ae 4)))
def eJ(Z1 Z2 Z3 Z4 Z5:Addr)(hw:List aN->Int):dg:=sSeq (bx 1 (bG dO (ae 0) (eC (.int 0))))
 (sSeq (bx 2 (bG dO (ae 0) (eC (.int 1))))
 (sSeq (bx 3 (bG dO (ae 0) (eC (.int 2))))
 (sSeq (mG (d5 (ix xS (bG dO (ae 3) (eC (.int 0))) (eC (.str "put")))) (dJ (nG Z2 (a_ Z1 Z2 Z3 Z4 Z5 hw) [] (af (ae 1) (af (ae 2) (af (bG dO (ae 3) (eC (.int 1))) (af (bG dO (ae 3) (eC (.int 2))) (az))))))) (dq))
 (sSeq (mG (d5 (ix xS (bG dO (ae 3) (eC (.int 0))) (eC (.str "strike")))) (dJ (nG Z3 (aM Z1 Z2 Z3 Z4 Z5 hw) [] (af (ae 1) (af (ae 2) (af (bG dO (ae 3) (eC (.int 1))) (az)))))) (dq))
 (sSeq (mG (d5 (ix xS (bG dO (ae 3) (eC (.int 0))) (eC (.str "dress")))) (dJ (nG Z4 (aP Z1 Z2 Z3 Z4 Z5 hw) [] (af (ae 1) (af (ae 2) (af (bG dO (ae 3) (eC (.int 1))) (af (bG dO (ae 3) (eC (.int 2))) (az))))))) (dq))
 (dJ (nG Z5 (aU Z1 Z2 Z3 Z4 Z5 hw) [] (af (ae 1) (af (ae 2) (af (bG dO (ae 3) (eC (.int 1))) (af (bG dO (ae 3) (eC (.int 2))) (az))))))))))))
def gc(Z1 Z2 Z3 Z4 Z5:Addr)(hw:List aN->Int):dg:=sSeq (vW 1 (jt (az)))
 (sSeq (bx 2 (tJ hw (ae 0) (eC k_START)))
 (sSeq (ud (d5 (bG sM (ae 2) (eC .non))) (sSeq (gx (im (ae 1) (af (ae 2) (az))))
 (bx 2 (tJ hw (ae 0) (ae 2)))))
 (fq 1)))
def c6(Z1 Z2 Z3 Z4 Z5:Addr)(hw:List aN->Int):dg:=dJ (jt (az))
def eP(Z1 Z2 Z3 Z4 Z5:Addr)(hw:List aN->Int):dg:=dJ (bD (aV Z1 Z2 Z3 Z4 Z5 hw) [] (af (fE [Z1,Z2,Z3,Z4,Z5] "name" (ae 0)) (af (eB iZ (af (fE [Z1,Z2,Z3,Z4,Z5] "signs" (ae 0)) (az))) (az))))
def dX(Z1 Z2 Z3 Z4 Z5:Addr)(hw:List aN->Int):dg:=dJ (bD (aV Z1 Z2 Z3 Z4 Z5 hw) [] (af (fE [Z1,Z2,Z3,Z4,Z5] "name" (ae 0)) (af (eB iZ (af (fE [Z1,Z2,Z3,Z4,Z5] "names" (ae 0)) (az))) (az))))
def fw(Z1 Z2 Z3 Z4 Z5:Addr)(hw:List aN->Int):dg:=sSeq (bx 2 (uX hw (eC k_START) (eC .non)))
 (sSeq (gx (bD (bq Z1 Z2 Z3 Z4 Z5 hw) [] (af (ae 2) (af (eC k_START) (af (bD (bu Z1 Z2 Z3 Z4 Z5 hw) [] (af (ae 0) (az))) (az))))))
 (sSeq (fZ (eX (eV 1 (eX (bD (bI Z1 Z2 Z3 Z4 Z5 hw) [] (af (ae 1) (az)))) (gN 0) (iC) (bD (br Z1 Z2 Z3 Z4 Z5 hw) [] (af (ae 0) (az))))) (gN 3) (mG (d5 (rD hw (fE [Z1,Z2,Z3,Z4,Z5] "anchor" (ae 3)) (ae 2))) (gx (bD (bq Z1 Z2 Z3 Z4 Z5 hw) [] (af (ae 2) (af (fE [Z1,Z2,Z3,Z4,Z5] "anchor" (ae 3)) (af (fi [(Z1,ai Z1 Z2 Z3 Z4 Z5 hw),(Z2,aO Z1 Z2 Z3 Z4 Z5 hw),(Z3,ai Z1 Z2 Z3 Z4 Z5 hw),(Z4,ai Z1 Z2 Z3 Z4 Z5 hw),(Z5,aI Z1 Z2 Z3 Z4 Z5 hw)] "slots" [] (ae 3) az) (az)))))) (dq)))
 (dJ (bD (cE Z1 Z2 Z3 Z4 Z5 hw) [] (af (ae 2) (az))))))
def gT(Z1 Z2 Z3 Z4 Z5:Addr)(hw:List aN->Int):dg:=dJ (uW hw (eV 1 (eX (ae 0)) (gN 0) (iC) (fU (af (ae 0) (af (eC (.bl true)) (az))))))
def eL(Z1 Z2 Z3 Z4 Z5:Addr)(hw:List aN->Int):dg:=dJ (eB vF (af (eV 1 (eX (fi [(Z1,ai Z1 Z2 Z3 Z4 Z5 hw),(Z2,aO Z1 Z2 Z3 Z4 Z5 hw),(Z3,ai Z1 Z2 Z3 Z4 Z5 hw),(Z4,ai Z1 Z2 Z3 Z4 Z5 hw),(Z5,aI Z1 Z2 Z3 Z4 Z5 hw)] "slots" [] (ae 0) az)) (gN 0) (iC) (rD hw (ae 0) (ae 2))) (az)))
def eM(Z1 Z2 Z3 Z4 Z5:Addr)(hw:List aN->Int):dg:=sSeq (bx 3 (bD (cr Z1 Z2 Z3 Z4 Z5 hw) [] (af (ae 1) (az))))
 (sSeq (bx 4 (eV 1 (eX (bD (bI Z1 Z2 Z3 Z4 Z5 hw) [] (af (ae 0) (az)))) (gN 0) (d5 (rD hw (bG dO (ae 0) (eC (.int 0))) (ae 4))) (bD (br Z1 Z2 Z3 Z4 Z5 hw) [] (af (ae 0) (az)))))
 (dJ (eV 1 (eX (ae 4)) (gN 0) (p9 (bD (bO Z1 Z2 Z3 Z4 Z5 hw) [] (af (ae 0) (af (ae 3) (az))))) (ae 0))))
def cN(Z1 Z2 Z3 Z4 Z5:Addr)(hw:List aN->Int):dg:=sSeq (bx 2 (uV hw (af (bD (bu Z1 Z2 Z3 Z4 Z5 hw) [] (af (ae 0) (az))) (af (ae 0) (az)))))
 (sSeq (fZ (eX (ae 1)) (gN 3) (mG (p9 (eB (rP [(Z1,false),(Z2,true),(Z3,false),(Z4,false),(Z5,false)] Z2) (af (ae 3) (af (eC (.ref Z2)) az)))) (fZ (wB (af (fi [(Z1,ai Z1 Z2 Z3 Z4 Z5 hw),(Z2,aO Z1 Z2 Z3 Z4 Z5 hw),(Z3,ai Z1 Z2 Z3 Z4 Z5 hw),(Z4,ai Z1 Z2 Z3 Z4 Z5 hw),(Z5,aI Z1 Z2 Z3 Z4 Z5 hw)] "slots" [] (ae 3) az) (af (fE [Z1,Z2,Z3,Z4,Z5] "signs" (ae 3)) (az)))) (i7 2 (bX (gN 4) (bX (gN 5) (gY)))) (eY hw (ae 2) (ae 4) (ae 5))) (dq)))
 (dJ (ae 2)))
def cA(Z1 Z2 Z3 Z4 Z5:Addr)(hw:List aN->Int):dg:=dJ (eB pW (af (fE [Z1,Z2,Z3,Z4,Z5] "names" (ae 0)) (az)))
def cY(Z1 Z2 Z3 Z4 Z5:Addr)(hw:List aN->Int):dg:=sSeq (bx 1 (nH hw))
 (sSeq (fZ (eX (ae 0)) (gN 2) (mG (p9 (eB (rP [(Z1,false),(Z2,false),(Z3,true),(Z4,false),(Z5,false)] Z3) (af (ae 2) (af (eC (.ref Z3)) az)))) (fZ (eX (fi [(Z1,ab Z1 Z2 Z3 Z4 Z5 hw),(Z2,ab Z1 Z2 Z3 Z4 Z5 hw),(Z3,ab Z1 Z2 Z3 Z4 Z5 hw),(Z4,ab Z1 Z2 Z3 Z4 Z5 hw),(Z5,ab Z1 Z2 Z3 Z4 Z5 hw)] "touched" [] (ae 2) az)) (gN 3) (eY hw (ae 1) (ae 3) (eC (.bl true)))) (dq)))
 (dJ (ae 1)))
def du(Z1 Z2 Z3 Z4 Z5:Addr)(hw:List aN->Int):dg:=sSeq (bx 1 (nH hw))
 (sSeq (fZ (eX (ae 0)) (gN 2) (mG (p9 (eB (rP [(Z1,false),(Z2,false),(Z3,false),(Z4,false),(Z5,true)] Z5) (af (ae 2) (af (eC (.ref Z5)) az)))) (fZ (wB (af (fi [(Z1,ab Z1 Z2 Z3 Z4 Z5 hw),(Z2,ab Z1 Z2 Z3 Z4 Z5 hw),(Z3,ab Z1 Z2 Z3 Z4 Z5 hw),(Z4,ab Z1 Z2 Z3 Z4 Z5 hw),(Z5,ab Z1 Z2 Z3 Z4 Z5 hw)] "touched" [] (ae 2) az) (af (fi [(Z1,ai Z1 Z2 Z3 Z4 Z5 hw),(Z2,aO Z1 Z2 Z3 Z4 Z5 hw),(Z3,ai Z1 Z2 Z3 Z4 Z5 hw),(Z4,ai Z1 Z2 Z3 Z4 Z5 hw),(Z5,aI Z1 Z2 Z3 Z4 Z5 hw)] "slots" [] (ae 2) az) (az)))) (i7 2 (bX (gN 3) (bX (gN 4) (gY)))) (eY hw (ae 1) (ae 3) (ae 4))) (dq)))
 (dJ (ae 1)))
def dS(Z1 Z2 Z3 Z4 Z5:Addr)(hw:List aN->Int):dg:=sSeq (bx 1 (nH hw))
 (sSeq (fZ (eX (ae 0)) (gN 2) (mG (p9 (eB (rP [(Z1,false),(Z2,false),(Z3,false),(Z4,true),(Z5,false)] Z4) (af (ae 2) (af (eC (.ref Z4)) az)))) (fZ (eX (fi [(Z1,ab Z1 Z2 Z3 Z4 Z5 hw),(Z2,ab Z1 Z2 Z3 Z4 Z5 hw),(Z3,ab Z1 Z2 Z3 Z4 Z5 hw),(Z4,ab Z1 Z2 Z3 Z4 Z5 hw),(Z5,ab Z1 Z2 Z3 Z4 Z5 hw)] "touched" [] (ae 2) az)) (gN 3) (eY hw (ae 1) (ae 3) (fE [Z1,Z2,Z3,Z4,Z5] "word" (ae 2)))) (dq)))
 (dJ (ae 1)))
def gR(Z1 Z2 Z3 Z4 Z5:Addr)(hw:List aN->Int):dg:=sSeq (bx 3 (bD (bH Z1 Z2 Z3 Z4 Z5 hw) [] (af (ae 0) (af (ae 1) (az)))))
 (sSeq (bx 4 (bD (bP Z1 Z2 Z3 Z4 Z5 hw) [] (af (ae 1) (af (ae 2) (af (bD (cr Z1 Z2 Z3 Z4 Z5 hw) [] (af (ae 3) (az))) (az))))))
 (sSeq (bx 5 (bD (bb Z1 Z2 Z3 Z4 Z5 hw) [] (af (ae 0) (af (ae 4) (az)))))
 (sSeq (bx 6 (bD (bg Z1 Z2 Z3 Z4 Z5 hw) [] (af (ae 4) (az))))
 (sSeq (bx 7 (bD (bo Z1 Z2 Z3 Z4 Z5 hw) [] (af (ae 4) (az))))
 (sSeq (bx 8 (bD (bE Z1 Z2 Z3 Z4 Z5 hw) [] (af (ae 4) (az))))
 (sSeq (bx 9 (nH hw))
 (sSeq (xr (ae 5) (gN 10) (mG (d5 (j4 hw (ae 10) (ae 6))) (eY hw (ae 9) (kR hw (ae 7) (ae 10) (ae 10)) (ae 10)) (dq)))
 (sSeq (bx 11 (eV 1 (eX (ae 3)) (gN 0) (d5 (rD hw (ae 0) (ae 10))) (fU (af (ae 0) (af (tJ hw (ae 10) (ae 0)) (az))))))
 (dJ (eV 2 (eX (ae 11)) (i7 2 (bX (gN 0) (bX (gN 1) (gY)))) (iC) (fU (af (ae 0) (af (ae 1) (af (tJ hw (ae 7) (ae 1)) (af (kR hw (ae 10) (ae 1) (eC (.str ""))) (az))))))))))))))))
def eO(Z1 Z2 Z3 Z4 Z5:Addr)(hw:List aN->Int):dg:=sSeq (bx 3 (ae 0))
 (sSeq (fZ (eX (ae 1)) (i7 3 (bX (gN 4) (bX (gN 5) (bX (gN 6) (gY))))) (mG (o7 (d5 (ix xS (bG dO (ae 6) (eC (.int 0))) (eC (.str "move")))) (d5 (ix AC (ae 0) (bG dO (ae 6) (eC (.int 1)))))) (sSeq (bx 7 (fU (af (bG dO (ae 4) (eC (.int 0))) (af (bG dO (ae 4) (eC (.int 1))) (af (bG fQ (eC (.int 1)) (rC (bG dO (ae 6) (eC (.int 1))) (af (ae 0) (az)))) (az))))))
 (mG (d5 (ix AC (ae 7) (ae 2))) (bx 3 (ae 7)) (dq))) (dq)))
 (dJ (ae 3)))
def eN(Z1 Z2 Z3 Z4 Z5:Addr)(hw:List aN->Int):dg:=sSeq (bx 2 (eC (.str "")))
 (sSeq (fZ (eX (ae 1)) (i7 3 (bX (gN 3) (bX (gN 4) (bX (gN 5) (gY))))) (mG (o7 (d5 (ix xS (bG dO (ae 5) (eC (.int 0))) (eC (.str "dress")))) (d5 (ix AC (ae 0) (bG dO (ae 5) (eC (.int 1)))))) (bx 2 (bG dO (ae 5) (eC (.int 2)))) (dq)))
 (dJ (ae 2)))
def fy(Z1 Z2 Z3 Z4 Z5:Addr)(hw:List aN->Int):dg:=dJ (fU (af (bG dO (ae 0) (eC (.int 1))) (af (bG dO (bG dO (ae 0) (eC (.int 0))) (eC (.int 0))) (af (bG dO (bG dO (ae 0) (eC (.int 0))) (eC (.int 1))) (az)))))
def mM(Z1 Z2 Z3 Z4 Z5:Addr)(hw:List aN->Int):dg:=sSeq (bx 1 (bD (aZ Z1 Z2 Z3 Z4 Z5 hw) [] (af (ae 0) (af (eC (.int 0)) (az)))))
 (sSeq (bx 2 (Ae y9 (eC (.str "some old\ntxt")) (zJ) (ip (bG iu (ae 1) (eC (.int 13))))))
 (sSeq (bx 3 (Ae y9 (bG dO (jt (af (jt (af (eC (.str "ann")) (af (eC (.str "bob")) (af (eC (.str "cyd")) (az))))) (af (jt (af (eC (.str "a")) (af (eC (.str "ab")) (af (eC (.str "abc")) (az))))) (az)))) (bG iu (bG xT (ae 1) (eC (.int 13))) (eC (.int 2)))) (zJ) (ip (bG fQ (eC (.int 1)) (bG iu (bG xT (ae 1) (eC (.int 26))) (eC (.int 3)))))))
 (sSeq (bx 4 (bD (bh Z1 Z2 Z3 Z4 Z5 hw) [] (af (Ae y9 (ae 0) (ip (eC (.int 2))) (ip (eC (.int 34)))) (af (ae 3) (af (ae 2) (az))))))
 (sSeq (bx 5 (bD (bc Z1 Z2 Z3 Z4 Z5 hw) [] (af (ae 4) (af (bD (aZ Z1 Z2 Z3 Z4 Z5 hw) [] (af (ae 0) (af (eC (.int 1)) (az)))) (az)))))
 (sSeq (bx 6 (fU (af (eB pW (af (ae 4) (az))) (af (eB pW (af (ae 5) (az))) (az)))))
 (sSeq (bx 7 (bD (c9 Z1 Z2 Z3 Z4 Z5 hw) [] (af (ae 2) (af (bG dO (ae 6) (eC (.int 0))) (af (bG dO (ae 6) (eC (.int 1))) (az))))))
 (sSeq (mG (d5 (ix Cn (ae 6) (fU (af (ae 4) (af (ae 5) (az)))))) (dJ (eC (.bl false))) (dq))
 (sSeq (bx 8 (bD (bH Z1 Z2 Z3 Z4 Z5 hw) [] (af (ae 2) (af (ae 4) (az)))))
 (sSeq (bx 9 (eV 1 (eX (rB (bS Z1 Z2 Z3 Z4 Z5 hw) (ae 4))) (gN 0) (d5 (ix AC (bG dO (ae 0) (eC (.int 0))) (ae 6))) (ae 0)))
 (sSeq (fZ (eX (ae 7)) (i7 4 (bX (gN 10) (bX (gN 11) (bX (gN 12) (bX (gN 13) (gY)))))) (mG (xi (d5 (ix Cn (ae 10) (bD (bR Z1 Z2 Z3 Z4 Z5 hw) [] (af (ae 11) (af (ae 9) (af (ae 8) (az))))))) (d5 (ix Cn (ae 13) (bD (bQ Z1 Z2 Z3 Z4 Z5 hw) [] (af (ae 11) (af (ae 9) (az))))))) (dJ (eC (.bl false))) (dq)))
 (dJ (eC (.bl true)))))))))))))
theorem Dh{ns:List Int}(h:ns.length=8):∃ a b c d e f g k:Int,ns=[a,b,c,d,e,f,g,k]:=by
 match ns,h with
 | [a,b,c,d,e,f,g,k],_=>exact⟨a,b,c,d,e,f,g,k,rfl⟩
theorem Dz{a b c d e f g h:D}:g6 [a,b,c,d,e,f,g,h] 0=some a:=rfl
theorem Dy{a b c d e f g h:D}:g6 [a,b,c,d,e,f,g,h] 1=some b:=rfl
theorem Dx{a b c d e f g h:D}:g6 [a,b,c,d,e,f,g,h] 2=some c:=rfl
theorem Ds{a b c d e f g h:D}:g6 [a,b,c,d,e,f,g,h] 7=some h:=rfl
theorem Dw{a b c d e f g h:D}:g6 [a,b,c,d,e,f,g,h] 3=some d:=rfl
theorem Dv{a b c d e f g h:D}:g6 [a,b,c,d,e,f,g,h] 4=some e:=rfl
theorem Du{a b c d e f g h:D}:g6 [a,b,c,d,e,f,g,h] 5=some f:=rfl
theorem Dt{a b c d e f g h:D}:g6 [a,b,c,d,e,f,g,h] 6=some g:=rfl
def wl:String:="dq gx dJ CF Ba CI mG A_ bx vW fq Eg CH CG ae eC bG ix B5 Ez E7 Dj E8 B2 d5 o7 xi Cy p9 iC A2 fU jt az af fQ oI AD BF iu xT En uE Eo E4 C9 E5 xS Cn dO Ae zJ ip y9 eB iZ pW rO EB EC ED EE qR bD Dk nG Ey Dm im eV fZ eX B1 Et Es Ee fR pX wX gN i7 bX gY val fb List.map_cons List.map_nil List.replicate List.length_cons List.length_nil List.cons_append List.nil_append List.append_nil List.getElem?_cons_zero List.getElem?_cons_succ List.getElem?_nil List.set_cons_zero List.set_cons_succ List.set_nil Nat.reduceAdd Nat.reduceSub Nat.reduceLeDiff Nat.zero_add Option.some.injEq Option.map_some decide_eq_true_eq true_and and_true and_self if_true if_false Bool.false_eq_true reduceCtorEq List.cons.injEq GO.ins.injEq GO.lst.injEq D.lst.injEq D.fl.injEq exists_eq_left' exists_eq_left exists_eq' ax dF pl bj DK DJ DI DH DG DF AS AR AQ AO DE DD DC DB DA nH yx kR eY lb Dl Di B4 Em BG ir cj j1 s_ zW k_START BR zV BQ yf zU tx qZ tw oM qY q_ oO q0 ni oN tu qV tq oH qU oG ng oF ma m_ qX oK qW nh oJ Bool.not_true Bool.not_false fE gQ fi uX B3 rB uU Ep sM nj ud tJ rD j4 EF Dr if_true if_false uW uV wB e_ xr vF rP yw rC DU Di j4 kR ir C9 nu nt kP mf qp qv qo qu qm qt ql qr lV jQ tI tH oP rl rj v6 v8 v5 v7 qK mT nw nv kQ mh qq qw lW jR oU oT mi nA oR sF sH sE sG mU kB rp rm nz oQ uv ux uu uw on lX Dz Dy Dx Dw Dv Du Dt Ds aK bI aV av a_ aM aP aU br ai aO aI bu bq cE bH cr bO bP bb ab bg bo bE c9 aZ aY bh bc bS bR bQ"
local macro_rules | `(tactic| walk_at "st") => do let ls <- (("sSeq " ++ wl).splitOn " ").toArray.mapM (fun s => `(Lean.Parser.Tactic.simpLemma| $(Lean.mkIdent s.toName):term)); `(tactic| simp only [$ls,*, *])
local macro_rules | `(tactic| walk_at "s1") => do let ls <- (wl.splitOn " ").toArray.mapM (fun s => `(Lean.Parser.Tactic.simpLemma| $(Lean.mkIdent s.toName):term)); `(tactic| simp only [$ls,*, *])
theorem ite2{b:Bool}{p q:Prop}(h1:b=true->p)(h2:b=false->q):if b=true then p else q:=by
 cases b
 ·rw[if_neg (by decide)];exact h2 rfl
 ·rw[if_pos rfl];exact h1 rfl
theorem iteF{p q:Prop}(h:q):if (false:Bool)=true then p else q:=by rw[if_neg (by decide)];exact h
theorem iteT{p q:Prop}(h:p):if (true:Bool)=true then p else q:=by rw[if_pos rfl];exact h
theorem cU{a b:Int}(h:0 < b):0<=a % b/\a % b < b:=⟨Int.emod_nonneg _ (by walk_at "o"),Int.emod_lt_of_pos _ h⟩
theorem rQ{α:Type}[Inhabited α]{f:α->D}{xs:List α}{i:Int}(h0:0<=i)(h:i < xs.length):g6 (xs.map f) i=some (f (xs.getD i.toNat default)):=by
 rw[yI h0 (by rw[length_map];exact h)]
 have hi:i.toNat < xs.length:=by walk_at "o"
 simp[hi]
theorem pH{G:Gp}{p:Addr}{o:GO}(h:G p=none):fh (gset G p o) p=G:=by
 funext a
 by_cases e:a=p
 ·subst e;rw[dG,h]
 ·rw[dH e,aG e]
local macro_rules | `(tactic| walk_at "conds") => `(tactic| (repeat ((with_reducible refine And.intro ?cc ?_); (case cc => first | decide | omega | rfl))))
def bm(sp:eF)(rd:dg)(ns:List Str):Prop:=∀ ds G Q,sp ds G Q->rd { nx:=fun _ G'=>Q .non G',rt:=Q } (fb ns ds) G
def bn(sp:eF)(n:Nat):Prop:=∀ ds G Q,sp ds G Q->ds.length=n
theorem u8{k:Nat}{A:Around}(r:Room k A):A.units+8 < cLine:=by have:=r.un;omega
theorem u4{k:Nat}{A:Around}(r:Room k A):A.units+4 < cLine:=by have:=r.un;omega
theorem cf{P:Program}{w:World}{K:Frag}{mg:Str->Option Value}{base:Heap}{k:Nat}{x:Str}{f:Addr}{fd:FuncData}{ps:List Str}{sp:eF}(o:FnOk P w K mg base fk k f fd ps (aE K sp))(m:mg x=some (.ref f))(q:keepIn K (.ref f)=true)(b:e8 K fd ps []):Fn3 P w K mg base k x [] sp:=⟨_,_,_,[],[],o,m,q,b,.nil,fun _=>RDs.nil⟩
theorem gH{P:Program}{w:World}{K:Frag}{mg:Str->Option Value}{base:Heap}{k:Nat}{C:Addr}{x:Str}{f:Addr}{fd:FuncData}{ps:List Str}{sp:eF}(c:Cls K C)(o:FnOk P w K mg base fk k f fd ps (aE K sp))(m:Meth K C x f)(b:e8 K fd ps []):Mt3 P w K mg base k C x [] sp:=⟨c,_,_,_,[],[],o,m,b,.nil,fun _=>RDs.nil⟩
local macro_rules | `(tactic| walk_at "i") => `(tactic| first | exact Or.inl rfl | exact Or.inr rfl)
theorem iU(Z1 Z2 Z3 Z4 Z5:Addr)(hw:HW):bm (av Z1 Z2 Z3 Z4 Z5 hw) (b_ Z1 Z2 Z3 Z4 Z5 hw) ["self","name","time"]:=by
 intro ds G Q h;unfold av at h;split at h
 ·rename_i a d t;obtain⟨C,hC,hG,p,n,rfl,h⟩:=h;have hs:=aq;unfold b_;walk_at "st";walk_at "conds";exact h
 ·exact h.elim
theorem kj(Z1 Z2 Z3 Z4 Z5:Addr)(hw:HW):bm (a_ Z1 Z2 Z3 Z4 Z5 hw) (c7 Z1 Z2 Z3 Z4 Z5 hw) ["self","name","time","anchor","signs"]:=by
 intro ds G Q h;unfold a_ at h;split at h
 ·rename_i a d t b x;obtain⟨hG,p,n,s,rfl,rfl,h⟩:=h;have hs:=aq;have hc:Z2∈[Z1,Z2,Z3,Z4,Z5]:=by simp
  unfold c7;unfold Sl.d;walk_at "st";exact⟨Z2,hc,rfl,p,n,rfl,⟨hc,by decide⟩,⟨hc,by decide⟩,h⟩
 ·exact h.elim
theorem iV(Z1 Z2 Z3 Z4 Z5:Addr)(hw:HW):bm (aM Z1 Z2 Z3 Z4 Z5 hw) (cb Z1 Z2 Z3 Z4 Z5 hw) ["self","name","time","names"]:=by
 intro ds G Q h;unfold aM at h;split at h
 ·obtain⟨hG,p,n,rfl,h⟩:=h;have hs:=aq;have hc:Z3∈[Z1,Z2,Z3,Z4,Z5]:=by simp
  unfold cb;walk_at "st";exact⟨Z3,hc,rfl,p,n,rfl,⟨hc,by decide⟩,h⟩
 ·exact h.elim
theorem jh(Z1 Z2 Z3 Z4 Z5:Addr)(hw:HW):bm (aP Z1 Z2 Z3 Z4 Z5 hw) (cB Z1 Z2 Z3 Z4 Z5 hw) ["self","name","time","names","word"]:=by
 intro ds G Q h;unfold aP at h;split at h
 ·obtain⟨hG,p,n,rfl,h⟩:=h;have hs:=aq;have hc:Z4∈[Z1,Z2,Z3,Z4,Z5]:=by simp
  unfold cB;walk_at "st";exact⟨Z4,hc,rfl,p,n,rfl,⟨hc,by decide⟩,⟨hc,by decide⟩,h⟩
 ·exact h.elim
theorem jI(Z1 Z2 Z3 Z4 Z5:Addr)(hw:HW):bm (aU Z1 Z2 Z3 Z4 Z5 hw) (cP Z1 Z2 Z3 Z4 Z5 hw) ["self","name","time","names","anchor"]:=by
 intro ds G Q h;unfold aU at h;split at h
 ·obtain⟨hG,p,n,s,rfl,rfl,h⟩:=h;have hs:=aq;have hc:Z5∈[Z1,Z2,Z3,Z4,Z5]:=by simp
  unfold cP;unfold Sl.d;walk_at "st";exact⟨Z5,hc,rfl,p,n,rfl,⟨hc,by decide⟩,⟨hc,by decide⟩,h⟩
 ·exact h.elim
theorem mI(Z1 Z2 Z3 Z4 Z5:Addr)(hw:HW):bm (aV Z1 Z2 Z3 Z4 Z5 hw) (dU Z1 Z2 Z3 Z4 Z5 hw) ["name","how_many"]:=by
 intro ds G Q h;unfold aV at h;split at h
 ·rename_i p n m;obtain⟨⟨h1,h2⟩,h⟩:=h;have hs:=aq;unfold dU;walk_at "s1";refine⟨⟨by walk_at "o",by walk_at "o",by walk_at "o",by walk_at "o"⟩,fF (fun d=>match d with|.int k=>.tup [.str p,.int n,.int k]|d=>d) (by rw[bY];omega) (fun d hd P hP=>?_) ?_⟩
  ·obtain⟨k,hk,rfl⟩:=mem_map.mp hd;walk_at "st";exact⟨rfl,by walk_at "o",by simp,by walk_at "o",hP _ rfl⟩
  ·have e:(d6 1 (m+1 - 1).toNat).map (fun d=>match d with|D.int k=>D.tup [.str p,.int n,.int k]|d=>d)=(aQ p n m.toNat).map Sl.d:=by
    unfold d6 aQ;rw[map_map,map_map,show m+1 - 1=m by walk_at "o"]
    refine map_congr_left fun k _=>?_;simp only[Function.comp,Sl.d];rw[Int.add_comm]
   rw[e];exact h
 ·exact h.elim
theorem nY(Z1 Z2 Z3 Z4 Z5:Addr)(hw:HW):bm (bu Z1 Z2 Z3 Z4 Z5 hw) (eK Z1 Z2 Z3 Z4 Z5 hw) ["old"]:=by
 intro ds G Q h;unfold bu at h;split at h
 ·rename_i x;obtain⟨h1,h⟩:=h;have hs:=aq;unfold eK;have ec:L3.cutD [D.str (Str.ofString ""),D.int 0,D.int 0] none (some 2)=[D.str (Str.ofString ""),D.int 0]:=by rw[vA (by decide)];rfl
  walk_at "st";refine⟨by decide,by walk_at "o",⟨by walk_at "o",by walk_at "o"⟩,?_⟩
  rw[Int.toNat_natCast];exact h
 ·exact h.elim
theorem kh(Z1 Z2 Z3 Z4 Z5:Addr)(hw:HW):bm (ai Z1 Z2 Z3 Z4 Z5 hw) (c6 Z1 Z2 Z3 Z4 Z5 hw) ["self"]:=by
 intro ds G Q h;unfold ai at h;split at h
 ·have hs:=aq;unfold c6;walk_at "st"
  first|exact⟨by walk_at "o",h⟩|omega
 ·exact h.elim
theorem oa(Z1 Z2 Z3 Z4 Z5:Addr)(hw:HW):bm (aO Z1 Z2 Z3 Z4 Z5 hw) (eP Z1 Z2 Z3 Z4 Z5 hw) ["self"]:=by
 intro ds G Q h;unfold aO at h;split at h
 ·rename_i a;obtain⟨s,b,x,⟨e,hG,hl⟩,h⟩:=h;have hs:=aq;have hc:Z2∈[Z1,Z2,Z3,Z4,Z5]:=by simp
  unfold bV at hG;rw[e]at hG;unfold eP;walk_at "st";refine⟨by walk_at "o",⟨by walk_at "o",by walk_at "o"⟩,?_⟩
  rw[Int.toNat_natCast];unfold made at h;rw[e]at h;exact h
 ·exact h.elim
theorem mK(Z1 Z2 Z3 Z4 Z5:Addr)(hw:HW):bm (aI Z1 Z2 Z3 Z4 Z5 hw) (dX Z1 Z2 Z3 Z4 Z5 hw) ["self"]:=by
 intro ds G Q h;unfold aI at h;split at h
 ·rename_i a;obtain⟨s,b,ns,⟨e,hG,hl⟩,h⟩:=h;have hs:=aq;have hc:Z5∈[Z1,Z2,Z3,Z4,Z5]:=by simp
  unfold bV at hG;rw[e]at hG;unfold dX;walk_at "st";rw[length_map];refine⟨⟨by walk_at "o",by walk_at "o"⟩,?_⟩
  rw[Int.toNat_natCast];unfold made at h;rw[e]at h;exact h
 ·exact h.elim
theorem de{a b:String}(h:Str.ofString a≠Str.ofString b):dZ (.str (Str.ofString a)) (.str (Str.ofString b))=false:=bA fun z=>h (by injection z)
theorem nX(Z1 Z2 Z3 Z4 Z5:Addr)(hw:HW):bm (br Z1 Z2 Z3 Z4 Z5 hw) (eJ Z1 Z2 Z3 Z4 Z5 hw) ["row","name","time","act"]:=by
 intro ds G Q h;unfold br at h;split at h
 ·obtain⟨⟨pen,num,time,act⟩,rfl,h⟩:=h;have hs:=aq;unfold bV at h;unfold eJ Sk.d;cases act with
  | put a x=>
   unfold Act.d;dsimp only at h;rw[ag];walk_at "s1";rw[ag];walk_at "s1";rw[ag];walk_at "s1";rw[ag];unfold Sl.d at h;unfold Sl.d;walk_at "s1";exact fun p hp=>⟨pen,num,a,rfl,rfl,h p hp⟩
  | strike ns=>
   unfold Act.d;dsimp only at h;rw[ag];walk_at "s1";rw[ag];walk_at "s1";rw[ag];walk_at "s1";have e0:=de (a:="strike") (b:="put") (by decide +kernel)
   rw[ag];refine be false (fun K hK=>?_) (iteF ?_)
   ·walk_at "st"
   ·simp only[dq];rw[ag];walk_at "s1";exact fun p hp=>⟨pen,num,rfl,h p hp⟩
  | dress ns w=>
   unfold Act.d;dsimp only at h;rw[ag];walk_at "s1";rw[ag];walk_at "s1";rw[ag];walk_at "s1";have e0:=de (a:="dress") (b:="put") (by decide +kernel)
   have e1:=de (a:="dress") (b:="strike") (by decide +kernel)
   rw[ag];refine be false (fun K hK=>?_) (iteF ?_)
   ·walk_at "st"
   ·simp only[dq];rw[ag];refine be false (fun K hK=>?_) (iteF ?_)
    ·walk_at "st"
    ·simp only[dq];rw[ag];walk_at "s1";exact fun p hp=>⟨pen,num,rfl,h p hp⟩
  | move ns a=>
   unfold Act.d;dsimp only at h;rw[ag];walk_at "s1";rw[ag];walk_at "s1";rw[ag];walk_at "s1";have e0:=de (a:="move") (b:="put") (by decide +kernel)
   have e1:=de (a:="move") (b:="strike") (by decide +kernel)
   have e2:=de (a:="move") (b:="dress") (by decide +kernel)
   rw[ag];refine be false (fun K hK=>?_) (iteF ?_)
   ·walk_at "st"
   ·simp only[dq];rw[ag];refine be false (fun K hK=>?_) (iteF ?_)
    ·walk_at "st"
    ·simp only[dq];rw[ag];refine be false (fun K hK=>?_) (iteF ?_)
     ·walk_at "st"
     ·simp only[dq];unfold Sl.d at h;unfold Sl.d;walk_at "s1";exact fun p hp=>⟨pen,num,a,rfl,rfl,h p hp⟩
 ·exact h.elim
theorem jf(Z1 Z2 Z3 Z4 Z5:Addr)(hw:HW):bm (aK Z1 Z2 Z3 Z4 Z5 hw) (cz Z1 Z2 Z3 Z4 Z5 hw) ["row"]:=by
 intro ds G Q h;unfold aK at h;split at h
 ·obtain⟨r,rfl,h⟩:=h;have hs:=aq;unfold cz Rw.d;walk_at "st"
  first|exact⟨by walk_at "o",h⟩|omega
 ·exact h.elim
def E1(hw:List aN->Int)(G:Gp)(p:Addr)(ss W:List Sl)(b:Sl)(a:D)(i:Nat)(σ:fH)(G':Gp):Prop:=∃ (x4:Option D) (Wi:List Sl) (bi:Sl) (kvs:List (List aN×D)),σ=[some (.ref p),some a,some (.lst (ss.map Sl.d)),some bi.d,x4]/\G'=gset G p (.dT hw kvs)/\wS kvs Wi/\bi∈Wi/\(∀ x∈ss.drop i,x∉Wi)/\bM Wi bi (ss.drop i)=bM W b ss/\Wi.length=W.length+i
theorem mJ(Z1 Z2 Z3 Z4 Z5:Addr)(hw:HW):bm (bq Z1 Z2 Z3 Z4 Z5 hw) (dW Z1 Z2 Z3 Z4 Z5 hw) ["following","anchor","slots","behind","slot"]:=by
 intro ds G Q h;unfold bq at h;split at h
 ·rename_i p a xs;obtain⟨b,ss,W,kvs,⟨rfl,rfl,hG,hF,hb,nd,hf,hl⟩,h⟩:=h;have hs:=aq;unfold dW;rw[ag];have eb:(match b.d with|D.fl ds=>D.lst ds|d=>d)=b.d:=rfl
  simp only[bx,ae,fb,val,map_cons,map_nil,cons_append,nil_append,List.replicate,getElem?_cons_zero,getElem?_cons_succ,length_cons,length_nil,set_cons_zero,set_cons_succ,Nat.reduceAdd,Nat.reduceSub,eb];refine⟨E1 hw G p ss W b b.d,⟨_,W,b,kvs,rfl,?_,hF,hb,hf,rfl,rfl⟩,?_,?_⟩
  ·funext z
   by_cases e:z=p
   ·subst e;rw[ax];exact hG
   ·rw[aG e]
  ·rintro i d σ G' hd ⟨x4,Wi,bi,kvs,rfl,rfl,hF,hb,hf,hI,hlen⟩
   rw[getElem?_map]at hd;cases hx:ss[i]? with
   | none=>rw[hx]at hd;cases hd
   | some x=>
    rw[hx]at hd;cases hd;obtain⟨hi,ex⟩:=List.getElem?_eq_some_iff.mp hx;have dr:ss.drop i=x::ss.drop (i+1):=by rw[<- ex];exact List.drop_eq_getElem_cons hi
    rw[dr]at hf hI;have hxW:=hf x mem_cons_self;have fs:=yt hF hb hxW;have lk:=hF.2.2.2 bi hb;have lx:=hF.2.2.1 x hxW;have nx1:=hF.2.1;have nd':(x::ss.drop (i+1)).Nodup:=by rw[<- dr];exact nd.sublist (List.drop_sublist _ _)
    rw[nodup_cons]at nd';simp only[gN,set_cons_succ,set_cons_zero];have kx:=qS x;have kb:=qS bi;have vx:val x.d=x.d:=rfl;have vb:val bi.d=bi.d:=rfl;rw[ag];show ∃ d,cj hw (gset G p (.dT hw kvs)) (.ref p) bi.d (some d)/\lb hw (.ref p) x.d (val d) (gset G p (.dT hw kvs)) _
    refine⟨nx Wi bi,?_,?_⟩
    ·show (match gset G p (.dT hw kvs) p with|some (.dT hw' kvs)=>hw'=hw/\∃ ks,j1 bi.d=some ks/\some (nx Wi bi)=dN kvs ks|some (.dK kvs)=>_|_=>False)
     rw[ax];exact⟨rfl,bi.key,kb,lk.symm⟩
    ·rw[BH];show (match gset G p (.dT hw kvs) p with|some (.dT hw' kvs)=>hw'=hw/\∃ ks,j1 x.d=some ks/\kvs.length < sizeLine/\_|some (.dK kvs)=>_|some (.lst ds)=>_|_=>False)
     rw[ax];refine⟨rfl,x.key,kx,by walk_at "o",?_⟩
     rw[dF];dsimp only;rw[ag];show (match gset G p (.dT hw (cm kvs x.key (nx Wi bi))) p with|some (.dT hw' kvs)=>hw'=hw/\∃ ks,j1 bi.d=some ks/\kvs.length < sizeLine/\_|some (.dK kvs)=>_|some (.lst ds)=>_|_=>False)
     rw[ax];refine⟨rfl,bi.key,kb,by have:=fB kvs x.key (nx Wi bi);omega,?_⟩
     rw[dF];refine⟨_,iw Wi bi x,x,_,rfl,rfl,fs,(eU hb x).mpr (.inr rfl),fun y hy hW=>?_,?_,by rw[iJ hb];omega⟩
     ·rcases (eU hb y).mp hW with z|z
      ·exact hf y (mem_cons_of_mem _ hy) z
      ·exact nd'.1 (z ▸ hy)
     ·exact hI
  ·rintro σ G' ⟨x4,Wi,bi,kvs,rfl,rfl,hF,hb,hf,hI,hlen⟩
   rw[length_map,List.drop_length]at hI;have:Wi=bM W b ss:=hI;rw[this]at hF;exact h _ hF
 ·exact h.elim
def ER(G:Gp)(p q:Addr)(R:List Sl)(m:Nat)(σ:fH)(G':Gp):Prop:=∃ i,i<=R.length/\m=R.length - i/\σ=[some (.ref p),some (.ref q),some (wV (R.drop i))]/\G'=gset G q (.lst ((R.take i).map Sl.d))
theorem C_{W:List Sl}(hW:W.Nodup):∀ {pre post:List Sl} {c:Sl},W=pre ++ c::post->nx W c=wV post:=by
 induction W with
 | nil=>intro pre post c h;simp at h
 | cons a t ih=>
  intro pre post c h;rw[nodup_cons]at hW;cases pre with
  | nil=>
   simp only[nil_append,List.cons.injEq]at h;obtain⟨rfl,rfl⟩:=h;simp[nx]
  | cons a' pre=>
   simp only[cons_append,List.cons.injEq]at h;obtain⟨rfl,h⟩:=h;have hc:c∈t:=by rw[h];simp
   simp only[nx];rw[if_neg (fun (z:a=c)=>hW.1 (by rw[z];exact hc))]
   exact ih hW.2 h
theorem sv(Z1 Z2 Z3 Z4 Z5:Addr)(hw:HW):bm (cE Z1 Z2 Z3 Z4 Z5 hw) (gc Z1 Z2 Z3 Z4 Z5 hw) ["following","row","slot"]:=by
 intro ds G Q h;unfold cE at h;split at h
 ·rename_i p;obtain⟨R,kvs,⟨hG,hF,hl⟩,h⟩:=h;have hs:=aq;unfold gc;rw[ag];walk_at "s1";refine⟨by walk_at "o",fun q hq=>?_⟩
  have hpq:p≠q:=fun z=>by subst z;rw[hG]at hq;cases hq
  have gp:∀ o,gset G q o p=some (.dT hw kvs):=fun o=>by rw[aG hpq];exact hG
  have look:∀ c∈aA::R,∀ o,cj hw (gset G q o) (.ref p) c.d (some (nx (aA::R) c)):=fun c hc o=>by
   show (match gset G q o p with|some (.dT hw' kvs)=>hw'=hw/\∃ ks,j1 c.d=some ks/\some (nx (aA::R) c)=dN kvs ks|some (.dK kvs)=>_|_=>False)
   rw[gp];exact⟨rfl,c.key,qS c,(hF.2.2.2 c hc).symm⟩
  rw[ag];show ∃ d,cj hw (gset G q (.lst [])) (.ref p) aA.d (some d)/\_
  refine⟨_,look aA (by simp) _,?_⟩
  have e0:nx (aA::R) aA=wV R:=by simp[nx]
  dsimp only;rw[ag,e0,qI];simp only[set_cons_succ,set_cons_zero];refine⟨ER G p q R,⟨R.length,0,zero_le _,rfl,rfl,rfl⟩,?_⟩;have wc:∀ (a b:Option D) (d:D) (K:Bool->Gp->Prop) (G:Gp),d5 (bG sM (ae 2) (eC .non)) [a,b,some d] G K↔K (!nj d) G:=fun a b d K G=>Iff.rfl
  rintro m σ G' ⟨i,hi,rfl,rfl,rfl⟩
  by_cases hlt:i < R.length
  ·have dr:R.drop i=R[i]::R.drop (i+1):=List.drop_eq_getElem_cons hlt;rw[dr];refine (wc _ _ (R[i]).d _ _).mpr ?_;dsimp only;rw[show (!nj (R[i]).d)=true from rfl,if_pos rfl]
   have e1:nx (aA::R) R[i]=wV (R.drop (i+1)):=C_ hF.1 (pre:=aA::R.take i) (by rw[cons_append];congr 1;rw[<- dr];exact (List.take_append_drop i R).symm)
   refine⟨fun σ G'=>ER G p q R (R.length - (i+1)) σ G',fun σ2 G2 hN=>⟨_,by walk_at "o",hN⟩,?_⟩
   rw[ag];have ua:∀ (E:Ends3) (Z:D),gx (im (ae 1) (af (ae 2) az)) E [some (.ref p),some (.ref q),some (R[i]).d] (gset G q (.lst ((R.take i).map Sl.d)))↔((R.take i).map Sl.d).length < sizeLine/\E.nx [some (.ref p),some (.ref q),some (R[i]).d] (gset G q (.lst ((R.take i).map Sl.d ++ [(R[i]).d]))):=fun E Z=>by
    unfold Sl.d;walk_at "s1"
   rw[show wV (R[i]::R.drop (i+1))=(R[i]).d from rfl,ua _ .non]
   refine⟨by rw[length_map,length_take];omega,?_⟩
   dsimp only;show ∃ d,cj hw (gset G q _) (.ref p) (R[i]).d (some d)/\_
   refine⟨_,look R[i] (by simp) _,i+1,by walk_at "o",rfl,?_,?_⟩
   ·rw[e1,qI];rfl
   ·rw[take_add_one,getElem?_eq_getElem hlt,map_append];rfl
  ·have ei:i=R.length:=by walk_at "o"
   subst ei;rw[List.drop_length,take_length];refine (wc _ _ .non _ _).mpr ?_;dsimp only;rw[show (!nj D.non)=false from rfl,if_neg (by decide)]
   show fq 1 _ _ _
   simp only[fq,getElem?_cons_succ,getElem?_cons_zero,ax];rw[pH hq];exact h
 ·exact h.elim
theorem yW(vs:List Rw):(vs.map kJ).map (·.2)=vs.map Rw.d:=by rw[map_map];rfl
theorem uh{rs:List Rw}{i:Nat}{d:D}(h:(rs.map Rw.d)[i]?=some d):∃ r,rs[i]?=some r/\d=r.d:=by
 rw[getElem?_map]at h;cases e:rs[i]? with
 | none=>rw[e]at h;cases h
 | some r=>rw[e]at h;cases h;exact⟨r,rfl,rfl⟩
theorem key_at{rs:List Rw}{i:Nat}{d:D}(h:(rs.map Rw.key)[i]?=some d):∃ r,rs[i]?=some r/\d=r.key:=by
 rw[getElem?_map]at h;cases e:rs[i]? with
 | none=>rw[e]at h;cases h
 | some r=>rw[e]at h;cases h;exact⟨r,rfl,rfl⟩
theorem y6(Z1 Z2 Z3 Z4 Z5:Addr)(hw:HW)(G:Gp){vs base:List Rw}(hv:vs.Pairwise e9)(hb:base.length < 64)(sub:∀ r∈vs,r∈base):
  SortBy (aK Z1 Z2 Z3 Z4 Z5 hw) G (vs.map Rw.d) (vs.map Rw.key) fun i=>PySem.W.rankIn Rw.lt vs (vs.getD i default) where
 few:=by
  rw[length_map];have:=gX (lK hv) sub;omega
 len:=by rw[length_map,length_map]
 key:=fun i d kd h1 h2=>by
  obtain⟨r,e1,rfl⟩:=uh h1;obtain⟨r',e2,rfl⟩:=key_at h2;rw[e1]at e2;cases e2;exact⟨r,rfl,rfl,rfl⟩
 ki:=fun d hd=>by
  obtain⟨r,_,rfl⟩:=mem_map.mp hd;exact⟨_,_,rfl⟩
 cp:=fun a ha b hb=>by
  obtain⟨r,_,rfl⟩:=mem_map.mp ha;obtain⟨r',_,rfl⟩:=mem_map.mp hb;exact BP r r'
 lt:=fun i j a b h1 h2=>by
  obtain⟨r,e1,rfl⟩:=key_at h1;obtain⟨r',e2,rfl⟩:=key_at h2;rw[BM,PySem.W.rank_lt ue (mem_of_getElem? e1),getD_eq_getElem?_getD,getD_eq_getElem?_getD,e1,e2];rfl
theorem qi(Z1 Z2 Z3 Z4 Z5:Addr)(hw:HW):bm (bI Z1 Z2 Z3 Z4 Z5 hw) (fx Z1 Z2 Z3 Z4 Z5 hw) ["rows","by_name","row"]:=by
 intro ds G Q h;unfold bI at h;split at h
 ·obtain⟨rs,base,⟨rfl,one,l1,l2,sub⟩,h⟩:=h;have hs:=aq;unfold fx;rw[ag];walk_at "s1";intro p hp;rw[ag];walk_at "s1";refine⟨fun i σ G'=>∃ (vs:List Rw) (v:Option D),(σ=[some (.lst (rs.map Rw.d)),some (.ref p),v]/\G'=gset G p (.dT hw (vs.map kJ)))/\vs.Pairwise e9/\∀ r,r∈vs↔r∈rs.take i,⟨[],none,⟨rfl,rfl⟩,.nil,by simp⟩,?_,?_⟩
  ·rintro i d σ G' hd ⟨vs,v,⟨rfl,rfl⟩,hv,hm⟩
   obtain⟨r,hr,rfl⟩:=uh hd;have hr':=mem_of_getElem? hr;have tk:∀ x,x∈rs.take (i+1)↔x∈rs.take i\/x=r:=fun x=>by
    rw[take_add_one,hr,mem_append];simp
   have lv:vs.length<=base.length:=gX (lK hv) fun x hx=>sub x (mem_of_mem_take ((hm x).mp hx));simp only[gN,set_cons_succ,set_cons_zero];have fin:∀ G2,G2=gset G p (.dT hw (cm (vs.map kJ) (lg r) r.d))->∃ (vs:List Rw) (v:Option D),(([some (D.lst (rs.map Rw.d)),some (.ref p),some r.d]:fH)=[some (.lst (rs.map Rw.d)),some (.ref p),v]/\G2=gset G p (.dT hw (vs.map kJ)))/\vs.Pairwise e9/\∀ x,x∈vs↔x∈rs.take (i+1):=by
    intro G2 e
    by_cases hin:r∈vs
    ·refine⟨vs,_,⟨rfl,?_⟩,hv,fun x=>?_⟩
     ·rw[e,Bh hin fun a ha pp nn=>one a (mem_of_mem_take ((hm a).mp ha)) r hr' pp nn]
     ·rw[tk,hm];constructor
      ·exact .inl
      ·rintro (z|rfl)
       ·exact z
       ·exact (hm _).mp hin
    ·have ap:∀ a∈vs,e9 a r:=fun a ha z=>hin (by
      have:=one a (mem_of_mem_take ((hm a).mp ha)) r hr' z.1 z.2;subst this;exact ha)
     refine⟨vs ++ [r],_,⟨rfl,?_⟩,?_,fun x=>?_⟩
     ·rw[e,put_new ap]
     ·rw[List.pairwise_append];exact⟨hv,List.pairwise_singleton _ _,fun a ha b hb=>by rw[mem_singleton.mp hb];exact ap a ha⟩
     ·rw[tk,mem_append,hm,mem_singleton]
   refine (show eY hw (ae 1) (bG dO (ae 2) (eC (.int 0))) (ae 2) _ [some (D.lst (rs.map Rw.d)),some (.ref p),some r.d] _ from ?_)
   show (match (gset G p (.dT hw (vs.map kJ))) p with
    | some (.dT hw' kvs)=>hw'=hw/\∃ ks,j1 (.tup [.str r.pen,.int r.num])=some ks/\kvs.length < sizeLine/\_
    | some (.dK kvs)=>_
    | some (.lst ds)=>_
    | _=>False)
   rw[ax];exact⟨rfl,lg r,rfl,by rw[length_map];omega,fin _ (by rw[dF];rfl)⟩
  ·rintro σ G' ⟨vs,v,⟨rfl,rfl⟩,hv,hm⟩
   rw[length_map,take_length]at hm;show (match (gset G p (.dT hw (vs.map kJ))) p with
    | some (.dT _ kvs)=>∃ ks r,SortBy (aK Z1 Z2 Z3 Z4 Z5 hw) (gset G p (.dT hw (vs.map kJ))) (kvs.map (·.2)) ks r/\∀ p':List Nat,p'.Perm (List.range (kvs.map (·.2)).length)->(p'.map r).Pairwise (·<=·)->Q (.fl (p'.map fun i=>(kvs.map (·.2)).getD i .non)) (gset G p (.dT hw (vs.map kJ)))
    | _=>False)
   rw[ax];dsimp only;rw[yW];refine⟨vs.map Rw.key,_,y6 Z1 Z2 Z3 Z4 Z5 hw _ hv l2 (fun r hr=>sub r ((hm r).mp hr)),fun q hq hsq=>?_⟩;rw[length_map]at hq;obtain⟨st,mem⟩:=sj hv hq hsq;have e:(q.map fun i=>(vs.map Rw.d).getD i .non)=(q.map fun i=>vs.getD i default).map Rw.d:=by
    rw[map_map];refine map_congr_left fun i hi=>?_;have li:i < vs.length:=mem_range.mp (hq.mem_iff.mp hi);simp[li]
   rw[e];exact h _ _ (io.refl.gset hp) st fun r=>(mem r).trans (hm r)
 ·exact h.elim
theorem uf{sks:List Sk}:∀ {out:List Rw},(∀ r∈out,r∈sks.map Sk.rw)->∃ o:List Sk,out=o.map Sk.rw/\∀ s∈o,s∈sks
 | [],_=>⟨[],rfl,fun s hs=>by simp at hs⟩
 | r::t,h=>by
  obtain⟨o,e,ho⟩:=uf fun x hx=>h x (mem_cons_of_mem _ hx);obtain⟨s,hs,er⟩:=mem_map.mp (h r mem_cons_self);refine⟨s::o,by rw[e,<- er];rfl,fun x hx=>?_⟩
  rcases mem_cons.mp hx with z|z
  ·rw[z];exact hs
  ·exact ho x z
theorem Act.d_inj{a b:Act}(h:a.d=b.d):a=b:=by
 have sl:∀ {xs ys:List Sl},xs.map Sl.d=ys.map Sl.d->xs=ys:=fun {xs ys} e=>List.map_inj_right (f:=Sl.d) (fun x y=>Sl.d_inj) |>.mp e
 have ne:∀ {x y:String},Str.ofString x≠Str.ofString y->D.str (Str.ofString x)≠D.str (Str.ofString y):=fun h z=>h (by injection z)
 cases a<;>cases b<;>simp only[Act.d,D.tup.injEq,List.cons.injEq,D.str.injEq,and_true,true_and,reduceCtorEq,and_false,false_and]at h
 ·obtain⟨h1,h2⟩:=h;rw[Sl.d_inj h1,h2]
 all_goals first
  | (exact absurd h (by decide +kernel))
  | (exact absurd h.1 (by decide +kernel))
  | skip
 ·rw[sl h]
 ·rw[sl h.1,h.2]
 ·rw[sl h.1,Sl.d_inj h.2]
theorem Sk.rw_inj{a b:Sk}(h:a.rw=b.rw):a=b:=by
 obtain⟨a1,a2,a3,a4⟩:=a;obtain⟨b1,b2,b3,b4⟩:=b;simp only[Sk.rw,Rw.mk.injEq]at h;obtain⟨rfl,rfl,rfl,h⟩:=h;rw[Act.d_inj h]
theorem nB(Z1 Z2 Z3 Z4 Z5:Addr)(hw:HW){σ:fH}{G:Gp}{p:Addr}{s:Sk}{i:Nat}{Q:oW}(hσ:σ[i]?=some (some (.ref p)))(hG:G p=some (bV Z1 Z2 Z3 Z4 Z5 s))(h:Q s.act.anch.d G):fE [Z1,Z2,Z3,Z4,Z5] "anchor" (ae i) σ G Q:=by
 obtain⟨pen,num,time,act⟩:=s;unfold fE ae;rw[hσ];cases act<;>(simp only[bV]at hG;simp only[hG];refine⟨by simp,?_⟩;first|exact h)
theorem ik(Z1 Z2 Z3 Z4 Z5:Addr)(hw:HW){σ:fH}{G:Gp}{p:Addr}{s:Sk}{i:Nat}{Q:oW}(hσ:σ[i]?=some (some (.ref p)))(hG:G p=some (bV Z1 Z2 Z3 Z4 Z5 s))(hm:s.act.many<=1000)(h:Q (.fl ((made s).map Sl.d)) G):
  fi [(Z1,ai Z1 Z2 Z3 Z4 Z5 hw),(Z2,aO Z1 Z2 Z3 Z4 Z5 hw),(Z3,ai Z1 Z2 Z3 Z4 Z5 hw),(Z4,ai Z1 Z2 Z3 Z4 Z5 hw),(Z5,aI Z1 Z2 Z3 Z4 Z5 hw)] "slots" [] (ae i) az σ G Q:=by
 obtain⟨pen,num,time,act⟩:=s;unfold fi ae;rw[hσ];cases act with
 | put a x=>
  have hG':=hG;simp only[bV]at hG;simp only[hG];exact⟨by decide +kernel,aO Z1 Z2 Z3 Z4 Z5 hw,by simp,⟨_,a,x,⟨rfl,hG',hm⟩,h⟩⟩
 | strike ns=>
  simp only[bV]at hG;simp only[hG];exact⟨by decide +kernel,ai Z1 Z2 Z3 Z4 Z5 hw,by simp,h⟩
 | dress ns w=>
  simp only[bV]at hG;simp only[hG];exact⟨by decide +kernel,ai Z1 Z2 Z3 Z4 Z5 hw,by simp,h⟩
 | move ns a=>
  have hG':=hG;simp only[bV]at hG;simp only[hG];exact⟨by decide +kernel,aI Z1 Z2 Z3 Z4 Z5 hw,by simp,⟨_,a,ns,⟨rfl,hG',hm⟩,h⟩⟩
def yM(Z1 Z2 Z3 Z4 Z5:Addr)(G:Gp)(ps:List Addr)(o:List Sk):Prop:=∀ (j:Nat) p s,ps[j]?=some p->o[j]?=some s->G p=some (bV Z1 Z2 Z3 Z4 Z5 s)
theorem pB(Z1 Z2 Z3 Z4 Z5:Addr)(s:Sk):∃ C L ds,bV Z1 Z2 Z3 Z4 Z5 s=.ins C L ds:=by
 obtain⟨pen,num,time,act⟩:=s;cases act<;>exact⟨_,_,_,rfl⟩
theorem mj(n:Nat):∀ (o:List Sk) (W:List Sl),(∀ s∈o,s.act.many<=1000)->(o.foldl cy W).length<=W.length+1000*o.length
 | [],W,_=>by simp
 | s::t,W,h=>by
  have h1:=h s mem_cons_self;have ih:=mj n t (cy W s) fun x hx=>h x (mem_cons_of_mem _ hx);have h2:(cy W s).length<=W.length+1000:=by
   unfold cy;split
   ·rename_i ha;rw[i6 ha];have:(made s).length=s.act.many:=bw _ _ _;omega
   ·omega
  simp only[foldl_cons,length_cons];omega
def E2(Z1 Z2 Z3 Z4 Z5:Addr)(hw:List aN->Int)(G:Gp)(f:Addr)(ps:List Addr)(o:List Sk)(n:Nat)(x0 x1:Option D)(i:Nat)(σ:fH)(G':Gp):Prop:=∃ (x3:Option D) (kvs:List (List aN×D)),σ=[x0,x1,some (.ref f),x3]/\io G G'/\yM Z1 Z2 Z3 Z4 Z5 G' ps o/\G' f=some (.dT hw kvs)/\wS kvs (je n (o.take i))
theorem qh(Z1 Z2 Z3 Z4 Z5:Addr)(hw:HW):bm (bH Z1 Z2 Z3 Z4 Z5 hw) (fw Z1 Z2 Z3 Z4 Z5 hw) ["old","strokes","following","stroke"]:=by
 intro ds G Q h;unfold bH at h;split at h
 ·rename_i x xs;obtain⟨sks,base,⟨rfl,hx,one,l1,l2,sub,ok⟩,h⟩:=h;have hs:=aq;unfold fw;rw[ag];show ∀ f,G f=none->(match gset G f (.dT hw []) f with|some (.dT hw' [])=>hw'=hw/\∃ ks,j1 aA.d=some ks/\_|_=>False)
  intro f hf;rw[ax];refine⟨rfl,aA.key,rfl,?_⟩;rw[dF];dsimp only;rw[ag];simp only[set_cons_succ,set_cons_zero,fb,map_cons,map_nil,cons_append,nil_append,List.replicate,length_cons,length_nil,Nat.reduceAdd,Nat.reduceSub];show x.length<=1000/\(∃ (b:Sl) (ss W:List Sl) (kvs:List (List aN×D)),(aA.d=b.d/\(fJ x.length).map Sl.d=ss.map Sl.d/\gset G f (.dT hw [(aA.key,.non)]) f=some (.dT hw kvs)/\wS kvs W/\b∈W/\ss.Nodup/\(∀ x∈ss,x∉W)/\W.length+ss.length<=900000)/\∀ kvs',wS kvs' (bM W b ss)->_)
  have ol:(fJ x.length).length=x.length:=bw _ _ _;refine⟨hx,aA,fJ x.length,[aA],_,⟨rfl,rfl,ax,wF (fun _=>True),by simp,dy _ _ _,fun y hy hW=>?_,by rw[ol];simp;omega⟩,fun kvs hF=>?_⟩
  ·obtain⟨_,_,hk⟩:=bv hy;rw[mem_singleton.mp hW]at hk;exact absurd hk (by decide)
  ·rw[dF];dsimp only;rw[ag];walk_at "s1";refine⟨sks.map Sk.rw,base.map Sk.rw,⟨by rw[map_map];rfl,one,by rw[length_map];exact l1,by rw[length_map];exact l2,fun r hr=>?_⟩,fun out G1 hE st mem=>?_⟩
   ·obtain⟨s,hs',rfl⟩:=mem_map.mp hr;exact mem_map.mpr ⟨s,sub s hs',rfl⟩
   obtain⟨o,rfl,ho⟩:=uf (sks:=sks) (out:=out) fun r hr=>(mem r).mp hr;have memo:∀ s,s∈o↔s∈sks:=fun s=>⟨ho s,fun hs'=>by
    obtain⟨s',h1,h2⟩:=mem_map.mp ((mem s.rw).mpr (mem_map.mpr ⟨s,hs',rfl⟩));rw[<- Sk.rw_inj h2];exact h1⟩
   have lo:o.length < 64:=by
    have:=gX (hX st) (ys:=base.map Sk.rw) fun r hr=>by
     obtain⟨s,hs',rfl⟩:=mem_map.mp hr;exact mem_map.mpr ⟨s,sub s (ho s hs'),rfl⟩
    rw[length_map,length_map]at this;omega
   have hG1:G1 f=some (.dT hw kvs):=hE f _ ax;have hE1:io G G1:=fun a o' ha=>hE a o' (by
    have:a≠f:=fun z=>by subst z;rw[hf]at ha;cases ha
    rw[aG this];exact ha)
   have dmap:(o.map Sk.rw).map Rw.d=o.map Sk.d:=by rw[map_map];rfl
   rw[dmap];refine⟨by rw[length_map];omega,fun i acc G2=>∃ ps:List Addr,ps.length=i/\acc=ps.map D.ref/\io G1 G2/\yM Z1 Z2 Z3 Z4 Z5 G2 ps o,⟨[],rfl,rfl,io.refl,fun j p s hj=>by simp at hj⟩,?_,?_⟩
   ·rintro i d acc G2 hd ⟨ps,rfl,rfl,hE2,hO⟩
    rw[getElem?_map]at hd;cases hsj:o[ps.length]? with
    | none=>rw[hsj]at hd;cases hd
    | some s=>
     rw[hsj]at hd;cases hd;refine⟨⟨by simp,rfl⟩,?_⟩
     show ∃ s':Sk,s.d=s'.d/\∀ p,G2 p=none->_
     refine⟨s,rfl,fun p hp=>⟨ps ++ [p],by simp,by rw[map_append];rfl,fun a o' ha=>?_,fun j q s' hj hs'=>?_⟩⟩
     ·have:a≠p:=fun z=>by subst z;rw[hE2 a o' ha]at hp;cases hp
      rw[aG this];exact hE2 a o' ha
     ·rw[List.getElem?_append]at hj;split at hj
      ·have h1:=hO j q s' hj hs';have:q≠p:=fun z=>by subst z;rw[h1]at hp;cases hp
       rw[aG this];exact h1
      ·rename_i hge;have hj0:j=ps.length:=by
        by_cases z:j - ps.length=0
        ·omega
        ·obtain⟨k,hk⟩:∃ k,j - ps.length=k+1:=⟨j - ps.length - 1,by walk_at "o"⟩
         rw[hk]at hj;simp at hj
       subst hj0;simp at hj;subst hj;rw[hsj]at hs';cases hs';exact ax
   ·rintro acc G2 ⟨ps,hl,rfl,hE2,hO⟩
    rw[length_map]at hl;show L3.ForIn _ _ _ _ (ps.map D.ref) G2
    refine⟨E2 Z1 Z2 Z3 Z4 Z5 hw G f ps o x.length (some (.str x)) (some (.lst (sks.map Sk.d))),⟨_,kvs,rfl,hE1.trans hE2,hO,hE2 f _ hG1,hF⟩,?_,?_⟩
    ·rintro i d σ G3 hd ⟨x3,kvs3,rfl,hE3,hO3,hf3,hF3⟩
     rw[getElem?_map]at hd;cases hpj:ps[i]? with
     | none=>rw[hpj]at hd;cases hd
     | some p=>
      rw[hpj]at hd;cases hd;have hil:i < o.length:=by have:=(List.getElem?_eq_some_iff.mp hpj).1;omega
      have hsi:o[i]?=some o[i]:=getElem?_eq_getElem hil;have hobj:=hO3 i p _ hpj hsi;have oks:=ok o[i] (ho _ (getElem_mem hil));have tk:o.take (i+1)=o.take i ++ [o[i]]:=by rw[take_add_one,hsi];rfl
      have fr:tW (o.take i) (je x.length (o.take i)):=by
       have:=tF x.length (o.take i) [] _ (nr x.length)
       simpa[je]using this
      have apart:∀ r∈o.take i,¬ (r.pen=(o[i]).pen/\r.num=(o[i]).num):=fun r hr z=>by
       obtain⟨j,hj,er⟩:=List.mem_iff_getElem.mp hr;rw[length_take]at hj;rw[List.getElem_take]at er;have hji:j < i:=by walk_at "o"
       have st':∀ a b:Nat,(ha:a < (o.map Sk.rw).length)->(hb:b < (o.map Sk.rw).length)->a < b->((o.map Sk.rw)[a]).lt (o.map Sk.rw)[b]=true:=fun a b ha hb hab=>List.pairwise_iff_getElem.mp st a b ha hb hab;have:=st' j i (by rw[length_map];omega) (by rw[length_map];omega) hji
       rw[List.getElem_map,List.getElem_map,er]at this;have one':=one (o[i]).rw (mem_map.mpr ⟨_,ho _ (getElem_mem hil),rfl⟩) r.rw (mem_map.mpr ⟨_,ho _ (er ▸ getElem_mem (by walk_at "o")),rfl⟩) z.1.symm z.2.symm
       rw[one',lt_irrefl]at this;cases this
      have fresh:=tG fr oks.1 apart;have wl:=mj x.length (o.take i) (bM [aA] aA (fJ x.length)) fun s hs'=>(ok s (ho s (mem_of_mem_take hs'))).2;rw[dz]at wl;have wl2:(je x.length (o.take i)).length<=100000:=by
       have e1:je x.length (o.take i)=(o.take i).foldl cy (aA::fJ x.length):=by unfold je;rw[dz]
       rw[e1];rw[length_take,length_cons,ol]at wl;omega
      generalize o[i]=s at *
      simp only[gN,set_cons_succ,set_cons_zero];have nf:f≠p:=fun z=>by subst z;obtain⟨C,L,ds,e⟩:=pB Z1 Z2 Z3 Z4 Z5 s;rw[hf3,e]at hobj;cases hobj
      refine be (decide (s.act.anch∈je x.length (o.take i))) (fun K hK=>?_) (ite2 (fun hin=>?_) fun hout=>?_)
      ·unfold d5 rD;refine nB Z1 Z2 Z3 Z4 Z5 hw (p:=p) (i:=3) rfl hobj ?_;show ∃ r,cj hw G3 (.ref f) s.act.anch.d r/\_
       refine⟨dN kvs3 s.act.anch.key,?_,?_⟩
       ·show (match G3 f with|some (.dT hw' kvs)=>hw'=hw/\∃ ks,j1 s.act.anch.d=some ks/\dN kvs3 s.act.anch.key=dN kvs ks|some (.dK kvs)=>_|_=>False)
        rw[hf3];exact⟨rfl,_,rfl,rfl⟩
       ·have e1:(dN kvs3 s.act.anch.key).isSome=decide (s.act.anch∈je x.length (o.take i)):=by
         by_cases z:s.act.anch∈je x.length (o.take i)
         ·rw[hF3.2.2.2 _ z,decide_eq_true z];rfl
         ·rw[hF3.2.2.1 _ z,decide_eq_false z];rfl
        rw[e1];exact hK
      ·have hin':=of_decide_eq_true hin;simp only[gx,bD,af,az,ae,getElem?_cons_zero,getElem?_cons_succ];refine nB Z1 Z2 Z3 Z4 Z5 hw (p:=p) (i:=3) rfl hobj ?_;refine ik Z1 Z2 Z3 Z4 Z5 hw (p:=p) (i:=3) rfl hobj oks.2 ?_;have lm:(made s).length=s.act.many:=bw _ _ _;have lm2:=oks.2;show ∃ (b:Sl) (ss W:List Sl) (kvs:List (List aN×D)),(s.act.anch.d=b.d/\(made s).map Sl.d=ss.map Sl.d/\G3 f=some (.dT hw kvs)/\wS kvs W/\b∈W/\ss.Nodup/\(∀ x∈ss,x∉W)/\W.length+ss.length<=900000)/\∀ kvs',wS kvs' (bM W b ss)->_
       refine⟨s.act.anch,made s,_,kvs3,⟨rfl,rfl,hf3,hF3,hin',dy _ _ _,fresh,by walk_at "o"⟩,fun kvs' hF'=>?_⟩
       refine⟨_,kvs',rfl,fun a o' ha=>?_,fun j q s' hj hs'=>?_,ax,?_⟩
       ·have:a≠f:=fun z=>by subst z;rw[hf]at ha;cases ha
        rw[aG this];exact hE3 a o' ha
       ·have h1:=hO3 j q s' hj hs';have:q≠f:=fun z=>by subst z;obtain⟨C,L,ds,e⟩:=pB Z1 Z2 Z3 Z4 Z5 s';rw[hf3,e]at h1;cases h1
        rw[aG this];exact h1
       ·rw[tk,pj];unfold cy;rw[if_pos hin'];exact hF'
      ·have hout':=of_decide_eq_false hout;simp only[dq];refine⟨_,kvs3,rfl,hE3,hO3,hf3,?_⟩;rw[tk,pj];unfold cy;rw[if_neg hout'];exact hF3
    ·rintro σ G3 ⟨x3,kvs3,rfl,hE3,hO3,hf3,hF3⟩
     rw[length_map,hl,take_length]at hF3;rw[ml]at hF3;show ∃ (R:List Sl) (kvs:List (List aN×D)),(G3 f=some (.dT hw kvs)/\wS kvs (aA::R)/\R.length<=900000)/\_
     refine⟨dR x.length o,kvs3,⟨hf3,hF3,?_⟩,h o G3 hE3 st memo⟩;have wl:=mj x.length o (bM [aA] aA (fJ x.length)) fun s hs'=>(ok s (ho s hs')).2;have e1:o.foldl cy (bM [aA] aA (fJ x.length))=aA::dR x.length o:=ml x.length o;rw[e1,dz,length_cons,length_cons,ol]at wl;omega
 ·exact h.elim
theorem jV(s:Sk):s.act.many<=s.wd:=by
 obtain⟨pen,num,time,act⟩:=s;cases act<;>first|exact le_refl _|exact zero_le _
theorem uj(Z1 Z2 Z3 Z4 Z5:Addr)(hw:HW):bm (cr Z1 Z2 Z3 Z4 Z5 hw) (gT Z1 Z2 Z3 Z4 Z5 hw) ["keys"]:=by
 intro ds G Q h;unfold cr at h;split at h
 ·rename_i xs;have hs:=aq;unfold gT;rcases h with ⟨ss,⟨rfl,hl⟩,h⟩|⟨ns,⟨rfl,hl⟩,h⟩
  ·walk_at "s1";refine fF (fun d=>.tup [d,.bl true]) (by rw[length_map];omega) (fun d hd P hP=>?_) ?_
   ·obtain⟨s,hs',rfl⟩:=mem_map.mp hd;unfold Sl.d;walk_at "st";exact⟨rfl,by walk_at "o",hP _ rfl⟩
   ·dsimp only;refine⟨aS (fun _=>.bl true) (ss.map fun s=>(s,())),⟨?_,by unfold aS;rw[length_map,length_map];exact hl⟩,fun p hp=>?_⟩
    ·unfold aS;rw[map_map,map_map,map_map];rfl
    ·rw[nI];exact h p hp
  ·walk_at "s1";refine fF (fun d=>.tup [d,.bl true]) (by rw[length_map];omega) (fun d hd P hP=>?_) ?_
   ·obtain⟨s,hs',rfl⟩:=mem_map.mp hd;unfold Nm.d;walk_at "st";exact⟨rfl,by walk_at "o",hP _ rfl⟩
   ·dsimp only;refine⟨ns.map fun n=>(n.key,.bl true),⟨?_,by rw[length_map];exact hl⟩,fun p hp=>h p hp⟩
    rw[map_map,map_map];rfl
 ·exact h.elim
theorem il(Z1 Z2 Z3 Z4 Z5:Addr)(hw:HW){G:Gp}{p:Addr}{α:Type}{f:α->D}{l:List (Sl×α)}(x:Sl)(hG:G p=some (.dT hw (aS f l))):cj hw G (.ref p) x.d ((c8 l x).map f):=by
 unfold cj;dsimp only;rw[hG];exact⟨rfl,x.key,rfl,(vG f x l).symm⟩
theorem nZ(Z1 Z2 Z3 Z4 Z5:Addr)(hw:HW):bm (bO Z1 Z2 Z3 Z4 Z5 hw) (eL Z1 Z2 Z3 Z4 Z5 hw) ["stroke","in_row"]:=by
 intro ds G Q h;unfold bO at h;split at h
 ·rename_i a p;obtain⟨s,row,⟨hG,hw',hp⟩,h⟩:=h;have hs:=aq;have mw:=jV s;unfold eL;unfold dJ eB af az eV eX;refine ik Z1 Z2 Z3 Z4 Z5 hw (p:=a) (i:=0) (s:=s) rfl hG (by walk_at "o") ?_
  dsimp only[fR];have lm:(made s).length=s.act.many:=bw _ _ _;refine fF (fun d=>match d with|.tup [.str q,.int n,.int k]=>.bl (c8 row ⟨q,n,k⟩).isSome|d=>d) (by rw[length_map,lm];omega) (fun d hd P hP=>?_) ?_
  ·obtain⟨x,hx,rfl⟩:=mem_map.mp hd;refine⟨⟨by simp[fb],rfl⟩,?_⟩
   show ∃ r,cj hw G (.ref p) x.d r/\P (.bl r.isSome) G
   refine⟨_,il Z1 Z2 Z3 Z4 Z5 hw x hp,hP _ ?_⟩;show D.bl ((c8 row x).map _).isSome=D.bl (c8 row x).isSome
   rw[Option.isSome_map]
  ·show ∃ bs:List Bool,pX G (val _)=some (bs.map D.bl)/\_;refine⟨(made s).map fun x=>(c8 row x).isSome,?_,?_⟩
   ·show some _=some _;congr 1;rw[map_map,map_map];rfl
   ·rw[List.all_map];exact h
 ·exact h.elim
theorem zK{ns:List Nm}(n:Nm):(dN (dictOf (ns.map fun n=>(n.key,D.bl true))) n.key).isSome=decide (n∈ns):=by
 unfold dictOf;have key_inj:∀ {a b:Nm},a.key=b.key->a=b:=fun {a b} h=>by
  obtain⟨a1,a2⟩:=a;obtain⟨b1,b2⟩:=b;simp only[Nm.key,List.cons.injEq,Sum.inr.injEq,Sum.inl.injEq,and_true]at h;obtain⟨rfl,rfl⟩:=h;rfl
 suffices H:∀ l:List (List aN×D),(dN ((ns.map fun n=>(n.key,D.bl true)).foldl (fun a kv=>cm a kv.1 kv.2) l) n.key).isSome=((dN l n.key).isSome || decide (n∈ns)) by
  have:=H []
  simpa[dN]using this
 induction ns with
 | nil=>intro l;simp
 | cons m r ih=>
  intro l;rw[map_cons,foldl_cons,ih,gA]
  by_cases e:n=m
  ·subst e;simp
  ·rw[if_neg (fun z=>e (key_inj z))];simp[e]
theorem gJ.ext{Z1 Z2 Z3 Z4 Z5:Addr}{G G':Gp}{ps:List Addr}{o:List Sk}(h:gJ Z1 Z2 Z3 Z4 Z5 G ps o)(e:io G G'):gJ Z1 Z2 Z3 Z4 Z5 G' ps o:=⟨h.1,fun j p s hp hs=>e _ _ (h.2 j p s hp hs)⟩
theorem gJ.nil{Z1 Z2 Z3 Z4 Z5:Addr}{G:Gp}:gJ Z1 Z2 Z3 Z4 Z5 G [] []:=⟨rfl,fun j p s hp=>by simp at hp⟩
theorem gJ.add{Z1 Z2 Z3 Z4 Z5:Addr}{G:Gp}{ps:List Addr}{o:List Sk}{p:Addr}{s:Sk}(h:gJ Z1 Z2 Z3 Z4 Z5 G ps o)(hp:G p=some (bV Z1 Z2 Z3 Z4 Z5 s)):gJ Z1 Z2 Z3 Z4 Z5 G (ps ++ [p]) (o ++ [s]):=by
 obtain⟨hl,h⟩:=h;refine⟨by simp[hl],fun j q t hq ht=>?_⟩
 rw[List.getElem?_append]at hq ht;split at hq
 ·rename_i hj;rw[if_pos (by walk_at "o")]at ht
  exact h j q t hq ht
 ·rename_i hj;rw[if_neg (by walk_at "o")]at ht
  have hj0:j - ps.length=0:=by
   by_cases z:j - ps.length=0
   ·exact z
   ·obtain⟨k,hk⟩:∃ k,j - ps.length=k+1:=⟨j - ps.length - 1,by walk_at "o"⟩
    rw[hk]at hq;simp at hq
  rw[hj0]at hq;rw[show j - o.length=0 by walk_at "o"]at ht
  simp only[getElem?_cons_zero,Option.some.injEq]at hq ht;subst hq ht;exact hp
theorem zM(row:List Sl)(x:Sl):(c8 (bd [] (row.map fun s=>(s,()))) x).isSome=decide (x∈row):=by
 suffices H:∀ l:List (Sl×Unit),(c8 (bd l (row.map fun s=>(s,()))) x).isSome=((c8 l x).isSome || decide (x∈row)) by
  have:=H []
  simpa[c8]using this
 induction row with
 | nil=>intro l;simp[bd]
 | cons m r ih=>
  intro l;show (c8 (bd (ib l m ()) (r.map fun s=>(s,()))) x).isSome=_
  rw[ih,rS]
  by_cases e:x=m
  ·subst e;simp
  ·rw[if_neg e];simp[e]
theorem gJ.snoc{Z1 Z2 Z3 Z4 Z5:Addr}{G:Gp}{ps:List Addr}{o:List Sk}{p:Addr}{s:Sk}(h:gJ Z1 Z2 Z3 Z4 Z5 G ps o)(hp:G p=none):gJ Z1 Z2 Z3 Z4 Z5 (gset G p (bV Z1 Z2 Z3 Z4 Z5 s)) (ps ++ [p]) (o ++ [s]):=
 (h.ext (io.refl.gset hp)).add ax
theorem n6(Z1 Z2 Z3 Z4 Z5:Addr)(hw:HW):bm (bP Z1 Z2 Z3 Z4 Z5 hw) (eM Z1 Z2 Z3 Z4 Z5 hw) ["strokes","standing","in_row","stands","chosen"]:=by
 intro ds G Q h;unfold bP at h;split at h
 ·rename_i xs ns p;obtain⟨sks,base,names,row,⟨rfl,one,l1,l2,sub,wd,rfl,l3,hG⟩,h⟩:=h;have hs:=aq;unfold eM;rw[ag];walk_at "s1";refine .inr ⟨names,⟨rfl,l3⟩,fun q hq=>?_⟩;have hpq:p≠q:=fun z=>by subst z;rw[hG]at hq;cases hq
  rw[ag];have g1:gset G q (.dT hw (dictOf (names.map fun n=>(n.key,.bl true)))) q=some (.dT hw (dictOf (names.map fun n=>(n.key,.bl true)))):=ax;have g2:io G (gset G q (.dT hw (dictOf (names.map fun n=>(n.key,.bl true))))):=io.refl.gset hq;generalize gset G q (.dT hw (dictOf (names.map fun n=>(n.key,.bl true))))=G1 at g1 g2;walk_at "s1";refine⟨sks.map Sk.rw,base.map Sk.rw,⟨by rw[map_map];rfl,one,by rw[length_map];exact l1,by rw[length_map];exact l2,fun r hr=>?_⟩,fun out G2 hE st mem=>?_⟩
  ·obtain⟨s,hs',rfl⟩:=mem_map.mp hr;exact mem_map.mpr ⟨s,sub s hs',rfl⟩
  obtain⟨o,rfl,ho⟩:=uf (sks:=sks) (out:=out) fun r hr=>(mem r).mp hr;have memo:∀ s,s∈o↔s∈sks:=fun s=>⟨ho s,fun hs'=>by
   obtain⟨s',h1,h2⟩:=mem_map.mp ((mem s.rw).mpr (mem_map.mpr ⟨s,hs',rfl⟩));rw[<- Sk.rw_inj h2];exact h1⟩
  have lo:o.length < 64:=by
   have:=gX (hX st) (ys:=base.map Sk.rw) fun r hr=>by
    obtain⟨s,hs',rfl⟩:=mem_map.mp hr;exact mem_map.mpr ⟨s,sub s (ho s hs'),rfl⟩
   rw[length_map,length_map]at this;omega
  have dmap:(o.map Sk.rw).map Rw.d=o.map Sk.d:=by rw[map_map];rfl
  rw[dmap];refine⟨by rw[length_map];omega,fun i acc G3=>∃ ps:List Addr,acc=ps.map D.ref/\io G2 G3/\gJ Z1 Z2 Z3 Z4 Z5 G3 ps ((o.take i).filter fun s=>decide (s.nm∈names)),⟨[],rfl,io.refl,by simpa using gJ.nil⟩,?_,?_⟩
  ·rintro i d acc G3 hd ⟨ps,rfl,hE3,hO⟩
   rw[getElem?_map]at hd;cases hsj:o[i]? with
   | none=>rw[hsj]at hd;cases hd
   | some s=>
    rw[hsj]at hd;cases hd;have tk:(o.take (i+1)).filter (fun s=>decide (s.nm∈names))=(o.take i).filter (fun s=>decide (s.nm∈names)) ++ (if s.nm∈names then [s]else []):=by
     rw[take_add_one,hsj,List.filter_append]
     by_cases e:s.nm∈names
     ·rw[if_pos e];simp[e]
     ·rw[if_neg e];simp[e]
    refine⟨⟨by simp,rfl⟩,?_⟩
    show ∃ r,cj hw G3 (.ref q) s.nm.d r/\(match D.bl r.isSome with|.bl b=>_|_=>False)
    refine⟨dN (dictOf (names.map fun n=>(n.key,D.bl true))) s.nm.key,?_,?_⟩
    ·unfold cj;dsimp only;rw[hE3 q _ (hE q _ g1)];exact⟨rfl,_,rfl,rfl⟩
    ·rw[zK];dsimp only
     by_cases e:s.nm∈names
     ·rw[decide_eq_true e,if_pos rfl];show ∃ s':Sk,s.d=s'.d/\∀ p,G3 p=none->_
      refine⟨s,rfl,fun r hr=>⟨ps ++ [r],by rw[map_append];rfl,fun a o' ha=>?_,?_⟩⟩
      ·have:a≠r:=fun z=>by subst z;rw[hE3 a o' ha]at hr;cases hr
       rw[aG this];exact hE3 a o' ha
      ·rw[tk,if_pos e];exact hO.snoc hr
     ·rw[decide_eq_false e,if_neg Bool.false_ne_true];refine⟨ps,rfl,hE3,?_⟩;rw[tk,if_neg e,append_nil];exact hO
  ·rintro acc G3 ⟨ps,rfl,hE3,hO⟩
   rw[length_map,take_length]at hO;dsimp only[val];have hE4:io G G3:=g2.trans (hE.trans hE3);generalize hfl:o.filter (fun s=>decide (s.nm∈names))=ws at hO;have sub2:∀ s∈ws,s∈o:=fun s hs'=>by rw[<- hfl]at hs';exact (mem_filter.mp hs').1
   have lw:ws.length<=o.length:=by rw[<- hfl];exact List.length_filter_le _ _
   have hl:=hO.1;show (_<=sizeLine)/\_
   refine⟨by rw[length_map];omega,fun i acc G4=>∃ qs:List Addr,acc=qs.map D.ref/\G4=G3/\gJ Z1 Z2 Z3 Z4 Z5 G3 qs ((ws.take i).filter (cQ row)),⟨[],rfl,rfl,by simpa using gJ.nil⟩,?_,?_⟩
   ·rintro i d acc G4 hd ⟨qs,rfl,rfl,hQ⟩
    rw[getElem?_map]at hd;cases hpi:ps[i]? with
    | none=>rw[hpi]at hd;cases hd
    | some a=>
     rw[hpi]at hd;cases hd;have hi:i < ws.length:=by have:=(List.getElem?_eq_some_iff.mp hpi).1;omega
     have hwi:ws[i]?=some ws[i]:=getElem?_eq_getElem hi;have hob:=hO.2 i a _ hpi hwi;refine⟨⟨by simp,rfl⟩,?_⟩
     have tk:(ws.take (i+1)).filter (cQ row)=(ws.take i).filter (cQ row) ++ (if cQ row ws[i]=true then [ws[i]]else []):=by
      rw[take_add_one,hwi,List.filter_append]
      by_cases e:cQ row ws[i]=true
      ·rw[if_pos e];simp[e]
      ·rw[if_neg e];simp[e]
     have hgp:G4 p=some (.dT hw (aS (fun _=>.bl true) (bd [] (row.map fun s=>(s,()))))):=hE4 p _ hG;have pe:(made ws[i]).all (fun x=>(c8 (bd [] (row.map fun s=>(s,()))) x).isSome)=cQ row ws[i]:=by
      unfold cQ;congr 1;funext x;exact zM row x
     refine⟨_,_,⟨hob,wd _ (ho _ (sub2 _ (getElem_mem hi))),hgp⟩,?_⟩;rw[pe];show True/\_
     refine⟨trivial,?_⟩;dsimp only
     by_cases e:cQ row ws[i]=true
     ·rw[if_pos e];exact⟨qs ++ [a],by rw[map_append];rfl,rfl,by rw[tk,if_pos e];exact hQ.add hob⟩
     ·rw[if_neg e];exact⟨qs,rfl,rfl,by rw[tk,if_neg e,append_nil];exact hQ⟩
   ·rintro acc G4 ⟨qs,rfl,rfl,hQ⟩
    rw[length_map,hl,take_length]at hQ;refine h o qs _ hE4 st memo ?_;unfold fM;rw[hfl];exact hQ
 ·exact h.elim
theorem qd{hw:HW}{α:Type}{f:α->D}{l:List (Sl×α)}{G:Gp}{p:Addr}{x:Sl}{w:α}{K:Gp->Prop}(hG:G p=some (.dT hw (aS f l)))(hl:l.length < sizeLine)(h:K (gset G p (.dT hw (aS f (ib l x w))))):lb hw (.ref p) x.d (f w) G K:=by
 unfold lb;dsimp only;rw[hG];exact⟨rfl,x.key,rfl,by unfold aS;rw[length_map];exact hl,by rw[sD];exact h⟩
theorem mF{α:Type}{σ:List α}{a:Nat}(h:a < σ.length):σ.set a σ[a]=σ:=List.set_getElem_self h
theorem AE{hw:HW}{α:Type}{f:α->D}(hf:∀ v,val (f v)=f v){m l:List (Sl×α)}{a b d:Nat}{σ:fH}{G:Gp}{p:Addr}{E:Ends3}(hab:a≠b)(had:a≠d)(hbd:b≠d)(ha:a < σ.length)(hb:b < σ.length)(hσ:σ[d]?=some (some (.ref p)))(hl:l.length+m.length < sizeLine)
  (h:∀ u v,E.nx ((σ.set a u).set b v) (gset G p (.dT hw (aS f (bd l m))))):ForIn (i7 2 (bX (gN a) (bX (gN b) gY))) (eY hw (ae d) (ae a) (ae b)) E σ (m.map fun q=>.tup [q.1.d,f q.2]) (gset G p (.dT hw (aS f l))):=by
 refine⟨fun i σ' G'=>∃ u v,σ'=(σ.set a u).set b v/\G'=gset G p (.dT hw (aS f (bd l (m.take i)))),⟨σ[a],σ[b],by rw[mF ha,mF hb],rfl⟩,?_,?_⟩
 ·rintro i dd σ' G' hd ⟨u,v,rfl,rfl⟩
  rw[getElem?_map]at hd;cases hq:m[i]? with
  | none=>rw[hq]at hd;cases hd
  | some q=>
   rw[hq]at hd;cases hd;have hi:=(List.getElem?_eq_some_iff.mp hq).1;have tk:m.take (i+1)=m.take i ++ [q]:=by rw[take_add_one,hq];rfl
   unfold i7 bX gY gN;refine⟨rfl,?_⟩;show eY hw (ae d) (ae a) (ae b) _ ((((σ.set a u).set b v).set a (some q.1.d)).set b (some (f q.2))) _
   have e0:(((σ.set a u).set b v).set a (some q.1.d)).set b (some (f q.2))=(σ.set a (some q.1.d)).set b (some (f q.2)):=by
    rw[List.set_comm _ _ (Ne.symm hab),List.set_set,List.set_set]
   rw[e0];have s1:((σ.set a (some q.1.d)).set b (some (f q.2)))[b]?=some (some (f q.2)):=by rw[List.getElem?_set_self (by rw[List.length_set];exact hb)]
   have s2:((σ.set a (some q.1.d)).set b (some (f q.2)))[a]?=some (some q.1.d):=by rw[getElem?_set_ne (Ne.symm hab),List.getElem?_set_self ha]
   have s3:((σ.set a (some q.1.d)).set b (some (f q.2)))[d]?=some (some (.ref p)):=by rw[getElem?_set_ne hbd,getElem?_set_ne had];exact hσ
   unfold eY ae;rw[s1,s2,s3];dsimp only;rw[hf];have pl:=eA (m.take i) l;rw[length_take]at pl;refine qd (x:=q.1) ax (by walk_at "o") ⟨_,_,rfl,?_⟩
   rw[dF,tk,jl]
 ·rintro σ' G' ⟨u,v,rfl,rfl⟩
  rw[length_map,take_length];exact h u v
theorem AF{hw:HW}{α:Type}{f:α->D}{w:α}(hf:val (f w)=f w){ns:List Sl}{l:List (Sl×α)}{a d:Nat}{σ:fH}{G:Gp}{p:Addr}{E:Ends3}{te:bJ}(had:a≠d)(ha:a < σ.length)(hσ:σ[d]?=some (some (.ref p)))(hl:l.length+ns.length < sizeLine)
  (ht:∀ u l (K:oW),K (f w) (gset G p (.dT hw (aS f l)))->te (σ.set a u) (gset G p (.dT hw (aS f l))) K)
  (h:∀ u,E.nx (σ.set a u) (gset G p (.dT hw (aS f (bd l (ns.map fun n=>(n,w))))))):ForIn (gN a) (eY hw (ae d) (ae a) te) E σ (ns.map Sl.d) (gset G p (.dT hw (aS f l))):=by
 refine⟨fun i σ' G'=>∃ u,σ'=σ.set a u/\G'=gset G p (.dT hw (aS f (bd l ((ns.take i).map fun n=>(n,w))))),⟨σ[a],by rw[mF ha],rfl⟩,?_,?_⟩
 ·rintro i dd σ' G' hd ⟨u,rfl,rfl⟩
  rw[getElem?_map]at hd;cases hq:ns[i]? with
  | none=>rw[hq]at hd;cases hd
  | some q=>
   rw[hq]at hd;cases hd;have hi:=(List.getElem?_eq_some_iff.mp hq).1;have tk:ns.take (i+1)=ns.take i ++ [q]:=by rw[take_add_one,hq];rfl
   show eY hw (ae d) (ae a) te _ ((σ.set a u).set a (some q.d)) _
   rw[List.set_set];have s2:(σ.set a (some q.d))[a]?=some (some q.d):=by rw[List.getElem?_set_self ha]
   have s3:(σ.set a (some q.d))[d]?=some (some (.ref p)):=by rw[getElem?_set_ne had];exact hσ
   unfold eY;refine ht _ _ _ ?_;unfold ae;rw[s2,s3];dsimp only;rw[hf];have pl:=eA ((ns.take i).map fun n=>(n,w)) l;rw[length_map,length_take]at pl;refine qd (x:=q) ax (by walk_at "o") ⟨_,rfl,?_⟩
   rw[dF,tk,map_append,map_cons,map_nil,jl]
 ·rintro σ' G' ⟨u,rfl,rfl⟩
  rw[length_map,take_length];exact h u
theorem jx{α β:Type}(f:α->D)(g:β->D):∀ (a:List α) (b:List β),jy (a.map f) (b.map g)=(a.zip b).map fun q=>.tup [f q.1,g q.2]
 | [],_=>rfl
 | _::_,[]=>rfl
 | x::a,y::b=>by simp only[map_cons,jy,zip_cons_cons,jx f g a b]
theorem pc(x:Str):L3.signs x=(vS x).map D.str:=by unfold L3.signs vS;rw[map_map];rfl
theorem ve(x:Str):(vS x).length=x.length:=by simp[vS,Str.length]
theorem iR{β:Type}(g:Sk->List β){o:List Sk}{i:Nat}{s:Sk}(h:o[i]?=some s):(o.take (i+1)).flatMap g=(o.take i).flatMap g ++ g s:=by
 rw[take_add_one,h,List.flatMap_append];simp
theorem nE{β:Type}(g:Sk->List β):∀ {o:List Sk},(∀ s∈o,(g s).length<=1000)->(o.flatMap g).length<=1000*o.length
 | [],_=>by simp
 | s::r,h=>by
  have h1:=h s mem_cons_self;have h2:=nE g (o:=r) fun t ht=>h t (mem_cons_of_mem _ ht);rw[List.flatMap_cons,length_append,length_cons];omega
theorem kT{s:Sk}(h:s.wd<=1000):(fV s).length<=1000:=by
 obtain⟨pen,num,time,act⟩:=s;cases act with
 | put a x=>
  show ((made _).zip (vS x)).length<=1000
  rw[length_zip,ve];have:x.length<=1000:=h;omega
 | _=>exact zero_le _
theorem t_{s:Sk}(h:s.wd<=1000):(gL s).length<=1000:=by
 obtain⟨pen,num,time,act⟩:=s;cases act with
 | strike ns=>show (ns.map _).length<=1000;rw[length_map];exact h
 | _=>exact zero_le _
theorem xa{s:Sk}(h:s.wd<=1000):(hU s).length<=1000:=by
 obtain⟨pen,num,time,act⟩:=s;cases act with
 | dress ns w=>show (ns.map _).length<=1000;rw[length_map];exact h
 | _=>exact zero_le _
theorem r_{s:Sk}(h:s.wd<=1000):(gB s).length<=1000:=by
 obtain⟨pen,num,time,act⟩:=s;cases act with
 | move ns a=>
  show (ns.zip (made _)).length<=1000
  rw[length_zip];have:ns.length<=1000:=h;omega
 | _=>exact zero_le _
theorem hZ{β:Type}{o:List Sk}(h:pZ o)(g:Sk->List β)(hg:∀ s:Sk,s.wd<=1000->(g s).length<=1000)(i:Nat):((o.take i).flatMap g).length<=64000:=by
 have h1:=nE g (o:=o.take i) fun s hs=>hg s (h.2 s (mem_of_mem_take hs));have h2:=h.1;rw[length_take]at h1;omega
theorem iI(Z1 Z2 Z3 Z4 Z5:Addr)(hw:HW){σ:fH}{G:Gp}{a C:Addr}{s:Sk}{i:Nat}{cs:List (Addr×Bool)}{K:Bool->Gp->Prop}(b:Bool)(hσ:σ[i]?=some (some (.ref a)))(hG:G a=some (bV Z1 Z2 Z3 Z4 Z5 s))
  (hc:match s.act with|.put _ _=>(Z2,b)∈cs|.strike _=>(Z3,b)∈cs|.dress _ _=>(Z4,b)∈cs|.move _ _=>(Z5,b)∈cs) (h:K b G):p9 (eB (rP cs C) (af (ae i) (af (eC (.ref C)) az))) σ G K:=by
 obtain⟨pen,num,time,act⟩:=s;unfold p9 eB af az ae eC rP;rw[hσ];cases act<;>(simp only[bV]at hG;simp only[val,hG];exact⟨trivial,b,hc,⟨trivial,h⟩⟩)
theorem ij(Z1 Z2 Z3 Z4 Z5:Addr)(hw:HW){σ:fH}{G:Gp}{p:Addr}{s:Sk}{ns:List Sl}{i:Nat}{Q:oW}(hσ:σ[i]?=some (some (.ref p)))(hG:G p=some (bV Z1 Z2 Z3 Z4 Z5 s))(ha:s.act=.strike ns\/(∃ w,s.act=.dress ns w)\/∃ b,s.act=.move ns b)(hm:ns.length<=1000)(h:Q (.fl (ns.map Sl.d)) G):
  fi [(Z1,ab Z1 Z2 Z3 Z4 Z5 hw),(Z2,ab Z1 Z2 Z3 Z4 Z5 hw),(Z3,ab Z1 Z2 Z3 Z4 Z5 hw),(Z4,ab Z1 Z2 Z3 Z4 Z5 hw),(Z5,ab Z1 Z2 Z3 Z4 Z5 hw)] "touched" [] (ae i) az σ G Q:=by
 have hG':=hG;unfold fi ae;rw[hσ];obtain⟨pen,num,time,act⟩:=s;rcases ha with e|⟨w,e⟩|⟨b,e⟩<;>(have e':act=_:=e;subst e';simp only[bV]at hG;simp only[hG])
 ·exact⟨by decide +kernel,ab Z1 Z2 Z3 Z4 Z5 hw,by simp,_,ns,⟨.inl rfl,hG',hm⟩,h⟩
 ·exact⟨by decide +kernel,ab Z1 Z2 Z3 Z4 Z5 hw,by simp,_,ns,⟨.inr (.inl ⟨w,rfl⟩),hG',hm⟩,h⟩
 ·exact⟨by decide +kernel,ab Z1 Z2 Z3 Z4 Z5 hw,by simp,_,ns,⟨.inr (.inr ⟨b,rfl⟩),hG',hm⟩,h⟩
theorem jg(Z1 Z2 Z3 Z4 Z5:Addr)(hw:HW):bm (ab Z1 Z2 Z3 Z4 Z5 hw) (cA Z1 Z2 Z3 Z4 Z5 hw) ["self"]:=by
 intro ds G Q h;unfold ab at h;split at h
 ·rename_i p;obtain⟨⟨pen,num,time,act⟩,ns,⟨ha,hG,hl⟩,h⟩:=h;have hs:=aq;unfold bV at hG;unfold cA;rcases ha with e|⟨w,e⟩|⟨b,e⟩<;>(have e':act=_:=e;subst e';dsimp only at hG)
  ·have hc:Z3∈[Z1,Z2,Z3,Z4,Z5]:=by simp
   walk_at "st"
   try exact h
  ·have hc:Z4∈[Z1,Z2,Z3,Z4,Z5]:=by simp
   walk_at "st"
   try exact h
  ·have hc:Z5∈[Z1,Z2,Z3,Z4,Z5]:=by simp
   walk_at "st"
   try exact h
 ·exact h.elim
theorem rN(x:Str){o:List Sk}{i:Nat}{s:Sk}(h:o[i]?=some s):aB x (o.take (i+1))=bd (aB x (o.take i)) (fV s):=by
 unfold aB;rw[iR fV h,<- List.append_assoc,cW]
theorem sg{o:List Sk}{i:Nat}{s:Sk}(h:o[i]?=some s):bF (o.take (i+1))=bd (bF (o.take i)) (gL s):=by
 unfold bF;rw[iR gL h,cW]
theorem t9{o:List Sk}{i:Nat}{s:Sk}(h:o[i]?=some s):cn (o.take (i+1))=bd (cn (o.take i)) (gB s):=by
 unfold cn;rw[iR gB h,cW]
theorem vO{o:List Sk}{i:Nat}{s:Sk}(h:o[i]?=some s):ft (o.take (i+1))=bd (ft (o.take i)) (hU s):=by
 unfold ft;rw[iR hU h,cW]
theorem zh{Z1 Z2 Z3 Z4 Z5:Addr}{G:Gp}{ps:List Addr}{o:List Sk}{i:Nat}{d:D}(h:gJ Z1 Z2 Z3 Z4 Z5 G ps o)(hd:(ps.map D.ref)[i]?=some d):∃ a s,d=.ref a/\o[i]?=some s/\G a=some (bV Z1 Z2 Z3 Z4 Z5 s):=by
 rw[getElem?_map]at hd;cases hp:ps[i]? with
 | none=>rw[hp]at hd;cases hd
 | some a=>
  rw[hp]at hd;cases hd;have hi:i < o.length:=by have:=(List.getElem?_eq_some_iff.mp hp).1;have:=h.1;omega
  exact⟨a,o[i],rfl,getElem?_eq_getElem hi,h.2 i a _ hp (getElem?_eq_getElem hi)⟩
theorem wG(Z1 Z2 Z3 Z4 Z5:Addr)(hw:HW){σ:fH}{G:Gp}{p:Addr}{pen:Str}{num time:Int}{a:Sl}{x:Str}{i:Nat}{Q:oW}(hσ:σ[i]?=some (some (.ref p)))(hG:G p=some (bV Z1 Z2 Z3 Z4 Z5 ⟨pen,num,time,.put a x⟩))(h:Q (.str x) G):fE [Z1,Z2,Z3,Z4,Z5] "signs" (ae i) σ G Q:=by
 unfold fE ae;rw[hσ];simp only[bV]at hG;simp only[hG];exact⟨by simp,h⟩
theorem yu(Z1 Z2 Z3 Z4 Z5:Addr)(hw:HW){σ:fH}{G:Gp}{p:Addr}{pen:Str}{num time:Int}{ns:List Sl}{w:Str}{i:Nat}{Q:oW}(hσ:σ[i]?=some (some (.ref p)))(hG:G p=some (bV Z1 Z2 Z3 Z4 Z5 ⟨pen,num,time,.dress ns w⟩))(h:Q (.str w) G):fE [Z1,Z2,Z3,Z4,Z5] "word" (ae i) σ G Q:=by
 unfold fE ae;rw[hσ];simp only[bV]at hG;simp only[hG];exact⟨by simp,h⟩
theorem jG(Z1 Z2 Z3 Z4 Z5:Addr)(hw:HW):bm (bb Z1 Z2 Z3 Z4 Z5 hw) (cN Z1 Z2 Z3 Z4 Z5 hw) ["old","strokes","brought","stroke","name","sign"]:=by
 intro ds G Q h;unfold bb at h;split at h
 ·rename_i x xs;obtain⟨ps,o,⟨rfl,hO,hS,hx⟩,h⟩:=h;have hs:=aq;unfold cN;rw[ag];walk_at "s1";have ol:(fJ x.length).length=x.length:=bw _ _ _;have l0:((fJ x.length).zip (vS x)).length<=1000:=by rw[length_zip];omega
  refine⟨_,_,aS D.str ((fJ x.length).zip (vS x)),⟨rfl,rfl,?_,by unfold aS;rw[length_map];omega⟩,fun p hp=>?_⟩
  ·rw[pc,jx];unfold aS;rw[map_map];rfl
  rw[nI];have e0:bd [] ((fJ x.length).zip (vS x))=aB x (o.take 0):=by unfold aB;simp
  rw[e0];rw[ag];have hE:io G (gset G p (.dT hw (aS D.str (aB x (o.take 0))))):=io.refl.gset hp;show ForIn _ _ _ _ (ps.map D.ref) _
  refine⟨fun i σ G'=>∃ x3 x4 x5,σ=[some (.str x),some (.lst (ps.map D.ref)),some (.ref p),x3,x4,x5]/\G'=gset G p (.dT hw (aS D.str (aB x (o.take i)))),⟨_,_,_,rfl,rfl⟩,?_,?_⟩
  ·rintro i d σ G' hd ⟨x3,x4,x5,rfl,rfl⟩
   obtain⟨a,s,rfl,hsi,hGa⟩:=zh hO hd;have hap:a≠p:=fun z=>by subst z;rw[hp]at hGa;cases hGa
   have hGa':∀ u,gset G p u a=some (bV Z1 Z2 Z3 Z4 Z5 s):=fun u=>by rw[aG hap];exact hGa
   have swd:s.wd<=1000:=hS.2 s (mem_of_getElem? hsi);have bl:(aB x (o.take i)).length<=65000:=by
    have h1:=eA ((fJ x.length).zip (vS x) ++ (o.take i).flatMap fV) [];have h2:=hZ hS fV (fun s hs=>kT hs) i;rw[length_append,length_nil]at h1;unfold aB;omega
   have bt:=rN x hsi;simp only[gN,set_cons_succ,set_cons_zero];obtain⟨pen,num,time,act⟩:=s;cases act with
   | put an w=>
    refine be true (fun K hK=>iI Z1 Z2 Z3 Z4 Z5 hw (s:=⟨pen,num,time,.put an w⟩) (a:=a) (i:=3) true rfl (hGa' _) (by simp) hK) ?_
    rw[if_pos rfl];unfold fZ wB af az;have mw:=jV ⟨pen,num,time,.put an w⟩;refine ik Z1 Z2 Z3 Z4 Z5 hw (p:=a) (i:=3) (s:=⟨pen,num,time,.put an w⟩) rfl (hGa' _) (by walk_at "o") ?_
    refine wG Z1 Z2 Z3 Z4 Z5 hw (p:=a) (i:=3) (a:=an) (x:=w) rfl (hGa' _) ?_;refine⟨_,_,⟨rfl,rfl⟩,?_⟩;rw[pc,jx];have bl2:=kT swd;refine AE (f:=D.str) (fun _=>rfl) (m:=(made ⟨pen,num,time,.put an w⟩).zip (vS w)) (by decide) (by decide) (by decide) (by simp) (by simp) rfl (by show _+(fV ⟨pen,num,time,.put an w⟩).length < _;omega) fun u v=>⟨_,_,_,rfl,?_⟩
    rw[bt];rfl
   | _=>
    refine be false (fun K hK=>iI Z1 Z2 Z3 Z4 Z5 hw (s:=⟨pen,num,time,_⟩) (a:=a) (i:=3) false rfl (hGa' _) (by simp) hK) ?_
    rw[if_neg Bool.false_ne_true];refine⟨_,_,_,rfl,?_⟩;rw[bt];rfl
  ·rintro σ G' ⟨x3,x4,x5,rfl,rfl⟩
   rw[length_map,hO.1,take_length];exact h p hp
 ·exact h.elim
theorem kc(Z1 Z2 Z3 Z4 Z5:Addr)(hw:HW):bm (bg Z1 Z2 Z3 Z4 Z5 hw) (cY Z1 Z2 Z3 Z4 Z5 hw) ["strokes","struck","stroke","name"]:=by
 intro ds G Q h;unfold bg at h;split at h
 ·rename_i xs;obtain⟨ps,o,⟨rfl,hO,hS⟩,h⟩:=h;have hs:=aq;unfold cY;rw[ag];walk_at "s1";intro p hp;rw[ag];show ForIn _ _ _ _ (ps.map D.ref) _
  refine⟨fun i σ G'=>∃ x2 x3,σ=[some (.lst (ps.map D.ref)),some (.ref p),x2,x3]/\G'=gset G p (.dT hw (aS (fun _=>.bl true) (bF (o.take i)))),⟨_,_,rfl,rfl⟩,?_,?_⟩
  ·rintro i d σ G' hd ⟨x2,x3,rfl,rfl⟩
   obtain⟨a,s,rfl,hsi,hGa⟩:=zh hO hd;have hap:a≠p:=fun z=>by subst z;rw[hp]at hGa;cases hGa
   have hGa':∀ u,gset G p u a=some (bV Z1 Z2 Z3 Z4 Z5 s):=fun u=>by rw[aG hap];exact hGa
   have swd:s.wd<=1000:=hS.2 s (mem_of_getElem? hsi);have bl:(bF (o.take i)).length<=65000:=by
    have h1:=eA ((o.take i).flatMap gL) [];have h2:=hZ hS gL (fun s hs=>t_ hs) i;rw[length_nil]at h1;unfold bF;omega
   have bt:=sg hsi;simp only[gN,set_cons_succ,set_cons_zero];obtain⟨pen,num,time,act⟩:=s;cases act with
   | strike ns=>
    refine be true (fun K hK=>iI Z1 Z2 Z3 Z4 Z5 hw (s:=⟨pen,num,time,.strike ns⟩) (a:=a) (i:=2) true rfl (hGa' _) (by simp) hK) ?_
    rw[if_pos rfl];unfold fZ eX;have hl:ns.length<=1000:=swd;refine ij Z1 Z2 Z3 Z4 Z5 hw (p:=a) (i:=2) (s:=⟨pen,num,time,.strike ns⟩) rfl (hGa' _) (.inl rfl) hl ?_;dsimp only[fR];refine AF (f:=fun (_:Unit)=>D.bl true) (w:=()) rfl (by decide) (by simp) rfl (by walk_at "o") (fun u l K hK=>hK) fun u=>⟨_,_,rfl,?_⟩
    rw[bt];rfl
   | _=>
    refine be false (fun K hK=>iI Z1 Z2 Z3 Z4 Z5 hw (s:=⟨pen,num,time,_⟩) (a:=a) (i:=2) false rfl (hGa' _) (by simp) hK) ?_
    rw[if_neg Bool.false_ne_true];refine⟨_,_,rfl,?_⟩;rw[bt];rfl
  ·rintro σ G' ⟨x2,x3,rfl,rfl⟩
   rw[length_map,hO.1,take_length];exact h p hp
 ·exact h.elim
theorem mH(Z1 Z2 Z3 Z4 Z5:Addr)(hw:HW):bm (bE Z1 Z2 Z3 Z4 Z5 hw) (dS Z1 Z2 Z3 Z4 Z5 hw) ["strokes","worn","stroke","name"]:=by
 intro ds G Q h;unfold bE at h;split at h
 ·rename_i xs;obtain⟨ps,o,⟨rfl,hO,hS⟩,h⟩:=h;have hs:=aq;unfold dS;rw[ag];walk_at "s1";intro p hp;rw[ag];show ForIn _ _ _ _ (ps.map D.ref) _
  refine⟨fun i σ G'=>∃ x2 x3,σ=[some (.lst (ps.map D.ref)),some (.ref p),x2,x3]/\G'=gset G p (.dT hw (aS D.str (ft (o.take i)))),⟨_,_,rfl,rfl⟩,?_,?_⟩
  ·rintro i d σ G' hd ⟨x2,x3,rfl,rfl⟩
   obtain⟨a,s,rfl,hsi,hGa⟩:=zh hO hd;have hap:a≠p:=fun z=>by subst z;rw[hp]at hGa;cases hGa
   have hGa':∀ u,gset G p u a=some (bV Z1 Z2 Z3 Z4 Z5 s):=fun u=>by rw[aG hap];exact hGa
   have swd:s.wd<=1000:=hS.2 s (mem_of_getElem? hsi);have bl:(ft (o.take i)).length<=65000:=by
    have h1:=eA ((o.take i).flatMap hU) [];have h2:=hZ hS hU (fun s hs=>xa hs) i;rw[length_nil]at h1;unfold ft;omega
   have bt:=vO hsi;simp only[gN,set_cons_succ,set_cons_zero];obtain⟨pen,num,time,act⟩:=s;cases act with
   | dress ns w=>
    refine be true (fun K hK=>iI Z1 Z2 Z3 Z4 Z5 hw (s:=⟨pen,num,time,.dress ns w⟩) (a:=a) (i:=2) true rfl (hGa' _) (by simp) hK) ?_
    rw[if_pos rfl];unfold fZ eX;have hl:ns.length<=1000:=swd;refine ij Z1 Z2 Z3 Z4 Z5 hw (p:=a) (i:=2) (s:=⟨pen,num,time,.dress ns w⟩) rfl (hGa' _) (.inr (.inl ⟨w,rfl⟩)) hl ?_;dsimp only[fR];refine AF (f:=D.str) (w:=w) rfl (by decide) (by simp) rfl (by walk_at "o") (fun u l K hK=>yu Z1 Z2 Z3 Z4 Z5 hw (p:=a) (i:=2) (ns:=ns) (w:=w) rfl (hGa' _) hK) fun u=>⟨_,_,rfl,?_⟩
    rw[bt];rfl
   | _=>
    refine be false (fun K hK=>iI Z1 Z2 Z3 Z4 Z5 hw (s:=⟨pen,num,time,_⟩) (a:=a) (i:=2) false rfl (hGa' _) (by simp) hK) ?_
    rw[if_neg Bool.false_ne_true];refine⟨_,_,rfl,?_⟩;rw[bt];rfl
  ·rintro σ G' ⟨x2,x3,rfl,rfl⟩
   rw[length_map,hO.1,take_length];exact h p hp
 ·exact h.elim
theorem lO(Z1 Z2 Z3 Z4 Z5:Addr)(hw:HW):bm (bo Z1 Z2 Z3 Z4 Z5 hw) (du Z1 Z2 Z3 Z4 Z5 hw) ["strokes","taken","stroke","name","slot"]:=by
 intro ds G Q h;unfold bo at h;split at h
 ·rename_i xs;obtain⟨ps,o,⟨rfl,hO,hS⟩,h⟩:=h;have hs:=aq;unfold du;rw[ag];walk_at "s1";intro p hp;rw[ag];show ForIn _ _ _ _ (ps.map D.ref) _
  refine⟨fun i σ G'=>∃ x2 x3 x4,σ=[some (.lst (ps.map D.ref)),some (.ref p),x2,x3,x4]/\G'=gset G p (.dT hw (aS Sl.d (cn (o.take i)))),⟨_,_,_,rfl,rfl⟩,?_,?_⟩
  ·rintro i d σ G' hd ⟨x2,x3,x4,rfl,rfl⟩
   obtain⟨a,s,rfl,hsi,hGa⟩:=zh hO hd;have hap:a≠p:=fun z=>by subst z;rw[hp]at hGa;cases hGa
   have hGa':∀ u,gset G p u a=some (bV Z1 Z2 Z3 Z4 Z5 s):=fun u=>by rw[aG hap];exact hGa
   have swd:s.wd<=1000:=hS.2 s (mem_of_getElem? hsi);have bl:(cn (o.take i)).length<=65000:=by
    have h1:=eA ((o.take i).flatMap gB) [];have h2:=hZ hS gB (fun s hs=>r_ hs) i;rw[length_nil]at h1;unfold cn;omega
   have bt:=t9 hsi;simp only[gN,set_cons_succ,set_cons_zero];obtain⟨pen,num,time,act⟩:=s;cases act with
   | move ns an=>
    refine be true (fun K hK=>iI Z1 Z2 Z3 Z4 Z5 hw (s:=⟨pen,num,time,.move ns an⟩) (a:=a) (i:=2) true rfl (hGa' _) (by simp) hK) ?_
    rw[if_pos rfl];unfold fZ wB af az;have hl:ns.length<=1000:=swd;have mw:=jV ⟨pen,num,time,.move ns an⟩;refine ij Z1 Z2 Z3 Z4 Z5 hw (p:=a) (i:=2) (s:=⟨pen,num,time,.move ns an⟩) rfl (hGa' _) (.inr (.inr ⟨an,rfl⟩)) hl ?_;refine ik Z1 Z2 Z3 Z4 Z5 hw (p:=a) (i:=2) (s:=⟨pen,num,time,.move ns an⟩) rfl (hGa' _) (by walk_at "o") ?_
    refine⟨_,_,⟨rfl,rfl⟩,?_⟩;rw[jx];have bl2:=r_ swd;refine AE (f:=Sl.d) (fun _=>rfl) (m:=ns.zip (made ⟨pen,num,time,.move ns an⟩)) (by decide) (by decide) (by decide) (by simp) (by simp) rfl (by show _+(gB ⟨pen,num,time,.move ns an⟩).length < _;omega) fun u v=>⟨_,_,_,rfl,?_⟩
    rw[bt];rfl
   | _=>
    refine be false (fun K hK=>iI Z1 Z2 Z3 Z4 Z5 hw (s:=⟨pen,num,time,_⟩) (a:=a) (i:=2) false rfl (hGa' _) (by simp) hK) ?_
    rw[if_neg Bool.false_ne_true];refine⟨_,_,_,rfl,?_⟩;rw[bt];rfl
  ·rintro σ G' ⟨x2,x3,x4,rfl,rfl⟩
   rw[length_map,hO.1,take_length];exact h p hp
 ·exact h.elim
theorem p_{out:List Rw}(one:fW out)(h:fj out):out.Pairwise e9:=by
 refine List.Pairwise.imp_of_mem (fun {a b} ha hb hab z=>?_) h;have:=one a ha b hb z.1 z.2;subst this;rw[lt_irrefl]at hab;cases hab
theorem mE{xs ys:List Sk}(h:xs.map Sk.rw=ys.map Sk.rw):xs=ys:=List.map_inj_right (f:=Sk.rw) (fun x y=>Sk.rw_inj) |>.mp h
def A8:D->Sl
 | .tup [.str q,.int n,.int k]=>⟨q,n,k⟩
 | _=>default
theorem xn(x:Sl):A8 x.d=x:=rfl
theorem vT(row:List Sl)(sit:List (Sl×Sl)):((row.map Sl.d).filter fun d=>(c8 sit (A8 d)).isSome).map (fun d=>.tup [d,((c8 sit (A8 d)).getD default).d])=(row.filterMap fun s=>(c8 sit s).map fun n=>(s,n)).map fun p=>D.tup [p.1.d,p.2.d]:=by
 induction row with
 | nil=>rfl
 | cons s r ih=>
  rw[map_cons,List.filter_cons,xn];cases e:c8 sit s with
  | none=>
   rw[List.filterMap_cons_none (by rw[e];rfl)]
   simpa using ih
  | some n=>
   rw[List.filterMap_cons_some (b:=(s,n)) (by rw[e];rfl)]
   simp only[Option.isSome_some,if_true,map_cons,ih,xn,e,Option.getD_some]
theorem ui(Z1 Z2 Z3 Z4 Z5:Addr)(hw:HW):bm (c9 Z1 Z2 Z3 Z4 Z5 hw) (gR Z1 Z2 Z3 Z4 Z5 hw) ["old","strokes","standing","row","working","brought","struck","taken","worn","sitting","name","seats"]:=by
 intro ds G Q h;unfold c9 at h;split at h
 ·rename_i x xs ns;obtain⟨sks,base,names,⟨rfl,hx,one,l1,l2,sub,ok,rfl,l3⟩,h⟩:=h;have hs:=aq;have okk:∀ s∈sks,s.ok:=fun s hs'=>⟨(ok s hs').1,le_trans (jV s) (ok s hs').2⟩;unfold gR;rw[ag];walk_at "s1";refine⟨sks,base,⟨rfl,one,l1,l2,sub,okk⟩,fun out G1 hE1 st1 mem1=>?_⟩;have lo:out.length < 64:=by
   have:=gX (hX st1) (ys:=base.map Sk.rw) fun r hr=>by
    obtain⟨s,hs',rfl⟩:=mem_map.mp hr;exact mem_map.mpr ⟨s,sub s ((mem1 s).mp hs'),rfl⟩
   rw[length_map,length_map]at this;omega
  have lrow:(dR x.length out).length<=900000:=by
   have wl:=mj x.length out (bM [aA] aA (fJ x.length)) fun s hs'=>(okk s ((mem1 s).mp hs')).2;have e1:out.foldl cy (bM [aA] aA (fJ x.length))=aA::dR x.length out:=ml x.length out;have ol:(fJ x.length).length=x.length:=bw _ _ _;rw[e1,dz,length_cons,length_cons,ol]at wl;omega
  rw[ag];have h':=fun G' hE=>h out G' hE st1 mem1;clear h;unfold jB at h';generalize dR x.length out=row at lrow h' ⊢;walk_at "s1";refine .inl ⟨row,⟨rfl,lrow⟩,fun pm hpm=>?_⟩;refine⟨sks,base,names,row,⟨rfl,one,l1,l2,sub,fun s hs'=>(ok s hs').2,rfl,l3,rfl⟩,fun out2 ps G2 hE2 st2 mem2 hO2=>?_⟩;have eo:out2=out:=mE (gC st2 st1 fun r=>by
   constructor
   ·intro hr;obtain⟨s,hs',rfl⟩:=mem_map.mp hr;exact mem_map.mpr ⟨s,(mem1 s).mpr ((mem2 s).mp hs'),rfl⟩
   ·intro hr;obtain⟨s,hs',rfl⟩:=mem_map.mp hr;exact mem_map.mpr ⟨s,(mem2 s).mpr ((mem1 s).mp hs'),rfl⟩)
  subst eo;have hE3:io G G2:=hE1.trans ((io.refl.gset hpm).trans hE2);have sw:pZ (fM out2 names row):=⟨le_trans (le_trans (List.length_filter_le _ _) (List.length_filter_le _ _)) (by walk_at "o"),fun s hs'=>(ok s ((mem1 s).mp (mem_filter.mp (mem_filter.mp hs').1).1)).2⟩
  generalize fM out2 names row=w at *
  clear hE2 hpm mem1 mem2 st1 st2 lo;rw[ag];walk_at "s1";refine⟨ps,w,⟨rfl,hO2,sw⟩,fun pb hpb=>?_⟩;have hE4:io G (gset G2 pb (.dT hw (aS D.str (aB x w)))):=hE3.trans (io.refl.gset hpb);have hO4:=hO2.ext (G':=gset G2 pb (.dT hw (aS D.str (aB x w)))) (io.refl.gset hpb);have f1:gset G2 pb (.dT hw (aS D.str (aB x w))) pb=some (.dT hw (aS D.str (aB x w))):=ax;generalize gset G2 pb (.dT hw (aS D.str (aB x w)))=G4 at *
  clear hE3 hO2 hpb;rw[ag];walk_at "s1";refine⟨ps,w,⟨rfl,hO4,sw⟩,fun pk hpk=>?_⟩;have ne1:pb≠pk:=fun z=>by subst z;rw[f1]at hpk;cases hpk
  have hE5:io G4 (gset G4 pk (.dT hw (aS (fun _=>.bl true) (bF w)))):=io.refl.gset hpk;have hO5:=hO4.ext hE5;have f2:gset G4 pk (.dT hw (aS (fun _=>.bl true) (bF w))) pk=some (.dT hw (aS (fun _=>.bl true) (bF w))):=ax;have f1':=hE5 _ _ f1;have hE5':=hE4.trans hE5;generalize gset G4 pk (.dT hw (aS (fun _=>.bl true) (bF w)))=G5 at *
  clear hE4 hO4 hpk hE5 f1;rw[ag];walk_at "s1";refine⟨ps,w,⟨rfl,hO5,sw⟩,fun pt hpt=>?_⟩;have ne2:pb≠pt:=fun z=>by subst z;rw[f1']at hpt;cases hpt
  have ne3:pk≠pt:=fun z=>by subst z;rw[f2]at hpt;cases hpt
  have hE6:io G5 (gset G5 pt (.dT hw (aS Sl.d (cn w)))):=io.refl.gset hpt;have hO6:=hO5.ext hE6;have f3:gset G5 pt (.dT hw (aS Sl.d (cn w))) pt=some (.dT hw (aS Sl.d (cn w))):=ax;have f1:=hE6 _ _ f1';have f2':=hE6 _ _ f2;have hE6':=hE5'.trans hE6;generalize gset G5 pt (.dT hw (aS Sl.d (cn w)))=G6 at *
  clear hE5' hO5 hpt hE6 f1' f2;rw[ag];walk_at "s1";refine⟨ps,w,⟨rfl,hO6,sw⟩,fun pw hpw=>?_⟩;have ne4:pb≠pw:=fun z=>by subst z;rw[f1]at hpw;cases hpw
  have hE7:io G6 (gset G6 pw (.dT hw (aS D.str (ft w)))):=io.refl.gset hpw;have f4:gset G6 pw (.dT hw (aS D.str (ft w))) pw=some (.dT hw (aS D.str (ft w))):=ax;have f1':=hE7 _ _ f1;have f2:=hE7 _ _ f2';have f3':=hE7 _ _ f3;have hE7':=hE6'.trans hE7;generalize gset G6 pw (.dT hw (aS D.str (ft w)))=G7 at *
  clear hE6' hO6 hpw hE7 f1 f2' f3;rw[ag];walk_at "s1";intro pq hpq;have n1:pb≠pq:=fun z=>by subst z;rw[f1']at hpq;cases hpq
  have n2:pk≠pq:=fun z=>by subst z;rw[f2]at hpq;cases hpq
  have n3:pt≠pq:=fun z=>by subst z;rw[f3']at hpq;cases hpq
  have n4:pw≠pq:=fun z=>by subst z;rw[f4]at hpq;cases hpq
  rw[ag];have gb:gset G7 pq (.dT hw []) pb=some (.dT hw (aS D.str (aB x w))):=by rw[aG n1];exact f1'
  refine⟨hw,_,gb,?_⟩;clear gb;have bl:(aB x w).length<=65000:=by
   have h1:=eA ((fJ x.length).zip (vS x) ++ w.flatMap fV) [];have h2:=nE fV (o:=w) fun s hs'=>kT (sw.2 s hs');have h3:=sw.1;rw[length_append,length_nil,length_zip,ve]at h1;unfold aB;omega
  have keys:(aS D.str (aB x w)).map yd=(aB x w).map fun p=>p.1.d:=by
   unfold aS;rw[map_map];rfl
  rw[keys];refine⟨fun i σ G'=>∃ x10,σ=[some (.str x),some (.lst (sks.map Sk.d)),some (.lst (names.map Nm.d)),some (.lst (row.map Sl.d)),some (.lst (ps.map D.ref)),some (.ref pb),some (.ref pk),some (.ref pt),some (.ref pw),some (.ref pq),x10,none]/\G'=gset (fh G7 pb) pq (.dT hw (aS Sl.d (bd [] ((((aB x w).take i).filter fun p=>(c8 (bF w) p.1).isNone).map fun p=>((c8 (cn w) p.1).getD p.1,p.1))))),⟨_,rfl,?_⟩,?_,?_⟩
  ·funext b
   by_cases e1:b=pq
   ·rw[e1,dH n1.symm,ax,ax];rfl
   ·rw[aG e1]
    by_cases e2:b=pb
    ·rw[e2,dG,dG]
    ·rw[dH e2,dH e2,aG e1]
  ·rintro i d σ G' hd ⟨x10,rfl,rfl⟩
   rw[getElem?_map]at hd;cases hq:(aB x w)[i]? with
   | none=>rw[hq]at hd;cases hd
   | some q=>
    rw[hq]at hd;cases hd;have hi:=(List.getElem?_eq_some_iff.mp hq).1;simp only[gN,set_cons_succ,set_cons_zero];generalize hL:(((aB x w).take i).filter fun p=>(c8 (bF w) p.1).isNone).map (fun p=>((c8 (cn w) p.1).getD p.1,p.1))=L;have ll:L.length<=65000:=by
     rw[<- hL,length_map];have:=List.length_filter_le (fun p:Sl×Str=>(c8 (bF w) p.1).isNone) ((aB x w).take i);rw[length_take]at this;omega
    have pl:=eA L [];rw[length_nil]at pl;have tk:(((aB x w).take (i+1)).filter fun p=>(c8 (bF w) p.1).isNone).map (fun p=>((c8 (cn w) p.1).getD p.1,p.1))=L ++ (if (c8 (bF w) q.1).isNone=true then [((c8 (cn w) q.1).getD q.1,q.1)]else []):=by
     rw[take_add_one,hq,List.filter_append,map_append,hL];congr 1
     by_cases e:(c8 (bF w) q.1).isNone=true
     ·rw[if_pos e];simp[e]
     ·rw[if_neg e];simp[e]
    have gk:gset (fh G7 pb) pq (.dT hw (aS Sl.d (bd [] L))) pk=some (.dT hw (aS (fun _=>.bl true) (bF w))):=by rw[aG n2,dH (Ne.symm ne1)];exact f2
    have gt:gset (fh G7 pb) pq (.dT hw (aS Sl.d (bd [] L))) pt=some (.dT hw (aS Sl.d (cn w))):=by rw[aG n3,dH (Ne.symm ne2)];exact f3'
    refine be (c8 (bF w) q.1).isNone (fun K hK=>?_) ?_
    ·show ∃ r,cj hw _ (.ref pk) q.1.d r/\K (!r.isSome) _;refine⟨_,il Z1 Z2 Z3 Z4 Z5 hw q.1 gk,?_⟩;rw[Option.isSome_map];cases e:c8 (bF w) q.1<;>(rw[e]at hK;exact hK)
    ·by_cases e:(c8 (bF w) q.1).isNone=true
     ·rw[if_pos e];show ir _ _/\∃ r,cj hw _ (.ref pt) q.1.d r/\lb hw (.ref pq) (val (r.getD q.1.d)) q.1.d _ _
      refine⟨?_,_,il Z1 Z2 Z3 Z4 Z5 hw q.1 gt,?_⟩
      ·unfold ir;simp only[val,gt]
      ·have ek:val (((c8 (cn w) q.1).map Sl.d).getD q.1.d)=((c8 (cn w) q.1).getD q.1).d:=by cases c8 (cn w) q.1<;>rfl
       rw[ek];refine qd (f:=Sl.d) (w:=q.1) ax (by walk_at "o") ⟨_,rfl,?_⟩
       rw[dF,tk,if_pos e,jl]
     ·rw[if_neg e];refine⟨_,rfl,?_⟩;rw[tk,if_neg e,append_nil]
  ·rintro σ G' ⟨x10,rfl,rfl⟩
   rw[length_map,take_length];dsimp only;have es:bd [] (((aB x w).filter fun p=>(c8 (bF w) p.1).isNone).map fun p=>((c8 (cn w) p.1).getD p.1,p.1))=bW x w:=rfl;rw[es];have g9:gset (gset (fh G7 pb) pq (.dT hw (aS Sl.d (bW x w)))) pb (.dT hw (aS D.str (aB x w))) pq=some (.dT hw (aS Sl.d (bW x w))):=by rw[aG n1.symm,ax]
   have g5:gset (gset (fh G7 pb) pq (.dT hw (aS Sl.d (bW x w)))) pb (.dT hw (aS D.str (aB x w))) pb=some (.dT hw (aS D.str (aB x w))):=ax;have g8:gset (gset (fh G7 pb) pq (.dT hw (aS Sl.d (bW x w)))) pb (.dT hw (aS D.str (aB x w))) pw=some (.dT hw (aS D.str (ft w))):=by rw[aG ne4.symm,aG n4,dH ne4.symm];exact f4
   have gE:io G (gset (gset (fh G7 pb) pq (.dT hw (aS Sl.d (bW x w)))) pb (.dT hw (aS D.str (aB x w)))):=fun a o ha=>by
    have h7:=hE7' a o ha
    by_cases e1:a=pb
    ·rw[e1]at h7 ⊢;rw[g5,<- h7,f1']
    ·rw[aG e1];have e2:a≠pq:=fun z=>by rw[z,hpq]at h7;cases h7
     rw[aG e2,dH e1];exact h7
   generalize gset (gset (fh G7 pb) pq (.dT hw (aS Sl.d (bW x w)))) pb (.dT hw (aS D.str (aB x w)))=G9 at *
   clear f1' f2 f3' f4 hE7' hpq n1 n2 n3 n4 ne1 ne2 ne3 ne4 bl keys es;rw[ag];unfold bx eV eX;simp only[ae,getElem?_cons_zero,getElem?_cons_succ,fR];refine lJ (fun d=>(c8 (bW x w) (A8 d)).isSome) (fun d=>.tup [d,((c8 (bW x w) (A8 d)).getD default).d]) (by rw[length_map];omega) (fun d hd P R hP hR=>?_) ?_
   ·obtain⟨s,hs',rfl⟩:=mem_map.mp hd;rw[xn]at hP hR;refine⟨⟨by simp,rfl⟩,?_⟩
    show ∃ r,cj hw G9 (.ref pq) s.d r/\(if r.isSome=true then _ else R G9)
    refine⟨_,il Z1 Z2 Z3 Z4 Z5 hw s g9,?_⟩;rw[Option.isSome_map];cases e:c8 (bW x w) s with
    | none=>
     rw[e]at hR;simp only[Option.isSome_none,Bool.false_eq_true,if_false];exact hR rfl
    | some n=>
     rw[e]at hP;simp only[Option.isSome_some,if_true];have lk:=il Z1 Z2 Z3 Z4 Z5 hw s g9;rw[e]at lk;show ∃ d,cj hw G9 (.ref pq) s.d (some d)/\_
     exact⟨n.d,lk,by show 2<=sizeLine;omega,hP rfl _ rfl⟩
   ·rw[vT];have eI:(row.filterMap fun s=>(c8 (bW x w) s).map fun n=>(s,n))=iO x w row:=rfl;rw[eI];dsimp only[val];have lI:(iO x w row).length<=900000:=le_trans (List.length_filterMap_le _ _) lrow;have mem:∀ p∈iO x w row,∃ z,c8 (aB x w) p.2=some z:=fun p hp=>by
     unfold iO at hp;obtain⟨s,_,e⟩:=List.mem_filterMap.mp hp;cases e2:c8 (bW x w) s with
     | none=>rw[e2]at e;cases e
     | some n=>
      rw[e2]at e;cases e;have m1:=vI e2;unfold bW at m1;rcases pr m1 with m2|m2
      ·simp at m2
      ·obtain⟨q,hq,e3⟩:=mem_map.mp m2;have hq':=(mem_filter.mp hq).1;obtain⟨z,hz⟩:=yJ hq';injection e3 with e4 e5
       exact⟨z,by show c8 (aB x w) n=some z;rw[<- e5];exact hz⟩
    unfold dJ;simp only[getElem?_cons_zero,getElem?_cons_succ,set_cons_zero,set_cons_succ,fR];refine fF (fun d=>match d with|.tup [a,b]=>.tup [a,b,.str ((c8 (aB x w) (A8 b)).getD (Str.ofString "")),.str ((c8 (ft w) (A8 b)).getD (Str.ofString ""))]|d=>d) (by rw[length_map];omega) (fun d hd P hP=>?_) ?_
    ·obtain⟨p,hp,rfl⟩:=mem_map.mp hd;obtain⟨z,hz⟩:=mem p hp;refine⟨rfl,⟨by simp,rfl⟩,?_⟩
     have lk:=il Z1 Z2 Z3 Z4 Z5 hw p.2 g5;rw[hz]at lk;show ∃ d,cj hw G9 (.ref pb) p.2.d (some d)/\ir G9 _/\∃ r,cj hw G9 (.ref pw) p.2.d r/\_
     refine⟨.str z,lk,?_,_,il Z1 Z2 Z3 Z4 Z5 hw p.2 g8,by show 4<=sizeLine;omega,hP _ ?_⟩
     ·unfold ir;simp only[val,g8]
     ·show D.tup [p.1.d,p.2.d,.str z,val (((c8 (ft w) p.2).map D.str).getD (.str (Str.ofString "")))]=D.tup [p.1.d,p.2.d,.str ((c8 (aB x w) p.2).getD (Str.ofString "")),.str ((c8 (ft w) p.2).getD (Str.ofString ""))];rw[hz];cases c8 (ft w) p.2<;>rfl
    ·have:=h' G9 gE;rw[map_map]at this;rw[map_map];exact this
 ·exact h.elim
theorem qj(Z1 Z2 Z3 Z4 Z5:Addr)(hw:HW):bm (bS Z1 Z2 Z3 Z4 Z5 hw) (fy Z1 Z2 Z3 Z4 Z5 hw) ["_law_row"]:=by
 intro ds G Q h;unfold bS at h;split at h
 ·obtain⟨r,rfl,h⟩:=h;have hs:=aq;unfold fy Rw.d;walk_at "st"
  first|exact⟨by walk_at "o",h⟩|omega
 ·exact h.elim
theorem lP(Z1 Z2 Z3 Z4 Z5:Addr)(hw:HW):bm (aY Z1 Z2 Z3 Z4 Z5 hw) (dw Z1 Z2 Z3 Z4 Z5 hw) ["_law_cell","_law_many","_law_found","_law_number","_law_k"]:=by
 intro ds G Q h;unfold aY at h;split at h
 ·rename_i c m;obtain⟨⟨h1,h2⟩,h⟩:=h;have hs:=aq;unfold dw;rw[ag];walk_at "s1";refine⟨by walk_at "o",fun p hp=>?_⟩
  rw[ag];walk_at "s1";refine⟨.inr ⟨by decide,by decide⟩,by decide,?_⟩
  have b0:=cU (a:=(c+1)*48271) (b:=2147483647) (by decide)
  generalize (c+1)*48271 % 2147483647=n0 at *
  rw[ag];walk_at "s1";refine⟨⟨by walk_at "o",by walk_at "o"⟩,fun i σ G'=>∃ (xs:List Int) (n:Int) (v:Option D),(σ=[some (.int c),some (.int m),some (.ref p),some (.int n),v]/\G'=gset G p (.lst (xs.map D.int)))/\xs.length=i/\(0<=n/\n < 2147483647)/\∀ x∈xs,0<=x/\x < 2147483647,
   ⟨[],n0,_,⟨rfl,rfl⟩,rfl,b0,by simp⟩,?_,?_⟩
  ·rintro i d σ G' hd ⟨xs,n,v,⟨rfl,rfl⟩,hl,hn,hx⟩
   obtain⟨hi,rfl⟩:=uo hd;simp only[gN,set_cons_succ,set_cons_zero];rw[ag];walk_at "s1";have b1:=cU (a:=(n+7919*(0+(i:Nat))+1)*(n / 1009+69621)) (b:=2147483647) (by decide)
   refine⟨.inl ⟨by decide,by decide⟩,⟨by decide,by decide⟩,.inl ⟨by walk_at "o",by walk_at "o"⟩,by decide,?_⟩
   generalize (n+7919*(0+(i:Nat))+1)*(n / 1009+69621) % 2147483647=n1 at *
   refine⟨by rw[length_map];omega,xs ++ [n1],n1,_,⟨⟨rfl,rfl⟩,by rw[map_append];rfl⟩,by rw[length_append,hl];rfl,b1,fun x hx'=>?_⟩
   rcases mem_append.mp hx' with hx'|hx'
   ·exact hx x hx'
   ·rw[mem_singleton.mp hx'];exact b1
  ·rintro σ G' ⟨xs,n,v,⟨rfl,rfl⟩,hl,hn,hx⟩
   rw[bY]at hl;simp only[fq,getElem?_cons_succ,getElem?_cons_zero,ax];rw[pH hp];exact h xs (by walk_at "o") hx
 ·exact h.elim
theorem kg(Z1 Z2 Z3 Z4 Z5:Addr)(hw:HW):bm (aZ Z1 Z2 Z3 Z4 Z5 hw) (c5 Z1 Z2 Z3 Z4 Z5 hw) ["_law_script","_law_k"]:=by
 intro ds G Q h;unfold aZ at h;split at h
 ·rename_i xs k;obtain⟨ns,⟨rfl,h0⟩,h⟩:=h;unfold c5;rw[ag];refine be (decide (k < ns.length)) (fun K hK=>?_) (ite2 (fun e=>?_) fun e=>?_)
  ·walk_at "st";rw[length_map];exact hK
  ·rw[decide_eq_true_eq]at e;walk_at "st";rw[rQ h0 e];exact h _
  ·walk_at "st"
   first|done|exact h _
 ·exact h.elim
theorem fY(s:Sl)(n:Nat):pl (n+1) s.d:=by
 intro d hd;simp only[mem_cons,not_mem_nil,or_false]at hd;rcases hd with rfl|rfl|rfl<;>cases n<;>trivial
theorem mC(ss:List Sl)(n:Nat):∀ d∈ss.map Sl.d,pl (n+1) d:=fun d hd=>by
 obtain⟨s,_,rfl⟩:=mem_map.mp hd;exact fY s n
def xU(p:Str)(n:Int):D->D
 | .int k=>.tup [.str p,.int n,.int (k+1)]
 | d=>d
theorem mS(p:Str)(n:Int)(m:Nat):(d6 0 m).map (xU p n)=(aQ p n m).map Sl.d:=by
 unfold d6 aQ;rw[map_map,map_map];refine map_congr_left fun k _=>?_;simp only[Function.comp,Sl.d,xU,Int.zero_add]
theorem gv{t u:mv}{σ:fH}{G:Gp}(b1 b2:Bool)(h1:∀ K:Bool->Gp->Prop,K b1 G->t σ G K)(h2:b1=true->∀ K:Bool->Gp->Prop,K b2 G->u σ G K):∀ K:Bool->Gp->Prop,K (b1 && b2) G->o7 t u σ G K:=fun K hK=>by
 unfold o7;refine h1 _ ?_;cases b1 with
 | true=>rw[if_pos rfl];exact h2 rfl K hK
 | false=>rw[if_neg (by decide)];exact hK
theorem A3{t u:mv}{σ:fH}{G:Gp}(b1 b2:Bool)(h1:∀ K:Bool->Gp->Prop,K b1 G->t σ G K)(h2:b1=false->∀ K:Bool->Gp->Prop,K b2 G->u σ G K):∀ K:Bool->Gp->Prop,K (b1 || b2) G->xi t u σ G K:=fun K hK=>by
 unfold xi;refine h1 _ ?_;cases b1 with
 | true=>rw[if_pos rfl];exact hK
 | false=>rw[if_neg (by decide)];exact h2 rfl K hK
theorem jH(Z1 Z2 Z3 Z4 Z5:Addr)(hw:HW):bm (bc Z1 Z2 Z3 Z4 Z5 hw) (cO Z1 Z2 Z3 Z4 Z5 hw) ["_law_rows","_law_cell","_law_found","_law_k"]:=by
 intro ds G Q h;unfold bc at h;split at h
 ·rename_i xs c;obtain⟨sks,⟨rfl,hl⟩,h⟩:=h;have hs:=aq;unfold cO;rw[ag];walk_at "s1";refine⟨by walk_at "o",fun p hp=>?_⟩
  rw[ag];walk_at "s1";rw[length_map];refine⟨⟨by (omega),by (omega)⟩,fun i σ G'=>∃ (names:List Nm) (x3:Option D),σ=[some (.lst (sks.map Sk.d)),some (.int c),some (.ref p),x3]/\G' p=some (.lst (names.map Nm.d))/\names.length<=i,⟨[],_,rfl,ax,le_refl _⟩,?_,?_⟩
  ·rintro i d σ G' hd ⟨names,x3,rfl,hG,hn⟩
   rw[Int.toNat_natCast]at hd;have hi:i < sks.length:=by
    have:=(List.getElem?_eq_some_iff.mp hd).1;rw[bY]at this;exact this
   obtain⟨k,hk,rfl⟩:=mem_map.mp (mem_of_getElem? hd);have hk':=mem_range.mp hk;simp only[gN,set_cons_succ,set_cons_zero];walk_at "s1";refine⟨by unfold yO;omega,by decide,fun zs hz hb=>?_⟩
   obtain⟨z0,z1,rfl⟩:∃ z0 z1,zs=[z0,z1]:=by
    match zs,hz with
    | [a,b],_=>exact⟨a,b,rfl⟩
    | [],e=>simp at e
    | [_],e=>simp at e
    | _::_::_::_,e=>simp at e;omega
   have a1:g6 ([z0,z1].map D.int) 1=some (.int z1):=rfl;rw[a1];dsimp only;refine⟨by decide,?_⟩
   have ak:g6 (sks.map Sk.d) (0+(k:Int))=some (sks.getD k default).d:=by
    have:=rQ (f:=Sk.d) (xs:=sks) (i:=0+(k:Int)) (by walk_at "o") (by walk_at "o")
    rw[this];simp
   rw[ak];split
   ·show (names.map Nm.d).length < sizeLine/\_;exact⟨by rw[length_map];omega,names ++ [(sks.getD k default).nm],by rw[map_append];rfl,by rw[length_append];simp;omega⟩
   ·exact⟨names,rfl,by walk_at "o"⟩
  ·rintro σ G' ⟨names,x3,rfl,hG,hn⟩
   rw[Int.toNat_natCast,bY]at hn;walk_at "st";exact h names _ (by walk_at "o")
 ·exact h.elim
theorem zL(x:Sl)(ss:List Sl):oq x.d (ss.map Sl.d)=decide (x∈ss):=by
 by_cases h:x∈ss
 ·rw[decide_eq_true h];exact mZ.mpr (List.mem_map_of_mem h)
 ·rw[decide_eq_false h];refine m3.mpr fun z=>?_;obtain⟨y,hy,e⟩:=mem_map.mp z;exact h (Sl.d_inj e ▸ hy)
theorem yj{x:Sl}{ss:List Sl}{d:D}{G:Gp}{Q:oW}(hd:d=.tup (ss.map Sl.d)\/d=.lst (ss.map Sl.d))(h:Q (.bl (decide (x∈ss))) G):AC x.d d G Q:=by
 have e:wX G d=some (ss.map Sl.d):=by rcases hd with rfl|rfl<;>rfl
 unfold AC;rw[e];refine⟨⟨fY x 6,mC ss 6⟩,?_⟩;rw[zL];exact h
theorem n_(Z1 Z2 Z3 Z4 Z5:Addr)(hw:HW):bm (bR Z1 Z2 Z3 Z4 Z5 hw) (eO Z1 Z2 Z3 Z4 Z5 hw) ["_law_name","_law_acts","_law_slots","_law_seat_here","_law_one","_law_time","_law_act","_law_slot"]:=by
 intro ds G Q h;unfold bR at h;split at h
 ·rename_i a xs ys;obtain⟨name,acts,slots,⟨rfl,rfl,rfl⟩,h⟩:=h;have hs:=aq;unfold eO;rw[ag];unfold bx;simp only[ae,fb,map_cons,map_nil,cons_append,nil_append,List.replicate,getElem?_cons_zero,getElem?_cons_succ,length_cons,length_nil,set_cons_zero,set_cons_succ,Nat.reduceAdd,Nat.reduceSub];rw[ag];have vn:∀ x:Sl,val x.d=x.d:=fun _=>rfl;rw[vn];show ForIn _ _ _ _ (acts.map Sk.d) _
  refine⟨fun i σ G'=>∃ x4 x5 x6 x7,σ=[some name.d,some (.lst (acts.map Sk.d)),some (.lst (slots.map Sl.d)),some ((acts.take i).foldl (dQ name slots) name).d,x4,x5,x6,x7]/\G'=G,⟨_,_,_,_,rfl,rfl⟩,?_,?_⟩
  ·rintro i d σ G' hd ⟨x4,x5,x6,x7,rfl,rfl⟩
   rw[getElem?_map]at hd;cases hq:acts[i]? with
   | none=>rw[hq]at hd;cases hd
   | some s=>
    rw[hq]at hd;cases hd;have tk:(acts.take (i+1)).foldl (dQ name slots) name=dQ name slots ((acts.take i).foldl (dQ name slots) name) s:=by rw[take_add_one,hq,List.foldl_append];rfl
    generalize (acts.take i).foldl (dQ name slots) name=cur at tk;obtain⟨pen,num,time,act⟩:=s;show _/\_
    refine⟨rfl,?_⟩;simp only[bX,gY,gN,set_cons_succ,set_cons_zero];unfold Act.d;cases act with
    | move ns an=>
     have ht1:dZ (.str (Str.ofString "move")) (.str (Str.ofString "move"))=true:=bj _;refine be (true && decide (name∈ns)) (gv true _ (fun K hK=>?_) fun _ K hK=>?_) ?_
     ·walk_at "st"
     ·walk_at "st";exact yj (.inl rfl) hK
     ·rw[Bool.true_and]
      by_cases hn:name∈ns
      ·rw[decide_eq_true hn,if_pos rfl];rw[ag];walk_at "s1";refine⟨⟨fY name 6,mC ns 6,List.mem_map_of_mem hn⟩,by walk_at "o",?_⟩
       refine yj (x:=⟨pen,num,1+(cT name.d (ns.map Sl.d):Int)⟩) (.inr rfl) ?_;dsimp only
       by_cases hin:(⟨pen,num,1+(cT name.d (ns.map Sl.d):Int)⟩:Sl)∈slots
       ·rw[decide_eq_true hin,if_pos rfl];have en:dQ name slots cur ⟨pen,num,time,.move ns an⟩=⟨pen,num,1+(cT name.d (ns.map Sl.d):Int)⟩:=by
         unfold dQ;dsimp only;rw[if_pos ⟨hn,hin⟩]
        exact⟨_,_,_,_,⟨by rw[en];rfl,rfl,rfl,rfl,rfl⟩,rfl⟩
       ·rw[decide_eq_false hin,if_neg Bool.false_ne_true];have en:dQ name slots cur ⟨pen,num,time,.move ns an⟩=cur:=by
         unfold dQ;dsimp only;rw[if_neg (fun z=>hin z.2)]
        exact⟨_,_,_,_,⟨by rw[en],rfl,rfl,rfl,rfl⟩,rfl⟩
      ·rw[decide_eq_false hn,if_neg Bool.false_ne_true];have en:(acts.take (i+1)).foldl (dQ name slots) name=cur:=by
        rw[tk];unfold dQ;dsimp only;rw[if_neg (fun z=>hn z.1)]
       exact⟨_,_,_,_,by rw[en],rfl⟩
    | put b x=>
     have ht1:dZ (.str (Str.ofString "put")) (.str (Str.ofString "move"))=false:=de (by decide +kernel)
     refine be (false && true) (gv false true (fun K hK=>?_) fun z=>nomatch z) ?_
     ·walk_at "st"
     ·exact⟨_,_,_,_,by rw[tk];rfl,rfl⟩
    | strike ns=>
     have ht1:dZ (.str (Str.ofString "strike")) (.str (Str.ofString "move"))=false:=de (by decide +kernel)
     refine be (false && true) (gv false true (fun K hK=>?_) fun z=>nomatch z) ?_
     ·walk_at "st"
     ·exact⟨_,_,_,_,by rw[tk];rfl,rfl⟩
    | dress ns w=>
     have ht1:dZ (.str (Str.ofString "dress")) (.str (Str.ofString "move"))=false:=de (by decide +kernel)
     refine be (false && true) (gv false true (fun K hK=>?_) fun z=>nomatch z) ?_
     ·walk_at "st"
     ·exact⟨_,_,_,_,by rw[tk];rfl,rfl⟩
  ·rintro σ G' ⟨x4,x5,x6,x7,rfl,rfl⟩
   rw[length_map,take_length];exact h
 ·exact h.elim
theorem n8(Z1 Z2 Z3 Z4 Z5:Addr)(hw:HW):bm (bQ Z1 Z2 Z3 Z4 Z5 hw) (eN Z1 Z2 Z3 Z4 Z5 hw) ["_law_name","_law_acts","_law_word_here","_law_one","_law_time","_law_act"]:=by
 intro ds G Q h;unfold bQ at h;split at h
 ·rename_i a xs;obtain⟨name,acts,⟨rfl,rfl⟩,h⟩:=h;have hs:=aq;unfold eN;rw[ag];unfold bx;simp only[eC,fb,map_cons,map_nil,cons_append,nil_append,List.replicate,getElem?_cons_zero,getElem?_cons_succ,length_cons,length_nil,set_cons_zero,set_cons_succ,Nat.reduceAdd,Nat.reduceSub];rw[ag];show ForIn _ _ _ _ (acts.map Sk.d) _
  refine⟨fun i σ G'=>∃ x3 x4 x5,σ=[some name.d,some (.lst (acts.map Sk.d)),some (.str ((acts.take i).foldl (fu name) (Str.ofString ""))),x3,x4,x5]/\G'=G,⟨_,_,_,rfl,rfl⟩,?_,?_⟩
  ·rintro i d σ G' hd ⟨x3,x4,x5,rfl,rfl⟩
   rw[getElem?_map]at hd;cases hq:acts[i]? with
   | none=>rw[hq]at hd;cases hd
   | some s=>
    rw[hq]at hd;cases hd;have tk:(acts.take (i+1)).foldl (fu name) (Str.ofString "")=fu name ((acts.take i).foldl (fu name) (Str.ofString "")) s:=by rw[take_add_one,hq,List.foldl_append];rfl
    generalize (acts.take i).foldl (fu name) (Str.ofString "")=cur at tk;obtain⟨pen,num,time,act⟩:=s;show _/\_
    refine⟨rfl,?_⟩;simp only[bX,gY,gN,set_cons_succ,set_cons_zero];unfold Act.d;cases act with
    | dress ns w=>
     have ht1:dZ (.str (Str.ofString "dress")) (.str (Str.ofString "dress"))=true:=bj _;refine be (true && decide (name∈ns)) (gv true _ (fun K hK=>?_) fun _ K hK=>?_) ?_
     ·walk_at "st"
     ·walk_at "st";exact yj (.inl rfl) hK
     ·rw[Bool.true_and]
      by_cases hn:name∈ns
      ·rw[decide_eq_true hn,if_pos rfl];have en:fu name cur ⟨pen,num,time,.dress ns w⟩=w:=by
        unfold fu;dsimp only;rw[if_pos hn]
       walk_at "s1";exact⟨_,_,_,rfl,rfl,rfl⟩
      ·rw[decide_eq_false hn,if_neg Bool.false_ne_true];have en:(acts.take (i+1)).foldl (fu name) (Str.ofString "")=cur:=by
        rw[tk];unfold fu;dsimp only;rw[if_neg hn]
       exact⟨_,_,_,by rw[en],rfl⟩
    | put b x=>
     have ht1:dZ (.str (Str.ofString "put")) (.str (Str.ofString "dress"))=false:=de (by decide +kernel)
     refine be (false && true) (gv false true (fun K hK=>?_) fun z=>nomatch z) ?_
     ·walk_at "st"
     ·exact⟨_,_,_,by rw[tk];rfl,rfl⟩
    | strike ns=>
     have ht1:dZ (.str (Str.ofString "strike")) (.str (Str.ofString "dress"))=false:=de (by decide +kernel)
     refine be (false && true) (gv false true (fun K hK=>?_) fun z=>nomatch z) ?_
     ·walk_at "st"
     ·exact⟨_,_,_,by rw[tk];rfl,rfl⟩
    | move ns w=>
     have ht1:dZ (.str (Str.ofString "move")) (.str (Str.ofString "dress"))=false:=de (by decide +kernel)
     refine be (false && true) (gv false true (fun K hK=>?_) fun z=>nomatch z) ?_
     ·walk_at "st"
     ·exact⟨_,_,_,by rw[tk];rfl,rfl⟩
  ·rintro σ G' ⟨x3,x4,x5,rfl,rfl⟩
   rw[length_map,take_length];exact h
 ·exact h.elim
theorem uY(ss:List Sl)(lo hi:Option Int):∃ tl:List Sl,L3.cutD (ss.map Sl.d) lo hi=tl.map Sl.d/\tl.Sublist ss/\tl.length<=HT.sIx ss.length ss.length hi - HT.sIx ss.length 0 lo:=by
 refine⟨(ss.drop (HT.sIx ss.length 0 lo)).take (HT.sIx ss.length ss.length hi - HT.sIx ss.length 0 lo),?_,(List.take_sublist _ _).trans (List.drop_sublist _ _),List.length_take_le _ _⟩;unfold L3.cutD;rw[length_map,List.map_take,List.map_drop]
theorem wO{sks:List Sk}{sk:Sk}(ap:(sks.map Sk.rw).Pairwise e9)(hm:∀ s∈sks,s.pen=sk.pen->s.num < sk.num):((sks ++ [sk]).map Sk.rw).Pairwise e9:=by
 rw[map_append,List.pairwise_append];refine⟨ap,List.pairwise_singleton _ _,fun r hr r' hr' z=>?_⟩;obtain⟨s,hs',rfl⟩:=mem_map.mp hr;have e:r'=sk.rw:=by simpa using hr'
 rw[e]at z;have h1:=hm s hs' z.1;have h2:s.num=sk.num:=z.2;omega
def AA(ns:List Int)(ps:List Str)(x:Str)(p q:Addr)(i:Nat)(σ:fH)(G:Gp):Prop:=
 ∃ (sks:List Sk) (kvs:List (aN×D)) (ss sl:List Sl) (x7 x8 x9 x10 x11 x12 x13 x14 x15:Option D),(σ=[some (.lst (ns.map D.int)),some (.lst (ps.map D.str)),some (.str x),some (.lst (ss.map Sl.d)),some (.lst (sl.map Sl.d)),some (.ref p),some (.ref q),x7,x8,x9,x10,x11,x12,x13,x14,x15]/\G p=some (.lst (sks.map Sk.d))/\G q=some (.dK kvs))/\
  (sks.length=i/\kvs.length<=i/\0 < ss.length/\ss.length<=13+3*i/\0 < sl.length/\sl.length<=14+120*i)/\
  (∀ s∈sks,1<=s.num/\s.wd<=3/\s.act.nodup)/\(sks.map Sk.rw).Pairwise e9/\(∀ k d,dN kvs k=some d->∃ m:Int,d=.int m/\0<=m)/\(∀ s∈sks,∃ m:Int,dN kvs (.inr s.pen)=some (.int m)/\s.num<=m)/\
  ss.Nodup/\∀ s∈ss,s.n=0\/s.pen=Str.ofString "zoe"\/∃ m:Int,dN kvs (.inr s.pen)=some (.int m)/\s.n<=m
theorem ke(Z1 Z2 Z3 Z4 Z5:Addr)(hw:HW):bm (bh Z1 Z2 Z3 Z4 Z5 hw) (cZ Z1 Z2 Z3 Z4 Z5 hw) ["_law_cells","_law_pens","_law_old","_law_signs","_law_slots","_law_rows","_law_many","_law_cell","_law_xs","_law_pen","_law_name","_law_anchor","_law_at","_law_names","_law_act","_law_dress"]:=by
 intro ds G Q h;unfold bh at h;split at h
 ·rename_i cs pens x;obtain⟨ns,ps,⟨rfl,l1,rfl,l2,l3,l4,zoe⟩,h⟩:=h;have hs:=aq;unfold cZ;rw[ag];walk_at "s1";refine⟨by walk_at "o",⟨by (omega),by (omega)⟩,fF (xU (Str.ofString "") 0) (by rw[bY];omega) (fun d hd P hP=>?_) ?_⟩
  ·obtain⟨k,hk,rfl⟩:=mem_map.mp hd;walk_at "st";exact⟨rfl,by walk_at "o",hP _ rfl⟩
  rw[mS,Int.toNat_natCast];have lo:(aQ (Str.ofString "") 0 x.length).length=x.length:=bw _ _ _;have nd0:(aQ (Str.ofString "") 0 x.length ++ [(⟨Str.ofString "zoe",1,1⟩:Sl)]).Nodup:=by
   rw[List.nodup_append];refine⟨dy _ _ _,by simp,fun a ha b hb=>?_⟩
   rw[mem_singleton.mp hb];intro z;have:=(bv ha).2.1;rw[z]at this;exact absurd this (by decide)
  have in0:∀ s∈aQ (Str.ofString "") 0 x.length ++ [(⟨Str.ofString "zoe",1,1⟩:Sl)],s.n=0\/s.pen=Str.ofString "zoe":=fun s hs'=>by
   rcases mem_append.mp hs' with z|z
   ·exact .inl (bv z).2.1
   ·rw[mem_singleton.mp z];exact .inr rfl
  dsimp only;refine⟨by walk_at "o",by walk_at "o",by simp only[length_map,length_cons,length_nil];omega,?_⟩
  have e0:(aQ (Str.ofString "") 0 x.length).map Sl.d ++ [D.tup [.str (Str.ofString "zoe"),.int 1,.int 1]]=(aQ (Str.ofString "") 0 x.length ++ [(⟨Str.ofString "zoe",1,1⟩:Sl)]).map Sl.d:=by rw[map_append];rfl
  rw[e0];have ls0:(aQ (Str.ofString "") 0 x.length ++ [(⟨Str.ofString "zoe",1,1⟩:Sl)]).length=x.length+1:=by rw[length_append,lo];rfl
  clear e0 lo;generalize aQ (Str.ofString "") 0 x.length ++ [(⟨Str.ofString "zoe",1,1⟩:Sl)]=ss0 at *
  rw[ag];walk_at "s1";rw[length_map];refine⟨by walk_at "o",by walk_at "o",by walk_at "o",?_⟩
  have es:D.tup [.str (Str.ofString ""),.int 0,.int 0]::ss0.map Sl.d=(aA::ss0).map Sl.d:=rfl;rw[es];clear es;rw[ag];walk_at "s1";refine⟨by walk_at "o",fun p hp=>?_⟩
  rw[ag];walk_at "s1";intro q hq;have hpq:p≠q:=fun z=>by subst z;rw[ax]at hq;cases hq
  rw[ag];walk_at "s1";refine⟨AA ns ps x p q,⟨[],[],ss0,aA::ss0,_,_,_,_,_,_,_,_,_,⟨rfl,by rw[aG hpq,ax];rfl,ax⟩,⟨rfl,le_refl _,by walk_at "o",by walk_at "o",by rw[length_cons];omega,by rw[length_cons];omega⟩,fun r hr=>by simp at hr,.nil,fun k d e=>by simp[dN]at e,fun r hr=>by simp at hr,nd0,fun s hs'=>(in0 s hs').elim .inl fun z=>.inr (.inl z)⟩,?_,?_⟩
  ·clear hq hp ls0 nd0 in0;clear ss0
   rintro i d σ G' hd ⟨sks,kvs,ss,sl,x7,x8,x9,x10,x11,x12,x13,x14,x15,⟨rfl,g1,g2⟩,⟨e1,e2,e3,e4,e5,e6⟩,ok,ap,kv,last,nd,own⟩
   obtain⟨c,rfl⟩:∃ c:Int,d=.int c:=by
    obtain⟨c,_,rfl⟩:=mem_map.mp (mem_of_getElem? hd);exact⟨c,rfl⟩
   have hi:i < 32:=by
    have:=(List.getElem?_eq_some_iff.mp hd).1;rw[length_map]at this;omega
   clear hd;simp only[gN,set_cons_succ,set_cons_zero];rw[ag];walk_at "s1";walk_at "conds";intro xs hx hb;obtain⟨a0,a1,a2,a3,a4,a5,a6,a7,rfl⟩:=Dh (ns:=xs) (by walk_at "o")
   rw[ag];walk_at "s1";rw[length_map];have bp:=cU (a:=a0) (b:=(ps.length:Int)) (by walk_at "o")
   refine⟨by walk_at "o",?_⟩
   rw[rQ bp.1 bp.2];dsimp only;have penZ:ps.getD (a0 % (ps.length:Int)).toNat default≠Str.ofString "zoe":=fun z=>zoe (by
    rw[<- z];have hlt:(a0 % (ps.length:Int)).toNat < ps.length:=by walk_at "o"
    rw[getD_eq_getElem?_getD,getElem?_eq_getElem hlt];exact getElem_mem hlt)
   generalize ps.getD (a0 % (ps.length:Int)).toNat default=pen at penZ ⊢;obtain⟨m0,hm0,em,mx,mo⟩:∃ m0:Int,0<=m0/\(dN kvs (.inr pen)).getD (.int 0)=.int m0/\(∀ r∈sks,r.pen=pen->r.num<=m0)/\∀ s∈ss,s.pen=pen->s.n<=m0:=by
    cases e:dN kvs (.inr pen) with
    | none=>
     refine⟨0,by decide,rfl,fun r hr z=>?_,fun s hs' z=>?_⟩
     ·obtain⟨m,hm,_⟩:=last r hr;rw[z,e]at hm;cases hm
     ·rcases own s hs' with h0|h0|⟨m,hm,_⟩
      ·omega
      ·exact absurd (z.symm.trans h0) penZ
      ·rw[z,e]at hm;cases hm
    | some d=>
     obtain⟨m,rfl,h0⟩:=kv _ _ e;refine⟨m,h0,rfl,fun r hr z=>?_,fun s hs' z=>?_⟩
     ·obtain⟨m',hm,hle⟩:=last r hr;rw[z,e]at hm;cases hm;exact hle
     ·rcases own s hs' with h1|h1|⟨m',hm,hle⟩
      ·omega
      ·exact absurd (z.symm.trans h1) penZ
      ·rw[z,e]at hm;cases hm;exact hle
   rw[ag];walk_at "s1";refine⟨by walk_at "o",?_⟩
   have ad:dN (cm kvs (.inr pen) (.int (m0+1))) (.inr pen)=some (.int (m0+1)):=by rw[gA,if_pos rfl]
   have kl:=fB kvs (.inr pen) (.int (m0+1));have kv':∀ k d,dN (cm kvs (.inr pen) (.int (m0+1))) k=some d->∃ m:Int,d=.int m/\0<=m:=fun k d e=>by
    rw[gA]at e;split at e
    ·cases e;exact⟨_,rfl,by walk_at "o"⟩
    ·exact kv k d e
   have last':∀ s∈sks,∃ m:Int,dN (cm kvs (.inr pen) (.int (m0+1))) (.inr s.pen)=some (.int m)/\s.num<=m:=fun s hs'=>by
    rw[gA]
    by_cases z:(Sum.inr s.pen:aN)=.inr pen
    ·rw[if_pos z];refine⟨_,rfl,?_⟩;have:=mx s hs' (by simpa using z)
     omega
    ·rw[if_neg z];exact last s hs'
   have own':∀ s∈ss,s.n=0\/s.pen=Str.ofString "zoe"\/∃ m:Int,dN (cm kvs (.inr pen) (.int (m0+1))) (.inr s.pen)=some (.int m)/\s.n<=m:=fun s hs'=>by
    rcases own s hs' with h1|h1|⟨m,hm,hle⟩
    ·exact .inl h1
    ·exact .inr (.inl h1)
    ·refine .inr (.inr ?_);rw[gA]
     by_cases z:(Sum.inr s.pen:aN)=.inr pen
     ·rw[if_pos z];refine⟨_,rfl,?_⟩;have:=mo s hs' (by simpa using z)
      omega
     ·rw[if_neg z];exact⟨m,hm,hle⟩
   have g3:gset G' q (.dK (cm kvs (.inr pen) (.int (m0+1)))) p=some (.lst (sks.map Sk.d)):=by rw[aG hpq];exact g1
   have g4:gset G' q (.dK (cm kvs (.inr pen) (.int (m0+1)))) q=some (.dK (cm kvs (.inr pen) (.int (m0+1)))):=ax;generalize gset G' q (.dK (cm kvs (.inr pen) (.int (m0+1))))=G3 at *
   generalize cm kvs (.inr pen) (.int (m0+1))=kvs1 at *
   clear kv last em g1 g2 own;have e7:kvs1.length<=i+1:=by walk_at "o"
   clear kl e2;rw[ag];walk_at "s1";refine⟨by walk_at "o",?_⟩
   rw[ag];walk_at "s1";rw[length_map];have bs:=cU (a:=a2) (b:=(sl.length:Int)) (by walk_at "o")
   refine⟨by walk_at "o",?_⟩
   rw[rQ bs.1 bs.2];dsimp only;generalize sl.getD (a2 % (sl.length:Int)).toNat default=an at *
   have ea:an.d=.tup [.str an.pen,.int an.n,.int an.k]:=rfl;rw[ea];clear ea bs bp;rw[ag];walk_at "s1";rw[length_map];have ba:=cU (a:=a3) (b:=(ss.length:Int)) (by walk_at "o")
   refine⟨by walk_at "o",?_⟩
   rw[ag];walk_at "s1";have b3:=cU (a:=a4) (b:=3) (by decide)
   refine⟨by decide,?_⟩
   obtain⟨nm0,enm,snm,lnm0⟩:=uY ss (some (a3 % (ss.length:Int))) (some (a3 % (ss.length:Int)+1+a4 % 3));rw[enm];clear enm;have ndm0:nm0.Nodup:=nd.sublist snm;have lnm:nm0.length<=3:=by
    unfold HT.sIx at lnm0;dsimp only at lnm0;rw[if_neg (by walk_at "o"),if_neg (by walk_at "o")]at lnm0
    omega
   clear lnm0 snm;refine xp (NX:=fun σ' G'=>∃ nm:List Sl,(σ'=[some (.lst (ns.map D.int)),some (.lst (ps.map D.str)),some (.str x),some (.lst (ss.map Sl.d)),some (.lst (sl.map Sl.d)),some (.ref p),some (.ref q),some (.int c),some (.lst [.int a0,.int a1,.int a2,.int a3,.int a4,.int a5,.int a6,.int a7]),some (.str pen),some (.tup [.str pen,.int (m0+1)]),some (.tup [.str an.pen,.int an.n,.int an.k]),some (.int (a3 % (ss.length:Int))),some (.tup (nm.map Sl.d)),x14,x15]/\G'=G3)/\nm.Nodup/\nm.length<=3) (fun σ' G4 hM=>?_) (fun NX hNX=>?_)
   ·obtain⟨nm,⟨rfl,rfl⟩,ndm,lm3⟩:=hM;clear lnm ndm0;clear nm0;rw[ag];walk_at "s1";obtain⟨wd,hwd,lwd⟩:∃ wd:Str,g6 [D.str (Str.ofString "a"),D.str (Str.ofString "b\n"),D.str (Str.ofString "xyz")] (a4 % 3)=some (.str wd)/\wd.length<=3:=by
     have:a4 % 3=0\/a4 % 3=1\/a4 % 3=2:=by walk_at "o"
     rcases this with e|e|e<;>rw[e]
     ·exact⟨_,rfl,by decide +kernel⟩
     ·exact⟨_,rfl,by decide +kernel⟩
     ·exact⟨_,rfl,by decide +kernel⟩
    rw[hwd];dsimp only;refine⟨by walk_at "o",by decide,by walk_at "o",?_⟩
    clear hwd b3;refine xp (NX:=fun σ' G'=>∃ (act:Act) (fs:List D) (y:Option D),(σ'=[some (.lst (ns.map D.int)),some (.lst (ps.map D.str)),some (.str x),some (.lst (ss.map Sl.d)),some (.lst (sl.map Sl.d)),some (.ref p),some (.ref q),some (.int c),some (.lst [.int a0,.int a1,.int a2,.int a3,.int a4,.int a5,.int a6,.int a7]),some (.str pen),some (.tup [.str pen,.int (m0+1)]),some (.tup [.str an.pen,.int an.n,.int an.k]),some (.int (a3 % (ss.length:Int))),some (.tup (nm.map Sl.d)),some (.tup fs),y]/\G'=G4)/\act.d=.tup fs/\(⟨pen,m0+1,1+a1 % 9,act⟩:Sk).wd<=3/\act.nodup/\∀ nl b,act=.move nl b->nl=nm) (fun σ' G5 hM=>?_) (fun NX hNX=>?_)
    ·obtain⟨act,fs,y,⟨rfl,rfl⟩,efs,wact,nact,mact⟩:=hM;clear lwd;clear wd;rw[ag];walk_at "s1";refine⟨by decide,by walk_at "o",by rw[length_map];omega,?_⟩
     generalize hG7:gset G5 p _=G7;obtain⟨sk,hsk⟩:∃ sk:Sk,sk=⟨pen,m0+1,1+a1 % 9,act⟩:=⟨_,rfl⟩;have s2:G7 p=some (.lst ((sks ++ [sk]).map Sk.d)):=by rw[<- hG7,ax,map_append,hsk,<- efs];rfl
     have s3:G7 q=some (.dK kvs1):=by rw[<- hG7,aG hpq.symm];exact g4
     clear hG7 g3 g4;have fin:∀ ss' sl':List Sl,0 < ss'.length->ss'.length<=13+3*(i+1)->0 < sl'.length->sl'.length<=14+120*(i+1)->ss'.Nodup->(∀ s∈ss',s.n=0\/s.pen=Str.ofString "zoe"\/∃ m:Int,dN kvs1 (.inr s.pen)=some (.int m)/\s.n<=m)->
       AA ns ps x p q (i+1) [some (.lst (ns.map D.int)),some (.lst (ps.map D.str)),some (.str x),some (.lst (ss'.map Sl.d)),some (.lst (sl'.map Sl.d)),some (.ref p),some (.ref q),some (.int c),some (.lst [.int a0,.int a1,.int a2,.int a3,.int a4,.int a5,.int a6,.int a7]),some (.str pen),some (.tup [.str pen,.int (m0+1)]),some (.tup [.str an.pen,.int an.n,.int an.k]),some (.int (a3 % (ss.length:Int))),some (.tup (nm.map Sl.d)),some (.tup fs),y] G7:=fun ss' sl' f1 f2 f3 f4 f5 f6=>by
      refine⟨sks ++ [sk],kvs1,ss',sl',_,_,_,_,_,_,_,_,_,⟨rfl,s2,s3⟩,⟨by rw[length_append,e1];rfl,e7,f1,f2,f3,f4⟩,fun s hs'=>?_,wO ap fun s hs' z=>?_,kv',fun s hs'=>?_,f5,f6⟩
      ·rcases mem_append.mp hs' with z|z
       ·exact ok s z
       ·rw[mem_singleton.mp z,hsk];exact⟨by show 1<=m0+1;omega,wact,nact⟩
      ·rw[hsk]at z ⊢;have:=mx s hs' z;show s.num < m0+1
       omega
      ·rcases mem_append.mp hs' with z|z
       ·exact last' s z
       ·rw[mem_singleton.mp z,hsk];exact⟨m0+1,ad,Int.le_refl _⟩
     clear s2 s3 ok ap mx last' kv' hx hb;cases act with
     | put b w=>
      have efs':fs=[.str (Str.ofString "put"),.tup [.str b.pen,.int b.n,.int b.k],.str w]:=by injection efs with e;exact e.symm
      subst efs';clear efs mact nact;have lw:w.length<=3:=wact;have n1:=de (a:="put") (b:="move") (by decide +kernel)
      rw[ag];refine be true (fun K hK=>?_) (iteT ?_)
      ·walk_at "st"
      rw[ag];walk_at "s1";refine⟨by walk_at "o",⟨by (omega),by (omega)⟩,fF (xU pen (m0+1)) (by rw[bY];omega) (fun d hd P hP=>?_) ?_⟩
      ·obtain⟨k,hk,rfl⟩:=mem_map.mp hd;walk_at "st";exact⟨rfl,by walk_at "o",hP _ rfl⟩
      rw[mS,Int.toNat_natCast];dsimp only;have lnw:(aQ pen (m0+1) w.length).length=w.length:=bw _ _ _;rw[<- map_append];generalize hcut:some ((((ss ++ aQ pen (m0+1) w.length).map Sl.d).length:Int) - (w.length:Int))=lo;obtain⟨tl,etl,stl,_⟩:=uY (ss ++ aQ pen (m0+1) w.length) lo none;have ltl:=stl.length_le;rw[length_append,lnw]at ltl;rw[etl,<- map_append];refine⟨by simp only[length_map,lnw];omega,by walk_at "o",by simp only[length_map];omega,?_⟩
      refine fin (ss ++ aQ pen (m0+1) w.length) (sl ++ tl) (by rw[length_append];omega) (by rw[length_append,lnw];omega) (by rw[length_append];omega) (by rw[length_append];omega) ?_ fun s hs'=>?_
      ·rw[List.nodup_append];refine⟨nd,dy _ _ _,fun a ha b' hb z=>?_⟩;obtain⟨p1,p2,_⟩:=bv hb;rw[<- z]at p1 p2;have:=mo a ha p1;omega
      ·rcases mem_append.mp hs' with z|z
       ·exact own' s z
       ·obtain⟨p1,p2,_⟩:=bv z;exact .inr (.inr ⟨m0+1,by rw[p1];exact ad,by walk_at "o"⟩)
     | strike nl=>
      have efs':fs=[.str (Str.ofString "strike"),.tup (nl.map Sl.d)]:=by injection efs with e;exact e.symm
      subst efs';have n1:=de (a:="strike") (b:="put") (by decide +kernel)
      have n2:=de (a:="strike") (b:="move") (by decide +kernel)
      rw[ag];refine be false (fun K hK=>?_) (iteF ?_)
      ·walk_at "st"
      simp only[dq];refine be false (fun K hK=>?_) (iteF ?_)
      ·walk_at "st"
      exact fin ss sl e3 (by walk_at "o") e5 (by walk_at "o") nd own'
     | dress nl w=>
      have efs':fs=[.str (Str.ofString "dress"),.tup (nl.map Sl.d),.str w]:=by injection efs with e;exact e.symm
      subst efs';have n1:=de (a:="dress") (b:="put") (by decide +kernel)
      have n2:=de (a:="dress") (b:="move") (by decide +kernel)
      rw[ag];refine be false (fun K hK=>?_) (iteF ?_)
      ·walk_at "st"
      simp only[dq];refine be false (fun K hK=>?_) (iteF ?_)
      ·walk_at "st"
      exact fin ss sl e3 (by walk_at "o") e5 (by walk_at "o") nd own'
     | move nl b=>
      have efs':fs=[.str (Str.ofString "move"),.tup (nl.map Sl.d),.tup [.str b.pen,.int b.n,.int b.k]]:=by injection efs with e;exact e.symm
      subst efs';have n1:=de (a:="move") (b:="put") (by decide +kernel)
      rw[ag];refine be false (fun K hK=>?_) (iteF ?_)
      ·walk_at "st"
      simp only[dq];refine be true (fun K hK=>?_) (iteT ?_)
      ·walk_at "st"
      walk_at "s1";rw[length_map];refine⟨⟨by (omega),by (omega)⟩,fF (xU pen (m0+1)) (by rw[bY];omega) (fun d hd P hP=>?_) ?_⟩
      ·obtain⟨k,hk,rfl⟩:=mem_map.mp hd;walk_at "st";exact⟨rfl,by walk_at "o",hP _ rfl⟩
      rw[mS,Int.toNat_natCast];dsimp only;have lnw:(aQ pen (m0+1) nm.length).length=nm.length:=bw _ _ _;rw[<- map_append];refine⟨by simp only[length_map,lnw];omega,?_⟩
      exact fin ss (sl ++ aQ pen (m0+1) nm.length) e3 (by walk_at "o") (by rw[length_append];omega) (by rw[length_append,lnw];omega) nd own'
    ·refine be (decide (1 < a5 % 9)) (fun K hK=>?_) (ite2 (fun e=>?_) fun e=>?_)
     ·walk_at "st";decide
     ·rw[ag];walk_at "s1";obtain⟨wr,hwr⟩:∃ wr:Str,g6 [D.str (Str.ofString ""),D.str (Str.ofString "bold"),D.str (Str.ofString "b"),D.str (Str.ofString "red")] (a6 % 4)=some (.str wr):=by
       have:a6 % 4=0\/a6 % 4=1\/a6 % 4=2\/a6 % 4=3:=by walk_at "o"
       rcases this with e|e|e|e<;>rw[e]<;>exact⟨_,rfl⟩
      rw[hwr];dsimp only;obtain⟨st1,est,sst,lst⟩:=uY nm none (some 1);rw[est];refine⟨by walk_at "o",by decide,by walk_at "o",by walk_at "o",by walk_at "o",by walk_at "o",by walk_at "o",by decide,?_⟩
      have b4:a5 % 4=0\/a5 % 4=1\/a5 % 4=2\/a5 % 4=3:=by walk_at "o"
      rcases b4 with e4|e4|e4|e4<;>rw[e4]
      ·rw[AS];exact hNX _ _ ⟨.move nm an,_,_,⟨rfl,rfl⟩,rfl,lm3,ndm,fun nl b z=>by injection z with z;exact z.symm⟩
      ·rw[AR];exact hNX _ _ ⟨.dress nm wr,_,_,⟨rfl,rfl⟩,rfl,lm3,trivial,fun nl b z=>nomatch z⟩
      ·rw[AQ];exact hNX _ _ ⟨.move nm an,_,_,⟨rfl,rfl⟩,rfl,lm3,ndm,fun nl b z=>by injection z with z;exact z.symm⟩
      ·rw[AO];exact hNX _ _ ⟨.strike st1,_,_,⟨rfl,rfl⟩,rfl,le_trans sst.length_le lm3,trivial,fun nl b z=>nomatch z⟩
     ·simp only[dq];exact hNX _ _ ⟨.put an wd,_,_,⟨rfl,rfl⟩,rfl,lwd,trivial,fun nl b z=>nomatch z⟩
   ·refine be (dZ (.int (a7 % 3)) (.int 0)) (fun K hK=>?_) (ite2 (fun e=>?_) fun e=>?_)
    ·walk_at "st";decide
    ·walk_at "s1";exact hNX _ _ ⟨nm0.reverse,⟨by rw[List.map_reverse],rfl⟩,List.pairwise_reverse.mpr (ndm0.imp Ne.symm),by rw[List.length_reverse];exact lnm⟩
    ·simp only[dq];exact hNX _ _ ⟨nm0,⟨rfl,rfl⟩,ndm0,lnm⟩
  ·rintro σ G' ⟨sks,kvs,ss,sl,x7,x8,x9,x10,x11,x12,x13,x14,x15,⟨rfl,g1,g2⟩,⟨e1,e2,e3,e4,e5,e6⟩,ok,ap,kv,last,nd,own⟩
   rw[length_map]at e1;walk_at "st";exact h sks _ ⟨by walk_at "o",ok,ap⟩
 ·exact h.elim
def ye(r:Rw):D:=.tup [.int r.time,.str r.pen,.int r.num]
theorem qT{rs:List Rw}{i:Nat}{d:D}(h:(rs.map ye)[i]?=some d):∃ r,rs[i]?=some r/\d=ye r:=by
 rw[getElem?_map]at h;cases e:rs[i]? with
 | none=>rw[e]at h;cases h
 | some r=>rw[e]at h;cases h;exact⟨r,rfl,rfl⟩
theorem xk(Z1 Z2 Z3 Z4 Z5:Addr)(hw:HW)(G:Gp){vs:List Rw}(hb:vs.length < 64):
  SortBy (bS Z1 Z2 Z3 Z4 Z5 hw) G (vs.map Rw.d) (vs.map ye) fun i=>PySem.W.rankIn Rw.lt vs (vs.getD i default) where
 few:=by rw[length_map];exact hb
 len:=by rw[length_map,length_map]
 key:=fun i d kd h1 h2=>by
  obtain⟨r,e1,rfl⟩:=uh h1;obtain⟨r',e2,rfl⟩:=qT h2;rw[e1]at e2;cases e2;exact⟨r,rfl,rfl,rfl⟩
 ki:=fun d hd=>by
  obtain⟨r,_,rfl⟩:=mem_map.mp hd;exact⟨_,_,rfl⟩
 cp:=fun a ha b hb=>by
  obtain⟨r,_,rfl⟩:=mem_map.mp ha;obtain⟨r',_,rfl⟩:=mem_map.mp hb;exact zT r r'
 lt:=fun i j a b h1 h2=>by
  obtain⟨r,e1,rfl⟩:=qT h1;obtain⟨r',e2,rfl⟩:=qT h2;unfold ye;rw[zS,PySem.W.rank_lt ue (mem_of_getElem? e1),getD_eq_getElem?_getD,getD_eq_getElem?_getD,e1,e2];rfl
theorem CC(s:Sk)(n:Nat):pl (n+5) s.d:=by
 have sl:∀ ns:List Sl,pl (n+3) (.tup (ns.map Sl.d)):=fun ns=>mC ns (n+1);have st:∀ (m:Nat) (x:Str),pl m (.str x):=fun m x=>by cases m<;>trivial
 have it:∀ (m:Nat) (x:Int),pl m (.int x):=fun m x=>by cases m<;>trivial
 obtain⟨pen,num,time,act⟩:=s;intro d hd;simp only[mem_cons,not_mem_nil,or_false]at hd;rcases hd with rfl|rfl|rfl
 ·intro d hd;simp only[mem_cons,not_mem_nil,or_false]at hd;rcases hd with rfl|rfl
  ·exact st _ _
  ·exact it _ _
 ·exact it _ _
 ·cases act with
  | put a x=>
   intro d hd;simp only[mem_cons,not_mem_nil,or_false]at hd;rcases hd with rfl|rfl|rfl
   ·exact st _ _
   ·exact fY a (n+2)
   ·exact st _ _
  | strike ns=>
   intro d hd;simp only[mem_cons,not_mem_nil,or_false]at hd;rcases hd with rfl|rfl
   ·exact st _ _
   ·exact sl ns
  | dress ns w=>
   intro d hd;simp only[mem_cons,not_mem_nil,or_false]at hd;rcases hd with rfl|rfl|rfl
   ·exact st _ _
   ·exact sl ns
   ·exact st _ _
  | move ns a=>
   intro d hd;simp only[mem_cons,not_mem_nil,or_false]at hd;rcases hd with rfl|rfl|rfl
   ·exact st _ _
   ·exact sl ns
   ·exact fY a (n+2)
theorem A9(ss:List Sk)(n:Nat):∀ d∈ss.map Sk.d,pl (n+5) d:=fun d hd=>by
 obtain⟨s,_,rfl⟩:=mem_map.mp hd;exact CC s n
theorem yK{s:Sk}:∀ (out done:List Sk) (W:List Sl),tW done W->((done ++ out).map Sk.rw).Pairwise e9->(∀ r∈out,1<=r.num)->s∈out->∀ x∈made s,x∈out.foldl cy W->∀ y∈made s,y∈out.foldl cy W
 | [],_,_,_,_,_,hs,_,_,_=>absurd hs (by simp)
 | r::t,done,W,hF,ap,ok,hs,x,hx,hin=>by
  have ap2:∀ q∈done,¬ (q.pen=r.pen/\q.num=r.num):=fun q hq z=>by
   rw[map_append,List.pairwise_append]at ap;exact ap.2.2 q.rw (mem_map.mpr ⟨q,hq,rfl⟩) r.rw (by simp) z
  have ap3:∀ q∈t,¬ (r.pen=q.pen/\r.num=q.num):=fun q hq z=>by
   rw[map_append,List.pairwise_append,map_cons,List.pairwise_cons]at ap;exact ap.2.1.1 q.rw (mem_map.mpr ⟨q,hq,rfl⟩) z
  have ok':∀ q∈t,1<=q.num:=fun q hq=>ok q (mem_cons_of_mem _ hq);have keep:∀ (l:List Sk) (V:List Sl) y,y∈V->y∈l.foldl cy V:=by
   intro l
   induction l with
   | nil=>intro V y hy;exact hy
   | cons q u ih=>
    intro V y hy;refine ih _ y ?_;unfold cy;split
    ·rename_i ha;exact (gu ha y).mpr (.inl hy)
    ·exact hy
  rcases mem_cons.mp hs with e|e
  ·subst e;have back:∀ (l:List Sk) (V:List Sl),(∀ q∈l,¬ (s.pen=q.pen/\s.num=q.num))->x∈l.foldl cy V->x∈V:=by
    intro l
    induction l with
    | nil=>intro V _ hy;exact hy
    | cons q u ih=>
     intro V hq hy;have h1:=ih (cy V q) (fun z hz=>hq z (mem_cons_of_mem _ hz)) hy;unfold cy at h1;split at h1
     ·rename_i ha;rcases (gu ha x).mp h1 with z|z
      ·exact z
      ·obtain⟨p1,p2,_⟩:=bv z;obtain⟨p3,p4,_⟩:=bv hx;exact absurd ⟨p3.symm.trans p1,p4.symm.trans p2⟩ (hq q mem_cons_self)
     ·exact h1
   have h1:=back t (cy W s) ap3 hin;have fr:=tG hF (ok s mem_cons_self) ap2 x hx;intro y hy;refine keep t _ y ?_;unfold cy at h1 ⊢;split at h1
   ·rename_i ha;rw[if_pos ha];exact (gu ha y).mpr (.inr hy)
   ·exact absurd h1 fr
  ·exact yK t (done ++ [r]) (cy W r) (pK hF) (by simpa using ap) ok' e x hx hin
theorem xY{s:Sk}(hs:1<=s.num):∀ y∈made s,y≠aA:=fun y hy z=>by
 obtain⟨_,h,_⟩:=bv hy;rw[z]at h;have:(0:Int)=s.num:=h;omega
theorem za{n:Nat}{out:List Sk}{s:Sk}(ap:(out.map Sk.rw).Pairwise e9)(ok:∀ r∈out,1<=r.num)(hs:s∈out){x:Sl}(hx:x∈made s)(hin:x∈dR n out):cQ (dR n out) s=true:=by
 refine all_eq_true.mpr fun y hy=>decide_eq_true ?_;have h:=yK out [] _ (nr n) (by simpa using ap) ok hs x hx
 have ew:out.foldl cy (bM [aA] aA (fJ n))=aA::dR n out:=ml n out;rw[ew]at h;rcases mem_cons.mp (h (mem_cons_of_mem _ hin) y hy)with z|z
 ·exact absurd z (xY (ok s hs) y hy)
 ·exact z
theorem vH{p:Str}{n:Int}{name:Sl}:∀ (ns:List Sl) (j:Nat) (T:List (Sl×Sl)),ns.Nodup->c8 (bd T (ns.zip ((List.range' j ns.length).map fun (k:Nat)=>(⟨p,n,(k:Int)+1⟩:Sl)))) name=if name∈ns then some ⟨p,n,1+((j+cT name.d (ns.map Sl.d):Nat):Int)⟩else c8 T name
 | [],_,T,_=>by simp[bd]
 | a::t,j,T,nd=>by
  rw[nodup_cons]at nd;have ih:=vH (p:=p) (n:=n) (name:=name) t (j+1) (ib T a ⟨p,n,(j:Int)+1⟩) nd.2;have e1:bd T ((a::t).zip ((List.range' j (a::t).length).map fun (k:Nat)=>(⟨p,n,(k:Int)+1⟩:Sl)))=bd (ib T a ⟨p,n,(j:Int)+1⟩) (t.zip ((List.range' (j+1) t.length).map fun (k:Nat)=>(⟨p,n,(k:Int)+1⟩:Sl))):=by
   rw[length_cons,List.range'_succ];rfl
  rw[e1,ih,rS]
  by_cases e:name=a
  ·subst e;rw[if_neg nd.1,if_pos rfl,if_pos mem_cons_self];have:cT name.d ((name::t).map Sl.d)=0:=by
    rw[map_cons,cT,if_pos (nF rfl)]
   rw[this];congr 2;omega
  ·rw[if_neg e];have i1:cT name.d ((a::t).map Sl.d)=cT name.d (t.map Sl.d)+1:=by
    rw[map_cons,cT,if_neg (fun z=>e (Sl.d_inj (gy.mp z)).symm)]
   by_cases h:name∈t
   ·rw[if_pos h,if_pos (mem_cons_of_mem _ h),i1];congr 2;omega
   ·rw[if_neg h,if_neg (fun z=>(mem_cons.mp z).elim e h)]
theorem yk{name:Sl}:∀ {ns:List Sl},name∈ns->cT name.d (ns.map Sl.d) < ns.length
 | [],h=>absurd h (by simp)
 | a::t,h=>by
  rw[map_cons,cT];split
  ·simp
  ·rename_i e;rcases mem_cons.mp h with z|z
   ·exact absurd (nF (by rw[z])) e
   ·have:=yk z;rw[length_cons];omega
theorem o9{s:Sk}{ns:List Sl}{b name:Sl}(ha:s.act=.move ns b)(h:name∈ns):(⟨s.pen,s.num,1+(cT name.d (ns.map Sl.d):Int)⟩:Sl)∈made s:=by
 unfold made aQ;rw[ha];refine mem_map.mpr ⟨cT name.d (ns.map Sl.d),mem_range.mpr (yk h),?_⟩;congr 1;omega
theorem xh{s:Sk}{name:Sl}{row:List Sl}(T:List (Sl×Sl))(hp:cQ row s=true)(nd:s.act.nodup):(c8 (bd T (gB s)) name).getD name=dQ name row ((c8 T name).getD name) s:=by
 unfold gB dQ;cases e:s.act with
 | move ns b=>
  rw[e]at nd;dsimp only;have em:made s=(List.range' 0 ns.length).map fun (k:Nat)=>(⟨s.pen,s.num,(k:Int)+1⟩:Sl):=by
   unfold made aQ;rw[e,List.range_eq_range'];rfl
  rw[em,vH ns 0 T nd,Nat.zero_add]
  by_cases h:name∈ns
  ·rw[if_pos h,if_pos ⟨h,of_decide_eq_true (all_eq_true.mp hp _ (o9 e h))⟩];rfl
  ·rw[if_neg h,if_neg (fun z=>h z.1)]
 | _=>rfl
theorem xq{s:Sk}{name:Sl}{row:List Sl}{h:Sl}(hp:cQ row s≠true)(al:∀ x∈made s,x∈row->cQ row s=true):dQ name row h s=h:=by
 unfold dQ;cases e:s.act with
 | move ns b=>
  dsimp only;rw[if_neg];intro z;exact hp (al _ (o9 e z.1) z.2)
 | _=>rfl
theorem pf{name:Sl}{row:List Sl}:∀ (o:List Sk) (T:List (Sl×Sl)),(∀ s∈o,s.act.nodup/\∀ x∈made s,x∈row->cQ row s=true)->(c8 (bd T ((o.filter (cQ row)).flatMap gB)) name).getD name=o.foldl (dQ name row) ((c8 T name).getD name)
 | [],_,_=>rfl
 | s::t,T,h=>by
  have hs:=h s mem_cons_self;have ih:=fun T=>pf (name:=name) (row:=row) t T fun r hr=>h r (mem_cons_of_mem _ hr);rw[foldl_cons]
  by_cases e:cQ row s=true
  ·rw[List.filter_cons_of_pos e,List.flatMap_cons,cW,ih,xh T e hs.1]
  ·rw[List.filter_cons_of_neg e,ih,xq e hs.2]
theorem tT{α:Type}{name:Sl}{w:α}:∀ (ns:List Sl) (T:List (Sl×α)),c8 (bd T (ns.map fun n=>(n,w))) name=if name∈ns then some w else c8 T name
 | [],T=>by simp[bd]
 | a::t,T=>by
  have e1:bd T ((a::t).map fun n=>(n,w))=bd (ib T a w) (t.map fun n=>(n,w)):=rfl;rw[e1,tT t,rS]
  by_cases e:name∈t
  ·rw[if_pos e,if_pos (mem_cons_of_mem _ e)]
  ·rw[if_neg e]
   by_cases e2:name=a
   ·rw[if_pos e2,if_pos (by rw[e2];exact mem_cons_self)]
   ·rw[if_neg e2,if_neg (fun z=>(mem_cons.mp z).elim e2 e)]
theorem w8{s:Sk}{name:Sl}(T:List (Sl×Str)):(c8 (bd T (hU s)) name).getD (Str.ofString "")=fu name ((c8 T name).getD (Str.ofString "")) s:=by
 unfold hU fu;cases e:s.act with
 | dress ns w=>
  dsimp only;rw[tT];split<;>rfl
 | _=>rfl
theorem w_{s:Sk}{name:Sl}{row:List Sl}{h:Str}(hp:cQ row s≠true):fu name h s=h:=by
 unfold fu;cases e:s.act with
 | dress ns w=>
  refine absurd ?_ hp;have:made s=[]:=by
   unfold made aQ;rw[e];rfl
  unfold cQ;rw[this];rfl
 | _=>rfl
theorem oZ{name:Sl}{row:List Sl}:∀ (o:List Sk) (T:List (Sl×Str)),(c8 (bd T ((o.filter (cQ row)).flatMap hU)) name).getD (Str.ofString "")=o.foldl (fu name) ((c8 T name).getD (Str.ofString ""))
 | [],_=>rfl
 | s::t,T=>by
  have ih:=fun T=>oZ (name:=name) (row:=row) t T;rw[foldl_cons]
  by_cases e:cQ row s=true
  ·rw[List.filter_cons_of_pos e,List.flatMap_cons,cW,ih,w8 T]
  ·rw[List.filter_cons_of_neg e,ih,w_ e]
theorem sm{x:Str}{out:List Sk}{names:List Nm}(ap:(out.map Sk.rw).Pairwise e9)(ok:∀ s∈out,1<=s.num/\s.act.nodup):∀ st∈jB x out names,st.slot=(out.filter fun s=>decide (s.nm∈names)).foldl (dQ st.name (dR x.length out)) st.name/\st.word=(out.filter fun s=>decide (s.nm∈names)).foldl (fu st.name) (Str.ofString ""):=fun st h=>by
 unfold jB at h;obtain⟨p,hp,rfl⟩:=mem_map.mp h;unfold iO at hp;obtain⟨q,hq,e⟩:=List.mem_filterMap.mp hp;cases ea:c8 (bW x (fM out names (dR x.length out))) q with
 | none=>rw[ea]at e;cases e
 | some n=>
  rw[ea]at e;cases e;refine⟨?_,?_⟩
  ·have hm:=vI ea;unfold bW at hm;rcases pr hm with z|z
   ·exact absurd z (by simp)
   obtain⟨b,_,e⟩:=mem_map.mp z;have e1:(c8 (cn (fM out names (dR x.length out))) b.1).getD b.1=q:=congrArg Prod.fst e;have e2:b.1=n:=congrArg Prod.snd e;rw[e2]at e1;show q=_
   rw[<- e1];exact pf (name:=n) (row:=dR x.length out) (out.filter fun s=>decide (s.nm∈names)) [] fun s hs=>by
    have hs':=(mem_filter.mp hs).1;exact⟨(ok s hs').2,fun y hy hr=>za ap (fun r hr=>(ok r hr).1) hs' hy hr⟩
  ·exact oZ (name:=n) (row:=dR x.length out) (out.filter fun s=>decide (s.nm∈names)) []
theorem uF(ns:List Nm)(n:Nat):∀ d∈ns.map Nm.d,pl (n+2) d:=fun d hd=>by
 obtain⟨s,_,rfl⟩:=mem_map.mp hd;intro d hd;simp only[mem_cons,not_mem_nil,or_false]at hd;rcases hd with rfl|rfl
 ·trivial
 ·trivial
theorem Nm.d_inj{a b:Nm}(h:a.d=b.d):a=b:=by
 obtain⟨a1,a2⟩:=a;obtain⟨b1,b2⟩:=b;simp only[Nm.d,D.tup.injEq,List.cons.injEq,D.str.injEq,D.int.injEq,and_true]at h;obtain⟨rfl,rfl⟩:=h;rfl
def z_(names:List Nm):D->Bool
 | .tup (n::_)=>oq n (names.map Nm.d)
 | _=>false
theorem B0(names:List Nm)(s:Sk):z_ names s.d=decide (s.nm∈names):=by
 show oq s.nm.d (names.map Nm.d)=_
 by_cases h:s.nm∈names
 ·rw[decide_eq_true h];exact mZ.mpr (List.mem_map_of_mem h)
 ·rw[decide_eq_false h];refine m3.mpr fun z=>?_;obtain⟨y,hy,e⟩:=mem_map.mp z;exact h (Nm.d_inj e ▸ hy)
theorem zb(Z1 Z2 Z3 Z4 Z5:Addr)(hw:HW):bm (jb Z1 Z2 Z3 Z4 Z5 hw) (mM Z1 Z2 Z3 Z4 Z5 hw) ["_law_script","_law_first","_law_old","_law_pens","_law_rows","_law_standing_here","_law_handed","_law_found","_law_slots","_law_acts","_law_slot","_law_name","_law_sign","_law_word_here"]:=by
 intro vs G Q h;unfold jb at h;split at h
 ·obtain⟨ns,rfl,hn,hq⟩:=h;have hs:=aq;unfold mM;rw[ag];walk_at "s1";refine⟨ns,⟨rfl,by decide⟩,fun c=>?_⟩
  rw[ag];walk_at "s1";have lold:(Str.ofString "some old\ntxt").length=12:=by decide +kernel
  have b13:=cU (a:=c) (b:=13) (by decide)
  refine⟨by decide,by rw[lold];omega,?_⟩
  have lx:(⟨(ju (Str.ofString "some old\ntxt").cps.toList none (some (c % 13))).toArray⟩:Str).length<=12:=by
   rw[Ai b13.1];show (List.toArray _).size<=12
   rw[size_toArray,length_take];omega
  generalize (⟨(ju (Str.ofString "some old\ntxt").cps.toList none (some (c % 13))).toArray⟩:Str)=x at *
  clear lold;rw[ag];obtain⟨pz,hpz,lpz,zz⟩:∃ pz:List Str,g6 [D.lst [.str (Str.ofString "ann"),.str (Str.ofString "bob"),.str (Str.ofString "cyd")],D.lst [.str (Str.ofString "a"),.str (Str.ofString "ab"),.str (Str.ofString "abc")]] (c / 13 % 2)=some (.lst (pz.map D.str))/\pz.length=3/\Str.ofString "zoe"∉pz:=by
   have:c / 13 % 2=0\/c / 13 % 2=1:=by walk_at "o"
   rcases this with e|e<;>rw[e]
   ·exact⟨[_,_,_],rfl,rfl,by decide +kernel⟩
   ·exact⟨[_,_,_],rfl,rfl,by decide +kernel⟩
  walk_at "s1";have b3:=cU (a:=c / 26) (b:=3) (by decide)
  refine⟨by walk_at "o",by walk_at "o",by walk_at "o",⟨by decide,by decide⟩,by decide,⟨by decide,by decide⟩,by decide,?_⟩
  rw[vA (by walk_at "o"),<- List.map_take]
  have lps:0 < (pz.take (1+c / 26 % 3).toNat).length/\(pz.take (1+c / 26 % 3).toNat).length<=4:=by
   rw[length_take];omega
  have zps:Str.ofString "zoe"∉pz.take (1+c / 26 % 3).toNat:=fun z=>zz (mem_of_mem_take z);generalize pz.take (1+c / 26 % 3).toNat=ps at *
  clear hpz lpz b3 b13 zz;clear pz;rw[ag];walk_at "s1";refine⟨(ns.drop 2).take 32,ps,⟨by rw[yA (by decide) (by decide),<- List.map_drop,<- List.map_take];rfl,by rw[length_take];omega,rfl,lps.1,lps.2,zps⟩,fun sks G1 gd=>?_⟩
  clear lps zps;obtain⟨l32,ok,ap⟩:=gd;have one:fW (sks.map Sk.rw):=wN ap;rw[ag];walk_at "s1";refine⟨ns,⟨rfl,by decide⟩,fun c1=>⟨sks,⟨rfl,l32⟩,fun names G2 ln=>?_⟩⟩
  rw[ag];walk_at "s1";refine⟨by walk_at "o",?_⟩
  rw[ag];walk_at "s1";refine⟨sks,sks,names,⟨rfl,by walk_at "o",one,by walk_at "o",by walk_at "o",fun s hs'=>hs',fun s hs'=>⟨(ok s hs').1,le_trans (ok s hs').2.1 (by decide)⟩,rfl,by walk_at "o"⟩,fun out G3 _ so mo=>?_⟩
  have same:∀ {o o':List Sk},fj (o.map Sk.rw)->fj (o'.map Sk.rw)->(∀ s,s∈o↔s∈o')->o=o':=fun so so' mo=>mE (gC so so' fun r=>by
   constructor
   ·intro hr;obtain⟨s,hs',rfl⟩:=mem_map.mp hr;exact mem_map.mpr ⟨s,(mo s).mp hs',rfl⟩
   ·intro hr;obtain⟨s,hs',rfl⟩:=mem_map.mp hr;exact mem_map.mpr ⟨s,(mo s).mpr hs',rfl⟩)
  have apo:(out.map Sk.rw).Pairwise e9:=p_ (BD one fun r hr=>by
   obtain⟨s,hs',rfl⟩:=mem_map.mp hr;exact mem_map.mpr ⟨s,(mo s).mp hs',rfl⟩) so
  have good:=sm (x:=x) (names:=names) apo fun s hs'=>⟨(ok s ((mo s).mp hs')).1,(ok s ((mo s).mp hs')).2.2⟩;rw[ag];refine be false (fun K hK=>?_) (iteF ?_)
  ·walk_at "st";refine⟨by walk_at "o",fun d hd=>?_⟩
   simp only[mem_cons,not_mem_nil,or_false]at hd;rcases hd with rfl|rfl
   ·exact A9 sks 1
   ·exact uF names 4
  simp only[dq];rw[ag];walk_at "s1";refine⟨sks,sks,⟨rfl,by walk_at "o",one,by walk_at "o",by walk_at "o",fun s hs'=>hs',fun s hs'=>⟨(ok s hs').1,le_trans (jV s) (le_trans (ok s hs').2.1 (by decide))⟩⟩,fun o1 G4 _ s1 m1=>?_⟩
  have e1:o1=out:=same s1 so fun s=>(m1 s).trans (mo s).symm;rw[e1];clear s1 m1 e1;clear o1;generalize hrow:dR x.length out=row at good;rw[ag];simp only[bx,eV,eX,rB,ae,pX,val,fR,getElem?_cons_zero,getElem?_cons_succ,set_cons_succ,set_cons_zero];have dm:sks.map Sk.d=(sks.map Sk.rw).map Rw.d:=by rw[map_map];rfl
  refine⟨(sks.map Sk.rw).map ye,_,by rw[dm];exact xk Z1 Z2 Z3 Z4 Z5 hw G4 (by rw[length_map];omega),fun q hq' hsq=>?_⟩
  rw[length_map]at hq';obtain⟨st,mem⟩:=sj ap (by rw[length_map];exact hq') hsq
  have qlt:∀ i∈q,i < sks.length:=fun i hi=>mem_range.mp (hq'.mem_iff.mp hi);have e1:(q.map fun i=>(sks.map Sk.rw).getD i default)=(q.map fun i=>sks.getD i default).map Sk.rw:=by
   rw[map_map];refine map_congr_left fun i hi=>?_;simp[qlt i hi]
  have e2:(q.map fun i=>(sks.map Sk.d).getD i .non)=(q.map fun i=>sks.getD i default).map Sk.d:=by
   rw[map_map];refine map_congr_left fun i hi=>?_;simp[qlt i hi]
  have lq:q.length=sks.length:=by have:=hq'.length_eq;rwa[List.length_range]at this
  rw[e1]at st mem;rw[e2];have lr:(q.map fun i=>sks.getD i default).length<=32:=by rw[length_map];omega
  generalize (q.map fun i=>sks.getD i default)=srt at *
  have e3:srt=out:=same st so fun s=>by
   rw[mo s];constructor
   ·intro hs';obtain⟨s',h1,h2⟩:=mem_map.mp ((mem s.rw).mp (mem_map.mpr ⟨s,hs',rfl⟩));rw[<- Sk.rw_inj h2];exact h1
   ·intro hs';obtain⟨s',h1,h2⟩:=mem_map.mp ((mem s.rw).mpr (mem_map.mpr ⟨s,hs',rfl⟩));rw[<- Sk.rw_inj h2];exact h1
  rw[e3]at lr ⊢;clear e3 e1 e2 hsq st mem qlt lq hq' dm;clear srt q;refine lJ (z_ names) id (by rw[length_map];omega) (fun d hd P R h1 h2=>?_) ?_
  ·obtain⟨s,_,rfl⟩:=mem_map.mp hd;have em:z_ names s.d=oq (.tup [.str s.pen,.int s.num]) (names.map Nm.d):=rfl;have ed:s.d=.tup [.tup [.str s.pen,.int s.num],.int s.time,s.act.d]:=rfl;rw[em]at h1 h2;rw[ed]at h1 ⊢;refine⟨⟨by simp[set_cons_zero,List.replicate],rfl⟩,?_⟩
   walk_at "st";have pn:pl 7 (D.tup [D.str s.pen,D.int s.num]):=uF [(s.pen,s.num)] 5 _ mem_cons_self;refine⟨⟨pn,uF names 5⟩,?_⟩;exact ite2 (fun e=>h1 e _ rfl) fun e=>h2 e
  ·dsimp only;have ek:((out.map Sk.d).filter (z_ names)).map id=(out.filter fun s=>decide (s.nm∈names)).map Sk.d:=by
    rw[List.map_id,List.filter_map];congr 1;exact List.filter_congr fun s _=>B0 names s
   rw[ek];clear ek;generalize (out.filter fun s=>decide (s.nm∈names))=acts at good ⊢;generalize jB x out names=seats at good ⊢;rw[ag];show ForIn _ _ _ _ (seats.map Seat.d) _
   refine⟨fun i σ G'=>∃ x10 x11 x12 x13,σ=[some (.lst (ns.map D.int)),some (.int c),some (.str x),some (.lst (ps.map D.str)),some (.lst (sks.map Sk.d)),some (.lst (names.map Nm.d)),some (.tup [.lst (sks.map Sk.d),.lst (names.map Nm.d)]),some (.lst (seats.map Seat.d)),some (.lst (row.map Sl.d)),some (.lst (acts.map Sk.d)),x10,x11,x12,x13]/\G'=G4,⟨_,_,_,_,rfl,rfl⟩,?_,?_⟩
   ·rintro i d σ G' hd ⟨x10,x11,x12,x13,rfl,rfl⟩
    obtain⟨st,hst,rfl⟩:=mem_map.mp (mem_of_getElem? hd);obtain⟨gs,gw⟩:=good st hst;clear hd hst;have ed:st.d=.tup [st.slot.d,st.name.d,.str st.sign,.str st.word]:=rfl;rw[ed];refine⟨rfl,?_⟩;simp only[bX,gY,gN,set_cons_succ,set_cons_zero];refine be false (A3 false false (fun K hK=>?_) fun _ K hK=>?_) (iteF ?_)
    ·clear gw;have gs':(!dZ st.slot.d (acts.foldl (dQ st.name row) st.name).d)=false:=by rw[<- gs,bj];rfl
     clear gs;walk_at "st";refine⟨st.name,acts,row,⟨rfl,rfl,rfl⟩,?_⟩;show pl 8 st.slot.d/\pl 8 (acts.foldl (dQ st.name row) st.name).d/\K (!dZ st.slot.d (acts.foldl (dQ st.name row) st.name).d) G'
     rw[gs'];exact⟨fY _ 7,fY _ 7,hK⟩
    ·clear gs;have gw':(!dZ (.str st.word) (.str (acts.foldl (fu st.name) (Str.ofString ""))))=false:=by rw[<- gw,bj];rfl
     clear gw;walk_at "st";refine⟨st.name,acts,⟨rfl,rfl⟩,?_⟩;rw[gw'];exact hK
    ·exact⟨_,_,_,_,rfl,rfl⟩
   ·rintro σ G' ⟨x10,x11,x12,x13,rfl,rfl⟩
    exact hq _
 ·exact h.elim
structure Tx(K:Frag)(mg:Str->Option Value)(Z1 Z2 Z3 Z4 Z5:Addr):Prop where
 fa_anchor:∀ C∈[Z1,Z2,Z3,Z4,Z5],Cls K C/\eW K C "anchor"
 fa_name:∀ C∈[Z1,Z2,Z3,Z4,Z5],Cls K C/\eW K C "name"
 fa_names:∀ C∈[Z1,Z2,Z3,Z4,Z5],Cls K C/\eW K C "names"
 fa_signs:∀ C∈[Z1,Z2,Z3,Z4,Z5],Cls K C/\eW K C "signs"
 fa_time:∀ C∈[Z1,Z2,Z3,Z4,Z5],Cls K C/\eW K C "time"
 fa_word:∀ C∈[Z1,Z2,Z3,Z4,Z5],Cls K C/\eW K C "word"
 cl_Stroke:Cls K Z1
 cl_Put:Cls K Z2
 cl_Strike:Cls K Z3
 cl_Dress:Cls K Z4
 cl_Move:Cls K Z5
 b_all:mg "all"=none
 b_dict:mg "dict"=none
 b_isinstance:mg "isinstance"=none
 b_len:mg "len"=none
 b_list:mg "list"=none
 b_range:mg "range"=none
 b_sorted:mg "sorted"=none
 b_tuple:mg "tuple"=none
 b_zip:mg "zip"=none
 k_START:rX K mg "START" k_START
 xm_Dress:mg "Dress"=some (.ref Z4)
 ik_Dress:∀ p∈([(Z1,false),(Z2,false),(Z3,false),(Z4,true),(Z5,false)]:List (Addr×Bool)),InsAsk K p.1/\kitOne K (.ref p.1) (.ref Z4)=some p.2
 xm_Move:mg "Move"=some (.ref Z5)
 ik_Move:∀ p∈([(Z1,false),(Z2,false),(Z3,false),(Z4,false),(Z5,true)]:List (Addr×Bool)),InsAsk K p.1/\kitOne K (.ref p.1) (.ref Z5)=some p.2
 xm_Put:mg "Put"=some (.ref Z2)
 ik_Put:∀ p∈([(Z1,false),(Z2,true),(Z3,false),(Z4,false),(Z5,false)]:List (Addr×Bool)),InsAsk K p.1/\kitOne K (.ref p.1) (.ref Z2)=some p.2
 xm_Strike:mg "Strike"=some (.ref Z3)
 ik_Strike:∀ p∈([(Z1,false),(Z2,false),(Z3,true),(Z4,false),(Z5,false)]:List (Addr×Bool)),InsAsk K p.1/\kitOne K (.ref p.1) (.ref Z3)=some p.2
section
variable{P:Program}{w:World}{K:Frag}{mg:Str->Option Value}{base:Heap}{Z1 Z2 Z3 Z4 Z5:Addr}
theorem lS{f:Addr}{fd:FuncData}(F:Fun3 K "_law_cell_at" "_law_cell_at" cK f fd)(T:Tx K mg Z1 Z2 Z3 Z4 Z5) 
  (rok:bm (aZ Z1 Z2 Z3 Z4 Z5 (ah P w)) (c5 Z1 Z2 Z3 Z4 Z5 (ah P w)) ["_law_script","_law_k"]) (len:bn (aZ Z1 Z2 Z3 Z4 Z5 (ah P w)) 2):FnOk P w K mg base fk 1 f fd ["_law_script","_law_k"] (aE K (aZ Z1 Z2 Z3 Z4 Z5 (ah P w))):=by
 refine Fun3.ok3 F lL len (fun cdv A outer s H E hr=>⟨c5 Z1 Z2 Z3 Z4 Z5 (ah P w),?_,rok⟩);have hu8:=u8 hr;have hu4:=u4 hr;unfold c5;exact (am (gU (qx DV (aw 1) (ck b_len (by rfl) T.b_len PySem.boot_len (aa (aw 0) ao)) (d7 _)) (aF (cC (bC (aw 0) (aw 1)))) eu)
   (aF (cC ar)))
theorem mR{f:Addr}{fd:FuncData}(F:Fun3 K "_law_stream" "_law_stream" db f fd)(T:Tx K mg Z1 Z2 Z3 Z4 Z5) 
  (rok:bm (aY Z1 Z2 Z3 Z4 Z5 (ah P w)) (dw Z1 Z2 Z3 Z4 Z5 (ah P w)) ["_law_cell","_law_many","_law_found","_law_number","_law_k"]) (len:bn (aY Z1 Z2 Z3 Z4 Z5 (ah P w)) 2):FnOk P w K mg base fk 1 f fd ["_law_cell","_law_many"] (aE K (aY Z1 Z2 Z3 Z4 Z5 (ah P w))):=by
 refine Fun3.ok3 F dk len (fun cdv A outer s H E hr=>⟨dw Z1 Z2 Z3 Z4 Z5 (ah P w),?_,rok⟩);have hu8:=u8 hr;have hu4:=u4 hr;unfold dw;exact (am (vg (i:=2) dk.nd rfl (by walk_at "i") (gW ao))
   (am (aX (i:=3) dk.nd rfl (by walk_at "i") (cq fK (cq vd (cq dP (aw 0) ar) ar) ar))
   (am (fA PassesOwn.never rfl (iK (by rfl) T.b_range (aa (aw 1) ao)) (aW (i:=4) dk.nd rfl (by walk_at "i")) (am (aX (i:=3) dk.nd rfl (by walk_at "i") (cq fK (cq vd (cq dP (cq dP (aw 3) (cq vd ar (aw 4))) ar) (cq dP (cq w4 (aw 3) ar) ar)) ar))
   (aF (gF (jM (aw 2) (aa (aw 3) ao))))))
   (aF (jK (i:=2) rfl (by first|exact Or.inl rfl|exact Or.inr (Or.inl rfl)))))))
theorem lR{f:Addr}{fd:FuncData}(F:Fun3 K "_law_strokes" "_law_strokes" cJ f fd)(T:Tx K mg Z1 Z2 Z3 Z4 Z5)(F__law_stream:Fn3 P w K mg base 1 "_law_stream" [] (aY Z1 Z2 Z3 Z4 Z5 (ah P w)))
  (rok:bm (bh Z1 Z2 Z3 Z4 Z5 (ah P w)) (cZ Z1 Z2 Z3 Z4 Z5 (ah P w)) ["_law_cells","_law_pens","_law_old","_law_signs","_law_slots","_law_rows","_law_many","_law_cell","_law_xs","_law_pen","_law_name","_law_anchor","_law_at","_law_names","_law_act","_law_dress"]) (len:bn (bh Z1 Z2 Z3 Z4 Z5 (ah P w)) 3):FnOk P w K mg base fk 2 f fd ["_law_cells","_law_pens","_law_old"] (aE K (bh Z1 Z2 Z3 Z4 Z5 (ah P w))):=by
 refine Fun3.ok3 F ay len (fun cdv A outer s H E hr=>⟨cZ Z1 Z2 Z3 Z4 Z5 (ah P w),?_,rok⟩);have hu8:=u8 hr;have hu4:=u4 hr;unfold cZ;exact (am (aX (i:=3) ay.nd rfl (by walk_at "i") (cq dP (ig (T:=["_law_k"]) (M:=["_law_cells","_law_pens","_law_old","_law_signs","_law_slots","_law_rows","_law_many","_law_cell","_law_xs","_law_pen","_law_name","_law_anchor","_law_at","_law_names","_law_act","_law_dress"]) (cx rfl (by kernel_rfl)) (fun cl C s₀ H₀ fp=>⟨(aW (i:=0) jU rfl (by walk_at "i")),iB,(dI (aa ce (aa ar (aa (cq dP (aw 0) ar) ao))))⟩) (iK (by rfl) T.b_range (aa (ck b_len (by rfl) T.b_len PySem.boot_len (aa (aw 2) ao)) ao))) (gW (aa (dI (aa ce (aa ar (aa ar ao)))) ao))))
   (am (aX (i:=4) ay.nd rfl (by walk_at "i") (cq dP (gW (aa (dI (aa ce (aa ar (aa ar ao)))) ao)) (aw 3)))
   (am (vg (i:=5) ay.nd rfl (by walk_at "i") (gW ao))
   (am (aX (i:=6) ay.nd rfl (by walk_at "i") Bv)
   (am (fA PassesOwn.never rfl (dY (aw 0)) (aW (i:=7) ay.nd rfl (by walk_at "i")) (am (aX (i:=8) ay.nd rfl (by walk_at "i") (bz F__law_stream (hr.mono (by decide)) (by rfl) (aa (aw 7) (aa ar ao))))
   (am (aX (i:=9) ay.nd rfl (by walk_at "i") (bC (aw 1) (cq fK (bC (aw 8) ar) (ck b_len (by rfl) T.b_len PySem.boot_len (aa (aw 1) ao)))))
   (am (ia hu8 (aw 6) (aw 9) (cq dP (qz hu8 (aw 6) (aw 9) ar) ar))
   (am (aX (i:=10) ay.nd rfl (by walk_at "i") (dI (aa (aw 9) (aa (pA hu8 (aw 6) (aw 9)) ao))))
   (am (aX (i:=11) ay.nd rfl (by walk_at "i") (bC (aw 4) (cq fK (bC (aw 8) ar) (ck b_len (by rfl) T.b_len PySem.boot_len (aa (aw 4) ao)))))
   (am (aX (i:=12) ay.nd rfl (by walk_at "i") (cq fK (bC (aw 8) ar) (ck b_len (by rfl) T.b_len PySem.boot_len (aa (aw 3) ao))))
   (am (aX (i:=13) ay.nd rfl (by walk_at "i") (jL b_tuple (by rfl) T.b_tuple PyProof.Rows.boot_tuple (aa (ic vN (aw 3) (gG (aw 12)) (gG (cq dP (cq dP (aw 12) ar) (cq fK (bC (aw 8) ar) ar)))) ao)))
   (am (gU (cX (r6 hu8) (cq fK (bC (aw 8) ar) ar) ar (d7 _)) (aF (aX (i:=13) ay.nd rfl (by walk_at "i") (wa (aw 13) jo jo (gG (C1 ar))))) eu)
   (am (aX (i:=14) ay.nd rfl (by walk_at "i") (dI (aa ce (aa (aw 11) (aa (bC (gW (aa ce (aa ce (aa ce ao)))) (cq fK (bC (aw 8) ar) ar)) ao)))))
   (am (gU (qx Cr (cq fK (bC (aw 8) ar) ar) ar (d7 _)) (am (aX (i:=15) ay.nd rfl (by walk_at "i") (dI (aa ce (aa (aw 13) (aa (bC (gW (aa ce (aa ce (aa ce (aa ce ao))))) (cq fK (bC (aw 8) ar) ar)) ao)))))
   (aF (aX (i:=14) ay.nd rfl (by walk_at "i") (bC (gW (aa (dI (aa ce (aa (aw 13) (aa (aw 11) ao)))) (aa (aw 15) (aa (dI (aa ce (aa (aw 13) (aa (aw 11) ao)))) (aa (dI (aa ce (aa (ic Cq (aw 13) jo (gG ar)) ao))) ao))))) (cq fK (bC (aw 8) ar) ar))))) eu)
   (am (gF (jM (aw 5) (aa (dI (aa (aw 10) (aa (cq dP ar (cq fK (bC (aw 8) ar) ar)) (aa (aw 14) ao)))) ao)))
   (am (gU (cX (r6 hu8) (bC (aw 14) ar) ce (d7 _)) (am (aX (i:=3) ay.nd rfl (by walk_at "i") (cq dP (aw 3) (ig (T:=["_law_k"]) (M:=["_law_cells","_law_pens","_law_old","_law_signs","_law_slots","_law_rows","_law_many","_law_cell","_law_xs","_law_pen","_law_name","_law_anchor","_law_at","_law_names","_law_act","_law_dress"]) (cx rfl (by kernel_rfl)) (fun cl C s₀ H₀ fp=>⟨(aW (i:=0) jT rfl (by walk_at "i")),iB,(dI (aa (bC (aw 11) ar) (aa (bC (aw 11) ar) (aa (cq dP (aw 0) ar) ao))))⟩) (iK (by rfl) T.b_range (aa (ck b_len (by rfl) T.b_len PySem.boot_len (aa (bC (aw 14) ar) ao)) ao)))))
   (aF (aX (i:=4) ay.nd rfl (by walk_at "i") (cq dP (aw 4) (ic vN (aw 3) (gG (cq Cp (ck b_len (by rfl) T.b_len PySem.boot_len (aa (aw 3) ao)) (ck b_len (by rfl) T.b_len PySem.boot_len (aa (bC (aw 14) ar) ao)))) jo))))) eu)
   (aF (gU (cX (r6 hu8) (bC (aw 14) ar) ce (d7 _)) (aF (aX (i:=4) ay.nd rfl (by walk_at "i") (cq dP (aw 4) (ig (T:=["_law_k"]) (M:=["_law_cells","_law_pens","_law_old","_law_signs","_law_slots","_law_rows","_law_many","_law_cell","_law_xs","_law_pen","_law_name","_law_anchor","_law_at","_law_names","_law_act","_law_dress"]) (cx rfl (by kernel_rfl)) (fun cl C s₀ H₀ fp=>⟨(aW (i:=0) jS rfl (by walk_at "i")),iB,(dI (aa (bC (aw 11) ar) (aa (bC (aw 11) ar) (aa (cq dP (aw 0) ar) ao))))⟩) (iK (by rfl) T.b_range (aa (ck b_len (by rfl) T.b_len PySem.boot_len (aa (aw 13) ao)) ao)))))) eu)))))))))))))))
   (aF (jK (i:=5) rfl (by first|exact Or.inl rfl|exact Or.inr (Or.inl rfl)))))))))
theorem kz{f:Addr}{fd:FuncData}(F:Fun3 K "_law_standing" "_law_standing" cv f fd)(T:Tx K mg Z1 Z2 Z3 Z4 Z5)(F__law_stream:Fn3 P w K mg base 1 "_law_stream" [] (aY Z1 Z2 Z3 Z4 Z5 (ah P w)))
  (rok:bm (bc Z1 Z2 Z3 Z4 Z5 (ah P w)) (cO Z1 Z2 Z3 Z4 Z5 (ah P w)) ["_law_rows","_law_cell","_law_found","_law_k"]) (len:bn (bc Z1 Z2 Z3 Z4 Z5 (ah P w)) 2):FnOk P w K mg base fk 2 f fd ["_law_rows","_law_cell"] (aE K (bc Z1 Z2 Z3 Z4 Z5 (ah P w))):=by
 refine Fun3.ok3 F fc len (fun cdv A outer s H E hr=>⟨cO Z1 Z2 Z3 Z4 Z5 (ah P w),?_,rok⟩);have hu8:=u8 hr;have hu4:=u4 hr;unfold cO;exact (am (vg (i:=2) fc.nd rfl (by walk_at "i") (gW ao))
   (am (fA PassesOwn.never rfl (iK (by rfl) T.b_range (aa (ck b_len (by rfl) T.b_len PySem.boot_len (aa (aw 0) ao)) ao)) (aW (i:=3) fc.nd rfl (by walk_at "i")) (aF (gU (qx Cr (cq fK (bC (bz F__law_stream (hr.mono (by decide)) (by rfl) (aa (cq dP (aw 1) (cq vd ar (aw 3))) (aa ar ao))) ar) ar) ar (d7 _)) (aF (gF (jM (aw 2) (aa (bC (bC (aw 0) (aw 3)) ar) ao)))) eu)))
   (aF (jK (i:=2) rfl (by first|exact Or.inl rfl|exact Or.inr (Or.inl rfl))))))
theorem oj{f:Addr}{fd:FuncData}(F:Fun3 K "lay_behind" "lay_behind" dD f fd)(T:Tx K mg Z1 Z2 Z3 Z4 Z5) 
  (rok:bm (bq Z1 Z2 Z3 Z4 Z5 (ah P w)) (dW Z1 Z2 Z3 Z4 Z5 (ah P w)) ["following","anchor","slots","behind","slot"]) (len:bn (bq Z1 Z2 Z3 Z4 Z5 (ah P w)) 3):FnOk P w K mg base fk 1 f fd ["following","anchor","slots"] (aE K (bq Z1 Z2 Z3 Z4 Z5 (ah P w))):=by
 refine Fun3.ok3 F fo len (fun cdv A outer s H E hr=>⟨dW Z1 Z2 Z3 Z4 Z5 (ah P w),?_,rok⟩);have hu8:=u8 hr;have hu4:=u4 hr;unfold dW;exact (am (aX (i:=3) fo.nd rfl (by walk_at "i") (aw 1))
   (aF (fA PassesOwn.never rfl (dY (aw 2)) (aW (i:=4) fo.nd rfl (by walk_at "i")) (am (ia hu8 (aw 0) (aw 4) (pA hu8 (aw 0) (aw 3)))
   (am (ia hu8 (aw 0) (aw 3) (aw 4))
   (aF (aX (i:=3) fo.nd rfl (by walk_at "i") (aw 4))))))))
theorem oh{f:Addr}{fd:FuncData}(F:Fun3 K "slots_made" "slots_made" dC f fd)(T:Tx K mg Z1 Z2 Z3 Z4 Z5) 
  (rok:bm (aV Z1 Z2 Z3 Z4 Z5 (ah P w)) (dU Z1 Z2 Z3 Z4 Z5 (ah P w)) ["name","how_many"]) (len:bn (aV Z1 Z2 Z3 Z4 Z5 (ah P w)) 2):FnOk P w K mg base fk 1 f fd ["name","how_many"] (aE K (aV Z1 Z2 Z3 Z4 Z5 (ah P w))):=by
 refine Fun3.ok3 F nV len (fun cdv A outer s H E hr=>⟨dU Z1 Z2 Z3 Z4 Z5 (ah P w),?_,rok⟩);have hu8:=u8 hr;have hu4:=u4 hr;unfold dU;exact (aF (cC (ig (T:=["k"]) (M:=["name","how_many"]) (cx rfl (by kernel_rfl)) (fun cl C s₀ H₀ fp=>⟨(aW (i:=0) lY rfl (by walk_at "i")),iB,(cq dP (aw 1) (dI (aa (aw 0) ao)))⟩) (yl (by rfl) T.b_range (aa ar (aa (cq dP (aw 1) ar) ao))))))
theorem qC{f:Addr}{fd:FuncData}(F:Fun3 K "old_slots" "old_slots" d9 f fd)(T:Tx K mg Z1 Z2 Z3 Z4 Z5)(F_slots_made:Fn3 P w K mg base 1 "slots_made" [] (aV Z1 Z2 Z3 Z4 Z5 (ah P w)))
  (rok:bm (bu Z1 Z2 Z3 Z4 Z5 (ah P w)) (eK Z1 Z2 Z3 Z4 Z5 (ah P w)) ["old"]) (len:bn (bu Z1 Z2 Z3 Z4 Z5 (ah P w)) 1):FnOk P w K mg base fk 2 f fd ["old"] (aE K (bu Z1 Z2 Z3 Z4 Z5 (ah P w))):=by
 refine Fun3.ok3 F qe len (fun cdv A outer s H E hr=>⟨eK Z1 Z2 Z3 Z4 Z5 (ah P w),?_,rok⟩);have hu8:=u8 hr;have hu4:=u4 hr;unfold eK;exact (aF (cC (bz F_slots_made (hr.mono (by decide)) (by rfl) (aa (ic vN (iG (by rfl) T.k_START) jo (gG ar)) (aa (ck b_len (by rfl) T.b_len PySem.boot_len (aa (aw 0) ao)) ao)))))
theorem jN{f:Addr}{fd:FuncData}(F:Fun3 K "place_in_order" "place_in_order" b7 f fd)(T:Tx K mg Z1 Z2 Z3 Z4 Z5) 
  (rok:bm (aK Z1 Z2 Z3 Z4 Z5 (ah P w)) (cz Z1 Z2 Z3 Z4 Z5 (ah P w)) ["row"]) (len:bn (aK Z1 Z2 Z3 Z4 Z5 (ah P w)) 1):FnOk P w K mg base fk 1 f fd ["row"] (aE K (aK Z1 Z2 Z3 Z4 Z5 (ah P w))):=by
 refine Fun3.ok3 F jC len (fun cdv A outer s H E hr=>⟨cz Z1 Z2 Z3 Z4 Z5 (ah P w),?_,rok⟩);have hu8:=u8 hr;have hu4:=u4 hr;unfold cz;exact (aF (cC (dI (aa (bC (aw 0) ar) (aa (bC (aw 0) ar) ao)))))
theorem sK{f:Addr}{fd:FuncData}(F:Fun3 K "in_order" "in_order" ff f fd)(T:Tx K mg Z1 Z2 Z3 Z4 Z5)(F_place_in_order:Fn3 P w K mg base 1 "place_in_order" [] (aK Z1 Z2 Z3 Z4 Z5 (ah P w)))
  (rok:bm (bI Z1 Z2 Z3 Z4 Z5 (ah P w)) (fx Z1 Z2 Z3 Z4 Z5 (ah P w)) ["rows","by_name","row"]) (len:bn (bI Z1 Z2 Z3 Z4 Z5 (ah P w)) 1):FnOk P w K mg base fk 4 f fd ["rows"] (aE K (bI Z1 Z2 Z3 Z4 Z5 (ah P w))):=by
 refine Fun3.ok3 F iE len (fun cdv A outer s H E hr=>⟨fx Z1 Z2 Z3 Z4 Z5 (ah P w),?_,rok⟩);have hu8:=u8 hr;have hu4:=u4 hr;unfold fx;exact (am (aX (i:=1) iE.nd rfl (by walk_at "i") mP)
   (am (fA PassesOwn.never rfl (dY (aw 0)) (aW (i:=2) iE.nd rfl (by walk_at "i")) (aF (ia hu8 (aw 1) (bC (aw 2) ar) (aw 2))))
   (aF (cC (zA F_place_in_order (hr.mono (by decide)) rfl (by rfl) (by rfl) T.b_sorted (aw 1))))))
theorem jm{f:Addr}{fd:FuncData}(F:Fun3 K "__init__" "Stroke.__init__" bT f fd)(T:Tx K mg Z1 Z2 Z3 Z4 Z5) 
  (rok:bm (av Z1 Z2 Z3 Z4 Z5 (ah P w)) (b_ Z1 Z2 Z3 Z4 Z5 (ah P w)) ["self","name","time"]) (len:bn (av Z1 Z2 Z3 Z4 Z5 (ah P w)) 3):FnOk P w K mg base fk 1 f fd ["self","name","time"] (aE K (av Z1 Z2 Z3 Z4 Z5 (ah P w))):=by
 refine Fun3.ok3 F jc len (fun cdv A outer s H E hr=>⟨b_ Z1 Z2 Z3 Z4 Z5 (ah P w),?_,rok⟩);have hu8:=u8 hr;have hu4:=u4 hr;unfold b_;exact (am (gg T.fa_name (aw 0) (aw 1))
   (am (gg T.fa_time (aw 0) (aw 2))
   (am (gg T.fa_anchor (aw 0) (iG (by rfl) T.k_START))
   (aF (gg T.fa_names (aw 0) (dI ao))))))
theorem lU{f:Addr}{fd:FuncData}(F:Fun3 K "__init__" "Put.__init__" cM f fd)(T:Tx K mg Z1 Z2 Z3 Z4 Z5)(Cf_Stroke___init__:Cf3 P w K mg base 1 "Stroke" "__init__" [] (av Z1 Z2 Z3 Z4 Z5 (ah P w)))
  (rok:bm (a_ Z1 Z2 Z3 Z4 Z5 (ah P w)) (c7 Z1 Z2 Z3 Z4 Z5 (ah P w)) ["self","name","time","anchor","signs"]) (len:bn (a_ Z1 Z2 Z3 Z4 Z5 (ah P w)) 5):FnOk P w K mg base fk 2 f fd ["self","name","time","anchor","signs"] (aE K (a_ Z1 Z2 Z3 Z4 Z5 (ah P w))):=by
 refine Fun3.ok3 F lN len (fun cdv A outer s H E hr=>⟨c7 Z1 Z2 Z3 Z4 Z5 (ah P w),?_,rok⟩);have hu8:=u8 hr;have hu4:=u4 hr;unfold c7;exact (am (gF (iP Cf_Stroke___init__ (hr.mono (by decide)) (by rfl) (aa (aw 0) (aa (aw 1) (aa (aw 2) ao)))))
   (am (gg T.fa_anchor (aw 0) (aw 3))
   (aF (gg T.fa_signs (aw 0) (aw 4)))))
theorem jn{f:Addr}{fd:FuncData}(F:Fun3 K "__init__" "Strike.__init__" bU f fd)(T:Tx K mg Z1 Z2 Z3 Z4 Z5)(Cf_Stroke___init__:Cf3 P w K mg base 1 "Stroke" "__init__" [] (av Z1 Z2 Z3 Z4 Z5 (ah P w)))
  (rok:bm (aM Z1 Z2 Z3 Z4 Z5 (ah P w)) (cb Z1 Z2 Z3 Z4 Z5 (ah P w)) ["self","name","time","names"]) (len:bn (aM Z1 Z2 Z3 Z4 Z5 (ah P w)) 4):FnOk P w K mg base fk 2 f fd ["self","name","time","names"] (aE K (aM Z1 Z2 Z3 Z4 Z5 (ah P w))):=by
 refine Fun3.ok3 F jd len (fun cdv A outer s H E hr=>⟨cb Z1 Z2 Z3 Z4 Z5 (ah P w),?_,rok⟩);have hu8:=u8 hr;have hu4:=u4 hr;unfold cb;exact (am (gF (iP Cf_Stroke___init__ (hr.mono (by decide)) (by rfl) (aa (aw 0) (aa (aw 1) (aa (aw 2) ao)))))
   (aF (gg T.fa_names (aw 0) (aw 3))))
theorem jP{f:Addr}{fd:FuncData}(F:Fun3 K "__init__" "Dress.__init__" b9 f fd)(T:Tx K mg Z1 Z2 Z3 Z4 Z5)(Cf_Stroke___init__:Cf3 P w K mg base 1 "Stroke" "__init__" [] (av Z1 Z2 Z3 Z4 Z5 (ah P w)))
  (rok:bm (aP Z1 Z2 Z3 Z4 Z5 (ah P w)) (cB Z1 Z2 Z3 Z4 Z5 (ah P w)) ["self","name","time","names","word"]) (len:bn (aP Z1 Z2 Z3 Z4 Z5 (ah P w)) 5):FnOk P w K mg base fk 2 f fd ["self","name","time","names","word"] (aE K (aP Z1 Z2 Z3 Z4 Z5 (ah P w))):=by
 refine Fun3.ok3 F jE len (fun cdv A outer s H E hr=>⟨cB Z1 Z2 Z3 Z4 Z5 (ah P w),?_,rok⟩);have hu8:=u8 hr;have hu4:=u4 hr;unfold cB;exact (am (gF (iP Cf_Stroke___init__ (hr.mono (by decide)) (by rfl) (aa (aw 0) (aa (aw 1) (aa (aw 2) ao)))))
   (am (gg T.fa_names (aw 0) (aw 3))
   (aF (gg T.fa_word (aw 0) (aw 4)))))
theorem kA{f:Addr}{fd:FuncData}(F:Fun3 K "__init__" "Move.__init__" cw f fd)(T:Tx K mg Z1 Z2 Z3 Z4 Z5)(Cf_Stroke___init__:Cf3 P w K mg base 1 "Stroke" "__init__" [] (av Z1 Z2 Z3 Z4 Z5 (ah P w)))
  (rok:bm (aU Z1 Z2 Z3 Z4 Z5 (ah P w)) (cP Z1 Z2 Z3 Z4 Z5 (ah P w)) ["self","name","time","names","anchor"]) (len:bn (aU Z1 Z2 Z3 Z4 Z5 (ah P w)) 5):FnOk P w K mg base fk 2 f fd ["self","name","time","names","anchor"] (aE K (aU Z1 Z2 Z3 Z4 Z5 (ah P w))):=by
 refine Fun3.ok3 F j_ len (fun cdv A outer s H E hr=>⟨cP Z1 Z2 Z3 Z4 Z5 (ah P w),?_,rok⟩);have hu8:=u8 hr;have hu4:=u4 hr;unfold cP;exact (am (gF (iP Cf_Stroke___init__ (hr.mono (by decide)) (by rfl) (aa (aw 0) (aa (aw 1) (aa (aw 2) ao)))))
   (am (gg T.fa_names (aw 0) (aw 3))
   (aF (gg T.fa_anchor (aw 0) (aw 4)))))
theorem qB{f:Addr}{fd:FuncData}(F:Fun3 K "stroke_of" "stroke_of" d8 f fd)(T:Tx K mg Z1 Z2 Z3 Z4 Z5)(M_Dress:Mk3 P w K mg base 2 "Dress" Z4 [] (aP Z1 Z2 Z3 Z4 Z5 (ah P w)))(M_Move:Mk3 P w K mg base 2 "Move" Z5 [] (aU Z1 Z2 Z3 Z4 Z5 (ah P w)))(M_Put:Mk3 P w K mg base 2 "Put" Z2 [] (a_ Z1 Z2 Z3 Z4 Z5 (ah P w)))(M_Strike:Mk3 P w K mg base 2 "Strike" Z3 [] (aM Z1 Z2 Z3 Z4 Z5 (ah P w)))
  (rok:bm (br Z1 Z2 Z3 Z4 Z5 (ah P w)) (eJ Z1 Z2 Z3 Z4 Z5 (ah P w)) ["row","name","time","act"]) (len:bn (br Z1 Z2 Z3 Z4 Z5 (ah P w)) 1):FnOk P w K mg base fk 4 f fd ["row"] (aE K (br Z1 Z2 Z3 Z4 Z5 (ah P w))):=by
 refine Fun3.ok3 F fN len (fun cdv A outer s H E hr=>⟨eJ Z1 Z2 Z3 Z4 Z5 (ah P w),?_,rok⟩);have hu8:=u8 hr;have hu4:=u4 hr;unfold eJ;exact (am (aX (i:=1) fN.nd rfl (by walk_at "i") (bC (aw 0) ar))
   (am (aX (i:=2) fN.nd rfl (by walk_at "i") (bC (aw 0) ar))
   (am (aX (i:=3) fN.nd rfl (by walk_at "i") (bC (aw 0) ar))
   (am (gU (cX (r6 hu8) (bC (aw 3) ar) ce (d7 _)) (aF (cC (qy M_Put (hr.mono (by decide)) (by rfl) (aa (aw 1) (aa (aw 2) (aa (bC (aw 3) ar) (aa (bC (aw 3) ar) ao))))))) eu)
   (am (gU (cX (r6 hu8) (bC (aw 3) ar) ce (d7 _)) (aF (cC (qy M_Strike (hr.mono (by decide)) (by rfl) (aa (aw 1) (aa (aw 2) (aa (bC (aw 3) ar) ao)))))) eu)
   (am (gU (cX (r6 hu8) (bC (aw 3) ar) ce (d7 _)) (aF (cC (qy M_Dress (hr.mono (by decide)) (by rfl) (aa (aw 1) (aa (aw 2) (aa (bC (aw 3) ar) (aa (bC (aw 3) ar) ao))))))) eu)
   (aF (cC (qy M_Move (hr.mono (by decide)) (by rfl) (aa (aw 1) (aa (aw 2) (aa (bC (aw 3) ar) (aa (bC (aw 3) ar) ao)))))))))))))
theorem uD{f:Addr}{fd:FuncData}(F:Fun3 K "chained" "chained" fX f fd)(T:Tx K mg Z1 Z2 Z3 Z4 Z5) 
  (rok:bm (cE Z1 Z2 Z3 Z4 Z5 (ah P w)) (gc Z1 Z2 Z3 Z4 Z5 (ah P w)) ["following","row","slot"]) (len:bn (cE Z1 Z2 Z3 Z4 Z5 (ah P w)) 1):FnOk P w K mg base fk 1 f fd ["following"] (aE K (cE Z1 Z2 Z3 Z4 Z5 (ah P w))):=by
 refine Fun3.ok3 F h9 len (fun cdv A outer s H E hr=>⟨gc Z1 Z2 Z3 Z4 Z5 (ah P w),?_,rok⟩);have hu8:=u8 hr;have hu4:=u4 hr;unfold gc;exact (am (vg (i:=1) h9.nd rfl (by walk_at "i") (gW ao))
   (am (aX (i:=2) h9.nd rfl (by walk_at "i") (pA hu8 (aw 0) (iG (by rfl) T.k_START)))
   (am (zf PassesOwn.never (qx AV (aw 2) AB (d7 _)) (am (gF (jM (aw 1) (aa (aw 2) ao)))
   (aF (aX (i:=2) h9.nd rfl (by walk_at "i") (pA hu8 (aw 0) (aw 2))))))
   (aF (jK (i:=1) rfl (by first|exact Or.inl rfl|exact Or.inr (Or.inl rfl)))))))
theorem lT{f:Addr}{fd:FuncData}(F:Fun3 K "slots" "Stroke.slots" cL f fd)(T:Tx K mg Z1 Z2 Z3 Z4 Z5) 
  (rok:bm (ai Z1 Z2 Z3 Z4 Z5 (ah P w)) (c6 Z1 Z2 Z3 Z4 Z5 (ah P w)) ["self"]) (len:bn (ai Z1 Z2 Z3 Z4 Z5 (ah P w)) 1):FnOk P w K mg base fk 1 f fd ["self"] (aE K (ai Z1 Z2 Z3 Z4 Z5 (ah P w))):=by
 refine Fun3.ok3 F lM len (fun cdv A outer s H E hr=>⟨c6 Z1 Z2 Z3 Z4 Z5 (ah P w),?_,rok⟩);have hu8:=u8 hr;have hu4:=u4 hr;unfold c6;exact (aF (cC (gW ao)))
theorem qH{f:Addr}{fd:FuncData}(F:Fun3 K "slots" "Put.slots" eh f fd)(T:Tx K mg Z1 Z2 Z3 Z4 Z5)(F_slots_made:Fn3 P w K mg base 1 "slots_made" [] (aV Z1 Z2 Z3 Z4 Z5 (ah P w)))
  (rok:bm (aO Z1 Z2 Z3 Z4 Z5 (ah P w)) (eP Z1 Z2 Z3 Z4 Z5 (ah P w)) ["self"]) (len:bn (aO Z1 Z2 Z3 Z4 Z5 (ah P w)) 1):FnOk P w K mg base fk 2 f fd ["self"] (aE K (aO Z1 Z2 Z3 Z4 Z5 (ah P w))):=by
 refine Fun3.ok3 F qg len (fun cdv A outer s H E hr=>⟨eP Z1 Z2 Z3 Z4 Z5 (ah P w),?_,rok⟩);have hu8:=u8 hr;have hu4:=u4 hr;unfold eP;exact (aF (cC (bz F_slots_made (hr.mono (by decide)) (by rfl) (aa (ie T.fa_name (aw 0)) (aa (ck b_len (by rfl) T.b_len PySem.boot_len (aa (ie T.fa_signs (aw 0)) ao)) ao)))))
theorem om{f:Addr}{fd:FuncData}(F:Fun3 K "slots" "Move.slots" dE f fd)(T:Tx K mg Z1 Z2 Z3 Z4 Z5)(F_slots_made:Fn3 P w K mg base 1 "slots_made" [] (aV Z1 Z2 Z3 Z4 Z5 (ah P w)))
  (rok:bm (aI Z1 Z2 Z3 Z4 Z5 (ah P w)) (dX Z1 Z2 Z3 Z4 Z5 (ah P w)) ["self"]) (len:bn (aI Z1 Z2 Z3 Z4 Z5 (ah P w)) 1):FnOk P w K mg base fk 2 f fd ["self"] (aE K (aI Z1 Z2 Z3 Z4 Z5 (ah P w))):=by
 refine Fun3.ok3 F nW len (fun cdv A outer s H E hr=>⟨dX Z1 Z2 Z3 Z4 Z5 (ah P w),?_,rok⟩);have hu8:=u8 hr;have hu4:=u4 hr;unfold dX;exact (aF (cC (bz F_slots_made (hr.mono (by decide)) (by rfl) (aa (ie T.fa_name (aw 0)) (aa (ck b_len (by rfl) T.b_len PySem.boot_len (aa (ie T.fa_names (aw 0)) ao)) ao)))))
theorem sJ{f:Addr}{fd:FuncData}(F:Fun3 K "slots_of" "slots_of" fe f fd)(T:Tx K mg Z1 Z2 Z3 Z4 Z5)(F_chained:Fn3 P w K mg base 1 "chained" [] (cE Z1 Z2 Z3 Z4 Z5 (ah P w)))(F_in_order:Fn3 P w K mg base 4 "in_order" [] (bI Z1 Z2 Z3 Z4 Z5 (ah P w)))(F_lay_behind:Fn3 P w K mg base 1 "lay_behind" [] (bq Z1 Z2 Z3 Z4 Z5 (ah P w)))(F_old_slots:Fn3 P w K mg base 2 "old_slots" [] (bu Z1 Z2 Z3 Z4 Z5 (ah P w)))(F_stroke_of:Fn3 P w K mg base 4 "stroke_of" [] (br Z1 Z2 Z3 Z4 Z5 (ah P w)))(Mt_Stroke_slots:Mt3 P w K mg base 1 Z1 "slots" [] (ai Z1 Z2 Z3 Z4 Z5 (ah P w)))(Mt_Put_slots:Mt3 P w K mg base 2 Z2 "slots" [] (aO Z1 Z2 Z3 Z4 Z5 (ah P w)))(Mt_Strike_slots:Mt3 P w K mg base 1 Z3 "slots" [] (ai Z1 Z2 Z3 Z4 Z5 (ah P w)))(Mt_Dress_slots:Mt3 P w K mg base 1 Z4 "slots" [] (ai Z1 Z2 Z3 Z4 Z5 (ah P w)))(Mt_Move_slots:Mt3 P w K mg base 2 Z5 "slots" [] (aI Z1 Z2 Z3 Z4 Z5 (ah P w)))
  (rok:bm (bH Z1 Z2 Z3 Z4 Z5 (ah P w)) (fw Z1 Z2 Z3 Z4 Z5 (ah P w)) ["old","strokes","following","stroke"]) (len:bn (bH Z1 Z2 Z3 Z4 Z5 (ah P w)) 2):FnOk P w K mg base fk 5 f fd ["old","strokes"] (aE K (bH Z1 Z2 Z3 Z4 Z5 (ah P w))):=by
 refine Fun3.ok3 F iD len (fun cdv A outer s H E hr=>⟨fw Z1 Z2 Z3 Z4 Z5 (ah P w),?_,rok⟩);have hu8:=u8 hr;have hu4:=u4 hr;unfold fw;exact (am (aX (i:=2) iD.nd rfl (by walk_at "i") (zE hu8 (iG (by rfl) T.k_START) AB))
   (am (gF (bz F_lay_behind (hr.mono (by decide)) (by rfl) (aa (aw 2) (aa (iG (by rfl) T.k_START) (aa (bz F_old_slots (hr.mono (by decide)) (by rfl) (aa (aw 0) ao)) ao)))))
   (am (fA PassesOwn.never rfl (dY (ig (T:=["row"]) (M:=["old","strokes","following","stroke"]) (cx rfl (by kernel_rfl)) (fun cl C s₀ H₀ fp=>⟨(aW (i:=0) oo rfl (by walk_at "i")),iB,(bz F_stroke_of (hr.mono (by decide)) (by rfl) (aa (aw 0) ao))⟩) (dY (bz F_in_order (hr.mono (by decide)) (by rfl) (aa (aw 1) ao))))) (aW (i:=3) iD.nd rfl (by walk_at "i")) (aF (gU (uA hu8 (ie T.fa_anchor (aw 3)) (aw 2)) (aF (gF (bz F_lay_behind (hr.mono (by decide)) (by rfl) (aa (aw 2) (aa (ie T.fa_anchor (aw 3)) (aa (gn (k:=2) (all_cons ⟨_,(by decide),Mt_Stroke_slots⟩ (all_cons ⟨_,(by decide),Mt_Put_slots⟩ (all_cons ⟨_,(by decide),Mt_Strike_slots⟩ (all_cons ⟨_,(by decide),Mt_Dress_slots⟩ (all_cons ⟨_,(by decide),Mt_Move_slots⟩ (fun _ h=>nomatch h)))))) (hr.mono (by decide)) (aw 3)) ao)))))) eu)))
   (aF (cC (bz F_chained (hr.mono (by decide)) (by rfl) (aa (aw 2) ao)))))))
theorem we{f:Addr}{fd:FuncData}(F:Fun3 K "marked" "marked" gP f fd)(T:Tx K mg Z1 Z2 Z3 Z4 Z5) 
  (rok:bm (cr Z1 Z2 Z3 Z4 Z5 (ah P w)) (gT Z1 Z2 Z3 Z4 Z5 (ah P w)) ["keys"]) (len:bn (cr Z1 Z2 Z3 Z4 Z5 (ah P w)) 1):FnOk P w K mg base fk 1 f fd ["keys"] (aE K (cr Z1 Z2 Z3 Z4 Z5 (ah P w))):=by
 refine Fun3.ok3 F vV len (fun cdv A outer s H E hr=>⟨gT Z1 Z2 Z3 Z4 Z5 (ah P w),?_,rok⟩);have hu8:=u8 hr;have hu4:=u4 hr;unfold gT;exact (aF (cC (zD hu8 rfl (by rfl) T.b_dict (ig (T:=["key"]) (M:=["keys"]) (cx rfl (by kernel_rfl)) (fun cl C s₀ H₀ fp=>⟨(aW (i:=0) sR rfl (by walk_at "i")),iB,(dI (aa (aw 0) (aa xQ ao)))⟩) (dY (aw 0))))))
theorem qD{f:Addr}{fd:FuncData}(F:Fun3 K "is_placed" "is_placed" d_ f fd)(T:Tx K mg Z1 Z2 Z3 Z4 Z5)(Mt_Stroke_slots:Mt3 P w K mg base 1 Z1 "slots" [] (ai Z1 Z2 Z3 Z4 Z5 (ah P w)))(Mt_Put_slots:Mt3 P w K mg base 2 Z2 "slots" [] (aO Z1 Z2 Z3 Z4 Z5 (ah P w)))(Mt_Strike_slots:Mt3 P w K mg base 1 Z3 "slots" [] (ai Z1 Z2 Z3 Z4 Z5 (ah P w)))(Mt_Dress_slots:Mt3 P w K mg base 1 Z4 "slots" [] (ai Z1 Z2 Z3 Z4 Z5 (ah P w)))(Mt_Move_slots:Mt3 P w K mg base 2 Z5 "slots" [] (aI Z1 Z2 Z3 Z4 Z5 (ah P w)))
  (rok:bm (bO Z1 Z2 Z3 Z4 Z5 (ah P w)) (eL Z1 Z2 Z3 Z4 Z5 (ah P w)) ["stroke","in_row"]) (len:bn (bO Z1 Z2 Z3 Z4 Z5 (ah P w)) 2):FnOk P w K mg base fk 3 f fd ["stroke","in_row"] (aE K (bO Z1 Z2 Z3 Z4 Z5 (ah P w))):=by
 refine Fun3.ok3 F qf len (fun cdv A outer s H E hr=>⟨eL Z1 Z2 Z3 Z4 Z5 (ah P w),?_,rok⟩);have hu8:=u8 hr;have hu4:=u4 hr;unfold eL;exact (aF (cC (ck (Cg rfl) (by rfl) T.b_all PyProof.Rows.boot_all (aa (ig (T:=["slot"]) (M:=["stroke","in_row"]) (cx rfl (by kernel_rfl)) (fun cl C s₀ H₀ fp=>⟨(aW (i:=0) mV rfl (by walk_at "i")),iB,(C3 hu8 (aw 0) (aw 2))⟩) (dY (gn (k:=2) (all_cons ⟨_,(by decide),Mt_Stroke_slots⟩ (all_cons ⟨_,(by decide),Mt_Put_slots⟩ (all_cons ⟨_,(by decide),Mt_Strike_slots⟩ (all_cons ⟨_,(by decide),Mt_Dress_slots⟩ (all_cons ⟨_,(by decide),Mt_Move_slots⟩ (fun _ h=>nomatch h)))))) (hr.mono (by decide)) (aw 0)))) ao))))
theorem qE{f:Addr}{fd:FuncData}(F:Fun3 K "effective" "effective" ee f fd)(T:Tx K mg Z1 Z2 Z3 Z4 Z5)(F_in_order:Fn3 P w K mg base 4 "in_order" [] (bI Z1 Z2 Z3 Z4 Z5 (ah P w)))(F_is_placed:Fn3 P w K mg base 3 "is_placed" [] (bO Z1 Z2 Z3 Z4 Z5 (ah P w)))(F_marked:Fn3 P w K mg base 1 "marked" [] (cr Z1 Z2 Z3 Z4 Z5 (ah P w)))(F_stroke_of:Fn3 P w K mg base 4 "stroke_of" [] (br Z1 Z2 Z3 Z4 Z5 (ah P w)))
  (rok:bm (bP Z1 Z2 Z3 Z4 Z5 (ah P w)) (eM Z1 Z2 Z3 Z4 Z5 (ah P w)) ["strokes","standing","in_row","stands","chosen"]) (len:bn (bP Z1 Z2 Z3 Z4 Z5 (ah P w)) 3):FnOk P w K mg base fk 5 f fd ["strokes","standing","in_row"] (aE K (bP Z1 Z2 Z3 Z4 Z5 (ah P w))):=by
 refine Fun3.ok3 F h8 len (fun cdv A outer s H E hr=>⟨eM Z1 Z2 Z3 Z4 Z5 (ah P w),?_,rok⟩);have hu8:=u8 hr;have hu4:=u4 hr;unfold eM;exact (am (aX (i:=3) h8.nd rfl (by walk_at "i") (bz F_marked (hr.mono (by decide)) (by rfl) (aa (aw 1) ao)))
   (am (uq (T:=["row"]) (M:=["strokes","standing","in_row","stands","chosen"]) (i:=4) (cx rfl (by kernel_rfl)) h8.nd rfl rfl (fun cl C s₀ H₀ fp=>⟨(aW (i:=0) mX rfl (by walk_at "i")),(p7 (uA hu8 (bC (aw 0) ar) (aw 4))),(bz F_stroke_of (hr.mono (by decide)) (by rfl) (aa (aw 0) ao))⟩) (dY (bz F_in_order (hr.mono (by decide)) (by rfl) (aa (aw 0) ao))))
   (aF (cC (ig (T:=["stroke"]) (M:=["strokes","standing","in_row","stands","chosen"]) (cx rfl (by kernel_rfl)) (fun cl C s₀ H₀ fp=>⟨(aW (i:=0) mW rfl (by walk_at "i")),(p7 (iF (bz F_is_placed (hr.mono (by decide)) (by rfl) (aa (aw 0) (aa (aw 3) ao))))),(aw 0)⟩) (dY (aw 4)))))))
theorem kq{f:Addr}{fd:FuncData}(F:Fun3 K "signs_brought" "signs_brought" cu f fd)(T:Tx K mg Z1 Z2 Z3 Z4 Z5)(F_old_slots:Fn3 P w K mg base 2 "old_slots" [] (bu Z1 Z2 Z3 Z4 Z5 (ah P w)))(Mt_Stroke_slots:Mt3 P w K mg base 1 Z1 "slots" [] (ai Z1 Z2 Z3 Z4 Z5 (ah P w)))(Mt_Put_slots:Mt3 P w K mg base 2 Z2 "slots" [] (aO Z1 Z2 Z3 Z4 Z5 (ah P w)))(Mt_Strike_slots:Mt3 P w K mg base 1 Z3 "slots" [] (ai Z1 Z2 Z3 Z4 Z5 (ah P w)))(Mt_Dress_slots:Mt3 P w K mg base 1 Z4 "slots" [] (ai Z1 Z2 Z3 Z4 Z5 (ah P w)))(Mt_Move_slots:Mt3 P w K mg base 2 Z5 "slots" [] (aI Z1 Z2 Z3 Z4 Z5 (ah P w)))
  (rok:bm (bb Z1 Z2 Z3 Z4 Z5 (ah P w)) (cN Z1 Z2 Z3 Z4 Z5 (ah P w)) ["old","strokes","brought","stroke","name","sign"]) (len:bn (bb Z1 Z2 Z3 Z4 Z5 (ah P w)) 2):FnOk P w K mg base fk 3 f fd ["old","strokes"] (aE K (bb Z1 Z2 Z3 Z4 Z5 (ah P w))):=by
 refine Fun3.ok3 F cH len (fun cdv A outer s H E hr=>⟨cN Z1 Z2 Z3 Z4 Z5 (ah P w),?_,rok⟩);have hu8:=u8 hr;have hu4:=u4 hr;unfold cN;exact (am (aX (i:=2) cH.nd rfl (by walk_at "i") (zC hu8 rfl (by rfl) T.b_dict (by rfl) T.b_zip (aa (bz F_old_slots (hr.mono (by decide)) (by rfl) (aa (aw 0) ao)) (aa (aw 0) ao))))
   (am (fA PassesOwn.never rfl (dY (aw 1)) (aW (i:=3) cH.nd rfl (by walk_at "i")) (aF (gU (iF (ck (vE T.ik_Put) (by rfl) T.b_isinstance boot_isinstance (aa (aw 3) (aa (qA (by rfl) T.xm_Put) ao)))) (aF (fA PassesOwn.never rfl (AJ (by rfl) T.b_zip (aa (gn (k:=2) (all_cons ⟨_,(by decide),Mt_Stroke_slots⟩ (all_cons ⟨_,(by decide),Mt_Put_slots⟩ (all_cons ⟨_,(by decide),Mt_Strike_slots⟩ (all_cons ⟨_,(by decide),Mt_Dress_slots⟩ (all_cons ⟨_,(by decide),Mt_Move_slots⟩ (fun _ h=>nomatch h)))))) (hr.mono (by decide)) (aw 3)) (aa (ie T.fa_signs (aw 3)) ao))) (pI (n:=2) rfl (dM (aW (i:=4) cH.nd rfl (by walk_at "i")) (dM (aW (i:=5) cH.nd rfl (by walk_at "i")) pJ))) (aF (ia hu8 (aw 2) (aw 4) (aw 5))))) eu)))
   (aF (cC (aw 2)))))
theorem jO{f:Addr}{fd:FuncData}(F:Fun3 K "touched" "Stroke.touched" b8 f fd)(T:Tx K mg Z1 Z2 Z3 Z4 Z5) 
  (rok:bm (ab Z1 Z2 Z3 Z4 Z5 (ah P w)) (cA Z1 Z2 Z3 Z4 Z5 (ah P w)) ["self"]) (len:bn (ab Z1 Z2 Z3 Z4 Z5 (ah P w)) 1):FnOk P w K mg base fk 1 f fd ["self"] (aE K (ab Z1 Z2 Z3 Z4 Z5 (ah P w))):=by
 refine Fun3.ok3 F jD len (fun cdv A outer s H E hr=>⟨cA Z1 Z2 Z3 Z4 Z5 (ah P w),?_,rok⟩);have hu8:=u8 hr;have hu4:=u4 hr;unfold cA;exact (aF (cC (jL b_list (by rfl) T.b_list PyProof.Rows.boot_list (aa (ie T.fa_names (aw 0)) ao))))
theorem lQ{f:Addr}{fd:FuncData}(F:Fun3 K "signs_struck" "signs_struck" cI f fd)(T:Tx K mg Z1 Z2 Z3 Z4 Z5)(Mt_Stroke_touched:Mt3 P w K mg base 1 Z1 "touched" [] (ab Z1 Z2 Z3 Z4 Z5 (ah P w)))(Mt_Put_touched:Mt3 P w K mg base 1 Z2 "touched" [] (ab Z1 Z2 Z3 Z4 Z5 (ah P w)))(Mt_Strike_touched:Mt3 P w K mg base 1 Z3 "touched" [] (ab Z1 Z2 Z3 Z4 Z5 (ah P w)))(Mt_Dress_touched:Mt3 P w K mg base 1 Z4 "touched" [] (ab Z1 Z2 Z3 Z4 Z5 (ah P w)))(Mt_Move_touched:Mt3 P w K mg base 1 Z5 "touched" [] (ab Z1 Z2 Z3 Z4 Z5 (ah P w)))
  (rok:bm (bg Z1 Z2 Z3 Z4 Z5 (ah P w)) (cY Z1 Z2 Z3 Z4 Z5 (ah P w)) ["strokes","struck","stroke","name"]) (len:bn (bg Z1 Z2 Z3 Z4 Z5 (ah P w)) 1):FnOk P w K mg base fk 2 f fd ["strokes"] (aE K (bg Z1 Z2 Z3 Z4 Z5 (ah P w))):=by
 refine Fun3.ok3 F d4 len (fun cdv A outer s H E hr=>⟨cY Z1 Z2 Z3 Z4 Z5 (ah P w),?_,rok⟩);have hu8:=u8 hr;have hu4:=u4 hr;unfold cY;exact (am (aX (i:=1) d4.nd rfl (by walk_at "i") mP)
   (am (fA PassesOwn.never rfl (dY (aw 0)) (aW (i:=2) d4.nd rfl (by walk_at "i")) (aF (gU (iF (ck (vE T.ik_Strike) (by rfl) T.b_isinstance boot_isinstance (aa (aw 2) (aa (qA (by rfl) T.xm_Strike) ao)))) (aF (fA PassesOwn.never rfl (dY (gn (k:=1) (all_cons ⟨_,(by decide),Mt_Stroke_touched⟩ (all_cons ⟨_,(by decide),Mt_Put_touched⟩ (all_cons ⟨_,(by decide),Mt_Strike_touched⟩ (all_cons ⟨_,(by decide),Mt_Dress_touched⟩ (all_cons ⟨_,(by decide),Mt_Move_touched⟩ (fun _ h=>nomatch h)))))) (hr.mono (by decide)) (aw 2))) (aW (i:=3) d4.nd rfl (by walk_at "i")) (aF (ia hu8 (aw 1) (aw 3) xQ)))) eu)))
   (aF (cC (aw 1)))))
theorem mQ{f:Addr}{fd:FuncData}(F:Fun3 K "slots_taken" "slots_taken" da f fd)(T:Tx K mg Z1 Z2 Z3 Z4 Z5)(Mt_Stroke_slots:Mt3 P w K mg base 1 Z1 "slots" [] (ai Z1 Z2 Z3 Z4 Z5 (ah P w)))(Mt_Put_slots:Mt3 P w K mg base 2 Z2 "slots" [] (aO Z1 Z2 Z3 Z4 Z5 (ah P w)))(Mt_Strike_slots:Mt3 P w K mg base 1 Z3 "slots" [] (ai Z1 Z2 Z3 Z4 Z5 (ah P w)))(Mt_Dress_slots:Mt3 P w K mg base 1 Z4 "slots" [] (ai Z1 Z2 Z3 Z4 Z5 (ah P w)))(Mt_Move_slots:Mt3 P w K mg base 2 Z5 "slots" [] (aI Z1 Z2 Z3 Z4 Z5 (ah P w)))(Mt_Stroke_touched:Mt3 P w K mg base 1 Z1 "touched" [] (ab Z1 Z2 Z3 Z4 Z5 (ah P w)))(Mt_Put_touched:Mt3 P w K mg base 1 Z2 "touched" [] (ab Z1 Z2 Z3 Z4 Z5 (ah P w)))(Mt_Strike_touched:Mt3 P w K mg base 1 Z3 "touched" [] (ab Z1 Z2 Z3 Z4 Z5 (ah P w)))(Mt_Dress_touched:Mt3 P w K mg base 1 Z4 "touched" [] (ab Z1 Z2 Z3 Z4 Z5 (ah P w)))(Mt_Move_touched:Mt3 P w K mg base 1 Z5 "touched" [] (ab Z1 Z2 Z3 Z4 Z5 (ah P w)))
  (rok:bm (bo Z1 Z2 Z3 Z4 Z5 (ah P w)) (du Z1 Z2 Z3 Z4 Z5 (ah P w)) ["strokes","taken","stroke","name","slot"]) (len:bn (bo Z1 Z2 Z3 Z4 Z5 (ah P w)) 1):FnOk P w K mg base fk 3 f fd ["strokes"] (aE K (bo Z1 Z2 Z3 Z4 Z5 (ah P w))):=by
 refine Fun3.ok3 F dj len (fun cdv A outer s H E hr=>⟨du Z1 Z2 Z3 Z4 Z5 (ah P w),?_,rok⟩);have hu8:=u8 hr;have hu4:=u4 hr;unfold du;exact (am (aX (i:=1) dj.nd rfl (by walk_at "i") mP)
   (am (fA PassesOwn.never rfl (dY (aw 0)) (aW (i:=2) dj.nd rfl (by walk_at "i")) (aF (gU (iF (ck (vE T.ik_Move) (by rfl) T.b_isinstance boot_isinstance (aa (aw 2) (aa (qA (by rfl) T.xm_Move) ao)))) (aF (fA PassesOwn.never rfl (AJ (by rfl) T.b_zip (aa (gn (k:=1) (all_cons ⟨_,(by decide),Mt_Stroke_touched⟩ (all_cons ⟨_,(by decide),Mt_Put_touched⟩ (all_cons ⟨_,(by decide),Mt_Strike_touched⟩ (all_cons ⟨_,(by decide),Mt_Dress_touched⟩ (all_cons ⟨_,(by decide),Mt_Move_touched⟩ (fun _ h=>nomatch h)))))) (hr.mono (by decide)) (aw 2)) (aa (gn (k:=2) (all_cons ⟨_,(by decide),Mt_Stroke_slots⟩ (all_cons ⟨_,(by decide),Mt_Put_slots⟩ (all_cons ⟨_,(by decide),Mt_Strike_slots⟩ (all_cons ⟨_,(by decide),Mt_Dress_slots⟩ (all_cons ⟨_,(by decide),Mt_Move_slots⟩ (fun _ h=>nomatch h)))))) (hr.mono (by decide)) (aw 2)) ao))) (pI (n:=2) rfl (dM (aW (i:=3) dj.nd rfl (by walk_at "i")) (dM (aW (i:=4) dj.nd rfl (by walk_at "i")) pJ))) (aF (ia hu8 (aw 1) (aw 3) (aw 4))))) eu)))
   (aF (cC (aw 1)))))
theorem og{f:Addr}{fd:FuncData}(F:Fun3 K "words_worn" "words_worn" dB f fd)(T:Tx K mg Z1 Z2 Z3 Z4 Z5)(Mt_Stroke_touched:Mt3 P w K mg base 1 Z1 "touched" [] (ab Z1 Z2 Z3 Z4 Z5 (ah P w)))(Mt_Put_touched:Mt3 P w K mg base 1 Z2 "touched" [] (ab Z1 Z2 Z3 Z4 Z5 (ah P w)))(Mt_Strike_touched:Mt3 P w K mg base 1 Z3 "touched" [] (ab Z1 Z2 Z3 Z4 Z5 (ah P w)))(Mt_Dress_touched:Mt3 P w K mg base 1 Z4 "touched" [] (ab Z1 Z2 Z3 Z4 Z5 (ah P w)))(Mt_Move_touched:Mt3 P w K mg base 1 Z5 "touched" [] (ab Z1 Z2 Z3 Z4 Z5 (ah P w)))
  (rok:bm (bE Z1 Z2 Z3 Z4 Z5 (ah P w)) (dS Z1 Z2 Z3 Z4 Z5 (ah P w)) ["strokes","worn","stroke","name"]) (len:bn (bE Z1 Z2 Z3 Z4 Z5 (ah P w)) 1):FnOk P w K mg base fk 2 f fd ["strokes"] (aE K (bE Z1 Z2 Z3 Z4 Z5 (ah P w))):=by
 refine Fun3.ok3 F fm len (fun cdv A outer s H E hr=>⟨dS Z1 Z2 Z3 Z4 Z5 (ah P w),?_,rok⟩);have hu8:=u8 hr;have hu4:=u4 hr;unfold dS;exact (am (aX (i:=1) fm.nd rfl (by walk_at "i") mP)
   (am (fA PassesOwn.never rfl (dY (aw 0)) (aW (i:=2) fm.nd rfl (by walk_at "i")) (aF (gU (iF (ck (vE T.ik_Dress) (by rfl) T.b_isinstance boot_isinstance (aa (aw 2) (aa (qA (by rfl) T.xm_Dress) ao)))) (aF (fA PassesOwn.never rfl (dY (gn (k:=1) (all_cons ⟨_,(by decide),Mt_Stroke_touched⟩ (all_cons ⟨_,(by decide),Mt_Put_touched⟩ (all_cons ⟨_,(by decide),Mt_Strike_touched⟩ (all_cons ⟨_,(by decide),Mt_Dress_touched⟩ (all_cons ⟨_,(by decide),Mt_Move_touched⟩ (fun _ h=>nomatch h)))))) (hr.mono (by decide)) (aw 2))) (aW (i:=3) fm.nd rfl (by walk_at "i")) (aF (ia hu8 (aw 1) (aw 3) (ie T.fa_word (aw 2)))))) eu)))
   (aF (cC (aw 1)))))
theorem wb{f:Addr}{fd:FuncData}(F:Fun3 K "seated" "seated" gO f fd)(T:Tx K mg Z1 Z2 Z3 Z4 Z5)(F_effective:Fn3 P w K mg base 5 "effective" [] (bP Z1 Z2 Z3 Z4 Z5 (ah P w)))(F_marked:Fn3 P w K mg base 1 "marked" [] (cr Z1 Z2 Z3 Z4 Z5 (ah P w)))(F_signs_brought:Fn3 P w K mg base 3 "signs_brought" [] (bb Z1 Z2 Z3 Z4 Z5 (ah P w)))(F_signs_struck:Fn3 P w K mg base 2 "signs_struck" [] (bg Z1 Z2 Z3 Z4 Z5 (ah P w)))(F_slots_of:Fn3 P w K mg base 5 "slots_of" [] (bH Z1 Z2 Z3 Z4 Z5 (ah P w)))(F_slots_taken:Fn3 P w K mg base 3 "slots_taken" [] (bo Z1 Z2 Z3 Z4 Z5 (ah P w)))(F_words_worn:Fn3 P w K mg base 2 "words_worn" [] (bE Z1 Z2 Z3 Z4 Z5 (ah P w)))
  (rok:bm (c9 Z1 Z2 Z3 Z4 Z5 (ah P w)) (gR Z1 Z2 Z3 Z4 Z5 (ah P w)) ["old","strokes","standing","row","working","brought","struck","taken","worn","sitting","name","seats"]) (len:bn (c9 Z1 Z2 Z3 Z4 Z5 (ah P w)) 3):FnOk P w K mg base fk 6 f fd ["old","strokes","standing"] (aE K (c9 Z1 Z2 Z3 Z4 Z5 (ah P w))):=by
 refine Fun3.ok3 F c_ len (fun cdv A outer s H E hr=>⟨gR Z1 Z2 Z3 Z4 Z5 (ah P w),?_,rok⟩);have hu8:=u8 hr;have hu4:=u4 hr;unfold gR;exact (am (aX (i:=3) c_.nd rfl (by walk_at "i") (bz F_slots_of (hr.mono (by decide)) (by rfl) (aa (aw 0) (aa (aw 1) ao))))
   (am (aX (i:=4) c_.nd rfl (by walk_at "i") (bz F_effective (hr.mono (by decide)) (by rfl) (aa (aw 1) (aa (aw 2) (aa (bz F_marked (hr.mono (by decide)) (by rfl) (aa (aw 3) ao)) ao)))))
   (am (aX (i:=5) c_.nd rfl (by walk_at "i") (bz F_signs_brought (hr.mono (by decide)) (by rfl) (aa (aw 0) (aa (aw 4) ao))))
   (am (aX (i:=6) c_.nd rfl (by walk_at "i") (bz F_signs_struck (hr.mono (by decide)) (by rfl) (aa (aw 4) ao)))
   (am (aX (i:=7) c_.nd rfl (by walk_at "i") (bz F_slots_taken (hr.mono (by decide)) (by rfl) (aa (aw 4) ao)))
   (am (aX (i:=8) c_.nd rfl (by walk_at "i") (bz F_words_worn (hr.mono (by decide)) (by rfl) (aa (aw 4) ao)))
   (am (aX (i:=9) c_.nd rfl (by walk_at "i") mP)
   (am (Bd PassesOwn.never rfl (aw 5) (aW (i:=10) c_.nd rfl (by walk_at "i")) (aF (gU (v_ hu8 (aw 10) (aw 6)) (aF (ia hu8 (aw 9) (qz hu8 (aw 7) (aw 10) (aw 10)) (aw 10))) eu)))
   (am (uq (T:=["slot"]) (M:=["old","strokes","standing","row","working","brought","struck","taken","worn","sitting","name","seats"]) (i:=11) (cx rfl (by kernel_rfl)) c_.nd rfl rfl (fun cl C s₀ H₀ fp=>⟨(aW (i:=0) sQ rfl (by walk_at "i")),(p7 (uA hu8 (aw 0) (aw 10))),(dI (aa (aw 0) (aa (pA hu8 (aw 10) (aw 0)) ao)))⟩) (dY (aw 3)))
   (aF (cC (ig (T:=["slot","name"]) (M:=["old","strokes","standing","row","working","brought","struck","taken","worn","sitting","-name","seats"]) (cx rfl (by kernel_rfl)) (fun cl C s₀ H₀ fp=>⟨(pI (n:=2) rfl (dM (aW (i:=0) lf rfl (by walk_at "i")) (dM (aW (i:=1) lf rfl (by walk_at "i")) pJ))),iB,(dI (aa (aw 0) (aa (aw 1) (aa (pA hu8 (aw 7) (aw 1)) (aa (qz hu8 (aw 10) (aw 1) ce) ao)))))⟩) (dY (aw 11))))))))))))))
theorem qG{f:Addr}{fd:FuncData}(F:Fun3 K "_law_seat" "_law_seat" eg f fd)(T:Tx K mg Z1 Z2 Z3 Z4 Z5) 
  (rok:bm (bR Z1 Z2 Z3 Z4 Z5 (ah P w)) (eO Z1 Z2 Z3 Z4 Z5 (ah P w)) ["_law_name","_law_acts","_law_slots","_law_seat_here","_law_one","_law_time","_law_act","_law_slot"]) (len:bn (bR Z1 Z2 Z3 Z4 Z5 (ah P w)) 3):FnOk P w K mg base fk 1 f fd ["_law_name","_law_acts","_law_slots"] (aE K (bR Z1 Z2 Z3 Z4 Z5 (ah P w))):=by
 refine Fun3.ok3 F cV len (fun cdv A outer s H E hr=>⟨eO Z1 Z2 Z3 Z4 Z5 (ah P w),?_,rok⟩);have hu8:=u8 hr;have hu4:=u4 hr;unfold eO;exact (am (aX (i:=3) cV.nd rfl (by walk_at "i") (aw 0))
   (am (fA PassesOwn.never rfl (dY (aw 1)) (pI (n:=3) rfl (dM (aW (i:=4) cV.nd rfl (by walk_at "i")) (dM (aW (i:=5) cV.nd rfl (by walk_at "i")) (dM (aW (i:=6) cV.nd rfl (by walk_at "i")) pJ)))) (aF (gU (PW.pt (Au (cX (r6 hu8) (bC (aw 6) ar) ce (d7 _)) (xb (cX (yV hu8) (aw 0) (bC (aw 6) ar) rfl)))) (am (aX (i:=7) cV.nd rfl (by walk_at "i") (dI (aa (bC (aw 4) ar) (aa (bC (aw 4) ar) (aa (cq dP ar (xP hu8 (bC (aw 6) ar) (aa (aw 0) ao))) ao)))))
   (aF (gU (cX (yV hu8) (aw 7) (aw 2) rfl) (aF (aX (i:=3) cV.nd rfl (by walk_at "i") (aw 7))) eu))) eu)))
   (aF (cC (aw 3)))))
theorem qF{f:Addr}{fd:FuncData}(F:Fun3 K "_law_word" "_law_word" ef f fd)(T:Tx K mg Z1 Z2 Z3 Z4 Z5) 
  (rok:bm (bQ Z1 Z2 Z3 Z4 Z5 (ah P w)) (eN Z1 Z2 Z3 Z4 Z5 (ah P w)) ["_law_name","_law_acts","_law_word_here","_law_one","_law_time","_law_act"]) (len:bn (bQ Z1 Z2 Z3 Z4 Z5 (ah P w)) 2):FnOk P w K mg base fk 1 f fd ["_law_name","_law_acts"] (aE K (bQ Z1 Z2 Z3 Z4 Z5 (ah P w))):=by
 refine Fun3.ok3 F dA len (fun cdv A outer s H E hr=>⟨eN Z1 Z2 Z3 Z4 Z5 (ah P w),?_,rok⟩);have hu8:=u8 hr;have hu4:=u4 hr;unfold eN;exact (am (aX (i:=2) dA.nd rfl (by walk_at "i") ce)
   (am (fA PassesOwn.never rfl (dY (aw 1)) (pI (n:=3) rfl (dM (aW (i:=3) dA.nd rfl (by walk_at "i")) (dM (aW (i:=4) dA.nd rfl (by walk_at "i")) (dM (aW (i:=5) dA.nd rfl (by walk_at "i")) pJ)))) (aF (gU (PW.pt (Au (cX (r6 hu8) (bC (aw 5) ar) ce (d7 _)) (xb (cX (yV hu8) (aw 0) (bC (aw 5) ar) rfl)))) (aF (aX (i:=2) dA.nd rfl (by walk_at "i") (bC (aw 5) ar))) eu)))
   (aF (cC (aw 2)))))
theorem sL{f:Addr}{fd:FuncData}(F:Fun3 K "_law_key" "_law_key" fg f fd)(T:Tx K mg Z1 Z2 Z3 Z4 Z5) 
  (rok:bm (bS Z1 Z2 Z3 Z4 Z5 (ah P w)) (fy Z1 Z2 Z3 Z4 Z5 (ah P w)) ["_law_row"]) (len:bn (bS Z1 Z2 Z3 Z4 Z5 (ah P w)) 1):FnOk P w K mg base fk 1 f fd ["_law_row"] (aE K (bS Z1 Z2 Z3 Z4 Z5 (ah P w))):=by
 refine Fun3.ok3 F sn len (fun cdv A outer s H E hr=>⟨fy Z1 Z2 Z3 Z4 Z5 (ah P w),?_,rok⟩);have hu8:=u8 hr;have hu4:=u4 hr;unfold fy;exact (aF (cC (dI (aa (bC (aw 0) ar) (aa (bC (bC (aw 0) ar) ar) (aa (bC (bC (aw 0) ar) ar) ao))))))
theorem BE{f:Addr}{fd:FuncData}(F:Fun3 K "law" "law" jF f fd)(T:Tx K mg Z1 Z2 Z3 Z4 Z5)(F__law_cell_at:Fn3 P w K mg base 1 "_law_cell_at" [] (aZ Z1 Z2 Z3 Z4 Z5 (ah P w)))(F__law_key:Fn3 P w K mg base 1 "_law_key" [] (bS Z1 Z2 Z3 Z4 Z5 (ah P w)))(F__law_seat:Fn3 P w K mg base 1 "_law_seat" [] (bR Z1 Z2 Z3 Z4 Z5 (ah P w)))(F__law_standing:Fn3 P w K mg base 2 "_law_standing" [] (bc Z1 Z2 Z3 Z4 Z5 (ah P w)))(F__law_strokes:Fn3 P w K mg base 2 "_law_strokes" [] (bh Z1 Z2 Z3 Z4 Z5 (ah P w)))(F__law_word:Fn3 P w K mg base 1 "_law_word" [] (bQ Z1 Z2 Z3 Z4 Z5 (ah P w)))(F_seated:Fn3 P w K mg base 6 "seated" [] (c9 Z1 Z2 Z3 Z4 Z5 (ah P w)))(F_slots_of:Fn3 P w K mg base 5 "slots_of" [] (bH Z1 Z2 Z3 Z4 Z5 (ah P w)))
  (rok:bm (jb Z1 Z2 Z3 Z4 Z5 (ah P w)) (mM Z1 Z2 Z3 Z4 Z5 (ah P w)) ["_law_script","_law_first","_law_old","_law_pens","_law_rows","_law_standing_here","_law_handed","_law_found","_law_slots","_law_acts","_law_slot","_law_name","_law_sign","_law_word_here"]) (len:bn (jb Z1 Z2 Z3 Z4 Z5 (ah P w)) 1):FnOk P w K mg base fk 7 f fd ["_law_script"] (aE K (jb Z1 Z2 Z3 Z4 Z5 (ah P w))):=by
 refine Fun3.ok3 F eG len (fun cdv A outer s H E hr=>⟨mM Z1 Z2 Z3 Z4 Z5 (ah P w),?_,rok⟩);have hu8:=u8 hr;have hu4:=u4 hr;unfold mM;exact (am (aX (i:=1) eG.nd rfl (by walk_at "i") (bz F__law_cell_at (hr.mono (by decide)) (by rfl) (aa (aw 0) (aa ar ao))))
   (am (aX (i:=2) eG.nd rfl (by walk_at "i") (ic vN ce jo (gG (cq fK (aw 1) ar))))
   (am (aX (i:=3) eG.nd rfl (by walk_at "i") (ic vN (bC (gW (aa (gW (aa ce (aa ce (aa ce ao)))) (aa (gW (aa ce (aa ce (aa ce ao)))) ao))) (cq fK (cq w4 (aw 1) ar) ar)) jo (gG (cq dP ar (cq fK (cq w4 (aw 1) ar) ar)))))
   (am (aX (i:=4) eG.nd rfl (by walk_at "i") (bz F__law_strokes (hr.mono (by decide)) (by rfl) (aa (ic vN (aw 0) (gG ar) (gG ar)) (aa (aw 3) (aa (aw 2) ao)))))
   (am (aX (i:=5) eG.nd rfl (by walk_at "i") (bz F__law_standing (hr.mono (by decide)) (by rfl) (aa (aw 4) (aa (bz F__law_cell_at (hr.mono (by decide)) (by rfl) (aa (aw 0) (aa ar ao))) ao))))
   (am (aX (i:=6) eG.nd rfl (by walk_at "i") (dI (aa (jL b_list (by rfl) T.b_list PyProof.Rows.boot_list (aa (aw 4) ao)) (aa (jL b_list (by rfl) T.b_list PyProof.Rows.boot_list (aa (aw 5) ao)) ao))))
   (am (aX (i:=7) eG.nd rfl (by walk_at "i") (bz F_seated (hr.mono (by decide)) (by rfl) (aa (aw 2) (aa (bC (aw 6) ar) (aa (bC (aw 6) ar) ao)))))
   (am (gU (cX (AW hu8) (aw 6) (dI (aa (aw 4) (aa (aw 5) ao))) (d7 _)) (aF (cC xQ)) eu)
   (am (aX (i:=8) eG.nd rfl (by walk_at "i") (bz F_slots_of (hr.mono (by decide)) (by rfl) (aa (aw 2) (aa (aw 4) ao))))
   (am (uq (T:=["_law_row"]) (M:=["_law_script","_law_first","_law_old","_law_pens","_law_rows","_law_standing_here","_law_handed","_law_found","_law_slots","_law_acts","_law_slot","_law_name","_law_sign","_law_word_here"]) (i:=9) (cx rfl (by kernel_rfl)) eG.nd rfl rfl (fun cl C s₀ H₀ fp=>⟨(aW (i:=0) xW rfl (by walk_at "i")),(p7 (cX (yV hu8) (bC (aw 0) ar) (aw 6) rfl)),(aw 0)⟩) (dY (zB F__law_key (hr.mono (by decide)) (by rfl) (by rfl) T.b_sorted (aw 4))))
   (am (fA PassesOwn.never rfl (dY (aw 7)) (pI (n:=4) rfl (dM (aW (i:=10) eG.nd rfl (by walk_at "i")) (dM (aW (i:=11) eG.nd rfl (by walk_at "i")) (dM (aW (i:=12) eG.nd rfl (by walk_at "i")) (dM (aW (i:=13) eG.nd rfl (by walk_at "i")) pJ))))) (aF (gU (PW.pt (DX (cX (AW hu8) (aw 10) (bz F__law_seat (hr.mono (by decide)) (by rfl) (aa (aw 11) (aa (aw 9) (aa (aw 8) ao)))) (d7 _)) (Cs (cX (AW hu8) (aw 13) (bz F__law_word (hr.mono (by decide)) (by rfl) (aa (aw 11) (aa (aw 9) ao))) (d7 _))))) (aF (cC xQ)) eu)))
   (aF (cC xQ)))))))))))))
end
theorem gK{α:Type}:∀ {us:List α},us.length=1->∃ a0,us=[a0]
 | [a0],_=>⟨a0,rfl⟩
theorem r8{α:Type}:∀ {us:List α},us.length=2->∃ a0 a1,us=[a0,a1]
 | [a0,a1],_=>⟨a0,a1,rfl⟩
theorem t3{α:Type}:∀ {us:List α},us.length=3->∃ a0 a1 a2,us=[a0,a1,a2]
 | [a0,a1,a2],_=>⟨a0,a1,a2,rfl⟩
theorem DY{α:Type}:∀ {us:List α},us.length=4->∃ a0 a1 a2 a3,us=[a0,a1,a2,a3]
 | [a0,a1,a2,a3],_=>⟨a0,a1,a2,a3,rfl⟩
theorem AY{α:Type}:∀ {us:List α},us.length=5->∃ a0 a1 a2 a3 a4,us=[a0,a1,a2,a3,a4]
 | [a0,a1,a2,a3,a4],_=>⟨a0,a1,a2,a3,a4,rfl⟩
section
variable{Z1 Z2 Z3 Z4 Z5:Addr}{hw:List aN->Int}
theorem kF:bn (aZ Z1 Z2 Z3 Z4 Z5 hw) 2:=fun _ _ _ h=>by unfold aZ at h;split at h<;>first|rfl|exact h.elim
theorem l_:bn (aY Z1 Z2 Z3 Z4 Z5 hw) 2:=fun _ _ _ h=>by unfold aY at h;split at h<;>first|rfl|exact h.elim
theorem kE:bn (bh Z1 Z2 Z3 Z4 Z5 hw) 3:=fun _ _ _ h=>by unfold bh at h;split at h<;>first|rfl|exact h.elim
theorem jY:bn (bc Z1 Z2 Z3 Z4 Z5 hw) 2:=fun _ _ _ h=>by unfold bc at h;split at h<;>first|rfl|exact h.elim
theorem m8:bn (bq Z1 Z2 Z3 Z4 Z5 hw) 3:=fun _ _ _ h=>by unfold bq at h;split at h<;>first|rfl|exact h.elim
theorem m7:bn (aV Z1 Z2 Z3 Z4 Z5 hw) 2:=fun _ _ _ h=>by unfold aV at h;split at h<;>first|rfl|exact h.elim
theorem ow:bn (bu Z1 Z2 Z3 Z4 Z5 hw) 1:=fun _ _ _ h=>by unfold bu at h;split at h<;>first|rfl|exact h.elim
theorem jp:bn (aK Z1 Z2 Z3 Z4 Z5 hw) 1:=fun _ _ _ h=>by unfold aK at h;split at h<;>first|rfl|exact h.elim
theorem qP:bn (bI Z1 Z2 Z3 Z4 Z5 hw) 1:=fun _ _ _ h=>by unfold bI at h;split at h<;>first|rfl|exact h.elim
theorem iW:bn (av Z1 Z2 Z3 Z4 Z5 hw) 3:=fun _ _ _ h=>by unfold av at h;split at h<;>first|rfl|exact h.elim
theorem kI:bn (a_ Z1 Z2 Z3 Z4 Z5 hw) 5:=fun _ _ _ h=>by unfold a_ at h;split at h<;>first|rfl|exact h.elim
theorem iX:bn (aM Z1 Z2 Z3 Z4 Z5 hw) 4:=fun _ _ _ h=>by unfold aM at h;split at h<;>first|rfl|exact h.elim
theorem jr:bn (aP Z1 Z2 Z3 Z4 Z5 hw) 5:=fun _ _ _ h=>by unfold aP at h;split at h<;>first|rfl|exact h.elim
theorem jZ:bn (aU Z1 Z2 Z3 Z4 Z5 hw) 5:=fun _ _ _ h=>by unfold aU at h;split at h<;>first|rfl|exact h.elim
theorem ou:bn (br Z1 Z2 Z3 Z4 Z5 hw) 1:=fun _ _ _ h=>by unfold br at h;split at h<;>first|rfl|exact h.elim
theorem sY:bn (cE Z1 Z2 Z3 Z4 Z5 hw) 1:=fun _ _ _ h=>by unfold cE at h;split at h<;>first|rfl|exact h.elim
theorem kH:bn (ai Z1 Z2 Z3 Z4 Z5 hw) 1:=fun _ _ _ h=>by unfold ai at h;split at h<;>first|rfl|exact h.elim
theorem oE:bn (aO Z1 Z2 Z3 Z4 Z5 hw) 1:=fun _ _ _ h=>by unfold aO at h;split at h<;>first|rfl|exact h.elim
theorem m9:bn (aI Z1 Z2 Z3 Z4 Z5 hw) 1:=fun _ _ _ h=>by unfold aI at h;split at h<;>first|rfl|exact h.elim
theorem qO:bn (bH Z1 Z2 Z3 Z4 Z5 hw) 2:=fun _ _ _ h=>by unfold bH at h;split at h<;>first|rfl|exact h.elim
theorem uM:bn (cr Z1 Z2 Z3 Z4 Z5 hw) 1:=fun _ _ _ h=>by unfold cr at h;split at h<;>first|rfl|exact h.elim
theorem oz:bn (bO Z1 Z2 Z3 Z4 Z5 hw) 2:=fun _ _ _ h=>by unfold bO at h;split at h<;>first|rfl|exact h.elim
theorem oA:bn (bP Z1 Z2 Z3 Z4 Z5 hw) 3:=fun _ _ _ h=>by unfold bP at h;split at h<;>first|rfl|exact h.elim
theorem jX:bn (bb Z1 Z2 Z3 Z4 Z5 hw) 2:=fun _ _ _ h=>by unfold bb at h;split at h<;>first|rfl|exact h.elim
theorem jq:bn (ab Z1 Z2 Z3 Z4 Z5 hw) 1:=fun _ _ _ h=>by unfold ab at h;split at h<;>first|rfl|exact h.elim
theorem kC:bn (bg Z1 Z2 Z3 Z4 Z5 hw) 1:=fun _ _ _ h=>by unfold bg at h;split at h<;>first|rfl|exact h.elim
theorem lZ:bn (bo Z1 Z2 Z3 Z4 Z5 hw) 1:=fun _ _ _ h=>by unfold bo at h;split at h<;>first|rfl|exact h.elim
theorem m6:bn (bE Z1 Z2 Z3 Z4 Z5 hw) 1:=fun _ _ _ h=>by unfold bE at h;split at h<;>first|rfl|exact h.elim
theorem uL:bn (c9 Z1 Z2 Z3 Z4 Z5 hw) 3:=fun _ _ _ h=>by unfold c9 at h;split at h<;>first|rfl|exact h.elim
theorem oC:bn (bR Z1 Z2 Z3 Z4 Z5 hw) 3:=fun _ _ _ h=>by unfold bR at h;split at h<;>first|rfl|exact h.elim
theorem oB:bn (bQ Z1 Z2 Z3 Z4 Z5 hw) 2:=fun _ _ _ h=>by unfold bQ at h;split at h<;>first|rfl|exact h.elim
theorem qQ:bn (bS Z1 Z2 Z3 Z4 Z5 hw) 1:=fun _ _ _ h=>by unfold bS at h;split at h<;>first|rfl|exact h.elim
theorem zQ:bn (jb Z1 Z2 Z3 Z4 Z5 hw) 1:=fun _ _ _ h=>by unfold jb at h;split at h<;>first|rfl|exact h.elim
end
theorem all_mk{P:Program}{w:World}{K:Frag}{h:Heap}{mg:Str->Option Value}{fa:Addr}{Z1 Z2 Z3 Z4 Z5 f0 f1 f2 f3 f4 f5 f6 f7 f8 f9 f10 f11 f12 f13 f14 f15 f16 f17 f18 f19 f20 f21 f22 f23 f24 f25 f26 f27 f28 f29 f30 f31 f32 ka0:Addr}{od0 an0 od1 an1 od2 an2 od3 an3 od4 an4 od5 an5 od6 an6 od7 an7 od8 an8 od9 an9 od10 an10 od11 an11 od12 an12 od13 an13 od14 an14 od15 an15 od16 an16 od17 an17 od18 an18 od19 an19 od20 an20 od21 an21 od22 an22 od23 an23 od24 an24 od25 an25 od26 an26 od27 an27 od28 an28 od29 an29 od30 an30 od31 an31 od32 an32:Option Addr}{sl0 sl1 sl2 sl3 sl4 sl5 sl6 sl7 sl8 sl9 sl10 sl11 sl12 sl13 sl14 sl15 sl16 sl17 sl18 sl19 sl20 sl21 sl22 sl23 sl24 sl25 sl26 sl27 sl28 sl29 sl30 sl31 sl32 ks0:Array (Option Value)}{oc0 kV0 dc0 pm0 cd0 ct0 oc1 kV1 dc1 pm1 cd1 ct1 oc2 kV2 dc2 pm2 cd2 ct2 oc3 kV3 dc3 pm3 cd3 ct3 oc4 kV4 dc4 pm4 cd4 ct4 oc5 kV5 dc5 pm5 cd5 ct5 oc6 kV6 dc6 pm6 cd6 ct6 oc7 kV7 dc7 pm7 cd7 ct7 oc8 kV8 dc8 pm8 cd8 ct8 oc9 kV9 dc9 pm9 cd9 ct9 oc10 kV10 dc10 pm10 cd10 ct10 oc11 kV11 dc11 pm11 cd11 ct11 oc12 kV12 dc12 pm12 cd12 ct12 oc13 kV13 dc13 pm13 cd13 ct13 oc14 kV14 dc14 pm14 cd14 ct14 oc15 kV15 dc15 pm15 cd15 ct15 oc16 kV16 dc16 pm16 cd16 ct16 oc17 kV17 dc17 pm17 cd17 ct17 oc18 kV18 dc18 pm18 cd18 ct18 oc19 kV19 dc19 pm19 cd19 ct19 oc20 kV20 dc20 pm20 cd20 ct20 oc21 kV21 dc21 pm21 cd21 ct21 oc22 kV22 dc22 pm22 cd22 ct22 oc23 kV23 dc23 pm23 cd23 ct23 oc24 kV24 dc24 pm24 cd24 ct24 oc25 kV25 dc25 pm25 cd25 ct25 oc26 kV26 dc26 pm26 cd26 ct26 oc27 kV27 dc27 pm27 cd27 ct27 oc28 kV28 dc28 pm28 cd28 ct28 oc29 kV29 dc29 pm29 cd29 ct29 oc30 kV30 dc30 pm30 cd30 ct30 oc31 kV31 dc31 pm31 cd31 ct31 oc32 kV32 dc32 pm32 cd32 ct32:Value}{kt0_0:Tok}{kt0_1:Tok}{kt0_2:Tok}{kz0:Nat}(X:K.In h)(G:h.Ns mainGlobals mg)(hfa:mg "law"=some (.ref fa))
  (c0a:nsIn K mainGlobals "Stroke"=some (some (.ref Z1)))
  (c1a:nsIn K mainGlobals "Put"=some (some (.ref Z2)))
  (c2a:nsIn K mainGlobals "Strike"=some (some (.ref Z3)))
  (c3a:nsIn K mainGlobals "Dress"=some (some (.ref Z4)))
  (c4a:nsIn K mainGlobals "Move"=some (some (.ref Z5)))
  (ia_gs:specialIn K (.builtin "object.__class__") "__get__"=some (some (.builtin "getset_descriptor.__get__")))
  (ia_tk:takesIn K (.builtin "object.__class__")=some true)
  (ia_Stroke_ca:findIn K (.ref Z1) "__class__"=some (some (.builtin "object.__class__")))
  (ia_Stroke_mo:mroIn K Z1 (.type "object")=some true)
  (xk_Stroke_Dress:kitOne K (.ref Z1) (.ref Z4)=some false)
  (xk_Stroke_Move:kitOne K (.ref Z1) (.ref Z5)=some false)
  (xk_Stroke_Put:kitOne K (.ref Z1) (.ref Z2)=some false)
  (xk_Stroke_Strike:kitOne K (.ref Z1) (.ref Z3)=some false)
  (ia_Put_ca:findIn K (.ref Z2) "__class__"=some (some (.builtin "object.__class__")))
  (ia_Put_mo:mroIn K Z2 (.type "object")=some true)
  (xk_Put_Dress:kitOne K (.ref Z2) (.ref Z4)=some false)
  (xk_Put_Move:kitOne K (.ref Z2) (.ref Z5)=some false)
  (xk_Put_Put:kitOne K (.ref Z2) (.ref Z2)=some true)
  (xk_Put_Strike:kitOne K (.ref Z2) (.ref Z3)=some false)
  (ia_Strike_ca:findIn K (.ref Z3) "__class__"=some (some (.builtin "object.__class__")))
  (ia_Strike_mo:mroIn K Z3 (.type "object")=some true)
  (xk_Strike_Dress:kitOne K (.ref Z3) (.ref Z4)=some false)
  (xk_Strike_Move:kitOne K (.ref Z3) (.ref Z5)=some false)
  (xk_Strike_Put:kitOne K (.ref Z3) (.ref Z2)=some false)
  (xk_Strike_Strike:kitOne K (.ref Z3) (.ref Z3)=some true)
  (ia_Dress_ca:findIn K (.ref Z4) "__class__"=some (some (.builtin "object.__class__")))
  (ia_Dress_mo:mroIn K Z4 (.type "object")=some true)
  (xk_Dress_Dress:kitOne K (.ref Z4) (.ref Z4)=some true)
  (xk_Dress_Move:kitOne K (.ref Z4) (.ref Z5)=some false)
  (xk_Dress_Put:kitOne K (.ref Z4) (.ref Z2)=some false)
  (xk_Dress_Strike:kitOne K (.ref Z4) (.ref Z3)=some false)
  (ia_Move_ca:findIn K (.ref Z5) "__class__"=some (some (.builtin "object.__class__")))
  (ia_Move_mo:mroIn K Z5 (.type "object")=some true)
  (xk_Move_Dress:kitOne K (.ref Z5) (.ref Z4)=some false)
  (xk_Move_Move:kitOne K (.ref Z5) (.ref Z5)=some true)
  (xk_Move_Put:kitOne K (.ref Z5) (.ref Z2)=some false)
  (xk_Move_Strike:kitOne K (.ref Z5) (.ref Z3)=some false)
  (a0:nsIn K mainGlobals "_law_cell_at"=some (some (.ref f0)))
  (l0:K.lookup f0=some ⟨oc0,od0,.func (fnOf "_law_cell_at" "_law_cell_at" (aL cK) (aH cK) (aj cK) .none kV0 dc0 pm0 an0 cd0 ct0),sl0⟩)
  (c0':codeIn K cd0 "_law_cell_at"=true)
  (k0:keepIn K (.ref f0)=true)
  (a1:nsIn K mainGlobals "_law_stream"=some (some (.ref f1)))
  (l1:K.lookup f1=some ⟨oc1,od1,.func (fnOf "_law_stream" "_law_stream" (aL db) (aH db) (aj db) .none kV1 dc1 pm1 an1 cd1 ct1),sl1⟩)
  (c1':codeIn K cd1 "_law_stream"=true)
  (k1:keepIn K (.ref f1)=true)
  (a2:nsIn K mainGlobals "_law_strokes"=some (some (.ref f2)))
  (l2:K.lookup f2=some ⟨oc2,od2,.func (fnOf "_law_strokes" "_law_strokes" (aL cJ) (aH cJ) (aj cJ) .none kV2 dc2 pm2 an2 cd2 ct2),sl2⟩)
  (c2':codeIn K cd2 "_law_strokes"=true)
  (k2:keepIn K (.ref f2)=true)
  (a3:nsIn K mainGlobals "_law_standing"=some (some (.ref f3)))
  (l3:K.lookup f3=some ⟨oc3,od3,.func (fnOf "_law_standing" "_law_standing" (aL cv) (aH cv) (aj cv) .none kV3 dc3 pm3 an3 cd3 ct3),sl3⟩)
  (c3':codeIn K cd3 "_law_standing"=true)
  (k3:keepIn K (.ref f3)=true)
  (a4:nsIn K mainGlobals "lay_behind"=some (some (.ref f4)))
  (l4:K.lookup f4=some ⟨oc4,od4,.func (fnOf "lay_behind" "lay_behind" (aL dD) (aH dD) (aj dD) .none kV4 dc4 pm4 an4 cd4 ct4),sl4⟩)
  (c4':codeIn K cd4 "lay_behind"=true)
  (k4:keepIn K (.ref f4)=true)
  (a5:nsIn K mainGlobals "slots_made"=some (some (.ref f5)))
  (l5:K.lookup f5=some ⟨oc5,od5,.func (fnOf "slots_made" "slots_made" (aL dC) (aH dC) (aj dC) .none kV5 dc5 pm5 an5 cd5 ct5),sl5⟩)
  (c5':codeIn K cd5 "slots_made"=true)
  (k5:keepIn K (.ref f5)=true)
  (a6:nsIn K mainGlobals "old_slots"=some (some (.ref f6)))
  (l6:K.lookup f6=some ⟨oc6,od6,.func (fnOf "old_slots" "old_slots" (aL d9) (aH d9) (aj d9) .none kV6 dc6 pm6 an6 cd6 ct6),sl6⟩)
  (c6':codeIn K cd6 "old_slots"=true)
  (k6:keepIn K (.ref f6)=true)
  (a7:nsIn K mainGlobals "place_in_order"=some (some (.ref f7)))
  (l7:K.lookup f7=some ⟨oc7,od7,.func (fnOf "place_in_order" "place_in_order" (aL b7) (aH b7) (aj b7) .none kV7 dc7 pm7 an7 cd7 ct7),sl7⟩)
  (c7':codeIn K cd7 "place_in_order"=true)
  (k7:keepIn K (.ref f7)=true)
  (a8:nsIn K mainGlobals "in_order"=some (some (.ref f8)))
  (l8:K.lookup f8=some ⟨oc8,od8,.func (fnOf "in_order" "in_order" (aL ff) (aH ff) (aj ff) .none kV8 dc8 pm8 an8 cd8 ct8),sl8⟩)
  (c8':codeIn K cd8 "in_order"=true)
  (k8:keepIn K (.ref f8)=true)
  (a9:findIn K (.ref Z1) "__init__"=some (some (.ref f9)))
  (i9:isFn K (.ref f9)=true)
  (l9:K.lookup f9=some ⟨oc9,od9,.func (fnOf "__init__" "Stroke.__init__" (aL bT) (aH bT) (aj bT) .none kV9 dc9 pm9 an9 cd9 ct9),sl9⟩)
  (c9':codeIn K cd9 "Stroke.__init__"=true)
  (k9:keepIn K (.ref f9)=true)
  (a10:findIn K (.ref Z2) "__init__"=some (some (.ref f10)))
  (i10:isFn K (.ref f10)=true)
  (l10:K.lookup f10=some ⟨oc10,od10,.func (fnOf "__init__" "Put.__init__" (aL cM) (aH cM) (aj cM) .none kV10 dc10 pm10 an10 cd10 ct10),sl10⟩)
  (c10':codeIn K cd10 "Put.__init__"=true)
  (k10:keepIn K (.ref f10)=true)
  (a11:findIn K (.ref Z3) "__init__"=some (some (.ref f11)))
  (i11:isFn K (.ref f11)=true)
  (l11:K.lookup f11=some ⟨oc11,od11,.func (fnOf "__init__" "Strike.__init__" (aL bU) (aH bU) (aj bU) .none kV11 dc11 pm11 an11 cd11 ct11),sl11⟩)
  (c11':codeIn K cd11 "Strike.__init__"=true)
  (k11:keepIn K (.ref f11)=true)
  (a12:findIn K (.ref Z4) "__init__"=some (some (.ref f12)))
  (i12:isFn K (.ref f12)=true)
  (l12:K.lookup f12=some ⟨oc12,od12,.func (fnOf "__init__" "Dress.__init__" (aL b9) (aH b9) (aj b9) .none kV12 dc12 pm12 an12 cd12 ct12),sl12⟩)
  (c12':codeIn K cd12 "Dress.__init__"=true)
  (k12:keepIn K (.ref f12)=true)
  (a13:findIn K (.ref Z5) "__init__"=some (some (.ref f13)))
  (i13:isFn K (.ref f13)=true)
  (l13:K.lookup f13=some ⟨oc13,od13,.func (fnOf "__init__" "Move.__init__" (aL cw) (aH cw) (aj cw) .none kV13 dc13 pm13 an13 cd13 ct13),sl13⟩)
  (c13':codeIn K cd13 "Move.__init__"=true)
  (k13:keepIn K (.ref f13)=true)
  (a14:nsIn K mainGlobals "stroke_of"=some (some (.ref f14)))
  (l14:K.lookup f14=some ⟨oc14,od14,.func (fnOf "stroke_of" "stroke_of" (aL d8) (aH d8) (aj d8) .none kV14 dc14 pm14 an14 cd14 ct14),sl14⟩)
  (c14':codeIn K cd14 "stroke_of"=true)
  (k14:keepIn K (.ref f14)=true)
  (a15:nsIn K mainGlobals "chained"=some (some (.ref f15)))
  (l15:K.lookup f15=some ⟨oc15,od15,.func (fnOf "chained" "chained" (aL fX) (aH fX) (aj fX) .none kV15 dc15 pm15 an15 cd15 ct15),sl15⟩)
  (c15':codeIn K cd15 "chained"=true)
  (k15:keepIn K (.ref f15)=true)
  (a16:findIn K (.ref Z1) "slots"=some (some (.ref f16)))
  (i16:isFn K (.ref f16)=true)
  (l16:K.lookup f16=some ⟨oc16,od16,.func (fnOf "slots" "Stroke.slots" (aL cL) (aH cL) (aj cL) .none kV16 dc16 pm16 an16 cd16 ct16),sl16⟩)
  (c16':codeIn K cd16 "Stroke.slots"=true)
  (k16:keepIn K (.ref f16)=true)
  (a17:findIn K (.ref Z2) "slots"=some (some (.ref f17)))
  (i17:isFn K (.ref f17)=true)
  (l17:K.lookup f17=some ⟨oc17,od17,.func (fnOf "slots" "Put.slots" (aL eh) (aH eh) (aj eh) .none kV17 dc17 pm17 an17 cd17 ct17),sl17⟩)
  (c17':codeIn K cd17 "Put.slots"=true)
  (k17:keepIn K (.ref f17)=true)
  (a18:findIn K (.ref Z5) "slots"=some (some (.ref f18)))
  (i18:isFn K (.ref f18)=true)
  (l18:K.lookup f18=some ⟨oc18,od18,.func (fnOf "slots" "Move.slots" (aL dE) (aH dE) (aj dE) .none kV18 dc18 pm18 an18 cd18 ct18),sl18⟩)
  (c18':codeIn K cd18 "Move.slots"=true)
  (k18:keepIn K (.ref f18)=true)
  (a19:nsIn K mainGlobals "slots_of"=some (some (.ref f19)))
  (l19:K.lookup f19=some ⟨oc19,od19,.func (fnOf "slots_of" "slots_of" (aL fe) (aH fe) (aj fe) .none kV19 dc19 pm19 an19 cd19 ct19),sl19⟩)
  (c19':codeIn K cd19 "slots_of"=true)
  (k19:keepIn K (.ref f19)=true)
  (a20:nsIn K mainGlobals "marked"=some (some (.ref f20)))
  (l20:K.lookup f20=some ⟨oc20,od20,.func (fnOf "marked" "marked" (aL gP) (aH gP) (aj gP) .none kV20 dc20 pm20 an20 cd20 ct20),sl20⟩)
  (c20':codeIn K cd20 "marked"=true)
  (k20:keepIn K (.ref f20)=true)
  (a21:nsIn K mainGlobals "is_placed"=some (some (.ref f21)))
  (l21:K.lookup f21=some ⟨oc21,od21,.func (fnOf "is_placed" "is_placed" (aL d_) (aH d_) (aj d_) .none kV21 dc21 pm21 an21 cd21 ct21),sl21⟩)
  (c21':codeIn K cd21 "is_placed"=true)
  (k21:keepIn K (.ref f21)=true)
  (a22:nsIn K mainGlobals "effective"=some (some (.ref f22)))
  (l22:K.lookup f22=some ⟨oc22,od22,.func (fnOf "effective" "effective" (aL ee) (aH ee) (aj ee) .none kV22 dc22 pm22 an22 cd22 ct22),sl22⟩)
  (c22':codeIn K cd22 "effective"=true)
  (k22:keepIn K (.ref f22)=true)
  (a23:nsIn K mainGlobals "signs_brought"=some (some (.ref f23)))
  (l23:K.lookup f23=some ⟨oc23,od23,.func (fnOf "signs_brought" "signs_brought" (aL cu) (aH cu) (aj cu) .none kV23 dc23 pm23 an23 cd23 ct23),sl23⟩)
  (c23':codeIn K cd23 "signs_brought"=true)
  (k23:keepIn K (.ref f23)=true)
  (a24:findIn K (.ref Z1) "touched"=some (some (.ref f24)))
  (i24:isFn K (.ref f24)=true)
  (l24:K.lookup f24=some ⟨oc24,od24,.func (fnOf "touched" "Stroke.touched" (aL b8) (aH b8) (aj b8) .none kV24 dc24 pm24 an24 cd24 ct24),sl24⟩)
  (c24':codeIn K cd24 "Stroke.touched"=true)
  (k24:keepIn K (.ref f24)=true)
  (a25:nsIn K mainGlobals "signs_struck"=some (some (.ref f25)))
  (l25:K.lookup f25=some ⟨oc25,od25,.func (fnOf "signs_struck" "signs_struck" (aL cI) (aH cI) (aj cI) .none kV25 dc25 pm25 an25 cd25 ct25),sl25⟩)
  (c25':codeIn K cd25 "signs_struck"=true)
  (k25:keepIn K (.ref f25)=true)
  (a26:nsIn K mainGlobals "slots_taken"=some (some (.ref f26)))
  (l26:K.lookup f26=some ⟨oc26,od26,.func (fnOf "slots_taken" "slots_taken" (aL da) (aH da) (aj da) .none kV26 dc26 pm26 an26 cd26 ct26),sl26⟩)
  (c26':codeIn K cd26 "slots_taken"=true)
  (k26:keepIn K (.ref f26)=true)
  (a27:nsIn K mainGlobals "words_worn"=some (some (.ref f27)))
  (l27:K.lookup f27=some ⟨oc27,od27,.func (fnOf "words_worn" "words_worn" (aL dB) (aH dB) (aj dB) .none kV27 dc27 pm27 an27 cd27 ct27),sl27⟩)
  (c27':codeIn K cd27 "words_worn"=true)
  (k27:keepIn K (.ref f27)=true)
  (a28:nsIn K mainGlobals "seated"=some (some (.ref f28)))
  (l28:K.lookup f28=some ⟨oc28,od28,.func (fnOf "seated" "seated" (aL gO) (aH gO) (aj gO) .none kV28 dc28 pm28 an28 cd28 ct28),sl28⟩)
  (c28':codeIn K cd28 "seated"=true)
  (k28:keepIn K (.ref f28)=true)
  (a29:nsIn K mainGlobals "_law_seat"=some (some (.ref f29)))
  (l29:K.lookup f29=some ⟨oc29,od29,.func (fnOf "_law_seat" "_law_seat" (aL eg) (aH eg) (aj eg) .none kV29 dc29 pm29 an29 cd29 ct29),sl29⟩)
  (c29':codeIn K cd29 "_law_seat"=true)
  (k29:keepIn K (.ref f29)=true)
  (a30:nsIn K mainGlobals "_law_word"=some (some (.ref f30)))
  (l30:K.lookup f30=some ⟨oc30,od30,.func (fnOf "_law_word" "_law_word" (aL ef) (aH ef) (aj ef) .none kV30 dc30 pm30 an30 cd30 ct30),sl30⟩)
  (c30':codeIn K cd30 "_law_word"=true)
  (k30:keepIn K (.ref f30)=true)
  (a31:nsIn K mainGlobals "_law_key"=some (some (.ref f31)))
  (l31:K.lookup f31=some ⟨oc31,od31,.func (fnOf "_law_key" "_law_key" (aL fg) (aH fg) (aj fg) .none kV31 dc31 pm31 an31 cd31 ct31),sl31⟩)
  (c31':codeIn K cd31 "_law_key"=true)
  (k31:keepIn K (.ref f31)=true)
  (a32:nsIn K mainGlobals "law"=some (some (.ref f32)))
  (l32:K.lookup f32=some ⟨oc32,od32,.func (fnOf "law" "law" (aL jF) (aH jF) (aj jF) .none kV32 dc32 pm32 an32 cd32 ct32),sl32⟩)
  (c32':codeIn K cd32 "law"=true)
  (k32:keepIn K (.ref f32)=true)
  (c0pg:plainGet K Z1 Str.empty=true)
  (c0hd:hasDictIn K Z1=true)
  (c0po:plainOver K Z1=true)
  (c0sa:findIn K (.ref Z1) "__setattr__"=some (some (.builtin "object.__setattr__")))
  (c0mk:makesIn K Z1=true)
  (c0kc:keepIn K (.ref Z1)=true)
  (c0n0:findIn K (.ref Z1) "anchor"=some none)
  (c0n1:findIn K (.ref Z1) "name"=some none)
  (c0n2:findIn K (.ref Z1) "names"=some none)
  (c0n3:findIn K (.ref Z1) "signs"=some none)
  (c0n4:findIn K (.ref Z1) "time"=some none)
  (c0n5:findIn K (.ref Z1) "word"=some none)
  (c1pg:plainGet K Z2 Str.empty=true)
  (c1hd:hasDictIn K Z2=true)
  (c1po:plainOver K Z2=true)
  (c1sa:findIn K (.ref Z2) "__setattr__"=some (some (.builtin "object.__setattr__")))
  (c1mk:makesIn K Z2=true)
  (c1kc:keepIn K (.ref Z2)=true)
  (c1n0:findIn K (.ref Z2) "anchor"=some none)
  (c1n1:findIn K (.ref Z2) "name"=some none)
  (c1n2:findIn K (.ref Z2) "names"=some none)
  (c1n3:findIn K (.ref Z2) "signs"=some none)
  (c1n4:findIn K (.ref Z2) "time"=some none)
  (c1n5:findIn K (.ref Z2) "word"=some none)
  (c2pg:plainGet K Z3 Str.empty=true)
  (c2hd:hasDictIn K Z3=true)
  (c2po:plainOver K Z3=true)
  (c2sa:findIn K (.ref Z3) "__setattr__"=some (some (.builtin "object.__setattr__")))
  (c2mk:makesIn K Z3=true)
  (c2kc:keepIn K (.ref Z3)=true)
  (c2n0:findIn K (.ref Z3) "anchor"=some none)
  (c2n1:findIn K (.ref Z3) "name"=some none)
  (c2n2:findIn K (.ref Z3) "names"=some none)
  (c2n3:findIn K (.ref Z3) "signs"=some none)
  (c2n4:findIn K (.ref Z3) "time"=some none)
  (c2n5:findIn K (.ref Z3) "word"=some none)
  (c3pg:plainGet K Z4 Str.empty=true)
  (c3hd:hasDictIn K Z4=true)
  (c3po:plainOver K Z4=true)
  (c3sa:findIn K (.ref Z4) "__setattr__"=some (some (.builtin "object.__setattr__")))
  (c3mk:makesIn K Z4=true)
  (c3kc:keepIn K (.ref Z4)=true)
  (c3n0:findIn K (.ref Z4) "anchor"=some none)
  (c3n1:findIn K (.ref Z4) "name"=some none)
  (c3n2:findIn K (.ref Z4) "names"=some none)
  (c3n3:findIn K (.ref Z4) "signs"=some none)
  (c3n4:findIn K (.ref Z4) "time"=some none)
  (c3n5:findIn K (.ref Z4) "word"=some none)
  (c4pg:plainGet K Z5 Str.empty=true)
  (c4hd:hasDictIn K Z5=true)
  (c4po:plainOver K Z5=true)
  (c4sa:findIn K (.ref Z5) "__setattr__"=some (some (.builtin "object.__setattr__")))
  (c4mk:makesIn K Z5=true)
  (c4kc:keepIn K (.ref Z5)=true)
  (c4n0:findIn K (.ref Z5) "anchor"=some none)
  (c4n1:findIn K (.ref Z5) "name"=some none)
  (c4n2:findIn K (.ref Z5) "names"=some none)
  (c4n3:findIn K (.ref Z5) "signs"=some none)
  (c4n4:findIn K (.ref Z5) "time"=some none)
  (c4n5:findIn K (.ref Z5) "word"=some none)
  (b_all:nsIn K mainGlobals "all"=some none)
  (b_dict:nsIn K mainGlobals "dict"=some none)
  (b_isinstance:nsIn K mainGlobals "isinstance"=some none)
  (b_len:nsIn K mainGlobals "len"=some none)
  (b_list:nsIn K mainGlobals "list"=some none)
  (b_range:nsIn K mainGlobals "range"=some none)
  (b_sorted:nsIn K mainGlobals "sorted"=some none)
  (b_tuple:nsIn K mainGlobals "tuple"=some none)
  (b_zip:nsIn K mainGlobals "zip"=some none)
  (kn0:nsIn K mainGlobals "START"=some (some (.ref ka0)))
  (kl0:K.lookup ka0=some ⟨.type "tuple",none,.seq #[.str "" kt0_0,.int 0 kt0_1,.int 0 kt0_2] kz0,ks0⟩)
  (am_Dress_slots:findIn K (.ref Z4) "slots"=some (some (.ref f16)))
  (am_Dress_touched:findIn K (.ref Z4) "touched"=some (some (.ref f24)))
  (am_Move_touched:findIn K (.ref Z5) "touched"=some (some (.ref f24)))
  (am_Put_touched:findIn K (.ref Z2) "touched"=some (some (.ref f24)))
  (am_Strike_slots:findIn K (.ref Z3) "slots"=some (some (.ref f16)))
  (am_Strike_touched:findIn K (.ref Z3) "touched"=some (some (.ref f24)))
  (cg_Stroke___init__:specialIn K (.ref Z1) "__getattribute__"=some (some (.builtin "type.__getattribute__")))
  (cr_Stroke___init__:readsIn K Z1 (.type "type")=true)
  (cf_Stroke___init__:findCls K (.ref Z1) (.type "type") "__init__"=some (.val (.ref f9))):
  ∃ fd:FuncData,(∀ (s:Shared) (v:Value),BindsTo s fd ⟨[v],[]⟩ [("_law_script",v)])/\∀ base:Heap,K.In base->base.Ns mainGlobals mg->FnOk P w K mg base fk 7 fa fd ["_law_script"] (aE K qa):=by
 have e:=hfa.symm.trans (mg_of X G a32);cases e;have T:Tx K mg Z1 Z2 Z3 Z4 Z5:=⟨(all_cons ⟨⟨c0pg,c0hd,c0po,c0sa⟩,c0n0⟩ (all_cons ⟨⟨c1pg,c1hd,c1po,c1sa⟩,c1n0⟩ (all_cons ⟨⟨c2pg,c2hd,c2po,c2sa⟩,c2n0⟩ (all_cons ⟨⟨c3pg,c3hd,c3po,c3sa⟩,c3n0⟩ (all_cons ⟨⟨c4pg,c4hd,c4po,c4sa⟩,c4n0⟩ (fun _ h=>nomatch h)))))),(all_cons ⟨⟨c0pg,c0hd,c0po,c0sa⟩,c0n1⟩ (all_cons ⟨⟨c1pg,c1hd,c1po,c1sa⟩,c1n1⟩ (all_cons ⟨⟨c2pg,c2hd,c2po,c2sa⟩,c2n1⟩ (all_cons ⟨⟨c3pg,c3hd,c3po,c3sa⟩,c3n1⟩ (all_cons ⟨⟨c4pg,c4hd,c4po,c4sa⟩,c4n1⟩ (fun _ h=>nomatch h)))))),(all_cons ⟨⟨c0pg,c0hd,c0po,c0sa⟩,c0n2⟩ (all_cons ⟨⟨c1pg,c1hd,c1po,c1sa⟩,c1n2⟩ (all_cons ⟨⟨c2pg,c2hd,c2po,c2sa⟩,c2n2⟩ (all_cons ⟨⟨c3pg,c3hd,c3po,c3sa⟩,c3n2⟩ (all_cons ⟨⟨c4pg,c4hd,c4po,c4sa⟩,c4n2⟩ (fun _ h=>nomatch h)))))),(all_cons ⟨⟨c0pg,c0hd,c0po,c0sa⟩,c0n3⟩ (all_cons ⟨⟨c1pg,c1hd,c1po,c1sa⟩,c1n3⟩ (all_cons ⟨⟨c2pg,c2hd,c2po,c2sa⟩,c2n3⟩ (all_cons ⟨⟨c3pg,c3hd,c3po,c3sa⟩,c3n3⟩ (all_cons ⟨⟨c4pg,c4hd,c4po,c4sa⟩,c4n3⟩ (fun _ h=>nomatch h)))))),(all_cons ⟨⟨c0pg,c0hd,c0po,c0sa⟩,c0n4⟩ (all_cons ⟨⟨c1pg,c1hd,c1po,c1sa⟩,c1n4⟩ (all_cons ⟨⟨c2pg,c2hd,c2po,c2sa⟩,c2n4⟩ (all_cons ⟨⟨c3pg,c3hd,c3po,c3sa⟩,c3n4⟩ (all_cons ⟨⟨c4pg,c4hd,c4po,c4sa⟩,c4n4⟩ (fun _ h=>nomatch h)))))),(all_cons ⟨⟨c0pg,c0hd,c0po,c0sa⟩,c0n5⟩ (all_cons ⟨⟨c1pg,c1hd,c1po,c1sa⟩,c1n5⟩ (all_cons ⟨⟨c2pg,c2hd,c2po,c2sa⟩,c2n5⟩ (all_cons ⟨⟨c3pg,c3hd,c3po,c3sa⟩,c3n5⟩ (all_cons ⟨⟨c4pg,c4hd,c4po,c4sa⟩,c4n5⟩ (fun _ h=>nomatch h)))))),⟨c0pg,c0hd,c0po,c0sa⟩,⟨c1pg,c1hd,c1po,c1sa⟩,⟨c2pg,c2hd,c2po,c2sa⟩,⟨c3pg,c3hd,c3po,c3sa⟩,⟨c4pg,c4hd,c4po,c4sa⟩,mg_none_of X G b_all,mg_none_of X G b_dict,mg_none_of X G b_isinstance,mg_none_of X G b_len,mg_none_of X G b_list,mg_none_of X G b_range,mg_none_of X G b_sorted,mg_none_of X G b_tuple,mg_none_of X G b_zip,wL (vs:=[.str "",.int 0,.int 0]) (mg_of X G kn0) kl0 (by show 3<=sizeLine;decide) (.cons ⟨_,rfl⟩ (.cons ⟨_,rfl⟩ (.cons ⟨_,rfl⟩ .nil))) fun _=>(RDs.cons ji (RDs.cons dL (RDs.cons dL RDs.nil))),mg_of X G c3a,(all_cons ⟨⟨⟨c0pg,c0hd,c0po,c0sa⟩,ia_Stroke_ca,ia_gs,ia_tk,ia_Stroke_mo⟩,xk_Stroke_Dress⟩ (all_cons ⟨⟨⟨c1pg,c1hd,c1po,c1sa⟩,ia_Put_ca,ia_gs,ia_tk,ia_Put_mo⟩,xk_Put_Dress⟩ (all_cons ⟨⟨⟨c2pg,c2hd,c2po,c2sa⟩,ia_Strike_ca,ia_gs,ia_tk,ia_Strike_mo⟩,xk_Strike_Dress⟩ (all_cons ⟨⟨⟨c3pg,c3hd,c3po,c3sa⟩,ia_Dress_ca,ia_gs,ia_tk,ia_Dress_mo⟩,xk_Dress_Dress⟩ (all_cons ⟨⟨⟨c4pg,c4hd,c4po,c4sa⟩,ia_Move_ca,ia_gs,ia_tk,ia_Move_mo⟩,xk_Move_Dress⟩ (fun _ h=>nomatch h)))))),mg_of X G c4a,(all_cons ⟨⟨⟨c0pg,c0hd,c0po,c0sa⟩,ia_Stroke_ca,ia_gs,ia_tk,ia_Stroke_mo⟩,xk_Stroke_Move⟩ (all_cons ⟨⟨⟨c1pg,c1hd,c1po,c1sa⟩,ia_Put_ca,ia_gs,ia_tk,ia_Put_mo⟩,xk_Put_Move⟩ (all_cons ⟨⟨⟨c2pg,c2hd,c2po,c2sa⟩,ia_Strike_ca,ia_gs,ia_tk,ia_Strike_mo⟩,xk_Strike_Move⟩ (all_cons ⟨⟨⟨c3pg,c3hd,c3po,c3sa⟩,ia_Dress_ca,ia_gs,ia_tk,ia_Dress_mo⟩,xk_Dress_Move⟩ (all_cons ⟨⟨⟨c4pg,c4hd,c4po,c4sa⟩,ia_Move_ca,ia_gs,ia_tk,ia_Move_mo⟩,xk_Move_Move⟩ (fun _ h=>nomatch h)))))),mg_of X G c1a,(all_cons ⟨⟨⟨c0pg,c0hd,c0po,c0sa⟩,ia_Stroke_ca,ia_gs,ia_tk,ia_Stroke_mo⟩,xk_Stroke_Put⟩ (all_cons ⟨⟨⟨c1pg,c1hd,c1po,c1sa⟩,ia_Put_ca,ia_gs,ia_tk,ia_Put_mo⟩,xk_Put_Put⟩ (all_cons ⟨⟨⟨c2pg,c2hd,c2po,c2sa⟩,ia_Strike_ca,ia_gs,ia_tk,ia_Strike_mo⟩,xk_Strike_Put⟩ (all_cons ⟨⟨⟨c3pg,c3hd,c3po,c3sa⟩,ia_Dress_ca,ia_gs,ia_tk,ia_Dress_mo⟩,xk_Dress_Put⟩ (all_cons ⟨⟨⟨c4pg,c4hd,c4po,c4sa⟩,ia_Move_ca,ia_gs,ia_tk,ia_Move_mo⟩,xk_Move_Put⟩ (fun _ h=>nomatch h)))))),mg_of X G c2a,(all_cons ⟨⟨⟨c0pg,c0hd,c0po,c0sa⟩,ia_Stroke_ca,ia_gs,ia_tk,ia_Stroke_mo⟩,xk_Stroke_Strike⟩ (all_cons ⟨⟨⟨c1pg,c1hd,c1po,c1sa⟩,ia_Put_ca,ia_gs,ia_tk,ia_Put_mo⟩,xk_Put_Strike⟩ (all_cons ⟨⟨⟨c2pg,c2hd,c2po,c2sa⟩,ia_Strike_ca,ia_gs,ia_tk,ia_Strike_mo⟩,xk_Strike_Strike⟩ (all_cons ⟨⟨⟨c3pg,c3hd,c3po,c3sa⟩,ia_Dress_ca,ia_gs,ia_tk,ia_Dress_mo⟩,xk_Dress_Strike⟩ (all_cons ⟨⟨⟨c4pg,c4hd,c4po,c4sa⟩,ia_Move_ca,ia_gs,ia_tk,ia_Move_mo⟩,xk_Move_Strike⟩ (fun _ h=>nomatch h))))))⟩
 have F0:=aR (st:=cK) l0 c0';have F1:=aR (st:=db) l1 c1';have F2:=aR (st:=cJ) l2 c2';have F3:=aR (st:=cv) l3 c3';have F4:=aR (st:=dD) l4 c4';have F5:=aR (st:=dC) l5 c5';have F6:=aR (st:=d9) l6 c6';have F7:=aR (st:=b7) l7 c7';have F8:=aR (st:=ff) l8 c8';have F9:=aR (st:=bT) l9 c9';have F10:=aR (st:=cM) l10 c10';have F11:=aR (st:=bU) l11 c11';have F12:=aR (st:=b9) l12 c12';have F13:=aR (st:=cw) l13 c13';have F14:=aR (st:=d8) l14 c14';have F15:=aR (st:=fX) l15 c15';have F16:=aR (st:=cL) l16 c16';have F17:=aR (st:=eh) l17 c17';have F18:=aR (st:=dE) l18 c18';have F19:=aR (st:=fe) l19 c19';have F20:=aR (st:=gP) l20 c20';have F21:=aR (st:=d_) l21 c21';have F22:=aR (st:=ee) l22 c22';have F23:=aR (st:=cu) l23 c23';have F24:=aR (st:=b8) l24 c24';have F25:=aR (st:=cI) l25 c25';have F26:=aR (st:=da) l26 c26';have F27:=aR (st:=dB) l27 c27';have F28:=aR (st:=gO) l28 c28';have F29:=aR (st:=eg) l29 c29';have F30:=aR (st:=ef) l30 c30';have F31:=aR (st:=fg) l31 c31';have F32:=aR (st:=jF) l32 c32';refine⟨fnOf "law" "law" (aL jF) (aH jF) (aj jF) .none kV32 dc32 pm32 an32 cd32 ct32,fun s v=>.of_eq rfl,fun base _ _=>?_⟩;have O0:=lS (P:=P) (w:=w) (base:=base) F0 T  (kg _ _ _ _ _ _) kF;have F__law_cell_at:=cf O0 (mg_of X G a0) k0 (.all fun us hl=>by obtain⟨_,_,rfl⟩:=r8 (us:=us) hl;rfl)
 have O1:=mR (P:=P) (w:=w) (base:=base) F1 T  (lP _ _ _ _ _ _) l_;have F__law_stream:=cf O1 (mg_of X G a1) k1 (.all fun us hl=>by obtain⟨_,_,rfl⟩:=r8 (us:=us) hl;rfl)
 have O2:=lR (P:=P) (w:=w) (base:=base) F2 T F__law_stream (ke _ _ _ _ _ _) kE;have F__law_strokes:=cf O2 (mg_of X G a2) k2 (.all fun us hl=>by obtain⟨_,_,_,rfl⟩:=t3 (us:=us) hl;rfl)
 have O3:=kz (P:=P) (w:=w) (base:=base) F3 T F__law_stream (jH _ _ _ _ _ _) jY;have F__law_standing:=cf O3 (mg_of X G a3) k3 (.all fun us hl=>by obtain⟨_,_,rfl⟩:=r8 (us:=us) hl;rfl)
 have O4:=oj (P:=P) (w:=w) (base:=base) F4 T  (mJ _ _ _ _ _ _) m8;have F_lay_behind:=cf O4 (mg_of X G a4) k4 (.all fun us hl=>by obtain⟨_,_,_,rfl⟩:=t3 (us:=us) hl;rfl)
 have O5:=oh (P:=P) (w:=w) (base:=base) F5 T  (mI _ _ _ _ _ _) m7;have F_slots_made:=cf O5 (mg_of X G a5) k5 (.all fun us hl=>by obtain⟨_,_,rfl⟩:=r8 (us:=us) hl;rfl)
 have O6:=qC (P:=P) (w:=w) (base:=base) F6 T F_slots_made (nY _ _ _ _ _ _) ow;have F_old_slots:=cf O6 (mg_of X G a6) k6 (.all fun us hl=>by obtain⟨_,rfl⟩:=gK (us:=us) hl;rfl)
 have O7:=jN (P:=P) (w:=w) (base:=base) F7 T  (jf _ _ _ _ _ _) jp;have F_place_in_order:=cf O7 (mg_of X G a7) k7 (.all fun us hl=>by obtain⟨_,rfl⟩:=gK (us:=us) hl;rfl)
 have O8:=sK (P:=P) (w:=w) (base:=base) F8 T F_place_in_order (qi _ _ _ _ _ _) qP;have F_in_order:=cf O8 (mg_of X G a8) k8 (.all fun us hl=>by obtain⟨_,rfl⟩:=gK (us:=us) hl;rfl)
 have O9:=jm (P:=P) (w:=w) (base:=base) F9 T  (iU _ _ _ _ _ _) iW;have Cf_Stroke___init__:Cf3 P w K mg base 1 "Stroke" "__init__" [] (av Z1 Z2 Z3 Z4 Z5 (ah P w)):=⟨Z1,_,_,_,[],[],O9,mg_of X G c0a,cg_Stroke___init__,cr_Stroke___init__,cf_Stroke___init__,k9,(.all fun us hl=>by obtain⟨_,_,_,rfl⟩:=t3 (us:=us) hl;rfl),.nil,fun _=>RDs.nil⟩
 have M_Stroke:Mk3 P w K mg base 1 "Stroke" Z1 [] (av Z1 Z2 Z3 Z4 Z5 (ah P w)):=⟨_,_,_,[],[],⟨c0mk,a9,i9,c0kc⟩,mg_of X G c0a,O9,(.all fun us hl=>by obtain⟨_,_,_,rfl⟩:=t3 (us:=us) hl;rfl),.nil,fun _=>RDs.nil⟩
 have O10:=lU (P:=P) (w:=w) (base:=base) F10 T Cf_Stroke___init__ (kj _ _ _ _ _ _) kI;have M_Put:Mk3 P w K mg base 2 "Put" Z2 [] (a_ Z1 Z2 Z3 Z4 Z5 (ah P w)):=⟨_,_,_,[],[],⟨c1mk,a10,i10,c1kc⟩,mg_of X G c1a,O10,(.all fun us hl=>by obtain⟨_,_,_,_,_,rfl⟩:=AY (us:=us) hl;rfl),.nil,fun _=>RDs.nil⟩
 have O11:=jn (P:=P) (w:=w) (base:=base) F11 T Cf_Stroke___init__ (iV _ _ _ _ _ _) iX;have M_Strike:Mk3 P w K mg base 2 "Strike" Z3 [] (aM Z1 Z2 Z3 Z4 Z5 (ah P w)):=⟨_,_,_,[],[],⟨c2mk,a11,i11,c2kc⟩,mg_of X G c2a,O11,(.all fun us hl=>by obtain⟨_,_,_,_,rfl⟩:=DY (us:=us) hl;rfl),.nil,fun _=>RDs.nil⟩
 have O12:=jP (P:=P) (w:=w) (base:=base) F12 T Cf_Stroke___init__ (jh _ _ _ _ _ _) jr;have M_Dress:Mk3 P w K mg base 2 "Dress" Z4 [] (aP Z1 Z2 Z3 Z4 Z5 (ah P w)):=⟨_,_,_,[],[],⟨c3mk,a12,i12,c3kc⟩,mg_of X G c3a,O12,(.all fun us hl=>by obtain⟨_,_,_,_,_,rfl⟩:=AY (us:=us) hl;rfl),.nil,fun _=>RDs.nil⟩
 have O13:=kA (P:=P) (w:=w) (base:=base) F13 T Cf_Stroke___init__ (jI _ _ _ _ _ _) jZ;have M_Move:Mk3 P w K mg base 2 "Move" Z5 [] (aU Z1 Z2 Z3 Z4 Z5 (ah P w)):=⟨_,_,_,[],[],⟨c4mk,a13,i13,c4kc⟩,mg_of X G c4a,O13,(.all fun us hl=>by obtain⟨_,_,_,_,_,rfl⟩:=AY (us:=us) hl;rfl),.nil,fun _=>RDs.nil⟩
 have O14:=qB (P:=P) (w:=w) (base:=base) F14 T M_Dress M_Move M_Put M_Strike (nX _ _ _ _ _ _) ou;have F_stroke_of:=cf O14 (mg_of X G a14) k14 (.all fun us hl=>by obtain⟨_,rfl⟩:=gK (us:=us) hl;rfl)
 have O15:=uD (P:=P) (w:=w) (base:=base) F15 T  (sv _ _ _ _ _ _) sY;have F_chained:=cf O15 (mg_of X G a15) k15 (.all fun us hl=>by obtain⟨_,rfl⟩:=gK (us:=us) hl;rfl)
 have O16:=lT (P:=P) (w:=w) (base:=base) F16 T  (kh _ _ _ _ _ _) kH;have Mt_Dress_slots:=gH T.cl_Dress O16 ⟨am_Dress_slots,i16,k16⟩ (.all fun us hl=>by obtain⟨_,rfl⟩:=gK (us:=us) hl;rfl)
 have Mt_Strike_slots:=gH T.cl_Strike O16 ⟨am_Strike_slots,i16,k16⟩ (.all fun us hl=>by obtain⟨_,rfl⟩:=gK (us:=us) hl;rfl)
 have Mt_Stroke_slots:=gH T.cl_Stroke O16 ⟨a16,i16,k16⟩ (.all fun us hl=>by obtain⟨_,rfl⟩:=gK (us:=us) hl;rfl)
 have O17:=qH (P:=P) (w:=w) (base:=base) F17 T F_slots_made (oa _ _ _ _ _ _) oE;have Mt_Put_slots:=gH T.cl_Put O17 ⟨a17,i17,k17⟩ (.all fun us hl=>by obtain⟨_,rfl⟩:=gK (us:=us) hl;rfl)
 have O18:=om (P:=P) (w:=w) (base:=base) F18 T F_slots_made (mK _ _ _ _ _ _) m9;have Mt_Move_slots:=gH T.cl_Move O18 ⟨a18,i18,k18⟩ (.all fun us hl=>by obtain⟨_,rfl⟩:=gK (us:=us) hl;rfl)
 have O19:=sJ (P:=P) (w:=w) (base:=base) F19 T F_chained F_in_order F_lay_behind F_old_slots F_stroke_of Mt_Stroke_slots Mt_Put_slots Mt_Strike_slots Mt_Dress_slots Mt_Move_slots (qh _ _ _ _ _ _) qO;have F_slots_of:=cf O19 (mg_of X G a19) k19 (.all fun us hl=>by obtain⟨_,_,rfl⟩:=r8 (us:=us) hl;rfl)
 have O20:=we (P:=P) (w:=w) (base:=base) F20 T  (uj _ _ _ _ _ _) uM;have F_marked:=cf O20 (mg_of X G a20) k20 (.all fun us hl=>by obtain⟨_,rfl⟩:=gK (us:=us) hl;rfl)
 have O21:=qD (P:=P) (w:=w) (base:=base) F21 T Mt_Stroke_slots Mt_Put_slots Mt_Strike_slots Mt_Dress_slots Mt_Move_slots (nZ _ _ _ _ _ _) oz;have F_is_placed:=cf O21 (mg_of X G a21) k21 (.all fun us hl=>by obtain⟨_,_,rfl⟩:=r8 (us:=us) hl;rfl)
 have O22:=qE (P:=P) (w:=w) (base:=base) F22 T F_in_order F_is_placed F_marked F_stroke_of (n6 _ _ _ _ _ _) oA;have F_effective:=cf O22 (mg_of X G a22) k22 (.all fun us hl=>by obtain⟨_,_,_,rfl⟩:=t3 (us:=us) hl;rfl)
 have O23:=kq (P:=P) (w:=w) (base:=base) F23 T F_old_slots Mt_Stroke_slots Mt_Put_slots Mt_Strike_slots Mt_Dress_slots Mt_Move_slots (jG _ _ _ _ _ _) jX;have F_signs_brought:=cf O23 (mg_of X G a23) k23 (.all fun us hl=>by obtain⟨_,_,rfl⟩:=r8 (us:=us) hl;rfl)
 have O24:=jO (P:=P) (w:=w) (base:=base) F24 T  (jg _ _ _ _ _ _) jq;have Mt_Dress_touched:=gH T.cl_Dress O24 ⟨am_Dress_touched,i24,k24⟩ (.all fun us hl=>by obtain⟨_,rfl⟩:=gK (us:=us) hl;rfl)
 have Mt_Move_touched:=gH T.cl_Move O24 ⟨am_Move_touched,i24,k24⟩ (.all fun us hl=>by obtain⟨_,rfl⟩:=gK (us:=us) hl;rfl)
 have Mt_Put_touched:=gH T.cl_Put O24 ⟨am_Put_touched,i24,k24⟩ (.all fun us hl=>by obtain⟨_,rfl⟩:=gK (us:=us) hl;rfl)
 have Mt_Strike_touched:=gH T.cl_Strike O24 ⟨am_Strike_touched,i24,k24⟩ (.all fun us hl=>by obtain⟨_,rfl⟩:=gK (us:=us) hl;rfl)
 have Mt_Stroke_touched:=gH T.cl_Stroke O24 ⟨a24,i24,k24⟩ (.all fun us hl=>by obtain⟨_,rfl⟩:=gK (us:=us) hl;rfl)
 have O25:=lQ (P:=P) (w:=w) (base:=base) F25 T Mt_Stroke_touched Mt_Put_touched Mt_Strike_touched Mt_Dress_touched Mt_Move_touched (kc _ _ _ _ _ _) kC;have F_signs_struck:=cf O25 (mg_of X G a25) k25 (.all fun us hl=>by obtain⟨_,rfl⟩:=gK (us:=us) hl;rfl)
 have O26:=mQ (P:=P) (w:=w) (base:=base) F26 T Mt_Stroke_slots Mt_Put_slots Mt_Strike_slots Mt_Dress_slots Mt_Move_slots Mt_Stroke_touched Mt_Put_touched Mt_Strike_touched Mt_Dress_touched Mt_Move_touched (lO _ _ _ _ _ _) lZ;have F_slots_taken:=cf O26 (mg_of X G a26) k26 (.all fun us hl=>by obtain⟨_,rfl⟩:=gK (us:=us) hl;rfl)
 have O27:=og (P:=P) (w:=w) (base:=base) F27 T Mt_Stroke_touched Mt_Put_touched Mt_Strike_touched Mt_Dress_touched Mt_Move_touched (mH _ _ _ _ _ _) m6;have F_words_worn:=cf O27 (mg_of X G a27) k27 (.all fun us hl=>by obtain⟨_,rfl⟩:=gK (us:=us) hl;rfl)
 have O28:=wb (P:=P) (w:=w) (base:=base) F28 T F_effective F_marked F_signs_brought F_signs_struck F_slots_of F_slots_taken F_words_worn (ui _ _ _ _ _ _) uL;have F_seated:=cf O28 (mg_of X G a28) k28 (.all fun us hl=>by obtain⟨_,_,_,rfl⟩:=t3 (us:=us) hl;rfl)
 have O29:=qG (P:=P) (w:=w) (base:=base) F29 T  (n_ _ _ _ _ _ _) oC;have F__law_seat:=cf O29 (mg_of X G a29) k29 (.all fun us hl=>by obtain⟨_,_,_,rfl⟩:=t3 (us:=us) hl;rfl)
 have O30:=qF (P:=P) (w:=w) (base:=base) F30 T  (n8 _ _ _ _ _ _) oB;have F__law_word:=cf O30 (mg_of X G a30) k30 (.all fun us hl=>by obtain⟨_,_,rfl⟩:=r8 (us:=us) hl;rfl)
 have O31:=sL (P:=P) (w:=w) (base:=base) F31 T  (qj _ _ _ _ _ _) qQ;have F__law_key:=cf O31 (mg_of X G a31) k31 (.all fun us hl=>by obtain⟨_,rfl⟩:=gK (us:=us) hl;rfl)
 exact BE F32 T F__law_cell_at F__law_key F__law_seat F__law_standing F__law_strokes F__law_word F_seated F_slots_of (zb _ _ _ _ _ _) zQ
end RQ
def PySem.W.Fast.tw8908737025466146955 : Nat := 0
def PySem.W.Fast.tw7787003518083810437 : Nat := 0
def PySem.W.Fast.tw4014484864285915698 : Nat := 0
def PySem.W.Fast.tw14147729996732187648 : Nat := 0
def PySem.W.Fast.tw15176242281243788873 : Nat := 0
def PySem.W.Fast.tw14472975691873938160 : Nat := 0
def PySem.W.Fast.tw7627215892848192294 : Nat := 0
def PySem.W.Fast.tw3344107816181469419 : Nat := 0
def PySem.W.Fast.tw3891165853265568927 : Nat := 0
def PySem.W.Fast.tw9590705729985768210 : Nat := 0
def PySem.W.Fast.tw4149361004797740836 : Nat := 0
def PySem.W.Fast.tw4447864191258403595 : Nat := 0
def PySem.W.Fast.tw11255363202019031144 : Nat := 0
def PySem.W.Fast.tw4838649413616105312 : Nat := 0
def PySem.W.Fast.tw7756903979922388535 : Nat := 0
def PySem.W.Fast.tw13017578620384882629 : Nat := 0
def PySem.W.Fast.tw6212431886557056542 : Nat := 0
def PySem.W.Fast.tw13510045020633208329 : Nat := 0
def PySem.W.Fast.tw1086213351843407026 : Nat := 0
def PySem.W.Fast.tw6763920277829372676 : Nat := 0
def PySem.W.Fast.tw6117021545117609121 : Nat := 0
open PySem PySem.W PyProof.Rows
set_option maxRecDepth 100000 in
set_option maxHeartbeats 0 in
theorem PySem.Challenge.cw_redquill_k32_where_and_what_it_wears_holds : PySem.Challenge.rw_redquill_k32_where_and_what_it_wears.Holds := by
 w_on;o_law;k_head;(case hw=>w_witness2)
 k_fill
 refine L3.walk3 (l:=PySem.Challenge.rw_redquill_k32_where_and_what_it_wears) (k:=7) (x:="_law_script") rfl rfl ⟨rfl,by decide,by decide⟩ (fun w h Y=>PySem.W.kIn_of Y) ?F
 case F=>
  intro w mg fa h KX G hmg;refine' RQ.all_mk KX G hmg ?c0a ?c1a ?c2a ?c3a ?c4a ?ia_gs ?ia_tk ?ia_Stroke_ca ?ia_Stroke_mo ?xk_Stroke_Dress ?xk_Stroke_Move ?xk_Stroke_Put ?xk_Stroke_Strike ?ia_Put_ca ?ia_Put_mo ?xk_Put_Dress ?xk_Put_Move ?xk_Put_Put ?xk_Put_Strike ?ia_Strike_ca ?ia_Strike_mo ?xk_Strike_Dress ?xk_Strike_Move ?xk_Strike_Put ?xk_Strike_Strike ?ia_Dress_ca ?ia_Dress_mo ?xk_Dress_Dress ?xk_Dress_Move ?xk_Dress_Put ?xk_Dress_Strike ?ia_Move_ca ?ia_Move_mo ?xk_Move_Dress ?xk_Move_Move ?xk_Move_Put ?xk_Move_Strike ?a0 ?l0 ?c0' ?k0 ?a1 ?l1 ?c1' ?k1 ?a2 ?l2 ?c2' ?k2 ?a3 ?l3 ?c3' ?k3 ?a4 ?l4 ?c4' ?k4 ?a5 ?l5 ?c5' ?k5 ?a6 ?l6 ?c6' ?k6 ?a7 ?l7 ?c7' ?k7 ?a8 ?l8 ?c8' ?k8 ?a9 ?i9 ?l9 ?c9' ?k9 ?a10 ?i10 ?l10 ?c10' ?k10 ?a11 ?i11 ?l11 ?c11' ?k11 ?a12 ?i12 ?l12 ?c12' ?k12 ?a13 ?i13 ?l13 ?c13' ?k13 ?a14 ?l14 ?c14' ?k14 ?a15 ?l15 ?c15' ?k15 ?a16 ?i16 ?l16 ?c16' ?k16 ?a17 ?i17 ?l17 ?c17' ?k17 ?a18 ?i18 ?l18 ?c18' ?k18 ?a19 ?l19 ?c19' ?k19 ?a20 ?l20 ?c20' ?k20 ?a21 ?l21 ?c21' ?k21 ?a22 ?l22 ?c22' ?k22 ?a23 ?l23 ?c23' ?k23 ?a24 ?i24 ?l24 ?c24' ?k24 ?a25 ?l25 ?c25' ?k25 ?a26 ?l26 ?c26' ?k26 ?a27 ?l27 ?c27' ?k27 ?a28 ?l28 ?c28' ?k28 ?a29 ?l29 ?c29' ?k29 ?a30 ?l30 ?c30' ?k30 ?a31 ?l31 ?c31' ?k31 ?a32 ?l32 ?c32' ?k32 ?c0pg ?c0hd ?c0po ?c0sa ?c0mk ?c0kc ?c0n0 ?c0n1 ?c0n2 ?c0n3 ?c0n4 ?c0n5 ?c1pg ?c1hd ?c1po ?c1sa ?c1mk ?c1kc ?c1n0 ?c1n1 ?c1n2 ?c1n3 ?c1n4 ?c1n5 ?c2pg ?c2hd ?c2po ?c2sa ?c2mk ?c2kc ?c2n0 ?c2n1 ?c2n2 ?c2n3 ?c2n4 ?c2n5 ?c3pg ?c3hd ?c3po ?c3sa ?c3mk ?c3kc ?c3n0 ?c3n1 ?c3n2 ?c3n3 ?c3n4 ?c3n5 ?c4pg ?c4hd ?c4po ?c4sa ?c4mk ?c4kc ?c4n0 ?c4n1 ?c4n2 ?c4n3 ?c4n4 ?c4n5 ?b_all ?b_dict ?b_isinstance ?b_len ?b_list ?b_range ?b_sorted ?b_tuple ?b_zip ?kn0 ?kl0 ?am_Dress_slots ?am_Dress_touched ?am_Move_touched ?am_Put_touched ?am_Strike_slots ?am_Strike_touched ?cg_Stroke___init__ ?cr_Stroke___init__ ?cf_Stroke___init__
  (case c0a=>k_is)
  (case c1a=>k_is)
  (case c2a=>k_is)
  (case c3a=>k_is)
  (case c4a=>k_is)
  (case ia_gs=>k_is)
  (case ia_tk=>k_is)
  (case ia_Stroke_ca=>k_is)
  (case ia_Stroke_mo=>k_is)
  (case xk_Stroke_Dress=>kernel_rfl)
  (case xk_Stroke_Move=>kernel_rfl)
  (case xk_Stroke_Put=>kernel_rfl)
  (case xk_Stroke_Strike=>kernel_rfl)
  (case ia_Put_ca=>k_is)
  (case ia_Put_mo=>k_is)
  (case xk_Put_Dress=>kernel_rfl)
  (case xk_Put_Move=>kernel_rfl)
  (case xk_Put_Put=>kernel_rfl)
  (case xk_Put_Strike=>kernel_rfl)
  (case ia_Strike_ca=>k_is)
  (case ia_Strike_mo=>k_is)
  (case xk_Strike_Dress=>kernel_rfl)
  (case xk_Strike_Move=>kernel_rfl)
  (case xk_Strike_Put=>kernel_rfl)
  (case xk_Strike_Strike=>kernel_rfl)
  (case ia_Dress_ca=>k_is)
  (case ia_Dress_mo=>k_is)
  (case xk_Dress_Dress=>kernel_rfl)
  (case xk_Dress_Move=>kernel_rfl)
  (case xk_Dress_Put=>kernel_rfl)
  (case xk_Dress_Strike=>kernel_rfl)
  (case ia_Move_ca=>k_is)
  (case ia_Move_mo=>k_is)
  (case xk_Move_Dress=>kernel_rfl)
  (case xk_Move_Move=>kernel_rfl)
  (case xk_Move_Put=>kernel_rfl)
  (case xk_Move_Strike=>kernel_rfl)
  (case a0=>k_is)
  (case l0=>k_is)
  (case c0'=>k_is)
  (case k0=>k_is)
  (case a1=>k_is)
  (case l1=>k_is)
  (case c1'=>k_is)
  (case k1=>k_is)
  (case a2=>k_is)
  (case l2=>k_is)
  (case c2'=>k_is)
  (case k2=>k_is)
  (case a3=>k_is)
  (case l3=>k_is)
  (case c3'=>k_is)
  (case k3=>k_is)
  (case a4=>k_is)
  (case l4=>k_is)
  (case c4'=>k_is)
  (case k4=>k_is)
  (case a5=>k_is)
  (case l5=>k_is)
  (case c5'=>k_is)
  (case k5=>k_is)
  (case a6=>k_is)
  (case l6=>k_is)
  (case c6'=>k_is)
  (case k6=>k_is)
  (case a7=>k_is)
  (case l7=>k_is)
  (case c7'=>k_is)
  (case k7=>k_is)
  (case a8=>k_is)
  (case l8=>k_is)
  (case c8'=>k_is)
  (case k8=>k_is)
  (case a9=>k_is)
  (case i9=>k_is)
  (case l9=>k_is)
  (case c9'=>k_is)
  (case k9=>k_is)
  (case a10=>k_is)
  (case i10=>k_is)
  (case l10=>k_is)
  (case c10'=>k_is)
  (case k10=>k_is)
  (case a11=>k_is)
  (case i11=>k_is)
  (case l11=>k_is)
  (case c11'=>k_is)
  (case k11=>k_is)
  (case a12=>k_is)
  (case i12=>k_is)
  (case l12=>k_is)
  (case c12'=>k_is)
  (case k12=>k_is)
  (case a13=>k_is)
  (case i13=>k_is)
  (case l13=>k_is)
  (case c13'=>k_is)
  (case k13=>k_is)
  (case a14=>k_is)
  (case l14=>k_is)
  (case c14'=>k_is)
  (case k14=>k_is)
  (case a15=>k_is)
  (case l15=>k_is)
  (case c15'=>k_is)
  (case k15=>k_is)
  (case a16=>k_is)
  (case i16=>k_is)
  (case l16=>k_is)
  (case c16'=>k_is)
  (case k16=>k_is)
  (case a17=>k_is)
  (case i17=>k_is)
  (case l17=>k_is)
  (case c17'=>k_is)
  (case k17=>k_is)
  (case a18=>k_is)
  (case i18=>k_is)
  (case l18=>k_is)
  (case c18'=>k_is)
  (case k18=>k_is)
  (case a19=>k_is)
  (case l19=>k_is)
  (case c19'=>k_is)
  (case k19=>k_is)
  (case a20=>k_is)
  (case l20=>k_is)
  (case c20'=>k_is)
  (case k20=>k_is)
  (case a21=>k_is)
  (case l21=>k_is)
  (case c21'=>k_is)
  (case k21=>k_is)
  (case a22=>k_is)
  (case l22=>k_is)
  (case c22'=>k_is)
  (case k22=>k_is)
  (case a23=>k_is)
  (case l23=>k_is)
  (case c23'=>k_is)
  (case k23=>k_is)
  (case a24=>k_is)
  (case i24=>k_is)
  (case l24=>k_is)
  (case c24'=>k_is)
  (case k24=>k_is)
  (case a25=>k_is)
  (case l25=>k_is)
  (case c25'=>k_is)
  (case k25=>k_is)
  (case a26=>k_is)
  (case l26=>k_is)
  (case c26'=>k_is)
  (case k26=>k_is)
  (case a27=>k_is)
  (case l27=>k_is)
  (case c27'=>k_is)
  (case k27=>k_is)
  (case a28=>k_is)
  (case l28=>k_is)
  (case c28'=>k_is)
  (case k28=>k_is)
  (case a29=>k_is)
  (case l29=>k_is)
  (case c29'=>k_is)
  (case k29=>k_is)
  (case a30=>k_is)
  (case l30=>k_is)
  (case c30'=>k_is)
  (case k30=>k_is)
  (case a31=>k_is)
  (case l31=>k_is)
  (case c31'=>k_is)
  (case k31=>k_is)
  (case a32=>k_is)
  (case l32=>k_is)
  (case c32'=>k_is)
  (case k32=>k_is)
  (case c0pg=>k_is)
  (case c0hd=>k_is)
  (case c0po=>k_is)
  (case c0sa=>k_is)
  (case c0mk=>k_is)
  (case c0kc=>k_is)
  (case c0n0=>k_is)
  (case c0n1=>k_is)
  (case c0n2=>k_is)
  (case c0n3=>k_is)
  (case c0n4=>k_is)
  (case c0n5=>k_is)
  (case c1pg=>k_is)
  (case c1hd=>k_is)
  (case c1po=>k_is)
  (case c1sa=>k_is)
  (case c1mk=>k_is)
  (case c1kc=>k_is)
  (case c1n0=>k_is)
  (case c1n1=>k_is)
  (case c1n2=>k_is)
  (case c1n3=>k_is)
  (case c1n4=>k_is)
  (case c1n5=>k_is)
  (case c2pg=>k_is)
  (case c2hd=>k_is)
  (case c2po=>k_is)
  (case c2sa=>k_is)
  (case c2mk=>k_is)
  (case c2kc=>k_is)
  (case c2n0=>k_is)
  (case c2n1=>k_is)
  (case c2n2=>k_is)
  (case c2n3=>k_is)
  (case c2n4=>k_is)
  (case c2n5=>k_is)
  (case c3pg=>k_is)
  (case c3hd=>k_is)
  (case c3po=>k_is)
  (case c3sa=>k_is)
  (case c3mk=>k_is)
  (case c3kc=>k_is)
  (case c3n0=>k_is)
  (case c3n1=>k_is)
  (case c3n2=>k_is)
  (case c3n3=>k_is)
  (case c3n4=>k_is)
  (case c3n5=>k_is)
  (case c4pg=>k_is)
  (case c4hd=>k_is)
  (case c4po=>k_is)
  (case c4sa=>k_is)
  (case c4mk=>k_is)
  (case c4kc=>k_is)
  (case c4n0=>k_is)
  (case c4n1=>k_is)
  (case c4n2=>k_is)
  (case c4n3=>k_is)
  (case c4n4=>k_is)
  (case c4n5=>k_is)
  (case b_all=>k_is)
  (case b_dict=>k_is)
  (case b_isinstance=>k_is)
  (case b_len=>k_is)
  (case b_list=>k_is)
  (case b_range=>k_is)
  (case b_sorted=>k_is)
  (case b_tuple=>k_is)
  (case b_zip=>k_is)
  (case kn0=>k_is)
  (case kl0=>k_is)
  (case am_Dress_slots=>k_is)
  (case am_Dress_touched=>k_is)
  (case am_Move_touched=>k_is)
  (case am_Put_touched=>k_is)
  (case am_Strike_slots=>k_is)
  (case am_Strike_touched=>k_is)
  (case cg_Stroke___init__=>k_is)
  (case cr_Stroke___init__=>k_is)
  (case cf_Stroke___init__=>k_is)
