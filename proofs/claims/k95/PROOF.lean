import PyProof.Rows.All
import Wide.All
import OpenK.AllK
import Wide.FinOn
import Lean
import PyProof.EqAt
import PyProof.EqKinds
import PyProof.TupleCall
import PySem.Challenge.RW_ringheaps_k95_whole_one_outcome_by_all_w
set_option compiler.extract_closed false
set_option genSizeOf false
local macro_rules|`(tactic|omega)=>`(tactic|first|lia|omega +splitNatSub)
local macro_rules(kind:=«term{}»)|`({})=>`(by first|omega|rfl|decide|(simp;done)|fail)
open PySem renaming Addr→m9,Shared→n0,Value→n9,Stmt→o0,Heap→o1,Around→o2,Program→o3,World→o4
local macro_rules|`(tactic|let $c:letConfig $d:letDecl)=>do
 let q:=d.raw[0]
 let some p:=(q[0].getArgs.push q[0]).find? (·.isOfKind `«term{_}»)|`(tactic|have $c:letConfig $d:letDecl)
 let a<-p[1].getSepArgs.mapM fun x=>if x.isIdent then `(Lean.Parser.Tactic.rcasesPatLo|$(⟨x⟩):ident) else `(Lean.Parser.Tactic.rcasesPatLo|_)
 if q[2].getNumArgs=0 then `(tactic|obtain⟨$a,*⟩:=$(⟨q[4]⟩)) else `(tactic|obtain⟨$a,*⟩:=show $(⟨q[2][0][1]⟩) from $(⟨q[4]⟩))
local macro_rules(kind:=«term{_}»)|`({$a,*})=>`(⟨$a,*⟩)
local macro_rules|`(tactic|calc $a:calcSteps)=>`(tactic|refine $(⟨a.raw[0][0]⟩))
local macro_rules|`(tactic|exists $a,*)=>`(tactic|calc{$a,*, ?_})
open Option renaming none→r4
theorem s0{α:Sort u}{a:α}:a=a:=rfl
set_option Elab.async false
set_option linter.all false
set_option maxRecDepth 100000
open PySem renaming wpAny_bind → zep, wpAny_pure → zeq, FuncData → zer, sizeLine → zes
open PySem.Str renaming ofString → zeo
open PySem.W renaming Frag → zen
open Array renaming getElem?_eq_some_iff → zai, length_toList → zaG, getElem?_eq_getElem → zbc, getElem?_eq_none → zcw, toList_append → zdO
open Bool renaming false_ne_true → tN, and_eq_true → zaw, eq_iff_iff → zaB, false_eq_true → zaP, false_and → zcg, eq_false_iff → zdd, or_eq_true → zdA, and_false → zdF, or_false → zdR, true_and → zdU
open Int renaming toNat_natCast → zaE, emod_lt_of_pos → zbK, emod_nonneg → zbX, fdiv_eq_ediv_of_nonneg → zch, zero_add → zcy, natCast_nonneg → zcP
open List renaming length_map → ta, mem_map → tc, getElem?_eq_some_iff → tf, map_append → tj, take_of_length_le → tu, getElem?_eq_getElem → tv, length_append → tz, getElem?_map → tA, take_add_one → tE, length_take → tG, mem_cons_of_mem → tI, mem_cons_self → tK, mem_cons → tO, mem_singleton → tQ, map_cons → tR, mem_of_getElem? → tS, mem_append → tU, mem_filter → tV, getElem?_append_right → tY, getElem?_append_left → tZ, mem_append_right → t3, size_toArray → t4, length_cons → t7, filterMap_cons → t8, mem_append_left → zaa, map_map → zad, range → zae, mem_filterMap → zaf, nodup_cons → zaj, append_nil → zal, filter_sublist → zam, getElem?_of_mem → zan, length_filter_le → zao, length_range → zap, lookup_cons → zaq, length_singleton → zas, length → zat, sum_cons → zau, getD_eq_getElem?_getD → zav, filterMap_append → zaz, not_mem_nil → zaA, map_congr_left → zaC, mem_range → zaD, filter_append → zaF, length_filterMap_le → zaI, all_eq_true → zaK, nodup_append → zaL, eq_nil_of_length_eq_zero → zaN, pairwise_iff_getElem → zaO, nodup_nil → zaV, any_eq_true → zaW, pairwise_singleton → zaX, find?_cons → zaY, toArray → zba, length_pos_of_mem → zbb, pairwise_map → zbd, getElem?_take → zbh, lookup → zbi, filter_cons → zbn, getElem_mem → zbo, getElem?_take_of_lt → zbp, mem_erase_of_ne → zbv, idxOf_lt_length_of_mem → zbC, any_cons → zbF, nodup_range → zbH, foldl_append → zbM, mem_of_mem_take → zbN, length_erase_of_mem → zbO, getElem?_range → zbP, length_drop → zbQ, exists_mem_of_length_pos → zbS, sum_append → zbV, cons → zbY, getElem?_eq_none → zca, filter_congr → zce, append_assoc → zcf, map_nil → zci, all_map → zcj, mem_nil_iff → zck, length_reverse → zcm, append_of_mem → zcs, getElem?_drop → zct, getElem?_set_self → zcv, eq_nil_iff_forall_not_mem → zcC, all_cons → zcD, getElem?_set_ne → zcF, foldl_cons → zcI, range_succ → zcJ, map_eq_nil_iff → zcM, drop_zero → zcS, contains_cons → zcT, find?_eq_none → zcU, filterMap_nil → zcV, exists_cons_of_ne_nil → zcW, getElem?_eq_none_iff → zcX, getElem?_zip_eq_some → zcY, take_sublist → zda, reverse_cons → zdb, getElem?_inj → zde, cons_append → zdh, mem_reverse → zdn, mem_flatMap → zdo, lookup_eq_none_iff → zdq, range_succ_eq_map → zdt, filter_eq_nil_iff → zdv, filterMap_reverse → zdw, of_mem_zip → zdy, length_nil → zdz, all_append → zdC, length_replicate → zdD, pairwise_reverse → zdE, replicate → zdH, pairwise_append → zdJ, perm_cons_erase → zdK, findIdx_append → zdM, getElem_of_mem → zdN, length_pos_iff → zdP, flatMap_append → zdQ, Pairwise → zdS, map_take → zdT, pairwise_cons → zdZ, getElem_idxOf → zea, ext_getElem? → zeg, any_map → zeh, range' → zel, map → zem
open Nat renaming le_refl → ti, lt_of_lt_of_le → tJ, le_trans → tP, ne_of_lt → tX, le_of_lt → zab, zero_le → zax, lt_irrefl → zaH, xor_assoc → zaJ, lt_trichotomy → zaS, xor_self → zaT, lt_succ_self → zaZ, lt_of_le_of_lt → zbf, xor_zero → zbl, eq_of_testBit_eq → zbu, ne_of_gt → zbA, mul_le_mul → zbJ, testBit_succ → zbR, zero_xor → zbU, testBit_xor → zbW, lt_succ_of_lt → zcd, sub_self → zcl, strongRecOn → zcr, le_succ → zcu, xor_comm → zcx, min_eq_left → zcG, le_of_eq → zcN, lt_or_ge → zcO, min_le_right → zdk, testBit_zero → zdm, lt_of_not_le → zdp, testBit_lt_two_pow → zdu, not_lt_zero → zdB, pow_le_pow_right → zdI, add_le_add_left → zdL, xor_lt_two_pow → zdX, pos_of_ne_zero → zdY, lt_trans → zed, succ → zee, zero_add → zef, succ_mul → zei
open Option renaming some → tH, map_some → zbz, map_eq_some_iff → zbT, isSome_iff_exists → zco, isSome_map → zdc, isSome_some → zdV, isSome_none → zdW, getD_none → zek
open PySem.F renaming plainAttrs_list → zar, plainAttrs_str → zaU, called_set → zbg, slot_list_append → zbq, type_list_append → zbr, slot_list_extend → zbs, type_list_extend → zbt, plainAttrs_dict → zbx, slot_str_split → zbD, type_str_split → zbE, slot_dict_get → zcz, slot_str_join → zcA, type_str_join → zcB, slot_dict_setdefault → zcH, excBase_ValueError → zcR, slot_dict_update → zdf, slot_dict_values → zdg, args_dict_get_3 → zdi, slot_list_index → zdj, slot_dict_items → zdl, entry_dict_get → zds
open PySem.Heap renaming get?_push_of_some → tm, get?_push_size → tL, lt_size → tM, get?_update_other → zah, get?_update_self → zay, size_push → zbe, SameBut → zbL, get?_none_of_le → zcE
open PySem.W renaming findIn → t9, nsIn → zac, mg_none_of → zag, kitOne → zak, keepIn → zaM, mg_of → zaQ, kia_one → zaR, emptyDict → zbj, fnOf → zbk, callWith_K → zbm, hasDictIn → zbw, instObj → zby, isFn → zbB, plainGet → zbG, codeIn → zbI, methodCall_KW → zbZ, plainOver → zcb, specialIn → zcc, mroIn → zcn, makesIn → zcp, takesIn → zcq, plainGet_of → zcK, callWith_K0 → zcL, lookIn → zcQ, kitx_dict → zcZ, cellsFrom_some → zdr, takerIn → zdx, looks_findIn → zdG, methodObj → zeb, kitx_list → zec, handedIn → zej
namespace L2
open PySem PySem.Spec
open PyProof.Rows hiding K lo
abbrev qJ:=Sum Int Str
def WY:qJ->n9->Bool
 | .inl k,v=>Value.isInt k v
 | .inr x,v=>Value.isStrOf x v
def fq(w:o4):qJ->Int
 | .inl k=>hashInt k
 | .inr x=>hashStr w x
def jZ:∀{k:qJ} {v:n9},WY k v=true->(∃i t,k=Sum.inl i/\v=Value.int i t)\/(∃x t,k=Sum.inr x/\v=Value.str x t)
 | .inl i,v,h=>by
  let{t,e}:=Value.isInt_shape h;calc .inl ({i,t,s0,e})
 | .inr x,v,h=>by
  let{t,e}:=Value.isStrOf_shape h;calc .inr ({x,t,s0,e})
def Gn(i:Int)(t:Tok):WY (.inl i) (.int i t)=true:=by simp [WY,Value.isInt]
def Gm(x:Str)(t:Tok):WY (.inr x) (.str x t)=true:=by simp [WY,Value.isStrOf]
def Lg(a b:Int):decide ((Sum.inl a:qJ)=Sum.inl b)=(a==b):=by
 by_cases e:a=b
 ·subst e;simp
 ·let h:¬(Sum.inl a:qJ)=Sum.inl b:=λq=>e (Sum.inl.inj q);rw[decide_eq_false h];calc(beq_eq_false_iff_ne.mpr e).symm
def Ld(a b:Str):decide ((Sum.inr a:qJ)=Sum.inr b)=decide (a=b):=by
 by_cases e:a=b
 ·subst e;simp
 ·let h:¬(Sum.inr a:qJ)=Sum.inr b:=λq=>e (Sum.inr.inj q);rw[decide_eq_false h,decide_eq_false e]
def Lf(a:Int)(b:Str):decide ((Sum.inl a:qJ)=Sum.inr b)=false:=decide_eq_false (λq=>nomatch q)
def Le(a:Str)(b:Int):decide ((Sum.inr a:qJ)=Sum.inl b)=false:=decide_eq_false (λq=>nomatch q)
def jN(prog:o3)(w:o4):PySem.KeyKind prog w qJ where
 is:=WY
 hash:=fq w
 inj:=λv a b d l=>by
  rcases jZ d with ⟨i,t,rfl,rfl⟩ | ⟨x,t,rfl,rfl⟩
  ·rcases jZ l with ⟨j,u,rfl,e⟩ | ⟨y,u,rfl,e⟩
   ·injection e with d _;rw[d]
   ·exact nomatch e
  ·rcases jZ l with ⟨j,u,rfl,e⟩ | ⟨y,u,rfl,e⟩
   ·exact nomatch e
   ·injection e with d _;rw[d]
 byValue:=λk v h=>by
  rcases jZ h with ⟨i,t,rfl,rfl⟩ | ⟨x,t,rfl,rfl⟩<;>rfl
 pyHash:=λl h=>by
  rcases jZ l with ⟨i,t,rfl,rfl⟩ | ⟨x,t,rfl,rfl⟩
  ·exact wpAny_pyHash_int h
  ·exact wpAny_pyHash_str h
 eqBool:=λhu l h=>by
  rcases jZ hu with ⟨i,t,rfl,rfl⟩ | ⟨x,t,rfl,rfl⟩
  ·rcases jZ l with ⟨j,u,rfl,rfl⟩ | ⟨y,u,rfl,rfl⟩
   ·rw[Lg]at h;exact wpAny_eqBool_int h
   ·rw[Lf]at h;exact SeqAt.EqAt.int_str i t y u _ _ _ _ h
  ·rcases jZ l with ⟨j,u,rfl,rfl⟩ | ⟨y,u,rfl,rfl⟩
   ·rw[Le]at h;exact SeqAt.EqAt.str_int x t j u _ _ _ _ h
   ·rw[Ld]at h;exact wpAny_eqBool_str h
 «strs»:=λk x t v h=>by
  rcases jZ h with ⟨i,u,rfl,e⟩ | ⟨y,u,rfl,e⟩
  ·exact nomatch e
  ·injection e with d _;subst d;cases v<;>rfl
def yg(prog:o3)(w:o4)(i:Int)(t:Tok):(jN prog w).is (.inl i) (.int i t)=true:=Gn i t
def yf(prog:o3)(w:o4)(x:Str)(t:Tok):(jN prog w).is (.inr x) (.str x t)=true:=Gm x t
inductive V where
 | non | bl (b:Bool) | int (i:Int) | str (x:Str) | byt (b:Array UInt8) | flt (b:UInt64) | ref (a:m9) | ty (n:String)
 deriving DecidableEq
def qV:V->n9->Prop
 | .non,u=>u=Value.none
 | .bl b,u=>u=Value.bool b
 | .int i,u=>∃t,u=Value.int i t
 | .str x,u=>∃t,u=Value.str x t
 | .byt b,u=>∃t,u=Value.bytes b t
 | .flt b,u=>∃t,u=Value.float b t
 | .ref a,u=>u=Value.ref a
 | .ty n,u=>u=Value.type n
abbrev qN:List V->List n9->Prop:=Paired qV
def qN.length(r:qN xs us):xs.length=us.length:=Paired.length r
def qN.get:∀{xs:List V} {us:List n9} {i:Nat} {x:V},qN xs us->xs[i]?=tH x->∃u,us[i]?=tH u/\qV x u
 | _,_,_,_,.nil,e=>by simp at e
 | _,_,0,_,.cons r _,e=>by simp at e;subst e;calc{_,s0,r}
 | _,_,i+1,x,.cons _ t,e=>by
  let{u,a,b}:=qN.get t (by simpa using e);calc{u,by simpa using a,b}
def qN.set(r:qV x u):∀{xs:List V} {us:List n9} (i:Nat),qN xs us->qN (xs.set i x) (us.set i u)
 | _,_,_,.nil=>.nil
 | _,_,0,.cons _ t=>.cons r t
 | _,_,i+1,.cons q t=>.cons q (qN.set r i t)
def qN.append:∀{xs ys:List V} {us a:List n9},qN xs us->qN ys a->qN (xs++ys) (us++a)
 | _,_,_,_,.nil,s=>s
 | _,_,_,_,.cons r t,s=>.cons r (qN.append t s)
def qN.take:∀{xs:List V} {us:List n9} (n:Nat),qN xs us->qN (xs.take n) (us.take n)
 | _,_,0,_=>.nil
 | _,_,_+1,.nil=>.nil
 | _,_,n+1,.cons r t=>.cons r (qN.take n t)
def qN.drop:∀{xs:List V} {us:List n9} (n:Nat),qN xs us->qN (xs.drop n) (us.drop n)
 | _,_,0,r=>r
 | _,_,_+1,.nil=>.nil
 | _,_,n+1,.cons _ t=>qN.drop n t
def qN.none_of:∀{xs:List V} {us:List n9} {i:Nat},qN xs us->xs[i]?=r4->us[i]?=r4:=λ{xs us i} r e=>by
 let a:=r.length;let a:=zcX.mp e;calc zcX.mpr {}
def ZK:Option V->Option n9->Prop
 | some v,tH u=>qV v u
 | none,r4=>True
 | _,_=>False
def KV:List (κ×V)->List (κ×n9)->Prop:=Paired λ(a:κ×V) (q:κ×n9)=>a.1=q.1/\qV a.2 q.2
def kV:qJ->V
 | .inl i=>.int i
 | .inr x=>.str x
inductive HO where
 | lst (xs:List V)
 | tup (xs:List V)
 | dK (kvs:List (qJ×V)) | dT (kvs:List (List qJ×V))
 | set (S:Int->Bool) (n:Nat)
 | ins (C dx:m9) (fs:List (Str×V))
 | own (x:m9)
 | xd (fs:List (Str×V))
 | met (f x:m9)
 | rng (lo hi:Int)
 | frz (o:Obj) (u:HO)
 | tbl (ps:Array n9)
 | ext (φ:o1->Prop)
abbrev Hp:=m9->Option HO
def upd(H:Hp)(a:m9)(o:HO):Hp:=λb=>if b=a then tH o else H b
def qa:upd H a o a=tH o:=by unfold upd;rw[if_pos rfl]
def qf(h:b≠a):upd H a o b=H b:=by unfold upd;rw[if_neg h]
def jF:upd (upd H a o) a u=upd H a u:=by
 funext b;unfold upd;split<;>rfl
def FV{H:Hp}(h:H a=tH o)(i:H b=tH u)(d:o≠u):a≠b:=by
 intro e;subst e;rw[h]at i;calc d (tH.inj i)
def qo{H:Hp}(h:H a=tH o)(d:H b=r4):a≠b:=by
 intro e;subst e;rw[h]at d;cases d
inductive Su(ps:Array n9)(oc:Obj):Prop
 | mk (q:Str) (t:Tok) (vs:Array n9) (t':Tok):ps[0]?=tH (.str q t)->oc.data=.fields vs->vs[1]?=tH (.str q t')->Su ps oc
section
variable(P:o3)(w:o4)
def qL(H:Hp)(h:o1)(a:m9):HO->Prop
 | .lst xs=>xs.length<=zes/\∃(h5:List n9) (n:Nat),qN xs h5/\h.get? a=tH {cls:=.type "list",data:=.seq h5.toArray n}
 | .tup xs=>xs.length<=zes/\∃h5:List n9,qN xs h5/\IsTup h a h5.toArray
 | .dK kvs=>kvs.length<=zes/\(a==sysModules)=false/\∃vs,KV kvs vs/\h.DictOf (jN P w) a vs
 | .dT kvs=>kvs.length<=zes/\(a==sysModules)=false/\∃xs:List (List qJ×m9×n9),
  Paired (λ(p:List qJ×V) (q:List qJ×m9×n9)=>p.1=q.1/\H q.2.1=tH (.tup (p.1.map kV))/\qV p.2 q.2.2) kvs xs/\
  ∃o es ep,h.get? a=tH o/\o.ExactDict/\o.data=.dict es ep/\es.toList=xs.map (entryOfKey (tupleKind (jN P w)))/\(xs.map (·.1)).Nodup
 | .set S n=>h.SetOf (intKind P w) a S n
 | .ins C dx fs=>H dx=tH (.own a)/\fs.length<=1000/\dx≠a/\h.get? a=tH (zby C dx)/\
  ∃mA,h.Ns1 dx mA/\(∀f,ZK (fs.lookup f) (mA f))/\PySem.Within mA (fs.map (·.1))
 | .own _=>∃o,h.get? a=tH o
 | .xd fs=>∃mA,h.Ns1 a mA/\∀f,ZK (fs.lookup f) (mA f)
 | .rng lo hi=>∃t u v,h.get? a=tH {cls:=.type "range",data:=.fields #[.int lo t,.int hi u,.int 1 v]}
 | .frz o u=>h.get? a=tH o/\qL H h a u
 | .tbl ps=>∃ts:Array n9,h.get? a=tH {cls:=.none,data:=.fields ts}/\TriplesOk ts.toList/\∀pos cv,codeAmong pos ts.toList=tH cv->∃c oc,cv=.ref c/\H c=tH (.frz oc (.own a))/\Su ps oc
 | .met f x=>h.get? a=tH (zeb (.ref f) (.ref x))
 | .ext φ=>φ h/\(∃o,h.get? a=tH o)/\∀h1 h2:o1,φ h1->(∀o,h1.get? a=tH o->h2.get? a=tH o)->φ h2
def Z3(H:Hp)(h:o1):Prop:=∀a b,H a=tH b->qL P w H h a b
end
def qL.lt(x:qL P w H h a o):a < h.objs.size:=by
 cases o with
 | lst b=>let{_,_,_,_,e}:=x;calc tM e
 | tup b=>let{_,_,_,d}:=x;calc d.lt
 | dK kvs=>let{_,_,_,_,o,_,_,e,_}:=x;calc tM e
 | dT kvs=>let{_,_,_,_,o,_,_,e,_}:=x;calc tM e
 | set S n=>let{o,_,_,_,e,_}:=x;calc tM e
 | ins b d fs=>let{_,_,_,e,_}:=x;calc tM e
 | own y=>let{_,e}:=x;calc tM e
 | xd fs=>obtain⟨_,⟨_,_,_,e,_⟩,_⟩:=x;calc tM e
 | rng lo b=>let{_,_,_,e}:=x;calc tM e
 | frz b u=>let{e,_}:=x;calc tM e
 | tbl b=>let{_,e,_}:=x;calc tM e
 | met f y=>calc tM (show h.get? a=tH _ from x)
 | ext b=>obtain⟨_,⟨_,e⟩,_⟩:=x;calc tM e
def Paired.mapP{G:α->β->Prop}:∀{d:List α} {i:List β},Paired F d i->(∀a b,F a b->G a b)->Paired G d i
 | _,_,.nil,_=>.nil
 | _,_,.cons r t,f=>.cons (f _ _ r) (Paired.mapP t f)
def qL.stay{H':Hp}{m:o1}(x:qL P w H h a o)(k:∀b u,(b=a\/H b=tH (.own a))->h.get? b=tH u->m.get? b=tH u)(J:∀b,H b=tH (.own a)->H' b=tH (.own a))(p:∀b xs,H b=tH (.tup xs)->H' b=tH (.tup xs))(L:∀b o,H b=tH (.frz o (.own a))->H' b=tH (.frz o (.own a)):=by calc λ_ _ q=>q):qL P w H' m a o:=by
 induction o with
 | lst xs=>let{z,j,n,r,e}:=x;calc{z,j,n,r,k _ _ (.inl rfl) e}
 | tup xs=>let{z,j,r,i,e,c}:=x;calc{z,j,r,i,k _ _ (.inl rfl) e,c}
 | dK kvs=>let{z,y,B,r,i,j,l,e,c}:=x;calc{z,y,B,r,i,j,l,k _ _ (.inl rfl) e,c}
 | dT kvs=>
  let{z,y,xs,r,i,j,l,e,c}:=x;calc{z,y,xs,Paired.mapP r λD q z=>{z.1,p _ _ z.2.1,z.2.2},i,j,l,k _ _ (.inl rfl) e,c}
 | set S n=>let{i,j,l,t,e,c}:=x;calc{i,j,l,t,k _ _ (.inl rfl) e,c}
 | ins p B fs=>
  obtain⟨d,z,ne,e,p,⟨B,j,l,C,c⟩,r⟩:=x;calc{J _ d,z,ne,k _ _ (.inl rfl) e,p,{B,j,l,k _ _ (.inr d) C,c},r}
 | own y=>let{i,e}:=x;calc{i,k _ _ (.inl rfl) e}
 | xd fs=>obtain⟨p,⟨B,j,l,e,c⟩,r⟩:=x;calc{p,{B,j,l,k _ _ (.inl rfl) e,c},r}
 | rng lo j=>let{t,u,v,e}:=x;calc{t,u,v,k _ _ (.inl rfl) e}
 | frz i u j=>let{e,q}:=x;calc{k _ _ (.inl rfl) e,j q}
 | tbl i=>
  let{i,e,j,l}:=x;calc{i,k a _ (.inl rfl) e,j,λpos j q=>let ⟨c,i,p,C,B⟩:=l pos j q;({c,i,p,L c i C,B})}
 | met f y=>
  let e:=x;show m.get? a=tH (zeb (.ref f) (.ref y));calc k a _ (.inl rfl) e
 | ext i=>obtain⟨D,⟨o,e⟩,st⟩:=x;calc{st _ _ D λo q=>k _ _ (.inl rfl) q,{o,k _ _ (.inl rfl) e},st}
def Z3.lt(x:Z3 P w H h)(e:H a=tH o):a < h.objs.size:=(x a o e).lt
def Z3.fresh(x:Z3 P w H h)(e:h.objs.size<=a):H a=r4:=by
 cases q:H a with
 | none=>rfl
 | some u=>calc absurd (tJ (x.lt q) e) (zaH _)
def Z3.kept{d:o1}(x:Z3 P w H h)(k:∀b u,h.get? b=tH u->d.get? b=tH u):Z3 P w H d:=λa d e=>
 (x a d e).stay (λb u _ q=>k b u q) (λ_ q=>q) λ_ _ q=>q
def Z3.laid{d:o1}(x:Z3 P w H h)(k:∀b u,h.get? b=tH u->d.get? b=tH u)(hp:h.objs.size<=a)(new:qL P w (upd H a o) d a o):Z3 P w (upd H a o) d:=λb u e=>by
 let d:=x.fresh hp;by_cases i:b=a
 ·subst i;rw[qa]at e;cases e;exact new
 ·rw[qf i]at e;calc(x b u e).stay (λc v _ q=>k c v q) (λc q=>by rwa [qf (qo q d)]) (λc _ q=>by rwa [qf (qo q d)]) (λc o q=>by rwa [qf (qo q d)])
def Rd(H:Hp)(a:m9)(u:HO):Prop:=H a=tH u\/∃b,H a=tH (.frz b u)
def Rd.ok(r:Rd H a u)(x:Z3 P w H h):qL P w H h a u:=by
 rcases r with r | ⟨b,r⟩
 ·exact x a u r
 ·let{_,q}:=x a _ r;calc q
def Hh:Option HO->Prop
 | some (.lst _)=>True
 | some (.dK _)=>True
 | some (.dT _)=>True
 | some (.set _ _)=>True
 | some (.ins _ _ _)=>True
 | some (.ext _)=>True
 | _=>False
def Z3.write{d:o1}(ok:Z3 P w H h)(a:Hh (H x))(l:e=x\/H e=tH (.own x))(k:∀b u,b≠e->h.get? b=tH u->d.get? b=tH u)(o:∃u,d.get? e=tH u)(new:qL P w (upd H x o') d x o'):Z3 P w (upd H x o') d:=λb u q=>by
 let m:∀c y,H c=tH (.own y)->c≠x:=λc y r z=>by subst z;rwa [r]at a
 by_cases d:b=x
 ·subst d;rw[qa]at q;cases q;exact new
 ·rw[qf d]at q;by_cases i:b=e
  ·let j:H b=tH (.own x):=by
    rcases l with z | z
    ·exact absurd (i.trans z) d
    ·rwa [i]
   rw[q]at j;cases j;let{v,j}:=o;exact{v,i▸j}
  ·calc(ok b u q).stay (λc v j r=>k c v ?_ r) (λc r=>by rwa [qf (m c b r)]) (λc o r=>by rw[qf ((λc o r z=>by subst z;rw[r]at a;calc a) c o r)];calc r) (λc _ r=>by rwa [qf (λz=>by subst z;rw[r]at a;calc a)]);rcases j with rfl | j
   ·exact i
   ·rintro rfl;rcases l with z | z
    ·exact m c b j z
    ·rw[j]at z;cases z;exact d rfl
structure Un(fs ex:List m9)(H H':Hp)(h h':o1):Prop where
 keep:∀b o,h.get? b=tH o->H b=r4->b∉fs->b∉ex->h'.get? b=tH o
 slot:∀b o,h.get? b=tH o->H b=r4->b∈fs->b∉ex->∃sl,h'.get? b=tH {o with slots:=sl}
 free:∀b o,h.get? b=tH o->H b=r4->b∉ex->H' b=r4
 there:∀b o,h.get? b=tH o->b∉ex->∃o',h'.get? b=tH o'
 tups:∀b xs,H b=tH (.tup xs)->H' b=tH (.tup xs)
 frzs:∀b o u,H b=tH (.frz o u)->H' b=tH (.frz o u)
 tbls:∀b ps,H b=tH (.tbl ps)->∃more,H' b=tH (.tbl (ps++more))
def Un.any(u:Un fs ex H l h i)(q:h.get? b=tH a)(n:H b=r4)(d:b∉ex):∃j,i.get? b=tH {a with slots:=j}:=by
 by_cases i:b∈fs
 ·exact u.slot b a q n i d
 ·calc{a.slots,u.keep b a q n i d}
def Un.kept{h:o1}{a:o1}(k:∀b u,h.get? b=tH u->a.get? b=tH u):Un fs ex H H h a:=
 {λb a q _ _ _=>k b a q,λb a q _ _ _=>{a.slots,k b a q},λ_ _ _ n _=>n,λb a q _=>{a,k b a q},λ_ _ q=>q,λ_ _ _ q=>q,λ_ _ q=>{#[],by rw[q];simp}}
def Un.refl:Un fs ex H H h h:=Un.kept λ_ _ q=>q
def Un.laid{H:Hp}{h:o1}{i:o1}(k:∀b u,h.get? b=tH u->i.get? b=tH u)(hp:h.objs.size<=a)(d:H a=r4):Un fs ex H (upd H a o) h i where
 keep:=λb u q _ _ _=>k b u q
 slot:=λb u q _ _ _=>{u.slots,k b u q}
 free:=λb u q n _=>by rwa [qf (tX (tJ (tM q) hp))]
 there:=λb u q _=>{u,k b u q}
 tups:=λb i q=>by rwa [qf (qo q d)]
 frzs:=λb u i q=>by rwa [qf (qo q d)]
 tbls:=λb _ q=>{#[],by rw[qf (qo q d),q];simp}
def Un.write{H:Hp}{h:o1}{a:o1}(d:Hh (H x))(l:e=x\/H e=tH (.own x))(k:∀b u,b≠e->h.get? b=tH u->a.get? b=tH u)(m:∃u,a.get? e=tH u):Un fs ex H (upd H x o) h a:=by
 let i:∀b,H b=r4->b≠x:=λb n z=>by subst z;rwa [n]at d
 let j:∀b,H b=r4->b≠e:=λb n z=>by
  subst z;rcases l with r | r
  ·exact i b n r
  ·rw[n]at r;cases r
 let a:∀b u,H b=tH u->¬Hh (tH u)->b≠x:=λb u q nm z=>by subst z;rw[q]at d;exact nm d
 refine⟨λb u q n _ _=>k b u (j b n) q,λb u q n _ _=>{u.slots,k b u (j b n) q},λb u q n _=>by rwa [qf (i b n)],λb u q _=>?_,
  λb d q=>by rwa [qf (a b _ q λz=>z)],λb u d q=>by rwa [qf (a b _ q λz=>z)],λb _ q=>{#[],by rw[qf (a b _ q λz=>z),q];simp}⟩
 by_cases a:b=e
 ·subst a;exact m
 ·calc{u,k b u a q}
def SM(h:o1)(H:Hp):List m9:=(zae h.objs.size).filter λa=>(H a).isSome
def xT(h:o1)(H:Hp):o1:=PySem.W.hideAll h (SM h H)
def Gw(h:o1)(H:Hp):(xT h H).objs.size=h.objs.size:=PySem.W.hideAll_size _ _
def AO{h:o1}{H:Hp}(e:h.get? b=tH o)(n:H b=r4):(xT h H).get? b=tH o:=
 PySem.W.hideAll_get _ e λa=>by
  let q:=(tV.mp a).2;rw[n]at q;simp at q
def Dz(e:(xT h H).get? b=tH o):h.get? b=tH o/\H b=r4:=by
 let a:=PySem.W.of_hideAll (SM h H) e;exists a;cases q:H b with
 | none=>rfl
 | some x=>
  let z:(xT h H).get? b=r4:=PySem.W.hideAll_none (SM h H) (tV.mpr ({zaD.mpr (tM a),by simp [q]}));rw[z]at e;cases e
structure Mod(K:zen)(mg:Str->Option n9)(base:o1):Prop where
 kin:K.In base
 glob:base.Ns mainGlobals mg
 blt:∃mb,base.Ns builtinsNs mb/\∀x:Str,x≠"__name__"->mb x=bootBuiltins x
 nolimit:base.NoLimit
structure Cx where
 prog:o3
 w:o4
 K:zen
 mg:Str->Option n9
 base:o1
 A:o2
 N:List Str
 s₀:n0
 H₀:Hp
 env:Env
 outer:List Env
 stack:List Env
 ex:List m9
 fn:Str->Bool
 calm:Bool
 pn:List (m9×Obj)
 xe:n9->n0->Prop
def Xz(l:List Env):List m9:=l.filterMap (·.frame)
abbrev Cx.fs(X:Cx):List m9:=Xz X.outer
def Si(a:Scope)(x:Str):Prop:=a.names.lookup x=tH .local\/a.names.lookup x=tH .cell\/a.names.lookup x=tH .free
def By(a:Scope)(x:Str):Prop:=a.names.lookup x=tH .local\/a.names.lookup x=tH .cell
def fY(env:Env)(h:o1)(m:Str->Option n9)(x:Str)(u:n9):Prop:=
 (env.kindOf x=tH .local/\m x=tH u)\/((env.kindOf x=tH .cell\/env.kindOf x=tH .free)/\∃c,env.cells.lookup x=tH c/\h.IsCell c (tH u))
structure Cx.Ok(X:Cx):Prop where
 mod:Mod X.K X.mg X.base
 kind:X.env.scope.kind=.function
 glob:X.env.globals=mainGlobals
 blt:X.env.builtins=builtinsNs
 above:X.s₀.heap.objs.size<=X.env.locals
 inj:∀x y c,X.env.cells.lookup x=tH c->X.env.cells.lookup y=tH c->x=y
 has:∀x,(X.env.kindOf x=tH .cell\/X.env.kindOf x=tH .free)->∃c,X.env.cells.lookup x=tH c
 cab:∀x c,X.fn x=true->X.env.cells.lookup x=tH c->X.s₀.heap.objs.size<=c
 hd:X.calm=true->X.A.handled=r4
 frames:X.A.frames=tH X.stack
 stk:X.stack=X.outer\/(X.stack=X.env::X.outer/\X.env.frame=tH X.env.locals)
 exf:∀b∈X.ex,b≠X.env.locals/\∀x c,X.env.cells.lookup x=tH c->c≠b
 bs:∀b o,X.base.get? b=tH o->X.s₀.heap.get? b=tH o/\X.H₀ b=r4
 bsz:X.base.objs.size<=X.s₀.heap.objs.size
 noex:∀b o,X.base.get? b=tH o->b∉X.ex
 exfs:∀b∈X.ex,b∉X.fs
 funs:X.s₀.heap.FunFrames X.base X.outer
 frf:∀b∈X.fs,X.H₀ b=r4
structure qA(X:Cx)(gn:List (m9×Obj))(σ:List (Option V))(H:Hp)(s:n0):Prop where
 ok:X.Ok
 os:s.os=X.s₀.os
 bare:AllBare s.gens
 base:Un X.fs X.ex X.H₀ H X.s₀.heap s.heap
 loc:∃m,s.heap.Ns X.env.locals m/\∀(i:Nat) (x:Str) (v:V),X.N[i]?=tH x->σ[i]?=tH (tH v)->Si X.env.scope x->∃u,qV v u/\fY X.env s.heap m x u
 cell:∀x c,X.env.cells.lookup x=tH c->∃v,s.heap.IsCell c v
 free:H X.env.locals=r4
 freeC:∀x c,X.env.cells.lookup x=tH c->H c=r4\/(X.fn x=false/\∃o,H c=tH (.frz o (.frz o (.own 0))))
 pin:∀p∈X.pn++gn,s.heap.get? p.1=tH p.2/\H p.1=r4/\p.1≠X.env.locals/\p.1∉X.fs/\∀v,p.2.data≠.cell v
 hok:Z3 X.prog X.w H s.heap
 len:σ.length=X.N.length
def Cx.Ok.nofr{X:Cx}(ok:X.Ok)(e:X.base.get? b=tH o):b∉X.fs:=λa=>by
 let:=(ok.funs.mem a).1;rw[e]at this;cases this
def qA.bs(I:qA X a d H s):∀b o,X.base.get? b=tH o->s.heap.get? b=tH o/\H b=r4:=λb o e=>
 {I.base.keep b o (I.ok.bs b o e).1 (I.ok.bs b o e).2 (I.ok.nofr e) (I.ok.noex b o e),I.base.free b o (I.ok.bs b o e).1 (I.ok.bs b o e).2 (I.ok.noex b o e)}
def qA.bk(I:qA X a d H s):∀b o,X.base.get? b=tH o->s.heap.get? b=tH o:=λb o e=>(I.bs b o e).1
def qA.mod(I:qA X a b H s):Mod X.K X.mg X.base:=I.ok.mod
def qA.kIn(I:qA X a b H s):X.K.In s.heap:=I.ok.mod.kin.keeps I.bk
def qA.lt(I:qA X b d H s):X.env.locals < s.heap.objs.size:=let ⟨_,a,_⟩:=I.loc;a.lt
def qA.sz(I:qA X a b H s):X.s₀.heap.objs.size<=s.heap.objs.size:=tP I.ok.above (zab I.lt)
def qA.nofs(I:qA X d i H s)(h:s.heap.objs.size<=a):a∉X.fs:=λb=>by
 let{_,_,d,_}:=I.ok.funs.mem b;calc absurd (tJ (tM d) (tP I.sz h)) (zaH _)
def qA.cne(I:qA X a b H s):∀x c,X.env.cells.lookup x=tH c->c≠X.env.locals:=λx c e z=>by
 let{v,_,a,hd}:=I.cell x c e;obtain⟨m,⟨_,_,_,b,d,_⟩,_⟩:=I.loc;rw[z,b]at a;cases a;rw[d]at hd;cases hd
def qA.funs(I:qA X a d H s):s.heap.FunFrames X.base X.outer:=by
 let all:∀(a:List Env),(∀b∈Xz a,b∈X.fs)->X.s₀.heap.FunFrames X.base a->s.heap.FunFrames X.base a:=by
  intro a;induction a with
  | nil=>intro _ _;trivial
  | cons a r j=>
   intro i d;obtain⟨l,⟨L,m,a,o,p,hd⟩,hr⟩:=d;let d:=i L (by unfold Xz;rw[t8,a];calc tK);let{_,e}:=I.base.slot L m p (I.ok.frf L d) d λz=>I.ok.exfs L z d;exact{l,{L,_,a,o,e,hd},j (λb d=>i b (by unfold Xz;rw[t8,a];calc tI _ d)) hr}
 calc all X.outer (λ_ d=>d) I.ok.funs
def qA.stack(I:qA X a b H s):s.heap.FunFrames X.base X.stack:=by
 rcases I.ok.stk with e | ⟨e,a⟩
 ·rw[e];exact I.funs
 ·rw[e];let{m,b,_}:=I.loc;calc .cons (by rw[I.ok.kind];decide) a b ?_ I.funs;calc zcE (tP I.ok.bsz I.ok.above)
def qA.stkSub(I:qA X d i H s):∀b∈Xz X.stack,b∈X.env.locals::X.fs:=λb a=>by
 rcases I.ok.stk with e | ⟨e,d⟩
 ·rw[e]at a;exact tI _ a
 ·rw[e]at a;unfold Xz at a;rwa [t8,d]at a
def qA.stkFree(I:qA X d i H s):∀b∈Xz X.stack,H b=r4:=λb a=>by
 rcases tO.mp (I.stkSub b a) with e | a
 ·rw[e];exact I.free
 ·let{_,d,i,_}:=I.ok.funs.mem a;calc I.base.free b d i (I.ok.frf b a) λz=>I.ok.exfs b z a
def qA.step{H':Hp}{y:o1}{ch:List m9}(I:qA X a j H s)(L:∀b∈ch,(b∈X.ex\/X.s₀.heap.objs.size<=b)/\b≠X.env.locals/\(∀x c,X.env.cells.lookup x=tH c->c≠b)/\∀p∈X.pn++a,p.1≠b)(keep:∀b o,b≠X.env.locals->b∉X.fs->b∉ch->s.heap.get? b=tH o->H b=r4->y.get? b=tH o)(slot:∀b o,b≠X.env.locals->b∈X.fs->b∉ch->s.heap.get? b=tH o->H b=r4->∃T,y.get? b=tH {o with slots:=T})(free:∀b o,b∉ch->s.heap.get? b=tH o->H b=r4->H' b=r4)(there:∀b o,b∉ch->s.heap.get? b=tH o->∃o',y.get? b=tH o')(tups:∀b xs,H b=tH (.tup xs)->H' b=tH (.tup xs))(frzs:∀b o u,H b=tH (.frz o u)->H' b=tH (.frz o u))(tbls:∀b ps,H b=tH (.tbl ps)->∃more,H' b=tH (.tbl (ps++more)))(ns:∀m,s.heap.Ns X.env.locals m->y.Ns X.env.locals m)(hok:Z3 X.prog X.w H' y)(Y:AllBare l):
  qA X a j H' {s with heap:=y,gens:=l,drawn:=B,toks:=t'}:=by
 let iQ:∀b o,X.s₀.heap.get? b=tH o->b≠X.env.locals:=λb o e=>tX (tJ (tM e) I.ok.above);let Q:∀b o,X.s₀.heap.get? b=tH o->b∉X.ex->b∉ch:=λb o e a C=>by
  rcases(L b C).1 with z | z
  ·exact a z
  ·exact absurd (tJ (tM e) z) (zaH _)
 let U:∀x c,X.env.cells.lookup x=tH c->∀v,s.heap.IsCell c v->y.IsCell c v:=λx c e v ⟨o,D,hd⟩=>by
  let O:c∉ch:=λz=>(L c z).2.2.1 x c e rfl;rcases I.freeC x c e with l | ⟨_,B,l⟩
  ·by_cases j:c∈X.fs
   ·let{T,q}:=slot c o (I.cne x c e) j O D l;exact{_,q,hd}
   ·exact{o,keep c o (I.cne x c e) j O D l,hd}
  ·let{j,_}:=(show qL X.prog X.w H s.heap c (.frz B (.frz B (.own 0))) from I.hok c _ l);let{J,_}:=(show qL X.prog X.w H' y c (.frz B (.frz B (.own 0))) from hok c _ (frzs c B _ l));rw[D]at j;cases j;exact{o,J,hd}
 refine{I.ok,I.os,Y,{λb o e n C a=>?_,λb o e n C a=>?_,λb o e n a=>?_,λb o e a=>?_,λb xs e=>tups b xs (I.base.tups b xs e),λb o xs e=>frzs b o xs (I.base.frzs b o xs e),λb ps e=>?_},?_,λx c e=>?_,?_,λx c e=>?_,λp y=>?_,hok,I.len}
 ·exact keep b o (iQ b o e) C (Q b o e a) (I.base.keep b o e n C a) (I.base.free b o e n a)
 ·let{T,j}:=I.base.slot b o e n C a;let{T,J}:=slot b _ (iQ b o e) C (Q b o e a) j (I.base.free b o e n a);exact{T,J}
 ·let{o',j}:=I.base.there b o e a;exact free b o' (Q b o e a) j (I.base.free b o e n a)
 ·let{o',j}:=I.base.there b o e a;exact there b o' (Q b o e a) j
 ·let{a,j}:=I.base.tbls b ps e;let{C,J}:=tbls b _ j;exact{a++C,by rw[J,Array.append_assoc]}
 ·let{m,a,C}:=I.loc;calc{m,ns m a,λi x v j J Q=>?_};let{u,r,a}:=C i x v j J Q;exists u,r;rcases a with a | ⟨k,c,e,z⟩
  ·exact .inl a
  ·exact .inr ({k,c,e,U x c e _ z})
 ·let{v,z}:=I.cell x c e;exact{v,U x c e v z}
 ·obtain⟨m,⟨o,_,_,D,_⟩,_⟩:=I.loc;exact free _ o (λz=>(L _ z).2.1 rfl) D I.free
 ·let{v,o,D,hd}:=I.cell x c e;rcases I.freeC x c e with l | ⟨a,B,l⟩
  ·exact .inl (free c o (λz=>(L c z).2.2.1 x c e rfl) D l)
  ·exact .inr ({a,B,frzs c B _ l})
 ·let{e,n,ne,a,d}:=I.pin p y;let O:p.1∉ch:=λz=>(L p.1 z).2.2.2 p y rfl;calc{keep p.1 p.2 ne a O e n,free p.1 p.2 O e n,ne,a,d}
def qA.un(I:qA X d i H s)(u:Un X.fs [] H H' s.heap a)(hok:Z3 X.prog X.w H' a):qA X d i H' {s with heap:=a,toks:=t'}:=by
 obtain⟨m,⟨a,_,_,i,r⟩,_⟩:=id I.loc;let{_,j}:=u.any i I.free {};exact I.step (ch:=[]) (λ_ z=>nomatch z) (λb a _ d _ e n=>u.keep b a e n d {}) (λb a _ d _ e n=>u.slot b a e n d {}) (λb a _ e n=>u.free b a e n {}) (λb a _ e=>u.there b a e {}) u.tups u.frzs u.tbls (λ_ d=>by
  let{_,l,o,a,p}:=d;rw[i]at a;cases a;calc{_,l,o,j,p}) hok I.bare
def qA.call(I:qA X a i H s)(u:Un (Xz X.stack) ch H H' s.heap d)(hok:Z3 X.prog X.w H' d)(o:AllBare l)(j:∀b∈ch,(b∈X.ex\/X.s₀.heap.objs.size<=b)/\b≠X.env.locals/\(∀x c,X.env.cells.lookup x=tH c->c≠b)/\∀p∈X.pn++a,p.1≠b):
  qA X a i H' {s with heap:=d,gens:=l,drawn:=q,toks:=t'}:=by
 obtain⟨m,⟨a,_,_,l,r⟩,_⟩:=id I.loc;let{_,i}:=u.any l I.free λz=>(j _ z).2.1 rfl;exact I.step j (λb a i j d e n=>u.keep b a e n (λz=>(tO.mp (I.stkSub b z)).elim i j) d) (λb a _ _ d e n=>u.any e n d) (λb a d e n=>u.free b a e n d) (λb a d e=>u.there b a e d) u.tups u.frzs u.tbls (λ_ d=>by
  let{_,j,q,a,v}:=d;rw[l]at a;cases a;calc{_,j,q,i,v}) hok o
def qA.turned{a:o1}(I:qA X d j H s)(k:∀b o,b≠it->s.heap.get? b=tH o->a.get? b=tH o)(l:H it=r4)(i:it≠X.env.locals)(y:it∈X.ex\/X.s₀.heap.objs.size<=it)(B:∀x c,X.env.cells.lookup x=tH c->c≠it)(C:∀p∈X.pn++d,p.1≠it):qA X d j H {s with heap:=a,toks:=t'}:=by
 let d:∀b u,H b=tH u->b≠it:=λb u e z=>by rw[z,l]at e;cases e
 refine I.step (ch:=[it]) (λb j=>?_) (λb o _ _ a e _=>k b o (λz=>a (by simp [z])) e) (λb o _ _ a e _=>{o.slots,k b o (λz=>a (by simp [z])) e}) (λ_ _ _ _ n=>n)
  (λb o a e=>{o,k b o (λz=>a (by simp [z])) e}) (λ_ _ e=>e) (λ_ _ _ e=>e) (λb _ e=>{#[],by rw[e];simp}) (λm l=>?_) (λb u e=>?_) I.bare
 ·let e:b=it:=by simpa using j
  subst e;exact{y,i,B,C}
 ·let{o,j,y,B,r}:=l;exact{o,j,y,k _ o (Ne.symm i) B,r}
 ·calc(I.hok b u e).stay (λc v a q=>k c v ?_ q) (λ_ q=>q) λ_ _ q=>q;rcases a with z | z
  ·rw[z];exact d b u e
  ·calc d c _ z
def qA.tok(I:qA X a b H s)(t:Nat):qA X a b H {s with toks:=t}:=I.un Un.refl I.hok
def qA.kept{a:o1}(I:qA X d i H s)(k:∀b u,s.heap.get? b=tH u->a.get? b=tH u):qA X d i H {s with heap:=a,toks:=t'}:=I.un (Un.kept k) (I.hok.kept k)
def qA.laid{d:o1}(I:qA X i j H s)(k:∀b u,s.heap.get? b=tH u->d.get? b=tH u)(hp:s.heap.objs.size<=a)(new:qL X.prog X.w (upd H a o) d a o):
 qA X i j (upd H a o) {s with heap:=d,toks:=t'}:=I.un (Un.laid k hp (I.hok.fresh hp)) (I.hok.laid k hp new)
def qA.write{a:o1}(I:qA X l m H s)(d:Hh (H x))(i:e=x\/H e=tH (.own x))(k:∀b u,b≠e->s.heap.get? b=tH u->a.get? b=tH u)(j:∃u,a.get? e=tH u)(new:qL X.prog X.w (upd H x o) a x o):qA X l m (upd H x o) {s with heap:=a,toks:=t'}:=I.un (Un.write d i k j) (I.hok.write d i k j new)
def qA.pins_of{a:List (m9×Obj)}(I:qA X d b H s)(h:∀p∈a,s.heap.get? p.1=tH p.2/\H p.1=r4/\p.1≠X.env.locals/\p.1∉X.fs/\∀v,p.2.data≠.cell v):qA X a b H s:=
 {I.ok,I.os,I.bare,I.base,I.loc,I.cell,I.free,I.freeC,λp a=>(tU.mp a).elim (λz=>I.pin p (zaa _ z)) (h p),I.hok,I.len}
def WQ{N:List Str}(hN:N.Nodup){i j:Nat}{x:Str}(a:N[i]?=tH x)(b:N[j]?=tH x):i=j:=by
 let{_,d}:=tf.mp a;let{_,l}:=tf.mp b;calc(List.getElem_inj hN).mp (d.trans l.symm)
def VG{Q:Unit->n0->Prop}(I:qA X o l H s)(hN:X.N.Nodup)(T:X.N[i]?=tH x)(p:By X.env.scope x)(r:qV v u)(h:∀j,qA X o (l.set i (tH v)) H j->(∃a,Heap.SameBut a s.heap j.heap/\(a=X.env.locals\/X.env.cells.lookup x=tH a))->Q () j)(hf:X.fn x=true\/X.env.scope.names.lookup x=tH .local:=by first | calc .inl rfl | calc .inr rfl | assumption):wpAny M A (storeName X.env x u) Q E s:=by
 let{m,hn,hl}:=id I.loc;let ab:i < l.length:=by rw[I.len];exact(tf.mp T).1
 let cne:=I.cne;let ac:∀{a:m9} {O:o1},(∃B,s.heap.get? a=tH B/\H a=r4)->Heap.SameBut a s.heap O->Z3 X.prog X.w H O:=λ{a O} o j b C e=>by
  let{_,_,l}:=o;calc(I.hok b C e).stay (λc w' o q=>(j.2 c ?_).trans q) (λ_ q=>q) λ_ _ q=>q;rintro rfl;rcases o with rfl | o
  ·rw[l]at e;cases e
  ·rw[l]at o;cases o
 rcases p with D | D
 ·calc wpAny_storeName_local D hn (λO l j=>?_) (by rw[I.ok.kind];rfl);let{oL,_,_,L,_}:=id hn;refine h _ ({I.ok,I.os,I.bare,{λb B e n J p=>?_,λb B e n J p=>?_,I.base.free,λb B e p=>?_,I.base.tups,I.base.frzs,I.base.tbls},{_,l,λU y v' l C e3=>?_},λy c e=>?_,I.free,I.freeC,λY hp=>?_,ac ({oL,L,I.free}) j,by simpa using I.len}) ({_,j,.inl rfl})
  ·exact(j.2 b (tX (tJ (tM e) I.ok.above))).trans (I.base.keep b B e n J p)
  ·let{sl,l}:=I.base.slot b B e n J p;exact{sl,(j.2 b (tX (tJ (tM e) I.ok.above))).trans l}
  ·let{o',l}:=I.base.there b B e p;exact{o',(j.2 b (tX (tJ (tM e) I.ok.above))).trans l}
  ·by_cases L:U=i
   ·subst L;rw[T]at l;cases l;rw[zcv ab]at C;cases C;exact{u,r,.inl ({D,{}})}
   ·rw[zcF (Ne.symm L)]at C;let{u',r',q}:=hl U y v' l C e3;exists u',r';rcases q with ⟨k,e⟩ | ⟨k,c,e,z⟩
    ·calc .inl ({k,?_});let:y≠x:=λe=>L (WQ hN l (e▸T));simp [this,e]
    ·exact .inr ({k,c,e,z.sameBut j (cne y c e)})
  ·let{w',z}:=I.cell y c e;exact{w',z.sameBut j (cne y c e)}
  ·let{e,n,ne,nf,d}:=I.pin Y hp;exact{(j.2 Y.1 ne).trans e,n,ne,nf,d}
 ·let aa:X.fn x=true:=by
   rcases hf with z | z
   ·exact z
   ·rw[z]at D;cases D
  let{c,o}:=I.ok.has x (.inl D);let{w',z}:=I.cell x c o;calc wpAny_storeName_cell I.ok.kind D o z (λO ae j=>?_);let{oc,af,ag}:=id z;refine h {s with heap:=O} ({I.ok,I.os,I.bare,{λb B e n J p=>?_,λb B e n J p=>?_,I.base.free,λb B e p=>?_,I.base.tups,I.base.frzs,I.base.tbls},{m,hn.sameBut j (Ne.symm (cne x c o)),λU y v' l C e3=>?_},λy O e=>?_,I.free,I.freeC,λY hp=>?_,ac ({oc,af,(I.freeC x c o).elim id λz=>by rw[aa]at z;cases z.1}) j,by simpa using I.len}) ({c,j,.inr o})
  ·exact(j.2 b (tX (tJ (tM e) (I.ok.cab x c aa o)))).trans (I.base.keep b B e n J p)
  ·let{sl,l}:=I.base.slot b B e n J p;exact{sl,(j.2 b (tX (tJ (tM e) (I.ok.cab x c aa o)))).trans l}
  ·let{o',l}:=I.base.there b B e p;exact{o',(j.2 b (tX (tJ (tM e) (I.ok.cab x c aa o)))).trans l}
  ·by_cases L:U=i
   ·subst L;rw[T]at l;cases l;rw[zcv ab]at C;cases C;exact{u,r,.inr ({.inl D,c,o,ae})}
   ·rw[zcF (Ne.symm L)]at C;let{u',r',q}:=hl U y v' l C e3;exists u',r';rcases q with q | ⟨k,O,e,p⟩
    ·exact .inl q
    ·calc .inr ({k,O,e,p.sameBut j ?_});rintro rfl;exact L (WQ hN l (I.ok.inj _ _ _ e o▸T))
  ·by_cases l:O=c
   ·subst l;exact{_,ae}
   ·let{o,p}:=I.cell y O e;exact{o,p.sameBut j l}
  ·let{e,n,ne,nf,d}:=I.pin Y hp;calc{(j.2 Y.1 ?_).trans e,n,ne,nf,d};intro q;rw[q,af]at e;calc d w' (by rw[<-(tH.inj e)];calc ag)
def Yi{Q:Unit->n0->Prop}(I:qA X b d H s)(hN:X.N.Nodup)(j:X.N[i]?=tH x)(l:By X.env.scope x)(r:qV v u)(h:∀a,qA X b (d.set i (tH v)) H a->Q () a)(m:X.fn x=true\/X.env.scope.names.lookup x=tH .local:=by first | calc .inl rfl | calc .inr rfl | assumption):wpAny M A (storeName X.env x u) Q E s:=
 VG I hN j l r (λa b _=>h a b) m
def qA.call'{a:n0}(I:qA X d i H s)(j:a.os=s.os)(u:Un (Xz X.stack) ch H H' s.heap a.heap)(hok:Z3 X.prog X.w H' a.heap)(l:AllBare a.gens)(m:∀b∈ch,(b∈X.ex\/X.s₀.heap.objs.size<=b)/\b≠X.env.locals/\(∀x c,X.env.cells.lookup x=tH c->c≠b)/\∀p∈X.pn++d,p.1≠b):qA X d i H' a:=by
 let{_,_,_,_,_}:=a;let e:=j;subst e;calc I.call u hok l m
abbrev XK:=n9->Option m9->Hp->Prop
abbrev St:=List (Option V)
abbrev VK:=V->Hp->Prop
abbrev TE:=St->Hp->VK->Prop
abbrev TT:=St->Hp->(Bool->Hp->Prop)->Prop
abbrev TA:=St->Hp->(List V->Hp->Prop)->Prop
structure QY where
 nx:St->Hp->Prop
 rt:VK
 bk:St->Hp->Prop:=λ_ _=>False
 ct:St->Hp->Prop:=λ_ _=>False
abbrev TS:=QY->St->Hp->Prop
def EP(X:Cx)(b:List (m9×Obj))(d:St)(Q:VK)(u:n9)(i:n0):Prop:=∃v a,qA X b d a i/\qV v u/\Q v a
def TP(X:Cx)(d:List (m9×Obj))(i:St)(Q:Bool->Hp->Prop)(b:Bool)(j:n0):Prop:=∃a,qA X d i a j/\Q b a
def AP(X:Cx)(d:List (m9×Obj))(i:St)(Q:List V->Hp->Prop)(us:List n9)(j:n0):Prop:=∃a b,qA X d i b j/\qN a us/\Q a b
def SP(X:Cx)(d:List (m9×Obj))(D:QY)(f:Flow)(i:n0):Prop:=
 match f with
 | .next=>∃b a,qA X d b a i/\D.nx b a
 | .brk=>∃b a,qA X d b a i/\D.bk b a
 | .cont=>∃b a,qA X d b a i/\D.ct b a
 | .ret u=>∃v b a,qA X d b a i/\qV v u/\D.rt v a
def PE(X:Cx)(e:Expr)(t:TE):Prop:=
 ∀(b:List (m9×Obj)) (s:n0) (a:St) (H:Hp) (Q:VK),qA X b a H s->t a H Q->wpAny (model X.prog X.w) X.A (eval e X.env) (EP X b a Q) X.xe s
@[irreducible] def JE (X:Cx) (e:Expr) (t:TE):Prop:=PE X e t
def JE.of(h:PE X e t):JE X e t:=by unfold JE;calc h
def JE.to(h:JE X e t):PE X e t:=by unfold JE at h;calc h
def PT(X:Cx)(e:Expr)(t:TT):Prop:=
 ∀(b:List (m9×Obj)) (s:n0) (a:St) (H:Hp) (Q:Bool->Hp->Prop),qA X b a H s->t a H Q->wpAny (model X.prog X.w) X.A (isTrue e X.env (eval e X.env)) (TP X b a Q) X.xe s
@[irreducible] def JT (X:Cx) (e:Expr) (t:TT):Prop:=PT X e t
def JT.of(h:PT X e t):JT X e t:=by unfold JT;calc h
def JT.to(h:JT X e t):PT X e t:=by unfold JT at h;calc h
def PW(X:Cx)(e:Expr)(t:TT):Prop:=
 ∀(gG:Sem n9) (b:List (m9×Obj)) (s:n0) (a:St) (H:Hp) (Q:Bool->Hp->Prop),qA X b a H s->t a H Q->wpAny (model X.prog X.w) X.A (isTrue e X.env gG) (TP X b a Q) X.xe s
def PW.pt(h:PW X e t):PT X e t:=h _
@[irreducible] def JW (X:Cx) (e:Expr) (t:TT):Prop:=PW X e t
def JW.of(h:PW X e t):JW X e t:=by unfold JW;calc h
def JW.to(h:JW X e t):PW X e t:=by unfold JW at h;calc h
def JW.pt(h:JW X e t):JT X e t:=.of h.to.pt
def PA(X:Cx)(d:List Expr)(t:TA):Prop:=
 ∀(pos:Pos) (b:List (m9×Obj)) (s:n0) (a:St) (H:Hp) (Q:List V->Hp->Prop),qA X b a H s->t a H Q->wpAny (model X.prog X.w) X.A (spliced (backTo pos (starEach d X.env))) (AP X b a Q) X.xe s
@[irreducible] def JA (X:Cx) (a:List Expr) (t:TA):Prop:=PA X a t
def JA.of(h:PA X a t):JA X a t:=by unfold JA;calc h
def JA.to(h:JA X a t):PA X a t:=by unfold JA at h;calc h
def PS(X:Cx)(st:o0)(t:TS):Prop:=
 ∀(a:List (m9×Obj)) (s:n0) (b:St) (H:Hp) (D:QY),qA X a b H s->t D b H->wpAny (model X.prog X.w) X.A (exec st X.env) (SP X a D) X.xe s
@[irreducible] def JS (X:Cx) (st:o0) (t:TS):Prop:=PS X st t
def JS.of{X:Cx}{st:o0}{t:TS}(h:PS X st t):JS X st t:=by unfold JS;calc h
def JS.to{X:Cx}{st:o0}{t:TS}(h:JS X st t):PS X st t:=by unfold JS at h;calc h
def Bx(X:Cx)(st:List o0)(t:TS):Prop:=
 ∀(a:List (m9×Obj)) (s:n0) (b:St) (H:Hp) (D:QY),qA X a b H s->t D b H->wpAny (model X.prog X.w) X.A (execs st X.env) (SP X a D) X.xe s
@[irreducible] def Vm (X:Cx) (st:List o0) (t:TS):Prop:=Bx X st t
def Vm.of{X:Cx}{st:List o0}{t:TS}(h:Bx X st t):Vm X st t:=by unfold Vm;calc h
def Vm.to{X:Cx}{st:List o0}{t:TS}(h:Vm X st t):Bx X st t:=by unfold Vm at h;calc h
def jy{α:Type}{t:Sem α}{Q b:α->n0->Prop}{M:Model}{A:o2}{E:n9->n0->Prop}{s:n0}(h:wpAny M A t Q E s)(d:∀a s,Q a s->b a s):wpAny M A t b E s:=wpAny_mono h d λ_ _ x=>x
def oV(o:Option (Option V))(k:V->Prop):Prop:=match o with | some (tH v)=>k v | _=>False
def oB(x:V)(k:Bool->Prop):Prop:=match x with | .bl c=>k c | _=>False
def oR(x:V)(k:m9->Prop):Prop:=match x with | .ref a=>k a | _=>False
def oI(x:V)(k:Int->Prop):Prop:=match x with | .int i=>k i | _=>False
def oC(x:List V)(k:V->List V->Prop):Prop:=match x with | v::r=>k v r | []=>False
def xV(h:oV o k):∃v,o=tH (tH v)/\k v:=match o,h with | some (tH v),h=>{v,s0,h}
def xB(h:oB x k):∃v,x=.bl v/\k v:=match x,h with | .bl v,h=>{v,s0,h}
def xR(h:oR x k):∃v,x=.ref v/\k v:=match x,h with | .ref v,h=>{v,s0,h}
def xI(h:oI x k):∃v,x=.int v/\k v:=match x,h with | .int v,h=>{v,s0,h}
def xC(h:oC x k):∃v r,x=v::r/\k v r:=match x,h with | v::r,h=>{v,r,s0,h}
def yV{k:V->Prop}(e:o=tH (tH v))(h:k v):oV o k:=e▸h
def yR{k:m9->Prop}(e:x=.ref v)(h:k v):oR x k:=e▸h
def jd(i:Nat):TE:=λa H Q=>oV a[i]? λv=>Q v H
def tC(v:V):TE:=λ_ H Q=>Q v H
def Ig{X:Cx}(hN:X.N[i]?=tH x)(a:Si X.env.scope x)(hd:(x==("__debug__":Str))=false:=by decide)(j:(x==("__classdict__":Str))=false:=by decide):PE X (.Name x pos) (jd i):=by
 intro b s d H Q I h;let{v,e,h}:=xV h;let{m,l,o}:=I.loc;let{u,r,p}:=o i x v hN e a;let gj:EP X b d Q u s:={v,H,I,r,h};rcases p with ⟨a,o⟩ | ⟨a,c,b,d⟩
 ·exact wpAny_Name (wpAny_loadName_local I.ok.kind a l o gj) hd
 ·rcases a with a | a
  ·exact wpAny_Name (wpAny_loadName_cell I.ok.kind a b d gj) hd
  ·calc wpAny_Name (wpAny_loadName_free I.ok.kind a b d gj j) hd
def qh{X:Cx}{i j pos}:JE X (.Constant (.int i) j pos) (tC (.int i)):=.of (by
 calc λ_ _ _ H _ I h=>wpAny_Constant_int ({.int i,H,I.tok _,{_,s0},h}))
def j0{X:Cx}{b j pos}:JE X (.Constant (.bool b) j pos) (tC (.bl b)):=.of (by
 calc λ_ _ _ H _ I h=>Constant_bool ({.bl b,H,I,s0,h}))
def va{X:Cx}{j pos}:JE X (.Constant .none j pos) (tC .non):=.of (by
 calc λ_ _ _ H _ I h=>Constant_none ({.non,H,I,s0,h}))
def qH{X:Cx}{x j pos}:JE X (.Constant (.str x) j pos) (tC (.str x)):=.of (by
 calc λ_ _ _ H _ I h=>Calls.Constant_str ({.str x,H,I.tok _,{_,s0},h}))
def Gl(X:Cx)(x:Str):Prop:=X.env.kindOf x=tH .globalImplicit
def Ys{Q:n9->n0->Prop}(I:qA X d i H s)(a:Gl X x)(b:X.mg x=tH u)(h:Q u s)(hd:(x==("__debug__":Str))=false:=by decide):wpAny (model X.prog X.w) X.A (eval (.Name x pos) X.env) Q E s:=
 Calls.Name_function_global I.ok.kind a (Calls.loadGlobal_global (by rw[I.ok.glob];calc I.mod.glob.keeps I.bk) b h) hd
def Jq{Q:n9->n0->Prop}(I:qA X j l H s)(a:Gl X x)(b:X.mg x=r4)(d:bootBuiltins x=tH u)(h:Q u s)(i:x≠"__name__":=by decide)(hd:(x==("__debug__":Str))=false:=by decide):wpAny (model X.prog X.w) X.A (eval (.Name x pos) X.env) Q E s:=by
 let{_,j,l}:=I.mod.blt;calc Calls.Name_function_global I.ok.kind a (Calls.loadGlobal_builtin (by rw[I.ok.glob];calc I.mod.glob.keeps I.bk) b (by rw[I.ok.blt];calc j.keeps I.bk) ((l x i).trans d) h) hd
def uE(a:Gl X x)(b:X.mg x=tH u)(r:qV v u)(hd:(x==("__debug__":Str))=false:=by decide):PE X (.Name x pos) (tC v):=
 λ_ _ _ H _ I h=>Ys I a b ({v,H,I,r,h}) hd
def Qz(a:Gl X x)(b:X.mg x=tH u)(r:qV v u)(hd:(x==("__debug__":Str))=false:=by decide):JE X (.Name x pos) (tC v):=.of (uE a b r hd)
def QM(a:Gl X x)(b:X.mg x=r4)(d:bootBuiltins x=tH u)(r:qV v u)(i:x≠"__name__":=by decide)(hd:(x==("__debug__":Str))=false:=by decide):JE X (.Name x pos) (tC v):=.of (by
 calc λ_ _ _ H _ I h=>Jq I a b d ({v,H,I,r,h}) i hd)
def PC(X:Cx)(op:CmpOp)(a b:Expr)(t:TE):Prop:=
 ∀(i:List (m9×Obj)) (s:n0) (d:St) (H:Hp) (Q:VK),qA X i d H s->t d H Q->
  wpAny (model X.prog X.w) X.A (eval a X.env) (λv j=>wpAny (model X.prog X.w) X.A (eval b X.env) (λu l=>wpAny (model X.prog X.w) X.A (compareOp op v u) (EP X i d Q) X.xe l) X.xe j) X.xe s
@[irreducible] def JC (X:Cx) (op:CmpOp) (a b:Expr) (t:TE):Prop:=PC X op a b t
def JC.of(h:PC X op a b t):JC X op a b t:=by unfold JC;calc h
def JC.to(h:JC X op a b t):PC X op a b t:=by unfold JC at h;calc h
def WR(b:Expr)(h:op≠.In)(a:op≠.NotIn):behindInMarks op b=false:=by
 let d:(op==CmpOp.In)=false:=by cases op<;>first | rfl | exact absurd rfl h
 let i:(op==CmpOp.NotIn)=false:=by cases op<;>first | rfl | exact absurd rfl a
 cases b<;>first | rfl | (show (_&&(op==.In || op==.NotIn)&&_)=false;rw[d,i,zdR,zdF,zcg])
def SU(a:TE):TE:=λb H Q=>a b H λx a=>Q (.bl (decide (x=.non))) a
def L7(a:TE):TE:=λb H Q=>a b H λx a=>Q (.bl (!decide (x=.non))) a
def qV.none_iff(r:qV x v):(v==Value.none)=decide (x=.non):=by
 cases x with
 | non=>cases r;rfl
 | bl _=>cases r;rfl
 | int _=>let{t,rfl}:=r;rfl
 | str _=>let{t,rfl}:=r;rfl
 | byt _=>let{t,rfl}:=r;rfl
 | flt _=>let{t,rfl}:=r;rfl
 | ref _=>cases r;rfl
 | ty _=>cases r;rfl
def AE{X:Cx}{a:Expr}{b:TE}{j d}(i:JE X a b):JC X .Is a (.Constant .none j d) (SU b):=.of (by
 calc λb s d H Q I h=>jy (i.to b s d H _ I h) λv _ ⟨x,b,d,i,l⟩=>Constant_none (is_none_gen ({.bl _,b,d,by rw[i.none_iff];rfl,l})))
def X7{X:Cx}{a:Expr}{b:TE}{j d}(i:JE X a b):JC X .IsNot a (.Constant .none j d) (L7 b):=.of (by
 calc λb s d H Q I h=>jy (i.to b s d H _ I h) λv _ ⟨x,b,d,i,l⟩=>Constant_none (isnot_none_gen ({.bl _,b,d,by rw[i.none_iff];rfl,l})))
inductive tB_(Q:Bool->Hp->Prop)(x:V)(H1:Hp):Prop
 | mk (c:_):x=.bl c->Q c H1->tB_ Q x H1
def tB(t:TE):TT:=λa H Q=>t a H λx a=>tB_ Q x a
def vb(h:JC X op a b t)(d:behindInMarks op b=false:=by first | calc WR _ {} {} | rfl):JE X (.Compare a [op] [b] pos) t:=.of (by
 calc λi s j H Q I l=>wpAny_Compare1 (h.to i s j H Q I l) d)
def Jr(h:JC X op a b t)(i:behindInMarks op b=false:=by first | calc WR _ {} {} | rfl):JT X (.Compare a [op] [b] pos) (tB t):=.of (by
 calc λj s l H Q I m=>wpAny_isTrue_Compare1 (jy (h.to j s l H _ I m) λv _ i=>jy i λu _ j=>jy j λc _ ⟨x,j,l,m,o⟩=>?_) i;let{d,rfl,q}:=o;cases m;calc wpAny_truthy_bool ({j,l,q}))
def jj(h:JE X e t)(a:∀gG,isTrue e X.env gG=(do let v <-gG;standAt e.pos;holding [v] (truthy v)):=by intro _;rfl):JT X e (tB t):=.of (by
 calc λb s i H Q I j=>isTrue_plain (jy (h.to b s i H _ I j) λv _ ⟨x,b,i,j,l⟩=>?_) (a _);let{d,rfl,q}:=l;cases j;calc wpAny_truthy_bool ({b,i,q}))
def Oh(t u:TT):TT:=λa H Q=>t a H λc b=>if c=true then u a b Q else Q false b
def tOr(t u:TT):TT:=λa H Q=>t a H λc b=>if c=true then Q true b else u a b Q
def SO(t:TT):TT:=λa H Q=>t a H λc a=>Q (!c) a
def Je(b:JT X a d):JW X (.BoolOp .And [a] pos) d:=.of (by
 calc λ_ d s i H Q I h=>isTrue_and (jy (b.to d s i H Q I h) λc _ e=>?_);cases c with
 | true=>calc isTrue_and_nil e
 | false=>calc e)
def Qx(b:JT X a d):JW X (.BoolOp .Or [a] pos) d:=.of (by
 calc λ_ d s i H Q I h=>isTrue_or (jy (b.to d s i H Q I h) λc _ e=>?_);cases c with
 | false=>calc isTrue_or_nil e
 | true=>calc e)
def JP{X:Cx}{a:Expr}{b:Expr}{pos:Pos}{d:TT}{i:TT}{rest:List Expr}(j:JT X a d)(o:JW X (.BoolOp .And (b::rest) pos) i):JW X (.BoolOp .And (a::b::rest) pos) (Oh d i):=.of (by
 calc λp d s i H Q I h=>isTrue_and (jy (j.to d s i H _ I h) λc q ζ=>?_);let{j,l,m}:=ζ;cases c with
 | true=>calc o.to p d q i j Q l m
 | false=>calc{j,l,m})
def Jd{X:Cx}{a:Expr}{b:Expr}{pos:Pos}{d:TT}{i:TT}{rest:List Expr}(j:JT X a d)(o:JW X (.BoolOp .Or (b::rest) pos) i):JW X (.BoolOp .Or (a::b::rest) pos) (tOr d i):=.of (by
 calc λp d s i H Q I h=>isTrue_or (jy (j.to d s i H _ I h) λc q ζ=>?_);let{j,l,m}:=ζ;cases c with
 | true=>calc{j,l,m}
 | false=>calc o.to p d q i j Q l m)
def jX(b:JT X a d):JT X (.UnaryOp .Not a pos) (SO d):=.of (by
 calc λd s i H Q I h=>isTrue_not (jy (b.to d s i H (λc b=>Q (!c) b) I h) λc _ ⟨b,d,i⟩=>{b,d,i}))
inductive RQ(tb:TE)(σ:St)(Q:VK)(x:V)(H1:Hp):Prop
 | mk (c:_):x=.bl c->(if c=true then tb σ H1 Q else Q (.bl false) H1)->RQ tb σ Q x H1
def Og(b tb:TE):TE:=λa H Q=>b a H λx b=>RQ tb a Q x b
inductive RE(Q:VK)(x:V)(H1:Hp):Prop
 | mk (c:_):x=.bl c->(Q (.bl (!c)) H1)->RE Q x H1
def L6(a:TE):TE:=λb H Q=>a b H λx a=>RE Q x a
def Jt{X:Cx}{a:Expr}{pos:Pos}{op}{t:TE}(h:JE X a t):JE X (.BoolOp op [a] pos) t:=.of (by
 calc λb s d H Q I i=>BoolOp_one (h.to b s d H Q I i))
def QI{X:Cx}{a:Expr}{b:Expr}{d:TE}{tb:TE}{pos:Pos}{rest:List Expr}(l:JE X a d)(o:JE X (.BoolOp .And (b::rest) pos) tb):JE X (.BoolOp .And (a::b::rest) pos) (Og d tb):=.of (by
 calc λi s j H Q I h=>BoolOp_and (jy (l.to i s j H _ I h) λv p ζ=>?_);let{x,l,m,q,d}:=ζ;let{c,rfl,d}:=d;cases q;calc wpAny_truthy_bool ?_;cases c with
 | true=>calc o.to i p j l Q m d
 | false=>calc{.bl false,l,m,s0,d})
def Ll(b:JE X a d):JE X (.UnaryOp .Not a pos) (L6 d):=.of (by
 calc λd s i H Q I h=>UnaryOp_ (jy (b.to d s i H _ I h) λv _ ⟨x,d,i,j,b⟩=>?_);let{c,rfl,b}:=b;cases j;calc not_of (wpAny_truthy_bool ({.bl (!c),d,i,s0,b})))
def JX(K:zen)(H:Hp)(a:m9)(xs:List V):Prop:=
 Rd H a (.lst xs)\/
  ∃(b:Obj) (d:Array n9) (n:Nat),K.lookup a=tH b/\b.cls=.type "list"/\b.dict=r4/\b.data=.seq d n/\d.size<=zes/\qN xs d.toList
def SqT(K:zen)(H:Hp)(a:m9)(xs:List V):Prop:=
 Rd H a (.tup xs)\/
  ∃(b:Obj) (d:Array n9) (n:Nat),K.lookup a=tH b/\b.cls=.type "tuple"/\b.data=.seq d n/\d.size<=zes/\qN xs d.toList
def fF:n9->Option V
 | .none=>tH .non
 | .bool b=>tH (.bl b)
 | .int i _=>tH (.int i)
 | .str x _=>tH (.str x)
 | .bytes b _=>tH (.byt b)
 | .float b _=>tH (.flt b)
 | .ref a=>tH (.ref a)
 | .type n=>tH (.ty n)
 | _=>r4
def qV.abs(r:qV x u):fF u=tH x:=by
 cases x with
 | non=>cases r;rfl
 | bl _=>cases r;rfl
 | int _=>let{t,rfl}:=r;rfl
 | str _=>let{t,rfl}:=r;rfl
 | byt _=>let{t,rfl}:=r;rfl
 | flt _=>let{t,rfl}:=r;rfl
 | ref _=>cases r;rfl
 | ty _=>cases r;rfl
def qV.inj(r:qV x u)(q:qV y u):x=y:=tH.inj (r.abs.symm.trans q.abs)
def qN.inj:∀{xs ys:List V} {us:List n9},qN xs us->qN ys us->xs=ys
 | _,_,_,.nil,.nil=>rfl
 | _,_,_,.cons r t,.cons a b=>by rw[r.inj a,qN.inj t b]
def JX.of{H:Hp}{a:m9}{xs:List V}{K:zen}(h:H a=tH (.lst xs)):JX K H a xs:=.inl (.inl h)
def SqT.of{H:Hp}{a:m9}{xs:List V}{K:zen}(h:H a=tH (.tup xs)):SqT K H a xs:=.inl (.inl h)
def qA.list(I:qA X d i H s)(h:JX X.K H a xs):∃b:List n9,qN xs b/\PlainL s.heap a b.toArray/\xs.length<=zes:=by
 rcases h with h | ⟨d,b,n,i,j,hd,l,m,r⟩
 ·let{z,b,n,r,e}:=h.ok I.hok;exact{b,r,{_,n,e,s0,s0,s0},z}
 ·calc{b.toList,r,{d,n,I.kIn a d i,j,hd,by simpa using l},?_};let e:=r.length;simp only[zaG]at e;omega
def qA.tuple(I:qA X d i H s)(h:SqT X.K H a xs):∃b:List n9,qN xs b/\IsTup s.heap a b.toArray/\xs.length<=zes:=by
 rcases h with h | ⟨d,b,n,i,j,l,m,r⟩
 ·let{z,b,r,m}:=h.ok I.hok;exact{b,r,m,z}
 ·calc{b.toList,r,{d,I.kIn a d i,j,n,by simpa using l},?_};let e:=r.length;simp only[zaG]at e;omega
def qA.list_inj(I:qA X b i H s)(h:JX X.K H a xs)(j:JX X.K H a ys):xs=ys:=by
 obtain⟨l,r,⟨_,n,e,_,_,d⟩,_⟩:=I.list h;obtain⟨m,o,⟨_,_,b,_,_,i⟩,_⟩:=I.list j;rw[e]at b;cases b;rw[d]at i;injection i with b _;let:l=m:=by simpa using congrArg Array.toList b
 subst this;calc r.inj o
def qA.tuple_inj(I:qA X b i H s)(h:SqT X.K H a xs)(j:SqT X.K H a ys):xs=ys:=by
 obtain⟨l,r,⟨_,e,_,n,d⟩,_⟩:=I.tuple h;obtain⟨m,o,⟨_,b,_,_,i⟩,_⟩:=I.tuple j;rw[e]at b;cases b;rw[d]at i;injection i with b _;let:l=m:=by simpa using congrArg Array.toList b
 subst this;calc r.inj o
abbrev Cx.wish(X:Cx)(E:n9->n0->Prop):Cx:={X with xe:=E}
abbrev Cx.nox(X:Cx):Cx:=X.wish λ_ _=>False
def Cx.Ok.wish{X:Cx}(ok:X.Ok)(E:n9->n0->Prop):(X.wish E).Ok:=
 {ok.mod,ok.kind,ok.glob,ok.blt,ok.above,ok.inj,ok.has,ok.cab,ok.hd,ok.frames,ok.stk,ok.exf,ok.bs,ok.bsz,ok.noex,ok.exfs,ok.funs,ok.frf}
def Cx.Ok.unwish{X:Cx}(ok:(X.wish E).Ok):X.Ok:=
 {ok.mod,ok.kind,ok.glob,ok.blt,ok.above,ok.inj,ok.has,ok.cab,ok.hd,ok.frames,ok.stk,ok.exf,ok.bs,ok.bsz,ok.noex,ok.exfs,ok.funs,ok.frf}
def qA.wish(I:qA X a b H s)(E:n9->n0->Prop):qA (X.wish E) a b H s:={I.ok.wish E,I.os,I.bare,I.base,I.loc,I.cell,I.free,I.freeC,I.pin,I.hok,I.len}
def qA.unwish{X:Cx}(I:qA (X.wish E) a b H s):qA X a b H s:={I.ok.unwish,I.os,I.bare,I.base,I.loc,I.cell,I.free,I.freeC,I.pin,I.hok,I.len}
def SP.unwish{X:Cx}(h:SP (X.wish E) d D f i):SP X d D f i:=by
 cases f with
 | next=>let{a,b,I,q}:=h;calc{a,b,I.unwish,q}
 | brk=>let{a,b,I,q}:=h;calc{a,b,I.unwish,q}
 | cont=>let{a,b,I,q}:=h;calc{a,b,I.unwish,q}
 | ret u=>let{v,a,b,I,r,q}:=h;calc{v,a,b,I.unwish,r,q}
def Bx.nox{X:Cx}{st:List o0}{t:TS}(h:Bx X.nox st t):Bx X st t:=λa s b H D I d=>
 wpAny_mono (h a s b H D (I.wish _) d) (λ_ _ q=>q.unwish) λ_ _ z=>False.elim z
def VF:TS:=λD a H=>D.nx a H
def Hm(t u:TS):TS:=λD a H=>t {D with nx:=u D} a H
def qt:Vm X [] VF:=.of (by
 calc λ_ _ a H _ I h=>wpAny_execs_nil ({a,H,I,h}))
def qb{X:Cx}{st:o0}{rest:List o0}{t:TS}{u:TS}(b:JS X st t)(d:Vm X rest u):Vm X (st::rest) (Hm t u):=.of (by
 calc λa s i H D I h=>wpAny_execs_cons (jy (b.to a s i H {D with nx:=u D} I h) λf j q=>?_);cases f with
 | next=>
  let{l,m,o,q}:=q;calc d.to a j l m D o q
 | ret v=>calc q
 | brk=>calc q
 | cont=>calc q)
def qc{X:Cx}{st:o0}{t:TS}(a:JS X st t):Vm X [st] t:=.of (by
 calc λb s d H D I h=>wpAny_execs_cons (jy (a.to b s d H D I h) λf i q=>?_);cases f with
 | next=>calc wpAny_execs_nil q
 | ret v=>calc q
 | brk=>calc q
 | cont=>calc q)
def Of:TS:=λD a H=>D.ct a H
def yq:JS X (.Continue pos) Of:=.of (by
 calc λ_ _ a H _ I h=>wpAny_Continue ({a,H,I,h}))
def qA.quiet(I:qA X a b H s):interactive X.env=false:=by simp [interactive,I.ok.kind]
def RK(te:TE):TS:=λD a H=>te a H λ_ b=>D.nx a b
def q5{pos:Pos}(b:JE X e te)(d:swapsWith e r4 pos.line X.env=pure false:=by rfl):JS X (.Expr e pos) (RK te):=.of (by
 calc λi s a H D I h=>wpAny_Expr_any (jy (b.to i s a H _ I h) λv _ ⟨x,b,i,_,j⟩=>{a,b,i,j}) I.quiet d)
def SN(te:TE):TS:=λD a H=>te a H D.rt
def qm(b:JE X e te):JS X (.Return (tH e) pos) (SN te):=.of (by
 calc λd s a H D I h=>wpAny_Return_some (jy (b.to d s a H _ I h) λv _ ⟨x,b,d,i,j⟩=>{x,a,b,d,i,j}))
def Kz(c:TT)(t u:TS):TS:=λD a H=>c a H λb d=>if b=true then t D a d else u D a d
def qG(l:JT X c i)(q:Vm X a t)(v:Vm X b u):JS X (.If c a b pos) (Kz i t u):=.of (by
 calc λi s j H D I h=>wpAny_If (jy (l.to i s j H _ I h) λd l ζ=>?_);let{m,o,p}:=ζ;cases d with
 | true=>calc q.to i l j m D o p
 | false=>calc v.to i l j m D o p)
def Hn:TS:=λ_ _ _=>False
def qS:Vm X a Hn:=.of (by
 calc λ_ _ _ _ _ _ h=>h.elim)
abbrev TG:=V->St->Hp->(St->Hp->Prop)->Prop
abbrev Ez:=List V->St->Hp->(St->Hp->Prop)->Prop
def PG(X:Cx)(a_:Expr)(t:TG):Prop:=
 ∀(a:List (m9×Obj)) (s:n0) (b:St) (H:Hp) (v:V) (u:n9) (Q:St->Hp->Prop),qA X a b H s->qV v u->t v b H Q->
  wpAny (model X.prog X.w) X.A (assign a_ X.env u) (λ_ i=>∃b d,qA X a b d i/\Q b d) X.xe s
@[irreducible] def JG (X:Cx) (a_:Expr) (t:TG):Prop:=PG X a_ t
def JG.of(h:PG X a_ t):JG X a_ t:=by unfold JG;calc h
def JG.to(h:JG X a_ t):PG X a_ t:=by unfold JG at h;calc h
def fQ(X:Cx)(ts:List Expr)(t:Ez):Prop:=
 ∀(a:List (m9×Obj)) (s:n0) (b:St) (H:Hp) (d:List V) (i:List n9) (Q:St->Hp->Prop),qA X a b H s->qN d i->t d b H Q->
  wpAny (model X.prog X.w) X.A (assignInOrder ((assignEach ts X.env).map (·.2)) i) (λ_ i=>∃b d,qA X a b d i/\Q b d) X.xe s
@[irreducible] def Br (X:Cx) (ts:List Expr) (t:Ez):Prop:=fQ X ts t
def Br.of(h:fQ X ts t):Br X ts t:=by unfold Br;calc h
def Br.to(h:Br X ts t):fQ X ts t:=by unfold Br at h;calc h
abbrev Sj:=V->V->V->Hp->(Hp->Prop)->Prop
def LJ(X:Cx)(t:Sj):Prop:=
 ∀(a:List (m9×Obj)) (s:n0) (b:St) (H:Hp) (d i v:V) (j l u:n9) (Q:Hp->Prop),qA X a b H s->qV d j->qV i l->qV v u->t d i v H Q->
  wpAny (model X.prog X.w) X.A (setItem j l u) (λ_ j=>∃d,qA X a b d j/\Q d) X.xe s
abbrev fJ:=V->V->Hp->VK->Prop
def PIp(X:Cx)(op:Operator)(t:fJ):Prop:=
 ∀(a:List (m9×Obj)) (s:n0) (b:St) (H:Hp) (x y:V) (v u:n9) (Q:VK),qA X a b H s->qV x v->qV y u->t x y H Q->
  wpAny (model X.prog X.w) X.A (inplaceOp op v u) (EP X a b Q) X.xe s
def Ql(i:Nat):TG:=λv a H Q=>Q (a.set i (tH v)) H
def jP{X:Cx}(hN:X.N.Nodup)(a:X.N[i]?=tH x)(b:By X.env.scope x)(d:X.fn x=true\/X.env.scope.names.lookup x=tH .local:=by first | calc .inl rfl | calc .inr rfl | assumption):JG X (.Name x pos) (Ql i):=.of (by
 calc λ_ s _ H v u Q I r h=>wpAny_assign_Name (Yi I hN a b r (λ_ a=>{_,H,a,h}) d))
def qC{X:Cx}(i:Nat)(a:X.fn x=true\/X.env.scope.names.lookup x=tH .local:=by first | calc .inl rfl | calc .inr rfl | assumption)(hN:X.N.Nodup:=by first | assumption | calc ndC)(b:X.N[i]?=tH x:=by calc rfl)(d:By X.env.scope x:=by first | calc Or.inl rfl | calc Or.inr rfl):JG X (.Name x pos) (Ql i):=jP hN b d a
def GF:Ez:=λa b H Q=>a=[]/\Q b H
def zu(t:TG)(u:Ez):Ez:=λa b H Q=>oC a λv r=>t v b H λa b=>u r a b Q
def Qp:Br X [] GF:=.of (by
 intro _ s a H _ _ Q I r h;let{e,h}:=h;subst e;cases r;calc assignInOrder_nil ({a,H,I,h}))
def qM(b:JG X e t)(d:Br X a u)(i:(assignEach (e::a) X.env).map (·.2)=assign e X.env::(assignEach a X.env).map (·.2):=by rfl):Br X (e::a) (zu t u):=.of (by
 intro a s j H _ _ Q I r h;let{v,_,l,h}:=xC h;subst l;cases r with
 | cons r l=>
  rw[i];calc assignInOrder_cons (jy (b.to a s j H _ _ _ I r h) λ_ b ⟨i,j,m,o⟩=>d.to a b i j _ _ Q m l o))
inductive F6(K:zen)(n:Nat)(t:Ez)(v:V)(σ:St)(H:Hp)(Q:St->Hp->Prop):Prop
 | mk (a:_) (xs:_):v=.ref a->SqT K H a xs->xs.length=n->t xs σ H Q->F6 K n t v σ H Q
def GD(K:zen)(n:Nat)(t:Ez):TG:=λv a H Q=>F6 K n t v a H Q
def Jf{X:Cx}(j:X.calm=true)(h:Br X d t)(l:(assignEach d X.env).length=n:=by rfl)(m:(assignEach d X.env).findIdx? (·.1)=r4:=by rfl):JG X (.Tuple d k pos) (GD X.K n t):=.of (by
 intro o s p H v u Q I r d;let{a,q,i,x,y,d}:=d;subst i;cases r;let{_,i,z,_}:=I.tuple x;calc assign_Tuple_tuple (I.ok.hd j) z (by simp [l,<-y,i.length]) m λ_ j=>h.to o _ p H q _ Q (I.kept λb l e=>j b l (tX (tM e)) e) (by simpa using i) d)
def P9(to b:TE)(t:Sj):TG:=λv a H Q=>to a H λd j=>b a j λi b=>t d i v b λb=>Q a b
def Ie(l:PE X o to)(m:PE X i d)(p:LJ X t) (q:∀v,assign (.Subscript o i pos) X.env v=(do
  let a <-holding [v] (eval o X.env);let b <-holding [v,a] (eval i X.env)
  standAt pos
  holding [v,a,b] (setItem a b v)
  release [v,a,b] []):=by intro _;rfl):PG X (.Subscript o i pos) (P9 to d t):=by
 intro j s d H v u Q I r h;rw[q];calc zep (wpAny_holding (jy (l j s d H _ I h) λa l ⟨x,q,z,B,C⟩=>zep (wpAny_holding (jy (m j l d q _ z C) λb l ⟨y,m,q,z,C⟩=>zep (wpAny_standAt (zep (wpAny_holding (jy (p j l d m x y v a b u _ q B z r C) λ_ _ ⟨a,b,j⟩=>wpAny_release ({d,a,b,j})))))))))
def Lk(d:JE X o to)(j:JE X i l)(m:LJ X t) (p:∀v,assign (.Subscript o i pos) X.env v=(do
 let a <-holding [v] (eval o X.env);let b <-holding [v,a] (eval i X.env)
 standAt pos
 holding [v,a,b] (setItem a b v)
 release [v,a,b] []):=by intro _;rfl):JG X (.Subscript o i pos) (P9 to l t):=.of (Ie d.to j.to m p)
def y4(te:TE)(g:TG):TS:=λD a H=>te a H λx b=>g x a b D.nx
def U6{pos:Pos}(d:JE X e te)(i:JG X a g)(j:swapsWithSole [a] e pos.line X.env=pure false:=by rfl)(l:swappedStores [a] e X.env=pure r4:=by rfl)(m:(assignEach [a] X.env).map (·.2)=[assign a X.env]:=by rfl):JS X (.Assign [a] e pos) (y4 te g):=.of (by
 calc λa s b H D I h=>wpAny_Assign_stores (jy (d.to a s b H _ I h) λv d ⟨x,o,p,u,y⟩=>?_) j l;rw[m];calc jy (i.to a d b o x v _ p u y) λ_ _ q=>q)
def Aq{X:Cx}{pos:Pos}(hN:X.N.Nodup)(a:X.N[i]?=tH x)(b:By X.env.scope x)(d:JE X e te)(j:swapsWith e (tH (.Name x l)) pos.line X.env=pure false:=by rfl)(m:X.fn x=true\/X.env.scope.names.lookup x=tH .local:=by first | calc .inl rfl | calc .inr rfl | assumption):JS X (.Assign [.Name x l] e pos) (y4 te (Ql i)):=.of (by
 calc λl s o H D I h=>wpAny_Assign_Name (jy (d.to l s o H _ I h) λv _ ⟨y,d,l,o,p⟩=>?_) j;calc Yi l hN a b o (λ_ a=>{_,d,a,p}) m)
def zq{pos:Pos}(i:Nat)(a:JE X e te)(b:swapsWith e (tH (.Name x d)) pos.line X.env=pure false:=by rfl)(j:X.fn x=true\/X.env.scope.names.lookup x=tH .local:=by first | calc .inl rfl | calc .inr rfl | assumption)(hN:X.N.Nodup:=by first | assumption | calc ndC)(l:X.N[i]?=tH x:=by calc rfl)(m:By X.env.scope x:=by calc Or.inr rfl):JS X (.Assign [.Name x d] e pos) (y4 te (Ql i)):=Aq hN l m a b j
def qB{pos:Pos}(i:Nat)(a:JE X e te)(b:X.N[i]?=tH x:=by calc rfl)(d:By X.env.scope x:=by calc Or.inl rfl)(j:swapsWith e (tH (.Name x l)) pos.line X.env=pure false:=by rfl)(m:X.fn x=true\/X.env.scope.names.lookup x=tH .local:=by first | calc .inl rfl | calc .inr rfl | assumption)(hN:X.N.Nodup:=by first | assumption | calc ndC):JS X (.Assign [.Name x l] e pos) (y4 te (Ql i)):=Aq hN b d a j m
def SZ(i:Nat)(te:TE)(b:fJ):TS:=λD a H=>oV a[i]? λx=>te a H λy d=>b x y d λz b=>D.nx (a.set i (tH z)) b
def xG{X:Cx}(hN:X.N.Nodup)(j:X.N[i]?=tH x)(b:By X.env.scope x)(o:JE X e te)(p:PIp X op q)(B:X.fn x=true\/X.env.scope.names.lookup x=tH .local:=by first | calc .inl rfl | calc .inr rfl | assumption):JS X (.AugAssign (.Name x ab) op e pos) (SZ i te q):=.of (by
 intro d s l H D I h;let{v,C,h}:=xV h;let{m,J,L}:=I.loc;let{u,r,O}:=L i x v j C (by rcases b with k | k;calc .inl k;calc .inr (.inl k));calc wpAny_AugAssign_Name ?_;let go:wpAny (model X.prog X.w) X.A (eval e X.env) (λw Q=>wpAny (model X.prog X.w) X.A (inplaceOp op u w) (λr T=>wpAny (model X.prog X.w) X.A (storeName X.env x r) (λ_=>SP X d D .next) X.xe T) X.xe Q) X.xe s:=by
  exact jy (o.to d s l H _ I h) λw U ⟨y,Y,I1,r1,q1⟩=>jy (p d U l Y v y u w _ I1 r r1 q1) λz s2 ⟨zv,H2,I2,r2,q2⟩=>Yi I2 hN j b r2 (λs3 I3=>{_,H2,I3,q2}) B
 rcases O with ⟨a,hm⟩ | ⟨a,c,hc,aa⟩
 ·exact wpAny_loadName_local I.ok.kind a J hm go
 ·rcases a with a | a
  ·exact wpAny_loadName_cell I.ok.kind a hc aa go
  ·rcases b with k | k
   ·let:X.env.scope.names.lookup x=tH .free:=a;rw[k]at this;cases this
   ·let:X.env.scope.names.lookup x=tH .free:=a;rw[k]at this;cases this)
def ipI(f:Int->Int->Int):fJ:=λx y H Q=>∃i a,x=.int i/\y=.int a/\Q (.int (f i a)) H
def xO:PIp X .Add (ipI λi j=>i+j):=by
 intro _ s _ H x y v u Q I a b h;let{i,j,d,l,q}:=h;subst d;subst l;let{t,rfl}:=a;let{_,rfl}:=b;calc iadd_int ({.int _,H,I.tok _,{_,s0},q})
inductive wz(c:TT)(tb:TS)(D:QY)(σ:St)(H:Hp):Prop
 | mk (W:Nat->St->Hp->Prop):((∃m,W m σ H))->(∀m σ H,W m σ H->c σ H λb H1=>if b=true then ∃N:St->Hp->Prop,(∀gK H',N gK H'->∃m',m' < m/\W m' gK H')/\tb {D with nx:=N,ct:=N,bk:=D.nx} σ H1 else D.nx σ H1)->wz c tb D σ H
def RC(c:TT)(tb:TS):TS:=λD a H=>wz c tb D a H
def ZG{X:Cx}(hp:PassesOwn (model X.prog X.w) X.A X.env X.xe)(L:JT X c O)(Q:Vm X gu tb):JS X (.While c gu [] pos) (RC O tb):=.of (by
 intro m s T H D I h;obtain⟨W,⟨U,Y⟩,aa⟩:=h;calc wpAny_While (codeAny_whileLoop (λn s'=>∃x y,qA X m x y s'/\W n x y) ?_ U ({T,H,I,Y}));rintro n s1 ⟨i,z,I1,w1⟩;calc wpAny_passesOwn hp (jy (L.to m s1 i z _ I1 (aa n i z w1)) λb s2 ζ=>?_);let{B,C,j}:=ζ;cases b with
 | true=>
  let{N,J,j}:=j;rw[if_pos rfl];calc wpAny_passesOwn hp (jy (Q.to m s2 i B _ C j) λf s3 l=>?_);cases f with
  | next=>
   let{a,d,o,n3}:=l;let{p,q,u}:=J a d n3;calc{p,q,a,d,o,u}
  | cont=>
   let{a,d,o,n3}:=l;let{p,q,u}:=J a d n3;calc{p,q,a,d,o,u}
  | brk=>calc l
  | ret v=>calc l
 | false=>
  rw[if_neg tN];calc wpAny_execs_nil ({i,B,C,j}))
structure It where
 go:Nat->Hp->Prop
 yld:Nat->Hp->V->Hp->Prop
 stop:Nat->Hp->Prop
def Yc(X:Cx)(a:List (m9×Obj))(H:Hp)(b:m9):Prop:=
 H b=r4/\b≠X.env.locals/\b∉X.fs/\(b∈X.ex\/X.s₀.heap.objs.size<=b)/\(∀x c,X.env.cells.lookup x=tH c->c≠b)/\∀d∈X.pn++a,d.1≠b
def qA.fpOk{H':Hp}(I:qA X d j H s)(a:s.heap.objs.size<=b)(i:H' b=r4):Yc X d H' b:=by
 refine{i,zbA (tJ I.lt a),I.nofs a,.inr (tP I.sz a),λx c e z=>?_,λd i z=>?_}
 ·let{v,q}:=I.cell x c e;exact absurd (tJ q.lt (z▸a)) (zaH _)
 ·exact absurd (tJ (tM (I.pin d i).1) (z▸a)) (zaH _)
structure Vx(P:o3)(w:o4)(K:zen)(tg:Expr)(J:It)(fp:List m9)(it:m9)(tn:Nat->o1->Prop):Prop where
 mem:it∈fp
 obj:∀i h,tn i h->∀b∈fp,∃o,h.get? b=tH o/\∀v,o.data≠.cell v
 keep:∀i h h',tn i h->(∀b∈fp,∀o,h.get? b=tH o->h'.get? b=tH o)->tn i h'
 item:∀(X:Cx),X.prog=P->X.w=w->X.K=K->X.calm=true->∀(i:Nat) (gn:List (m9×Obj)) (s:n0) (σ:St) (H:Hp) (E:n9->n0->Prop),qA X gn σ H s->(∀b∈fp,Yc X gn H b)->tn i s.heap->J.go i H->
  wpAny (model P w) X.A (pyNext (.ref it)) (λr s1=>∃u,r=tH u/\
   wpAny (model P w) X.A (letOwnedTupleGo tg (.ref it) u) (λ_ s2=>∃x H',qA X gn σ H' s2/\qV x u/\J.yld i H x H'/\tn (i+1) s2.heap/\∀b∈fp,H' b=r4) E s1) E s
 done:∀(X:Cx),X.prog=P->X.w=w->X.K=K->X.calm=true->∀(i:Nat) (gn:List (m9×Obj)) (s:n0) (σ:St) (H:Hp) (E:n9->n0->Prop),qA X gn σ H s->(∀b∈fp,Yc X gn H b)->tn i s.heap->J.stop i H->
  wpAny (model P w) X.A (pyNext (.ref it)) (λr s1=>r=r4/\qA X gn σ H s1) E s
 self:∀(A:o2) (i:Nat) (s:n0) (Q:n9->n0->Prop) (E:n9->n0->Prop),tn i s.heap->Q (.ref it) s->wpAny (model P w) A (pyIter (.ref it)) Q E s
abbrev TI:=St->Hp->(It->Hp->Prop)->Prop
inductive fM(X:Cx)(gn:List (m9×Obj))(σ:St)(tg:Expr)(R:It->Hp->Prop)(iS:n9)(s2:n0):Prop
 | mk (it:m9) (fp:List m9) (tn:Nat->o1->Prop) (J:It) (H':Hp):iS=.ref it->qA X gn σ H' s2->Vx X.prog X.w X.K tg J fp it tn->tn 0 s2.heap->((∀b∈fp,Yc X gn H' b))->R J H'->fM X gn σ tg R iS s2
def PI(X:Cx)(d iter:Expr)(i:TI):Prop:=
 ∀(b:List (m9×Obj)) (s:n0) (a:St) (H:Hp) (R:It->Hp->Prop),qA X b a H s->i a H R->
  wpAny (model X.prog X.w) X.A (eval iter X.env) (λv i=>wpAny (model X.prog X.w) X.A (pyIter v) (fM X b a d R) X.xe i) X.xe s
@[irreducible] def JI (X:Cx) (a iter:Expr) (b:TI):Prop:=PI X a iter b
def JI.of(h:PI X a iter b):JI X a iter b:=by unfold JI;calc h
def JI.to(h:JI X a iter b):PI X a iter b:=by unfold JI at h;calc h
def Uc{s:n0}{Q:Unit->n0->Prop}(b:s.heap.get? it=tH o)(d:o.cls=.type n)(hd:o.data=.fields vs)(i:["enumerate","zip","dict_itemiterator","dict_reverseitemiterator","odict_iterator","itertools.zip_longest","itertools.pairwise"].contains n=false)(a:Q () s):wpAny M A (letOwnedTupleGo j (.ref it) u) Q E s:=by
 unfold letOwnedTupleGo;cases j<;>first
   | calc zeq a
   | (cases u<;>first
       | calc zeq a
       | (refine zep (wpAny_load b ?_)
          rw[d,hd];show wpAny M A (if (["enumerate","zip","dict_itemiterator","dict_reverseitemiterator","odict_iterator","itertools.zip_longest","itertools.pairwise"].contains n&&vs[0]?==tH (rawInt _))=true then _ else _) Q E s;rw[if_neg (by intro h;rw[i,zcg]at h;cases h)];calc zeq a))
def LP(K:zen)(a:m9):It:=
 {λi H=>∃b x,JX K H a b/\b[i]?=tH x,λi H x d=>d=H/\∀b,JX K H a b->b[i]?=tH x,λi H=>∃b,JX K H a b/\b.length<=i}
def LZ(K:zen)(a:m9):It:=
 {λi H=>∃b x,SqT K H a b/\b[i]?=tH x,λi H x d=>d=H/\∀b,SqT K H a b->b[i]?=tH x,λi H=>∃b,SqT K H a b/\b.length<=i}
def LO(lo:Int)(n:Nat):It:={λi _=>i < n,λi H x a=>a=H/\x=.int (lo+i),λi _=>n<=i}
def Ks{P:o3}{w:o4}{K:zen}{j:Expr}(a it:m9):Vx P w K j (LP K a) [it] it (λi h=>h.IsListIter it a i) where
 mem:=by simp
 obj:=λi h st b j=>by
  let e:b=it:=by simpa using j
  subst e;let{l,e,c,d}:=st;exact{l,e,λv z=>by rw[d]at z;cases z}
 keep:=λi h U st k=>st.at λl e=>k it {} l e
 item:=by
  intro X p q y Y i ab s σ H E I m st B;subst p q y;let{xs,x,o,C}:=B;let{ac,D,J,hz}:=I.list o;let{u,hu,ru}:=D.get C;let{L,f1,f2,O,Q,T}:=m it {};calc wpAny_pyNext_list_item st J.isList (by simpa using hu) λU aa sb=>?_;let{l,e,c,d}:=id aa;exact{u,s0,Uc e c d {} ({x,H,I.turned (λb l j e=>(sb.2 b j).trans e) L f1 O Q T,ru,{s0,λ_ hy=>(I.list_inj hy o)▸C},aa,λb j=>(m b j).1})}
 done:=by
  intro X p q y Y i ab s σ H E I m st B;subst p q y;let{xs,o,C}:=B;let{ac,D,J,hz}:=I.list o;let{L,f1,f2,O,Q,T}:=m it {};let m:=D.length;exact wpAny_pyNext_list_end (I.ok.hd Y) st J.isList (by simp;omega) λU m=>{s0,I.turned (λb l j e=>m b l j e) L f1 O Q T}
 self:=λ_ _ _ _ _ st h=>wpAny_pyIter_listiter st h
def yU{P:o3}{w:o4}{K:zen}{j:Expr}(a it:m9):Vx P w K j (LZ K a) [it] it (λi h=>h.IsTupleIter it a i) where
 mem:=by simp
 obj:=λi h st b j=>by
  let e:b=it:=by simpa using j
  subst e;let{l,e,c,d}:=st;exact{l,e,λv z=>by rw[d]at z;cases z}
 keep:=λi h Y st k=>st.at λl e=>k it {} l e
 item:=by
  intro X p q y hc i ab s σ H E I m st B;subst p q y;let{xs,x,o,C}:=B;let{D,J,L,hz}:=I.tuple o;let{u,hu,ru}:=J.get C;let{O,f1,f2,Q,T,U}:=m it {};calc wpAny_pyNext_tuple_item st (show s.heap.IsTuple a D.toArray from L) (by simpa using hu) λY aa sb=>?_;let{l,e,c,d}:=id aa;exact{u,s0,Uc e c d {} ({x,H,I.turned (λb l j e=>(sb.2 b j).trans e) O f1 Q T U,ru,{s0,λ_ hy=>(I.tuple_inj hy o)▸C},aa,λb j=>(m b j).1})}
 done:=by
  intro X p q y hc i ab s σ H E I m st B;subst p q y;let{xs,o,C}:=B;let{D,J,L,hz}:=I.tuple o;let{O,f1,f2,Q,T,U}:=m it {};let m:=J.length;exact wpAny_pyNext_tuple_end (I.ok.hd hc) st (show s.heap.IsTuple a D.toArray from L) (by simp;omega) λY m=>{s0,I.turned (λb l j e=>m b l j e) O f1 Q T U}
 self:=λ_ _ _ _ _ st h=>wpAny_pyIter_tupleiter st h
def yW{P:o3}{w:o4}{K:zen}{a:Expr}(it:m9)(lo:Int)(n:Nat):Vx P w K a (LO lo n) [it] it (λi h=>IsRangeIter h it (lo+(i:Nat)*1) ((n:Int) - (i:Nat)) 1) where
 mem:=by simp
 obj:=λi h st b a=>by
  let e:b=it:=by simpa using a
  subst e;exact⟨_,st,λv z=>by
   cases z⟩
 keep:=λi h C st k=>k it {} _ st
 item:=by
  intro X j l m o i J s L H E I d st p;subst j l m;let{q,f1,f2,u,x,y}:=d it {};calc(Walks.range (I.ok.hd o) it lo 1 n).item i s _ _ p st λv C tk B D O=>?_;let{t,rfl}:=B;calc{_,s0,Uc D rfl rfl {} ({.int (lo+i),H,I.turned (λb B a e=>O b B (by simpa using a) e) q f1 u x y,{t,?_},{s0,s0},D,λb a=>(d b a).1})};rw[Int.mul_one]
 done:=by
  intro X j l m o i J s L H E I d st p;subst j l m;let{q,f1,f2,u,x,y}:=d it {};exact wpAny_pyNext_range_end (I.ok.hd o) st (by have:n<=i:=p;omega) λC d=>{s0,I.turned (λb B a e=>d b B a e) q f1 u x y}
 self:=λ_ _ _ _ _ st h=>wpAny_pyIter_rangeiter st h
def yt(K:zen)(b:TE):TI:=λd H R=>b d H λx b=>oR x λa=>(∃d,JX K b a d)/\R (LP K a) b
def P5(K:zen)(b:TE):TI:=λd H R=>b d H λx b=>oR x λa=>(∃d,SqT K b a d)/\R (LZ K a) b
def qv(d:JE X l i):JI X j l (yt X.K i):=.of (by
 calc λi s j H R I h=>jy (d.to i s j H _ I h) λv i ζ=>?_;let{x,j,d,m,o}:=ζ;obtain⟨a,e,⟨_,p⟩,q⟩:=xR o;subst e;cases m;let{_,_,m,_}:=d.list p;calc wpAny_pyIter_list m.isList ({i.heap.objs.size,[i.heap.objs.size],_,_,j,s0,d.kept λb _ e=>tm _ e,Ks a _,{_,tL _ rfl,s0,s0},λb j=>?_,q});let e:b=i.heap.objs.size:=by simpa using j
 subst e;calc d.fpOk (ti _) (d.hok.fresh (ti _)))
def xJ(d:JE X l i):JI X j l (P5 X.K i):=.of (by
 calc λi s j H R I h=>jy (d.to i s j H _ I h) λv d ζ=>?_;let{x,j,i,m,o}:=ζ;obtain⟨a,e,⟨_,p⟩,q⟩:=xR o;subst e;cases m;let{m,_,o,_}:=i.tuple p;calc wpAny_pyIter_tuple (show d.heap.IsTuple a m.toArray from o) ({d.heap.objs.size,[d.heap.objs.size],_,_,j,s0,i.kept λb _ e=>tm _ e,yU a _,{_,tL _ rfl,s0,s0},λb j=>?_,q});let e:b=d.heap.objs.size:=by simpa using j
 subst e;calc i.fpOk (ti _) (i.hok.fresh (ti _)))
def NZ{X:Cx}{j:Expr}{d:List (m9×Obj)}{i:St}{H:Hp}{s:n0}{R:It->Hp->Prop}{E:n9->n0->Prop}{lo a:Int}{t u v:Tok}{tk:Nat}(I:qA X d i H s)(l:-(2^62)<=lo)(m:lo < 2^62)(o:-(2^62)<=a)(p:a < 2^62)
  (q:R (LO lo (a - lo).toNat) H):wpAny (model X.prog X.w) X.A (pyIter (.ref s.heap.objs.size)) (fM X d i j R) E {s with heap:=s.heap.push {cls:=.type "range",data:=.fields #[.int lo t,.int a u,.int 1 v]},toks:=tk}:=by
 calc wpAny_pyIter_range (IsRange.new ..) (small_one l m o p) ?_;let j:qA X d i H {s with heap:=s.heap.push {cls:=.type "range",data:=.fields #[.int lo t,.int a u,.int 1 v]},toks:=tk}:=I.kept λb l e=>tm _ e;refine⟨(s.heap.push {cls:=.type "range",data:=.fields #[.int lo t,.int a u,.int 1 v]}).objs.size,[(s.heap.push {cls:=.type "range",data:=.fields #[.int lo t,.int a u,.int 1 v]}).objs.size],_,_,H,s0,
  j.kept λb l e=>tm _ e,yW _ lo (a - lo).toNat,?_,λb d=>?_,q⟩
 ·let i:lo+((0:Nat):Int)*1=lo:={}
  let l:(((a - lo).toNat:Nat):Int) - ((0:Nat):Int)=Builtin.Range.rangeSize lo a 1:=by rw[rangeSize_one];split<;>omega
  show IsRangeIter _ _ (lo+((0:Nat):Int)*1) ((((a - lo).toNat:Nat):Int) - ((0:Nat):Int)) 1;rw[i,l];exact tL _ rfl
 ·let e:b=(s.heap.push {cls:=.type "range",data:=.fields #[.int lo t,.int a u,.int 1 v]}).objs.size:=by simpa using d
  subst e;calc j.fpOk (ti _) (j.hok.fresh (ti _))
inductive AL(R:It->Hp->Prop)(vs:List V)(H1:Hp):Prop
 | mk (j:Int):vs=[.int j]->(-(2^62)<=j)->(j < 2^62)->(R (LO 0 j.toNat) H1)->AL R vs H1
def P6(a:TA):TI:=λb H R=>a b H λa b=>AL R a b
def Js{X:Cx}{d:Expr}{a:Expr}{b:TA}{p pos:Pos}(i:Gl X "range")(j:X.mg "range"=r4)(l:JA X [a] b)(m:starEach [a] X.env=[(false,eval a X.env)]:=by rfl):JI X d (.Call (.Name "range" p) [a] [] pos) (P6 b):=.of (by
 calc λb s d H R I h=>Call_ (Jq I i j boot_range (PyProof.Rows.callWith_type1 (jy (l.to pos b s d H _ I h) λ_ _ ζ=>?_) m rfl));let{_,_,d,i,b}:=ζ;let{_,e,b,j,q}:=b;subst e;cases i with
 | cons r i=>
  cases i;let{t,rfl}:=r;calc call_range_1 (NZ d {} {} b j (by simpa using q)))
def RI(b:TI)(g:TG)(tb:TS):TS:=λD a H=>b a H λd b=>∃W:Nat->Nat->St->Hp->Prop,(∃m,W 0 m a b)/\∀i m a H,W i m a H->
 (d.stop i H/\D.nx a H)\/(d.go i H/\∃N:St->Hp->Prop,(∀j b,N j b->∃l,l < m/\W (i+1) l j b)/\∀x b,d.yld i H x b->g x a b λa b=>tb {D with nx:=N,ct:=N,bk:=D.nx} a b)
def WH(fp:List m9)(h:o1):List (m9×Obj):=fp.filterMap λb=>(h.get? b).map λa=>(b,a)
def ZV{h:o1}(a:b∈fp)(e:h.get? b=tH o):(b,o)∈WH fp h:=zaf.mpr ({b,a,by rw[e];rfl})
def K9(hp:p∈WH fp h):p.1∈fp/\h.get? p.1=tH p.2:=by
 let{b,a,e}:=zaf.mp hp;cases q:h.get? b with
 | none=>rw[q]at e;cases e
 | some d=>
  rw[q]at e;let d:=tH.inj e;subst d;calc{a,q}
def qA.pinned{fp:List m9}(I:qA X a i H s)(j:∀b∈fp,Yc X a H b)(l:∀b∈fp,∃o,s.heap.get? b=tH o/\∀v,o.data≠.cell v):qA X (a++WH fp s.heap) i H s:=
 I.pins_of λa i=>(tU.mp i).elim (λz=>I.pin a (t3 _ z)) λz=>by
  let{i,e}:=K9 z;let{m,f1,f2,_}:=j a.1 i;let{o,j,d}:=l a.1 i;rw[e]at j;cases j;calc{e,m,f1,f2,d}
def qA.unpinned(I:qA X (a++d) b H s):qA X a b H s:=I.pins_of λa b=>I.pin a (t3 _ (zaa _ b))
def je(hi:JI X U iter wi)(hg:JG X U g)(a:Vm X gu tb)(hs:∀x,foldedSetIterable iter X.env x=pure x:=by intro _;rfl)(hp:PassesOwn (model X.prog X.w) X.A X.env X.xe:=by calc PassesOwn.never)(Y:X.calm=true:=by calc rfl):JS X (.For U iter gu [] pos) (RI wi g tb):=.of (by
 let a:=a.to;calc λy s σ H D I h=>wpAny_For (jy (hi.to y s σ H _ I h) λv s1 h1=>jy h1 λah s2 h2=>?_) hs;obtain⟨it,fp,tn,ai,H2,e,I2,z,ac,f2,W,⟨m0,w0⟩,ae⟩:=h2;subst e;let L:∀{p:Hp},(∀b∈fp,p b=r4)->∀b∈fp,Yc X y p b:=λhn b a=>{hn b a,(f2 b a).2};calc codeAny_forLoop_any (λn s'=>∃i B p,qA X y B p s'/\tn i s'.heap/\(∀b∈fp,p b=r4)/\W i n B p) ?_ m0 ({0,σ,H2,I2,ac,λb a=>(f2 b a).1,w0});rintro n s3 ⟨i,C,J,I3,aa,ab,w3⟩;rcases ae i n C J w3 with ⟨stop,qn⟩ | ⟨go,N,hN,step⟩
 ·calc wpAny_passesOwn hp (jy (z.done X rfl rfl rfl Y i y s3 C J X.xe I3 (L ab) aa stop) λr s4 ⟨hr,I4⟩=>?_);subst hr;exact wpAny_execs_nil ({C,J,I4,qn})
 ·calc wpAny_passesOwn hp (jy (z.item X rfl rfl rfl Y i y s3 C J X.xe I3 (L ab) aa go) λr s4 ζ=>?_);let{u,hr,h4}:=ζ;subst hr;calc wpAny_passesOwn hp (jy h4 λ_ s5 ⟨x,H5,I5,r5,y5,O,af⟩=>wpAny_passesOwn hp (jy (hg.to _ s5 C H5 x u _ (I5.pinned (L af) (z.obj _ _ O)) r5 (step x H5 y5)) λ_ s6 ⟨ag,H6,I6,q6⟩=>wpAny_passesOwn hp (jy (a _ s6 ag H6 _ I6 q6) λf Q q=>?_)));let again:∀{j:St} {l:Hp},qA X (y++WH fp s5.heap) j l Q->N j l->∃m,m < n/\∃i B p,qA X y B p Q/\tn i Q.heap/\(∀b∈fp,p b=r4)/\W i m B p:=λ{j l} o n7=>by
   let{m',hm,w7}:=hN j l n7;calc{m',hm,i+1,j,l,o.unpinned,z.keep _ _ _ O λb a T e=>(o.pin (b,T) (t3 _ (t3 _ (ZV a e)))).1,λb a=>?_,w7};let{T,e,d}:=z.obj _ _ O b a;exact(o.pin (b,T) (t3 _ (t3 _ (ZV a e)))).2.1
  cases f with
  | next=>let{j,l,o,n7}:=q;calc again o n7
  | cont=>let{j,l,o,n7}:=q;calc again o n7
  | brk=>let{j,l,o,q}:=q;calc{j,l,o.unpinned,q}
  | ret v=>let{x7,j,l,o,r7,q}:=q;calc{x7,j,l,o.unpinned,r7,q})
def jz{K:zen}{a:m9}{xs:List V}{g:TG}{tb:TS}{D:QY}{b:St}{H:Hp}(Pv:Nat->St->Hp->Prop)(p:Pv 0 b H)(u:∀i b H,i<=xs.length->Pv i b H->JX K H a xs)
  (v:∀i x b H,xs[i]?=tH x->Pv i b H->g x b H λd j=>tb {D with nx:=Pv (i+1),ct:=Pv (i+1),bk:=D.nx} d j) (hd:∀b H,Pv xs.length b H->D.nx b H):
  ∃W:Nat->Nat->St->Hp->Prop,(∃m,W 0 m b H)/\∀i m b H,W i m b H->
   ((LP K a).stop i H/\D.nx b H)\/((LP K a).go i H/\∃N:St->Hp->Prop,(∀l H',N l H'->∃o,o < m/\W (i+1) o l H')/\∀x H',(LP K a).yld i H x H'->g x b H' λd j=>tb {D with nx:=N,ct:=N,bk:=D.nx} d j):=by
 calc{λi m b H=>m=xs.length - i/\i<=xs.length/\Pv i b H,{xs.length,{},zax _,p},?_};rintro i m b H ⟨rfl,j,d⟩;let q:=u i b H j d;by_cases j:i < xs.length
 ·calc .inr ({{xs,xs[i],q,by simp [j]},Pv (i+1),λl H' l=>{xs.length - (i+1),{},s0,j,l},λx H' y=>?_});let{e,y}:=y;subst e;exact v i x b _ (y xs q) d
 ·let e:i=xs.length:={}
  subst e;calc .inl ({{xs,q,ti _},hd b H d})
def Eh{K:zen}{a:m9}{xs:List V}{g:TG}{tb:TS}{D:QY}{b:St}{H:Hp}(Pv:Nat->St->Hp->Prop)(p:Pv 0 b H)(u:∀i b H,i<=xs.length->Pv i b H->SqT K H a xs)
  (v:∀i x b H,xs[i]?=tH x->Pv i b H->g x b H λd j=>tb {D with nx:=Pv (i+1),ct:=Pv (i+1),bk:=D.nx} d j) (hd:∀b H,Pv xs.length b H->D.nx b H):
  ∃W:Nat->Nat->St->Hp->Prop,(∃m,W 0 m b H)/\∀i m b H,W i m b H->
   ((LZ K a).stop i H/\D.nx b H)\/((LZ K a).go i H/\∃N:St->Hp->Prop,(∀l H',N l H'->∃o,o < m/\W (i+1) o l H')/\∀x H',(LZ K a).yld i H x H'->g x b H' λd j=>tb {D with nx:=N,ct:=N,bk:=D.nx} d j):=by
 calc{λi m b H=>m=xs.length - i/\i<=xs.length/\Pv i b H,{xs.length,{},zax _,p},?_};rintro i m b H ⟨rfl,j,d⟩;let q:=u i b H j d;by_cases j:i < xs.length
 ·calc .inr ({{xs,xs[i],q,by simp [j]},Pv (i+1),λl H' l=>{xs.length - (i+1),{},s0,j,l},λx H' y=>?_});let{e,y}:=y;subst e;exact v i x b _ (y xs q) d
 ·let e:i=xs.length:={}
  subst e;calc .inl ({{xs,q,ti _},hd b H d})
def Xj{lo:Int}{n:Nat}{g:TG}{tb:TS}{D:QY}{a:St}{H:Hp}(Pv:Nat->St->Hp->Prop)(o:Pv 0 a H)
  (p:∀i a H,i < n->Pv i a H->g (.int (lo+i)) a H λb d=>tb {D with nx:=Pv (i+1),ct:=Pv (i+1),bk:=D.nx} b d) (hd:∀a H,Pv n a H->D.nx a H):
  ∃W:Nat->Nat->St->Hp->Prop,(∃m,W 0 m a H)/\∀i m a H,W i m a H->
   ((LO lo n).stop i H/\D.nx a H)\/((LO lo n).go i H/\∃N:St->Hp->Prop,(∀j H',N j H'->∃l,l < m/\W (i+1) l j H')/\∀x H',(LO lo n).yld i H x H'->g x a H' λb d=>tb {D with nx:=N,ct:=N,bk:=D.nx} b d):=by
 calc{λi m a H=>m=n - i/\i<=n/\Pv i a H,{n,{},zax _,o},?_};rintro i m a H ⟨rfl,_,d⟩;by_cases b:i < n
 ·calc .inr ({b,Pv (i+1),λj H' j=>{n - (i+1),{},s0,b,j},λx H' y=>?_});let{e,y}:=y;subst e y;exact p i a _ b d
 ·let e:i=n:={}
  subst e;calc .inl ({ti _,hd a H d})
def Zy{c:TT}{tb:TS}(Pv:St->Hp->Prop)(j:St->Hp->Nat)(o:Pv a H)(p:∀a H,Pv a H->c a H λb d=>if b=true then tb {D with nx:=λi H'=>Pv i H'/\j i H' < j a H,ct:=λi H'=>Pv i H'/\j i H' < j a H,bk:=D.nx} a d else D.nx a d)(mono:∀a H Q l,(∀b d,Q b d->l b d)->c a H Q->c a H l):RC c tb D a H:=by
 exists λm a H=>m=j a H/\Pv a H,{_,s0,o};rintro m a H ⟨rfl,j⟩;calc mono a H _ _ (λb d q=>?_) (p a H j);cases b with
 | true=>calc{_,λi H' ⟨a,d⟩=>{_,d,s0,a},q}
 | false=>exact q
abbrev R2:=V->V->Hp->VK->Prop
def Z8(X:Cx)(f:n9->n9->Sem n9)(r:R2):Prop:=
 ∀(a:List (m9×Obj)) (s:n0) (b:St) (H:Hp) (x y:V) (v u:n9) (Q:VK),qA X a b H s->qV x v->qV y u->r x y H Q->
  wpAny (model X.prog X.w) X.A (f v u) (EP X a b Q) X.xe s
def Q8(X:Cx)(f:n9)(r:List V->Hp->VK->Prop):Prop:=
 ∀(a:List (m9×Obj)) (s:n0) (b:St) (H:Hp) (d:List V) (i:List n9) (Q:VK),qA X a b H s->qN d i->r d H Q->
  wpAny (model X.prog X.w) X.A (call f i) (EP X a b Q) X.xe s
def YM(r:R2)(b tb:TE):TE:=λa H Q=>b a H λx b=>tb a b λy a=>r x y a Q
inductive rI_(C:Int->Int->Prop)(g:Int->Int->V)(x:V)(y:V)(H:Hp)(Q:VK):Prop
 | mk (i:_) (j:_):x=.int i->y=.int j->C i j->(Q (g i j) H)->rI_ C g x y H Q
def rI(C:Int->Int->Prop)(g:Int->Int->V):R2:=λx y H Q=>rI_ C g x y H Q
inductive O7(g:Int->Int->V)(x:V)(y:V)(H:Hp)(Q:VK):Prop
 | mk (i:_) (j:_):x=.int i->y=.int j->(Q (g i j) H)->O7 g x y H Q
def N7(g:Int->Int->V):R2:=λx y H Q=>O7 g x y H Q
def LF(o:PE X a p)(q:PE X b tb){R:V->V->Hp->Prop}(I:qA X l i H s)(h:p i H λx m=>tb i m λy d=>R x y d){f:n9->n9->Sem n9}(z:∀v u j x y d,qA X l i d j->qV x v->qV y u->R x y d->wpAny (model X.prog X.w) X.A (f v u) Q X.xe j):
  wpAny (model X.prog X.w) X.A (eval a X.env) (λv B=>wpAny (model X.prog X.w) X.A (eval b X.env) (λu C=>wpAny (model X.prog X.w) X.A (f v u) Q X.xe C) X.xe B) X.xe s:=by
 calc jy (o l s i H _ I h) λv o ⟨x,m,p,B,C⟩=>jy (q l o i m _ p C) λu j ⟨y,d,i,l,m⟩=>z v u j x y d i B l m
def jc(d:Z8 X (binaryOp op) r)(i:JE X a j)(l:JE X b tb):JE X (.BinOp a op b pos) (YM r j tb):=.of (by
 calc λj s m H Q I h=>wpAny_BinOp (LF i.to l.to I h λv u i x y l o p z q=>d j i m l x y v u Q o p z q))
def Iu{X:Cx}{f:n9->n9->Sem n9}{C:Int->Int->Prop}{g:Int->Int->Int}(rule:∀(i j:Int) (t u:Tok) (s:n0) (Q:n9->n0->Prop) (E:n9->n0->Prop),C i j->Q (.int (g i j) s.toks) {s with toks:=s.toks+1}->wpAny (model X.prog X.w) X.A (f (.int i t) (.int j u)) Q E s):
  Z8 X f (rI C λi j=>.int (g i j)):=by
 intro _ s _ H x y v u Q I a b h;let{i,j,rfl,rfl,d,q}:=h;let{t,rfl}:=a;let{a,rfl}:=b;calc rule i j t a s _ _ d ({.int (g i j),H,I.tok _,{_,s0},q})
def Mr{X:Cx}{f:n9->n9->Sem n9}{g:Int->Int->Int}(rule:∀(i j:Int) (t u:Tok) (s:n0) (Q:n9->n0->Prop) (E:n9->n0->Prop),Q (.int (g i j) s.toks) {s with toks:=s.toks+1}->wpAny (model X.prog X.w) X.A (f (.int i t) (.int j u)) Q E s):
  Z8 X f (N7 λi j=>.int (g i j)):=by
 intro _ s _ H x y v u Q I a b h;let{i,j,rfl,rfl,q}:=h;let{t,rfl}:=a;let{a,rfl}:=b;calc rule i j t a s _ _ ({.int (g i j),H,I.tok _,{_,s0},q})
def Dd{X:Cx}{f:n9->n9->Sem n9}{g:Int->Int->Bool}(rule:∀(i j:Int) (t u:Tok) (s:n0) (Q:n9->n0->Prop) (E:n9->n0->Prop),Q (.bool (g i j)) s->wpAny (model X.prog X.w) X.A (f (.int i t) (.int j u)) Q E s):
  Z8 X f (N7 λi j=>.bl (g i j)):=by
 intro _ s _ H x y v u Q I a b h;let{i,j,rfl,rfl,q}:=h;let{t,rfl}:=a;let{a,rfl}:=b;calc rule i j t a s _ _ ({.bl (g i j),H,I,s0,q})
def f7(i j:Int):Prop:=0 < j/\j < 1073741824
def Sv(i j:Int):Prop:=0<=j/\j<=1000000/\i.natAbs < 2^64
def LR(i j:Int):Prop:=(-(2^64) < i/\i < 2^64)\/(-(2^64) < j/\j < 2^64)
def LR.ok(h:LR i j):IntMulOk i j:=by
 rcases h with ⟨a,b⟩ | ⟨a,b⟩
 ·exact .of_left (intBits_le_64 a b)
 ·calc .of_right (intBits_le_64 a b)
def yT(k:Nat):(0:Int)<=2^k:=by
 rw[two_pow_cast];calc zcP _
def Zr:Z8 X (binaryOp .Add) (N7 λi j=>.int (i+j)):=Mr λ_ _ _ _ _ _ _ q=>add_int q
def Ik:Z8 X (binaryOp .Sub) (N7 λi j=>.int (i - j)):=Mr λ_ _ _ _ _ _ _ q=>sub_int q
def Zq:Z8 X (binaryOp .Mult) (rI LR λi j=>.int (i*j)):=Iu λ_ _ _ _ _ _ _ a q=>mul_int q a.ok
def Db:Z8 X (binaryOp .FloorDiv) (rI f7 λi j=>.int (i / j)):=Iu λi j _ _ _ _ _ a q=>by
 let b:=a.1;let b:=a.2;calc floordiv_int {} (by rwa [zch i {}]) (.inl (PyProof.noPylong_small {}))
def ZR:Z8 X (binaryOp .Mod) (rI (λ_ j=>0 < j) λi j=>.int (i % j)):=Iu λi j _ _ _ _ _ a q=>by
 let b:=a;calc mod_int' {} (by rwa [Int.fmod_eq_emod_of_nonneg i {}])
def Io:Z8 X (binaryOp .Pow) (rI Sv λi j=>.int (i^j.toNat)):=Iu λ_ _ _ _ _ _ _ a q=>pow_int_small a.1 a.2.1 a.2.2 q
def Im:Z8 X (binaryOp .LShift) (rI Sv λi j=>.int (i*2^j.toNat)):=Iu λ_ _ _ _ _ _ _ a q=>lshift_int_small a.1 a.2.1 a.2.2 q
def Il:Z8 X (binaryOp .RShift) (rI (λ_ j=>0<=j) λi j=>.int (i / 2^j.toNat)):=Iu λi j _ _ _ _ _ a q=>
 rshift_int a (by rwa [zch i (yT _)])
def Ir:Z8 X (binaryOp .BitAnd) (N7 λi j=>.int (Builtin.bitAnd i j)):=Mr λ_ _ _ _ _ _ _ q=>and_int q
def Pi:Z8 X (binaryOp .BitOr) (N7 λi j=>.int (Builtin.bitOr i j)):=Mr λ_ _ _ _ _ _ _ q=>or_int q
def xt:Z8 X (binaryOp .BitXor) (N7 λi j=>.int (Builtin.bitXor i j)):=Mr λ_ _ _ _ _ _ _ q=>xor_int q
def OF:V->V->Bool
 | .non,.non=>true | .non,.int _=>true | .int _,.non=>true | .non,.bl _=>true | .bl _,.non=>true | .non,.str _=>true | .str _,.non=>true
 | .int _,.int _=>true | .bl _,.bl _=>true | .str _,.str _=>true | .byt _,.byt _=>true
 | .int _,.str _=>true | .str _,.int _=>true | .bl _,.str _=>true | .str _,.bl _=>true
 | _,_=>false
def T4:R2:=λx y H Q=>OF x y=true/\Q (.bl (decide (x=y))) H
def rNe:R2:=λx y H Q=>OF x y=true/\Q (.bl (!decide (x=y))) H
def u8:decide (V.int i=V.int j)=(i==j):=by
 rw[zaB];simp
def Ba:decide (V.bl i=V.bl j)=(i==j):=by
 rw[zaB];simp
def u7:decide (V.str i=V.str j)=(i==j):=by
 rw[zaB];simp
def u9:decide (V.byt i=V.byt j)=(i.toList==j.toList):=by
 rw[zaB];cases i;cases j;simp
def jw{Q:VK}(I:qA X a b H s)(q:Q (.bl k) H)(e:k=d):EP X a b Q (.bool d) s:=by
 subst e;calc{.bl k,H,I,s0,q}
def jU:Z8 X (compareOp .Eq) T4:=by
 intro _ s _ H x y v u Q I l a h;let{j,q}:=h;cases x with
 | non=>
  cases l;cases y with
  | non=>cases a;calc PySem.EqNone.eq_none_none (jw I q {})
  | bl b=>cases a;calc PySem.EqNone.eq_none_bool (jw I q {})
  | int b=>let{d,rfl}:=a;calc PySem.EqNone.eq_none_int (jw I q {})
  | str b=>let{d,rfl}:=a;calc PySem.EqNone.eq_none_str (jw I q {})
  | _=>calc absurd (show false=true from j) tN
 | bl i=>
  cases l;cases y with
  | non=>cases a;calc PySem.EqNone.eq_bool_none (jw I q {})
  | bl b=>cases a;calc eq_bool (jw I q Ba)
  | str b=>let{d,rfl}:=a;calc PySem.EqMixed.eq_bool_str (jw I q {})
  | _=>calc absurd (show false=true from j) tN
 | int i=>
  let{t,rfl}:=l;cases y with
  | non=>cases a;calc PySem.EqNone.eq_int_none (jw I q {})
  | int b=>let{d,rfl}:=a;calc eq_int (jw I q u8)
  | str b=>let{d,rfl}:=a;calc PySem.EqMixed.eq_int_str (jw I q {})
  | _=>calc absurd (show false=true from j) tN
 | str i=>
  let{t,rfl}:=l;cases y with
  | non=>cases a;calc PySem.EqNone.eq_str_none (jw I q {})
  | bl b=>cases a;calc PySem.EqMixed.eq_str_bool (jw I q {})
  | int b=>let{d,rfl}:=a;calc PySem.EqMixed.eq_str_int (jw I q {})
  | str b=>let{d,rfl}:=a;calc eq_str (jw I q u7)
  | _=>calc absurd (show false=true from j) tN
 | byt i=>
  let{t,rfl}:=l;cases y with
  | byt b=>let{d,rfl}:=a;calc PySem.W.eq_bytes (jw I q u9)
  | _=>calc absurd (show false=true from j) tN
 | _=>cases y<;>calc absurd (show false=true from j) tN
def ZD:Z8 X (compareOp .NotEq) rNe:=by
 intro _ s _ H x y v u Q I l a h;let{j,q}:=h;cases x with
 | non=>
  cases l;cases y with
  | non=>cases a;calc PySem.EqNone.ne_none_none (jw I q {})
  | bl b=>cases a;calc PySem.EqNone.ne_none_bool (jw I q {})
  | int b=>let{d,rfl}:=a;calc PySem.EqNone.ne_none_int (jw I q {})
  | str b=>let{d,rfl}:=a;calc PySem.EqNone.ne_none_str (jw I q {})
  | _=>calc absurd (show false=true from j) tN
 | bl i=>
  cases l;cases y with
  | non=>cases a;calc PySem.EqNone.ne_bool_none (jw I q {})
  | bl b=>cases a;calc ne_bool (jw I q (congrArg not Ba))
  | str b=>let{d,rfl}:=a;calc PySem.EqMixed.ne_bool_str (jw I q {})
  | _=>calc absurd (show false=true from j) tN
 | int i=>
  let{t,rfl}:=l;cases y with
  | non=>cases a;calc PySem.EqNone.ne_int_none (jw I q {})
  | int b=>let{d,rfl}:=a;calc ne_int (jw I q (congrArg not u8))
  | str b=>let{d,rfl}:=a;calc PySem.EqMixed.ne_int_str (jw I q {})
  | _=>calc absurd (show false=true from j) tN
 | str i=>
  let{t,rfl}:=l;cases y with
  | non=>cases a;calc PySem.EqNone.ne_str_none (jw I q {})
  | bl b=>cases a;calc PySem.EqMixed.ne_str_bool (jw I q {})
  | int b=>let{d,rfl}:=a;calc PySem.EqMixed.ne_str_int (jw I q {})
  | str b=>let{d,rfl}:=a;calc ne_str (jw I q (congrArg not u7))
  | _=>calc absurd (show false=true from j) tN
 | byt i=>
  let{t,rfl}:=l;cases y with
  | byt b=>let{d,rfl}:=a;calc PySem.W.ne_bytes (jw I q (congrArg not u9))
  | _=>calc absurd (show false=true from j) tN
 | _=>cases y<;>calc absurd (show false=true from j) tN
def Jc:Z8 X (compareOp .Lt) (N7 λi j=>.bl (decide (i < j))):=Dd λ_ _ _ _ _ _ _ q=>lt_int q
def uJ:Z8 X (compareOp .LtE) (N7 λi j=>.bl (decide (i<=j))):=Dd λ_ _ _ _ _ _ _ q=>le_int q
def JU:Z8 X (compareOp .Gt) (N7 λi j=>.bl (decide (j < i))):=Dd λ_ _ _ _ _ _ _ q=>gt_int q
def uK:Z8 X (compareOp .GtE) (N7 λi j=>.bl (decide (j<=i))):=Dd λ_ _ _ _ _ _ _ q=>ge_int q
def K4:Z8 X (compareOp .In) (λx y H Q=>∃i j,x=.str i/\y=.str j/\Q (.bl (!(Builtin.Str.occurrences j i 0 j.length 1).isEmpty)) H):=by
 intro _ s _ H x y v u Q I a b h;let{i,j,rfl,rfl,q}:=h;let{t,rfl}:=a;let{_,rfl}:=b;calc in_str (jw I q rfl)
def C8:Z8 X (compareOp .IsNot) (λx y H Q=>y=.non/\Q (.bl (!decide (x=.non))) H):=by
 intro _ s _ H x y v u Q I a b h;let{rfl,q}:=h;cases b;calc isnot_none_gen (jw I q ?_);cases x<;>first
  | (cases a;rfl)
  | (let{t,rfl}:=a;rfl)
def MY(b:Expr)(h:op≠.In:=by decide)(a:op≠.NotIn:=by decide):behindInMarks op b=false:=WR b h a
def jf(d:Z8 X (compareOp op) r)(i:JE X a j)(l:JE X b tb)(m:behindInMarks op b=false:=by calc MY _):JE X (.Compare a [op] [b] pos) (YM r j tb):=.of (by
 calc λj s o H Q I h=>wpAny_Compare1 (LF i.to l.to I h λv u i x y l p z B q=>d j i o l x y v u Q p z B q) m)
def Yh(t:TE):TT:=λa H Q=>t a H λx a=>∃k,x=.bl k/\Q k a
def qp(j:Z8 X (compareOp op) r)(l:JE X a d)(m:JE X b tb)(o:behindInMarks op b=false:=by calc MY _):JT X (.Compare a [op] [b] pos) (Yh (YM r d tb)):=.of (by
 refine λd s i H Q I h=>wpAny_isTrue_Compare1 (jy (l.to d s i H _ I h) λv l ⟨x,p,q,B,C⟩=>jy (m.to d l i p _ q C) λu l ⟨y,m,p,q,C⟩=>
  jy (j d l i m x y v u _ p B q C) λc _ ⟨z,d,i,j,k,e,l⟩=>?_) o
 subst e;cases j;calc wpAny_truthy_bool ({d,i,l}))
def Xa:(zes:Nat) < 2^63:=by rw[sizeLine_eq];decide
def ZS:Z8 X (binaryOp .Add) (λx y H Q=>∃i j,x=.str i/\y=.str j/\i.length+j.length<=zes/\Q (.str (i++j)) H):=by
 intro _ s _ H x y v u Q I a b h;let{i,j,rfl,rfl,d,q}:=h;let{t,rfl}:=a;let{a,rfl}:=b;calc add_str (λa tk=>{.str (i++j),H,I.tok _,{_,s0},q}) d
def Jm(r:qN [x] us):∃u,us=[u]/\qV x u:=by
 cases r with
 | cons a b=>cases b;calc{_,s0,a}
def wq(r:qN [x,y] us):∃u a,us=[u,a]/\qV x u/\qV y a:=by
 cases r with
 | cons a b=>
  cases b with
  | cons b d=>cases d;calc{_,_,s0,a,b}
def GZ{X:Cx}(a:X.calm=true):Q8 X (.builtin "max") (λxs H Q=>∃i j,xs=[.int i,.int j]/\Q (.int (if j > i then j else i)) H):=by
 intro _ s _ H xs _ Q I r h;let{i,j,rfl,q}:=h;obtain⟨u,_,rfl,⟨t,rfl⟩,⟨_,rfl⟩⟩:=wq r;calc max_two_ints (I.ok.hd a) λ_ tk k=>{_,H,I.kept k,?_,q};by_cases a:j > i
 ·rw[if_pos a,if_pos a];exact{_,s0}
 ·rw[if_neg a,if_neg a];calc{_,s0}
def Xn:Q8 X (.type "int") (λxs H Q=>(∃i,xs=[.int i]/\Q (.int i) H)\/∃k,xs=[.bl k]/\Q (.int (if k then 1 else 0)) H):=by
 intro _ s _ H xs _ Q I r h;rcases h with ⟨i,rfl,q⟩ | ⟨k,rfl,q⟩
 ·let{u,rfl,t,rfl}:=Jm r;exact call_int_int ({.int i,H,I,{_,s0},q})
 ·let{u,rfl,a}:=Jm r;cases a;exact call_int_bool ({.int (if k then 1 else 0),H,I.tok _,{_,s0},q})
structure we(h:o1)(x dx C:m9)(mA:Str->Option n9):Prop where
 obj:h.get? x=tH (zby C dx)
 ns:h.Ns1 dx mA
 ne:dx≠x
def Y8{h:o1}(n:h.Ns1 d i):∃b,h.get? d=tH b/\∀c_,zcQ c_ b=tH (i c_):=by
 let{j,l,x,m,hd,o,_,p}:=n;calc{j,m,λc_=>?_};let e:=p c_;unfold nsFind findBy at e;rw[<-Array.find?_toList]at e;unfold zcQ;rw[hd]
 try dsimp only
 split
 ·rename_i y q;rw[q]at e;exact congrArg tH e
 ·rename_i q;rw[q]at e;let a:l.toList.any (·.refKey)=false:=by
   rw[List.any_eq_false];intro y u;let{z,t,v}:=o y (Array.mem_toList_iff.mp u);simp [DictEntry.refKey,v]
  rw[if_neg (by rw[a];calc tN)];calc congrArg tH e
def we.look(I:we h x b C d):∃a,PySem.W.InstAt h x (zby C b) C (tH a)/\∀c_,zcQ c_ a=tH (d c_):=
 let ⟨a,b,d⟩:=Y8 I.ns
 ({a,{I.obj,s0,s0,b},d})
def Ef{s:n0}{K:zen}{Q:n9->n0->Prop}(X:K.In s.heap)(I:we s.heap x m C a)(b:zbG K C c_=true)(d:zbw K C=true)(i:t9 K (.ref C) c_=tH r4)(j:a c_=tH v)(l:zej v=true)(h:Q v {s with toks:=s.toks+1}):
  wpAny (model prog w) A (getAttr (.ref x) c_ gI) Q E s:=by
 let{_,a,m}:=I.look;calc PySem.W.get_value X a (zcK b).1 (PySem.W.findObj_own d i rfl (by rw[m,j])) l h
def AS{s:n0}{K:zen}{Q:n9×List n9->n0->Prop}(X:K.In s.heap)(I:we s.heap x l C b)(a:zbG K C c_=true)(d:t9 K (.ref C) c_=tH (tH (.ref f)))(i:zbB K (.ref f)=true)(j:b c_=r4)(h:Q (.ref f,[.ref x]) s):
  wpAny (model prog w) A (getMethod (.ref x) c_ m) Q E s:=by
 let{b,l,m}:=I.look;calc PySem.W.method_fn X l (zcK a).1 (zcK a).2 d (beq_iff_eq.mp i) (by show (zcQ c_ b).map (·.isSome)=tH false;rw[m,j];rfl) h
def Ch{s:n0}{K:zen}{Q:Unit->n0->Prop}(X:K.In s.heap)(I:we s.heap x d C i)(j:t9 K (.ref C) "__setattr__"=tH (tH (.builtin "object.__setattr__")))(hp:zcb K C=true)(l:zdx K C c_=tH r4)(m:zbw K C=true)(o:PySem.Within i ns)(hsz:ns.length<=zes)(h:∀a,we a x d C (λy=>if y=c_ then tH v else i y)->Heap.SameBut d s.heap a->Q () {s with heap:=a,toks:=s.toks+2}):
  wpAny (model prog w) A (setAttr (.ref x) c_ v) Q E s:=by
 let{_,d,_}:=I.look;calc PySem.W.set_plain X d j (PySem.W.osa_open X d hp l λb=>?_);let{_,d,i}:=PySem.W.any_some m;calc zep (zeq (zep (zep (wpAny_loadPart I.obj (zep (PySem.W.Looks.here (PySem.W.looks_clsIn X d) ?_))))));rw[i];calc zeq (zep (zeq (zep (wpAny_nsSet1 I.ns λa a d=>?_))));let{_,_,_,i,j,l}:=a.count (PySem.Within.cons c_ v o);calc zep (wpAny_lookBehind i (by rw[j];calc pastItsLine_dict (tP l (by rw[t7];omega))) ?_);calc zeq (h _ ({(d.2 _ (Ne.symm I.ne)).trans I.obj,a,I.ne}) d)
def M6{A:o2}{s:n0}{K:zen}(X:K.In s.heap)(b:zcp K C=true)(i:t9 K (.ref C) "__init__"=tH (tH (.ref f)))(j:PySem.W.typeIn K (.ref f)=tH (.type "function")) (h:codeAny (model prog w) (A.under (.builtin "type.__call__" ({.ref C::vs,a}))) (.call (.ref f) ({.ref (s.heap.objs.size+1)::vs,a})) (PySem.W.InitBack (s.heap.objs.size+1) R)
   {s with heap:=(s.heap.push zbj).push (zby C s.heap.objs.size)}):
  codeAny (model prog w) A (.call (.ref C) ({vs,a})) R s:=by
 let{_,g,d,t,os}:=s;calc PySem.W.make_core (PySem.W.makes_of X b) (zdG X i) (λself=>PySem.W.bind_fn X self j) (.inl rfl) h
def ZN(f:Str)(v:V):List (Str×V)->List (Str×V)
 | []=>[(f,v)]
 | (g,x)::r=>if g=f then (g,v)::r else (g,x)::ZN f v r
def Xx(f g:Str)(v:V):∀fs:List (Str×V),(ZN f v fs).lookup g=if g=f then tH v else fs.lookup g
 | []=>by
  show zbi g [(f,v)]=_;by_cases h:g=f
  ·let a:=beq_iff_eq.mpr h;simp only[zbi,a,if_pos h]
  ·let a:=beq_eq_false_iff_ne.mpr h;simp only[zbi,a,if_neg h]
 | (k,x)::r=>by
  rw[show ZN f v ((k,x)::r)=(if k=f then (k,v)::r else (k,x)::ZN f v r) from rfl];by_cases b:k=f
  ·rw[if_pos b];by_cases h:g=k
   ·let a:=beq_iff_eq.mpr h;simp only[zbi,a,if_pos (h.trans b)]
   ·let a:=beq_eq_false_iff_ne.mpr h;simp only[zbi,a,if_neg (λe:g=f=>h (e.trans b.symm))]
  ·rw[if_neg b];by_cases h:g=k
   ·let a:=beq_iff_eq.mpr h;simp only[zbi,a,if_neg (λe:g=f=>b (h.symm.trans e))]
   ·let a:=beq_eq_false_iff_ne.mpr h;simp only[zbi,a];calc(Xx f g v r)
def Xc(f:Str)(v:V):∀fs:List (Str×V),f∈(ZN f v fs).map (·.1)/\∀g,g∈fs.map (·.1)->g∈(ZN f v fs).map (·.1)
 | []=>{by simp [ZN],λg h=>by simp at h}
 | (k,x)::r=>by
  let{b,d}:=Xc f v r;rw[show ZN f v ((k,x)::r)=(if k=f then (k,v)::r else (k,x)::ZN f v r) from rfl];by_cases a:k=f
  ·rw[if_pos a];subst a;exact{{},λg h=>by simpa using h}
  ·rw[if_neg a];refine{?_,λg h=>?_}
   ·rw[tR];exact tI _ b
   ·rw[tR]at h ⊢;rcases tO.mp h with e | e
    ·exact tO.mpr (.inl e)
    ·calc tI _ (d g e)
def Xy(f:Str)(v:V):∀fs:List (Str×V),(ZN f v fs).length<=fs.length+1
 | []=>by simp [ZN]
 | (k,x)::r=>by
  let a:=Xy f v r;rw[show ZN f v ((k,x)::r)=(if k=f then (k,v)::r else (k,x)::ZN f v r) from rfl];by_cases a:k=f
  ·rw[if_pos a,t7,t7];omega
  ·rw[if_neg a,t7,t7];omega
def ZK.some_of(r:ZK (tH v) o):∃u,o=tH u/\qV v u:=by
 cases o with
 | none=>calc(show False from r).elim
 | some u=>calc{u,s0,r}
def ZK.none_of(r:ZK r4 o):o=r4:=by
 cases o with
 | none=>rfl
 | some u=>calc(show False from r).elim
def Ub(r:qV v u):zej u=true:=by
 cases v with
 | non=>cases (show u=Value.none from r);rfl
 | bl b=>cases (show u=Value.bool b from r);rfl
 | int i=>let{t,e}:=(show ∃t,u=Value.int i t from r);cases e;rfl
 | str x=>let{t,e}:=(show ∃t,u=Value.str x t from r);cases e;rfl
 | byt b=>let{t,e}:=(show ∃t,u=Value.bytes b t from r);cases e;rfl
 | flt b=>let{t,e}:=(show ∃t,u=Value.float b t from r);cases e;rfl
 | ref a=>cases (show u=Value.ref a from r);rfl
 | ty n=>cases (show u=Value.type n from r);rfl
def X8(hok:Z3 P w H h)(e:H a=tH (.ins C i fs)):∃b,we h a i C b/\(∀f,ZK (fs.lookup f) (b f))/\PySem.Within b (fs.map (·.1))/\fs.length<=1000/\H i=tH (.own a):=by
 let{d,z,ne,j,b,n,r,q}:=(show qL P w H h a (.ins C i fs) from hok a _ e);exact{b,{j,n,ne},r,q,z,d}
structure Wf(K:zen)(C:m9):Prop where
 pg:zbG K C Str.empty=true
 hd:zbw K C=true
 po:zcb K C=true
 sa:t9 K (.ref C) "__setattr__"=tH (tH (.builtin "object.__setattr__"))
def Wf.get{K:zen}{C:m9}(c:Wf K C)(f:Str):zbG K C f=true:=c.pg
def Qy(K:zen)(C:m9)(f:Str):Prop:=t9 K (.ref C) f=tH r4
def Qy.taker{K:zen}{C:m9}{f:Str}(n:Qy K C f):zdx K C f=tH r4:=by
 unfold zdx;rw[show t9 K (.ref C) f=tH r4 from n];rfl
structure Vz(K:zen)(C:m9)(m:Str)(f:m9):Prop where
 at_:t9 K (.ref C) m=tH (tH (.ref f))
 fn:zbB K (.ref f)=true
 kp:zaM K (.ref f)=true
def xU{Q:n9->n0->Prop}(I:qA X i j H s)(e:H a=tH (.ins C m fs))(c:Wf X.K C)(n:Qy X.K C f)(l:fs.lookup f=tH v)(h:∀u d,qA X i j H d->qV v u->Q u d):wpAny (model X.prog X.w) A (getAttr (.ref a) f b) Q E s:=by
 let{_,O,r,_,_,_}:=X8 I.hok e;let{u,hu,d}:=ZK.some_of (by rw[<-l];calc r f);calc Ef I.kIn O (c.get f) c.hd n hu (Ub d) (h u _ (I.tok _) d)
def Ju{Q:n9×List n9->n0->Prop}(I:qA X b d H s)(e:H a=tH (.ins C i fs))(c:Wf X.K C)(k:Vz X.K C m g)(l:fs.lookup m=r4)(h:Q (.ref g,[.ref a]) s):wpAny (model X.prog X.w) A (getMethod (.ref a) m j) Q E s:=by
 let{_,O,r,_,_,_}:=X8 I.hok e;calc AS I.kIn O (c.get m) k.at_ k.fn (ZK.none_of (by rw[<-l];calc r m)) h
def xa{Q:Unit->n0->Prop}(I:qA X i j H s)(e:H a=tH (.ins C l fs))(c:Wf X.K C)(n:Qy X.K C f)(m:fs.length < 1000)(o:qV y u)(h:∀d,qA X i j (upd H a (.ins C l (ZN f y fs))) d->Q () d):wpAny (model X.prog X.w) A (setAttr (.ref a) f u) Q E s:=by
 let{i,O,r,j,_,l}:=X8 I.hok e;calc Ch I.kIn O c.sa c.po n.taker c.hd j (by rw[ta,sizeLine_eq];omega) λ_ d m=>h _ ?_;calc I.write (e▸True.intro) (.inr l) (λb q o z=>(m.2 b o).trans z) (let ⟨m,_,_,o,_⟩:=d.ns;({m,o})) ?_;refine{(qf O.ne)▸l,?_,O.ne,d.obj,_,d.ns,λg=>?_,λg d=>?_}
 ·let:=Xy f y fs;omega
 ·show ZK ((ZN f y fs).lookup g) (if g=f then tH u else i g);rw[Xx];by_cases q:g=f
  ·rwa [if_pos q,if_pos q]
  ·rw[if_neg q,if_neg q];exact r g
 ·by_cases q:g=f
  ·rw[q];exact(Xc f y fs).1
  ·calc(Xc f y fs).2 g (j g λz=>d ?_);show (if g=f then tH u else i g)=r4;rwa [if_neg q]
def qA.made(I:qA X a d H s):qA X a d (upd (upd H s.heap.objs.size (.own (s.heap.objs.size+1))) (s.heap.objs.size+1) (.ins C s.heap.objs.size []))
  {s with heap:=(s.heap.push zbj).push (zby C s.heap.objs.size)}:=by
 let a:(s.heap.push zbj).get? s.heap.objs.size=tH zbj:=tL s.heap rfl;let d:((s.heap.push zbj).push (zby C s.heap.objs.size)).get? (s.heap.objs.size+1)=tH (zby C s.heap.objs.size):=by
  let:=tL (s.heap.push zbj) (o:=zby C s.heap.objs.size) rfl;rwa [zbe]at this
 let i:=I.laid (o:=.own (s.heap.objs.size+1)) (t':=s.toks) (λb u q=>tm _ q) (ti _) ({_,a});calc i.laid (λb u q=>tm _ q) (zcN (zbe _ _)) ?_;let ne:s.heap.objs.size≠s.heap.objs.size+1:=tX (zaZ _);calc{by rw[qf ne,qa],zax _,ne,d,λ_=>r4,(Heap.Ns1.of_empty ({zbj,#[],_,a,s0,(λe a=>absurd a {}),λ_=>rfl})).at λ_ q=>tm _ q,λ_=>True.intro,λy a=>absurd rfl a}
def Kd(a:attributeBase e f env (eval e env)=eval e env)(h:wpAny (model prog w) A (eval e env) (λo b=>wpAny (model prog w) A (getAttr o f true) Q E b) E s):wpAny (model prog w) A (eval (.Attribute e f pos) env) Q E s:=
 Attribute_any_ h (by rw[arm_eval_Attribute,a])
inductive ES(K:zen)(f:Str)(Q:VK)(H1:Hp)(a:m9):Prop
 | mk (C:_) (dx:_) (fs:_) (v:_):H1 a=tH (.ins C dx fs)->Wf K C->Qy K C f->fs.lookup f=tH v->Q v H1->ES K f Q H1 a
def Ob(K:zen)(b:TE)(f:Str):TE:=λd H Q=>b d H λx b=>oR x λa=>ES K f Q b a
inductive Fy(K:zen)(f:Str)(D:QY)(σ:St)(y:V)(x:V)(H2:Hp):Prop
 | mk (a:_) (C:_) (dx:_) (fs:_):x=.ref a->H2 a=tH (.ins C dx fs)->Wf K C->Qy K C f->(fs.length < 1000)->(D.nx σ (upd H2 a (.ins C dx (ZN f y fs))))->Fy K f D σ y x H2
def TX(K:zen)(b d:TE)(f:Str):TS:=λD a H=>d a H λy d=>b a d λx b=>Fy K f D a y x b
def Q1(b:JE X e d)(i:attributeBase e f X.env (eval e X.env)=eval e X.env):JE X (.Attribute e f pos) (Ob X.K d f):=.of (by
 calc λd s j H Q I h=>Kd i (jy (b.to d s j H _ I h) λu _ ⟨x,b,d,i,j⟩=>?_);let{a,ex,_,_,fs,v,l,c,n,m,q}:=xR j;subst ex;obtain rfl:u=Value.ref a:=i;calc xU d l c n m λ_ _ d i=>{v,b,d,i,q})
def U5{pos:Pos}(i:JE X o b)(j:JE X gf d)(l:swapsWith gf (tH (.Attribute o f m)) pos.line X.env=pure false):JS X (.Assign [.Attribute o f m] gf pos) (TX X.K b d f):=.of (by
 calc λd s b H D I h=>plainObj_wpAny_Assign_Attribute (jy (j.to d s b H _ I h) λu j ⟨y,m,p,v,q⟩=>jy (i.to d j b m _ p q) λd _ ⟨x,_,i,j,a,_,_,fs,ex,m,c,n,p,z⟩=>?_) l;subst ex;obtain rfl:d=Value.ref a:=j;calc xa i m c n p v λ_ d=>{b,_,d,z})
inductive YI(K:zen)(H:Hp):V->n9->Prop where
 | non:YI K H .non (.type "NoneType")
 | bl (x:Bool):YI K H (.bl x) (.type "bool")
 | int (i:Int):YI K H (.int i) (.type "int")
 | str (x:Str):YI K H (.str x) (.type "str")
 | flt (x:UInt64):YI K H (.flt x) (.type "float")
 | lst {a:m9} {xs:List V} (e:H a=tH (.lst xs)):YI K H (.ref a) (.type "list")
 | frz {a:m9} {o:Obj} {xs:List V} (e:H a=tH (.frz o (.lst xs))):YI K H (.ref a) (.type "list")
 | tup {a:m9} {xs:List V} (e:H a=tH (.tup xs)):YI K H (.ref a) (.type "tuple")
 | dK {a:m9} {kvs:List (qJ×V)} (e:H a=tH (.dK kvs)):YI K H (.ref a) (.type "dict")
 | dT {a:m9} {kvs:List (List qJ×V)} (e:H a=tH (.dT kvs)):YI K H (.ref a) (.type "dict")
 | ins {a C dx:m9} {fs:List (Str×V)} (e:H a=tH (.ins C dx fs)) (cl:Wf K C) (ha:t9 K (.ref C) "__class__"=tH (tH (.builtin "object.__class__")))
  (hn:zcc K (.builtin "object.__class__") "__get__"=tH (tH (.builtin "getset_descriptor.__get__"))) (mq:zcq K (.builtin "object.__class__")=tH true)
  (hm:zcn K C (.type "object")=tH true):YI K H (.ref a) (.ref C)
def Gp{Q:n9->n0->Prop}(I:qA X j l H s)(d:qV x u)(ty:YI X.K H x t)(e:zak X.K t c=tH b)(h:∀tk,Q (.bool b) {s with toks:=tk}):
  wpAny (model X.prog X.w) A (call (.builtin "isinstance") [u,c]) Q E s:=by
 cases ty with
 | non=>cases (show u=Value.none from d);calc zaR PySem.W.kitx_none I.kIn True.intro e (λz=>nomatch z) h
 | bl y=>cases (show u=Value.bool y from d);calc zaR PySem.W.kitx_bool I.kIn True.intro e (λz=>nomatch z) h
 | int i=>let{t,q}:=(show ∃t,u=Value.int i t from d);cases q;calc zaR PySem.W.kitx_int I.kIn True.intro e (λz=>nomatch z) h
 | str y=>let{t,q}:=(show ∃t,u=Value.str y t from d);cases q;calc zaR PySem.W.kitx_str I.kIn True.intro e (λz=>nomatch z) h
 | flt y=>let{t,q}:=(show ∃t,u=Value.float y t from d);cases q;calc zaR PySem.W.kitx_float I.kIn True.intro e (λz=>nomatch z) h
 | @lst a m j=>
  cases (show u=Value.ref a from d);let{_,_,n,_,l}:=(show qL X.prog X.w H s.heap a (.lst m) from I.hok a _ j);calc zaR zec I.kIn ({_,l,s0}) e (λz=>nomatch z) h
 | @frz a o m j=>
  cases (show u=Value.ref a from d);let{_,_,_,n,_,l}:=(show qL X.prog X.w H s.heap a (.frz o (.lst m)) from I.hok a _ j);calc zaR zec I.kIn ({_,l,s0}) e (λz=>nomatch z) h
 | @tup a m j=>
  cases (show u=Value.ref a from d);let{_,_,_,v}:=(show qL X.prog X.w H s.heap a (.tup m) from I.hok a _ j);let{o,l,p,_}:=v;calc zaR PySem.W.kitx_tuple I.kIn ({o,l,p}) e (λz=>nomatch z) h
 | @dK a kvs j=>
  cases (show u=Value.ref a from d);let{_,_,_,_,v}:=(show qL X.prog X.w H s.heap a (.dK kvs) from I.hok a _ j);let{o,B,C,l,p,_}:=v;calc zaR zcZ I.kIn ({o,l,p.1}) e (λz=>nomatch z) h
 | @dT a kvs j=>
  cases (show u=Value.ref a from d);let{_,_,m,_,o,B,C,l,p,_}:=(show qL X.prog X.w H s.heap a (.dT kvs) from I.hok a _ j);calc zaR zcZ I.kIn ({o,l,p.1}) e (λz=>nomatch z) h
 | @ins a B C fs j l m o p v=>
  cases (show u=Value.ref a from d);let{_,O,_}:=X8 I.hok j;let{_,d,_}:=O.look;exact zaR (PySem.W.kitx_own (l.get _) l.hd m o p v) I.kIn d e (λz=>nomatch z) h
structure jK(k:Nat)(A:o2):Prop where
 hd:A.handled=r4
 dp:A.depth+3*k+5 < recursionLimit
 un:A.units+16*k+200 < cLine
 gd:A.guards=tH []
def jK.mono(r:jK k A)(h:j<=k):jK j A:={r.hd,by have:=r.dp;omega,by have:=r.un;omega,r.gd}
def jK.deeper(r:jK (k+1) A)(env:Env):jK k (A.deeper env):=
 {r.hd,by have:=r.dp;show A.depth+1+3*k+5 < _;omega,by have:=r.un;show A.units+3+16*k+200 < _;omega,r.gd}
def xA{A:o2}:(A.under (.builtin "type.__call__" ({.ref C::us,a}))).depth=A.depth+1:=by
 first | rfl | simp [Around.under,Code.weight,Code.isCreation,Code.isGuard,Code.isCaller,Code.frames,Code.isFrame,guardIds]
def xz{A:o2}:(A.under (.builtin "type.__call__" ({.ref C::us,a}))).units=A.units+1:=by
 first | rfl | simp [Around.under,Code.cUnits,Code.frames,Code.isFrame]
def jK.make(r:jK (k+1) A)(C:m9)(us:List n9)(a:List (Str×n9)):jK k (A.under (.builtin "type.__call__" ({.ref C::us,a}))):=
 {r.hd,by have:=r.dp;rw[xA];omega,by have:=r.un;rw[xz];omega,(by have:=r.gd;first | calc this | simpa [Around.under,Code.isGuard,guardIds] using this)}
def jK.depth(r:jK k A):A.depth < recursionLimit:=by have:=r.dp;omega
def jK.units(r:jK k A):A.units+64 < cLine:=by have:=r.un;omega
def QQ:TA:=λ_ H Q=>Q [] H
def qW(b:TE)(d:TA):TA:=λa H Q=>b a H λx b=>d a b λa b=>Q (x::a) b
def Qi:JA X [] QQ:=.of (by
 calc λ_ _ _ _ H Q I h=>Calls.spliced_nil ({[],H,I,.nil,h}))
def jO(i:JE X e te)(hr:JA X a t)(j:starEach (e::a) X.env=(false,eval e X.env)::starEach a X.env:=by rfl):JA X (e::a) (qW te t):=.of (by
 intro pos b s d H Q I h;rw[j];show wpAny _ _ (spliced ((false,eval e X.env)::backTo pos (starEach a X.env))) _ _ s;calc Calls.spliced_cons (jy (i.to b s d H _ I h) λu a ⟨x,i,j,l,m⟩=>jy (hr.to pos b a d i _ j m) λ_ _ ⟨a,b,d,i,j⟩=>{x::a,b,d,.cons l i,j}))
def qI(b:JE X a d)(i:starEach [a] X.env=(false,eval a X.env)::starEach [] X.env:=by rfl):JA X [a] (qW d QQ):=(jO b Qi i)
def jV(d:JE X b i)(j:JE X a l)(m:starEach [b,a] X.env=(false,eval b X.env)::starEach [a] X.env:=by rfl)(o:starEach [a] X.env=(false,eval a X.env)::starEach [] X.env:=by rfl):JA X [b,a] (qW i (qW l QQ)):=(jO d (jO j Qi o) m)
def Vo(i:JE X d j)(l:JE X b m)(o:JE X a p)(q:starEach [d,b,a] X.env=(false,eval d X.env)::starEach [b,a] X.env:=by rfl)(u:starEach [b,a] X.env=(false,eval b X.env)::starEach [a] X.env:=by rfl)(v:starEach [a] X.env=(false,eval a X.env)::starEach [] X.env:=by rfl):JA X [d,b,a] (qW j (qW m (qW p QQ))):=(jO i (jO l (jO o Qi v) u) q)
def P4(j:JE X i l)(m:JE X d o)(p:JE X b q)(u:JE X a v)(x:starEach [i,d,b,a] X.env=(false,eval i X.env)::starEach [d,b,a] X.env:=by rfl)(y:starEach [d,b,a] X.env=(false,eval d X.env)::starEach [b,a] X.env:=by rfl)(z:starEach [b,a] X.env=(false,eval b X.env)::starEach [a] X.env:=by rfl)(B:starEach [a] X.env=(false,eval a X.env)::starEach [] X.env:=by rfl):JA X [i,d,b,a] (qW l (qW o (qW q (qW v QQ)))):=(jO j (jO m (jO p (jO u Qi B) z) y) x)
def ja5(l:JE X j m)(o:JE X i p)(q:JE X d u)(v:JE X b x)(y:JE X a z)(B:starEach [j,i,d,b,a] X.env=(false,eval j X.env)::starEach [i,d,b,a] X.env:=by rfl)(C:starEach [i,d,b,a] X.env=(false,eval i X.env)::starEach [d,b,a] X.env:=by rfl)(D:starEach [d,b,a] X.env=(false,eval d X.env)::starEach [b,a] X.env:=by rfl)(H:starEach [b,a] X.env=(false,eval b X.env)::starEach [a] X.env:=by rfl)(J:starEach [a] X.env=(false,eval a X.env)::starEach [] X.env:=by rfl):JA X [j,i,d,b,a] (qW m (qW p (qW u (qW x (qW z QQ))))):=(jO l (jO o (jO q (jO v (jO y Qi J) H) D) C) B)
def Uu(t:TA):TE:=λa H Q=>t a H λb d=>b.length<=zes/\∀a,d a=r4->Q (.ref a) (upd d a (.tup b))
def SS(t:TA):TE:=λa H Q=>t a H λb d=>b.length<=zes/\∀a,d a=r4->Q (.ref a) (upd d a (.lst b))
def jH{X:Cx}{a:List Expr}{t:TA}{pos:Pos}{d}(h:JA X a t):JE X (.Tuple a d pos) (Uu t):=.of (by
 calc λa s d H Q I i=>wpAny_Tuple_spliced (jy (h.to pos a s d H _ I i) λi a ⟨j,l,d,r,z,q⟩=>{r.length▸z,{.ref a.heap.objs.size,upd l a.heap.objs.size (.tup j),d.laid (t':=a.toks) (λb u e=>tm _ e) (ti _) ?_,s0,q _ (d.hok.fresh (ti _))}});calc{z,i,r,{_,tL _ rfl,s0,_,s0}})
def QH(h:JA X a t):JE X (.List a pos) (SS t):=.of (by
 calc λa s d H Q I i=>wpAny_List_spliced (jy (h.to pos a s d H _ I i) λi a ⟨j,l,d,r,z,q⟩=>{r.length▸z,{.ref a.heap.objs.size,upd l a.heap.objs.size (.lst j),d.laid (t':=a.toks) (λb u e=>tm _ e) (ti _) ?_,s0,q _ (d.hok.fresh (ti _))}});calc{z,i,0,r,tL _ rfl})
abbrev Sp:=List V->Hp->VK->XK->Prop
abbrev Rj:=List Env->Hp->n0->XK->n9->n0->Prop
structure Ra(P:o3)(w:o4)(K:zen)(mg:Str->Option n9)(base:o1)(A:o2)(outer:List Env)(s:n0)(H:Hp):Prop where
 frames:A.frames=tH outer
 mod:Mod K mg base
 bs:∀b o,base.get? b=tH o->s.heap.get? b=tH o/\H b=r4
 bsz:base.objs.size<=s.heap.objs.size
 funs:s.heap.FunFrames base outer
 frf:∀b∈Xz outer,H b=r4
 hok:Z3 P w H s.heap
 bare:AllBare s.gens
inductive CE(outer:List Env)(P:o3)(w:o4)(H:Hp)(s:n0)(Q:VK)(u:n9)(s':n0):Prop
 | mk (v:_) (H':_):s'.os=s.os->AllBare s'.gens->(Un (Xz outer) [] H H' s.heap s'.heap)->Z3 P w H' s'.heap->qV v u->Q v H'->CE outer P w H s Q u s'
def CR(b:Rj)(outer:List Env)(P:o3)(w:o4)(H:Hp)(s:n0)(Q:VK)(E:XK)(r:Result)(a:n0):Prop:=
 match r with
 | .ok (.ret u)=>CE outer P w H s Q u a
 | .ok _=>False
 | .error e=>b outer H s E e a
structure qu(P:o3)(w:o4)(K:zen)(mg:Str->Option n9)(base:o1)(CX:Rj)(k:Nat)(f:m9)(fd:zer)(ps:List Str)(sp:Sp):Prop where
 len:∀vs H Q E,sp vs H Q E->vs.length=ps.length
 run:∀(A:o2) (outer:List Env) (s:n0) (H:Hp) (args:Args) (us:List n9) (vs:List V) (Q:VK) (E:XK),jK k A->Ra P w K mg base A outer s H->BindsTo s fd args (ps.zip us)->qN vs us->sp vs H Q E->
  codeAny (model P w) A (.call (.ref f) args) (CR CX outer P w H s Q E) s
def pin(P:o3)(w:o4)(mg:Str->Option n9)(base:o1)(h:qu P w K mg base a k f b ps d):qu P w K mg base a k f b ps d:=h
def Ra.make{P:o3}{w:o4}{K:zen}{mg:Str->Option n9}{base:o1}{A:o2}{outer:List Env}{s:n0}{H:Hp}(e:Ra P w K mg base A outer s H)(C:m9)(us:List n9)(a:List (Str×n9)):
 Ra P w K mg base (A.under (.builtin "type.__call__" ({.ref C::us,a}))) outer s H:={by first | calc e.frames | (simpa [Around.under,Code.envs,Code.isFrame,pushEnvs] using e.frames),e.mod,e.bs,e.bsz,e.funs,e.frf,e.hok,e.bare}
def qA.env0(I:qA X a b H s):Ra X.prog X.w X.K X.mg X.base X.A X.stack s H:=
 {I.ok.frames,I.ok.mod,I.bs,tP I.ok.bsz I.sz,I.stack,I.stkFree,I.hok,I.bare}
def qA.after(I:qA X i j H s)(h:CE X.stack X.prog X.w H s Q u a):EP X i j Q u a:=by
 let{v,i,os,bare,un,j,r,q}:=h;let{_,g,d,t,l}:=a;obtain rfl:l=s.os:=os;calc{v,i,I.call un j bare (λb z=>absurd z {}),r,q}
def Wi(a:Sp)(b:List V)(E:XK)(t:TA):TE:=λd H Q=>t d H λd i=>a (d++b) i Q E
inductive RF(C:m9)(m:Str)(sp:Sp)(iZ:List V)(E:XK)(t:TA)(σ:St)(Q:VK)(x:V)(H1:Hp)(a:m9):Prop
 | mk (dx:_) (fs:_):H1 a=tH (.ins C dx fs)->fs.lookup m=r4->(t σ H1 λvs H2=>sp (x::(vs++iZ)) H2 Q E)->RF C m sp iZ E t σ Q x H1 a
def Wh(C:m9)(m:Str)(d:Sp)(i:List V)(E:XK)(j:TE)(t:TA):TE:=λb H Q=>j b H λx j=>oR x λa=>RF C m d i E t b Q x j a
def L8(C:m9)(d:Sp)(i:List V)(E:XK)(t:TA):TE:=λa H Q=>t a H λj b=>∀x a,b x=r4->b a=r4->a≠x->
 d (.ref x::(j++i)) (upd (upd b a (.own x)) x (.ins C a [])) (λv a=>v=.non/\Q (.ref x) a) E
def Qj(K:zen)(d:zer)(ps:List Str)(b:List n9):Prop:=
 ∀(s:n0) (a:List n9),K.In s.heap->(a++b).length=ps.length->BindsTo s d ({a,[]}) (ps.zip (a++b))
def Qj.all{K:zen}{a:zer}{ps:List Str}(h:∀us:List n9,us.length=ps.length->bindArgs a ({us,[]})=pure (ps.zip us)):Qj K a ps []:=λs us _ a=>by
 rw[zal]at a ⊢;calc .of_eq (h us a)
def QT(b:Rj)(X:Cx)(E:XK):Prop:=∀(d:List (m9×Obj)) (i:St) (H:Hp) (s:n0) (e:n9) (a:n0),qA X d i H s->b X.stack H s E e a->X.xe e a
def zZ{X:Cx}(F:qu X.prog X.w X.K X.mg X.base m k f o ps p)(hr:jK k X.A)(q:Qj X.K o ps b)(hd:qN d b)(v:QT m X E)(I:qA X i j H s)(r:qN vs us)(h:p (vs++d) H Q E):wpAny (model X.prog X.w) X.A (call (.ref f) us) (EP X i j Q) X.xe s:=by
 let l:=r.append hd;calc wpAny_call (codeAny_mono (F.run X.A X.stack s H ({us,[]}) (us++b) (vs++d) Q E hr I.env0 (q s us I.kIn (by rw[<-l.length];calc F.len _ _ _ _ h)) l h) λr x a=>?_);cases r with
 | error e=>calc v i j H s e x I a
 | ok y=>
  cases y with
  | ret u=>calc I.after a
  | next=>calc False.elim a
  | brk=>calc False.elim a
  | cont=>calc False.elim a
def uF{X:Cx}(F:qu X.prog X.w X.K X.mg X.base b k f d ps i)(hr:jK k X.A)(j:Gl X x)(l:X.mg x=tH (.ref f))(m:zaM X.K (.ref f)=true)(o:Qj X.K d ps u)(hd:qN v u)(y:QT b X E)(z:PA X (e::a) t)(B:(x==("__debug__":Str))=false:=by decide)(C:starEach (e::a) X.env=(false,eval e X.env)::starEach a X.env:=by rfl)(D:(backTo pos (starEach a X.env)).any (·.1)=false:=by rfl):
  PE X (.Call (.Name x p) (e::a) [] pos) (Wi i v E t):=by
 calc λa s b H Q I h=>wpAny_Call_Name_kw (Ys I j l (zbm (h₀:=X.base) I.ok.mod.kin m (jy (z pos a s b H _ I h) λ_ _ ⟨_,_,a,r,q⟩=>{a.kIn,zZ F hr o hd y a r q}) C D) B)
def C4{j:Sem Bool}(l:PE X o p)(c:Wf X.K C)(d:Vz X.K C m f)(F:qu X.prog X.w X.K X.mg X.base v k f y ps z)(hr:jK k X.A)(B:Qj X.K y ps D)(hd:qN J D)(L:QT v X E)(O:PA X (e::b) t)(T:starEach (e::b) X.env=(false,eval e X.env)::starEach b X.env:=by rfl)(U:(backTo pos (starEach b X.env)).any (·.1)=false:=by rfl) (Y:eval (.Call (.Attribute o m b_) (e::b) [] pos) X.env=(do
   let i <-eval o X.env
   standAt b_.atName
   let (f,first) <-holding [i] (getMethod i m j)
   callWith pos f first (backTo pos (starEach (e::b) X.env)) (backToKw pos (keywordEach [] X.env))):=by rfl):
  PE X (.Call (.Attribute o m b_) (e::b) [] pos) (Wh C m z J E p t):=by
 calc λb s i H Q I h=>zbZ (jy (l b s i H _ I h) λu l ζ=>?_) Y;let{x,p,j,v,y}:=ζ;let{a,ex,_,fs,z,D,q}:=xR y;subst ex;obtain rfl:u=Value.ref a:=v;calc Ju j z c d D (zbm (first:=[.ref a]) (h₀:=X.base) I.ok.mod.kin d.kp (jy (O pos b l i p _ j q) λd _ ⟨i,_,b,r,j⟩=>{b.kIn,zZ (us:=.ref a::d) (vs:=.ref a::i) F hr B hd L b (.cons rfl r) j}) T U)
def D7{d:Sem Bool}(i:JE X o j)(c:Wf X.K C)(l:Vz X.K C m f)(F:qu X.prog X.w X.K X.mg X.base p k f q ps u)(hr:jK k X.A)(v:Qj X.K q ps x)(hd:qN y x)(z:QT p X E)(B:JA X (e::a) t)(D:starEach (e::a) X.env=(false,eval e X.env)::starEach a X.env:=by rfl)(H:(backTo pos (starEach a X.env)).any (·.1)=false:=by rfl) (J:eval (.Call (.Attribute o m b_) (e::a) [] pos) X.env=(do
 let b <-eval o X.env
 standAt b_.atName
 let (f,first) <-holding [b] (getMethod b m d)
 callWith pos f first (backTo pos (starEach (e::a) X.env)) (backToKw pos (keywordEach [] X.env))):=by rfl):JE X (.Call (.Attribute o m b_) (e::a) [] pos) (Wh C m u y E j t):=.of (C4 i.to c l F hr v hd z B.to D H J)
def Mg{i:Sem Bool}(j:PE X o l)(c:Wf X.K C)(d:Vz X.K C m f)(F:qu X.prog X.w X.K X.mg X.base p k f v ps y)(hr:jK k X.A)(z:Qj X.K v ps B)(hd:qN D B)(J:QT p X E) (L:eval (.Call (.Attribute o m b_) [] [] pos) X.env=(do
   let b <-eval o X.env
   standAt b_.atName
   let (f,first) <-holding [b] (getMethod b m i)
   callWith pos f first (backTo pos (starEach [] X.env)) (backToKw pos (keywordEach [] X.env))):=by rfl):
  PE X (.Call (.Attribute o m b_) [] [] pos) (Wh C m y D E l QQ):=by
 calc λb s i H Q I h=>zbZ (jy (j b s i H _ I h) λu _ ζ=>?_) L;let{x,_,b,i,j}:=ζ;let{a,ex,_,fs,l,p,q}:=xR j;subst ex;obtain rfl:u=Value.ref a:=i;calc Ju b l c d p (zcL b.kIn d.kp (zZ (vs:=[.ref a]) F hr z hd J b (.cons rfl .nil) q))
def Ay{b:Sem Bool}(d:JE X o i)(c:Wf X.K C)(j:Vz X.K C m f)(F:qu X.prog X.w X.K X.mg X.base l k f p ps q)(hr:jK k X.A)(u:Qj X.K p ps v)(hd:qN x v)(y:QT l X E) (z:eval (.Call (.Attribute o m b_) [] [] pos) X.env=(do
 let a <-eval o X.env
 standAt b_.atName
 let (f,first) <-holding [a] (getMethod a m b)
 callWith pos f first (backTo pos (starEach [] X.env)) (backToKw pos (keywordEach [] X.env))):=by rfl):JE X (.Call (.Attribute o m b_) [] [] pos) (Wh C m q x E i QQ):=.of (Mg d.to c j F hr u hd y z)
structure Mk(K:zen)(C f:m9):Prop where
 makes:zcp K C=true
 init:t9 K (.ref C) "__init__"=tH (tH (.ref f))
 fn:zbB K (.ref f)=true
 kp:zaM K (.ref C)=true
def NS{X:Cx}{Q:VK}(M:Mk X.K C f)(F:qu X.prog X.w X.K X.mg X.base q k f y ps z)(hr:jK (k+1) X.A)(B:Qj X.K y ps b)(hd:qN j b)(D:QT q X E)(I:qA X l m H s)(r:qN vs us)(h:∀x d,H x=r4->H d=r4->d≠x->z (.ref x::(vs++j)) (upd (upd H d (.own x)) x (.ins C d [])) (λv J=>v=.non/\Q (.ref x) J) E):
  wpAny (model X.prog X.w) X.A (call (.ref C) us) (EP X l m Q) X.xe s:=by
 let o:=h (s.heap.objs.size+1) s.heap.objs.size (I.hok.fresh (zcu _)) (I.hok.fresh (ti _)) (tX (zaZ _));let i:=qA.made (C:=C) I;let p:qN (V.ref (s.heap.objs.size+1)::(vs++j)) (Value.ref (s.heap.objs.size+1)::(us++b)):=.cons rfl (r.append hd);let L:(Value.ref (s.heap.objs.size+1)::us++b).length=ps.length:=by
  let e:=p.length;rw[F.len _ _ _ _ o]at e;exact e.symm
 refine wpAny_call (M6 I.kIn M.makes M.init (beq_iff_eq.mp M.fn) (codeAny_mono (F.run _ X.stack _ _ ({Value.ref (s.heap.objs.size+1)::us,[]}) (Value.ref (s.heap.objs.size+1)::(us++b)) _ _ E (hr.make C us [])
  (i.env0.make C us []) (B _ (Value.ref (s.heap.objs.size+1)::us) i.kIn L) p o) λr O a=>?_))
 cases r with
 | error e=>calc D l m _ _ e O i a
 | ok T=>
  cases T with
  | ret u=>
   let{v,U,Y,rv,ev,q3}:=i.after a;subst ev;calc{rv,{V.ref (s.heap.objs.size+1),U,Y,s0,q3}}
  | next=>calc False.elim a
  | brk=>calc False.elim a
  | cont=>calc False.elim a
def QL{X:Cx}(M:Mk X.K C f)(F:qu X.prog X.w X.K X.mg X.base b k f d ps i)(hr:jK (k+1) X.A)(j:Gl X x)(l:X.mg x=tH (.ref C))(m:Qj X.K d ps o)(hd:qN u o)(v:QT b X E)(y:JA X (e::a) t)(z:(x==("__debug__":Str))=false:=by decide)(B:starEach (e::a) X.env=(false,eval e X.env)::starEach a X.env:=by rfl)(D:(backTo pos (starEach a X.env)).any (·.1)=false:=by rfl):JE X (.Call (.Name x p) (e::a) [] pos) (L8 C i u E t):=.of (by
 calc λa s b H Q I h=>wpAny_Call_Name_kw (Ys I j l (zbm (h₀:=X.base) I.ok.mod.kin M.kp (jy (y.to pos a s b H _ I h) λ_ _ ⟨_,_,a,r,q⟩=>{a.kIn,?_}) B D) z);calc NS M F hr m hd v a r q)
structure ql(N P:List Str)(sc:Scope):Prop where
 kind:sc.kind=.function
 co:sc.isCoroutine=false
 gen:sc.isGenerator=false
 nd:N.Nodup
 pre:N.take P.length=P
 par:∀x∈P,sc.names.lookup x=tH .local\/sc.names.lookup x=tH .cell
 nofree:∀y∈sc.names,y.2≠.free
def j3{N P:List Str}{i:Scope}(a:i.kind=.function:=by calc rfl)(b:i.isCoroutine=false:=by calc rfl)(c:i.isGenerator=false:=by calc rfl)(d:N.Nodup:=by decide+kernel)(e:N.take P.length=P:=by calc rfl)(f:∀x∈P,i.names.lookup x=tH .local\/i.names.lookup x=tH .cell:=by decide+kernel)(g:∀y∈i.names,y.2≠.free:=by decide+kernel):ql N P i:={a,b,c,d,e,f,g}
def Uj{f_:Str->Option NameKind}{x:Str}:∀{binds:List (Str×n9)} {m:Str->Option n9},(∀v,(x,v)∉binds)->bindL f_ binds m x=m x
 | [],_,_=>rfl
 | (n,v)::r,m,h=>by
  unfold bindL;rw[Uj λw a=>h w (tI _ a)];split
  ·let:x≠n:=by rintro rfl;exact h v tK
   simp [this]
  ·rfl
def Ul{f_:Str->Option NameKind}{x:Str}:∀{binds:List (Str×n9)} {m:Str->Option n9},(∀v,(x,v)∉binds)->bindC f_ binds m x=m x
 | [],_,_=>rfl
 | (n,v)::r,m,h=>by
  unfold bindC;rw[Ul λw a=>h w (tI _ a)];split
  ·rfl
  ·let:x≠n:=by rintro rfl;exact h v tK
   simp [this]
def Uk{f_:Str->Option NameKind}:∀{P:List Str} {vs:List n9} {i:Nat} {m:Str->Option n9},P.Nodup->P[i]?=tH x->vs[i]?=tH v->f_ x=tH .local->
  bindL f_ (P.zip vs) m x=tH v
 | [],_,_,_,_,h,_,_=>by simp at h
 | _::_,[],_,_,_,_,h,_=>by simp at h
 | a::P,w::vs,0,m,j,b,d,l=>by
  simp at b d;subst b;subst d;show bindL f_ ((a,w)::P.zip vs) m a=_;unfold bindL;rw[Uj λv o=>(zaj.mp j).1 (zdy o).1,if_pos l];simp
 | a::P,w::vs,i+1,m,j,b,d,l=>by
  show bindL f_ ((a,w)::P.zip vs) m x=_;unfold bindL;calc Uk (zaj.mp j).2 (by simpa using b) (by simpa using d) l
def Um{f_:Str->Option NameKind}:∀{P:List Str} {vs:List n9} {i:Nat} {m:Str->Option n9},P.Nodup->P[i]?=tH x->vs[i]?=tH v->f_ x≠tH .local->
  bindC f_ (P.zip vs) m x=tH v
 | [],_,_,_,_,h,_,_=>by simp at h
 | _::_,[],_,_,_,_,h,_=>by simp at h
 | a::P,w::vs,0,m,j,b,d,l=>by
  simp at b d;subst b;subst d;show bindC f_ ((a,w)::P.zip vs) m a=_;unfold bindC;rw[Ul λv o=>(zaj.mp j).1 (zdy o).1,if_neg l];simp
 | a::P,w::vs,i+1,m,j,b,d,l=>by
  show bindC f_ ((a,w)::P.zip vs) m x=_;unfold bindC;calc Um (zaj.mp j).2 (by simpa using b) (by simpa using d) l
def Z9(N:List Str)(vs:List V):St:=vs.map tH++zdH (N.length - vs.length) r4
def Ji(d:Rj)(P:o3)(w:o4)(K:zen)(mg:Str->Option n9)(base:o1)(N:List Str)(a:Str)(scope:Scope)(f:m9)(b:n9)(A:o2)(outer:List Env)(s:n0)(H:Hp)(E:XK):Cx where
 prog:=P
 w:=w
 K:=K
 mg:=mg
 base:=base
 A:=A.deeper (envOfC a scope s.heap.objs.size f b)
 N:=N
 s₀:=s
 H₀:=H
 env:=envOfC a scope s.heap.objs.size f b
 outer:=outer
 stack:=envOfC a scope s.heap.objs.size f b::outer
 ex:=[]
 calm:=true
 fn:=λ_=>true
 pn:=[]
 xe:=λe i=>wpAny (model P w) (A.deeper (envOfC a scope s.heap.objs.size f b)) (leaving (envOfC a scope s.heap.objs.size f b) e) (λ_ a=>d outer H s E e a) (λb a=>d outer H s E b a) i
def yH{a:Scope}(h:a.names.lookup x=tH .cell):∃c,(cellsFrom n a.names []).lookup x=tH c:=by
 calc zco.mp (zdr a.names n [] (.inl h))
def Gr{p:Rj}{P:o3}{w:o4}{K:zen}{mg:Str->Option n9}{base:o1}{N ps:List Str}{d:Str}{scope:Scope}{f:m9}{l:n9}{A:o2}{outer:List Env}{s m:n0}{H:Hp}{E:XK}{us:List n9}{vs:List V}
  (S:ql N ps scope) (hd:A.handled=r4) (j:Ra P w K mg base A outer s H) (o:vs.length=ps.length) (r:qN vs us)
  (x:InCallC s s.heap.objs.size (bindL (envOfC d scope s.heap.objs.size f l).kindOf (ps.zip us) λ_=>r4) (cellsFrom (s.heap.objs.size+1) scope.names []) (bindC (envOfC d scope s.heap.objs.size f l).kindOf (ps.zip us) λ_=>r4) m):
  qA (Ji p P w K mg base N d scope f l A outer s H E) [] (Z9 N vs) H m:=by
 let m:ps.length<=N.length:=by have:=congrArg zat S.pre;rw[tG]at this;omega
 let{o,tk,rfl,B}:=x.done;let m:∀b:m9,b∉(Ji p P w K mg base N d scope f l A outer s H E).ex:=λb z=>absurd (show b∈([]:List m9) from z) {};exists{j.mod,S.kind,s0,s0,ti _,λy z c o d=>?_,λy l=>?_,λy c _ h=>?_,λ_=>hd,Around.frames_deeper j.frames,.inr ({s0,s0}),λb z=>absurd z (m b),j.bs,j.bsz,λb _ _=>m b,λb z=>absurd z (m b),j.funs,j.frf},
  rfl,j.bare,Un.kept B,{_,x.toInCall.ns,λi y v o d _=>?_},λy c h=>{_,x.cell y c h},j.hok.fresh (ti _),λy c h=>?_,λp m=>absurd (show p∈([]:List (m9×Obj)) from m) {},j.hok.kept B
 ·exact name_of_addr x.apart (PySem.mem_of_lookup o) (PySem.mem_of_lookup d)
 ·let l:=l;rcases l with l | l
  ·exact yH l
  ·exact absurd rfl (S.nofree _ (PySem.mem_of_lookup l))
 ·exact zab (x.above y c (PySem.mem_of_lookup h))
 ·let l:i < vs.length:=by
   unfold Z9 at d;by_cases l:i < vs.length
   ·exact l
   ·rw[tY (by simpa using l)]at d;rw[List.getElem?_replicate]at d;split at d<;>cases d
  let o:vs[i]?=tH v:=by
   unfold Z9 at d;rw[tZ (by simpa using l),tA]at d;cases e:vs[i]? with
   | none=>rw[e]at d;cases d
   | some a=>rw[e]at d;cases d;rfl
  let{u,hu,l}:=r.get o;let m:ps[i]?=tH y:=by
   rwa [<-S.pre,zbp {}]
  let d:ps.Nodup:=by rw[<-S.pre];exact S.nd.sublist (zda _ _)
  exists u,l;rcases S.par y (tS m) with k | k
  ·exact .inl ({k,Uk d m hu k})
  ·let{c,e}:=yH k;calc .inr ({.inl k,c,e,?_});let q:=x.cell y c e;rwa [Um d m hu (by show scope.names.lookup y≠_;rw[k];decide)]at q
 ·exact .inl (j.hok.fresh (zab (x.above y c (PySem.mem_of_lookup h))))
 ·unfold Z9;show _=N.length;rw[tz,ta,zdD];omega
def F7{o:Rj}{P:o3}{w:o4}{K:zen}{mg:Str->Option n9}{base:o1}{k:Nat}{f:m9}{c_ d:Str}{D:Arguments}{gu:List o0}{scope:Scope}{J kV L pm i ct Y:n9}{O od:Option m9}
  {aa:Array (Option n9)} {N ps:List Str} {p:Sp} (lk:K.lookup f=tH ({Y,od,.func (zbk c_ d D gu scope J kV L pm O i ct),aa})) (ab:zbI K i d=true) (S:ql N ps scope)
  (len:∀vs H Q E,p vs H Q E->vs.length=ps.length)
  (ac:∀(A:o2) (outer:List Env) (s:n0) (H:Hp) (vs:List V) (Q:VK) (E:XK),jK k (A.deeper (envOfC d scope s.heap.objs.size f i))->p vs H Q E->
   ∃t,Bx (Ji o P w K mg base N d scope f i A outer s H E) gu t/\t {nx:=λ_ H'=>Q .non H',rt:=Q} (Z9 N vs) H):
  qu P w K mg base o (k+1) f (zbk c_ d D gu scope J kV L pm O i ct) ps p:=by
 calc{len,λA outer s H args us vs Q E hr l hb r T=>?_};let U:=l.mod.kin.keeps λb z e=>(l.bs b z e).1;let ae:∀y∈ps.zip us,scope.names.lookup y.1=tH .local\/(scope.names.lookup y.1=tH .cell/\((cellsFrom (s.heap.objs.size+1) scope.names []).lookup y.1).isSome=true):=λ⟨n,v⟩ hy=>by
  rcases S.par n (zdy hy).1 with q | q
  ·exact .inl q
  ·exact .inr ({q,zdr _ _ _ (.inl q)})
 calc codeAny_call_function hr.depth (U _ _ lk) rfl S.co S.gen rfl (PySem.W.codeRec_of U ab) (hb _ _ _ _ (wpAny_newFunctionEnv_cells S.kind ae λaf he s1 x=>?_));subst he;calc{(l.mod.nolimit.keeps λb z e=>(l.bs b z e).1).keeps x.toInCall.keep,codeAny_func ?_};let{t,ht,hq}:=ac A outer s H vs Q E (hr.deeper _) T;calc wpAny_mono (ht [] s1 (Z9 N vs) H _ (Gr S hr.hd l (len _ _ _ _ T) r x) hq) (λfl B j=>?_) λe B j=>j;let gj:∀{m:St} {H':Hp} {v:V} {u:n9},qA (Ji o P w K mg base N d scope f i A outer s H E) [] m H' B->qV v u->Q v H'->CE outer P w H s Q u B:=
  λ{m H' v u} a C q=>{v,H',a.os,a.bare,a.base,a.hok,C,q}
 cases fl with
 | ret u=>
  let{v,m,H',a,C,q}:=j;calc gj a C q
 | next=>
  let{m,H',a,q}:=j;calc gj (v:=V.non) a rfl q
 | brk=>
  let{_,_,_,q}:=j;calc False.elim q
 | cont=>
  let{_,_,_,q}:=j;exact False.elim q
def BR(r:List V->Hp->VK->Prop)(t:TA):TE:=λa H Q=>t a H λa b=>r a b Q
def qr{X:Cx}{x:Str}{p:Pos}{pos:Pos}{e:Expr}{a:List Expr}{t:TA}{id:String}{r:List V->Hp->VK->Prop}(d:Q8 X (.builtin id) r)(i:Gl X x)(j:X.mg x=r4)(l:bootBuiltins x=tH (.builtin id))(m:JA X (e::a) t)(o:x≠"__name__":=by decide)(q:(x==("__debug__":Str))=false:=by decide)(u:starEach (e::a) X.env=(false,eval e X.env)::starEach a X.env:=by rfl)(v:(backTo pos (starEach a X.env)).any (·.1)=false:=by rfl):JE X (.Call (.Name x p) (e::a) [] pos) (BR r t):=.of (by
 calc λa s b H Q I h=>wpAny_Call_Name_kw (Jq I i j l ?_ o q);calc PyProof.Rows.callWith_builtin1 (jy (m.to pos a s b H _ I h) λi j ⟨l,m,o,q,y⟩=>d a j b m l i Q o q y) u v)
def jr(d:Q8 X (.type T) r)(i:Gl X x)(j:X.mg x=r4)(l:bootBuiltins x=tH (.type T))(m:JA X (e::a) t)(o:x≠"__name__":=by decide)(q:(x==("__debug__":Str))=false:=by decide)(u:starEach (e::a) X.env=(false,eval e X.env)::starEach a X.env:=by rfl)(v:(backTo pos (starEach a X.env)).any (·.1)=false:=by rfl):JE X (.Call (.Name x p) (e::a) [] pos) (BR r t):=.of (by
 calc λa s b H Q I h=>wpAny_Call_Name_kw (Jq I i j l ?_ o q);calc PyProof.Rows.callWith_type1 (jy (m.to pos a s b H _ I h) λi j ⟨l,m,o,q,y⟩=>d a j b m l i Q o q y) u v)
end L2
namespace HT
open PySem
open PyProof.Rows hiding K lo
section
open PySem.SeqAt
open PySem.AutoSeq1 (wpAny_loadPart')
open PySem.MeetsSeq PySem.MeetsSeq2 PySem.MeetsSeq3
end
def sIx(n d:Nat):Option Int->Nat
 | none=>d
 | some v=>if v < 0 then (v+(n:Int)).toNat else min v.toNat n
def sIx_none(n d:Nat):sIx n d r4=d:=rfl
def sIx_nat(n d k:Nat):sIx n d (tH (k:Int))=min k n:=by
 show (if (k:Int) < 0 then ((k:Int)+(n:Int)).toNat else min (k:Int).toNat n)=min k n;rw[if_neg {},zaE]
end HT
namespace L2
open PySem PySem.Spec
open PyProof.Rows hiding K lo
abbrev TO:=St->Hp->(Option Int->Hp->Prop)->Prop
def PO(X:Cx)(e:Option Expr)(t:TO):Prop:=
 ∀(b:List (m9×Obj)) (s:n0) (a:St) (H:Hp) (Q:Option Int->Hp->Prop),qA X b a H s->t a H Q->
  wpAny (model X.prog X.w) X.A (evalPart e X.env) (λu j=>∃d i,qA X b a i j/\IsPart u d/\Q d i) X.xe s
@[irreducible] def JO (X:Cx) (e:Option Expr) (t:TO):Prop:=PO X e t
def JO.of(h:PO X e t):JO X e t:=by unfold JO;calc h
def JO.to(h:JO X e t):PO X e t:=by unfold JO at h;calc h
def BP:TO:=λ_ H Q=>Q r4 H
inductive RD(Q:Option Int->Hp->Prop)(x:V)(H1:Hp):Prop
 | mk (i:_):x=.int i->(Q (tH i) H1)->RD Q x H1
def L5(t:TE):TO:=λa H Q=>t a H λx a=>RD Q x a
def xP{ns:List Int}:∀{us:List n9},qN (ns.map V.int) us->IntsAre us ns:=by
 induction ns with
 | nil=>intro us r;rw[zci]at r;cases r;calc .nil
 | cons n ns a=>
  intro us r;rw[tR]at r;cases r with
  | cons b d=>
   let{t,e}:=b;subst e;calc .cons n t (a d)
def zI:JO X r4 BP:=.of (by
 intro _ s _ H Q I h;rw[evalPart_none];calc zeq ({r4,H,I,.none,h}))
def zH(h:JE X e te):JO X (tH e) (L5 te):=.of (by
 intro a s b H Q I d;rw[evalPart_some];calc jy (h.to a s b H _ I d) λu _ ⟨x,a,b,d,j⟩=>?_;let{i,rfl,q}:=j;let{t,rfl}:=d;calc{tH i,a,b,.int i t,q})
def fK(X:Cx)(r:V->Option Int->Option Int->Hp->VK->Prop):Prop:=
 ∀(a:List (m9×Obj)) (s:n0) (b:St) (H:Hp) (x:V) (v d i:n9) (lo j:Option Int) (l:m9) (Q:VK),qA X a b H s->qV x v->s.heap.IsSliceOf l d i .none->IsPart d lo->IsPart i j->r x lo j H Q->
  ∃d id,typeLookup (.type d) "__getitem__"=pure (tH (.builtin id))/\s.TypeIs v d/\wpAny (model X.prog X.w) X.A (getItem v (.ref l)) (EP X a b Q) X.xe s
def tSl(r:V->Option Int->Option Int->Hp->VK->Prop)(te:TE)(b d:TO):TE:=λa H Q=>te a H λx i=>b a i λb i=>d a i λu a=>r x b u a Q
def ZI{X:Cx}{e:Expr}{te:TE}{lo:Option Expr}{m:Option Expr}{a:TO}{d:TO}{pos:Pos}{o:Pos}{r:V->Option Int->Option Int->Hp->VK->Prop}(hr:fK X r)(j:JE X e te)(l:JO X lo a)(hu:JO X m d):JE X (.Subscript e (.Slice lo m r4 o) pos) (tSl r te a d):=.of (by
 calc λd s i H Q I h=>Subscript_ (jy (j.to d s i H _ I h) λv a ⟨x,j,p,y,z⟩=>wpAny_Slice (jy (l.to d a i j _ p z) λj a ⟨z,l,p,B,C⟩=>jy (hu.to d a i l _ p C) λl a ⟨u,p,C,D,J⟩=>?_));rw[evalPart_none];calc zeq ?_;let L:qA X d i p {a with heap:=a.heap.push {cls:=.type "slice",data:=.fields #[j,l,.none]}}:=C.kept λb _ q=>tm _ q;let{_,id,C,O,T}:=hr d {a with heap:=a.heap.push {cls:=.type "slice",data:=.fields #[j,l,.none]}} i p x v j l z u a.heap.objs.size Q L y (Heap.IsSliceOf.new ..) B D J;show wpAny (model X.prog X.w) X.A (subscriptTail e (.Slice lo m r4 o) v (.ref a.heap.objs.size)) (EP X d i Q) X.xe {a with heap:=a.heap.push {cls:=.type "slice",data:=.fields #[j,l,.none]}};calc tail_any O C T (by with_unfolding_all rfl))
def cutV(xs:List V)(lo a:Option Int):List V:=(xs.drop (HT.sIx xs.length 0 lo)).take (HT.sIx xs.length xs.length a - HT.sIx xs.length 0 lo)
def yF(xs:List V)(lo a:Option Int):(cutV xs lo a).length<=xs.length:=by
 unfold cutV;rw[tG,zbQ];omega
def Ec(n:Nat)(i:Int):Option Nat:=if 0<=i then (if i < n then tH i.toNat else r4) else if -(n:Int)<=i then tH (i+n).toNat else r4
def Ke(xs:List α)(i:Int):Option α:=(Ec xs.length i).bind λa=>xs[a]?
def u1(h:Ec n i=tH j):seqIndex? i n=tH j/\j < n/\-(n:Int)<=i/\i < n:=by
 unfold Ec at h;by_cases b:0<=i
 ·rw[if_pos b]at h;by_cases a:i < n
  ·rw[if_pos a]at h;let e:=tH.inj h;exact{by rw[seqIndex_of b a,e],{},{},a}
  ·rw[if_neg a]at h;cases h
 ·rw[if_neg b]at h;by_cases a:-(n:Int)<=i
  ·rw[if_pos a]at h;let e:(i+n).toNat=j:=tH.inj h;exact{by rw[seqIndex_neg {} a,e],{},a,{}}
  ·rw[if_neg a]at h;cases h
def atI_get{α:Type}{xs:List α}{i:Int}{v:α}(h:Ke xs i=tH v):∃j,seqIndex? i xs.length=tH j/\xs[j]?=tH v/\j < xs.length/\-(xs.length:Int)<=i/\i < xs.length:=by
 unfold Ke at h;cases e:Ec xs.length i with
 | none=>rw[e]at h;cases h
 | some j=>
  rw[e]at h;let{a,b,d,l}:=u1 e;calc{j,a,h,b,d,l}
def QA{α:Type}{xs:List α}{j:Nat}{v:α}(h:xs[j]?=tH v):Ke xs (j:Int)=tH v:=by
 let a:=(tf.mp h).1;let e:Ec xs.length (j:Int)=tH j:=by
  unfold Ec;rw[if_pos {},if_pos {}];simp
 unfold Ke;rwa [e]
def EB(b:Expr):Prop:=∀a i,subscripted b false a i=operate [a,i] (getItem a i)
def SI(X:Cx)(r:R2):Prop:=
 ∀(gf gm:Expr) (a:List (m9×Obj)) (s:n0) (b:St) (H:Hp) (x y:V) (v u:n9) (Q:VK),qA X a b H s->qV x v->qV y u->r x y H Q->
  subscripted gm false v u=operate [v,u] (getItem v u)->wpAny (model X.prog X.w) X.A (subscriptTail gf gm v u) (EP X a b Q) X.xe s
def LL(X:Cx)(id:String)(r:V->List V->Hp->VK->Prop):Prop:=
 ∀(a:List (m9×Obj)) (s:n0) (b:St) (H:Hp) (x:V) (d:List V) (v:n9) (i:List n9) (Q:VK),qA X a b H s->qV x v->qN d i->r x d H Q->
  wpAny (model X.prog X.w) X.A (call (.builtin id) (v::i)) (EP X a b Q) X.xe s
def qF(hr:SI X r)(d:JE X a i)(j:JE X b tb)(l:EB b:=by calc λ_ _=>rfl):JE X (.Subscript a b pos) (YM r i tb):=.of (by
 calc λi s m H Q I h=>Subscript_ (LF d.to j.to I h λv u d x y j o p z q=>hr a b i d m j x y v u Q o p z q (l _ _)))
inductive FH(K:zen)(H:Hp)(Q:VK)(p:m9)(i:Int):Prop
 | mk (xs:_) (v:_):JX K H p xs->Ke xs i=tH v->Q v H->FH K H Q p i
def O3(K:zen):R2:=λx y H Q=>oR x λa=>oI y λi=>FH K H Q a i
inductive FF(K:zen)(H:Hp)(Q:VK)(p:m9)(i:Int):Prop
 | mk (xs:_) (v:_):SqT K H p xs->Ke xs i=tH v->Q v H->FF K H Q p i
def Yo(K:zen):R2:=λx y H Q=>oR x λa=>oI y λi=>FF K H Q a i
inductive FG(x:V)(y:V)(H:Hp)(Q:VK):Prop
 | mk (z:_) (i:_) (c:_):x=.str z->y=.int i->(z.length<=zes)->Ke z.cps.toList i=tH c->(Q (.str ({#[c]})) H)->FG x y H Q
def O2:R2:=λx y H Q=>FG x y H Q
def QN{X:Cx}:SI X (O3 X.K):=by
 intro gf gm d s o H x y v u Q I a b h j;let{_,rfl,l}:=xR h;let{i,rfl,_,z,m,p,q}:=xI l;cases a;let{t,rfl}:=b;let{B,r,b,_}:=I.list m;let{l,a,C,_,D,J}:=atI_get p;let{w,m,p}:=r.get C;let C:=r.length;let L:=Xa;let gj:EP X d o Q w s:={z,H,I,p,q};by_cases o:0<=i
 ·let d:i.toNat=l:=by
   rw[seqIndex_of o J]at a;exact tH.inj a
  exact item_listR b.isList o {} (by rw[d];simpa using m) gj j
 ·let d:(i+(B.toArray.size:Int)).toNat=l:=by
   rw[seqIndex_neg {} D]at a;rw[t4,<-C];exact tH.inj a
  exact subscriptTail_builtinR b.isList.typeIs slot_list_getitem.lookup
   (wpAny_getItem_list_neg b.isList {} (by rw[t4]<;>omega) {} (by rw[d];simpa using m) ({s0,gj})) j
def qD{X:Cx}:SI X (Yo X.K):=by
 intro gf gm _ s _ H x y v u Q I a b h d;let{_,rfl,j}:=xR h;let{i,rfl,_,z,l,m,q}:=xI j;cases a;let{t,rfl}:=b;let{_,r,a,_}:=I.tuple l;let{_,b,j,_,_,_}:=atI_get m;let{w,l,m}:=r.get j;let j:=Xa;exact subscriptTail_builtinR a.typeIs slot_tuple_getitem.lookup
  (getItem_tuple a {} {} (by rw[t4,<-r.length];calc b) (by simpa using l) ({s0,{z,H,I,m,q}})) d
def xL{X:Cx}:SI X O2:=by
 intro gf gm _ s _ H x y v u Q I a b h d;let{z,i,c,rfl,rfl,_,j,q}:=h;let{t,rfl}:=a;let{_,rfl}:=b;let{_,a,b,_,l,m}:=atI_get j;let j:z.cps.toList.length=z.length:=by simp [Str.length]
 rw[j]at a l m;let j:=Xa;exact tail_any (typeIs_str s z t) slot_str_getitem.lookup (getItem_str (by
  rw[decide_eq_false {},decide_eq_false {},zdR]) (by rw[a];simpa using b) ({.str ({#[c]}),H,I.tok _,{_,s0},q})) d
def xy(a:List n9)(n j:Nat)(u:n9):Obj.mapSeq (·.setIfInBounds j u) {cls:=.type "list",data:=.seq a.toArray n}={cls:=.type "list",data:=.seq (a.set j u).toArray n}:=by
 simp [Obj.mapSeq]
def qA.lst(I:qA X b d H s)(h:H p=tH (.lst xs)):
  ∃(a:List n9) (n:Nat),qN xs a/\s.heap.get? p=tH {cls:=.type "list",data:=.seq a.toArray n}/\xs.length<=zes:=by
 let{z,a,n,r,e}:=I.hok p _ h;calc{a,n,r,e,z}
def qA.lstUpd{d a:List n9}{f:Obj->Obj}(I:qA X l m H s)(h:H p=tH (.lst xs))(o:s.heap.get? p=tH {cls:=.type "list",data:=.seq d.toArray n})(i:f {cls:=.type "list",data:=.seq d.toArray n}={cls:=.type "list",data:=.seq a.toArray j})(r:qN ys a)(hz:ys.length<=zes)(t:Nat):
  qA X l m (upd H p (.lst ys)) {s with heap:=s.heap.update p f,toks:=t}:=by
 let e:(s.heap.update p f).get? p=tH {cls:=.type "list",data:=.seq a.toArray j}:=by
  rw[zay f o (by rw[i]<;>rfl),i]
 calc I.write (by rw[h];trivial) (.inl rfl) (λb u d q=>(zah _ _ (Ne.symm d)).trans q) ({_,e}) ?_;calc{hz,a,j,r,e}
inductive N1(o:V)(i:V)(v:V)(H:Hp)(Q:(Hp->Prop)):Prop
 | mk (p:_) (xs:_) (k:_) (j:_):o=.ref p->i=.int k->H p=tH (.lst xs)->Ec xs.length k=tH j->(Q (upd H p (.lst (xs.set j v))))->N1 o i v H Q
def OZ:V->V->V->Hp->(Hp->Prop)->Prop:=λa i v H Q=>N1 a i v H Q
def Nv:LJ X OZ:=by
 intro x s y H _ i v _ _ u Q I b d z h;let{l,B,k,a,rfl,rfl,m,j,q}:=h;cases b;let{t,rfl}:=d;let{o,n,r,d,C}:=I.lst m;let{b,_,D,J}:=u1 j;let j:=r.length;let p:=Xa;let p:qA X x y (upd H l (.lst (B.set a v))) {s with heap:=s.heap.update l (Obj.mapSeq (·.setIfInBounds a u))}:=
  I.lstUpd m d (xy o n a u) (r.set z a) (by rw[List.length_set];calc C) s.toks
 by_cases m:0<=k
 ·let l:k.toNat=a:=by
   rw[seqIndex_of m J]at b;exact tH.inj b
  exact PySem.W.ki_setAt d m {} (by rwa [t4,<-j]) (by rw[l];calc{_,p,q})
 ·let l:(k+(o.toArray.size:Int)).toNat=a:=by
   rw[seqIndex_neg {} D]at b;rw[t4,<-j];exact tH.inj b
  calc PySem.W.ki_setBack d {} (by rwa [t4,<-j]) {} (by rw[l];calc{_,p,q})
def Uz(lo a:Option Int)(n:Nat):(sliceBounds lo a r4 n).1=((HT.sIx n 0 lo:Nat):Int)/\(sliceBounds lo a r4 n).2.1=((HT.sIx n n a:Nat):Int)/\(sliceBounds lo a r4 n).2.2=1:=by
 refine{?_,?_,s0}
 ·cases lo with
  | none=>simp [sliceBounds,HT.sIx]
  | some i=>
   simp only[sliceBounds,HT.sIx,zek,show (1:Int) > 0 by decide,if_true];by_cases h:i < 0
   ·simp only[h,if_true]<;>omega
   ·simp only[h,if_false]<;>omega
 ·cases a with
  | none=>simp [sliceBounds,HT.sIx]
  | some i=>
   simp only[sliceBounds,HT.sIx,zek,show (1:Int) > 0 by decide,if_true];by_cases h:i < 0
   ·simp only[h,if_true]<;>omega
   ·simp only[h,if_false]<;>omega
def Vt(a:List n9)(lo b:Option Int):slicePick a.toArray lo b r4=((a.drop (HT.sIx a.length 0 lo)).take (HT.sIx a.length a.length b - HT.sIx a.length 0 lo)).toArray:=by
 let{d,i,j}:=Uz lo b a.toArray.size;unfold slicePick;rw[d,i,j];simp only[sliceRange_one,pick_run,t4]<;>rfl
inductive FE(K:zen)(x:V)(lo:Option Int)(hi:Option Int)(H:Hp)(Q:VK):Prop
 | mk (a:_) (xs:_):x=.ref a->JX K H a xs->(∀p,H p=r4->Q (.ref p) (upd H p (.lst (cutV xs lo hi))))->FE K x lo hi H Q
def T0(K:zen):V->Option Int->Option Int->Hp->VK->Prop:=λx lo a H Q=>FE K x lo a H Q
def XV:fK X (T0 X.K):=by
 intro _ s _ H x v _ _ lo i _ Q I j l m o h;let{a,d,rfl,p,q}:=h;cases j;let{_,r,j,u}:=I.list p;let p:=r.length;calc{"list",_,slot_list_getitem.lookup,j.isList.typeIs,wpAny_getItem_list_slice j.isList l m o .none {} ?_ (by rw[t4]<;>omega)};rw[Vt,<-p];calc{.ref s.heap.objs.size,_,I.laid (λb _ q=>tm _ q) (ti _) ?_,s0,q _ (I.hok.fresh (ti _))};calc{tP (yF d lo i) u,_,0,(r.drop (HT.sIx d.length 0 lo)).take (HT.sIx d.length d.length i - HT.sIx d.length 0 lo),tL _ rfl}
def zR:V->Bool
 | .non=>true
 | .bl _=>true
 | .int _=>true
 | .str _=>true
 | _=>false
def F9:V->V->Bool
 | .non,.non=>true
 | .bl a,.bl b=>a==b
 | .bl a,.int b=>(if a then 1 else 0)==b
 | .int a,.bl b=>a==(if b then 1 else 0)
 | .int a,.int b=>a==b
 | .str a,.str b=>a==b
 | _,_=>false
def LA{A:o2}{s:n0}{y x:V}{u v:n9}(j:qV y u)(d:qV x v)(m:zR y=true)(l:zR x=true):SeqAt.EqAt A s u v (F9 y x):=by
 cases y with
 | non=>
  cases j;cases x with
  | non=>cases d;calc SeqAt.EqAt.same _
  | bl b=>cases d;calc SeqAt.EqAt.none_bool b
  | int b=>let{t,rfl}:=d;calc SeqAt.EqAt.none_int b t
  | str b=>let{t,rfl}:=d;calc SeqAt.EqAt.none_str b t
  | _=>calc absurd (show false=true from l) tN
 | bl a=>
  cases j;cases x with
  | non=>cases d;calc SeqAt.EqAt.bool_none a
  | bl b=>cases d;calc SeqAt.EqAt.bool_bool a b
  | int b=>let{t,rfl}:=d;calc SeqAt.EqAt.bool_int a b t
  | str b=>let{t,rfl}:=d;calc SeqAt.EqAt.bool_str a b t
  | _=>calc absurd (show false=true from l) tN
 | int a=>
  let{i,rfl}:=j;cases x with
  | non=>cases d;calc SeqAt.EqAt.int_none a i
  | bl b=>cases d;calc SeqAt.EqAt.int_bool a i b
  | int b=>let{t,rfl}:=d;calc SeqAt.EqAt.int_int a i b t
  | str b=>let{t,rfl}:=d;calc SeqAt.EqAt.int_str a i b t
  | _=>calc absurd (show false=true from l) tN
 | str a=>
  let{i,rfl}:=j;cases x with
  | non=>cases d;calc SeqAt.EqAt.str_none a i
  | bl b=>cases d;calc SeqAt.EqAt.str_bool a i b
  | int b=>let{t,rfl}:=d;calc SeqAt.EqAt.str_int a i b t
  | str b=>let{t,rfl}:=d;calc SeqAt.EqAt.str_str a i b t
  | _=>calc absurd (show false=true from l) tN
 | _=>calc absurd (show false=true from m) tN
def x1(x:V)(u:n9):Bool:=match u with
 | .none=>F9 .non x
 | .bool b=>F9 (.bl b) x
 | .int i _=>F9 (.int i) x
 | .str z _=>F9 (.str z) x
 | _=>false
def A4{x y:V}{u:n9}(r:qV y u)(f:zR y=true):x1 x u=F9 y x:=by
 cases y with
 | non=>cases r;rfl
 | bl b=>cases r;rfl
 | int i=>let{t,rfl}:=r;rfl
 | str z=>let{t,rfl}:=r;rfl
 | _=>calc absurd (show false=true from f) tN
def YH{x:V}:∀{xs:List V} {us:List n9},qN xs us->xs.all zR=true->us.any (x1 x)=xs.any λy=>F9 y x
 | _,_,.nil,_=>rfl
 | y::xs,u::us,.cons r t,f=>by
  rw[zcD,zaw]at f;rw[zbF,zbF,A4 r f.1,YH t f.2]
def zj{A:o2}{s:n0}{x:V}{v:n9}(a:qV x v)(b:zR x=true):∀{xs:List V} {us:List n9},qN xs us->xs.all zR=true->∀u∈us,SeqAt.EqAt A s u v (x1 x u)
 | _,_,.nil,_=>λu hu=>by cases hu
 | y::xs,u::us,.cons r t,f=>λd hu=>by
  rw[zcD,zaw]at f;rcases tO.mp hu with rfl | hu
  ·rw[A4 r f.1];exact LA r a f.1 b
  ·calc zj a b t f.2 d hu
def Jz(x:V)(xs:List V):Bool:=xs.any λy=>F9 y x
inductive O5(K:zen)(gO:Bool)(x:V)(y:V)(H:Hp)(Q:VK):Prop
 | mk (p:_) (xs:_):y=.ref p->((JX K H p xs\/SqT K H p xs))->zR x=true->xs.all zR=true->(Q (.bl (if gO then !Jz x xs else Jz x xs)) H)->O5 K gO x y H Q
def FJ(K:zen)(gO:Bool):R2:=λx y H Q=>O5 K gO x y H Q
def Q4{X:Cx}:Z8 X (compareOp .In) (FJ X.K false):=by
 intro _ s _ H x y v u Q I j b h;let{_,_,rfl,a,l,fs,q}:=h;cases b;rcases a with a | a
 ·let{b,r,d,m}:=I.list a;calc SeqAt.in_listAt (x1 x) d.isList (λw i=>zj j l r fs w (by simpa using i)) ({.bl _,H,I,s0,?_});rwa [show b.toArray.any (x1 x)=b.any (x1 x) by simp,YH r fs]
 ·let{b,r,d,m}:=I.tuple a;calc SeqAt.in_tupleAt (x1 x) d (λw i=>zj j l r fs w (by simpa using i)) ({.bl _,H,I,s0,?_});rwa [show b.toArray.any (x1 x)=b.any (x1 x) by simp,YH r fs]
def Qm{X:Cx}:Z8 X (compareOp .NotIn) (FJ X.K true):=by
 intro _ s _ H x y v u Q I j b h;let{_,_,rfl,a,l,fs,q}:=h;cases b;rcases a with a | a
 ·let{b,r,d,m}:=I.list a;calc SeqAt.notIn_listAt (x1 x) d.isList (λw i=>zj j l r fs w (by simpa using i)) ({.bl _,H,I,s0,?_});rwa [show b.toArray.any (x1 x)=b.any (x1 x) by simp,YH r fs]
 ·let{b,r,d,m}:=I.tuple a;calc SeqAt.notIn_tupleAt (x1 x) d (λw i=>zj j l r fs w (by simpa using i)) ({.bl _,H,I,s0,?_});rwa [show b.toArray.any (x1 x)=b.any (x1 x) by simp,YH r fs]
def qy:Q8 X (.builtin "len") (λxs H Q=>∃p ys,xs=[.ref p]/\(JX X.K H p ys\/SqT X.K H p ys)/\Q (.int ys.length) H):=by
 intro _ s _ H xs _ Q I r h;let{p,ys,rfl,a,q}:=h;let{u,rfl,b}:=Jm r;cases b;let b:=Xa;rcases a with a | a
 ·let{j,b,d,l}:=I.list a;let i:=b.length;exact Calls.call_len_list d.isList (by simp only[t4]<;>omega) ({.int ys.length,H,I.tok _,{s.toks+1,by rw[t4,i]},q})
 ·let{j,b,d,l}:=I.tuple a;let i:=b.length;calc len_tuple d (by simp only[t4]<;>omega) ({.int ys.length,H,I.tok _,{s.toks+1,by rw[t4,i]},q})
def Z2:Q8 X (.builtin "len") (λxs H Q=>∃z,xs=[.str z]/\z.length<=zes/\Q (.int z.length) H):=by
 intro _ s _ H xs _ Q I r h;let{z,rfl,_,q}:=h;let{u,rfl,t,rfl}:=Jm r;let a:=Xa;calc len_str {} ({.int z.length,H,I.tok _,{_,s0},q})
def Qs:Q8 X (.type "list") (λxs H Q=>∃p ys,xs=[.ref p]/\(JX X.K H p ys\/SqT X.K H p ys)/\∀l,H l=r4->Q (.ref l) (upd H l (.lst ys))):=by
 intro o s v H xs _ Q I r h;let{p,ys,rfl,m,q}:=h;let{u,rfl,a}:=Jm r;cases a;let gj:∀(d:List n9),qN ys d->ys.length<=zes->∀(a:o1) (i:Nat),(∀b j,s.heap.get? b=tH j->a.get? b=tH j)->
   a.get? s.heap.objs.size=tH {cls:=.type "list",dict:=r4,data:=.seq d.toArray i,slots:=#[]}->EP X o v Q (.ref s.heap.objs.size) {s with heap:=a}:=λd j o a i v e=>
  {.ref s.heap.objs.size,_,I.laid v (ti _) (show qL X.prog X.w _ a _ (.lst ys) from{o,d,i,j,e}),s0,q _ (I.hok.fresh (ti _))}
 rcases m with m | m
 ·let{d,j,x,o}:=I.list m;let B:=j.length;let{C,y,z,n,hd}:=x.isList;exact call_list_seq p (.inl rfl) y z hd (λa i v e=>gj d j o a i v e) (by simp only[t4]<;>omega)
 ·let{d,j,x,o}:=I.tuple m;let B:=j.length;let{C,y,z,n,hd}:=x;calc call_list_seq p (.inr rfl) y z hd (λa i v e=>gj d j o a i v e) (by simp only[t4]<;>omega)
def Qa:Q8 X (.type "tuple") (λxs H Q=>∃p ys,xs=[.ref p]/\((JX X.K H p ys/\∀l,H l=r4->Q (.ref l) (upd H l (.tup ys)))\/(SqT X.K H p ys/\Q (.ref p) H))):=by
 intro x s y H xs _ Q I r h;let{p,ys,rfl,h}:=h;let{u,rfl,a}:=Jm r;cases a;rcases h with ⟨a,q⟩ | ⟨a,q⟩
 ·let{d,i,j,o}:=I.list a;let m:=i.length;calc call_tuple_list j.isList (λm z=>?_) (by simp only[t4]<;>omega);let v:=I.kept (t':=s.toks) z;let z:qA X x y (upd H m.objs.size (.tup ys)) {s with heap:=m.push {cls:=.type "tuple",data:=.seq d.toArray}}:=
   v.laid (λb _ e=>tm _ e) (ti _) (show qL X.prog X.w _ _ _ (.tup ys) from{o,d,i,IsTup.new _ _})
  exact{.ref m.objs.size,_,z,s0,q _ (v.hok.fresh (ti _))}
 ·let{d,i,j,o}:=I.tuple a;calc call_tuple_same j ({.ref p,H,I,s0,q})
def SL(K:zen)(T:String)(x:V)(H:Hp):Prop:=match x with
 | .str _=>T="str"
 | .int _=>T="int"
 | .ref a=>(T="list"/\∃d,JX K H a d)\/(T="tuple"/\∃b,K.lookup a=tH b/\b.cls=.type "tuple"/\b.dict=r4)\/
  (T="dict"/\((∃kvs,H a=tH (.dK kvs))\/∃kvs,H a=tH (.dT kvs)))\/(T="set"/\∃S n,H a=tH (.set S n))
 | _=>False
def yS(I:qA X d j H s)(r:qV x v)(ty:SL X.K T x H):
  s.TypeIs v T/\∀a,v=.ref a->∃b,s.heap.get? a=tH b/\b.dict=r4:=by
 cases x with
 | str z=>
  let{t,rfl}:=r;cases (show T="str" from ty);calc{typeIs_str s z t,λ_ e=>nomatch e}
 | int i=>
  let{t,rfl}:=r;cases (show T="int" from ty);calc{typeIs_int s i t,λ_ e=>nomatch e}
 | ref j=>
  cases r;rcases ty with ⟨rfl,l,m⟩ | ⟨rfl,b,d,o,hd⟩ | ⟨rfl,d⟩ | ⟨rfl,S,n,d⟩
  ·let{_,_,l,_}:=I.list m;calc{l.isList.typeIs,λa e=>?_};cases e;let{b,n,e,c,hd,_}:=l;exact{b,e,hd}
  ·calc{{b,I.kIn j b d,o},λa e=>?_};cases e;exact{b,I.kIn _ b d,hd}
  ·let z:∃b,s.heap.get? j=tH b/\b.ExactDict:=by
    rcases d with ⟨kvs,d⟩ | ⟨kvs,d⟩
    ·let{_,_,_,_,b,_,_,e,ex,_}:=I.hok j _ d;exact{b,e,ex}
    ·let{_,_,_,_,b,_,_,e,ex,_}:=I.hok j _ d;exact{b,e,ex}
   let{b,e,ex}:=z;calc{{b,e,ex.1},λa l=>?_};cases l;exact{b,e,ex.2.1}
  ·let{b,_,_,_,e,ex,_}:=I.hok j _ d;calc{{b,e,ex.1},λa l=>?_};cases l;calc{b,e,ex.2.1}
 | _=>calc False.elim ty
def SX(K:zen)(T:String)(r:V->List V->Hp->VK->Prop)(to:TE):TE:=λa H Q=>to a H λx a=>SL K T x a/\r x [] a Q
def SY(K:zen)(T:String)(r:V->List V->Hp->VK->Prop)(to:TE)(t:TA):TE:=λa H Q=>to a H λx b=>SL K T x b/\t a b λa b=>r x a b Q
def AD{X:Cx}{o:Expr}{to:TE}{c_:Str}{b_:Pos}{a:Pos}{T:String}{id:String}{r:V->List V->Hp->VK->Prop}(j:PlainAttrs T)(slot:Slot T c_ id)(l:typeOf (.builtin id)=pure (.type "method_descriptor"))(m:LL X id r)(d:JE X o to)(i:attributeBase o c_ X.env (eval o X.env)=eval o X.env:=by rfl)(p:(b_.endLine==a.line)=true:=by rfl):JE X (.Call (.Attribute o c_ b_) [] [] a) (SX X.K T r to):=.of (by
 calc λa s b H Q I h=>wpAny_Call_method0_late i p (jy (d.to a s b H _ I h) λv p ⟨x,q,d,i,ty,u⟩=>?_);let{y,z}:=yS d i ty;calc{T,id,j,slot,l,y,z,Calls.callWith_builtin rfl (PySem.evalArgs_none (m a p b q x [] v [] Q d i .nil u))})
def Pa{X:Cx}{o:Expr}{e:Expr}{a:List Expr}{to:TE}{t:TA}{c_:Str}{b_:Pos}{b:Pos}{T:String}{id:String}{r:V->List V->Hp->VK->Prop}(m:PlainAttrs T)(slot:Slot T c_ id)(p:typeOf (.builtin id)=pure (.type "method_descriptor"))(q:LL X id r)(j:PE X o to)(u:PA X (e::a) t)
  (l:attributeBase o c_ X.env (eval o X.env)=eval o X.env:=by rfl)
  (y:((backTo b (starEach (e::a) X.env)).all (λx=> !x.1)&&(backToKw b (keywordEach [] X.env)).all (λx=>x.1.isSome)
   &&decide ((e::a).length+([]:List Keyword).length+(if ([]:List Keyword).isEmpty then 0 else 1) < 30))=true:=by rfl)
  (z:(b_.endLine==b.line)=true:=by rfl) (B:starEach (e::a) X.env=(false,eval e X.env)::starEach a X.env:=by rfl) (C:(backTo b (starEach a X.env)).any (·.1)=false:=by rfl):
  PE X (.Call (.Attribute o c_ b_) (e::a) [] b) (SY X.K T r to t):=by
 calc λd s i H Q I h=>wpAny_Call_method_late l y z rfl (jy (j d s i H _ I h) λv y ζ=>?_);let{x,z,j,l,ty,D}:=ζ;let{J,L}:=yS j l ty;exists T,id,m,slot,p,J,L;let m:=u b d y i z _ j D;rw[B]at m ⊢;calc Calls.callWith_builtin (by show (false || (backTo b (starEach a X.env)).any (·.1))=false;rw[C]<;>rfl) (Calls.evalArgs_plain ?_);calc jy m λa b ⟨j,m,p,u,y⟩=>q d b i m x j v a Q p l u y
def Jh{X:Cx}{o:Expr}{e:Expr}{a:List Expr}{to:TE}{t:TA}{c_:Str}{b_:Pos}{b:Pos}{T:String}{id:String}{r:V->List V->Hp->VK->Prop}(d:PlainAttrs T)(slot:Slot T c_ id)(i:typeOf (.builtin id)=pure (.type "method_descriptor"))(j:LL X id r)(l:JE X o to)(m:JA X (e::a) t)(p:attributeBase o c_ X.env (eval o X.env)=eval o X.env:=by rfl) (q:((backTo b (starEach (e::a) X.env)).all (λx=> !x.1)&&(backToKw b (keywordEach [] X.env)).all (λx=>x.1.isSome)
 &&decide ((e::a).length+([]:List Keyword).length+(if ([]:List Keyword).isEmpty then 0 else 1) < 30))=true:=by rfl) (u:(b_.endLine==b.line)=true:=by rfl) (v:starEach (e::a) X.env=(false,eval e X.env)::starEach a X.env:=by rfl) (y:(backTo b (starEach a X.env)).any (·.1)=false:=by rfl):JE X (.Call (.Attribute o c_ b_) (e::a) [] b) (SY X.K T r to t):=.of (Pa d slot i j l.to m.to p q u v y)
def fU(X:Cx)(id:String)(r:V->List V->Hp->VK->Prop):Prop:=
 ∀(a:List (m9×Obj)) (s:n0) (b:St) (H:Hp) (x:V) (d:List V) (v:n9) (i:List n9) (Q:VK),qA X a b H s->qV x v->qN d i->r x d H Q->
  wpAny (model X.prog X.w) X.A (call (.builtin id) (v::i)) (EP X a b Q) X.xe s
def qN.one:∀{x:V} {us:List n9},qN [x] us->∃u,us=[u]/\qV x u
 | _,_,.cons r .nil=>{_,s0,r}
def qN.zero:∀{us:List n9},qN [] us->us=[]
 | _,.nil=>rfl
def qN.reverse(h:qN xs us):qN xs.reverse us.reverse:=by
 induction h with
 | nil=>calc .nil
 | cons r t a=>rw[zdb,zdb];calc qN.append a (.cons r .nil)
def qA.lset{b a:List n9}{f:Array n9->Array n9}(I:qA X d i H s)(j:H l=tH (.lst xs))(e:s.heap.get? l=tH {cls:=.type "list",data:=.seq b.toArray n})(m:f b.toArray=a.toArray)(o:qN ys a)(hz:ys.length<=zes):
  qA X d i (upd H l (.lst ys)) {s with heap:=s.heap.update l (Obj.mapSeq f),toks:=t'}:=by
 let q:=PySem.IsL.update e f;rw[m]at q;calc I.write (j▸trivial) (.inl rfl) (λ_ u b hu=>(zah s.heap (Obj.mapSeq f) (Ne.symm b)).trans hu) ({_,q}) ?_;calc{hz,a,_,o,q}
def qA.lnew(I:qA X b d H s)(i:qN ys a)(hz:ys.length<=zes):
  qA X b d (upd H s.heap.objs.size (.lst ys)) {s with heap:=s.heap.push {cls:=.type "list",data:=.seq a.toArray},toks:=t'}:=
 I.laid (λ_ _ q=>tm _ q) (ti _) ({hz,a,0,i,tL _ rfl})
def qA.fresh(I:qA X a b H s):H s.heap.objs.size=r4:=I.hok.fresh (ti _)
def qA.lstM(I:qA X d i H s)(b:H l=tH (.lst xs)):xs.length<=zes/\∃(a:List n9) (n:Nat),qN xs a/\xs.length=a.length/\s.heap.get? l=tH {cls:=.type "list",data:=.seq a.toArray n}:=by
 let{z,a,n,r,e}:=I.hok l _ b;calc{z,a,n,r,r.length,e}
def MX(h:n<=zes):Builtin.List.listTooLong n=false:=by
 unfold Builtin.List.listTooLong;calc decide_eq_false {}
inductive kN(x:V)(vs:List V)(H:Hp)(Q:VK):Prop
 | mk (l:_) (xs:_) (y:_):x=.ref l->vs=[y]->H l=tH (.lst xs)->(xs.length < zes)->(Q .non (upd H l (.lst (xs++[y]))))->kN x vs H Q
def uC:V->List V->Hp->VK->Prop:=λx a H Q=>kN x a H Q
def Za:fU X "list.append" uC:=by
 intro _ s _ H x _ v _ Q I b d h;let{i,_,y,rfl,rfl,a,_,q}:=h;cases b;let{u,rfl,b}:=d.one;let{z,d,n,r,_,e}:=I.lstM a;calc call_meets F.slot_list_append ({_,e,s0}) F.entry_list_append (F.args_list_append_2 _ _) (PySem.list_append i d.toArray n u (by rw[t4];omega)) ({e,?_});calc{.non,_,I.lset a e {} (r.append (.cons b .nil)) ?_,s0,q};rw[tz,zas];omega
inductive kL(x:V)(vs:List V)(H:Hp)(Q:VK):Prop
 | mk (l:_) (b:_) (xs:_) (zs:_):x=.ref l->vs=[.ref b]->H l=tH (.lst xs)->H b=tH (.lst zs)->(xs.length+zs.length<=zes)->(Q .non (upd H l (.lst (xs++zs))))->kL x vs H Q
def CZ:V->List V->Hp->VK->Prop:=λx a H Q=>kL x a H Q
def ZE:fU X "list.extend" CZ:=by
 intro _ s _ H x _ v _ Q I a d h;let{j,b,_,_,rfl,rfl,i,l,_,q}:=h;cases a;let{u,rfl,a}:=d.one;cases a;let{z,a,n,r,_,e}:=I.lstM i;let{_,d,n2,m,_,o}:=I.lstM l;let l:a.toArray.size+d.toArray.size<=zes:=by rw[t4,t4];omega
 let p:¬(!a.toArray.isEmpty&&Builtin.List.listTooLong (a.toArray.size+d.toArray.size))=true:=by
  rw[MX l,zdF];exact tN
 refine call_meets F.slot_list_extend ({_,e,s0}) F.entry_list_extend (F.args_list_extend_2 _ _)
  (AutoSeq1.list_extend_list_list_0 j a.toArray n b d.toArray n2 p (by rw[t4];omega) {}) ({e,o,?_})
 calc{.non,_,I.lset i e {} (r.append m) ?_,s0,q};rw[tz];omega
inductive VW(x:V)(vs:List V)(H:Hp)(Q:VK):Prop
 | mk (l:_) (xs:_):x=.ref l->vs=[]->H l=tH (.lst xs)->(Q .non (upd H l (.lst xs.reverse)))->VW x vs H Q
def N2:V->List V->Hp->VK->Prop:=λx a H Q=>VW x a H Q
def xw:fU X "list.reverse" N2:=by
 intro _ s _ H x _ v _ Q I b d h;let{i,_,rfl,rfl,a,q}:=h;cases b;let b:=d.zero;subst b;let{z,b,n,r,_,e}:=I.lstM a;calc call_meets F.slot_list_reverse ({_,e,s0}) F.entry_list_reverse (F.args_list_reverse_1 _) (AutoSeq1.list_reverse_list_0 i b.toArray n (by rw[t4];omega)) ({e,?_});calc{.non,_,I.lset a e {} r.reverse ?_,s0,q};rw[zcm];omega
inductive FN(x:V)(y:V)(H:Hp)(Q:VK):Prop
 | mk (l:_) (b:_) (xs:_) (zs:_):x=.ref l->y=.ref b->H l=tH (.lst xs)->H b=tH (.lst zs)->(xs.length+zs.length<=zes)->(∀p,H p=r4->Q (.ref p) (upd H p (.lst (xs++zs))))->FN x y H Q
def T5:R2:=λx y H Q=>FN x y H Q
def Iq:Z8 X (binaryOp .Add) T5:=by
 intro _ s _ H x y v u Q I a d h;let{_,b,_,_,rfl,rfl,i,j,_,q}:=h;cases a;cases d;let{z,a,n,r,_,e}:=I.lstM i;let{_,d,n2,i,_,l}:=I.lstM j;calc PySem.P.add_list e l ?_ (by rw[t4,t4];omega);let j:a.toArray++d.toArray=(a++d).toArray:={}
 rw[j];exact{.ref _,_,I.lnew (r.append i) (by rw[tz];omega),s0,q _ I.fresh}
set_option maxRecDepth 100000 in
section
variable{κ:Type}[DecidableEq κ]
def ja(kvs:List (κ×V))(k:κ):Option V:=(kvs.find? λa=>decide (a.1=k)).map (·.2)
def j2(kvs:List (κ×V))(k:κ)(v:V):List (κ×V):=
 if (kvs.any λa=>decide (a.1=k))=true then kvs.map (λa=>if a.1=k then (a.1,v) else a) else kvs++[(k,v)]
def jE{p:κ×V}{r:List (κ×V)}{k:κ}(e:p.1=k):ja (p::r) k=tH p.2:=by simp [ja,zaY,e]
def jt{p:κ×V}{r:List (κ×V)}{k:κ}(e:¬p.1=k):ja (p::r) k=ja r k:=by simp [ja,zaY,e]
def Zb(k:κ):∀kvs:List (κ×V),(kvs.any λa=>decide (a.1=k))=(ja kvs k).isSome
 | []=>rfl
 | a::r=>by
  rw[zbF];by_cases e:a.1=k
  ·simp only[jE e,decide_eq_true e,Bool.true_or,zdV]
  ·rw[jt e,decide_eq_false e,Bool.false_or];calc Zb k r
def valV_map(k j:κ)(y:V):∀kvs:List (κ×V),ja (kvs.map λa=>if a.1=k then (a.1,y) else a) j=(ja kvs j).map λx=>if j=k then y else x
 | []=>rfl
 | a::r=>by
  let b:=valV_map k j y r;rw[tR];by_cases h:a.1=k
  ·rw[if_pos h];by_cases e:a.1=j
   ·rw[jE (p:=(a.1,y)) e,jE e,zbz,if_pos (e.symm.trans h)]
   ·rw[jt (p:=(a.1,y)) e,jt e,b]
  ·rw[if_neg h];by_cases e:a.1=j
   ·rw[jE e,jE e,zbz,if_neg (λz=>h (e.trans z))]
   ·rw[jt e,jt e,b]
def VE(k j:κ)(y:V):∀kvs:List (κ×V),ja kvs k=r4->ja (kvs++[(k,y)]) j=if j=k then tH y else ja kvs j
 | [],_=>by
  by_cases e:k=j
  ·rw[if_pos e.symm];exact jE e
  ·rw[if_neg (λz=>e z.symm)];calc jt e
 | b::r,a=>by
  rw[zdh];let d:¬b.1=k:=λz=>by rw[jE z]at a;cases a
  rw[jt d]at a;by_cases e:b.1=j
  ·rw[jE e,jE e,if_neg (λz=>d (e.trans z))]
  ·rw[jt e,jt e,VE k j y r a]
def QV(kvs:List (κ×V))(k j:κ)(y:V):ja (j2 kvs k y) j=if j=k then tH y else ja kvs j:=by
 unfold j2;by_cases a:(kvs.any λb=>decide (b.1=k))=true
 ·rw[if_pos a,valV_map];rw[Zb]at a;by_cases e:j=k
  ·let{x,b}:=zco.mp a;rw[if_pos e,e,b,zbz,if_pos rfl]
  ·rw[if_neg e];cases ja kvs j with
   | none=>rfl
   | some x=>rw[zbz,if_neg e]
 ·rw[if_neg a];calc VE k j y kvs ?_;rw[Zb]at a;cases q:ja kvs k with
  | none=>rfl
  | some x=>rw[q]at a;calc(a rfl).elim
def JF(kvs:List (κ×V))(k:κ)(v:V):(j2 kvs k v).length<=kvs.length+1:=by
 unfold j2;split
 ·rw[ta];omega
 ·rw[tz,t7,zdz];omega
def QD{kvs:List (κ×V)}{k:κ}(v:V)(h:ja kvs k=r4):j2 kvs k v=kvs++[(k,v)]:=by
 unfold j2;rw[Zb,h];calc if_neg {}
def ZK.isSome_eq(r:ZK o u):o.isSome=u.isSome:=by
 cases o with
 | none=>cases u with
  | none=>rfl
  | some _=>calc(show False from r).elim
 | some _=>cases u with
  | none=>calc(show False from r).elim
  | some _=>rfl
def ZK.getD(r:ZK o u)(a:qV d b):qV (o.getD d) (u.getD b):=by
 cases o with
 | none=>cases u with
  | none=>calc a
  | some _=>calc(show False from r).elim
 | some _=>cases u with
  | none=>calc(show False from r).elim
  | some _=>calc r
def KV.val(r:KV kvs vs)(k:κ):ZK (ja kvs k) (valueAt vs k):=by
 unfold KV at r;induction r with
 | nil=>calc True.intro
 | @cons d q i a h t j=>
  let{i,_}:=h;by_cases e:d.1=k
  ·let d:=i.symm.trans e;let b:valueAt (q::a) k=tH q.2:=by simp [valueAt,zaY,d]
   rwa [jE e,b]
  ·let d:¬q.1=k:=λz=>e (i.trans z);let b:valueAt (q::a) k=valueAt a k:=by simp [valueAt,zaY,d]
   rwa [jt e,b]
def KV.any(r:KV kvs vs)(k:κ):(kvs.any λa=>decide (a.1=k))=vs.any λa=>decide (a.1=k):=by
 unfold KV at r;induction r with
 | nil=>rfl
 | cons h t a=>rw[zbF,zbF,a,h.1]
def KV.repl(r:KV kvs vs)(k:κ)(b:qV y u):
  KV (kvs.map λa=>if a.1=k then (a.1,y) else a) (vs.map λa=>if a.1=k then (a.1,u) else a):=by
 unfold KV at r ⊢;induction r with
 | nil=>calc .nil
 | @cons d q i j h t a=>
  rw[tR,tR];calc .cons ?_ a;let{a,i}:=h;by_cases e:d.1=k
  ·rw[if_pos e,if_pos (a.symm.trans e)];exact{a,b}
  ·rw[if_neg e,if_neg (λz=>e (a.trans z))];calc{a,i}
def KV.put(r:KV kvs vs)(k:κ)(a:qV y u):KV (j2 kvs k y) (stored vs k u):=by
 unfold j2 stored;rw[r.any k];by_cases e:(vs.any λb=>decide (b.1=k))=true
 ·rw[if_pos e,if_pos e];exact r.repl k a
 ·rw[if_neg e,if_neg e];calc Paired.snoc r ({s0,a})
def KV.length(r:KV kvs vs):kvs.length=vs.length:=Paired.length r
end
def WZ(r:qV (kV k) u):(jN P w).is k u=true:=by
 cases k with
 | inl i=>let{t,e}:=(show ∃t,u=Value.int i t from r);subst e;calc yg P w i t
 | inr x=>let{t,e}:=(show ∃t,u=Value.str x t from r);subst e;calc yf P w x t
def Ua:∀{a:List qJ} {us:List n9},qN (a.map kV) us->ItemsAre (jN P w) a us
 | [],_,r=>by rw[zci]at r;cases r;calc .nil
 | k::a,_,r=>by
  rw[tR]at r;cases r with
  | cons h t=>calc .cons (WZ h) (Ua t)
abbrev KT(H:Hp):List (List qJ×V)->List (List qJ×m9×n9)->Prop:=Paired λa q=>a.1=q.1/\H q.2.1=tH (.tup (a.1.map kV))/\qV a.2 q.2.2
def KT.val(r:KT H kvs xs)(k:List qJ):ZK (ja kvs k) ((atKey xs k).map (·.2)):=by
 induction r with
 | nil=>calc True.intro
 | @cons d q i a h t j=>
  let{i,_,_}:=h;by_cases e:d.1=k
  ·let d:=i.symm.trans e;let b:atKey (q::a) k=tH q.2:=by simp [atKey,zaY,d]
   rwa [jE e,b]
  ·let d:¬q.1=k:=λz=>e (i.trans z);let b:atKey (q::a) k=atKey a k:=by simp [atKey,zaY,d]
   rwa [jt e,b]
def KT.repl(r:KT H kvs xs)(k:List qJ)(d:qV y u):
  KT H (kvs.map λa=>if a.1=k then (a.1,y) else a) (xs.map (putAt k u)):=by
 induction r with
 | nil=>calc .nil
 | @cons i q b j h t a=>
  rw[tR,tR];calc .cons ?_ a;let{a,b,j}:=h;unfold putAt;by_cases e:i.1=k
  ·rw[if_pos e,if_pos (a.symm.trans e)];exact{a,b,d}
  ·rw[if_neg e,if_neg (λz=>e (a.trans z))];calc{a,b,j}
def KT.put(r:KT H kvs xs)(k:List qJ)(d:H b=tH (.tup (k.map kV)))(a:qV y u):
  KT H (j2 kvs k y) (storedH xs k b u):=by
 let e:(kvs.any λi=>decide (i.1=k))=(atKey xs k).isSome:=by
  rw[Zb,(r.val k).isSome_eq,zdc]
 unfold j2 storedH;rw[e];by_cases q:(atKey xs k).isSome=true
 ·rw[if_pos q,if_pos q];exact r.repl k a
 ·rw[if_neg q,if_neg q];calc Paired.snoc r ({s0,d,a})
def KT.keeps{H':Hp}(r:KT H kvs xs)(a:∀b ys,H b=tH (.tup ys)->H' b=tH (.tup ys)):KT H' kvs xs:=
 Paired.mapP r λ_ _ z=>{z.1,a _ _ z.2.1,z.2.2}
def FA(ok:Z3 P w H h)(e:Rd H a u):qL P w H h a u:=e.ok ok
def XC(ok:Z3 P w H h)(e:Rd H a (.dK kvs)):kvs.length<=zes/\(a==sysModules)=false/\∃vs,KV kvs vs/\h.DictOf (jN P w) a vs:=
 show qL P w H h a (.dK kvs) from FA ok e
def yC(ok:Z3 P w H h)(e:H a=tH (.dK kvs)):kvs.length<=zes/\(a==sysModules)=false/\∃vs,KV kvs vs/\h.DictOf (jN P w) a vs:=XC ok (.inl e)
def z7{b:List qJ}(ok:Z3 P w H h)(e:H a=tH (.tup (b.map kV))):(tupleKind (jN P w)).is h b a:=by
 let{_,d,r,i,j,l,n,m}:=(show qL P w H h a (.tup (b.map kV)) from ok a _ e);calc{i,d.toArray,n,j,l,m,by simpa using Ua r}
def XB(ok:Z3 P w H h)(e:Rd H a (.dT kvs)):kvs.length<=zes/\(a==sysModules)=false/\
  ∃xs,KT H kvs xs/\h.DictOfH (tupleKind (jN P w)) a xs:=by
 let{z,y,xs,r,b,d,i,j,l,o,p,u}:=(show qL P w H h a (.dT kvs) from FA ok e);calc{z,y,xs,r,b,d,i,j,l,o,p,λx b=>?_,u};let all:∀{d:List (List qJ×V)} {m:List (List qJ×m9×n9)},KT H d m->∀x∈m,(tupleKind (jN P w)).is h x.1 x.2.1:=by
  intro d m q;induction q with
  | nil=>intro x b;calc nomatch b
  | @cons j q l o d t i=>
   intro x b;rcases tO.mp b with e | b
   ·subst e;exact z7 ok (d.1▸d.2.1)
   ·exact i x b
 calc all r x b
def Ha(ok:Z3 P w H h)(e:H a=tH (.dT kvs)):kvs.length<=zes/\(a==sysModules)=false/\
 ∃xs,KT H kvs xs/\h.DictOfH (tupleKind (jN P w)) a xs:=XB ok (.inl e)
def jk(H:Hp)(a:m9)(y:V)(r:Option V):Prop:=
 (∃kvs k,Rd H a (.dK kvs)/\y=kV k/\r=ja kvs k)\/∃kvs k b,Rd H a (.dT kvs)/\y=.ref b/\H b=tH (.tup (k.map kV))/\r=ja kvs k
def Jv(H:Hp)(a:m9)(y v:V)(H':Hp):Prop:=
 (∃kvs k,H a=tH (.dK kvs)/\y=kV k/\kvs.length < zes/\H'=upd H a (.dK (j2 kvs k v)))\/
 ∃kvs k b,H a=tH (.dT kvs)/\y=.ref b/\H b=tH (.tup (k.map kV))/\kvs.length < zes/\H'=upd H a (.dT (j2 kvs k v))
def jk.k{H:Hp}{a:m9}{kvs:List (qJ×V)}{k:qJ}(e:H a=tH (.dK kvs)):jk H a (kV k) (ja kvs k):=.inl ({kvs,k,.inl e,s0,s0})
def jk.t{H:Hp}{k:List qJ}(e:H a=tH (.dT kvs))(d:H b=tH (.tup (k.map kV))):jk H a (.ref b) (ja kvs k):=.inr ({kvs,k,b,.inl e,s0,d,s0})
def Jv.k{H:Hp}{a:m9}{kvs:List (qJ×V)}{k:qJ}{v:V}(e:H a=tH (.dK kvs))(b:kvs.length < zes):Jv H a (kV k) v (upd H a (.dK (j2 kvs k v))):=.inl ({kvs,k,e,s0,b,s0})
def Jv.t{H:Hp}{k:List qJ}(e:H a=tH (.dT kvs))(d:H b=tH (.tup (k.map kV)))(i:kvs.length < zes):
 Jv H a (.ref b) v (upd H a (.dT (j2 kvs k v))):=.inr ({kvs,k,b,e,s0,d,i,s0})
def qA.big(I:qA X a b H s):sysModules < s.heap.objs.size:=by
 calc zed {} ((I.mod.glob.keeps I.bk).lt)
def GV{A:o2}{Q:n9->n0->Prop}(hu:A.units+1 < cLine)(I:qA X j l H s)(g:jk H a y (tH v))(p:qV y u)(h:∀d i,qA X j l H i->qV v d->Q d i):
  wpAny (model X.prog X.w) A (getItem (.ref a) u) Q E s:=by
 rcases g with ⟨kvs,k,e,i,j⟩ | ⟨kvs,k,b,e,i,q,j⟩
 ·subst i;let{z,hd,_,f9,l}:=XC I.hok e;let{d,m,o}:=ZK.some_of (by rw[j];calc f9.val k);exact wpAny_getItem_of (WZ p) l.mapOf m (h d _ (I.tok _) o)
 ·subst i;cases (show u=Value.ref b from p);let{z,hd,_,f9,l}:=XB I.hok e;let{d,m,o}:=ZK.some_of (by rw[j];calc f9.val k);let{_,i,j}:=zbT.mp m;calc wpAny_getItem_heap (tupleKind_room_in1 hu) (z7 I.hok q) l i ?_;rw[j];calc h d _ (I.tok _) o
def fx{A:o2}{Q:n9->n0->Prop}(hu:A.units+1 < cLine)(I:qA X i j H s)(g:jk H a y o)(l:qV y u)(h:∀d,qA X i j H d->Q (.bool o.isSome) d):
  wpAny (model X.prog X.w) A (compareOp .In u (.ref a)) Q E s:=by
 rcases g with ⟨kvs,k,e,d,i⟩ | ⟨kvs,k,b,e,d,m,i⟩
 ·subst d;let{z,hd,_,f9,j}:=XC I.hok e;calc wpAny_in_of (WZ l) hd j.mapOf ?_;rw[<-(f9.val k).isSome_eq,<-i];exact h _ (I.tok _)
 ·subst d;cases (show u=Value.ref b from l);let{z,hd,_,f9,j}:=XB I.hok e;calc wpAny_in_heap (tupleKind_room_in1 hu) (z7 I.hok m) hd j ?_;let q:=(f9.val k).isSome_eq;rw[zdc]at q;rw[<-q,<-i];calc h _ (I.tok _)
def Es{A:o2}{Q:n9->n0->Prop}(hu:A.units+1 < cLine)(I:qA X i j H s)(g:jk H a y o)(l:qV y u)(h:∀d,qA X i j H d->Q (.bool (!o.isSome)) d):
  wpAny (model X.prog X.w) A (compareOp .NotIn u (.ref a)) Q E s:=by
 rcases g with ⟨kvs,k,e,d,i⟩ | ⟨kvs,k,b,e,d,m,i⟩
 ·subst d;let{z,hd,_,f9,j}:=XC I.hok e;calc wpAny_notIn_of (WZ l) hd j.mapOf ?_;rw[<-(f9.val k).isSome_eq,<-i];exact h _ (I.tok _)
 ·subst d;cases (show u=Value.ref b from l);let{z,hd,_,f9,j}:=XB I.hok e;calc wpAny_notIn_heap (tupleKind_room_in1 hu) (z7 I.hok m) hd j ?_;let q:=(f9.val k).isSome_eq;rw[zdc]at q;rw[<-q,<-i];calc h _ (I.tok _)
def YD(I:qA X j l H s)(m:Hh (H a))(o:Heap.SameBut a s.heap d)(p:∃q,d.get? a=tH q)(new:qL X.prog X.w (upd H a i) d a i):
  qA X j l (upd H a i) {s with heap:=d,toks:=t'}:=
 I.write m (.inl rfl) (λb q d z=>(o.2 b d).trans z) p new
def x3{b:o1}{kvs:List (qJ×V)}(z:kvs.length<=zes)(hd:(a==sysModules)=false)(f9:KV kvs vs)(d:b.DictOf (jN P w) a vs):
 qL P w H' b a (.dK kvs):={z,hd,vs,f9,d}
def GU{A:o2}{Q:Unit->n0->Prop}(hu:A.units+1 < cLine)(I:qA X i j H s)(g:Jv H a y v H')(p:qV y u)(x:qV v r)(h:∀d,qA X i j H' d->Q () d):
  wpAny (model X.prog X.w) A (setItem (.ref a) u r) Q E s:=by
 rcases g with ⟨kvs,k,e,j,d,l⟩ | ⟨kvs,k,b,e,j,B,d,l⟩
 ·subst j l;let{z,hd,_,f9,m}:=yC I.hok e;exact wpAny_setItem_pairs (hsz:=(f9.length▸z)) (WZ p) m λC d o=>h _ (YD I (e▸True.intro) o (let ⟨q,_,_,i,_⟩:=d;({q,i})) (x3 (by have:=JF kvs k v;omega) hd (f9.put k x) d))
 ·subst j l;cases (show u=Value.ref b from p);let{z,hd,_,f9,m}:=Ha I.hok e;calc wpAny_setItem_heap (hsz:=(by rw[<-Paired.length f9];calc z)) (tupleKind_room_in1 hu) (z7 I.hok B) m λC d o=>h _ ?_;let{q,j,l,i,m,p,C,_,D}:=d;calc YD I (e▸True.intro) o ({q,i}) ({by have:=JF kvs k v;omega,hd,_,(f9.put k B x).keeps λc _ d=>?_,q,j,l,i,m,p,C,D});rwa [qf (FV d e (λz=>nomatch z))]
def Hb{Q:n9->n0->Prop}(I:qA X d i H s)(e:Rd H a (.dK kvs))(h:∀t b,qA X d i H b->Q (.int kvs.length t) b):wpAny (model X.prog X.w) A (call (.builtin "len") [.ref a]) Q E s:=by
 let{z,hd,_,f9,b}:=XC I.hok e;calc call_len_dict hd b (by rw[<-f9.length];rw[sizeLine_eq]at z;omega) ?_;rw[<-f9.length];calc h _ _ (I.tok _)
def Sl(i:Expr):Prop:=∀a b,subscripted i false a b=operate [a,b] (getItem a b)
def BU{prog:o3}{w:o4}{A:o2}{E:n9->n0->Prop}{s:n0}{env:Env}{gf gm:Expr}{pos:Pos}{T id:String}{Q:n9->n0->Prop}
  (j:typeLookup (.type T) "__getitem__"=pure (tH (.builtin id))) (l:Sl gm)
  (h:wpAny (model prog w) A (eval gf env) (λo b=>wpAny (model prog w) A (eval gm env) (λi a=>a.TypeIs o T/\wpAny (model prog w) A (getItem o i) Q E a) E b) E s):
  wpAny (model prog w) A (eval (.Subscript gf gm pos) env) Q E s:=by
 calc Subscript_ (wpAny_mono h (λo b b=>wpAny_mono b (λi a b=>?_) λ_ _ x=>x) λ_ _ x=>x);let{d,b}:=b;unfold subscriptTail;calc zep ?_;rw[getitemInPython_of_ne d.not_modules];calc zep (wpAny_specialOf d j ?_);let gj:wpAny (model prog w) A (subscripted gm false o i) (λr d=>wpAny (model prog w) A (letTemporaryGo gf o r >>= λ_=>pure r) Q E d) E a:=by
  rw[l o i];exact wpAny_operating (wpAny_mono b (λr d a=>zep (wpAny_letTemporaryGo (zeq a))) λ_ _ x=>x)
 first
  | calc zeq (zep gj)
  | calc zep (zeq (zep gj))
  | calc zep gj
def yE(I:qA X d i H s)(g:jk H a y o):s.TypeIs (.ref a) "dict":=by
 rcases g with ⟨kvs,k,e,_,_⟩ | ⟨kvs,k,b,e,_,_,_⟩
 ·let{_,_,_,_,d}:=XC I.hok e;exact d.typeIs
 ·let{_,_,_,_,d}:=XB I.hok e;calc d.typeIs
inductive RO(Q:VK)(y:V)(H2:Hp)(a:m9):Prop
 | mk (v:_):(jk H2 a y (tH v))->Q v H2->RO Q y H2 a
def zO(d ty:TE):TE:=λb H Q=>d b H λx d=>ty b d λy b=>oR x λa=>RO Q y b a
inductive EU(Q:VK)(y:V)(H2:Hp)(a:m9):Prop
 | mk (o:_):jk H2 a y o->(Q (.bl o.isSome) H2)->EU Q y H2 a
def SW(ty d:TE):TE:=λb H Q=>ty b H λy i=>d b i λx b=>oR x λa=>EU Q y b a
inductive vD(Q:VK)(y:V)(H2:Hp)(a:m9):Prop
 | mk (o:_):jk H2 a y o->(Q (.bl (!o.isSome)) H2)->vD Q y H2 a
def BQ(ty d:TE):TE:=λb H Q=>ty b H λy i=>d b i λx b=>oR x λa=>vD Q y b a
inductive NQ(D:QY)(σ:St)(v:V)(x:V)(y:V)(H3:Hp):Prop
 | mk (a:_) (H4:_):x=.ref a->Jv H3 a y v H4->D.nx σ H4->NQ D σ v x y H3
def NR(b ty d:TE):TS:=λD a H=>d a H λv d=>b a d λx b=>ty a b λy b=>NQ D a v x y b
def qE(j:JE X o b)(l:JE X i ty)(m:Sl i:=by calc λ_ _=>rfl)(hu:X.A.units+1 < cLine:=by calc hu_of hr):JE X (.Subscript o i pos) (zO b ty):=.of (by
 calc λb s d H Q I h=>BU PySem.F.slot_dict_getitem.lookup m (jy (j.to b s d H _ I h) λu j ⟨x,m,p,q,z⟩=>jy (l.to b j d m _ p z) λ_ _ ⟨y,d,b,j,l⟩=>?_);let{a,ex,v,g,m}:=xR l;subst ex;obtain rfl:u=Value.ref a:=q;calc{yE b g,GV hu b g j λ_ _ b j=>{v,d,b,j,m}})
def zr(j:JE X i ty)(l:JE X o b)(hu:X.A.units+1 < cLine:=by calc hu_of hr):JC X .In i o (SW ty b):=.of (by
 calc λb s d H Q I h=>jy (j.to b s d H _ I h) λ_ j ⟨y,m,p,q,v⟩=>jy (l.to b j d m _ p v) λu _ ⟨x,b,d,j,l⟩=>?_;let{a,ex,m,g,p}:=xR l;subst ex;obtain rfl:u=Value.ref a:=j;calc fx hu d g q λ_ d=>{.bl m.isSome,b,d,s0,p})
def Xf(j:JE X i ty)(l:JE X o b)(hu:X.A.units+1 < cLine:=by calc hu_of hr):JC X .NotIn i o (BQ ty b):=.of (by
 calc λb s d H Q I h=>jy (j.to b s d H _ I h) λ_ j ⟨y,m,p,q,v⟩=>jy (l.to b j d m _ p v) λu _ ⟨x,b,d,j,l⟩=>?_;let{a,ex,m,g,p}:=xR l;subst ex;obtain rfl:u=Value.ref a:=j;calc Es hu d g q λ_ d=>{.bl (!m.isSome),b,d,s0,p})
def jB{pos:Pos}(j:JE X o b)(l:JE X i ty)(m:JE X gf d)(hu:X.A.units+1 < cLine:=by calc hu_of hr)(p:swapsWith gf (tH (.Subscript o i q)) pos.line X.env=pure false:=by calc rfl):JS X (.Assign [.Subscript o i q] gf pos) (NR b ty d):=.of (by
 calc λd s b H D I h=>wpAny_Assign_Subscript (jy (m.to d s b H _ I h) λr m ⟨v,q,z,B,C⟩=>jy (j.to d m b q _ z C) λu j ⟨x,m,q,z,C⟩=>jy (l.to d j b m _ q C) λ_ _ ⟨y,_,d,j,a,l,ex,g,m⟩=>?_) p;subst ex;obtain rfl:u=Value.ref a:=z;calc GU hu d g j B λ_ d=>{b,l,d,m})
def yD(h:o1)(a:sysModules < h.objs.size):qL P w H (h.push {cls:=.type "dict",data:=.dict #[]}) h.objs.size (.dK []):=
 {zax _,beq_eq_false_iff_ne.mpr (Ne.symm (tX a)),[],.nil,Heap.DictOf.new h}
def A6(h:o1)(a:sysModules < h.objs.size):qL P w H (h.push {cls:=.type "dict",data:=.dict #[]}) h.objs.size (.dT []):=
 {zax _,beq_eq_false_iff_ne.mpr (Ne.symm (tX a)),[],.nil,_,#[],0,tL _ rfl,{s0,s0,s0},s0,s0,zaV}
def RN:TE:=λ_ H Q=>∀a,H a=r4->Q (.ref a) (upd H a (.dK []))
def RM:TE:=λ_ H Q=>∀a,H a=r4->Q (.ref a) (upd H a (.dT []))
def Mi:PE X (.Dict [] [] pos) RN:=λ_ s _ H Q I h=>
 wpAny_Dict_empty ({.ref s.heap.objs.size,_,I.laid (λ_ _ q=>tm _ q) (ti _) (yD s.heap I.big),s0,h _ (I.hok.fresh (ti _))})
def j8:JE X (.Dict [] [] pos) RN:=.of (Mi)
def Mh:PE X (.Dict [] [] pos) RM:=λ_ s _ H Q I h=>
 wpAny_Dict_empty ({.ref s.heap.objs.size,_,I.laid (λ_ _ q=>tm _ q) (ti _) (A6 s.heap I.big),s0,h _ (I.hok.fresh (ti _))})
def W5:JE X (.Dict [] [] pos) RM:=.of (Mh)
def y3:List (TE×TE)->St->Hp->(List (V×V)->Hp->Prop)->Prop
 | [],_,H,Q=>Q [] H
 | (tk,b)::r,a,H,Q=>tk a H λx d=>b a d λy i=>y3 r a i λj l=>Q ((x,y)::j) l
abbrev VV:List (V×V)->List (n9×n9)->Prop:=Paired λa q=>qV a.1 q.1/\qV a.2 q.2
def Sk(X:Cx)(pos:Pos)(keys:List (Option Expr))(gi:List Expr)(d:List (TE×TE)):Prop:=
 ∀(b:List (m9×Obj)) (s:n0) (a:St) (H:Hp) (Q:List (V×V)->Hp->Prop),qA X b a H s->y3 d a H Q->
  wpAny (model X.prog X.w) X.A (evalPairs (pairTrees keys gi X.env pos)) (λj l=>∃d i,qA X b a i l/\VV d j/\Q d i) X.xe s
@[irreducible] def BA (X:Cx) (pos:Pos) (keys:List (Option Expr)) (gi:List Expr) (a:List (TE×TE)):Prop:=Sk X pos keys gi a
def BA.of(h:Sk X pos keys gi a):BA X pos keys gi a:=by unfold BA;calc h
def BA.to(h:BA X pos keys gi a):Sk X pos keys gi a:=by unfold BA at h;calc h
def D2:BA X pos [] [] []:=.of (by
 calc λ_ s _ H Q I h=>pairTrees_nil_walk ({[],H,I,.nil,h}))
def Md(d:PE X k tk)(i:PE X v a)(hr:Sk X pos b vs j):
  Sk X pos (tH k::b) (v::vs) ((tk,a)::j):=λa s b H Q I h=>
 pairTrees_cons_walk (jy (d a s b H _ I h) λu d ⟨x,j,l,m,o⟩=>jy (i a d b j _ l o) λ_ d ⟨y,i,j,l,o⟩=>
  jy (hr a d b i _ j o) λ_ _ ⟨a,b,d,f9,i⟩=>{(x,y)::a,b,d,.cons ({m,l}) f9,i})
def W0(a:JE X k tk)(b:JE X v d)(hr:BA X pos i vs j):BA X pos (tH k::i) (v::vs) ((tk,d)::j):=.of (Md a.to b.to hr.to)
def JN(kvs more:List (qJ×V)):List (qJ×V):=more.foldl (λb a=>j2 b a.1 a.2) kvs
def KV.merge:∀{more:List (qJ×V)} {rs:List (qJ×n9)} {kvs:List (qJ×V)} {vs:List (qJ×n9)},KV more rs->KV kvs vs->KV (JN kvs more) (merged vs rs):=by
 intro more rs kvs vs r;unfold KV at r;induction r generalizing kvs vs with
 | nil=>intro q;calc q
 | @cons a q d i h t b=>
  intro d;let e:KV (j2 kvs a.1 a.2) (stored vs q.1 q.2):=by
   let:=d.put a.1 h.2;rwa [<-h.1]
  calc b e
def Zs:∀(more kvs:List (qJ×V)),(JN kvs more).length<=kvs.length+more.length
 | [],kvs=>by show kvs.length<=kvs.length+0;omega
 | a::r,kvs=>by
  let b:=Zs r (j2 kvs a.1 a.2);let b:=JF kvs a.1 a.2;show (JN (j2 kvs a.1 a.2) r).length<=_;rw[t7];omega
def Vd:∀{kvs:List (qJ×V)} {d:List (n9×n9)},VV (kvs.map λi=>(kV i.1,i.2)) d->∃rs,Carries (jN P w) d rs/\KV kvs rs
 | [],_,r=>by rw[zci]at r;cases r;calc{[],True.intro,.nil}
 | d::kvs,_,r=>by
  rw[tR]at r;cases r with
  | @cons a b as bs h t=>
   let{rs,c,q}:=Vd t;let{_,i}:=b;calc{(d.1,i)::rs,{WZ h.1,s0,c},.cons ({s0,h.2}) q}
def Od(b:List (TE×TE)):TE:=λd H Q=>∀a,H a=r4->y3 b d (upd H a (.dK [])) λd b=>b a=tH (.dK [])/\∃kvs:List (qJ×V),d=kvs.map (λd=>(kV d.1,d.2))/\kvs.length<=15/\Q (.ref a) (upd b a (.dK (JN [] kvs)))
def Eb(h:BA X pos keys gi a)(b:keys.all (·.isSome)=true)(d:keys.length=gi.length)(i:keys≠[])(j:keys.length<=15):JE X (.Dict keys gi pos) (Od a):=.of (by
 intro a s l H Q I q;let m:=I.laid (t':=s.toks) (λ_ _ q=>tm _ q) (ti _) (yD s.heap I.big);calc wpAny_Dict_walk (knd:=jN X.prog X.w) b d i j (jy (h.to a _ l _ _ m (q _ (I.hok.fresh (ti s.heap.objs.size)))) λ_ _ ζ=>?_);let{_,_,a,f9,e,kvs,b,lk,d}:=ζ;subst b;let{b,c,rk}:=Vd f9;let{z,hd,_,i,j}:=yC a.hok e;cases i;calc{b,c,j,λ_ b i=>{.ref s.heap.objs.size,_,?_,s0,d}};let d:(JN [] kvs).length<=zes:=by
  let j:=Zs kvs [];rw[zdz]at j;rw[sizeLine_eq];omega
 calc YD a (e▸True.intro) i (let ⟨q,_,_,a,_⟩:=b;({q,a})) (x3 d hd (rk.merge .nil) b))
structure M1(X:Cx)(o:Expr)(m:Str)(b_:Pos)(e:Expr)(gA:Pos):Prop where
 base:attributeBase o m X.env (eval o X.env)=eval o X.env
 few:((backTo gA (starEach [e] X.env)).all (λx=> !x.1)&&(backToKw gA (keywordEach [] X.env)).all (λx=>x.1.isSome)
  &&decide (([e]:List Expr).length+([]:List Keyword).length+(if ([]:List Keyword).isEmpty then 0 else 1) < 30))=true
 line:(b_.endLine==gA.line)=true
 trees:backTo gA (starEach [e] X.env)=[(false,eval e X.env)]
structure M2(X:Cx)(o:Expr)(m:Str)(b_:Pos)(e f:Expr)(gA:Pos):Prop where
 base:attributeBase o m X.env (eval o X.env)=eval o X.env
 few:((backTo gA (starEach [e,f] X.env)).all (λx=> !x.1)&&(backToKw gA (keywordEach [] X.env)).all (λx=>x.1.isSome)
  &&decide (([e,f]:List Expr).length+([]:List Keyword).length+(if ([]:List Keyword).isEmpty then 0 else 1) < 30))=true
 line:(b_.endLine==gA.line)=true
 trees:backTo gA (starEach [e,f] X.env)=[(false,eval e X.env),(false,eval f X.env)]
def SJ(H:Hp)(a:m9):Prop:=(∃kvs,Rd H a (.dK kvs))\/∃kvs,Rd H a (.dT kvs)
def xN(I:qA X j l H s)(d:SJ H a):
  s.TypeIs (.ref a) "dict"/\(∀b,Value.ref a=.ref b->∃i,s.heap.get? b=tH i/\i.dict=r4)/\(a==sysModules)=false:=by
 rcases d with ⟨kvs,e⟩ | ⟨kvs,e⟩
 ·let{_,hd,_,_,j}:=XC I.hok e;calc{j.typeIs,λb q=>?_,hd};cases q;let{i,_,_,l,m,_}:=j;exact{i,l,m.2.1}
 ·let{_,hd,_,_,j}:=XB I.hok e;calc{j.typeIs,λb q=>?_,hd};cases q;let{i,_,_,l,m,_}:=j;calc{i,l,m.2.1}
def LE{A:o2}{Q:n9->n0->Prop}(hu:A.units+1 < cLine)(I:qA X l q H s)(g:jk H a y o)(m:qV y u)(p:qV d r)(h:∀i j,qA X l q H j->qV (o.getD d) i->Q i j):
  wpAny (model X.prog X.w) A (call (.builtin "dict.get") [.ref a,u,r]) Q E s:=by
 rcases g with ⟨kvs,k,e,j,l⟩ | ⟨kvs,k,b,e,j,q,l⟩
 ·subst j;let{z,hd,_,f9,i}:=XC I.hok e;calc call_meetsIn zcz i.typeIs zds (zdi _ _ _) (meets_dict_get_default (jN X.prog X.w) a (WZ m) hd r) ({_,i.mapOf,h _ _ (I.tok _) ?_});rw[l];exact(f9.val k).getD p
 ·subst j;cases (show u=Value.ref b from m);let{z,hd,j,f9,i}:=XB I.hok e;calc call_meetsIn zcz i.typeIs zds (zdi _ _ _) (meetsH_dict_get_default (tupleKind (jN X.prog X.w)) a b hd r) ({tupleKind_room_in1 hu,k,j,z7 I.hok q,i,h _ _ (I.tok _) ?_});rw[l];calc(f9.val k).getD p
inductive wC(ty tx:TE)(σ:St)(Q:VK)(x:V)(H1:Hp):Prop
 | mk (a:_):x=.ref a->SJ H1 a->(ty σ H1 λy H2=>tx σ H2 λz H3=>∃o,jk H3 a y o/\Q (o.getD z) H3)->wC ty tx σ Q x H1
def Hr(b ty d:TE):TE:=λa H Q=>b a H λx b=>wC ty d a Q x b
def AC{X:Cx}(hu:X.A.units+1 < cLine)(j:JE X o b)(l:JE X e ty)(p:JE X f i)(m:M2 X o "get" b_ e f q):JE X (.Call (.Attribute o "get" b_) [e,f] [] q) (Hr b ty i):=.of (by
 calc λb s i H Q I h=>wpAny_Call_method m.base m.few m.line zbx zcz PySem.F.type_dict_get (jy (j.to b s i H _ I h) λu q ⟨x,v,j,B,a,ex,d,C⟩=>?_);subst ex;obtain rfl:u=Value.ref a:=B;let{B,D,_}:=xN j d;exists B,D;rw[m.trees];refine Calls.callWith_builtin rfl (Calls.evalArgs_plain (Calls.spliced_cons (jy (l.to b q i v _ j C) λ_ j ⟨y,l,q,v,B⟩=>
  Calls.spliced_cons (jy (p.to b j i l _ q B) λ_ _ ⟨z,b,i,j,_,g,l⟩=>Calls.spliced_nil ?_))))
 calc LE hu i g v j λ_ _ i j=>{_,b,i,j,l})
end L2
namespace Att
open PySem PySem.W PySem.Calls
open PyProof.Rows hiding K lo
def XJ:∀(ns:List Int) (vs:List n9),WellAll P h vs (ns.map WData.int)->IntsAre vs ns:=by
 intro ns;induction ns with
 | nil=>
  intro vs w;rw[zci]at w;cases w;calc .nil
 | cons n ns d=>
  intro vs w;rw[tR]at w;cases w with
  | cons a b=>
   cases a;calc .cons _ _ (d _ b)
def KI{l:OpenLaw}(m:l.most=tH n)(b:l.row.toRowW.claim.pre args=true)(o:WellAll P h i args):
  ∃a vs ns,i=[Value.ref a]/\args=[WData.list (ns.map WData.int)]/\h.get? a=tH {cls:=.type "list",data:=.seq vs.toArray}/\IntsAre vs ns/\ns.length<=n:=by
 let j:l.pre.holds [] {args:=args}=true:=(pre_splitW b).2;let{d,r,rfl,p,u}:=hasAllW_cons ((pre_splitW b).1);obtain rfl:=hasAllW_nil u;let{_,rfl,v}:=hasW_list p;let{ns,rfl}:=items_int v;let x:ns.length<=n:=by
  unfold OpenLaw.pre at j;let i:(WTm.not (.lt (.lit (.int (n:Int))) (.len (.arg 0)))).holds [] {args:=[.list (ns.map .int)]}=true:=by
   let i:=(holds_andW j).1;rwa [m]at i
  let b:=condW_of i (w_not (w_lt w_lit (w_len_list (w_arg rfl))));rw[ta]at b;refine Nat.le_of_not_lt λq=>?_
  first
   | (rw[decide_eq_true {}]at b;calc absurd b {})
   | (simp at b;omega)
 cases o with
 | cons y z=>
  cases z;cases y with
  | list b i=>calc{_,_,ns,s0,s0,b,XJ ns _ i,x}
def KZ(l:OpenLaw)(args:List WData):l.row.toRowW.claim.post args (.bool true) args=true:=
 postW_of
  (show WShape.has [] (.bool true) .bool=true by first | rfl | decide | simp [WShape.has,WShape.arms,WShape.armsAll])
  (show (WTm.eq .res (.lit (.bool true))).value [] {args:=args,res:=tH (.bool true),after:=args}=tH (.bool (true==true)) from w_eq_bool (w_res rfl) w_lit) rfl
def attach_call{l:OpenLaw}{v:o4->o1->Prop}{d:DefRec}(x:l.most=tH n)(y:d.params.defaults=[]) (call:∀(w:o4) (s₀ b:n0) (mg p:Str->Option n9) (i:m9) (o:Obj) (pm j u:n9) (a:m9) (vs:List n9) (ns:List Int),
   Ground q z [] B w s₀ mg p b.heap->v w b.heap->
   b.heap.get? i=tH o->o.data=.func (docDef d.name d.params d.body d.scope pm j u)->b.heap.CodeRec j d.name->mg d.name=tH (.ref i)->
   b.heap.get? a=tH {cls:=.type "list",data:=.seq vs.toArray}->IntsAre vs ns->ns.length<=n->b.gens=#[]->
   codeAny (model l.prog w) callerA (.call (.ref i) ({[.ref a],[]})) (λr m=>r=.ok (.ret (.bool true))/\OldK b.heap m.heap/\m.os=b.os/\AllBare m.gens) b):
  WalkO q z B v l.row.toRowW d [] (λf vs=>PySem.call f vs):=by
 intro w s₀ b mg p G Y i o pm j u z kV B hd C v D H args _ as J _ _ L _;obtain rfl:z=.none:=Dflts.none v y;obtain rfl:kV=.none:=Dflts.noKw v;let{a,vs,ns,rfl,rfl,v,y,z}:=KI x J L;calc enter_call (codeAny_mono (call w s₀ b mg p i o pm j u a vs ns G Y B (fd_plain hd) C D v y z H) λr m b=>?_);let{rfl,i,j,m}:=b;calc{.inl ({.bool true,.bool true,[],s0,λ_=>rfl,.bool true,KZ l _,λ_=>{zdS.nil,λ_ b=>(nomatch b)}}),i,j,m}
end Att
namespace L2
open PySem PySem.Spec
open PyProof.Rows hiding K lo
def VD:∀{vs:List n9} {ns:List Int},IntsAre vs ns->qN (ns.map V.int) vs
 | _,_,.nil=>.nil
 | _,_,.cons n t h=>.cons ({t,s0}) (VD h)
def LK(H:Hp):Prop:=∀b,H b=r4\/∃a d,H b=tH (.frz a (.lst d))
def Ai{K:zen}{x:Str}{i:n0}{vs:List n9}(O:K.In i.heap)(Q:i.heap.Ns mainGlobals mg)(l:i.heap.Ns builtinsNs T)(ae:∀x:Str,x≠"__name__"->T x=bootBuiltins x)(af:i.heap.NoLimit)(hg:i.gens=#[])(y:i.heap.get? a=tH {cls:=.type "list",data:=.seq vs.toArray})(U:IntsAre vs ns)(Y:ns.length<=zes)(hr:jK k callerA)(F:∀base:o1,K.In base->base.Ns mainGlobals mg->qu P w K mg base CX k fa fd [x] sp)(ag:∀(s:n0) (u:n9),BindsTo s fd ({[u],[]}) [(x,u)])(ah:∀H:Hp,LK H->JX K H a (ns.map V.int)->sp [.ref a] H (λv _=>v=.bl true) λ_ _ _=>False)(ai:∀H e o,CX [] H i (λ_ _ _=>False) e o->False):
  codeAny (model P w) callerA (.call (.ref fa) ({[.ref a],[]})) (λr o=>r=.ok (.ret (.bool true))/\OldK i.heap o.heap/\o.os=i.os/\AllBare o.gens) i:=by
 let rv:=VD U;let h9:∀H:Hp,LK H->JX K H a (ns.map V.int)->Z3 P w H i.heap->(∀b,H b≠r4->b=a)->(H a≠r4->K.lookup a=r4)->
   codeAny (model P w) callerA (.call (.ref fa) ({[.ref a],[]})) (λr o=>r=.ok (.ret (.bool true))/\OldK i.heap o.heap/\o.os=i.os/\AllBare o.gens) i:=by
  intro H hO hS aa hA hK;let ab:∀{b:m9} {j:Obj},i.heap.get? b=tH j->H b=r4->(xT i.heap H).get? b=tH j:=λe n=>AO e n;let aj:∀{b:m9} {j:Obj} {B:Array DictEntry} {C:Nat},i.heap.get? b=tH j->j.data=.dict B C->H b=r4:=λ{b j B C} e d=>by
   cases q:H b with
   | none=>rfl
   | some u=>
    let J:=hA b (by rw[q];simp);subst J;rw[y]at e;cases e;cases d
  let D:∀{b:m9} {m:Str->Option n9},i.heap.Ns b m->(xT i.heap H).Ns b m:=λ{b m} ⟨j,B,C,e,d,r⟩=>{j,B,C,ab e (aj e d),d,r};let ac:K.In (xT i.heap H):=λb j e=>ab (O b j e) (by
   cases q:H b with
   | none=>rfl
   | some u=>
    let J:=hA b (by rw[q];simp);subst J;rw[hK (by rw[q];simp)]at e;cases e)
  calc codeAny_mono ((F _ ac (D Q)).run callerA [] i H ({[.ref a],[]}) [.ref a] [.ref a] _ _ hr ({s0,{ac,D Q,{T,D l,ae},let ⟨mc,h1,h2⟩:=af;({mc,D h1,h2})},λb j e=>Dz e,zcN (Gw _ _),trivial,λb l=>absurd (show b∈([]:List m9) from l) {},aa,.of_eq hg}) (ag i (.ref a)) (.cons rfl .nil) (ah H hO hS)) λr o h=>?_;cases r with
  | error e=>calc(ai H e o h).elim
  | ok fl=>
   cases fl with
   | next=>calc False.elim h
   | brk=>calc False.elim h
   | cont=>calc False.elim h
   | ret u=>
    let{v,H',os,bare,un,ak,r',q}:=h;let q':=q;subst q';obtain rfl:u=Value.bool true:=r';calc{s0,OldK.of_keep λb j e=>?_,os,bare};cases q:H b with
    | none=>calc un.keep b j e q (by intro z;calc absurd (show b∈([]:List m9) from z) {}) {}
    | some u=>
     rcases hO b with z | ⟨ob,xs,z⟩
     ·rw[q]at z;cases z
     ·let z2:=un.frzs b ob _ z;let{e1,_}:=aa b _ z;let{e2,_}:=ak b _ z2;rw[e]at e1;cases e1;exact e2
 cases L:K.lookup a with
 | some j=>
  let e:=O a j L;rw[y]at e;cases e;calc h9 (λ_=>r4) (λ_=>.inl rfl) (.inr ({_,vs.toArray,_,L,s0,s0,s0,by rw[t4,U.length];exact Y,by simpa using rv})) (λb u z=>by have p:=z;cases p) (λb z=>absurd rfl z) λz=>absurd rfl z
 | none=>
  refine h9 (λb=>if b=a then tH (.frz {cls:=.type "list",data:=.seq vs.toArray} (.lst (ns.map V.int))) else r4) (λb=>?_) (.inl (.inr ({{cls:=.type "list",data:=.seq vs.toArray},if_pos rfl}))) (λb u z=>?_) (λb z=>?_) λ_=>L
  ·by_cases l:b=a
   ·exact .inr ({_,_,if_pos l})
   ·exact .inl (if_neg l)
  ·by_cases l:b=a
   ·let p:=(if_pos l).symm.trans z;cases p;subst l;exact{y,by rw[ta];calc Y,vs,_,rv,y}
   ·let p:=(if_neg l).symm.trans z;cases p
  ·by_cases l:b=a
   ·exact l
   ·exact absurd (if_neg l) z
def walk_of{l:PySem.W.OpenLaw}{m:o4->o1->Prop}{d:DefRec}{K:Params->zen}{o:o4->Rj}{p:o4->Sp}(y:l.most=tH n)(z:n<=zes)(B:d.params.defaults=[])(hr:jK k callerA)(C:∀(w:o4) (h:o1),m w h->(K w.params).In h) (F:∀(w:o4) (mg:Str->Option n9) (b:m9) (h:o1),(K w.params).In h->h.Ns mainGlobals mg->mg d.name=tH (.ref b)->
   ∃i:zer,(∀(s:n0) (u:n9),BindsTo s i ({[u],[]}) [(x,u)])/\
    ∀base:o1,(K w.params).In base->base.Ns mainGlobals mg->qu l.prog w (K w.params) mg base (o w) k b i [x] (p w)) (D:∀(w:o4) (H:Hp) (a:m9) (ns:List Int),ns.length<=n->LK H->JX (K w.params) H a (ns.map V.int)->p w [.ref a] H (λv _=>v=.bl true) λ_ _ _=>False) (J:∀(w:o4) (H:Hp) (s:n0) (e:n9) (j:n0),o w [] H s (λ_ _ _=>False) e j->False):
  PySem.W.WalkO q L O m l.row.toRowW d [] (λf vs=>PySem.call f vs):=by
 calc Att.attach_call y B λw _ p mg _ b _ pm _ _ a vs ns G Y _ hd _ y B L m O=>?_;let o:=C w _ Y;let{i,C,Q}:=F w mg b _ o G.T.g y;exact Ai o G.T.g G.T.b G.T.builtins G.T.nolimit O B L (tP m z) hr Q C (λH b i=>D w H a ns m b i) λH e j=>J w H p e j
def Qg(s:o0)(j:Nat):o0:=match s with
 | .ClassDef _ _ _ gu _ _ _ _ _ _ _=>gu.getD j (.Pass ({0,0,0,0}))
 | _=>.Pass ({0,0,0,0})
def JB(s:o0):Arguments:=match s with
 | .FunctionDef _ a _ _ _ _ _ _ _ _=>a
 | _=>{posonlyargs:=[],args:=[],vararg:=r4,kwonlyargs:=[],kw_defaults:=[],kwarg:=r4,defaults:=[]}
def Qr(s:o0):List o0:=match s with
 | .FunctionDef _ _ b _ _ _ _ _ _ _=>b
 | _=>[]
def qg(s:o0):Scope:=match s with
 | .FunctionDef _ _ _ _ _ _ a _ _ _=>a
 | _=>{kind:=.function,names:=[],isGenerator:=false,isCoroutine:=false}
abbrev jh:Rj:=λ_ _ _ _ _ _=>False
abbrev E0:XK:=λ_ _ _=>False
def QP:QT jh X E0:=λ_ _ _ _ _ _ _ h=>h.elim
structure jJ(K:zen)(x gB:Str)(st:o0)(f:m9)(fd:zer):Prop where
 ex:∃(oc:n9) (od:Option m9) (kV l5 pm:n9) (an:Option m9) (i1 ct:n9) (lA:Array (Option n9)),
  fd=zbk x gB (JB st) (Qr st) (qg st) .none kV l5 pm an i1 ct/\K.lookup f=tH ({oc,od,.func fd,lA})/\zbI K i1 gB=true
 kp:zaM K (.ref f)=true
def jJ.ok{P:o3}{w:o4}{K:zen}{mg:Str->Option n9}{base:o1}{x b:Str}{st:o0}{f:m9}{i:zer}{N ps:List Str}{k:Nat}{d:Sp}(F:jJ K x b st f i)(S:ql N ps (qg st))(len:∀vs H Q E,d vs H Q E->vs.length=ps.length)
  (j:∀(a:n9) (A:o2) (outer:List Env) (s:n0) (H:Hp) (vs:List V) (Q:VK) (E:XK),jK k (A.deeper (envOfC b (qg st) s.heap.objs.size f a))->d vs H Q E->
   ∃t,Bx (Ji jh P w K mg base N b (qg st) f a A outer s H E).nox (Qr st) t/\t {nx:=λ_ H'=>Q .non H',rt:=Q} (Z9 N vs) H):qu P w K mg base jh (k+1) f i ps d:=by
 let{_,_,kV,_,pm,_,a,_,_,rfl,lk,b}:=F.ex;calc F7 lk b S len λA outer s H vs Q E hr b=>?_;let{t,h,q}:=j a A outer s H vs Q E hr b;calc{t,h.nox,q}
def jJ.okJ{P:o3}{w:o4}{K:zen}{mg:Str->Option n9}{base:o1}{x i:Str}{st:o0}{f:m9}{l:zer}{N ps:List Str}{k:Nat}{j:Sp}(F:jJ K x i st f l)(S:ql N ps (qg st))(len:∀vs H Q E,j vs H Q E->vs.length=ps.length)
  (m:∀(d:n9) (A:o2) (outer:List Env) (s:n0) (H:Hp) (vs:List V) (Q:VK) (E:XK),jK k (A.deeper (envOfC i (qg st) s.heap.objs.size f d))->j vs H Q E->
   ∃t,Vm (Ji jh P w K mg base N i (qg st) f d A outer s H E).nox (Qr st) t/\t {nx:=λ_ H'=>Q .non H',rt:=Q} (Z9 N vs) H):qu P w K mg base jh (k+1) f l ps j:=
 F.ok S len λd A outer s H vs Q E hr h=>let ⟨t,a,b⟩:=m d A outer s H vs Q E hr h;({t,a.to,b})
def jJ.okK{P:o3}{w:o4}{K:zen}{mg:Str->Option n9}{base:o1}{x a:Str}{st:o0}{f:m9}{d:zer}{N ps:List Str}{k:Nat}{b:Sp}(F:jJ K x a st f d)(S:ql N ps (qg st))(j:∀{i:n9} {A:o2} {outer:List Env} {s:n0} {vs:List V} {nd:N.Nodup} (H:Hp) (Q:VK) (E:XK),jK k (A.deeper (envOfC a (qg st) s.heap.objs.size f i))->b vs H Q E->let X:=(Ji jh P w K mg base N a (qg st) f i A outer s H E).nox;∃t,Vm X (Qr st) t/\t {nx:=λ_ H'=>Q .non H',rt:=Q} (Z9 N vs) H)(len:∀vs H Q E,b vs H Q E->vs.length=ps.length:=by intro _ _ _ _ z;first | (cases z;subst_vars;rfl) | repeat first | (let{rfl,_}:=z;rfl) | let{_,z}:=z):qu P w K mg base jh (k+1) f d ps b:=F.okJ S len λ_ _ _ _ H _ Q E hr z=>j (nd:=S.nd) H Q E hr z
def jJ.binds{K:zen}{x i:Str}{st:o0}{f:m9}{j:zer}{ps:List Str}(F:jJ K x i st f j)
  (h:∀(kV a pm:n9) (b:Option m9) (d ct:n9) (us:List n9),us.length=ps.length->bindArgs (zbk x i (JB st) (Qr st) (qg st) .none kV a pm b d ct) ({us,[]})=pure (ps.zip us)):Qj K j ps []:=by
 let{_,_,kV,a,pm,b,d,ct,_,rfl,lk,_}:=F.ex;calc .all (h kV a pm b d ct)
def Xi{K:zen}{x a:Str}{st:o0}{f:m9}{j:n9}{m d:Option m9}{o:Array (Option n9)}{kV i pm b ct:n9}(l:K.lookup f=tH ({j,m,.func (zbk x a (JB st) (Qr st) (qg st) .none kV i pm d b ct),o}))
 (c:zbI K b a=true) (k:zaM K (.ref f)=true):jJ K x a st f (zbk x a (JB st) (Qr st) (qg st) .none kV i pm d b ct):={{j,m,kV,i,pm,d,b,ct,o,s0,l,c},k}
def hu_of(hr:jK k A):A.units+1 < cLine:=zbf (zdL (by decide:1<=64) _) hr.units
def qi(h:n<=1000):n < zes:=zbf h {}
def J7(h:Nat.ble n 1000=true:=by calc rfl):n<=zes:=tP (Nat.le_of_ble_eq_true h) {}
def pv{X:Cx}(i:Nat)(hN:X.N[i]?=tH x:=by rfl)(a:Si X.env.scope x:=by first | calc Or.inl rfl | calc Or.inr (Or.inl rfl) | calc Or.inr (Or.inr rfl))(hd:(x==("__debug__":Str))=false:=by decide)(b:(x==("__classdict__":Str))=false:=by decide):PE X (.Name x pos) (jd i):=Ig hN a hd b
def jv{X:Cx}(i:Nat)(hN:X.N[i]?=tH x:=by rfl)(a:Si X.env.scope x:=by first | calc Or.inl rfl | calc Or.inr (Or.inl rfl) | calc Or.inr (Or.inr rfl))(hd:(x==("__debug__":Str))=false:=by decide)(b:(x==("__classdict__":Str))=false:=by decide):JE X (.Name x pos) (jd i):=.of (pv i hN a hd b)
def jx{A B:Prop}(h:B):if false=true then A else B:=by
 rwa [if_neg tN]
def Qq{A B:Prop}(h:A):if true=true then A else B:=by
 rwa [if_pos rfl]
def Yw{c A B:Prop}[Decidable c](a:c->A)(b:¬c->B):if c then A else B:=by
 by_cases h:c
 ·rw[if_pos h];exact a h
 ·rw[if_neg h];calc b h
def qj(H H':Hp):Prop:=∀b a,H b=tH a->H' b=tH a
def qj.refl(H:Hp):qj H H:=λ_ _ h=>h
def qj.trans(a:qj H d)(b:qj d i):qj H i:=λc d h=>b c d (a c d h)
def qj.seq(e:qj H H')(h:JX K H a xs):JX K H' a xs:=by
 rcases h with (h | ⟨b,h⟩) | h
 ·exact .inl (.inl (e _ _ h))
 ·exact .inl (.inr ({b,e _ _ h}))
 ·calc .inr h
def G1:Q8 X (.builtin "len") (λxs H Q=>∃a kvs,xs=[V.ref a]/\H a=tH (.dK kvs)/\Q (.int kvs.length) H):=by
 intro _ s _ H xs _ Q I r h;let{a,kvs,rfl,b,q}:=h;let{u,rfl,d}:=Jm r;cases d;calc Hb I (.inl b) λt _ b=>{.int kvs.length,H,b,{t,s0},q}
section
variable{κ:Type}[DecidableEq κ]
def BG{kvs:List (κ×V)}{k:κ}{v:V}(h:ja kvs k=tH v):k∈kvs.map (·.1):=by
 let q:(kvs.any λa=>decide (a.1=k))=true:=by
  rw[Zb,h]
  all_goals rfl
 let{a,b,e}:=zaW.mp q;calc tc.mpr ({a,b,of_decide_eq_true e})
end
end L2
set_option maxHeartbeats 4000000
namespace L2
open PySem PySem.Spec
open PyProof.Rows hiding K lo
def u6:(NameKind.free==NameKind.free)=true:=rfl
def QS(env:Env):List (Str×NameKind)->List (Str×m9)->List (Str×m9)
 | [],a=>a
 | (n,k)::r,a=>QS env r (if k==.free then (n,(env.cells.lookup n).getD 0)::a else a)
def zS{env:Env}(h:∀x∈scope.names,x.2=.free->∃c,env.cells.lookup x.1=tH c):closureFor scope env=pure (QS env scope.names []):=by
 simp only[closureFor];let gF:∀(b:List (Str×NameKind)) (d:List (Str×m9)),(∀x∈b,x.2=.free->∃c,env.cells.lookup x.1=tH c)->
   (forIn b d λx (r:List (Str×m9))=>if (x.snd==NameKind.free)=true then (do let a <-cellOf env x.fst;pure (ForInStep.yield ((x.fst,a)::r)):Sem (ForInStep (List (Str×m9)))) else pure (ForInStep.yield r))=(pure (QS env b d):Sem (List (Str×m9))):=by
  intro b;induction b with
  | nil=>intro d _;rfl
  | cons x b l=>
   intro d i;let{n,k}:=x;let j:=λm=>l m λy o=>i y (tI _ o);rw[List.forIn_cons];by_cases l:k=.free
   ·subst l;let{c,m}:=i (n,.free) tK rfl;let o:cellOf env n=pure c:=by
     unfold cellOf;rw[m]
    let i:QS env ((n,NameKind.free)::b) d=QS env b ((n,c)::d):=by
     show QS env b (if (NameKind.free==NameKind.free)=true then (n,(env.cells.lookup n).getD 0)::d else d)=_;rw[if_pos u6,m];rfl
    rw[i,<-j]
    try dsimp only
    rw[if_pos u6,o];rfl
   ·let m:(k==NameKind.free)=false:=by simpa using l
    let i:QS env ((n,k)::b) d=QS env b d:=by
     show QS env b (if (k==NameKind.free)=true then (n,(env.cells.lookup n).getD 0)::d else d)=_;rw[if_neg (by rw[m];decide)]
    rw[i,<-j]
    try dsimp only
    rw[if_neg (by rw[m];decide)];rfl
 rw[gF scope.names [] h];rfl
def XE:∀{l:List (Str×NameKind)} {a:List (Str×m9)},(QS env l a).lookup x=tH c->a.lookup x=tH c\/((x,NameKind.free)∈l/\c=(env.cells.lookup x).getD 0)
 | [],a,h=>.inl h
 | (n,k)::r,a,h=>by
  rcases XE (l:=r) h with h | ⟨i,j⟩
  ·by_cases b:k=.free
   ·subst b;rw[if_pos u6,zaq]at h;by_cases d:x=n
    ·subst d;simp only[beq_self_eq_true]at h;exact .inr ({tK,(tH.inj h).symm})
    ·let a:=beq_eq_false_iff_ne.mpr d;simp only[a]at h;exact .inl h
   ·let a:(k==NameKind.free)=false:=by simpa using b
    rw[if_neg (by rw[a];decide)]at h;exact .inl h
  ·calc .inr ({tI _ i,j})
def Ya:∀{l:List (Str×NameKind)} {a:List (Str×m9)},((x,NameKind.free)∈l\/∃c,a.lookup x=tH c)->∃c,(QS env l a).lookup x=tH c
 | [],a,h=>by
  rcases h with h | h
  ·cases h
  ·calc h
 | (n,k)::r,a,h=>by
  show ∃c,(QS env r (if (k==NameKind.free)=true then (n,(env.cells.lookup n).getD 0)::a else a)).lookup x=tH c;calc Ya ?_;rcases h with h | ⟨c,h⟩
  ·rcases tO.mp h with h | h
   ·cases h;calc .inr ({(env.cells.lookup x).getD 0,?_});rw[if_pos u6,zaq];simp only[beq_self_eq_true]
   ·exact .inl h
  ·calc .inr ?_;by_cases a:(k==NameKind.free)=true
   ·rw[if_pos a,zaq];cases b:x==n with
    | true=>calc{_,s0}
    | false=>exact{c,h}
   ·rw[if_neg a];calc{c,h}
def Yn{scope:Scope}{env:Env}:∀{names:List (Str×NameKind)},names.lookup x=tH k->
  ∃b,(names.map λ(n,k)=>if (k==NameKind.free&&env.scope.kind==.function&&env.kindOf n==tH .cell) then (n,NameKind.cell) else (n,k)).lookup x=tH b/\(b=k\/(k=.free/\b=.cell))
 | [],h=>by simp at h
 | (n,j)::r,h=>by
  rw[tR];by_cases i:x=n
  ·subst i;rw[zaq]at h;simp only[beq_self_eq_true]at h;cases h
   try dsimp only
   by_cases a:(k==NameKind.free&&env.scope.kind==.function&&env.kindOf x==tH .cell)=true
   ·rw[if_pos a,zaq];simp only[beq_self_eq_true];calc{_,s0,.inr ({?_,s0})};simp only[zaw,beq_iff_eq]at a;exact a.1.1
   ·rw[if_neg a,zaq];simp only[beq_self_eq_true];exact{_,s0,.inl rfl}
  ·let d:=beq_eq_false_iff_ne.mpr i;rw[zaq]at h;simp only[d]at h;let{b,i,l}:=Yn (scope:=scope) h;refine{b,?_,l}
   try dsimp only
   by_cases a:(j==NameKind.free&&env.scope.kind==.function&&env.kindOf n==tH .cell)=true
   ·rw[if_pos a,zaq];simp only[d];exact i
   ·rw[if_neg a,zaq];simp only[d];calc i
def mem_of_lookup:∀{l:List (Str×NameKind)},l.lookup x=tH k->(x,k)∈l
 | [],h=>by simp at h
 | (n,a)::r,h=>by
  rw[zaq]at h;by_cases a:x=n
  ·subst a;simp only[beq_self_eq_true]at h;cases h;exact tK
  ·let b:=beq_eq_false_iff_ne.mpr a;simp only[b]at h;calc tI _ (mem_of_lookup h)
def zQ{f:Str×NameKind->Str×NameKind}(a:∀p,(f p).1=p.1):∀{l:List (Str×NameKind)},(l.map f).lookup x=tH k->∃j,l.lookup x=tH j/\(f (x,j)).2=k
 | [],h=>by simp at h
 | (n,j)::r,h=>by
  rw[tR]at h;let e:f (n,j)=(n,(f (n,j)).2):=by
   let:=a (n,j);exact Prod.ext this rfl
  rw[e,zaq]at h;rw[zaq];by_cases b:x=n
  ·subst b;simp only[beq_self_eq_true]at h ⊢;exact{j,s0,tH.inj h}
  ·let d:=beq_eq_false_iff_ne.mpr b;simp only[d]at h ⊢;calc zQ a h
def XD(X:Cx)(N:List Str)(scope:Scope)(C:m9)(a:n0)(b:Hp)(fp:List m9)(d:List (m9×Obj)):Cx where
 prog:=X.prog
 w:=X.w
 K:=X.K
 mg:=X.mg
 base:=X.base
 A:=X.A
 N:=N
 s₀:=a
 H₀:=b
 env:=compEnvC scope (QS X.env scope.names []) C X.env
 outer:=X.stack
 stack:=X.stack
 ex:=fp
 fn:=λ_=>false
 calm:=X.calm
 pn:=X.pn++d
 xe:=λ_ _=>False
def ndC{N':List Str}(h:N'.Nodup:=by decide+kernel):(XD X N' scope C s H fp a).N.Nodup:=h
def Hs(ix:List (Option Nat))(a:St):St:=ix.map λb=>b.bind λb=>(a[b]?).join
def Lp(N' N:List Str)(d b:Scope)(ix:List (Option Nat)):Bool:=
 ix.length==N'.length&&(ix.zip N').all λa=>match a.1 with
  | none=>true
  | some i=>N[i]?==tH a.2&&d.names.lookup a.2==tH .free&&(b.names.lookup a.2==tH .cell || b.names.lookup a.2==tH .free)
structure Q2(X:Cx)(N':List Str)(ix:List (Option Nat))(scope:Scope):Prop where
 kind:scope.kind=.function
 nocell:(scope.names.all λx=>x.2 != .cell)=true
 locs:(scope.names.all λx=>x.2 != .local || scope.names.lookup x.1==tH .local)=true
 frees:(scope.names.all λx=>x.2 != .free || (X.env.scope.names.lookup x.1==tH .cell || X.env.scope.names.lookup x.1==tH .free))=true
 ixs:Lp N' X.N scope X.env.scope ix=true
def Q2.cellH(S:Q2 X N' ix scope):∀y∈scope.names,y.2≠.cell:=λy a e=>by
 let:=zaK.mp S.nocell y a;rw[e]at this;calc absurd this {}
def Q2.locH(S:Q2 X N' ix scope):∀y∈scope.names,y.2=.local->scope.names.lookup y.1=tH .local:=λy a e=>by
 let:=zaK.mp S.locs y a;simp only[e,zdA,bne_self_eq_false,zaP,false_or,beq_iff_eq]at this;calc this
def Q2.freeH(S:Q2 X N' ix scope)(ok:X.Ok):∀x∈scope.names,x.2=.free->∃c,X.env.cells.lookup x.1=tH c:=λx a e=>by
 let:=zaK.mp S.frees x a;simp only[e,zdA,bne_self_eq_false,zaP,false_or,beq_iff_eq]at this;calc ok.has x.1 this
def Q2.clook(S:Q2 X N' ix scope)(ok:X.Ok)(h:(QS X.env scope.names []).lookup x=tH c):X.env.cells.lookup x=tH c/\(x,NameKind.free)∈scope.names:=by
 rcases XE h with h | ⟨a,b⟩
 ·simp at h
 ·let{_,i}:=S.freeH ok _ a rfl;let d:=i;rw[d]at b;subst b;calc{d,a}
def Sc{fp:List m9}(S:Q2 X N' ix scope)(I:qA X a d H s)(m:s.heap.objs.size<=C)(i:∀b∈fp,Yc X a H b)(p:∀b∈fp,b < s.heap.objs.size):(XD X N' scope C s H fp a).Ok where
 mod:=I.ok.mod
 kind:=S.kind
 glob:=I.ok.glob
 blt:=I.ok.blt
 above:=m
 inj:=λx y c a d=>I.ok.inj x y c (S.clook I.ok a).1 (S.clook I.ok d).1
 has:=λx q=>by
  calc Ya (.inl ?_);let go:∀k,(k=NameKind.cell\/k=.free)->(relabel scope X.env).names.lookup x=tH k->(x,NameKind.free)∈scope.names:=λk u h=>by
   let{o,a,d}:=zQ (λ_=>by dsimp only;split<;>rfl) h;let j:=mem_of_lookup a;by_cases l:o=.free
   ·subst l;exact j
   ·exfalso;let a:(o==NameKind.free)=false:=by simpa using l
    try dsimp only at d
    rw[a,zcg,zcg,if_neg {}]at d;let o:=d;rcases u with e | e
    ·exact S.cellH _ j (o.trans e)
    ·exact l (o.trans e)
  rcases q with h | h
  ·exact go _ (.inl rfl) h
  ·exact go _ (.inr rfl) h
 cab:=λx c h _=>by cases h
 hd:=I.ok.hd
 frames:=I.ok.frames
 stk:=.inl rfl
 exf:=λb a=>{tX (tJ (p b a) m),λx c h=>(i b a).2.2.2.2.1 x c (S.clook I.ok h).1}
 bs:=I.bs
 bsz:=tP I.ok.bsz I.sz
 noex:=λb d e a=>by
  rcases(i b a).2.2.2.1 with h | h
  ·exact I.ok.noex b d e h
  ·exact absurd (tJ (tM e) (tP I.ok.bsz h)) (zaH _)
 exfs:=λb a j=>by
  rcases tO.mp (I.stkSub b j) with e | e
  ·exact(i b a).2.1 e
  ·exact(i b a).2.2.1 e
 funs:=I.stack
 frf:=I.stkFree
def Gs{fp:List m9}{a:o1}(S:Q2 X N' ix scope)(I:qA X L p H s)(j:∀b∈fp,Yc X L H b)(l:∀b∈fp,b < s.heap.objs.size)(y:s.heap.objs.size<=D)(Q:s.heap.objs.size<=C)(Y:D≠C)(B:∀b o,s.heap.get? b=tH o->a.get? b=tH o)(J:a.Ns C m)(hl:a.get? D=tH {cls:=.type "list",data:=.seq #[] aa}):
  qA (XD X N' scope C s H fp L) [] (Hs ix p) (upd H D (.lst [])) {s with heap:=a,toks:=t'} where
 ok:=Sc S I Q j l
 os:=rfl
 bare:=I.bare
 base:=Un.laid B y (I.hok.fresh y)
 loc:=by
  calc{m,J,λi x v T a _=>?_};let j:=S.ixs;unfold Lp at j;rw[zaw]at j;let{l,U}:=j;let J:ix.length=N'.length:=by simpa using l
  unfold Hs at a;rw[tA]at a;cases l:ix[i]? with
  | none=>rw[l]at a;cases a
  | some o=>
   rw[l]at a;cases o with
   | none=>cases a
   | some J=>
    let O:(p[J]?).join=tH v:=tH.inj a;let hz:(ix.zip N')[i]?=tH (tH J,x):=by
     rw[zcY];exact{l,T}
    let a:=zaK.mp U _ (tS hz)
    try dsimp only at a
    simp only[zaw,beq_iff_eq,zdA]at a;obtain⟨⟨hN,T⟩,U⟩:=a;let ab:p[J]?=tH (tH v):=by
     cases q:p[J]? with
     | none=>rw[q]at O;cases O
     | some z=>
      rw[q]at O;let:z=tH v:=O;rw[this]
    let{_,_,O}:=I.loc;let ac:Si X.env.scope x:=by
     rcases U with h | h
     ·exact .inr (.inl h)
     ·exact .inr (.inr h)
    let{u,ru,lu}:=O J x v hN ab ac;exists u,ru;rcases lu with ⟨O,_⟩ | ⟨_,c,hc,ae⟩
    ·exfalso;let J:X.env.scope.names.lookup x=tH .local:=O;rcases U with h | h<;>rw[h]at J<;>cases J
    ·right;let{_,J,O}:=Yn (scope:=scope) T;exists ?_
     ·rcases O with z | ⟨_,z⟩
      ·right;rwa [z]at J
      ·left;rwa [z]at J
     ·let{_,J}:=Ya (.inl (mem_of_lookup T));let:=(S.clook I.ok J).1;rw[hc]at this;cases this;let{o,O,hd}:=ae;exact{c,J,o,B _ _ O,hd}
 cell:=λx c h=>by
  let{v,o,l,hd}:=I.cell x c (S.clook I.ok h).1;exact{v,o,B _ _ l,hd}
 free:=by
  show (upd H D _) C=r4;rw[qf (Ne.symm Y)];exact I.hok.fresh Q
 freeC:=λx c h=>by
  let J:=(S.clook I.ok h).1;let{v,o,l,hd}:=I.cell x c J;rw[qf (tX (tJ (tM l) y))];exact(I.freeC x c J).imp id λz=>{s0,z.2}
 pin:=λl J=>by
  let O:l∈X.pn++L:=by
   let:l∈(X.pn++L)++[]:=J;simpa using this
  let{e,n,ne,L,d}:=I.pin l O;let J:=tM e;refine{B _ _ e,?_,tX (tJ J Q),λa=>?_,d}
  ·rwa [qf (tX (tJ J y))]
  ·rcases tO.mp (I.stkSub l.1 a) with z | z
   ·exact ne z
   ·exact L z
 hok:=I.hok.laid B y ({zax _,[],aa,.nil,hl})
 len:=by
  let j:=S.ixs;unfold Lp at j;rw[zaw]at j;let:ix.length=N'.length:=by simpa using j.1
  show (Hs ix p).length=N'.length;unfold Hs;rw[ta,this]
def AH{fp:List m9}(I:qA X i j H s)(a:∀b∈fp,Yc X i H b)(d:qA (XD X N' scope C s H fp i) m o H' l):qA X i j H' l:=
 I.call' d.os d.base d.hok d.bare λb d=>{(a b d).2.2.2.1,(a b d).2.1,(a b d).2.2.2.2.1,(a b d).2.2.2.2.2}
def AG(a:qA X i j H s₀)(I:qA X i j H' l)(d:s₀.heap.objs.size<=C)(m:H' C=r4)(o:Heap.SameBut C l.heap p):qA X i j H' {l with heap:=p}:=by
 refine I.turned (λb _ i e=>(o.2 b i).trans e) m (zbA (tJ a.lt d)) (.inr (tP a.sz d)) (λx c e z=>?_) λi j z=>?_
 ·let{v,q}:=a.cell x c e;exact absurd (tJ q.lt (z▸d)) (zaH _)
 ·calc absurd (tJ (tM (a.pin i j).1) (z▸d)) (zaH _)
def LX(X:Cx)(d:List Expr)(t:TT):Prop:=
 ∀(b:List (m9×Obj)) (s:n0) (a:St) (H:Hp) (Q:Bool->Hp->Prop),qA X b a H s->t a H Q->
  wpAny (model X.prog X.w) X.A (forIn d true λc r=>if r=true then do let ok <-isTrue c X.env (eval c X.env);pure (ForInStep.yield ok) else pure (ForInStep.yield r)) (TP X b a Q) X.xe s
@[irreducible] def Bz (X:Cx) (a:List Expr) (t:TT):Prop:=LX X a t
def Bz.of(h:LX X a t):Bz X a t:=by unfold Bz;calc h
def Bz.to(h:Bz X a t):LX X a t:=by unfold Bz at h;calc h
def BO:TT:=λ_ H Q=>Q true H
def qP:Bz X [] BO:=.of (by
 calc λ_ _ _ H _ I h=>wpAny_tests_nil ({H,I,h}))
def Qo(h:JT X c t):Bz X [c] t:=.of (by
 calc λa s b H Q I d=>wpAny_tests_one (h.to a s b H Q I d))
def vk{R:Result->n0->Prop}{b:Expr}{d:n9}(I:Nat->n0->Prop) (B:∀n s,I n s->wpAny (model prog w) A (pyNext it) (λr i=>match r with
   | none=>R (.ok .next) i
   | some v=>wpAny (model prog w) A (letOwnedTupleGo a_ it v) (λ_ l=>wpAny (model prog w) A (assign a_ env v) (λ_ o=>
    wpAny (model prog w) A (forIn p true λc r=>if r=true then do let ok <-isTrue c env (eval c env);pure (ForInStep.yield ok) else pure (ForInStep.yield r)) (λok j=>
     if ok=true then wpAny (model prog w) A (eval b env) (λx q=>
      wpAny (model prog w) A (call (.builtin "list.append") [d,x]) (λ_ u=>∃m,m < n/\I m u) (λ_ _=>False) q) (λ_ _=>False) j
     else ∃m,m < n/\I m j) (λ_ _=>False) o) (λ_ _=>False) l) (λ_ _=>False) i) (λ_ _=>False) s) (n:Nat) (h:I n s):
  codeAny (model prog w) A (.compLoop (.ListComp b [({a_,iter,p,0})] scope pos) 0 it d env) R s:=by
 calc codeAny_loop rfl I (λn s C=>?_) n h;show wpAny _ A ((compTurn (.ListComp b [({a_,iter,p,0})] scope pos) 0 it d env).onRaise (λx=>do noteFrame x env;theTreesLotGoes x)) _ _ s;calc wpAny_noted ?_;rw[compTurn_list];calc zep (wpAny_standAt (zep (wpAny_mono (B n s C) (λr i y=>?_) λ_ _ a=>a.elim)));cases r with
 | none=>calc zeq y
 | some v=>
  calc zep (wpAny_mono y (λ_ l D=>zep (wpAny_mono D (λ_ o H=>zep (wpAny_mono H (λok j z=>?_) λ_ _ a=>a.elim)) λ_ _ a=>a.elim)) λ_ _ a=>a.elim);cases ok with
  | false=>calc zeq ({s0,z})
  | true=>
   calc zep (zep (wpAny_mono z (λx q J=>zep (wpAny_mono J (λ_ u L=>zeq (zeq ({s0,L}))) λ_ _ a=>a.elim)) λ_ _ a=>a.elim))
inductive Vq(J:It)(g:TG)(tt:TT)(te:TE)(D:m9)(σ:St)(H:Hp)(Q:Hp->Prop):Prop
 | mk (W:Nat->Nat->St->Hp->Prop):((∃m,W 0 m σ (upd H D (.lst []))))->(∀i m gK H',W i m gK H'->(J.stop i H'/\Q H')\/(J.go i H'/\∃N:St->Hp->Prop,(∀gU H2,N gU H2->∃m',m' < m/\W (i+1) m' gU H2)/\∀x H2,J.yld i H' x H2->g x gK H2 λgU H3=>tt gU H3 λb H4=>if b=true then te gU H4 λv H5=>∃ys,H5 D=tH (.lst ys)/\ys.length < zes/\N gU (upd H5 D (.lst (ys++[v]))) else N gU H4))->Vq J g tt te D σ H Q
def LS(b:TI)(ix:List (Option Nat))(g:TG)(tt:TT)(te:TE):TE:=λa H Q=>b a H λd b=>∀D,b D=r4->Vq d g tt te D (Hs ix a) b λa=>Q (.ref D) a
def Uh{X:Cx}{RR:n9->m9->Result->n0->Prop}{Q:m9->Hp->Prop}(hc:X.calm=true)(S:Q2 X N' ix scope)(I:qA X j σ H s)(T:Vx X.prog X.w X.K a_ aw fp it tn)(st:tn 0 s.heap)(O:∀b∈fp,Yc X j H b)(a:∀C ab ac fp j,PG (XD X N' scope C ab ac fp j) a_ g/\LX (XD X N' scope C ab ac fp j) ak tt/\PE (XD X N' scope C ab ac fp j) al te)(h:∀D,H D=r4->Vq aw g tt te D (Hs ix σ) H (Q D))(gj:∀(D C:m9) (H':Hp) (q:n0) (m:Str->Option n9),s.heap.objs.size<=C->H' C=r4->q.heap.Ns C m->qA X j σ H' q->Q D H'->RR (.ref D) C (.ok .next) q):
  wpAny (model X.prog X.w) X.A (newList []) (λam ax=>wpAny (model X.prog X.w) X.A (newFunctionEnv scope X.env.globals (QS X.env scope.names []) [] X.env.qual r4 .none (tH X.env)) (λan ay=>
   codeAny (model X.prog X.w) X.A (.compStart (.ListComp al [({a_,iter,ak,0})] scope pos) 0 (.ref it) am {an with scope:=relabel scope X.env}) (RR am an.locals) ay) E ax) E s:=by
 let ao:∀b∈fp,b < s.heap.objs.size:=λb a=>by
  let{o,e,_}:=T.obj _ _ st b a;exact tM e
 calc wpAny_newObj_type (wpAny_newFunctionEnv S.cellH (by intro y hy;simp at hy) (λae af U=>?_) S.kind);dsimp only at af U ⊢;generalize ag:s.heap.push {cls:=.type "list",dict:=r4,data:=.seq ([]:List n9).toArray}=l at af U ⊢;let hC:l.objs.size=s.heap.objs.size+1:=by rw[<-ag,zbe]
 let ap:s.heap.objs.size≠l.objs.size:=by rw[hC];exact tX (zaZ _)
 let aq:s.heap.objs.size<=l.objs.size:=by rw[hC];exact zcu _
 let gy:∀b o,s.heap.get? b=tH o->ae.get? b=tH o:=λb o e=>U.extBut b o ((λb a=>by rw[hC];calc tX (zcd a)) b (tM e)) (tm _ (ag▸tm _ e));let az:=U.extBut _ _ ap (tm _ (ag▸tL _ rfl));obtain⟨W,⟨m0,w0⟩,aA⟩:=h s.heap.objs.size (I.hok.fresh (ti _));let I1:qA (XD X N' scope l.objs.size s H fp j) [] (Hs ix σ) (upd H s.heap.objs.size (.lst [])) {s with heap:=ae,toks:=s.toks+([]:List (Str×n9)).length}:=
  Gs S I O ao (ti _) aq ap gy af az
 let ar:=T.keep _ _ _ st λb a o e=>gy b o e;let aB:∀b∈fp,(upd H s.heap.objs.size (.lst [])) b=r4:=λb a=>by
  rw[qf (tX (ao b a))];exact(O b a).1
 let{hg,aC,aD}:=a l.objs.size s H fp j;let okY:=I1.ok;let ah:∀{H':Hp},(∀b∈fp,H' b=r4)->∀b∈fp,Yc (XD X N' scope l.objs.size s H fp j) [] H' b:=λ{H'} hn b a=>
  ⟨hn b a,(okY.exf b a).1,okY.exfs b a,.inl a,(okY.exf b a).2,λai hp=>by
   let aE:ai∈X.pn++j:=by
    let:ai∈(X.pn++j)++[]:=hp;simpa using this
   calc(O b a).2.2.2.2.2 ai aE⟩
 let as:codeAny (model X.prog X.w) X.A (.compLoop (.ListComp al [⟨a_,iter,ak,0⟩] scope pos) 0 (.ref it) (.ref s.heap.objs.size) (compEnvC scope (QS X.env scope.names []) l.objs.size X.env))
   (RR (.ref s.heap.objs.size) l.objs.size) {s with heap:=ae,toks:=s.toks+([]:List (Str×n9)).length}:=by
  calc vk (λn q=>∃i B H',qA (XD X N' scope l.objs.size s H fp j) [] B H' q/\tn i q.heap/\(∀b∈fp,H' b=r4)/\W i n B H') ?_ m0 ({0,_,_,I1,ar,aB,w0});rintro n s3 ⟨i,Y,H3,I3,au,av,w3⟩;rcases aA i n Y H3 w3 with ⟨stop,qn⟩ | ⟨go,NN,aF,step⟩
  ·calc jy (T.done (XD X N' scope l.objs.size s H fp j) rfl rfl rfl hc i [] s3 Y H3 _ I3 (ah av) au stop) λr s4 ⟨hr,I4⟩=>?_;subst hr;let{mm,aG,_}:=I4.loc;exact gj _ _ H3 s4 mm aq I4.free aG (AH I O I4) qn
  ·calc jy (T.item (XD X N' scope l.objs.size s H fp j) rfl rfl rfl hc i [] s3 Y H3 _ I3 (ah av) au go) λr s4 ζ=>?_;let{u,hr,h4}:=ζ;subst hr;calc jy h4 λ_ s5 ⟨x,H5,I5,r5,y5,aj,aH⟩=>jy (hg _ s5 Y H5 x u _ (I5.pinned (ah aH) (T.obj _ _ aj)) r5 (step x H5 y5)) λ_ s6 ⟨aa,H6,I6,q6⟩=>jy (aC _ s6 aa H6 _ I6 q6) λok s7 ζ=>?_;let{H7,I7,q7}:=ζ;let again:∀{J:St} {p:Hp} {z:n0},qA (XD X N' scope l.objs.size s H fp j) ([]++WH fp s5.heap) J p z->NN J p->
     ∃m,m < n/\∃i B H',qA (XD X N' scope l.objs.size s H fp j) [] B H' z/\tn i z.heap/\(∀b∈fp,H' b=r4)/\W i m B H':=λ{J p z} L n8=>by
    let{m',hm,w8}:=aF J p n8;calc{m',hm,i+1,J,p,L.unpinned,T.keep _ _ _ aj λb a o e=>(L.pin (b,o) (t3 _ (t3 _ (ZV a e)))).1,λb a=>?_,w8};let{o,e,d}:=T.obj _ _ aj b a;exact(L.pin (b,o) (t3 _ (t3 _ (ZV a e)))).2.1
   cases ok with
   | false=>
    rw[if_neg tN]at q7 ⊢;calc again I7 q7
   | true=>
    rw[if_pos rfl]at q7 ⊢;calc jy (aD _ s7 aa H7 _ I7 q7) λv z ζ=>?_;let{y,p,L,r8,q8}:=ζ;let{ys,hy,hz,q8}:=q8;exact jy (Za _ z aa p (.ref s.heap.objs.size) [y] (.ref s.heap.objs.size) [v] (λ_ H9=>NN aa H9) L rfl (.cons r8 .nil) ({_,ys,y,s0,s0,hy,hz,q8})) λ_ s9 ⟨_,H9,I9,_,q9⟩=>again I9 q9
 calc codeAny_compStart_list as (T.self X.A 0 _ _ _ ar as)
def O9{X:Cx}(i:X.calm=true)(S:Q2 X N' ix scope)(j:PI X a_ iter l)(o:∀C b d fp a,PG (XD X N' scope C b d fp a) a_ g/\LX (XD X N' scope C b d fp a) p tt/\PE (XD X N' scope C b d fp a) u te)(v:∀x,foldedSetIterable iter X.env x=pure x:=by intro _;rfl):PE X (.ListComp u [({a_,iter,p,0})] scope pos) (LS l ix g tt te):=by
 intro a s b H Q I h;rw[eval_ListComp];calc wpAny_comprehension_free rfl v (zS (S.freeH I.ok)) S.kind S.locH (jy (j a s b H _ I h) λ_ _ d=>jy d λ_ _ j=>?_);let{_,fp,_,_,_,e,d,l,p,f2,u}:=j;subst e;calc Uh (RR:=λj C=>compPost (model X.prog X.w) X.A X.xe r4 (EP X a b Q) j C) (Q:=λD a=>Q (.ref D) a) i S d l p f2 o u (λD C a _ m b i j l q=>{m,j,λ_ j=>{.ref D,a,AG d l b i j,s0,q}})
def jL(j:JI X a_ iter l)(i:∀C a b fp d,JG (XD X N' scope C a b fp d) a_ g/\Bz (XD X N' scope C a b fp d) m tt/\JE (XD X N' scope C a b fp d) o te)(p:∀x,foldedSetIterable iter X.env x=pure x:=by intro _;rfl)(q:X.calm=true:=by calc rfl)(S:Q2 X N' ix scope:=by calc{s0,s0,s0,s0,s0}):JE X (.ListComp o [({a_,iter,m,0})] scope pos) (LS l ix g tt te):=.of (O9 q S j.to (λC a b fp d=>{(i C a b fp d).1.to,(i C a b fp d).2.1.to,(i C a b fp d).2.2.to}) p)
def Mb{X:Cx}{J:Pos}(hN:X.N.Nodup)(L:X.N[i]?=tH x)(O:By X.env.scope x)(Q:X.calm=true)(S:Q2 X N' ix scope)(T:PI X a_ iter U)(l:∀C j o fp d,PG (XD X N' scope C j o fp d) a_ g/\LX (XD X N' scope C j o fp d) p tt/\PE (XD X N' scope C j o fp d) u te)(Y:swapsWith (.ListComp u [({a_,iter,p,0})] scope pos) (tH (.Name x B)) J.line X.env=pure true:=by rfl)(hs:∀x,foldedSetIterable iter X.env x=pure x:=by intro _;rfl)(hf:X.fn x=true\/X.env.scope.names.lookup x=tH .local:=by first | calc .inl rfl | calc .inr rfl | assumption):
  PS X (.Assign [.Name x B] (.ListComp u [({a_,iter,p,0})] scope pos) J) (y4 (LS U ix g tt te) (Ql i)):=by
 intro d s j H D I h;rw[exec_Assign_Name_used _ _ _ _ Y];calc zep (wpAny_standAt (zep ?_));show wpAny _ X.A (do let _ <-comprehension (.ListComp u [⟨a_,iter,p,0⟩] scope pos) scope X.env _ (newList []) false (eval iter X.env) (tH (assign (.Name x B) X.env))) _ _ s;calc zep (jy (wpAny_comprehension_free rfl hs (zS (S.freeH I.ok)) S.kind S.locH (jy (T d s j H _ I h) λ_ _ d=>jy d λ_ _ j=>?_)) λ_ p d=>zeq (zeq d));let{_,fp,_,_,_,e,d,o,u,f2,J}:=j;subst e;calc Uh Q S d o u f2 l J ?_;intro o C u p m j J Q T q;show wpAny _ X.A (assign (.Name x B) X.env (.ref o)) _ _ _;calc wpAny_assign_Name (VG T hN L O (v:=.ref o) rfl (λp B o=>?_) hf);let{a,L,O}:=o;let T:C≠a:=by
  rcases O with z | z
  ·rw[z];exact zbA (tJ d.lt j)
  ·intro e;let{v,o}:=d.cell x a z;exact absurd (tJ o.lt (e▸j)) (zaH _)
 refine{m,Q.sameBut L T,λ_ L=>{_,u,B.turned (it:=C) (t':=p.toks) (λb _ l e=>(L.2 b l).trans e) J (zbA (tJ d.lt j)) (.inr (tP d.sz j)) (λy c e z=>?_) λl p z=>?_,q}}
 ·let{v,o}:=d.cell y c e;exact absurd (tJ o.lt (z▸j)) (zaH _)
 ·calc absurd (tJ (tM (d.pin l p).1) (z▸j)) (zaH _)
def Qu{l:Pos}(p:JI X a_ iter q)(j:∀C a b fp d,JG (XD X N' scope C a b fp d) a_ g/\Bz (XD X N' scope C a b fp d) m tt/\JE (XD X N' scope C a b fp d) o te)(u:swapsWith (.ListComp o [({a_,iter,m,0})] scope pos) (tH (.Name x v)) l.line X.env=pure true:=by rfl)(y:∀x,foldedSetIterable iter X.env x=pure x:=by intro _;rfl)(z:X.fn x=true\/X.env.scope.names.lookup x=tH .local:=by first | calc .inl rfl | calc .inr rfl | assumption)(hN:X.N.Nodup:=by first | assumption | calc ndC)(B:X.N[i]?=tH x:=by calc rfl)(D:By X.env.scope x:=by calc Or.inl rfl)(H:X.calm=true:=by calc rfl)(S:Q2 X N' ix scope:=by calc{s0,s0,s0,s0,s0}):JS X (.Assign [.Name x v] (.ListComp o [({a_,iter,m,0})] scope pos) l) (y4 (LS q ix g tt te) (Ql i)):=.of (Mb hN B D H S p.to (λC a b fp d=>{(j C a b fp d).1.to,(j C a b fp d).2.1.to,(j C a b fp d).2.2.to}) u y z)
def fZ(x:Str):It:={λi _=>i < x.cps.size,λi H v a=>a=H/\∃c,x.cps[i]?=tH c/\v=.str ({#[c]}),λi _=>i=x.cps.size}
def vz(it:m9)(x:Str)(t:Tok)(ty:String)(Y:["enumerate","zip","dict_itemiterator","dict_reverseitemiterator","odict_iterator","itertools.zip_longest","itertools.pairwise"].contains ty=false)(O:∀A:o2,A.handled=r4->Walks P w A it [it] [it] x.cps.size (SignAt x) (λi h=>h.IsStrIter it ty x t i))(aa:∀(A:o2) (i:Nat) (s:n0) (Q:n9->n0->Prop) (E:n9->n0->Prop),s.heap.IsStrIter it ty x t i->Q (.ref it) s->wpAny (model P w) A (pyIter (.ref it)) Q E s):
  Vx P w K a (fZ x) [it] it (λi h=>h.IsStrIter it ty x t i) where
 mem:=by simp
 obj:=λi h st b j=>by
  let e:b=it:=by simpa using j
  subst e;let{a,e,c,d}:=st;exact{a,e,λv z=>by rw[d]at z;cases z}
 keep:=λi h T st k=>let ⟨a,e,r⟩:=st;({a,k it {} a e,r})
 item:=by
  intro X m o p q i ab s σ H E I l st y;subst m o p;let{B,f1,f2,C,D,J}:=l it {};calc(O X.A (I.ok.hd q)).item i s _ _ y st λv T tk hv U L=>?_;let{c,u,ac,rfl}:=hv;let{a,e,c1,d1}:=id U;exact{_,s0,Uc e c1 d1 Y ({.str ({#[c]}),H,I.turned (λb a j e=>L b a (by simpa using j) e) B f1 C D J,{u,s0},{s0,c,ac,s0},U,λb j=>(l b j).1})}
 done:=by
  intro X m o p q i ab s σ H E I l st y;subst m o p;let{B,f1,f2,C,D,J}:=l it {};let l:=y;subst l;exact(O X.A (I.ok.hd q)).done s _ _ st λT tk L=>{s0,I.turned (λb a j e=>L b a (by simpa using j) e) B f1 C D J}
 self:=aa
inductive F3(R:It->Hp->Prop)(x:V)(H1:Hp):Prop
 | mk (y:_):x=.str y->(R (fZ y) H1)->F3 R x H1
def fu(a:TE):TI:=λb H R=>a b H λx a=>F3 R x a
def Lj(a:JE X l d):JI X j l (fu d):=.of (by
 calc λm s d H R I h=>jy (a.to m s d H _ I h) λv a ζ=>?_;let{x,j,d,o,p}:=ζ;let{y,e,q}:=p;subst e;let{t,rfl}:=o;let fp:∀b∈[a.heap.objs.size],Yc X m j b:=λb o=>by
  let e:b=a.heap.objs.size:=by simpa using o
  subst e;exact d.fpOk (ti _) (d.hok.fresh (ti _))
 cases o:y.cps.all (· < 128)
 ·exact wpAny_pyIter_wide o ⟨a.heap.objs.size,[a.heap.objs.size],_,_,j,s0,d.kept λb p e=>tm _ e,
   vz _ y t "str_iterator" {} (λA m=>Walks.strWide m _ y t) (λA i s Q E st q=>wpAny_pyIter_striter_wide st q),{_,tL _ rfl,s0,s0},fp,q⟩
 ·exact wpAny_pyIter_ascii o (⟨a.heap.objs.size,[a.heap.objs.size],_,_,j,s0,d.kept λb p e=>tm _ e,
   vz _ y t "str_ascii_iterator" {} (λA m=>Walks.strAscii m _ y t) (λA i s Q E st q=>wpAny_pyIter_striter_ascii st q),{_,tL _ rfl,s0,s0},fp,q⟩))
def Vh(tt:TT)(te:TE)(D:m9)(N:St->Hp->Prop):St->Hp->Prop:=λa d=>tt a d λb i=>
 if b=true then te a i λv j=>∃d,j D=tH (.lst d)/\d.length < zes/\N a (upd j D (.lst (d++[v]))) else N a i
def Vg{g:TG}{Q:Hp->Prop}{b:It}(Pv:Nat->St->Hp->Prop)(j:Pv 0 l (upd H D (.lst [])))(go:∀i a H',i < n->Pv i a H'->b.go i H'/\∀x d,b.yld i H' x d->g x a d (Vh tt te D (Pv (i+1))))(stop:∀a H',Pv n a H'->b.stop n H'/\Q H'):Vq b g tt te D l H Q:=by
 calc{λi m a H'=>m=n - i/\i<=n/\Pv i a H',{n,{},zax _,j},?_};rintro i m a H' ⟨rfl,_,b⟩;by_cases j:i < n
 ·let{l,o}:=go i a H' j b;exact .inr ({l,Pv (i+1),λ_ d d=>{n - (i+1),{},s0,j,d},o})
 ·let e:i=n:={}
  subst e;calc .inl (stop a H' b)
def zL{g:TG}{Q:Hp->Prop}(Pv:Nat->St->Hp->Prop)(b:Pv 0 d (upd H D (.lst [])))(j:∀i a H',i < n->Pv i a H'->g (.int (lo+i)) a H' (Vh tt te D (Pv (i+1))))(hd:∀a H',Pv n a H'->Q H'):Vq (LO lo n) g tt te D d H Q:=
 Vg Pv b (λi a H' d b=>⟨d,λx l y=>by
  let{e,y}:=y;subst e y;calc j i a l d b⟩) λa H' b=>{ti _,hd a H' b}
def qR{g:TG}{Q:Hp->Prop}{xs:List V}(Pv:Nat->St->Hp->Prop)(d:Pv 0 l (upd H D (.lst [])))(j:∀i b H',i<=xs.length->Pv i b H'->JX K H' a xs)(m:∀i x b H',xs[i]?=tH x->Pv i b H'->g x b H' (Vh tt te D (Pv (i+1))))(hd:∀b H',Pv xs.length b H'->Q H'):Vq (LP K a) g tt te D l H Q:=
 Vg Pv d (λi b H' l d=>⟨{xs,xs[i],j i b H' (zab l) d,by simp [l]},λx _ y=>by
  let{e,y}:=y;subst e;calc m i x b _ (y xs (j i b _ (zab l) d)) d⟩) λb H' d=>{{xs,j _ b H' (ti _) d,ti _},hd b H' d}
def Kb{g:TG}{Q:Hp->Prop}{xs:List V}(Pv:Nat->St->Hp->Prop)(d:Pv 0 l (upd H D (.lst [])))(j:∀i b H',i<=xs.length->Pv i b H'->SqT K H' a xs)(m:∀i x b H',xs[i]?=tH x->Pv i b H'->g x b H' (Vh tt te D (Pv (i+1))))(hd:∀b H',Pv xs.length b H'->Q H'):Vq (LZ K a) g tt te D l H Q:=
 Vg Pv d (λi b H' l d=>⟨{xs,xs[i],j i b H' (zab l) d,by simp [l]},λx _ y=>by
  let{e,y}:=y;subst e;calc m i x b _ (y xs (j i b _ (zab l) d)) d⟩) λb H' d=>{{xs,j _ b H' (ti _) d,ti _},hd b H' d}
def Ev{g:TG}{Q:Hp->Prop}{x:Str}(Pv:Nat->St->Hp->Prop)(b:Pv 0 d (upd H D (.lst [])))(j:∀i c a H',x.cps[i]?=tH c->Pv i a H'->g (.str ({#[c]})) a H' (Vh tt te D (Pv (i+1))))(hd:∀a H',Pv x.cps.size a H'->Q H'):Vq (fZ x) g tt te D d H Q:=
 Vg Pv b (λi a H' d b=>⟨d,λv _ y=>by
  let{e,c,d,rfl}:=y;subst e;calc j i c a _ d b⟩) λa H' b=>{s0,hd a H' b}
def Vj:∀(bs:List Bool),(zae bs.length).all (λi=>bs.getD i false)=bs.all id:=by
 intro bs;induction bs with
 | nil=>rfl
 | cons b bs a=>
  rw[t7,zdt,zcD,zcj,zcD];let:((λi=>(b::bs).getD i false) ∘ zee)=λi=>bs.getD i false:=by
   funext i;simp [Function.comp]
  rw[this,a];simp
def Q7{X:Cx}(m:X.calm=true):Q8 X (.builtin "all") (λxs H Q=>∃(p:m9) (bs:List Bool),xs=[.ref p]/\JX X.K H p (bs.map V.bl)/\Q (.bl (bs.all id)) H):=by
 intro _ s _ H xs _ Q I r h;let{p,bs,rfl,l,q}:=h;let{u,rfl,a}:=Jm r;cases a;let{a,d,j,_}:=I.list l;let o:p < s.heap.objs.size:=by
  let{l,n,e,_}:=j;exact tM e
 let x:a.toArray.size=bs.length:=by
  let:=d.length;rw[ta]at this;simp only[t4];omega
 let y:X.A.in1.handled=r4:=I.ok.hd m;refine call_all_walk (wpAny_pyIter_list j.isList ⟨s.heap.objs.size,[s.heap.objs.size,p],[s.heap.objs.size],a.toArray.size,λi v=>a.toArray[i]?=tH v,_,λi=>bs.getD i false,s0,Walks.list y s.heap.objs.size p (tX o) a.toArray,
  ({{_,tL _ rfl,s0,s0},j.isList.at λl e=>tm _ e}),?_,λ_ tk m=>?_⟩)
 ·intro i v o y _ B C;let j:a[i]?=tH v:=by simpa using B
  let B:∃b,bs[i]?=tH b/\v=Value.bool b:=by
   cases e:bs[i]? with
   | none=>
    exfalso;let a:(bs.map V.bl)[i]?=r4:=by rw[tA,e];rfl
    rw[qN.none_of d a]at j;cases j
   | some b=>
    let a:(bs.map V.bl)[i]?=tH (V.bl b):=by rw[tA,e];rfl
    let{u,hu,D}:=d.get a;rw[j]at hu;cases hu;exact{b,s0,D}
  let{b,e,rfl}:=B;calc wpAny_truthy_bool ?_;let d:bs.getD i false=b:=by rw[zav,e];rfl
  let a:y (bs.getD i false) o:=C;rw[d]at a;exact a
 ·rw[x,Vj];exact⟨.bl (bs.all id),H,I.kept λb l e=>m b l (by
   intro z;let a:b=s.heap.objs.size:=by simpa using z
   calc absurd (tM e) (by rw[a];calc zaH _)) (tm _ e),s0,q⟩
def y6{ys:List Str}:∀{us:List n9},qN (ys.map V.str) us->StrsAre us ys:=by
 induction ys with
 | nil=>
  intro us r;rw[zci]at r;cases r;calc .nil
 | cons y ys d=>
  intro us r;rw[tR]at r;cases r with
  | cons a b=>
   let{t,rfl}:=a;calc .cons _ _ (d b)
inductive N4(K:zen)(x:V)(xs:List V)(H:Hp)(Q:VK):Prop
 | mk (sep:Str) (p:m9) (ys:List Str):x=.str sep->xs=[.ref p]->(JX K H p (ys.map V.str))->((ys.map (·.length)).sum+ys.length*sep.length<=16777216)->(Q (.str (Txt.join sep ys)) H)->N4 K x xs H Q
def O1(K:zen):V->List V->Hp->VK->Prop:=λx a H Q=>N4 K x a H Q
def UZ:LL X "str.join" (O1 X.K):=by
 intro _ s _ H x _ v _ Q I a b h;let{sep,_,_,rfl,rfl,d,i,q}:=h;let{t,rfl}:=a;let{u,rfl,a}:=Jm b;cases a;let{_,a,b,_}:=I.list d;calc join_list b.isList (by simpa using y6 a) i λa k=>{.str _,H,I.tok k,{a,s0},q}
def Et:V->n9
 | .ty n=>.type n
 | .ref a=>.ref a
 | _=>.none
def F2:V->Bool
 | .ty _=>true
 | .ref _=>true
 | _=>false
inductive N5(K:zen)(xs:List V)(H:Hp)(Q:VK):Prop
 | mk (x:_) (c:_) (t:_) (b:_):xs=[x,c]->F2 c=true->YI K H x t->zak K t (Et c)=tH b->(Q (.bl b) H)->N5 K xs H Q
def O4(K:zen):List V->Hp->VK->Prop:=λa H Q=>N5 K a H Q
def jM:Q8 X (.builtin "isinstance") (O4 X.K):=by
 intro _ s _ H _ _ Q I r h;let{x,c,t,b,rfl,i,ty,e,q}:=h;let{u,j,rfl,l,d}:=wq r;let m:j=Et c:=by
  cases c with
  | ty n=>calc d
  | ref a=>calc d
  | _=>cases i
 subst m;exact Gp I l ty e λtk=>{.bl b,H,I.tok tk,s0,q}
abbrev L3(rest:List n9):Obj:={cls:=.type "tuple",data:=.seq rest.toArray}
abbrev Lz(C t:m9):Obj:={cls:=.ref C,data:=.fields #[.ref t,.none,.none,.none,.bool false,.none]}
def y2{prog:o3}{w:o4}{A:o2}{E:n9->n0->Prop}{h:o1}{g:Array GenState}{d:Drawn}{t:Nat}{os:OsState}{nm:Str}{q:Str}{C:m9}{N:m9}{i:m9}{bs:List n9}{j:List n9}{l:List n9}{y:List n9}{z:Bool}{D:List Str}{sub:List n9}{H:Bool}{J:Option Bool}{L:Option m9}{O:Option n9}{U:Option n9}{Y:Option n9}{k3:Option n9}{k5:Option n9}{B:String}{o:String}{p:String}{aa:String}{ac:String}{ae:String}{rest:List n9}{oI:Obj}{Q:Fin->n0->Prop}(m:ExcBaseFacts o p ae y)(u:l.contains (.type o)=true)
  (F:ExcBaseFacts B aa ac l) (T:OwnTail h l j)
  (a:h.get? C=tH (excClassObj nm q C N bs j z D sub H J L O U Y k3 k5 p))
  (hi:PySem.W.Looks (model prog w) h (typeLookup (.ref C) "__init__") (tH (.ref i))) (af:h.get? i=tH oI) (ag:oI.cls=.type "function")
  (hq:∀v e,h.objs.size<=e->Heap.MadeExcOf h v e (.ref C) rest->
   wpAny (model prog w) A (call (.ref i) (.ref e::rest)) (λr x=>r=.none/\Q (.done (.ret (.ref e))) x) E ({v,g,d,t,os}))
  (hz:rest.length<=zes):
  wpAny (model prog w) A (Builtin.«type.__call__» ({.ref C::rest,[]})) Q E ({h,g,d,t,os}):=by
 repeat (first
  | with_reducible calc wpAny_loadPart_at a ?_
  | with_reducible calc wpAny_madeBy_exc a ?_
  | wp_step)
 refine codeAny_call_builtin_code (Code.quiet_builtin _ m.quiet) (wpAny_check_new_subU m u T a
  (codeAny_exc_new_subU m u F T a ?_ hz))
 show wpAny _ _ _ _ _ _;let k:∀b i,h.get? b=tH i->((h.push (L3 rest)).push (Lz C h.objs.size)).get? b=tH i:=λb i e=>
  tm _ (tm _ e)
 let i:((h.push (L3 rest)).push (Lz C h.objs.size)).get? (h.objs.size+1)=tH (Lz C h.objs.size):=by heap_get
 let l:(Value.ref C::j).contains (.ref C)=true:={}
 unfold isInstance
 repeat (first
  | with_reducible calc wpAny_loadPart_at i ?_
  | (with_reducible calc wpAny_isSubtype_exc (k _ _ a) ?_;rw[l])
  | wp_step)
 show wpAny _ _ (typeLookup (.ref C) _) _ _ _;calc(hi.keeps k).at (wpAny_holding (zep ?_));unfold bindSpecial;calc zep (wpAny_typeOf ({_,k _ _ af,ag}) ?_);rw[if_pos {}];refine zeq (zep (jy (hq _ (h.objs.size+1) (zcu _) ({k,zcE (zcu _),h.objs.size,i,zcE (ti _),?_})) λr x hr=>?_))
 ·exact tm _ (Heap.get?_push_at rfl rfl)
 ·let{rfl,a}:=hr
  wp_walk
  calc a
def G4{prog:o3}{w:o4}{A:o2}{E:n9->n0->Prop}{h:o1}{g:Array GenState}{d:Drawn}{t:Nat}{os:OsState}{nm:Str}{q:Str}{C:m9}{N:m9}{i:m9}{bs:List n9}{l:List n9}{j:List n9}{p:List n9}{u:Bool}{v:List Str}{sub:List n9}{x:Bool}{y:Option Bool}{z:Option m9}{D:Option n9}{H:Option n9}{J:Option n9}{L:Option n9}{O:Option n9}{B:String}{m:String}{o:String}{U:String}{Y:String}{aa:String}{rest:List n9}{oI:Obj}{Q:n9->n0->Prop}(Fn:ExcBaseFacts m o aa p)(ac:j.contains (.type m)=true)
  (F:ExcBaseFacts B U Y j) (T:OwnTail h j l)
  (a:h.get? C=tH (excClassObj nm q C N bs l u v sub x y z D H J L O o))
  (hi:PySem.W.Looks (model prog w) h (typeLookup (.ref C) "__init__") (tH (.ref i))) (ae:h.get? i=tH oI) (af:oI.cls=.type "function")
  (hq:∀b e,h.objs.size<=e->Heap.MadeExcOf h b e (.ref C) rest->
   wpAny (model prog w) (A.under (.builtin "type.__call__" ({.ref C::rest,[]}))) (call (.ref i) (.ref e::rest)) (λr s'=>r=.none/\Q (.ref e) s') E ({b,g,d,t,os}))
  (hz:rest.length<=zes):
  wpAny (model prog w) A (call (.ref C) rest) Q E ({h,g,d,t,os}):=by
 let i:=tc_lookup;let i:=tc_bind (.ref C);let i:(⟨h,g,d,t,os⟩:n0).TypeIs (.ref C) "type":={_,a,s0};calc wpAny_call (codeAny_of_tree ?_);show wpAny _ _ (callAny (.ref C) _) _ _ _
 repeat (any_goals (first
  | assumption
  | with_reducible calc wpAny_loadPart_at a ?_
  | wp_step))
 refine⟨s0,codeAny_call_builtin_at (Code.quiet_builtin _ (by decide+kernel)) entry_typeCall
  (wpAny_check_type_call_sub a (y2 Fn ac F T a hi ae af (λb e a i=>?_) hz))⟩
 exact hq b e a i
open PySem.W Builtin Builtin.ObjectAttr
structure XN(K:Frag)(C:m9)(bm:List n9):Prop where
 ga:findIn K (.ref C) "__getattribute__"=tH (tH (.builtin "BaseException.__getattribute__"))
 gt:findIn K (.ref C) "__getattr__"=tH r4
 sa:findIn K (.ref C) "__setattr__"=tH (tH (.builtin "object.__setattr__"))
 hd:hasDictIn K C=true
 mr:∃cd,clsIn K C=tH cd/\cd.mro=.ref C::bm
 mb:mroIn K C (.type "BaseException")=tH true
 mo:mroIn K C (.type "object")=tH true
 cl:findIn K (.ref C) "__class__"=tH (tH (.builtin "object.__class__"))
def xp:List n9->Prop
 | .ref _::r=>xp r
 | a=>a=[.type "ValueError",.type "Exception",.type "BaseException",.type "object"]
def ux(self:n9):∀{l:List n9},xp l->refuseLoop self "__setattr__" l=pure ()
 | .ref c::r,e=>by rw[refuseLoop_ref];calc ux self e
 | [],e=>nomatch (show ([]:List n9)=[.type "ValueError",.type "Exception",.type "BaseException",.type "object"] from e)
 | .type n::r,e=>by
  let a:=e;rw[a];kernel_rfl
 | .none::r,e=>by have a:=e;cases a
 | .bool _::r,e=>by have a:=e;cases a
 | .int _ _::r,e=>by have a:=e;cases a
 | .float _ _::r,e=>by have a:=e;cases a
 | .str _ _::r,e=>by have a:=e;cases a
 | .bytes _ _::r,e=>by have a:=e;cases a
 | .builtin _::r,e=>by have a:=e;cases a
def C7{prog:o3}{w:o4}{A:o2}{s:n0}{K:Frag}{x:m9}{C:m9}{j:Obj}{l:Option Obj}{d:List n9}{c_:Str}{v:n9}{tk:Tok}{R:Result->n0->Prop}(X:K.In s.heap)(I:InstAt s.heap x j C l)(c:XN K C d)(m:xp d)(o:findIn K (.ref C) c_=tH r4)
  (h:∀b,wpAny (model prog w) A.in1 (storeInOwnDict (.ref x) (.ref C) (.str c_ tk) c_ v b)
   (λgj a=>match gj with | .done f=>R (.ok f) a | .again i=>i.quiet=true/\codeAny (model prog w) A i R a) (λe a=>R (.error e) a) s):
  codeAny (model prog w) A (.call (.builtin "object.__setattr__") ({[.ref x,.str c_ tk,v],[]})) R s:=by
 let a:=PySem.F.store_object;let{d,i,j}:=c.mr;refine codeAny_call_builtin a.slot.plain a.entry
  (@check_slot (model prog w) _ _ s "object.__setattr__" "object" "__setattr__" (.ref x) [.str c_ tk,v] [] _ a.kind a.split (I.type.andThen (looks_mroIn X c.mo)) (a.args (.ref x) (.str c_ tk) v) ?_)
 let a:Looks (model prog w) s.heap (mroOf (.ref C)) d.mro:=(looks_clsIn X i).andThen .now;rw[osa_eq,refuse_eq];calc zep (zep (I.type.here (zep (a.here ?_))));rw[j,refuseLoop_ref,ux _ m];calc zeq (zep (I.type.here (zep ((looks_findIn X o).here (zep (zeq (h _)))))))
def Nw{prog:o3}{w:o4}{A:o2}{E:n9->n0->Prop}{s:n0}{K:Frag}{x:m9}{C:m9}{a:Obj}{m:List n9}{c_:Str}{v:n9}{Q:Unit->n0->Prop}(X:K.In s.heap)(j:s.heap.get? x=tH a)(p:a.cls=.ref C)(u:a.dict=r4)(z:∃l,a.data=.fields l)(c:XN K C m)(i:xp m)(B:findIn K (.ref C) c_=tH r4)
  (h:∀d tk,d.get? x=tH {a with dict:=tH s.heap.objs.size}->d.Ns1 s.heap.objs.size (λy=>if y=c_ then tH v else r4)->
   (∀b o,b≠x->s.heap.get? b=tH o->d.get? b=tH o)->Q () {s with heap:=d,toks:=tk}):
  wpAny (model prog w) A (setAttr (.ref x) c_ v) Q E s:=by
 let{l,m}:=z;let{_,_,_,z}:=a
 try dsimp only at p u m
 subst p u m;let I:InstAt s.heap x ⟨.ref C,r4,.fields l,z⟩ C r4:={j,s0,s0,trivial};calc set_plain X I c.sa (C7 X I c i B λb=>?_);let{_,a,m}:=any_some c.hd;calc zep (zeq (zep (zep (wpAny_loadPart j (zep (Looks.here (looks_clsIn X a) ?_))))));rw[m];let a:=tX (tM j);let m:=tm zbj j;calc zep (wpAny_alloc (zep (wpAny_update m ?_)));generalize j:(s.heap.push emptyDict).update x (λo=>{o with dict:=tH s.heap.objs.size})=p;let u:p.get? x=tH ⟨.ref C,tH s.heap.objs.size,.fields l,z⟩:=by rw[<-j];exact zay _ m rfl
 let l:∀b o,b≠x->(s.heap.push emptyDict).get? b=tH o->p.get? b=tH o:=λb o i e=>by rwa [<-j,zah _ _ (Ne.symm i)]
 let j:(s.heap.push emptyDict).Ns s.heap.objs.size (λ_=>r4):={emptyDict,#[],_,tL s.heap rfl,s0,(λe m=>absurd m {}),λ_=>rfl};calc zeq (zep (zeq (zep (wpAny_nsSet1 ((Heap.Ns1.of_empty j).at λo q=>l _ o (Ne.symm a) q) λd j m=>?_))));let{_,_,_,p,z,B}:=j.count (PySem.Within.cons c_ v PySem.Within.nil);calc zep (wpAny_lookBehind p (by rw[z];calc pastItsLine_dict (tP B (by show 1<=zes+1;decide))) ?_);calc zeq (h d (s.toks+1+1) ((m.2 x a).trans u) j λb o i e=>(m.2 b (tX (tM e))).trans (l b o i (tm _ e)))
def u3{prog:o3}{w:o4}{A:o2}{E:n9->n0->Prop}{s:n0}{K:Frag}{x:m9}{C:m9}{d:Obj}{i:Option Obj}{j:List n9}{c_:Str}{iC gI:Bool}{tk:Tok}{Q:n9->n0->Prop}(X:K.In s.heap)(I:InstAt s.heap x d C i)(c:XN K C j)
  (h:wpAny (model prog w) A.in1 (Builtin.«object.__getattribute__» ({[.ref x,.str c_ tk],[]})) (λgj a=>match gj with | .done (.ret u)=>handedIn u=true/\Q u a | _=>False) (λ_ _=>False) s):
  wpAny (model prog w) A (getAttrBy (.ref x) (.str c_ tk) iC gI) Q E s:=by
 let b:=PySem.F.attr_ValueError.ga;unfold getAttrBy;refine wpAny_holding (zep (I.type.here (zep ((looks_findIn X c.ga).here ?_))))
 try dsimp only
 let l:(Value.builtin "BaseException.__getattribute__"==Value.builtin "object.__getattribute__")=false:=by decide+kernel
 rw[if_neg (by rw[l,zdF];decide)];unfold getAttrByItsOwn;calc zep (show wpAny _ _ (hookBefore (.ref C)) _ _ _ from(looks_findIn X c.gt).here (zep (wpAny_attempt (wpAny_holding ?_))));unfold callGetattribute;let m:(gI&&onTheHeap (Value.builtin "BaseException.__getattribute__"))=false:=by cases gI<;>rfl
 rw[if_neg (by rw[m];decide)];unfold boundAndCalled;rw[b.bind];refine zep (zeq (wpAny_call (codeAny_call_builtin b.plain PySem.F.entry_bexc_ga
  (@check_slot (model prog w) _ _ s "BaseException.__getattribute__" "BaseException" "__getattribute__" (.ref x) [.str c_ tk] [] _ (by decide+kernel) (by decide+kernel) (I.type.andThen (looks_mroIn X c.mb)) (PySem.F.args_bexc_ga _ _) ?_))))
 calc wpAny_mono h (λgj a z=>?_) λ_ _ z=>z.elim;cases gj with
 | again p=>calc z.elim
 | done f=>
  cases f with
  | next=>calc z.elim
  | brk=>calc z.elim
  | cont=>calc z.elim
  | ret u=>
   let{o,q}:=z;show wpAny _ _ (handedOut u) _ _ _;rw[handedOut_of o];calc zeq q
def Eg{prog:o3}{w:o4}{A:o2}{E:n9->n0->Prop}{s:n0}{K:Frag}{x:m9}{C:m9}{a:Obj}{b:List n9}{c_:Str}{v:n9}{gI:Bool}{Q:n9->n0->Prop}{hQ:Obj}(X:K.In s.heap)(I:InstAt s.heap x a C (tH hQ))(c:XN K C b)(d:findIn K (.ref C) c_=tH r4)(i:lookIn c_ hQ=tH (tH v))(j:handedIn v=true)
  (h:Q v {s with toks:=s.toks+1}):wpAny (model prog w) A (getAttr (.ref x) c_ gI) Q E s:=by
 unfold getAttr;calc zep (wpAny_mkText (u3 X I c ?_));unfold Builtin.«object.__getattribute__»;exact zep (zeq (zep (zeq (zep (Looks.here I.type (zep (Looks.here (looks_find (M:=model prog w) X I (findObj_own c.hd d rfl i)) (zeq ({j,h})))))))))
def Am{K:Frag}{x:m9}{C:m9}{i:Obj}{hQ:Obj}{j:List n9}(c:XN K C j)(l:specialIn K (.builtin "object.__class__") "__get__"=tH (tH (.builtin "getset_descriptor.__get__")))(m:takesIn K (.builtin "object.__class__")=tH true):
  KitX K (.ref x) (.ref C) (λh=>InstAt h x i C (tH hQ)) where
 ty:=λ_ _ _ I=>I.type
 it:=λ_ _ X _=>by
  let{d,a,_}:=any_some c.hd;unfold clsIn at a;split at a
  ·rename_i _ _ _ _ b;intro v y z B k q;unfold isType loadHead;exact zep (wpAny_loadPart (k _ _ (X _ _ b)) (zeq q))
  ·cases a
 ne:=λh D H J n L X o=>by
  let{d,a,_}:=any_some c.hd;calc zdd.mpr λq=>?_;let e:=Value.ref.inj (beq_iff_eq.mp q);subst e;unfold clsIn at a;split at a
  ·rename_i _ _ _ _ b;cases ((X _ _ b).symm.trans o)
  ·cases a
 ca:=λ{prog w A E Q s} X I k=>by
  let p:findObj K C (tH hQ) "__class__"=tH (.bind (.builtin "getset_descriptor.__get__") (.builtin "object.__class__")):=
   findObj_data (by let{d,u,_}:=any_some c.hd;rw[u];rfl) c.cl l m
  unfold getAttr? getAttrBy?;calc zep (wpAny_mkText (zep (wpAny_attempt (u3 X I c ?_))));unfold Builtin.«object.__getattribute__»;refine zep (zeq (zep (zeq (zep (Looks.here I.type (zep (Looks.here (looks_find X I p) ?_)))))))
  try dsimp only
  unfold bindTo
  try dsimp only
  exact zep (wpAny_holding (wpAny_call (class_get X I c.mo (zeq ({s0,zeq k})))))
def Xl(e C:m9):HO:=.ext λh=>∃a,h.get? e=tH {cls:=.ref C,data:=.fields a}/\a[1]?=tH Value.none
def QR(e C b:m9)(hd:n9):HO:=.ext λh=>∃a,h.get? e=tH {cls:=.ref C,dict:=tH b,data:=.fields a}/\a[1]?=tH hd
abbrev Z1(e C a:m9):HO:=QR e C a .none
def Zn:List n9:=[.type "ValueError",.type "Exception",.type "BaseException",.type "object"]
structure Sr(K:zen)(C f:m9)(bm:List n9):Prop where
 obj:∃nm q N bs gZ sn sub ab iD dd k0 k1 k2 k3 k5,K.lookup C=tH (excClassObj nm q C N bs bm gZ sn sub ab iD dd k0 k1 k2 k3 k5 "ValueError.__new__")
 tail:∀h:o1,K.In h->OwnTail h Zn bm
 init:t9 K (.ref C) "__init__"=tH (tH (.ref f))
 fn:zbB K (.ref f)=true
 kp:zaM K (.ref C)=true
def Ej{h:o1}(b:∃a,h.get? e=tH {cls:=.ref C,data:=.fields a}/\a[1]?=tH Value.none):qL P w H h e (Xl e C):=by
 let{a,q,z}:=b;calc{{a,q,z},{_,q},λ_ _ ⟨a,b,d⟩ k=>{a,k _ b,d}}
def zK{h:o1}(b:∃a,h.get? e=tH {cls:=.ref C,dict:=tH d,data:=.fields a}/\a[1]?=tH hd):qL P w H h e (QR e C d hd):=by
 let{a,q,z}:=b;calc{{a,q,z},{_,q},λ_ _ ⟨a,b,d⟩ k=>{a,k _ b,d}}
def qA.excSet{i:o1}{fs:List (Str×V)}(I:qA X v x H s)(l:H e=tH (Xl e C))(hd:s.heap.objs.size<=a)(p:∃d,i.get? e=tH {cls:=.ref C,dict:=tH a,data:=.fields d}/\d[1]?=tH Value.none)(y:∃j,i.Ns1 a j/\∀f,ZK (fs.lookup f) (j f))(k:∀b o,b≠e->s.heap.get? b=tH o->i.get? b=tH o):qA X v x (upd (upd H e (Z1 e C a)) a (.xd fs)) {s with heap:=i,toks:=t'}:=by
 let v:Hh (H e):=l▸trivial;let x:∃u,i.get? e=tH u:=let ⟨_,q,_⟩:=p;({_,q});let j:=I.hok.fresh hd;let d:Un X.fs [] H (upd H e (Z1 e C a)) s.heap i:=Un.write v (.inl rfl) k x;let i:(upd H e (Z1 e C a)) a=r4:=by rw[qf (λz=>by rw[z,l]at j;cases j)];exact j
 refine I.un ({d.keep,d.slot,λb o q n l=>?_,d.there,λb j q=>?_,λb o z q=>?_,λb B q=>?_}) λb o q=>?_
 ·rw[qf ((λb o q=>tX (tJ (tM q) hd)) b o q)];exact d.free b o q n l
 ·let:=d.tups b j q;rwa [qf (qo this i)]
 ·let:=d.frzs b o z q;rwa [qf (qo this i)]
 ·let{m,l}:=d.tbls b B q;exact{m,by rwa [qf (qo l i)]}
 ·by_cases d:b=a
  ·subst d;rw[qa]at q;cases q;exact y
  ·rw[qf d]at q;calc((I.hok.write v (.inl rfl) k x (zK p)) b o q).stay (λ_ _ _ z=>z) (λc z=>by rwa [qf (qo z i)]) (λc j z=>by rwa [qf (qo z i)]) (λc o z=>by rwa [qf (qo z i)])
def KG{Q:Unit->n0->Prop}(I:qA X i j H s)(b:H e=tH (Xl e C))(c:XN X.K C l)(m:xp l)(n:Qy X.K C f)(o:qV y u)(h:∀a d,H a=r4->qA X i j (upd (upd H e (Z1 e C a)) a (.xd [(f,y)])) d->Q () d):wpAny (model X.prog X.w) A (setAttr (.ref e) f u) Q E s:=by
 obtain⟨⟨a,d,i⟩,_,_⟩:=(show qL X.prog X.w H s.heap e (Xl e C) from I.hok e _ b);calc Nw I.kIn d rfl rfl ({a,s0}) c m n λ_ tk d j l=>h s.heap.objs.size _ (I.hok.fresh (ti _)) (I.excSet b (ti _) ({a,d,i}) ({_,j,λg=>?_}) l);by_cases a:g=f
 ·subst a;rw[zaq];simp only[beq_self_eq_true,if_true];exact o
 ·let b:=beq_eq_false_iff_ne.mpr a;rw[zaq];simp only[b,a,if_false];calc trivial
def GC{Q:n9->n0->Prop}(I:qA X i j H s)(m:H e=tH (QR e C a hd))(o:H a=tH (.xd fs))(c:XN X.K C p)(n:Qy X.K C f)(l:fs.lookup f=tH v)(h:∀u d,qA X i j H d->qV v u->Q u d):wpAny (model X.prog X.w) A (getAttr (.ref e) f b) Q E s:=by
 obtain⟨⟨_,d,_⟩,_,_⟩:=(show qL X.prog X.w H s.heap e (QR e C a hd) from I.hok e _ m);let{_,i,hr}:=(show qL X.prog X.w H s.heap a (.xd fs) from I.hok a _ o);let{_,j,m}:=Y8 i;let r:=hr f;rw[l]at r;let{u,i,a}:=ZK.some_of r;calc Eg I.kIn ({d,s0,s0,j}) c n (by rw[m,i]) (Ub a) (h u _ (I.tok _) a)
def AF{Q:n9->n0->Prop}(I:qA X p q H s)(d:H e=tH (QR e C a hd))(i:H a=tH (.xd fs))(c:XN X.K C u)(j:zcc X.K (.builtin "object.__class__") "__get__"=tH (tH (.builtin "getset_descriptor.__get__")))(l:zcq X.K (.builtin "object.__class__")=tH true)(m:zak X.K (.ref C) o=tH b)(h:∀tk,Q (.bool b) {s with toks:=tk}):wpAny (model X.prog X.w) A (call (.builtin "isinstance") [.ref e,o]) Q E s:=by
 obtain⟨⟨_,o,_⟩,_,_⟩:=(show qL X.prog X.w H s.heap e (QR e C a hd) from I.hok e _ d);let{_,d,hr}:=(show qL X.prog X.w H s.heap a (.xd fs) from I.hok a _ i);let{_,a,_}:=Y8 d;exact zaR (Am c j l) I.kIn ({o,s0,s0,a}) m (λz=>nomatch z) h
inductive Fz(K:zen)(bm:List n9)(f:Str)(D:QY)(σ:St)(y:V)(x:V)(H2:Hp):Prop
 | mk (a:_) (C:_):x=.ref a->H2 a=tH (Xl a C)->XN K C bm->xp bm->Qy K C f->(∀dx,H2 dx=r4->D.nx σ (upd (upd H2 a (Z1 a C dx)) dx (.xd [(f,y)])))->Fz K bm f D σ y x H2
def TY(K:zen)(b:List n9)(d i:TE)(f:Str):TS:=λD a H=>i a H λy i=>d a i λx d=>Fz K b f D a y x d
def Ar{pos:Pos}(i:JE X o b)(j:JE X gf d)(l:swapsWith gf (tH (.Attribute o f m)) pos.line X.env=pure false):JS X (.Assign [.Attribute o f m] gf pos) (TY X.K p b d f):=.of (by
 refine λd s b H D I h=>plainObj_wpAny_Assign_Attribute (jy (j.to d s b H _ I h) λu j ⟨y,m,p,v,q⟩=>
  jy (i.to d j b m _ p q) λd _ ⟨x,_,i,j,a,_,ex,m,c,p,n,z⟩=>?_) l
 subst ex;obtain rfl:d=Value.ref a:=j;calc KG i m c p n v λd _ i j=>{b,_,j,z d i})
def KO{X:Cx}{Q:VK}(M:Sr X.K C D bm)(F:qu X.prog X.w X.K X.mg X.base J k D L ps O)(hr:jK (k+1) X.A)(T:Qj X.K L ps [])(U:QT J X E)(I:qA X j l H s)(r:qN vs us)(hz:us.length<=zes)(h:∀x,H x=r4->O (.ref x::vs) (upd H x (Xl x C)) (λv Y=>v=.non/\Q (.ref x) Y) E):
  wpAny (model X.prog X.w) X.A (call (.ref C) us) (EP X j l Q) X.xe s:=by
 let{nm,q,N,bs,ac,sn,sub,ab,ae,dd,k0,k1,k2,k3,k5,hC}:=M.obj;let{oI,ho,aa}:=zbT.mp (beq_iff_eq.mp M.fn);let b:=I.kIn;let{hp,g,d,tk,os}:=s;calc G4 zcR (by decide+kernel) zcR (M.tail _ b) (b _ _ hC) (zdG b M.init) (b _ _ ho) aa (λh' ex m o=>?_) hz;let{t0,ht,_,_}:=o.there;let i:=I.laid (t':=tk) o.keeps m (Ej ({_,ht,s0}));let p:=h ex (I.hok.fresh m);let y:qN (V.ref ex::vs) (Value.ref ex::us):=.cons rfl r;let hl:(Value.ref ex::us++[]).length=ps.length:=by
  let e:=y.length;rw[F.len _ _ _ _ p]at e;rw[zal];exact e.symm
 let B:=T ({h',g,d,tk,os}) (Value.ref ex::us) i.kIn hl;rw[zal]at B;calc wpAny_call (codeAny_mono (F.run _ X.stack _ _ ({Value.ref ex::us,[]}) (Value.ref ex::us) _ _ E (hr.make C us []) (i.env0.make C us []) B y p) λr s' a=>?_);cases r with
 | error z=>calc U j l _ _ z s' i a
 | ok fl=>
  cases fl with
  | ret u=>
   let{v,H',I3,rv,ev,q3}:=i.after a;subst ev;calc{rv,{V.ref ex,H',I3,s0,q3}}
  | next=>calc False.elim a
  | brk=>calc False.elim a
  | cont=>calc False.elim a
def Yv{X:Cx}(M:Sr X.K C i U)(F:qu X.prog X.w X.K X.mg X.base j k i l ps m)(hr:jK (k+1) X.A)(o:Gl X x)(u:X.mg x=tH (.ref C))(y:Qj X.K l ps [])(z:QT j X E)(B:JA X (e::a) t)(hz:(e::a).length<=1000:=by decide)(D:∀vs us,qN vs us->vs.length<=zes->us.length<=zes:=by intro vs us r h;rw[<-r.length];calc h)(J:(x==("__debug__":Str))=false:=by decide)(L:starEach (e::a) X.env=(false,eval e X.env)::starEach a X.env:=by rfl)(O:(backTo pos (starEach a X.env)).any (·.1)=false:=by rfl):JE X (.Call (.Name x p) (e::a) [] pos) (λb H Q=>t b H λvs d=>vs.length<=zes/\∀x,d x=r4->m (.ref x::vs) (upd d x (Xl x C)) (λv T=>v=.non/\Q (.ref x) T) E):=.of (by
 calc λa s b H Q I h=>wpAny_Call_Name_kw (Ys I o u (zbm (h₀:=X.base) I.ok.mod.kin M.kp (jy (B.to pos a s b H _ I h) λus _ ⟨vs,d,a,r,q⟩=>{a.kIn,?_}) L O) J);calc KO M F hr y z a r (D vs us r q.1) q.2)
mutual
inductive DV(K:zen)(H:Hp):V->PyData->Prop
 | non:DV K H .non .none
 | bl (b:Bool):DV K H (.bl b) (.bool b)
 | int (i:Int):DV K H (.int i) (.int i)
 | str (x:Str):DV K H (.str x) (.str x)
 | lst {a:m9} {xs:List V} {ds:List PyData}:JX K H a xs->DVs K H xs ds->DV K H (.ref a) (.list ds)
 | tup {a:m9} {xs:List V} {ds:List PyData}:SqT K H a xs->DVs K H xs ds->DV K H (.ref a) (.tuple ds)
inductive DVs(K:zen)(H:Hp):List V->List PyData->Prop
 | nil:DVs K H [] []
 | cons {x:V} {xs:List V} {d:PyData} {ds:List PyData}:DV K H x d->DVs K H xs ds->DVs K H (x::xs) (d::ds)
end
mutual
def DV.reads{X:Cx}{j:List (m9×Obj)}{l:St}{H:Hp}{s:n0}(I:qA X j l H s):∀{x:V} {d:PyData},DV X.K H x d->∀{u:n9},qV x u->∃as,Reads s.heap u d as
 | _,_,.non,u,r=>by cases (show u=Value.none from r);calc{_,.none}
 | _,_,.bl b,u,r=>by cases (show u=Value.bool b from r);calc{_,.bool b}
 | _,_,.int i,u,r=>by let{t,q}:=(show ∃t,u=Value.int i t from r);subst q;calc{_,.int i t}
 | _,_,.str x,u,r=>by let{t,q}:=(show ∃t,u=Value.str x t from r);subst q;calc{_,.str x t}
 | _,_,.lst (a:=a) j l,u,r=>by
  cases (show u=Value.ref a from r);obtain⟨y,m,⟨z,n,e,o,hd,p⟩,B⟩:=I.list j;let{as,v}:=DVs.reads I l m;calc{_,.list e o p (by simpa using v)}
 | _,_,.tup (a:=a) j l,u,r=>by
  cases (show u=Value.ref a from r);obtain⟨y,m,⟨z,e,o,n,p⟩,B⟩:=I.tuple j;let{as,v}:=DVs.reads I l m;calc{_,.tuple e o p (by simpa using v)}
def DVs.reads{X:Cx}{i:List (m9×Obj)}{j:St}{H:Hp}{s:n0}(I:qA X i j H s):∀{xs:List V} {d:List PyData},DVs X.K H xs d->∀{us:List n9},qN xs us->∃as,ReadsAll s.heap us d as
 | _,_,.nil,_,.nil=>{_,.nil}
 | _,_,.cons h d,_,.cons r i=>by
  let{as,a}:=DV.reads I h r;let{bs,b}:=DVs.reads I d i;calc{_,.cons a b}
end
def ye{x:Str}(a:x.length<=1000)(b:0<=n)(d:n<=1000):MulOk x n:=by
 refine{?_,λh _=>?_,λh _=>?_}
 ·rw[decide_eq_false {},decide_eq_false {}];rfl
 ·intro z;let q:(1000:Int)<=(2^63 - 1) / n:=by
   rw[Int.le_ediv_iff_mul_le {}];omega
  omega
 ·unfold Builtin.Str.tooLong;calc decide_eq_false ?_;let q:x.length*n.toNat<=1000*1000:=zbJ a {};let e:(1000000:Nat) < zes:={}
  omega
inductive N3(x:V)(y:V)(H:Hp)(Q:VK):Prop
 | mk (z:_) (n:_):x=.str z->y=.int n->(z.length<=1000)->(0<=n)->(n<=1000)->(Q (.str (Txt.mul z n)) H)->N3 x y H Q
def O0:R2:=λx y H Q=>N3 x y H Q
def C9:Z8 X (binaryOp .Mult) O0:=by
 intro _ s _ H x y v u Q I a b h;let{z,n,rfl,rfl,d,i,j,q}:=h;let{t,rfl}:=a;let{_,rfl}:=b;exact SB.mul (ye d i j) λt k=>{.str _,H,I.tok k,{t,s0},q}
inductive FL(K:zen)(k:Bool)(x:V)(y:V)(H:Hp)(Q:VK):Prop
 | mk (d:_):DV K H x d->DV K H y d->PySem.SeqAt.shaped d=true->(Q (.bl k) H)->FL K k x y H Q
def T3(K:zen)(k:Bool):R2:=λx y H Q=>FL K k x y H Q
def Va(h:PySem.SeqAt.shaped d=true):PyData.eqv d d=true:=PySem.SeqAt.eqv_refl d (PySem.SeqAt.canLay_of_shaped h)
def Mp{X:Cx}(hu:X.A.units+64 < cLine):Z8 X (compareOp .NotEq) (T3 X.K false):=by
 intro _ s _ H x y v u Q I b i h;let{d,j,l,a,q}:=h;let{as,m}:=j.reads I b;let{bs,b}:=l.reads I i;calc ne_dataH m b a a hu ?_;rw[Va a];calc{.bl false,H,I,s0,q}
def Sw(i j:Int):Prop:=0 < j/\j.natAbs < 2^200
def Mq:Z8 X (binaryOp .FloorDiv) (rI Sw λi j=>.int (i / j)):=Iu λi j _ _ _ _ _ a q=>by
 let b:=a.1;calc floordiv_int {} (by rwa [zch i {}]) (.inl (PyProof.noPylong_of_log2 (zed ((Nat.log2_lt {}).mpr a.2) {})))
def Gf:LL X "int.bit_length" (λx xs H Q=>∃i,x=.int i/\xs=[]/\Q (.int (Builtin.Int.intBits i)) H):=by
 intro _ s _ H x xs v _ Q I a b h;let{i,rfl,rfl,q}:=h;let{t,rfl}:=a;cases b;calc call_int_bit_length ({.int _,H,I.tok _,{_,s0},q})
inductive EO(t u:TS)(D:QY)(σ:St)(H:Hp):Prop
 | mk (W:St->Hp->Prop):(t {D with nx:=W} σ H)->(∀gK H',W gK H'->u D gK H')->EO t u D σ H
def SR(t u:TS):TS:=λD a H=>EO t u D a H
def DZ{X:Cx}{st:o0}{rest:List o0}{t:TS}{u:TS}(i:JS X st t)(j:Vm X rest u):Vm X (st::rest) (SR t u):=.of (by
 intro a s l H D I ⟨W,h,k⟩;calc wpAny_execs_cons (jy (i.to a s l H {D with nx:=W} I h) λf m q=>?_);cases f with
 | next=>
  let{b,d,o,q}:=q;calc j.to a m b d D o (k b d q)
 | ret v=>calc q
 | brk=>calc q
 | cont=>calc q)
end L2
namespace PySem
def WE(x n c:Int):Obj:={cls:=.type "range_iterator",data:=.fields #[rawInt x,rawInt n,rawInt c]}
def uu(n:Nat):Builtin.Range.rangeSize 0 n 1=n:=by
 unfold Builtin.Range.rangeSize;rw[if_pos {}];split<;>omega
def Ve{s:n0}{Q:n9->n0->Prop}(hr:IsRange s.heap r a b c t u v)(d:(Builtin.Range.rangeFitsLong a&&Builtin.Range.rangeFitsLong b&&Builtin.Range.rangeFitsLong c&&Builtin.Range.rangeFitsLong (-c)&&Builtin.Range.rangeFitsLong (a - c)&&Builtin.Range.rangeFitsLong (Builtin.Range.rangeSize a b c))=true)(h:Q (.ref s.heap.objs.size) {s with heap:=s.heap.push (WE (a+(Builtin.Range.rangeSize a b c - 1)*c) (Builtin.Range.rangeSize a b c) (-c))}):wpAny (model prog w) A (call (.builtin "range.__reversed__") [.ref r]) Q E s:=by
 calc wpAny_call_entry F.slot_range_reversed ({_,hr,s0}) F.entry_range_reversed ?_ (F.args_range_reversed_1 _);unfold Builtin.«range.__reversed__»;calc zep (wpAny_of_eq rfl (zep ?_));unfold Builtin.Range.rangeFields;calc zep (wpAny_field hr rfl (x:=.int a t) rfl (zep (m:=asInt? (.int a t)) (zeq (zep (wpAny_field hr rfl (x:=.int b u) rfl (zep (m:=asInt? (.int b u)) (zeq ?_)))))));refine zep (wpAny_field hr rfl (x:=.int c v) rfl (zep (m:=asInt? (.int c v)) (zeq (zeq ?_))))
 try dsimp only
 rw[d];simp only[Bool.not_true,zaP,if_false,if_true]
 first
 | calc zep (wpAny_newObj_type (zeq ({_,s0,h})))
 | calc zep (zeq (zep (wpAny_newObj_type (zeq ({_,s0,h})))))
def zN{prog:o3}{w:o4}{A:o2}{E:n9->n0->Prop}{s:n0}{r:m9}{n:Nat}{t u v:Tok}{Q:n9->n0->Prop}(hr:IsRange s.heap r 0 n 1 t u v)(a:n < 1048576)
  (h:Q (.ref s.heap.objs.size) {s with heap:=s.heap.push (WE ((n:Int) - 1) n (-1))}):wpAny (model prog w) A (call (.builtin "range.__reversed__") [.ref r]) Q E s:=by
 let f:∀x:Int,-2000000<=x->x<=2000000->Builtin.Range.rangeFitsLong x=true:=λx _ q=>by
  unfold Builtin.Range.rangeFitsLong;simp;omega
 let e:=uu n;let a:(Builtin.Range.rangeFitsLong 0&&Builtin.Range.rangeFitsLong (n:Int)&&Builtin.Range.rangeFitsLong 1&&Builtin.Range.rangeFitsLong (-1)&&Builtin.Range.rangeFitsLong (0 - 1)&&Builtin.Range.rangeFitsLong (Builtin.Range.rangeSize 0 n 1))=true:=by
  rw[e,f 0 {} {},f n {} {},f 1 {} {},f (-1) {} {},f (0 - 1) {} {}];rfl
 calc Ve hr a ?_;let a:(0:Int)+(Builtin.Range.rangeSize 0 n 1 - 1)*1=(n:Int) - 1:=by rw[e];omega
 rw[a,e];calc h
def z9{prog:o3}{w:o4}{A:o2}{E:n9->n0->Prop}{s:n0}{r:m9}{n:Nat}{t u v:Tok}{Q₁:n9->n0->Prop}(hr:IsRange s.heap r 0 n 1 t u v)(a:n < 1048576)
  (h:Q₁ (.ref s.heap.objs.size) {s with heap:=s.heap.push (WE ((n:Int) - 1) n (-1))}):
  codeAny (model prog w) A (.call (.builtin "reversed.__new__") ({[.type "reversed",.ref r],[]})) (wants Q₁ E) s:=by
 let b:¬((Value.builtin "range.__reversed__"==Value.none)=true):=tN;refine codeAny_of_tree (show wpAny _ A.in1 (checkBuiltinCall "reversed.__new__" ({[.type "reversed",.ref r],[]}) >>= λ_=>again (.builtin "reversed.__new__" ({[.type "reversed",.ref r],[]}))) _ _ s from
  zep (wpAny_of_eq (F.newCall_reversed_1 (.ref r)) (zeq ({plainId_quiet F.plain_reversed_new _,codeAny_builtin F.entry_reversed_new ?_}))))
 rw[Around.under_plainId F.plain_reversed_new _];unfold Builtin.«reversed.__new__»;calc zep (wpAny_of_eq (newClass_reversed (.ref r)) ?_);dsimp only;calc zep (wpAny_of_eq (a:=()) (by kernel_rfl) (zep (wpAny_of_eq (a:=()) (by kernel_rfl) ?_)));try dsimp only
 calc zep (wpAny_specialOf ({_,hr,s0}) F.slot_range_reversed.lookup ?_);dsimp only;calc zep (wpAny_of_eq (F.slot_range_reversed.bind _) ?_);dsimp only;rw[if_neg b];refine zep (wpAny_rule (zep (show wpAny _ _ (call (.builtin "range.__reversed__") [.ref r]) _ _ _ from zN hr a ?_)))
 first | calc zeq h | calc zep (zeq (zeq h))
def XH:isSubtype (.type "range_iterator") (.type "reversed")=pure false:=by rw[isSubtype_type];kernel_rfl
def zM{prog:o3}{w:o4}{A:o2}{E:n9->n0->Prop}{s:n0}{r:m9}{n:Nat}{t u v:Tok}{Q:n9->n0->Prop}(hr:IsRange s.heap r 0 n 1 t u v)(b:n < 1048576)
  (h:Q (.ref s.heap.objs.size) {s with heap:=s.heap.push (WE ((n:Int) - 1) n (-1))}):wpAny (model prog w) A (call (.type "reversed") [.ref r]) Q E s:=by
 calc callType_other (Q₁:=λobj a=>obj=.ref s.heap.objs.size/\a={s with heap:=s.heap.push (WE ((n:Int) - 1) n (-1))}) (by decide+kernel) F.create_reversed ({_,_,F.mro_reversed}) F.made_reversed XH (F.typeCall_reversed_1 _) (z9 hr b ({s0,s0})) ?_;rintro obj a ⟨rfl,rfl⟩;calc{{_,tL _ rfl,s0},h}
def vl{s:n0}{Q:n9->n0->Prop}(gJ:IsRangeIter s.heap I x left c)(h:Q (.int left s.toks) {s with toks:=s.toks+1}):
  wpAny (model prog w) A (call (.builtin "range_iterator.__length_hint__") [.ref I]) Q E s:=by
 calc wpAny_call_entry F.slot_range_iterator_length_hint ({_,gJ,s0}) F.entry_range_iterator_length_hint ?_ (F.args_range_iterator_length_hint_1 _);unfold Builtin.«range_iterator.__length_hint__»;calc zep (wpAny_of_eq rfl (zep (wpAny_field gJ rfl rfl ?_)));show wpAny _ _ (do ret (<-mkInt left)) _ _ _;exact wpAny_ret_mkInt h
structure wd(P:o3)(w:o4)(T:String)(I:m9)(fp:List m9)(n:Nat)(V:Nat->n9->Prop)(St:Nat->o1->Prop):Prop where
 ty:∀z:n0,St 0 z.heap->z.TypeIs (.ref I) T
 nl:(Value.type T==Value.type "list")=false
 nt:(Value.type T==Value.type "tuple")=false
 walk:∀B:o2,B.handled=r4->Walks P w B I fp [I] n V St
 hint:∀(B:o2) (F:n9->n0->Prop) (z:n0) (R:Bool->n0->Prop),St 0 z.heap->(∀k,R false {z with toks:=k})->wpAny (model P w) B (Builtin.List.listLengthHint (.ref I)) R F z
def wd.list(a:wd P w T I fp n V St){B:o2}{z:n0}{R:n9->n0->Prop}(j:B.handled=r4)(st:St 0 z.heap)(mem:I∈fp)(gy:∀b∈fp,b < z.heap.objs.size)(d:n<=1048576)(k:∀g tk xs c,(∀b o,b≠I->z.heap.get? b=tH o->g.get? b=tH o)->g.get? z.heap.objs.size=tH ({.type "list",r4,.seq xs c,#[]}:Obj)->ItemsOf V xs n->R (.ref z.heap.objs.size) {z with heap:=g,toks:=tk}):
  wpAny (model P w) B (call (.type "list") [.ref I]) R u z:=by
 let p:∀b∈fp,z.heap.objs.size≠b:=λb d=>zbA (gy b d);let v:Builtin.List.listSameRef (.ref z.heap.objs.size) (.ref I)=false:=by unfold Builtin.List.listSameRef;simp [p I mem]
 calc callType_codes (Q₁:=λi l=>l={z with heap:=z.heap.push {cls:=.type "list",data:=.seq #[]}}/\i=.ref z.heap.objs.size) F.called_list (F.typeCall_list_1 _) F.entry_list_init (code_list_new _ ({s0,s0})) ?_;rintro i l ⟨rfl,rfl⟩;let i:=tL z.heap (o:=({cls:=.type "list",data:=.seq #[]}:Obj)) rfl;exists{_,i,s0},F.args_list_init_2 _ _;show wpAny _ _ (Builtin.List.listItems (.ref _) >>= λl=>Builtin.List.listUpdate (.ref _) (λ_=>#[]) >>= λ_=>letGo l.toList.reverse >>= λ_=>Builtin.List.listExtendWith (.ref _) (.ref I) .none) _ _ _;calc zep (show wpAny _ _ (Builtin.List.listItems (.ref _)) _ _ _ from ?_);unfold Builtin.List.listItems;calc zep (wpAny_seqItems i rfl (zeq (zep (wpAny_updateSeq i rfl (zep (wpAny_letGo ?_))))));let l:=zay (Obj.mapSeq (λ_=>(#[]:Array n9))) i rfl;let m:∀b o,z.heap.get? b=tH o->((z.heap.push {cls:=.type "list",data:=.seq #[]}).update z.heap.objs.size (Obj.mapSeq (λ_=>(#[]:Array n9)))).get? b=tH o:=λb o e=>
  (zah _ _ (zbA (tM e))).trans (tm _ e)
 generalize i:(z.heap.push {cls:=.type "list",data:=.seq #[]}).update z.heap.objs.size (Obj.mapSeq (λ_=>(#[]:Array n9)))=g1 at l m;let i:=(a.walk B j).frame 0 _ _ st λb _ o e=>m b o e;unfold Builtin.List.listExtendWith;calc zep (wpAny_typeOf (a.ty {z with heap:=g1} i) ?_);simp only[v,a.nl,a.nt,zdR,zaP,if_false];calc zep ((a.walk B.in1.in1 j).self 0 {z with heap:=g1} _ _ i (zep (wpAny_holding (a.hint B.in1.in1 _ {z with heap:=g1} _ i λtk=>?_))));let run:∀(g:o1) (c tk:Nat),St 0 g->(∀b o,z.heap.get? b=tH o->g.get? b=tH o)->g.get? z.heap.objs.size=tH {cls:=.type "list",data:=.seq #[] c}->
   codeAny (model P w) B.in1 (.builtin "list.extend.loop" ({[.ref z.heap.objs.size,.ref I,.none],[]})) (wants (λr v=>r=.none/\R (.ref z.heap.objs.size) v) u) {z with heap:=g,toks:=tk}:=λg c tk u v x=>
  codeAny_extend_loopS (a.walk B.in1.in1 j).toS (by rw[sizeLine_eq];omega) _ (λq=>p _ q rfl) .none n 0 _ #[] c rfl (zax _) u x (ItemsOf.nil _) λu xs x mv y C=>by
   rw[Moved.eq_with mv];calc{s0,k u.heap u.toks xs x (λb o d e=>mv.heap b o (λq=>?_) (v b o e)) y C};rcases tO.mp q with q | q
   ·exact absurd q (tX (tM e))
   ·exact d (tQ.mp q)
 calc wpAny_ite_split (λ_=>zep (wpAny_rule (zep (show wpAny _ _ (updateSeq z.heap.objs.size (·.push .none) >>= λ_=>updateSeq z.heap.objs.size (·.pop)) _ _ _ from zep (wpAny_updateSeq l rfl ?_))))) (λ_=>zeq ({plainId_quiet F.plain_extend_loop _,run g1 _ tk i m l}));let u:=zay (Obj.mapSeq (·.push Value.none)) l rfl;calc wpAny_updateSeq u rfl ?_;let l:∀b o,b≠z.heap.objs.size->g1.get? b=tH o->((g1.update z.heap.objs.size (Obj.mapSeq (·.push Value.none))).update z.heap.objs.size (Obj.mapSeq (·.pop))).get? b=tH o:=λb o d e=>
  (zah _ _ (Ne.symm d)).trans ((zah _ _ (Ne.symm d)).trans e)
 calc zeq ({plainId_quiet F.plain_extend_loop _,run _ _ tk ((a.walk B j).frame 0 _ _ i λb d o e=>l b o (λq=>p b d q.symm) e) (λb o e=>l b o (tX (tM e)) (m b o e)) (zay (Obj.mapSeq (·.pop)) u rfl)})
def KH(hn:n<=1048576):wd P w "range_iterator" I [I] n (λi v=>∃t,v=.int (x+i*c) t) (λi h=>IsRangeIter h I (x+(i:Nat)*c) ((n:Int) - (i:Nat)) c) where
 ty:=λ_ st=>{_,st,s0}
 nl:=by decide
 nt:=by decide
 walk:=λ_ hB=>Walks.range hB I x c n
 hint:=λB G z R st k=>by
  let iG:IsRangeIter z.heap I x n c:=by
   let e1:x+((0:Nat):Int)*c=x:={}
   let e2:(n:Int) - ((0:Nat):Int)=n:={}
   rw[<-e1,<-e2];exact st
  let ty:z.TypeIs (.ref I) "range_iterator":={_,iG,s0};let few:Builtin.List.listTooLong ((n:Int).toNat)=false:=by unfold Builtin.List.listTooLong;rw[zaE];exact decide_eq_false (by rw[sizeLine_eq];omega)
  unfold Builtin.List.listLengthHint;refine zep (wpAny_specialOf ty F.nolen_ra ((show wpAny _ B (specialOf (.ref I) (zeo "__length_hint__") >>= _) _ _ _ from zep (wpAny_specialOf ty F.hint_ra ?_))))
  (generalize hq:("range_iterator.__length_hint__":String)=q0;(fail_if_success (clear hq q0));wp_delta;rw[show splitId q0=tH ("range_iterator","__length_hint__") from by subst hq;decide+kernel];subst hq)
  calc zep (wpAny_isInstance (b:=true) ty (by rw[isSubtype_type];kernel_rfl) ?_);refine(show wpAny _ B (call (.builtin "range_iterator.__length_hint__") [.ref I] >>= _) _ _ _ from zep (vl iG (zep (zeq ?_))))
  try dsimp only
  rw[if_neg (by rw[few];decide)];calc zeq (k _)
end PySem
namespace L2
open PySem PySem.Spec
open PyProof.Rows hiding K lo
def YC(n:Nat):List Nat:=(zae n).reverse
def Ko{n:Nat}{j:Array n9}(h:ItemsOf (λi v=>∃t,v=.int ((n:Int) - 1+i*(-1)) t) j n):qN ((YC n).map λi=>V.int (i:Nat)) j.toList:=by
 let{o,p}:=h;let gF:∀(b:List V) (a:List n9),b.length=a.length->(∀(i:Nat) (x:V) (u:n9),b[i]?=tH x->a[i]?=tH u->qV x u)->qN b a:=by
  intro b;induction b with
  | nil=>intro a d _;cases a with | nil=>calc .nil | cons _ _=>cases d
  | cons x b q=>
   intro a d m;cases a with
   | nil=>cases d
   | cons u a=>exact .cons (m 0 x u rfl rfl) (q a (by simpa using d) λi y w b l=>m (i+1) y w (by simpa using b) (by simpa using l))
 calc gF _ _ (by simp [YC,o]) λi x u b l=>?_;let a:j[i]?=tH u:=by simpa using l
 let{t,rfl}:=p i u a;let d:i < n:=by
  let:=(zai.mp a).1;omega
 rw[tA,YC,List.getElem?_reverse (by simpa using d),zap,zbP {}]at b;simp at b;subst b;exists t;congr 1;omega
def vJ{R:List n9->n0->Prop}(b:starEach [e] env=[(false,eval e env)])(h:wpAny M A (eval e env) (λv a=>R [v] a) E s):
  wpAny M A (spliced (backTo pos (starEach [e] env))) R E s:=by
 rw[b];show wpAny _ _ (spliced ((false,eval e env)::backTo pos [])) _ _ s;calc Calls.spliced_cons (jy h λu a a=>Calls.spliced_nil a)
inductive EQ(Q:VK)(x:V)(H1:Hp):Prop
 | mk (n:Nat):x=.int n->(n<=1000)->(∀l,H1 l=r4->Q (.ref l) (upd H1 l (.lst ((YC n).map λi=>V.int (i:Nat)))))->EQ Q x H1
def ST(te:TE):TE:=λa H Q=>te a H λx a=>EQ Q x a
def Lm{X:Cx}(v:X.calm=true)(g1:Gl X "list")(y:X.mg "list"=r4)(g2:Gl X "reversed")(z:X.mg "reversed"=r4)(g3:Gl X "range")(B:X.mg "range"=r4)(C:JE X e te)(l:starEach [e] X.env=[(false,eval e X.env)]:=by rfl)(j:starEach [.Call (.Name "range" a) [e] [] d] X.env=[(false,eval (.Call (.Name "range" a) [e] [] d) X.env)]:=by rfl)(m:starEach [.Call (.Name "reversed" o) [.Call (.Name "range" a) [e] [] d] [] p] X.env=[(false,eval (.Call (.Name "reversed" o) [.Call (.Name "range" a) [e] [] d] [] p) X.env)]:=by rfl):JE X (.Call (.Name "list" D) [.Call (.Name "reversed" o) [.Call (.Name "range" a) [e] [] d] [] p] [] J) (ST te):=.of (by
 calc λa s d H Q I h=>Call_ (Jq I g1 y boot_list (PyProof.Rows.callWith_type1 (vJ m ?_) (by rw[m];rfl) rfl));calc Call_ (Jq I g2 z boot_reversed (PyProof.Rows.callWith_type1 (vJ j ?_) (by rw[j];rfl) rfl));calc Call_ (Jq I g3 B boot_range (PyProof.Rows.callWith_type1 (vJ l (jy (C.to a s d H _ I h) λu a ⟨x,_,j,d,m⟩=>?_)) (by rw[l];rfl) rfl));let{n,rfl,o,q}:=m;let{t,rfl}:=d;refine call_range_1 (zM (IsRange.new ..) {} ((KH (x:=(n:Int) - 1) (c:=-1) (n:=n) {}).list (j.ok.hd v) (by
  let d:(n:Int) - 1+((0:Nat):Int)*(-1)=(n:Int) - 1:={}
  let l:(n:Int) - ((0:Nat):Int)=n:={}
  rw[d,l];calc tL _ rfl) {} (λb d=>by rw[tQ.mp d,zbe (_:o1) (WE _ _ _)];calc zaZ _) {} λm tk p v y e z=>?_))
 let B:∀b d,a.heap.get? b=tH d->m.get? b=tH d:=λb d l=>by
  calc y b d (tX ?_) (tm _ (tm _ l));rw[zbe];exact zcd (tM l)
 let d:a.heap.objs.size<=((a.heap.push ({cls:=.type "range",data:=.fields #[.int 0 a.toks,.int n t,.int 1 (a.toks+1)]}:Obj)).push (WE ((n:Int) - 1) n (-1))).objs.size:=by
  rw[zbe,zbe];omega
 calc{.ref _,_,j.laid (o:=.lst ((YC n).map λi=>V.int (i:Nat))) B d ({by simp only[ta,YC,zcm,zap];exact zab (qi o),p.toList,v,Ko z,by simpa using e}),s0,q _ (j.hok.fresh d)})
end L2
namespace L2
open PySem PySem.Spec
open PyProof.Rows hiding K lo
def VY:∀(xs:List V) (us:List n9),xs.length=us.length->(∀(i:Nat) (x:V) (u:n9),xs[i]?=tH x->us[i]?=tH u->qV x u)->qN xs us:=by
 intro xs;induction xs with
 | nil=>intro us a _;cases us with | nil=>calc .nil | cons _ _=>cases a
 | cons x xs d=>
  intro us a b;cases us with
  | nil=>cases a
  | cons u us=>exact .cons (b 0 x u rfl rfl) (d us (by simpa using a) λi y w j l=>b (i+1) y w (by simpa using j) (by simpa using l))
def qA.turnLaid{X:Cx}{a:List (m9×Obj)}{j:St}{H:Hp}{s:n0}{d:o1}{L:List m9}{T:m9}{o:HO}{t':Nat}(I:qA X a j H s)(k:∀b u,b∉L->s.heap.get? b=tH u->d.get? b=tH u)(i:∀b∈L,Yc X a H b)(hp:s.heap.objs.size<=T)
  (new:qL X.prog X.w (upd H T o) d T o):qA X a j (upd H T o) {s with heap:=d,toks:=t'}:=by
 let up:∀b u,H b=tH u->upd H T o b=tH u:=λb u e=>by rw[qf (qo e (I.hok.fresh hp))];exact e
 let j:∀b u,H b=tH u->b∉L:=λb u e z=>by rw[(i b z).1]at e;cases e
 refine I.step (λb d=>?_) (λb o _ _ a e _=>k b o a e) (λb o _ _ a e _=>{o.slots,k b o a e}) (λb _ a e n=>?_)
  (λb o a e=>{o,k b o a e}) (λb l e=>up b _ e) (λb o u e=>up b _ e) (λb _ e=>{#[],by rw[up b _ e];simp}) (λm p=>?_) (λb u e=>?_) I.bare
 ·let{_,f1,f2,x,y,B}:=i b d;exact{x,f1,y,B}
 ·let:b≠T:=tX (tJ (tM e) hp);rwa [qf this]
 ·let{o,x,y,B,r}:=p;exact{o,x,y,k _ o (λz=>(i _ z).2.1 rfl) B,r}
 ·by_cases d:b=T
  ·subst d;rw[qa]at e;cases e;exact new
  ·rw[qf d]at e;calc(I.hok b u e).stay (λc v a q=>k c v ?_ q) (λc q=>up c _ q) (λc l q=>up c _ q) (λc o q=>up c _ q);rcases a with z | z
   ·rw[z];exact j b u e
   ·calc j c _ z
def qA.turnedL{X:Cx}{a:List (m9×Obj)}{d:St}{H:Hp}{s:n0}{j:o1}{L:List m9}{t':Nat}(I:qA X a d H s)(k:∀b u,b∉L->s.heap.get? b=tH u->j.get? b=tH u)(i:∀b∈L,Yc X a H b):qA X a d H {s with heap:=j,toks:=t'}:=by
 let j:∀b u,H b=tH u->b∉L:=λb u e z=>by rw[(i b z).1]at e;cases e
 refine I.step (λb l=>?_) (λb a _ _ d e _=>k b a d e) (λb a _ _ d e _=>{a.slots,k b a d e}) (λ_ _ _ _ n=>n)
  (λb a d e=>{a,k b a d e}) (λ_ _ e=>e) (λ_ _ _ e=>e) (λb _ e=>{#[],by rw[e];simp}) (λm o=>?_) (λb u e=>?_) I.bare
 ·let{_,f1,f2,p,x,y}:=i b l;exact{p,f1,x,y}
 ·let{a,l,p,x,r}:=o;exact{a,l,p,k _ a (λz=>(i _ z).2.1 rfl) x,r}
 ·calc(I.hok b u e).stay (λc v d q=>k c v ?_ q) (λ_ q=>q) λ_ _ q=>q;rcases d with z | z
  ·rw[z];exact j b u e
  ·exact j c _ z
inductive FK(K:zen)(x:V)(y:V)(H:Hp)(Q:VK):Prop
 | mk (d:_) (d':_):DV K H x d->DV K H y d'->PySem.SeqAt.shaped d=true->PySem.SeqAt.shaped d'=true->(Q (.bl (PyData.eqv d d')) H)->FK K x y H Q
def T2(K:zen):R2:=λx y H Q=>FK K x y H Q
def Ip{X:Cx}(hu:X.A.units+64 < cLine):Z8 X (compareOp .Eq) (T2 X.K):=by
 intro _ s _ H x y v u Q I a b h;let{d,_,i,j,l,m,q}:=h;let{as,o}:=i.reads I a;let{bs,a}:=j.reads I b;calc eq_dataH o a l m hu ({.bl _,H,I,s0,q})
def RG(C o:m9)(m:Str)(p q:Sp)(b:TE)(t:TA):TE:=λd H Q=>b d H λx b=>∃a l fs,x=.ref a/\fs.lookup m=r4/\
 ((b a=tH (.ins C l fs)/\t d b λi j=>p (x::i) j Q E0)\/(b a=tH (.ins o l fs)/\t d b λi j=>q (x::i) j Q E0))
def Ax(p:JE X o l)(c:Wf X.K C)(v:Vz X.K C m f)(F:qu X.prog X.w X.K X.mg X.base jh k f y ps J)(hr:jK k X.A)(U:Qj X.K y ps [])(Y:Wf X.K i)(z:Vz X.K i m f')(F':qu X.prog X.w X.K X.mg X.base jh L f' O T aa)(ab:jK L X.A)(ac:Qj X.K O T [])(d:JA X (e::b) t)(B:starEach (e::b) X.env=(false,eval e X.env)::starEach b X.env:=by rfl)(D:(backTo pos (starEach b X.env)).any (·.1)=false:=by rfl)(ht:eval (.Call (.Attribute o m b_) (e::b) [] pos) X.env=(eval o X.env >>= λj=>standAt b_.atName >>= λ_=>holding [j] (getMethod j m pl) >>= λr=>callWith pos r.1 r.2 (backTo pos (starEach (e::b) X.env)) (backToKw pos (keywordEach [] X.env))):=by rfl):JE X (.Call (.Attribute o m b_) (e::b) [] pos) (RG C i m J aa l t):=.of (by
 let d:=d.to;calc λj s l H Q I h=>zbZ (jy (p.to j s l H _ I h) λu J ζ=>?_) ht;let{x,L,i,b,a,_,fs,ex,O,q}:=ζ;subst ex;obtain rfl:u=Value.ref a:=b;rcases q with ⟨p,q⟩ | ⟨p,q⟩
 ·exact Ju i p c v O (zbm I.ok.mod.kin v.kp (jy (d pos j J l L _ i q) λT s2 ⟨v,H2,b,r,y⟩=>{b.kIn,zZ (vs:=.ref a::v) F hr U .nil QP b (.cons rfl r) (by simpa using y)}) B D)
 ·calc Ju i p Y z O (zbm (first:=[.ref a]) (h₀:=X.base) I.ok.mod.kin z.kp (jy (d pos j J l L _ i q) λT s2 ⟨v,H2,b,r,y⟩=>{b.kIn,?_}) B D);calc zZ (us:=.ref a::T) (vs:=.ref a::v) F' ab ac .nil QP b (.cons rfl r) (by simpa using y))
def Xe(l:JE X o p)(c:Wf X.K C)(i:Vz X.K C m f)(F:qu X.prog X.w X.K X.mg X.base jh k f v ps y)(hr:jK k X.A)(z:Qj X.K v ps [])(B:Wf X.K b)(j:Vz X.K b m f')(D:qu X.prog X.w X.K X.mg X.base jh J f' L O T)(U:jK J X.A)(Y:Qj X.K L O [])(ht:eval (.Call (.Attribute o m b_) [] [] pos) X.env=(eval o X.env >>= λd=>standAt b_.atName >>= λ_=>holding [d] (getMethod d m pl) >>= λr=>callWith pos r.1 r.2 (backTo pos (starEach [] X.env)) (backToKw pos (keywordEach [] X.env))):=by rfl):JE X (.Call (.Attribute o m b_) [] [] pos) (RG C b m y T p QQ):=.of (by
 calc λb s d H Q I h=>zbZ (jy (l.to b s d H _ I h) λu _ ζ=>?_) ht;let{x,_,b,d,a,_,fs,ex,l,q}:=ζ;subst ex;obtain rfl:u=Value.ref a:=d;rcases q with ⟨d,q⟩ | ⟨d,q⟩
 ·exact Ju b d c i l (zcL b.kIn i.kp (zZ (vs:=[.ref a]) F hr z .nil QP b (.cons rfl .nil) q))
 ·calc Ju b d B j l (zcL b.kIn j.kp (zZ (vs:=[.ref a]) D U Y .nil QP b (.cons rfl .nil) q)))
def X6{t':TE}(h:JE X e te)(k:∀a H Q,t' a H Q->te a H Q):JE X e t':=.of (by
 calc λb s a H Q I q=>h.to b s a H Q I (k a H Q q))
def tWk(te:TE):TE:=λa H Q=>∃G:VK,te a H G/\∀x a,G x a->Q x a
def uX(h:JE X e te):JE X e (tWk te):=.of (by
 intro a s b H Q I ⟨G,g,k⟩;calc jy (h.to a s b H G I g) λv _ ⟨x,a,b,d,i⟩=>{x,a,b,d,k x a i})
def aWk(t:TA):TA:=λa H Q=>∃G:List V->Hp->Prop,t a H G/\∀a b,G a b->Q a b
def P3(h:JA X a t):JA X a (aWk t):=.of (by
 intro pos a s b H Q I ⟨G,g,k⟩;calc jy (h.to pos a s b H G I g) λ_ _ ⟨a,b,d,i,j⟩=>{a,b,d,i,k a b j})
open PySem.W
def F0:∀(f n r:Nat),r<=1->minRun' f n r<=n+r
 | 0,n,r,_=>ti _
 | f+1,n,r,hr=>by
  rw[minRun'_succ];split
  ·exact ti _
  ·let a:max r (n % 2)<=1:=Nat.max_le.mpr ({hr,{}});let:=F0 f (n / 2) (max r (n % 2)) a;omega
def kK{R:Nat->n0->Prop}(b:∀i,1<=i->i < n->∀C:Bool->n0->Prop,C false z->kas_cmp P w B κ it i (i - 1) C z)(d:R n z):
  ∀(f a:Nat),1<=a->a+f=n->(kas_asc (zba (zae n)) f a).kasWp (kas_cmp P w B κ it) R z
 | 0,a,_,e=>by
  let j:a=n:={}
  subst j;calc d
 | f+1,a,j,e=>by
  let g:∀i,i < n->(zba (zae n)).getD i 0=i:=λi l=>by simp [Array.getD,l]
  show kas_cmp P w B κ it ((zba (zae n)).getD a 0) ((zba (zae n)).getD (a - 1) 0) _ z;rw[g a {},g (a - 1) {}];calc b a j {} _ ?_;show KasT.kasWp _ (if false=true then _ else _) R z;rw[if_neg tN];calc kK b d f (a+1) {} {}
def KR{Q:Unit->SortSt->n0->Prop}(a:2<=n)(b:∀i,1<=i->i < n->∀C:Bool->n0->Prop,C false z->kas_cmp P w B κ it i (i - 1) C z)(d:∀st,arrOf st=(zba (zae n)).map (kas_item it)->failedOf st=r4->Q () st z):kasC (model P w) B F sortRuns' Q (kas_st κ it (zba (zae n))) z:=by
 let{r,rfl}:∃r,n=r+2:={n - 2,{}};let sz:(zba (zae (r+2))).size=r+2:={}
 let a:(arrOf (kas_st κ it (zba (zae (r+2))))).size=r+2:=(Array.size_map ..).trans sz;let le:=F0 (r+2) (r+2) 0 {};rw[sortRuns'_eq];refine kasC_bind (kasC_get ?_)
 try dsimp only
 rw[a];generalize minRun' (r+2) (r+2) 0=M at le;refine kasC_bind (kasC_range (show kasC _ _ _ (forIn (0::1::zel 2 r) _ _) _ _ _ from kasC_cons ?_))
 try dsimp only
 rw[if_neg {}];simp only[Nat.sub_zero,zef];refine kasC_bind (kas_count_ (G:=λq a=>q=(r+2,zba (zae (r+2)))/\a=z) {} (by rw[sz];calc ti _) (λm _ a _ _ _ a=>?_) ?_)
 ·let{e,rfl}:=a;cases e
  try dsimp only
  rw[if_neg {}];calc kasC_bind (kasC_get ?_);rw[show (pendingOf (kas_st κ it (zba (zae (r+2))))).back?=r4 from rfl]
  try dsimp only
  refine kasC_bind (kasC_modify (kasC_pure (show kasC _ _ _ (forIn (1::zel 2 r) _ _) _ _ _ from kasC_cons ?_)))
  try dsimp only
  rw[if_pos (ti _)];refine kasC_pure ?_
  try dsimp only
  calc kasC_bind (kasC_range (show kasC _ _ _ (forIn (0::1::zel 2 r) _ _) _ _ _ from kasC_cons (kasC_bind (kasC_get ?_))));rw[if_pos (show (pendingOf (setPending (kas_st κ it (zba (zae (r+2)))) ((pendingOf (kas_st κ it (zba (zae (r+2))))).push (0,r+2,0)))).size<=1 from ti 1)];refine kasC_pure ?_
  try dsimp only
  exact kasC_pure (d _ rfl rfl)
 ·unfold kas_count;rw[KasT.kasWp_bind];calc kK b ?_ _ 1 (ti 1) {};rw[if_pos (beq_self_eq_true _)];calc{s0,s0}
inductive Zu(h:o1)(v:n9)(k:Int×Int):Prop
 | mk (p:_) (o:_) (n:_) (t:_) (u:_):v=.ref p->h.get? p=tH o->o.cls=.type "tuple"->o.data=.seq #[.int k.1 t,.int k.2 u] n->Zu h v k
def WV(a b:Int×Int):Prop:=a.1 < b.1\/(a.1=b.1/\a.2 < b.2)
def kR{z:n0}(j:Zu z.heap v b)(hu:Zu z.heap u a)(m:WV a b){C:Bool->n0->Prop}(d:C false z):wpAny (model P w) B (keyLt' (tuples' true) v u) C (λ_ _=>False) z:=by
 let{_,_,n,d,i,rfl,o,_,p}:=j;let{_,_,_,j,l,rfl,q,_,x}:=hu;calc kat_lt o p q x ?_;show KatLex P w B true _ C [(.int b.1 d,.int a.1 j),(.int b.2 i,.int a.2 l)] 0 z;calc kat_cons (SeqAt.EqAt.int_int b.1 d a.1 j P w _ _ ?_);rcases m with h | ⟨h,d⟩
 ·let e:(b.1==a.1)=false:=by
   rw[beq_eq_false_iff_ne];omega
  rw[e];calc kat_no (show wpAny _ _ (oneLt' true _ _) _ _ _ from oneLt_int ?_);rwa [decide_eq_false {}]
 ·let e:(b.1==a.1)=true:=by rw[h];exact beq_self_eq_true _
  rw[e];calc kat_yes (kat_cons (SeqAt.EqAt.int_int b.2 i a.2 l P w _ _ ?_));let d:(b.2==a.2)=false:=by
   rw[beq_eq_false_iff_ne];omega
  rw[d];calc kat_no (show wpAny _ _ (oneLt' false _ _) _ _ _ from kat_one _ _ (lt_int ?_));show C (decide (b.2 < a.2)) z;rwa [decide_eq_false {}]
def Zu.keep{a:o1}(x:Zu h v k)(i:∀b o,h.get? b=tH o->o.cls=.type "tuple"->a.get? b=tH o):Zu a v k:=by
 let{a,o,n,t,u,e,j,c,d}:=x;calc{a,o,n,t,u,e,i a o j c,c,d}
def VX(vs:List n9):(pairsOf vs).map (·.2)=vs.toArray:=by
 apply Array.ext';rw[Array.toList_map,pairsOf_toList,List.map_snd_zip (ti _)]
def ww:∀(vs:List n9) (a:List (Int×Int)),vs.length=a.length->(∀(i:Nat) (v:n9) (k:Int×Int),vs[i]?=tH v->a[i]?=tH k->Zu h v k)->∃fs,KatTups h vs fs/\fs.length=vs.length/\∀v∈fs,∃i t,v=Value.int i t
 | [],_,_,_=>{[],.nil,s0,λv b=>(nomatch b)}
 | v::vs,[],j,_=>by cases j
 | v::vs,k::a,j,b=>by
  let{fs,l,lf,m}:=ww vs a (zee.inj j) λi u q o p=>b (i+1) u q (by simpa using o) (by simpa using p);let{_,_,n,t,u,rfl,a,c,d}:=b 0 v k rfl rfl;calc{.int k.1 t::fs,.cons a c d rfl l,by simp [lf],λx a=>?_};rcases tO.mp a with e | a
  ·exact{_,_,e}
  ·calc m x a
def KD{z:n0}{vs:List n9}{j:List (Int×Int)}{R:PySem.Fin->n0->Prop}(l:z.heap.get? a=tH (seqObj "list" vs.toArray n))(p:vs.length=j.length)(u:∀(i:Nat) (v:n9) (k:Int×Int),vs[i]?=tH v->j[i]?=tH k->Zu z.heap v k)(hr:∀(i:Nat) (k d:Int×Int),j[i]?=tH k->j[i+1]?=tH d->WV k d)(hz:vs.length<=100000)(k:R (.done (.ret .none)) {z with heap:=sortedHeap z.heap a vs vs.toArray}):wpAny (model P w) B (Builtin.«list.sort» ({[.ref a],[]})) R F z:=by
 let y:∀b d,z.heap.get? b=tH d->d.cls=.type "tuple"->b≠a:=λb d e c q=>by
  rw[q,l]at e;cases e;exact absurd c (show ¬Value.type "list"=Value.type "tuple" by decide)
 rw[list_sort_plain];calc zep (listItems_at l rfl (zep (listUpdate_at l rfl ?_)));let{m,o}:∃c,(z.heap.update a (Obj.mapSeq λ_=>#[])).get? a=tH (seqObj "list" #[] c):={_,get?_update_seq l (λ_=>#[])};calc zep (seqEpoch_at o rfl (zep (wpAny_newTuple (zep (wpAny_newList (wpAny_holding ?_))))));let lt:=tM l;let l:(((z.heap.update a (Obj.mapSeq λ_=>#[])).push (seqObj "tuple" vs.toArray 0)).push (seqObj "list" #[] 0)).get? a=tH (seqObj "list" #[] m):=tm _ (tm _ o);let C:∀b d,z.heap.get? b=tH d->d.cls=.type "tuple"->(((z.heap.update a (Obj.mapSeq λ_=>#[])).push (seqObj "tuple" vs.toArray 0)).push (seqObj "list" #[] 0)).get? b=tH d:=λb d e c=>
  tm _ (tm _ ((zah _ _ (Ne.symm (y b d e c))).trans e))
 show wpAny (model P w) B _ R F {z with heap:=((z.heap.update a (Obj.mapSeq λ_=>#[])).push (seqObj "tuple" vs.toArray 0)).push (seqObj "list" #[] 0)}
 try dsimp only
 let d:vs.toArray.size=vs.length:={}
 let ends:∀st:SortSt,(arrOf st).map (·.2)=vs.toArray->failedOf st=r4->wpAny (model P w) B (do
   let o:=(<-seqEpoch a) != m
   Builtin.List.listUpdate (.ref a) λ_=>(arrOf st).map (·.2)
   if let tH e:=failedOf st then rule "list.sort.comparison-raised";throw e
   if o then rule "list.sort.modified";raiseError "ValueError" "list modified during sort"
   ret .none) R F {z with heap:=((z.heap.update a (Obj.mapSeq λ_=>#[])).push (seqObj "tuple" vs.toArray 0)).push (seqObj "list" #[] 0)}:=λst e f=>by
  calc zep (seqEpoch_at l rfl ?_);rw[e,f];calc zep (listUpdate_at l rfl ?_ (hsz2:=by rw[d,sizeLine_eq];omega));simp only[bne_self_eq_false,zaP,if_false];exact zeq k
 by_cases d:vs.toArray.size < 2
 ·rw[if_pos d,if_pos d];calc zep (zeq ?_);rw[StateT.run_pure];exact zep (zeq (ends (SortSt.mk' general' (vs.toArray.zip vs.toArray) #[] 7 r4) (VX vs) rfl))
 ·rw[if_neg d,if_neg d];let o:∀(i:Nat) (v:n9) (q:Int×Int),vs[i]?=tH v->j[i]?=tH q->Zu (((z.heap.update a (Obj.mapSeq λ_=>#[])).push (seqObj "tuple" vs.toArray 0)).push (seqObj "list" #[] 0)) v q:=λi v q l m=>(u i v q l m).keep C;let{fs,d,lf,u}:=ww vs j p o;refine zep (kat_kind (T:=.type "int") d {} (λv q=>?_) rfl ?_)
  ·let{i,t,rfl}:=u v q;exact Looks.of_pure rfl
  ·let e:vs.toArray.zip vs.toArray=(zba (zae vs.length)).map (kas_item (pairsOf vs)):=by
    let:=kas_range (pairsOf vs);rw[pairsOf_size]at this;exact this.symm
   rw[e];let run:kasC (model P w) B F sortRuns' (λ_ st p=>p={z with heap:=((z.heap.update a (Obj.mapSeq λ_=>#[])).push (seqObj "tuple" vs.toArray 0)).push (seqObj "list" #[] 0)}/\(arrOf st).map (·.2)=vs.toArray/\failedOf st=r4)
     (kas_st (tuples' true) (pairsOf vs) (zba (zae vs.length))) {z with heap:=((z.heap.update a (Obj.mapSeq λ_=>#[])).push (seqObj "tuple" vs.toArray 0)).push (seqObj "list" #[] 0)}:=by
    calc KR {} (λi _ u _ H=>?_) λst l m=>{s0,by rw[l,<-e];calc VX vs,m};unfold kas_cmp;rw[kas_item_eq,kas_item_eq];let g:∀d,d < vs.length->vs[d]?=tH (vs.getD d Value.none):=λd y=>by simp [y]
    let C:∀d,d < vs.length->∃q,j[d]?=tH q:=λd y=>{_,tv {}};let{d,j}:=C i u;let{y,D}:=C (i - 1) {};exact kR (o i _ d (g i u) j) (o (i - 1) _ y (g (i - 1) {}) D) (hr (i - 1) y d D (by rw[show i - 1+1=i by omega];calc j)) H
   calc zep (wpAny_mono run (λr p d=>?_) λ_ _ x=>x);obtain⟨⟨⟩,st⟩:=r;let{rfl,l,m}:=d;calc ends st l m
end L2
namespace PySem
def RawD(h:o1)(d:m9)(b:Array DictEntry)(i:Nat):Prop:=∃a,h.get? d=tH a/\a.ExactDict/\a.data=.dict b i
def RawD.keep{a:o1}(x:RawD h d b i)(k:∀o,h.get? d=tH o->a.get? d=tH o):RawD a d b i:=let ⟨o,e,r⟩:=x;({o,k o e,r})
def RawD.ty{z:n0}(x:RawD z.heap d b i):z.TypeIs (.ref d) "dict":=let ⟨a,e,c,_⟩:=x;({a,e,c.1})
def raw_iter{z:n0}{R:n9->n0->Prop}(hd:(d==sysModules)=false)(x:RawD z.heap d a b)(k:R (.ref z.heap.objs.size) {z with heap:=z.heap.push {cls:=.type "dict_keyiterator",data:=.fields #[.ref d,.int 0 0,.int a.size 0,.int b 0]}}):wpAny (model P w) B (pyIter (.ref d)) R i z:=by
 let ty:=x.ty;let{_,a,_,gw}:=x;calc wpAny_pyIter_slot ty F.slot_dict_iter (wpAny_call_entry F.slot_dict_iter ty F.entry_dict_iter ?_ (F.args_dict_iter_1 _));unfold Builtin.«dict.__iter__»;calc zep (show wpAny _ _ (Builtin.Dict.dictSlotNone _ _) _ _ _ from ?_);unfold Builtin.Dict.dictSlotNone;calc zep (wpAny_notOrdered_dict ty (show wpAny _ _ (pure (Value.ref d)) _ _ z from zeq ((show wpAny _ _ (Builtin.Dict.showsAll d >>= _) _ _ z from ?_))));unfold Builtin.Dict.showsAll;rw[if_neg (hd▸tN)];calc zep (zeq (zep (wpAny_dictEntries a gw (zep (wpAny_dictEpoch a gw (zep (wpAny_newObj_type (zeq ({_,s0,"dict_keyiterator",_,{_,tL _ rfl,s0},F.slot_dict_keyiterator_next.lookup,by simpa [rawInt] using k})))))))))
def NY{z:n0}{a:Array DictEntry}{R:Option n9->n0->Prop}(gJ:z.heap.IsKeyIter I d i a.size j)(x:RawD z.heap d a j)(m:i < a.size)(k:∀b,b.IsKeyIter I d (i+1) a.size j->Heap.SameBut I z.heap b->R (tH a[i].key) {z with heap:=b}):wpAny (model P w) B (pyNext (.ref I)) R l z:=by
 let{_,b,o,hd}:=id gJ;let{_,l,_,gw}:=x;let ty:=gJ.typeIs;unfold pyNext;calc zep (wpAny_attempt (wpAny_callSpecial?_slot ty F.slot_dict_keyiterator_next (wpAny_call_entry F.slot_dict_keyiterator_next ty F.entry_dict_keyiterator_next ?_ (F.args_dict_keyiterator_next_1 _))));refine zep (zeq (zep (zep (zep ?_))))
 first | refine wpAny_typeNameOfWhole_keyiter ty (zeq (zep (wpAny_fieldsOf b hd ?_))) | refine wpAny_typeNameOf_keyiter ty (zeq (zep (wpAny_fieldsOf b hd ?_)))
 let own:Builtin.Dict_items.ownsTuple "dict_keyiterator"=false:={}
 simp only[own,zaP,if_false];show wpAny _ _ (if (Value.ref d==Value.none)=true then _ else _) _ _ z;rw[if_neg (show ¬((Value.ref d==Value.none)=true) from tN)];calc zep (zeq (zep (wpAny_dictEntries l gw ?_)));rw[if_neg {}];calc zep (zeq (zep (wpAny_dictEpoch l gw ?_)));rw[if_neg {}];calc zeq ?_;simp only[show ¬((i:Int) < 0) from by omega,if_false,zaE,zbc m];refine zep (zep ?_)
 first | refine wpAny_typeNameOfWhole_keyiter ty (zeq (zep (wpAny_isOneOf_keyiter ty ?_))) | refine wpAny_typeNameOf_keyiter ty (zeq (zep (wpAny_isOneOf_keyiter ty ?_)))
 calc(show wpAny _ _ (setField (.ref I) 1 (rawInt ((i:Int)+1)) >>= _) _ _ z from zep (wpAny_setField b hd {} ?_));let l:(z.heap.update I (Obj.mapFields (·.setIfInBounds 1 (rawInt ((i:Int)+1))))).IsKeyIter I d (i+1) a.size j:=
  {_,zay _ b (Obj.isFreed_of_fields (Obj.data_mapFields hd _)),(Obj.cls_mapFields ..).trans o,by rw[Obj.data_mapFields hd];simp [rawInt]}
 calc zep (wpAny_holding (zep (wpAny_isOneOf_keyiter l.typeIs ((show wpAny _ _ (pure a[i].key) _ _ _ from zeq (zeq ({_,s0,zeq (k _ l (zbL.update ..))})))))))
def CY{B:o2}{z:n0}{a:Array DictEntry}{R:Option n9->n0->Prop}(j:B.handled=r4)(gJ:z.heap.IsKeyIter I d i a.size l)(x:RawD z.heap d a l)(m:a.size<=i)(k:∀b,Heap.ExtBut I z.heap b->R r4 {z with heap:=b}):wpAny (model P w) B (pyNext (.ref I)) R o z:=by
 let{_,a,_,hd}:=id gJ;let{_,b,_,gw}:=x;let ty:=gJ.typeIs;unfold pyNext;calc zep (wpAny_attempt (wpAny_callSpecial?_slot ty F.slot_dict_keyiterator_next (wpAny_call_entry F.slot_dict_keyiterator_next ty F.entry_dict_keyiterator_next ?_ (F.args_dict_keyiterator_next_1 _))));refine zep (zeq (zep (zep (zep ?_))))
 first | refine wpAny_typeNameOfWhole_keyiter ty (zeq (zep (wpAny_fieldsOf a hd ?_))) | refine wpAny_typeNameOf_keyiter ty (zeq (zep (wpAny_fieldsOf a hd ?_)))
 let own:Builtin.Dict_items.ownsTuple "dict_keyiterator"=false:={}
 simp only[own,zaP,if_false];show wpAny _ _ (if (Value.ref d==Value.none)=true then _ else _) _ _ z;rw[if_neg (show ¬((Value.ref d==Value.none)=true) from tN)];calc zep (zeq (zep (wpAny_dictEntries b gw ?_)));rw[if_neg {}];calc zep (zeq (zep (wpAny_dictEpoch b gw ?_)));rw[if_neg {}];calc zeq ?_;simp only[show ¬((i:Int) < 0) from by omega,if_false,zaE,zcw m];refine zep (zep ?_)
 first | refine wpAny_typeNameOfWhole_keyiter ty (zeq ?_) | refine wpAny_typeNameOf_keyiter ty (zeq ?_)
 calc(show wpAny _ _ (setField (.ref I) 0 .none >>= _) _ _ z from zep (wpAny_setField a hd {} ((show wpAny _ _ (newExc (.type "StopIteration") [] >>= _) _ _ _ from zep ?_))));simp only[newExc,newTuple];calc zep (wpAny_newObj_type (zep (wpAny_of_eq (by first | rfl | (simp only[firstArgMember];rfl)) (wpAny_newObj_type ?_ (by size_fits)))) (by size_fits));simp only[raiseNew];calc zep (wpAny_handled ?_);rw[show B.in1.handled=r4 from j];calc zep (zeq (wpAny_throw ?_));calc zep (wpAny_isInstance (T:="StopIteration") (b:=true) ({_,tL _ rfl,s0}) isSubtype_stop ?_);exact zeq (k _ ((((zbL.update ..).extBut).push _).push _))
open PySem.W
def KU{a:Array DictEntry}{B:o2}(p:B.handled=r4)(I:m9)(u:d≠I):Walks P w B I [I,d] [I] a.size (λi v=>∃h:i < a.size,v=a[i].key) (λi h=>h.IsKeyIter I d i a.size j/\RawD h d a j) where
 sub:=λb j=>by simp at j;simp [j]
 frame:=λ_ _ _ st k=>{st.1.at λa e=>k I {} a e,st.2.keep λa e=>k d {} a e}
 item:=λi z R G m st q=>NY st.1 st.2 m λl y o=>q _ l z.toks ({m,s0}) ({y,st.2.keep λa e=>o.extBut d a u e}) λb a j e=>o.extBut b a (λx=>j (by simp [x])) e
 done:=λz R G st q=>CY p st.1 st.2 (ti _) λl m=>q l z.toks λb a j e=>m b a (λx=>j (by simp [x])) e
 self:=λ_ _ _ _ st q=>wpAny_pyIter_keyiter st.1 q
def CU{a:Array DictEntry}(hd:(d==sysModules)=false):KdlSrc P w "dict" d d a.size (λi v=>∃h:i < a.size,v=a[i].key) (λh=>RawD h d a b) where
 type:=λz x=>x.ty
 there:=λh x=>let ⟨a,e,_⟩:=x;({tM e,tM e})
 keep:=λh _ x k=>x.keep λa e=>k d (.inl rfl) a e
 notList:=by decide
 notTuple:=by decide
 hint:=λ_ _ _ _ x q=>kdl_hint_dict x.ty q
 iter:=λA z b x=>{_,_,λE Q q=>raw_iter hd x q,KU b _ (let ⟨a,e,_⟩:=x;tX (tM e)),{{_,tL _ rfl,s0,s0},x.keep λa e=>tm _ e}}
end PySem
namespace L2
open PySem PySem.Spec PySem.W
open PyProof.Rows hiding K lo
def Jo:∀{l:List α} {m:List β},Paired G l m->∀{i:Nat} {a:α},l[i]?=tH a->∃b,m[i]?=tH b/\G a b
 | _,_,.nil,i,a,e=>by simp at e
 | _,_,.cons r t,0,a,e=>by cases e;calc{_,s0,r}
 | _,_,.cons r t,i+1,a,e=>by
  let{b,d,g}:=Jo t (by simpa using e);calc{b,by simpa using d,g}
def Xw(k:Int×Int):List qJ:=[Sum.inl k.1,Sum.inl k.2]
inductive uz(xs:List V)(H:Hp)(Q:VK):Prop
 | mk (a:m9) (kvs:List (List qJ×V)) (ks:List (Int×Int)):xs=[.ref a]->H a=tH (.dT kvs)->kvs.map (·.1)=ks.map Xw->((∀(i:Nat) (k k':Int×Int),ks[i]?=tH k->ks[i+1]?=tH k'->WV k k'))->(kvs.length<=1000)->(∀(l:m9) (ps:List m9),H l=r4->ps.length=ks.length->(∀(i:Nat) (p:m9) (k:Int×Int),ps[i]?=tH p->ks[i]?=tH k->H p=tH (.tup [.int k.1,.int k.2]))->Q (.ref l) (upd H l (.lst (ps.map V.ref))))->uz xs H Q
def Ia:List V->Hp->VK->Prop:=λa H Q=>uz a H Q
def vx:∀(ps:List m9),qN (ps.map V.ref) (ps.map Value.ref)
 | []=>.nil
 | a::ps=>.cons rfl (vx ps)
def x8{X:Cx}(L:X.calm=true):Q8 X (.builtin "sorted") Ia:=by
 intro _ s _ H _ _ Q I r h;let{a,kvs,C,rfl,l,D,hr,O,q}:=h;let{u,rfl,d}:=Jm r;cases d;let{_,T,j,pr,m,z,_,U,ex,gw,d,_}:=(show qL X.prog X.w H s.heap a (.dT kvs) from I.hok a _ l);let l:=Paired.length pr;let lk:kvs.length=C.length:=by simpa using congrArg zat D
 let Y:z.size=j.length:=by rw[<-zaG,d,ta]
 let gF:∀i (o:i < z.size),z[i].key=.ref ((j.map (·.2.1)).getD i 0):=λi o=>by
  let l:z.toList[i]?=tH z[i]:=by simp [o]
  let B:i < j.length:={}
  rw[d,tA,tv B]at l;let x:=(tH.inj l).symm;rw[x];show Value.ref j[i].2.1=_;simp [B]
 let tup:∀(i:Nat) (p:m9) (k:Int×Int),(j.map (·.2.1))[i]?=tH p->C[i]?=tH k->H p=tH (.tup [.int k.1,.int k.2]):=λi p k l x=>by
  rw[tA]at l;cases d:j[i]? with
  | none=>rw[d]at l;cases l
  | some y=>
   rw[d]at l;let aa:y.2.1=p:=tH.inj l;let o:i < kvs.length:=by
    let:=(tf.mp d).1;omega
   let{_,J,g1,g2,_}:=Jo pr (tv o);rw[d]at J;cases J;let J:kvs[i].1=Xw k:=by
    let d:(kvs.map (·.1))[i]?=tH kvs[i].1:=by rw[tA,tv o];rfl
    rw[D,tA,x]at d;exact(tH.inj d).symm
   rw[J,aa]at g2;exact g2
 calc Calls.call_function_entry kind_sorted plain_sorted entry_sorted (args_sorted1 _) ?_;unfold Builtin.«sorted»;calc zep (zeq (zep (kdu_collect (CU T) (I.ok.hd L) ({m,U,ex,gw}) (by rw[Y,sizeLine_eq];omega) λd tk J T D=>?_)));let L:J.toList=(j.map (·.2.1)).map Value.ref:=by
  calc zeg λi=>?_;by_cases o:i < z.size
  ·let z:i < J.size:=D.1▸o;let l:=zbc z;let{_,x}:=D.2 i _ l;rw[Array.getElem?_toList,l,x,gF i o,tA];let B:i < (j.map (·.2.1)).length:=by rw[ta];omega
   rw[tv B];simp [zav,tv B]
  ·rw[zca (by rw[zaG,D.1];omega),zca (by rw[ta,ta];omega)]
 rw[L];generalize z:j.map (·.2.1)=j at L tup gF;let o:j.length=C.length:=by rw[<-z,ta];omega
 calc zep (wpAny_newList ?_);let z:=I.kept (t':=tk) T;show wpAny _ _ _ _ _ {s with heap:=d.push (seqObj "list" (j.map Value.ref).toArray 0),toks:=tk};let oL:(d.push (seqObj "list" (j.map Value.ref).toArray 0)).get? d.objs.size=tH (seqObj "list" (j.map Value.ref).toArray 0):=tL _ rfl;let D:∀(i:Nat) (v:n9) (k:Int×Int),(j.map Value.ref)[i]?=tH v->C[i]?=tH k->Zu (d.push (seqObj "list" (j.map Value.ref).toArray 0)) v k:=λi v k l x=>by
  rw[tA]at l;cases B:j[i]? with
  | none=>rw[B]at l;cases l
  | some p=>
   rw[B]at l;obtain rfl:=(tH.inj l).symm;obtain⟨_,l,⟨C,J,L,T,U⟩,_⟩:=z.tuple (.of (tup i p k B x):SqT X.K H p _);cases l with
   | cons x l=>
    cases l with
    | cons B l=>
     cases l;let{l,rfl}:=x;let{x,rfl}:=B;exact{p,C,T,l,x,s0,tm _ J,L,U}
 calc zep (wpAny_holding (wpAny_call_entry slot_list_sort ({_,oL,s0}) entry_list_sort (KD oL (by rw[ta];calc o) D hr (by rw[ta];omega) ({_,s0,?_})) (args_list_sort _)));calc zeq ({_,s0,?_});let l:∀b m,d.get? b=tH m->b≠d.objs.size:=λb m e=>tX (tM e);let p:∀b m,d.get? b=tH m->(sortedHeap (d.push (seqObj "list" (j.map Value.ref).toArray 0)) d.objs.size (j.map Value.ref) (j.map Value.ref).toArray).get? b=tH m:=λb m e=>by
  unfold sortedHeap;rw[zah _ _ (Ne.symm (l b m e))];exact tm _ (tm _ ((zah _ _ (Ne.symm (l b m e))).trans (tm _ e)))
 let{_,l}:∃c,((d.push (seqObj "list" (j.map Value.ref).toArray 0)).update d.objs.size (Obj.mapSeq λ_=>#[])).get? d.objs.size=tH (seqObj "list" #[] c):={_,get?_update_seq oL (λ_=>#[])};let{m,x}:∃c,(sortedHeap (d.push (seqObj "list" (j.map Value.ref).toArray 0)) d.objs.size (j.map Value.ref) (j.map Value.ref).toArray).get? d.objs.size=tH (seqObj "list" (j.map Value.ref).toArray c):=
  {_,get?_update_seq (tm _ (tm _ l)) (λ_=>(j.map Value.ref).toArray)}
 exists .ref d.objs.size,_,z.laid (o:=.lst (j.map V.ref)) p (ti _) ({by rw[ta,o,<-lk];calc zab (qi O),_,m,vx j,x}),rfl;exact q _ j (z.hok.fresh (ti _)) o tup
inductive FD(x:V)(lo:Option Int)(hi:Option Int)(H:Hp)(Q:VK):Prop
 | mk (z:Str) (j:Int):x=.str z->lo=r4->hi=tH j->(z.length<=1000)->(Q (.str (Txt.slice z r4 (tH j))) H)->FD x lo hi H Q
def TZ:V->Option Int->Option Int->Hp->VK->Prop:=λx lo a H Q=>FD x lo a H Q
def Nt:fK X TZ:=by
 intro _ s _ H x v _ _ lo _ _ Q I b d i j h;let{z,a,rfl,rfl,rfl,l,q}:=h;let{t,rfl}:=b;exists "str",_,PySem.F.slot_str_getitem.lookup,typeIs_str _ _ _;cases i;cases j;calc wpAny_getItem_str_slice (l:=r4) (u:=tH (a,_)) (st:=r4) d rfl (post_val_or_str ({tP (Txt.slice_le z r4 (tH a)) (zab (qi l)),λa k=>{.str _,H,I.tok k,{a,s0},q}}))
def Wn(z:Str)(j:Nat):(Txt.slice z r4 (tH (j:Int))).cps.toList=z.cps.toList.take j:=by
 let b:z.cps.toList.length=z.length:=zaG;let lC:Builtin.Str.strSliceIndices r4 (tH (j:Int)) 1 z.length=(zae (min j z.length)).map (0+·):=by
  let e:Builtin.Str.strSliceIndices r4 (tH (j:Int)) 1 z.length=sliceRange ((0:Nat):Int) ((min j z.length:Nat):Int) 1:=by
   show sliceRange 0 (max 0 (min (if (j:Int) < 0 then (j:Int)+(z.length:Nat) else j) (z.length:Nat))) 1=_;rw[if_neg {}];congr 1;omega
  rw[e,sliceRange_one];rfl
 unfold Txt.slice;rw[lC];split
 ·rename_i h;let d:min j z.length=z.length:=by simpa using h
  rw[tu];omega
 ·rw[pick_run];show (z.cps.toList.drop 0).take (min j z.length)=_;rw[zcS];by_cases a:j<=z.length
  ·rw[zcG a]
  ·rw[Nat.min_eq_right {},tu {},tu {}]
def EL(n:Nat):List V:=(zae n).map λi=>V.int (i:Nat)
inductive L9(Q:VK)(x:V)(H1:Hp):Prop
 | mk (n:Nat):x=.int n->(n<=1000)->(∀l,H1 l=r4->Q (.ref l) (upd H1 l (.lst (EL n))))->L9 Q x H1
def tLr(te:TE):TE:=λa H Q=>te a H λx a=>L9 Q x a
def BD(h:ItemsOf (λi v=>∃t,v=.int (0+i*1) t) b n):qN (EL n) b.toList:=by
 let{a,j}:=h;calc VY _ _ (by simp [EL,a]) λi x u a l=>?_;let d:b[i]?=tH u:=by simpa using l
 let{t,rfl}:=j i u d;let b:i < n:=by
  let:=(zai.mp d).1;omega
 unfold EL at a;rw[tA,zbP b]at a;obtain rfl:=(tH.inj a).symm;exists t;congr 1;omega
def P1{X:Cx}(l:X.calm=true)(g1:Gl X "list")(m:X.mg "list"=r4)(g3:Gl X "range")(o:X.mg "range"=r4)(p:JE X e te)(i:starEach [e] X.env=[(false,eval e X.env)]:=by rfl)(a:starEach [.Call (.Name "range" d) [e] [] j] X.env=[(false,eval (.Call (.Name "range" d) [e] [] j) X.env)]:=by rfl):JE X (.Call (.Name "list" v) [.Call (.Name "range" d) [e] [] j] [] y) (tLr te):=.of (by
 calc λd s j H Q I h=>Call_ (Jq I g1 m boot_list (PyProof.Rows.callWith_type1 (vJ a ?_) (by rw[a];rfl) rfl));calc Call_ (Jq I g3 o boot_range (PyProof.Rows.callWith_type1 (vJ i (jy (p.to d s j H _ I h) λu a ζ=>?_)) (by rw[i];rfl) rfl));let{x,_,d,j,m}:=ζ;let{n,rfl,o,q}:=m;let{t,rfl}:=j;calc call_range_1 (call_list_range (d.ok.hd l) (IsRange.new ..) (small_one {} {} {} {}) (uu n) {} λ_ tk j l m e p=>?_);let i:a.heap.objs.size<=(a.heap.push ({cls:=.type "range",data:=.fields #[.int 0 a.toks,.int n t,.int 1 (a.toks+1)]}:Obj)).objs.size:=by
  rw[zbe];omega
 calc{.ref _,_,d.laid (o:=.lst (EL n)) (λb a v=>m b a (tm _ v)) i ({by simp only[EL,ta,zap];exact zab (qi o),j.toList,l,BD p,by simpa using e}),s0,q _ (d.hok.fresh i)})
def GY{X:Cx}(m:X.calm=true):Q8 X (.type "set") (λxs H Q=>∃(p:m9) (ns:List Int),xs=[.ref p]/\JX X.K H p (ns.map V.int)/\ns.length<=1000/\∀l S,H l=r4->Q (.ref l) (upd H l (.set S (firstMet (λi=>ns.getD i 0) ns.length).length))):=by
 intro _ s _ H xs _ Q I r h;let{p,ns,rfl,d,_,q}:=h;let{u,rfl,a}:=Jm r;cases a;let{o,a,v,_}:=I.list d;let d:=a.length;rw[ta]at d;let j:o.toArray.size=ns.length:=by rw[t4,<-d]
 calc call_set_list (I.ok.hd m) v.isList (by simpa using xP a) (by rw[j];show ns.length+1 < 4096;omega) λ_ tk a d=>?_;rw[j]at a;calc{.ref s.heap.objs.size,_,I.laid (o:=.set _ _) (λb j e=>d b j (tM e) e) (ti _) a,s0,q _ _ (I.hok.fresh (ti _))}
def yI:Q8 X (.builtin "len") (λxs H Q=>∃a S n,xs=[V.ref a]/\H a=tH (.set S n)/\Q (.int (n:Nat)) H):=by
 intro _ s _ H xs _ Q I r h;let{a,S,n,rfl,d,q}:=h;let{u,rfl,i}:=Jm r;cases i;let{_,i,_,t,j,l,m,_,_,b,f,rfl}:=(show qL X.prog X.w H s.heap a (.set S n) from I.hok a _ d);refine call_len_set j l m f (by have:i.size < 4096:=b;omega) ({.int _,H,I.tok _,{_,s0},q})
def Sq(K:zen)(a:m9):It:=⟨λi H=>∃b x,JX K H a b/\b[i]?=tH x,
 λi H v j=>∃d,H d=r4/\v=.ref d/\∀b x,JX K H a b->b[i]?=tH x->j=upd H d (.tup [.int (i:Nat),x]),
 λi H=>∃b,JX K H a b/\b.length<=i⟩
def Ku(a e it:m9)(U:e≠it):
  Vx P w K (.Tuple b d j) (Sq K a) [e,it] e (λi h=>(∃gy,IsEnum h e it i gy)/\h.IsListIter it a i) where
 mem:=by simp
 obj:=λi h st c b=>by
  obtain⟨⟨gy,j⟩,⟨Y,p,_,d⟩⟩:=st;simp only[tO,zck,or_false]at b;rcases b with rfl | rfl
  ·exact{_,j,λv z=>by cases z}
  ·exact{Y,p,λv z=>by rw[d]at z;cases z}
 keep:=λi h q st k=>by
  obtain⟨⟨gy,j⟩,l⟩:=st;exact{{gy,k e {} _ j},l.at λd e=>k it {} d e}
 item:=by
  intro X y B C b i aa s σ H E I m st D;subst y B C;obtain⟨⟨gy,j⟩,l⟩:=st;let{xs,x,o,hx}:=D;let{ae,J,L,_}:=I.list o;let{u,hu,ru}:=J.get hx;calc wpAny_pyNext_enum_item j l L.isList (by simpa using hu) U λq Q z2 z3 _ O=>{_,s0,wpAny_letOwnedTupleGo_enum Q λab af sb=>?_};let Q:∀c d,s.heap.get? c=tH d->s.heap.objs.size≠c:=λc d e=>zbA (tM e);let T:∀c d,c≠e->q.get? c=tH d->ab.get? c=tH d:=λc d b e=>(sb.2 c b).trans e;let I1:qA X aa σ (upd H s.heap.objs.size (.tup [.int (i:Nat),x])) {s with heap:=ab,toks:=s.toks+1}:=I.turnLaid
   (λc d b e=>T c d (λz=>b (by simp [z])) (O c d (λz=>b (by simp [z])) (λz=>b (by simp [z])) e)) m (ti _)
   ({J7,[.int i s.toks,u],.cons ({_,s0}) (.cons ru .nil),{_,T _ _ (Q _ _ j) z3,s0,_,s0}})
  refine{.ref s.heap.objs.size,_,I1,s0,{s.heap.objs.size,I.hok.fresh (ti _),s0,λ_ _ ag ac=>?_},{{_,af},z2.at λd e=>T _ d (Ne.symm U) e},λc b=>?_}
  ·rw[I.list_inj ag o,hx]at ac;cases ac;rfl
  ·let T:=(m c b).1;by_cases T:c=s.heap.objs.size
   ·subst T;let{Y,p,_}:=l;simp only[tO,zck,or_false]at b;rcases b with e | e
    ·exact absurd e (Q _ _ j)
    ·exact absurd e (Q _ _ p)
   ·rwa [qf T]
 done:=by
  intro X y B C b i aa s σ H E I m st D;subst y B C;obtain⟨⟨gy,j⟩,l⟩:=st;let{xs,o,_}:=D;let{ae,J,L,_}:=I.list o;let o:=J.length;exact wpAny_pyNext_enum_end (I.ok.hd b) j l L.isList (by simp;omega) λq O=>{s0,I.turnedL (λc d b e=>O c d (λz=>b (by simp [z])) e) m}
 self:=λ_ _ _ _ _ st h=>let ⟨⟨_,j⟩,_⟩:=st;wpAny_pyIter_enum j h
inductive AN(K:zen)(R:It->Hp->Prop)(vs:List V)(H1:Hp):Prop
 | mk (a:_):vs=[.ref a]->((∃xs,JX K H1 a xs))->(R (Sq K a) H1)->AN K R vs H1
def F4(K:zen)(a:TA):TI:=λb H R=>a b H λa b=>AN K R a b
def ZX(b:Gl X "enumerate")(d:X.mg "enumerate"=r4)(i:JA X [a] j)(m:starEach [a] X.env=[(false,eval a X.env)]:=by rfl):JI X (.Tuple l o u) (.Call (.Name "enumerate" p) [a] [] pos) (F4 X.K j):=.of (by
 calc λj s l H R I h=>Call_ (Jq I b d boot_enumerate (PyProof.Rows.callWith_type1 (jy (i.to pos j s l H _ I h) λ_ b ζ=>?_) (by rw[m];rfl) rfl));let{_,l,i,d,o}:=ζ;obtain⟨u,e,⟨_,m⟩,q⟩:=o;subst e;cases d with
 | cons r d=>
  cases d;cases r;let{_,_,p,_}:=i.list m;calc call_enumerate_list p.isList λ_ m o _ v=>wpAny_pyIter_enum m ?_;let fr:∀c,b.heap.objs.size<=c->Yc X j l c:=λc d=>i.fpOk d (i.hok.fresh d);calc{b.heap.objs.size+1,[b.heap.objs.size+1,b.heap.objs.size],_,_,l,s0,i.kept v,Ku u (b.heap.objs.size+1) b.heap.objs.size (Nat.succ_ne_self _),{{_,m},o},λc d=>?_,q};simp only[tO,zck,or_false]at d;rcases d with e | e<;>rw[e]<;>first | calc fr _ (Nat.le_add_right _ _) | calc fr _ (ti _))
def Zg{K:zen}{a:m9}{xs:List V}{g:TG}{tb:TS}{D:QY}{b:St}{H:Hp}(Pv:Nat->St->Hp->Prop)(q:Pv 0 b H)(u:∀i b H,i<=xs.length->Pv i b H->JX K H a xs)
  (v:∀i x b H p,xs[i]?=tH x->H p=r4->Pv i b H->g (.ref p) b (upd H p (.tup [.int (i:Nat),x])) λd j=>tb {D with nx:=Pv (i+1),ct:=Pv (i+1),bk:=D.nx} d j) (hd:∀b H,Pv xs.length b H->D.nx b H):
  ∃W:Nat->Nat->St->Hp->Prop,(∃m,W 0 m b H)/\∀i m b H,W i m b H->
   ((Sq K a).stop i H/\D.nx b H)\/((Sq K a).go i H/\∃N:St->Hp->Prop,(∀l H',N l H'->∃o,o < m/\W (i+1) o l H')/\∀x H',(Sq K a).yld i H x H'->g x b H' λd j=>tb {D with nx:=N,ct:=N,bk:=D.nx} d j):=by
 calc{λi m b H=>m=xs.length - i/\i<=xs.length/\Pv i b H,{xs.length,{},zax _,q},?_};rintro i m b H ⟨rfl,j,p⟩;let d:=u i b H j p;by_cases j:i < xs.length
 ·let ex:=tv j;calc .inr ({{xs,_,d,ex},Pv (i+1),λl H' l=>{xs.length - (i+1),{},s0,j,l},λx H' j=>?_});let{l,o,rfl,e}:=j;rw[e xs _ d ex];exact v i _ b H l ex o p
 ·let e:i=xs.length:={}
  subst e;calc .inl ({{xs,d,ti _},hd b H p})
def zf(ns:List Nat):∀i,i<=ns.length->preSum (λj=>((ns.getD j 0:Nat):Int)) i=(((ns.take i).sum:Nat):Int)
 | 0,_=>by simp [preSum]
 | i+1,h=>by
  let a:=h;show preSum _ i+_=_;rw[zf ns i (zab a),tE,tv a,zbV];simp [zav,tv a]
def Xu(ns:List Nat)(i:Nat):(ns.take i).sum<=ns.sum:=by
 let h:(ns.take i++ns.drop i).sum=ns.sum:=by rw[List.take_append_drop]
 rw[zbV]at h;omega
def yw(ns:List Nat)(i:Nat):ns.getD i 0<=ns.sum:=by
 let h:=Xu ns (i+1);rw[tE,zbV]at h;rw[zav];cases e:ns[i]? with
 | none=>calc zax _
 | some x=>
  rw[e]at h;simp at h ⊢;omega
def Ug{X:Cx}(a:X.calm=true):Q8 X (.builtin "sum") (λxs H Q=>∃(p:m9) (ns:List Nat),xs=[.ref p]/\JX X.K H p (ns.map λn=>V.int ((n:Nat):Int))/\ns.sum < 2^62/\Q (.int (ns.sum:Nat)) H):=by
 intro _ s _ H xs _ Q I r h;let{p,ns,rfl,m,_,q}:=h;let{u,rfl,d}:=Jm r;cases d;let{d,j,l,_}:=I.list m;let o:p < s.heap.objs.size:=by
  let{m,n,e,_}:=l;exact tM e
 let x:d.toArray.size=ns.length:=by
  let:=j.length;rw[ta]at this;simp only[t4];omega
 let y:X.A.in1.handled=r4:=I.ok.hd a;refine call_sum_walk (wpAny_pyIter_list l.isList ⟨s.heap.objs.size,[s.heap.objs.size,p],[s.heap.objs.size],d.toArray.size,λi v=>d.toArray[i]?=tH v,_,λa=>((ns.getD a 0:Nat):Int),s0,Walks.list y s.heap.objs.size p (tX o) d.toArray,
  ({{_,tL _ rfl,s0,s0},l.isList.at λm e=>tm _ e}),?_,?_,?_,λ_ tk _ y=>?_⟩)
 ·intro b l;show b < (s.heap.push _).objs.size;rw[zbe];simp only[tO,zck,or_false]at l;rcases l with e | e
  ·rw[e];exact zaZ _
  ·rw[e];exact zcd o
 ·intro i v o;let l:d[i]?=tH v:=by simpa using o
  cases e:ns[i]? with
  | none=>
   exfalso;let d:(ns.map λn=>V.int ((n:Nat):Int))[i]?=r4:=by rw[tA,e];rfl
   rw[qN.none_of j d]at l;cases l
  | some b=>
   let d:(ns.map λn=>V.int ((n:Nat):Int))[i]?=tH (V.int b):=by rw[tA,e];rfl
   let{u,hu,o}:=j.get d;rw[l]at hu;cases hu;let{t,rfl}:=o;exists t;show Value.int b t=.int ((ns.getD i 0:Nat):Int) t;rw[zav,e];rfl
 ·intro a j;rw[x]at j;let d:=yw ns a;let d:=Xu ns (a+1);let d:=zf ns (a+1) j;refine{{?_,?_},{?_,?_}}
  ·show -(2^63)<=((ns.getD a 0:Nat):Int);omega
  ·show ((ns.getD a 0:Nat):Int) < 2^63;omega
  ·rw[d];omega
  ·rw[d];omega
 ·rw[x,zf ns _ (ti _),tu (ti _)];exact⟨.int (ns.sum:Nat),H,I.kept λb m e=>y b m (by
   intro z;let a:b=s.heap.objs.size:=by simpa using z
   calc absurd (tM e) (by rw[a];calc zaH _)) (tm _ e),{_,s0},q⟩
structure wg(fs:List m9)(ex:List m9)(h h':o1):Prop where
 keep:∀b o,b∉fs->b∉ex->h.get? b=tH o->h'.get? b=tH o
 slot:∀b o,b∈fs->b∉ex->h.get? b=tH o->∃sl,h'.get? b=tH {o with slots:=sl}
inductive Rg(T:m9)(fl:n9)(h:o1):Prop
 | mk (ts:_):(h.get? T=tH {cls:=.type "traceback",data:=.fields ts})->ts[3]?=tH fl->Rg T fl h
def Ry{A:o2}{s:n0}{Q:Unit->n0->Prop}(fr:A.frames=tH (env::outer))(l:s.heap.FunFrames base (env::outer))(p:env.frame=tH L)(m:s.heap.get? e=tH {cls:=cl,dict:=d,data:=.fields vs})(sz:1 < vs.size)(k:∀i T,s.heap.objs.size<=T->wg (Xz (env::outer)) [e] s.heap i->i.get? e=tH {cls:=cl,dict:=d,data:=.fields (vs.setIfInBounds 1 (.ref T))}->Rg T (rawInt L) i->Q () {s with heap:=i}):
  wpAny M A (frameOf env >>= λa=>entryPlaceOf L j >>= λo=>EntryCells.newEntry head a .none (rawInt L) .none o >>= λb=>setField (.ref e) 1 b) Q E s:=by
 let out:e∉Xz (env::outer):=λz=>by
  let{_,j,i,u}:=l.mem z;rw[m]at i;cases i;exact u vs rfl
 calc zep (wpAny_frameOf_fun fr l p λp i=>zep (wpAny_entryPlaceOf λo o=>?_));let l:=(i.2.1 e out).trans m;unfold EntryCells.newEntry newFields;refine zep (wpAny_newObj_type (wpAny_setField (tm _ l) rfl sz (k _ p.objs.size (zcN i.1.symm) ({λb j n1 n2 q=>?_,λb j n1 n2 q=>?_}) ?_ ({_,(zah _ _ (tX (tM l))).trans (tL _ rfl),?_}))) (o.sizeOk5 _ _ _ _ _))
 ·let n3:b≠e:=λz=>n2 (by simp [z]);rw[zah _ _ (Ne.symm n3)];exact tm _ ((i.2.1 b n1).trans q)
 ·let n3:b≠e:=λz=>n2 (by simp [z]);let{m,r}:=i.2.2 b j q;exact{m,by rw[zah _ _ (Ne.symm n3)];calc tm _ r}
 ·exact zay _ (tm _ l) rfl
 ·rcases o with rfl | ⟨_,_,_,_,_,_,_,rfl⟩<;>simp
def yc{A:o2}{s:n0}{Q:Unit->n0->Prop}(fr:A.frames=tH (env::outer))(l:s.heap.FunFrames base (env::outer))(b:env.frame=tH L)(i:s.heap.get? e=tH {cls:=cl,dict:=d,data:=.fields vs})(j:vs[1]?=tH .none)(k:∀a T,s.heap.objs.size<=T->wg (Xz (env::outer)) [e] s.heap a->a.get? e=tH {cls:=cl,dict:=d,data:=.fields (vs.setIfInBounds 1 (.ref T))}->Rg T (rawInt L) a->Q () {s with heap:=a}):
  wpAny M A (noteFrame (.ref e) env) Q E s:=by
 unfold noteFrame;simp only[b];calc zep (wpAny_field i rfl j ?_);rw[if_neg (show ¬((Value.none != Value.none)=true) by decide)];calc Ry fr l b i (zai.mp j).1 k
def Gb{s:n0}{env:Env}{Q:Unit->n0->Prop}(a:env.frame=tH L)(b:s.heap.get? e=tH {cls:=cl,dict:=d,data:=.fields vs})(i:vs[1]?=tH (.ref T))(st:Rg T (rawInt L) s.heap)(k:Q () s):
  wpAny M A (noteFrame (.ref e) env) Q E s:=by
 let{_,j,l}:=st;unfold noteFrame;simp only[a];calc zep (wpAny_field b rfl i ?_);rw[if_pos (show (Value.ref T != Value.none)=true by simp)];calc zep (wpAny_field j rfl l ?_);rw[if_pos (show (rawInt L==rawInt L)=true by simp [rawInt])];calc zeq k
def UT{A:o2}{s:n0}{Q:Unit->n0->Prop}(fr:A.frames=tH (env::outer))(p:s.heap.FunFrames base (env::outer))(u:env.frame=tH L)(v:s.heap.get? e=tH {cls:=cl,dict:=d,data:=.fields vs})(x:vs[1]?=tH (.ref T))(st:Rg T .none s.heap)(ne:T≠e)(k:∀a i,s.heap.objs.size<=i->wg (Xz (env::outer)) [e,T] s.heap a->(∃o,a.get? T=tH o)->a.get? e=tH {cls:=cl,dict:=d,data:=.fields (vs.setIfInBounds 1 (.ref i))}->Rg i (rawInt L) a->Q () {s with heap:=a}):
  wpAny M A (noteFrame (.ref e) env) Q E s:=by
 let{y,j,l}:=st;unfold noteFrame;simp only[u];calc zep (wpAny_field v rfl x ?_);rw[if_pos (show (Value.ref T != Value.none)=true by simp)];calc zep (wpAny_field j rfl l ?_);rw[if_neg (show ¬((Value.none==rawInt L)=true) by simp [rawInt])];calc zep (wpAny_setField j rfl (zai.mp l).1 ?_);let l:∀b,b≠T->(s.heap.update T (Obj.mapFields (·.setIfInBounds 3 Value.none))).get? b=s.heap.get? b:=λb n=>zah _ _ (Ne.symm n);let C:T∉Xz (env::outer):=λz=>by
  let{_,o,B,m}:=p.mem z;rw[j]at B;cases B;exact m y rfl
 refine Ry fr (p.of_keeps λb o p m=>{o,(l b λz=>?_).trans p,s0}) u ((l e (Ne.symm ne)).trans v) (zai.mp x).1 λa i u F v x=>?_
 ·rw[z,j]at p;cases p;exact m y rfl
 ·let m:=zay (Obj.mapFields (·.setIfInBounds 3 Value.none)) j rfl;refine k a i (tP (zcN {}) u) ({λb o n1 n2 q=>?_,λb o n1 n2 q=>?_}) ({_,F.keep T _ C (by simp [ne]) m}) v x
  ·simp only[tO,zaA,or_false,not_or]at n2;exact F.keep b o n1 (by simp [n2.1]) ((l b n2.2).trans q)
  ·simp only[tO,zaA,or_false,not_or]at n2;calc F.slot b o n1 (by simp [n2.1]) ((l b n2.2).trans q)
def Z0{s:n0}{Q:Unit->n0->Prop}(i:s.heap.get? e=tH {cls:=cl,dict:=d,data:=.fields vs})(j:vs[1]?=tH (.ref T))(st:Rg T l s.heap)(k:∀a,wg fs [T] s.heap a->Rg T .none a->Q () {s with heap:=a}):wpAny M A (setFlight (.ref e) r4) Q E s:=by
 let{_,a,l}:=st;let lt:=(zai.mp l).1;refine wpAny_setFlight_none i rfl j a rfl lt (k _ ({λb i _ n q=>?_,λb i _ n q=>{i.slots,?_}}) ({_,zay _ a rfl,by simp [lt]}))
 all_goals
  rwa [zah _ _ λz=>n (by simp [z])]
structure Vl(ex:List m9)(n:Nat)(H H':Hp):Prop where
 ext:∀b∈ex,∃φ,H b=tH (.ext φ)
 same:∀b o,b∉ex->H b=tH o->H' b=tH o
 no:∀b,b < n->H b=r4->H' b=r4
def Vl.out(t:Vl ex n H H')(q:H b=tH o)(d:∀a,o≠.ext a):b∉ex:=λz=>by
 let{a,e}:=t.ext b z;rw[q]at e;cases e;calc d a rfl
def Vl.out0(t:Vl ex n H H')(q:H b=r4):b∉ex:=λz=>by
 let{_,e}:=t.ext b z;rw[q]at e;cases e
def Un.fly(F:wg fs ex h d)(t:Vl ex h.objs.size H H')(i:∀b∈ex,∃o,d.get? b=tH o):Un fs [] H H' h d where
 keep b o q n a _:=F.keep b o a (t.out0 n) q
 slot b o q n a _:=F.slot b o a (t.out0 n) q
 free b o q n _:=t.no b (tM q) n
 there b o q _:=by
  by_cases d:b∈ex
  ·exact i b d
  ·by_cases a:b∈fs
   ·let{_,r}:=F.slot b o a d q;exact{_,r}
   ·exact{o,F.keep b o a d q}
 tups b d q:=t.same b _ (t.out q (by intro a z;cases z)) q
 frzs b o u q:=t.same b _ (t.out q (by intro a z;cases z)) q
 tbls b d q:={#[],by simpa using t.same b _ (t.out q (by intro a z;cases z)) q}
def Z3.fly(ok:Z3 P w H h)(F:wg fs ex h a)(t:Vl ex h.objs.size H H')(fr:∀b∈fs,H b=r4)(new:∀b o,H' b=tH o->(H b=r4\/b∈ex)->qL P w H' a b o):Z3 P w H' a:=λb o q=>by
 by_cases d:b∈ex
 ·exact new b o q (.inr d)
 cases e:H b with
 | none=>calc new b o q (.inl e)
 | some u=>
  let r:=t.same b u d e;rw[q]at r;cases r;refine(ok b o e).stay (λc v a g=>F.keep c v ?_ ?_ g) (λc z=>t.same c _ (t.out z (by intro i z;cases z)) z) (λc _ z=>t.same c _ (t.out z (by intro i z;cases z)) z) (λc o z=>t.same c _ (t.out z (by intro i z;cases z)) z)
  ·intro z;let n:=fr c z;rcases a with rfl | a
   ·rw[e]at n;cases n
   ·rw[a]at n;cases n
  ·rcases a with rfl | a
   ·exact d
   ·exact t.out a (by intro i z;cases z)
def Vs(T:m9)(a:n9):HO:=.ext (Rg T a)
def zU(x:Rg T a h):qL P w H h T (Vs T a):=by
 let{a,q,z}:=x;calc{{a,q,z},{_,q},λ_ _ ⟨a,b,d⟩ k=>{a,k _ b,d}}
def Z6(P:o3)(w:o4):Rj:=λp H s E e i=>∃a m o j l d,e=.ref a/\i.os=s.os/\AllBare i.gens/\Un (Xz p) [] H d s.heap i.heap/\Z3 P w d i.heap/\
 d a=tH (QR a m o (.ref j))/\d j=tH (Vs j .none)/\l j=r4/\l a=tH (Z1 a m o)/\(∀b i,b≠a->l b=tH i->d b=tH i)/\E (.ref m) (tH o) l
def vm(X:Cx)(E:XK):Prop:=∀(i:List (m9×Obj)) (j:St) (H:Hp) (s:n0) (a b d:m9),qA X i j H s->H a=tH (Z1 a b d)->E (.ref b) (tH d) H->X.xe (.ref a) s
def qA.flown(I:qA X d i H s)(F:wg (Xz X.stack) ex s.heap a)(t:Vl ex s.heap.objs.size H H')(j:∀b∈ex,∃o,a.get? b=tH o)(new:∀b o,H' b=tH o->(H b=r4\/b∈ex)->qL X.prog X.w H' a b o):qA X d i H' {s with heap:=a}:=
 I.call (Un.fly F t j) (Z3.fly I.hok F t I.stkFree new) I.bare λb z=>absurd z {}
def wg.then(F:wg fs ex h d)(G:wg fs [T] d i)(a:h.objs.size<=T):wg fs ex h i where
 keep b o n1 n2 q:=G.keep b o n1 (by simp;calc tX (tJ (tM q) a)) (F.keep b o n1 n2 q)
 slot b o n1 n2 q:=by
  let{_,r}:=F.slot b o n1 n2 q;let{d,i}:=G.slot b _ n1 (by simp;calc tX (tJ (tM q) a)) r;calc{d,i}
def zC:vm (Ji (Z6 P w) P w K mg base N l scope f u A outer s₀ H₀ E) E:=by
 intro _ _ H s a m o I j C;obtain⟨⟨y,d,v⟩,_,_⟩:=(show qL P w H s.heap a (QR a m o .none) from I.hok a _ j);show wpAny _ _ (leaving _ _) _ _ s;unfold leaving;calc zep (yc I.ok.frames I.stack rfl d v λ_ i p F d x=>?_);let lt:=(zai.mp v).1;let g1:(y.setIfInBounds 1 (Value.ref i))[1]?=tH (.ref i):=by simp [lt]
 let v:i≠a:=λz=>by
  let{_,q,_}:=x;rw[z,d]at q;cases q
 calc Z0 (fs:=Xz (Ji (Z6 P w) P w K mg base N l scope f u A outer s₀ H₀ E).stack) d g1 x λ_ x st=>?_;let B:a∉Xz (Ji (Z6 P w) P w K mg base N l scope f u A outer s₀ H₀ E).stack:=λz=>by
  let:=I.stkFree a z;rw[j]at this;cases this
 let u:=I.hok.fresh p;let y:=x.keep a _ B (by simp [Ne.symm v]) d;let l:=I.flown (H':=upd (upd H a (QR a m o (.ref i))) i (Vs i .none)) (wg.then F x p) ⟨λb d=>by cases tQ.mp d;exact{_,j},λb B d q=>by
   rwa [qf (qo q u),qf λz=>d (by simp [z])],λb d q=>by
   rwa [qf (tX (tJ d p)),qf λz=>by rw[z,j]at q;cases q]⟩ (λb d=>by cases tQ.mp d;calc{_,y}) λb B q d=>by
  by_cases p:b=i
  ·subst p;rw[qa]at q;cases q;exact zU st
  ·rw[qf p]at q;by_cases p:b=a
   ·subst p;rw[qa]at q;cases q;exact zK ({_,y,g1})
   ·rw[qf p]at q;rcases d with d | d
    ·rw[q]at d;cases d
    ·exact absurd (tQ.mp d) p
 calc{a,m,o,i,H,_,s0,l.os,l.bare,l.base,l.hok,by rw[qf (Ne.symm v),qa],qa ..,u,j,λb B d q=>by rwa [qf (qo q u),qf d],C}
def J8:QT (Z6 P w) (Ji (Z6 P w) P w K mg base N v scope f x A outer s₀ H₀ E) E:=by
 intro _ _ H s e d j l;let{a,y,B,i,O,o,rfl,os,bare,un,C,p,m,aa,ab,Q,hE}:=l;let I:=j.call' os un C bare λb z=>absurd z {};obtain⟨⟨D,j,l⟩,_,_⟩:=(show qL P w o d.heap a (QR a y B (.ref i)) from I.hok a _ p);let{C,_,_}:=(show qL P w o d.heap i (Vs i .none) from I.hok i _ m);let T:i≠a:=λz=>by
  let{L,q,_}:=C;rw[z,j]at q;cases q
 show wpAny _ _ (leaving _ _) _ _ d;unfold leaving;calc zep (UT I.ok.frames I.stack rfl j l C T λh1 j C F tT d J=>?_);let lt:=(zai.mp l).1;let g1:(D.setIfInBounds 1 (Value.ref j))[1]?=tH (.ref j):=by simp [lt]
 let D:j≠a:=λz=>by
  let{L,q,_}:=J;rw[z,d]at q;cases q
 calc Z0 (fs:=Xz (Ji (Z6 P w) P w K mg base N v scope f x A outer s₀ H₀ E).stack) d g1 J λh2 J st=>?_;let U:∀b l,o b=tH l->b∉Xz (Ji (Z6 P w) P w K mg base N v scope f x A outer s₀ H₀ E).stack:=λb l q z=>by
  let:=I.stkFree b z;rw[q]at this;cases this
 let v:=I.hok.fresh C;let Y:=J.keep a _ (U a _ p) (by simp [Ne.symm D]) d;let{_,d}:=tT;let L:=J.keep i _ (U i _ m) (by simp [Ne.symm ((qo m v).symm)]) d;let x:=I.flown (H':=upd (upd (upd o a (QR a y B (.ref j))) i (.ext λh=>∃l,h.get? i=tH l)) j (Vs j .none)) (wg.then F J C) ⟨λb d=>by
   simp only[tO,zaA,or_false]at d;rcases d with rfl | rfl
   ·exact{_,p}
   ·exact{_,m},λb l d q=>by
   simp only[tO,zaA,or_false,not_or]at d;rwa [qf (qo q v),qf d.2,qf d.1],λb d q=>by
   rwa [qf (tX (tJ d C)),qf (λz=>by rw[z,m]at q;cases q),qf (λz=>by rw[z,p]at q;cases q)]⟩ (λb d=>by
   simp only[tO,zaA,or_false]at d;rcases d with rfl | rfl
   ·exact{_,Y}
   ·calc{_,L}) λb l q d=>by
  by_cases m:b=j
  ·subst m;rw[qa]at q;cases q;exact zU st
  ·rw[qf m]at q;by_cases m:b=i
   ·subst m;rw[qa]at q;cases q;exact{{_,L},{_,L},λh1 h2 ⟨u,z⟩ k=>{u,k u z}}
   ·rw[qf m]at q;by_cases o:b=a
    ·subst o;rw[qa]at q;cases q;exact zK ({_,Y,g1})
    ·rw[qf o]at q;rcases d with d | d
     ·rw[q]at d;cases d
     ·simp only[tO,zaA,or_false]at d;exact(d.elim o m).elim
 refine{a,y,B,j,O,_,s0,x.os,x.bare,x.base,x.hok,by rw[qf (Ne.symm D),qf (Ne.symm T),qa],qa ..,?_,ab,λb l d q=>?_,hE}
 ·cases e:O j with
  | none=>rfl
  | some l=>
   let:=Q j l D e;rw[v]at this;cases this
 ·let n1:b≠i:=λz=>by rw[z,aa]at q;cases q
  let i:=Q b l d q;rwa [qf (qo i v),qf n1,qf d]
def KY{A:o2}{oC:Obj}{Q:Flow->n0->Prop}(l:A.handled=r4)(j:oC.cls=.type "type")(m:∀(h:o1) (g d t os) (Q:Bool->n0->Prop),h.get? C=tH oC->Q true ({h,g,d,t,os})->wpAny M A (isSubtype (.ref C) (.type "BaseException")) Q E ({h,g,d,t,os}))(h:wpAny M A x (λv a=>∃e i b,v=.ref e/\a.heap.get? C=tH oC/\a.heap.get? e=tH {cls:=.ref C,dict:=tH i,data:=.fields b}/\b[1]?=tH Value.none/\E (.ref e) a) E s):
  wpAny M A (raiseStmt env (tH x) r4) Q E s:=by
 unfold raiseStmt;calc zep (jy h λv a o=>?_);let{e,i,b,rfl,j,p,q,u}:=o;let{_,g,d,tk,os}:=a
 repeat (first | with_reducible calc wpAny_loadPart_at p ?_ | with_reducible calc wpAny_loadPart_at j ?_ | with_reducible calc m _ _ _ _ _ _ j ?_ | wp_step)
 rw[q];calc zeq ?_;rw[if_neg (show ¬((Value.none != Value.none)=true) by decide)];calc zeq (wpAny_raiseNew_none l u)
inductive EA(K:zen)(C:m9):Prop
 | mk (f:_) (bm:_):Sr K C f bm->bm.contains (.type "BaseException")=true->EA K C
inductive uj(K:zen)(E:XK)(v:V)(H1:Hp):Prop
 | mk (a:_) (C:_) (dx:_):v=.ref a->H1 a=tH (Z1 a C dx)->EA K C->(E (.ref C) (tH dx) H1)->uj K E v H1
def NF(K:zen)(E:XK)(te:TE):TS:=λD a H=>te a H λv a=>uj K E v a
def Yt{X:Cx}(B:X.calm=true)(C:vm X E)(J:JE X e te):JS X (.Raise (tH e) r4 pos) (NF X.K E te):=.of (by
 intro m s p H D I h;let gF:∀x:Sem n9,wpAny (model X.prog X.w) X.A x (λu o=>∃v i,qA X m p i o/\qV v u/\∃a b j,v=.ref a/\i a=tH (Z1 a b j)/\EA X.K b/\E (.ref b) (tH j) i) X.xe s->
   wpAny (model X.prog X.w) X.A (raiseStmt X.env (tH x) r4) (SP X m D) X.xe s:=λx l=>by
  unfold raiseStmt;calc zep (jy l λu o ⟨v,i,l,L,a,b,j,O,y,⟨f,T,em,U⟩,Y⟩=>?_);subst O;obtain rfl:u=Value.ref a:=L;let{nm,q,N,bs,_,_,sub,_,_,_,_,_,_,_,_,L}:=em.obj;obtain⟨⟨O,ho,hz⟩,_,_⟩:=(show qL X.prog X.w i o.heap a (QR a b j .none) from l.hok a _ y);let r:=KY (M:=model X.prog X.w) (env:=X.env) (Q:=SP X m D) (l.ok.hd B) rfl (λh g d t os Q z k=>wpAny_isSubtype_exc z (by
   rwa [show (Value.ref b::T).contains (.type "BaseException")=true by rw[zcT,U,Bool.or_true]])) (zeq ({a,j,O,s0,l.kIn _ _ L,ho,hz,C m p i o a b j l y Y}))
  exact r
 rw[arm_exec_Raise];calc zep (wpAny_standAt (gF _ (zep (jy (J.to m s p H _ I h) λu o ⟨v,i,l,m,a,b,j,o,p,y,B⟩=>zep (wpAny_standAt (zeq ({v,i,l,m,a,b,j,o,p,y,B}))))))))
def GQ{M:Model}{A:o2}{E:n9->n0->Prop}{h:o1}{g:Array GenState}{d:Drawn}{t:Nat}{os:OsState}{e C D:m9}{b oC:Obj}{l:Option m9}{m:Array (Option n9)}{o}{a i:List n9}{Q:Bool->n0->Prop}
  (p:h.get? e=tH b) (q:b.cls=.ref C) (z:h.get? C=tH oC) (u:h.get? D=tH ({.type "type",l,.cls o,m}))
  (v:∀(T:n9) (Q:Bool->n0->Prop),Q (a.contains T) ({h,g,d,t,os})->wpAny M A (isSubtype (.ref C) T) Q E ({h,g,d,t,os}))
  (x:∀(T:n9) (Q:Bool->n0->Prop),Q (i.contains T) ({h,g,d,t,os})->wpAny M A (isSubtype (.ref D) T) Q E ({h,g,d,t,os}))
  (y:i.contains (.type "BaseException")=true)
  (j:Q (a.contains (.ref D)) ({h,g,d,t,os})):wpAny M A (excMatches (.ref e) (.ref D)) Q E ({h,g,d,t,os}):=by
 let f:=tc_notTuple;unfold excMatches
 repeat (first | (with_reducible calc wpAny_loadPart_at p ?_;rw[q]) | with_reducible calc wpAny_loadPart_at u ?_ | (with_reducible calc v _ _ ?_) | (with_reducible calc x _ _ ?_;rw[y]) | wp_step)
 cases b:a.contains (.ref D)<;>(rw[b]at j;wp_walk;calc j)
def YK(d:Rj)(X:Cx)(E:St->XK):Prop:=∀(i:List (m9×Obj)) (a:St) (H:Hp) (s:n0) (e:n9) (b:n0),qA X i a H s->d X.stack H s (E a) e b->X.xe e b
def RP(b:Sp)(d:List V)(E:St->XK)(t:TA):TE:=λa H Q=>t a H λi j=>b (i++d) j Q (E a)
def CP{X:Cx}(F:qu X.prog X.w X.K X.mg X.base j k f l ps m)(hr:jK k X.A)(o:Qj X.K l ps b)(hd:qN d b)(p:YK j X E)(I:qA X i a H s)(r:qN vs us)(h:m (vs++d) H Q (E a)):wpAny (model X.prog X.w) X.A (call (.ref f) us) (EP X i a Q) X.xe s:=by
 let j:=r.append hd;refine wpAny_call (codeAny_mono (F.run X.A X.stack s H ({us,[]}) (us++b) (vs++d) Q (E a) hr I.env0 (o s us I.kIn (j.length.symm.trans (F.len _ _ _ _ h))) j h) λz b q=>?_)
 match z,q with
 | .error y,q=>calc p i a H s y b I q
 | .ok (.ret u),q=>calc I.after q
def Mj{X:Cx}(F:qu X.prog X.w X.K X.mg X.base b k f d ps i)(hr:jK k X.A)(j:Gl X x)(l:X.mg x=tH (.ref f))(m:zaM X.K (.ref f)=true)(o:Qj X.K d ps u)(hd:qN v u)(y:YK b X E)(z:PA X (e::a) t)(B:(x==("__debug__":Str))=false:=by decide)(C:starEach (e::a) X.env=(false,eval e X.env)::starEach a X.env:=by rfl)(D:(backTo pos (starEach a X.env)).any (·.1)=false:=by rfl):
  PE X (.Call (.Name x p) (e::a) [] pos) (RP i v E t):=by
 refine λa s b H Q I h=>wpAny_Call_Name_kw (Ys I j l (zbm I.ok.mod.kin m (jy (z pos a s b H _ I h) λ_ _ ⟨_,_,a,r,q⟩=>{a.kIn,CP F hr o hd y a r q}) C D) B)
def Bc{Q:n9->n0->Prop}(I:qA X i j H s)(e:H a=tH (.dK kvs))(l:H b=tH (.dK more))(m:a≠b)(hz:kvs.length+more.length<=zes)(h:∀d,qA X i j (upd H a (.dK (JN kvs more))) d->Q .none d):
  wpAny (model X.prog X.w) A (call (.builtin "dict.update") [.ref a,.ref b]) Q E s:=by
 let{z,hd,j,f9,d}:=yC I.hok e;let{_,o,p,i,u}:=yC I.hok l;calc call_meetsIn zdf d.typeIs PySem.F.entry_dict_update (PySem.F.args_dict_update_2 _ _) (meets_dict_update (jN X.prog X.w) a b m o) ({j,p,d,u,by rwa [<-f9.length,<-i.length],λ_ d _ j=>h _ (YD I (e▸True.intro) j (let ⟨q,_,_,j,_⟩:=d;({q,j})) (x3 (tP (Zs more kvs) hz) hd (i.merge f9) d))})
inductive RL(ty:TE)(σ:St)(Q:VK)(x:V)(H1:Hp):Prop
 | mk (a:_):x=.ref a->SJ H1 a->(ty σ H1 λy H2=>∃b kvs more,y=.ref b/\H2 a=tH (.dK kvs)/\H2 b=tH (.dK more)/\a≠b/\kvs.length+more.length<=zes/\Q .non (upd H2 a (.dK (JN kvs more))))->RL ty σ Q x H1
def Oe(b ty:TE):TE:=λa H Q=>b a H λx b=>RL ty a Q x b
def Ea(l:JE X o i)(p:JE X e ty)(m:M1 X o "update" b_ e j):JE X (.Call (.Attribute o "update" b_) [e] [] j) (Oe i ty):=.of (by
 calc λi s j H Q I h=>wpAny_Call_method m.base m.few m.line zbx zdf PySem.F.type_dict_update (jy (l.to i s j H _ I h) λu q ⟨x,v,l,z,a,ex,d,B⟩=>?_);subst ex;obtain rfl:u=Value.ref a:=z;let{z,C,_}:=xN l d;exists z,C;rw[m.trees];calc Calls.callWith_builtin rfl (Calls.evalArgs_plain (Calls.spliced_cons (jy (p.to i q j v _ l B) λi _ ⟨y,_,j,l,b,kvs,more,p,q,v,z,B,C⟩=>Calls.spliced_nil ?_)));subst p;obtain rfl:i=Value.ref b:=l;calc Bc j q v z B λ_ i=>{.non,_,i,s0,C})
def fm{us:List n9}(h:us.length=0):us=[]:=zaN h
def DP{us:List n9}(h:us.length=n+1):∃a r,us=a::r/\r.length=n:=by
 cases us with
 | nil=>cases h
 | cons a r=>calc{a,r,s0,zee.inj h}
def I0{us:List n9}(h:us.length=1):∃a,us=[a]:=by
 let{a,r,rfl,b}:=DP h;calc{a,by rw[fm b]}
def yl{us:List n9}(h:us.length=2):∃a b,us=[a,b]:=by
 let{a,r,rfl,d}:=DP h;let{b,rfl}:=I0 d;calc{a,b,s0}
def IZ{us:List n9}(h:us.length=3):∃a b c,us=[a,b,c]:=by
 let{a,r,rfl,d}:=DP h;let{b,c,rfl}:=yl d;calc{a,b,c,s0}
def PX{us:List n9}(h:us.length=4):∃a b c d,us=[a,b,c,d]:=by
 let{a,r,rfl,i}:=DP h;let{b,c,d,rfl}:=IZ i;exact{a,b,c,d,s0}
abbrev Cx.suite(X:Cx)(a:n9)(E:n9->n0->Prop):Cx:={X with A:=X.A.mark (tH a),calm:=false,xe:=E}
abbrev Cx.tried(X:Cx)(pn:List (m9×Obj))(E:n9->n0->Prop):Cx:={X with xe:=E,pn:=pn}
def Cx.Ok.suite{X:Cx}(o:X.Ok)(a:n9)(E:n9->n0->Prop):(X.suite a E).Ok:={o.mod,o.kind,o.glob,o.blt,o.above,o.inj,o.has,o.cab,λz=>Bool.noConfusion z,o.frames,o.stk,o.exf,o.bs,o.bsz,o.noex,o.exfs,o.funs,o.frf}
def Cx.Ok.tried{X:Cx}(o:X.Ok)(pn:List (m9×Obj))(E:n9->n0->Prop):(X.tried pn E).Ok:={o.mod,o.kind,o.glob,o.blt,o.above,o.inj,o.has,o.cab,o.hd,o.frames,o.stk,o.exf,o.bs,o.bsz,o.noex,o.exfs,o.funs,o.frf}
def qA.suite(I:qA X b d H s)(a:n9)(E:n9->n0->Prop):qA (X.suite a E) b d H s:={I.ok.suite a E,I.os,I.bare,I.base,I.loc,I.cell,I.free,I.freeC,I.pin,I.hok,I.len}
def qA.unsuite(d:qA X b j l m)(I:qA (X.suite a E) b i H s):qA X b i H s:={d.ok,I.os,I.bare,I.base,I.loc,I.cell,I.free,I.freeC,I.pin,I.hok,I.len}
def qA.tried(I:qA X a b H s)(E:n9->n0->Prop):qA (X.tried (X.pn++a) E) [] b H s:={I.ok.tried _ E,I.os,I.bare,I.base,I.loc,I.cell,I.free,I.freeC,λa b=>I.pin a (by simpa using b),I.hok,I.len}
def qA.untried(b:qA X a i j l)(I:qA (X.tried (X.pn++a) E) m d H s):qA X a d H s:={b.ok,I.os,I.bare,I.base,I.loc,I.cell,I.free,I.freeC,λa b=>I.pin a (zaa _ b),I.hok,I.len}
def Wa{Q:Unit->n0->Prop}(I:qA X o j H s)(hN:X.N.Nodup)(B:X.N[i]?=tH x)(D:X.env.scope.names.lookup x=tH .local)(h:∀l,qA X o (j.set i r4) H l->Q () l):wpAny M A (do bindName X.env x .none;unbindBehindTheSuite X.env x pos) Q F s:=by
 let{m,u,L}:=id I.loc;let O:i < j.length:=by rw[I.len];exact(tf.mp B).1
 let cne:=I.cne;let T:∀{a:m9} {o:o1},(∃l,s.heap.get? a=tH l/\H a=r4)->Heap.SameBut a s.heap o->Z3 X.prog X.w H o:=λ{a o} p j b C e=>by
  let{_,_,v}:=p;calc(I.hok b C e).stay (λc C p q=>(j.2 c ?_).trans q) (λ_ q=>q) λ_ _ q=>q;rintro rfl;rcases p with rfl | p
  ·rw[v]at e;cases e
  ·rw[v]at p;cases p
 calc wpAny_nameGoes_keeps D u (by rw[I.ok.kind];rfl) λo v0 o j=>?_;let{oL,_,_,U,_}:=id u;refine h _ ({I.ok,I.os,I.bare,{λb l e n v p=>?_,λb l e n v p=>?_,I.base.free,λb l e p=>?_,I.base.tups,I.base.frzs,I.base.tbls},{_,o,λD y Y o u e3=>?_},λy c e=>?_,I.free,I.freeC,λJ hp=>?_,T ({oL,U,I.free}) j,by simpa using I.len})
 ·exact(j.2 b (tX (tJ (tM e) I.ok.above))).trans (I.base.keep b l e n v p)
 ·let{T,o}:=I.base.slot b l e n v p;exact{T,(j.2 b (tX (tJ (tM e) I.ok.above))).trans o}
 ·let{v,o}:=I.base.there b l e p;exact{v,(j.2 b (tX (tJ (tM e) I.ok.above))).trans o}
 ·by_cases l:D=i
  ·subst l;rw[zcv O]at u;cases u
  ·rw[zcF (Ne.symm l)]at u;let{p,v,q}:=L D y Y o u e3;exists p,v;rcases q with ⟨k,e⟩ | ⟨k,c,e,z⟩
   ·calc .inl ({k,?_});let:y≠x:=λe=>l (WQ hN o (e▸B));simp [this,e]
   ·exact .inr ({k,c,e,z.sameBut j (cne y c e)})
 ·let{C,z}:=I.cell y c e;exact{C,z.sameBut j (cne y c e)}
 ·let{e,n,ne,l,d}:=I.pin J hp;calc{(j.2 J.1 ne).trans e,n,ne,l,d}
abbrev TH:=m9->m9->m9->TS
def PH(X:Cx)(m:List ExceptHandler)(t:TH):Prop:=
 ∀(d:List (m9×Obj)) (s:n0) (i:St) (H:Hp) (D:QY) (a j l b:m9),qA X d i H s->H a=tH (QR a j l (.ref b))->H b=tH (Vs b .none)->t j a l D i H->
  wpAny (model X.prog X.w) X.A (handleBy (.ref a) X.env m) (SP X d D) X.xe s
def AQ:TH:=λ_ _ _ _ _ _=>False
def Gd:PH X a AQ:=λ_ _ _ _ _ _ _ _ _ _ _ _ h=>h.elim
def QY.gone(D:QY)(j:Nat):QY:={nx:=λa H=>D.nx (a.set j r4) H,rt:=D.rt,bk:=λa H=>D.bk (a.set j r4) H,ct:=λa H=>D.ct (a.set j r4) H}
def wE(K:zen)(Cl:m9)(j:Nat)(ts:TS)(l:TH):TH:=λb a m D d H=>∃f i,Sr K b f i/\
 if (Value.ref b::i).contains (.ref Cl)=true then ts (D.gone j) (d.set j (tH (.ref a))) H else l b a m D d H
inductive EG(K:zen)(C:m9):Prop
 | mk (bm:_):((∃nm q N bs gZ sn sub ab iD dd k0 k1 k2 k3 k5,K.lookup C=tH (excClassObj nm q C N bs bm gZ sn sub ab iD dd k0 k1 k2 k3 k5 "ValueError.__new__")))->bm.contains (.type "BaseException")=true->EG K C
def x5{X:Cx}{x n:Str}{p pos:Pos}{j:Nat}{aa:o0}{suite:List o0}{rest:List ExceptHandler}{ts:TS}{tr:TH}{Cl:m9}(hg:Gl X x)(hm:X.mg x=tH (.ref Cl))(hD:EG X.K Cl)(hN:X.N.Nodup)(J:X.N[j]?=tH n)
  (y:X.env.scope.names.lookup n=tH .local) (hs:∀v E,Bx (X.suite v E) (aa::suite) ts) (hr:PH X rest tr) (ae:(x==("__debug__":Str))=false:=by decide):PH X (.ExceptHandler (tH (.Name x p)) (tH n) (aa::suite) pos::rest) (wE X.K Cl j ts tr):=by
 intro O s σ H D a T dx l I ha L h;let{f,bm,em,h}:=h;let{ai,af,hB}:=hD;calc wpAny_handleBy_cons (codeAny_handlers_test ?_) (by intro q;cases q);calc wpAny_mono (uE (X:=X.suite (.ref a) _) (v:=.ref Cl) hg hm rfl ae O s σ H (λv B=>v=.ref Cl/\B=H) (I.suite _ _) ({s0,s0})) (λc U q=>?_) (λ_ _ z=>z);let{v,B,I1,rv,rfl,rfl}:=q;obtain rfl:c=Value.ref Cl:=rv;let C:=I.unsuite I1;let{nm,q,N,bs,aj,sn,sub,ab,ak,dd,k0,k1,k2,k3,k5,hC}:=em.obj;let{al,q',N',am,an,ao,ap,aq,ar,as,au,av,aw,ax,ay,ag}:=af;obtain⟨⟨fl,he,hz⟩,_,_⟩:=(show qL X.prog X.w B U.heap a (QR a T dx (.ref l)) from C.hok a _ ha);let{st,_,_}:=(show qL X.prog X.w B U.heap l (Vs l .none) from C.hok l _ L);let gC:=C.kIn _ _ hC;let gD:=C.kIn _ _ ag;let{hp,g,d,tk,os}:=U;calc GQ he rfl gC gD (λl Q k=>wpAny_isSubtype_exc gC k) (λl Q k=>wpAny_isSubtype_exc gD k) (by rw[zcT,hB,Bool.or_true]) ?_;cases hb:(Value.ref T::bm).contains (.ref Cl) with
 | false=>
  rw[hb,if_neg tN]at h;calc hr O _ σ B D a T dx l C ha L h
 | true=>
  rw[hb,if_pos rfl]at h;calc(show codeAny _ _ _ _ _ from codeAny_handlers_suite_as (Z0 (fs:=Xz X.stack) he hz st λh' F ac=>?_));let I3:=C.flown F ({λb i=>by cases tQ.mp i;calc{_,L},λb ah _ z=>z,λb _ z=>z}) (λb i=>by cases tQ.mp i;let{az,z,_}:=ac;calc{_,z}) λb ah z i=>by
   rcases i with i | i
   ·rw[z]at i;cases i
   ·cases tQ.mp i;rw[L]at z;cases z;exact zU ac
  calc Yi I3 hN J (.inl y) (v:=.ref a) rfl (λs' I4=>wpAny_mono (hs (.ref a) _ O s' _ B (D.gone j) (I4.suite _ _) h) (λfl s3 q=>?_) (λ_ _ z=>z)) (.inr y);cases fl with
  | next=>
   let{Y,H3,m,q}:=q;calc Wa (I.unsuite m) hN J y λs4 o=>{_,_,o,q}
  | brk=>
   let{Y,H3,m,q}:=q;calc Wa (I.unsuite m) hN J y λs4 o=>{_,_,o,q}
  | cont=>
   let{Y,H3,m,q}:=q;calc Wa (I.unsuite m) hN J y λs4 o=>{_,_,o,q}
  | ret u=>
   let{v,Y,H3,m,r,q}:=q;calc Wa (I.unsuite m) hN J y λs4 o=>{v,_,_,o,r,q}
inductive Fv(tb:(St->XK)->TS)(th:TH)(D:QY)(σ:St)(H:Hp):Prop
 | mk (R:m9->m9->Hp->Prop):(tb (λgK c d Hx=>gK=σ/\∃C dx,c=.ref C/\d=tH dx/\R C dx Hx) D σ H)->(∀(a C dx T:m9) (Hx H':Hp),R C dx Hx->Hx a=tH (Z1 a C dx)->(∀b o,b≠a->Hx b=tH o->H' b=tH o)->H' a=tH (QR a C dx (.ref T))->th C a dx D σ H')->Fv tb th D σ H
def OT(tb:(St->XK)->TS)(a:TH):TS:=λD b H=>Fv tb a D b H
def BI{X:Cx}{tb:(St->XK)->TS}(aa:X.stack=X.env::X.outer)(af:X.env.frame=tH X.env.locals)(d:∀(pn:List (m9×Obj)) (W:n9->n0->Prop) (E:St->XK),YK (Z6 X.prog X.w) (X.tried pn W) E->Bx (X.tried pn W) gu (tb E))(hh:PH X (h0::hs) th):PS X (.Try gu (h0::hs) [] [] pos) (OT tb th):=by
 intro O s σ H D I h;let{R,ag,hx}:=h;refine wpAny_Try_except (wpAny_mono (d (X.pn++O) (λe ah=>wpAny (model X.prog X.w) X.A (noteFrame e X.env) (λ_ ai=>wpAny (model X.prog X.w) X.A (setFlight e r4) (λ_ aj=>wpAny (model X.prog X.w) X.A (handleBy e X.env (h0::hs)) (SP X O D) X.xe aj) X.xe ai) X.xe ah) _ ?_ [] s σ H D (I.tried _) ag) (λf s1 q=>?_) (λ_ _ z=>z))
 ·intro aq m H1 s1 e s' I1 hc;let{a,y,B,j,Hx,C,rfl,os,bare,un,ak,L,J,al,am,an,rfl,C',ar,eC,eD,hR}:=hc;cases eC;cases eD;let o:=I.untried (I1.call' os un ak bare λb z=>absurd z {});obtain⟨⟨fl,he,hz⟩,_,_⟩:=(show qL X.prog X.w C s'.heap a (QR a y B (.ref j)) from o.hok a _ L);let{ab,_,_}:=(show qL X.prog X.w C s'.heap j (Vs j .none) from o.hok j _ J);let ac:j≠a:=λz=>by
   let{ts,q,_}:=ab;rw[z,he]at q;cases q
  let fr:=o.ok.frames;let ff:=o.stack;rw[aa]at fr ff;calc UT fr ff af he hz ab ac λh1 i Q F tT T q2=>?_;let lt:=(zai.mp hz).1;let g1:(fl.setIfInBounds 1 (Value.ref i))[1]?=tH (.ref i):=by simp [lt]
  let nT:i≠a:=λz=>by
   let{ts,q,_}:=q2;rw[z,T]at q;cases q
  calc Z0 (fs:=Xz X.stack) T g1 q2 λh2 U ao=>?_;let ae:∀b l,C b=tH l->b∉Xz X.stack:=λb l q z=>by
   let:=o.stkFree b z;rw[q]at this;cases this
  let Y:=o.hok.fresh Q;let q3:=U.keep a _ (ae a _ L) (by simp [Ne.symm nT]) T;let{oT,ap}:=tT;let q4:=U.keep j _ (ae j _ J) (by simp [Ne.symm ((qo J Y).symm)]) ap;rw[<-aa]at F;let I3:=o.flown (H':=upd (upd (upd C a (QR a y B (.ref i))) j (.ext λh=>∃l,h.get? j=tH l)) i (Vs i .none)) (wg.then F U Q) ⟨λb d=>by
    simp only[tO,zaA,or_false]at d;rcases d with rfl | rfl
    ·exact{_,L}
    ·exact{_,J},λb l d q=>by
    simp only[tO,zaA,or_false,not_or]at d;rwa [qf (qo q Y),qf d.2,qf d.1],λb d q=>by
    rwa [qf (tX (tJ d Q)),qf (λz=>by rw[z,J]at q;cases q),qf (λz=>by rw[z,L]at q;cases q)]⟩ (λb d=>by
    simp only[tO,zaA,or_false]at d;rcases d with rfl | rfl
    ·exact{_,q3}
    ·calc{_,q4}) λb l q d=>by
   by_cases e1:b=i
   ·subst e1;rw[qa]at q;cases q;exact zU ao
   ·rw[qf e1]at q;by_cases e2:b=j
    ·subst e2;rw[qa]at q;cases q;exact{{_,q4},{_,q4},λh1 h2 ⟨u,z⟩ k=>{u,k u z}}
    ·rw[qf e2]at q;by_cases e3:b=a
     ·subst e3;rw[qa]at q;cases q;exact zK ({_,q3,g1})
     ·rw[qf e3]at q;rcases d with d | d
      ·rw[q]at d;cases d
      ·simp only[tO,zaA,or_false]at d;exact(d.elim e3 e2).elim
  let ea:upd (upd (upd C a (QR a y B (.ref i))) j (.ext λh=>∃l,h.get? j=tH l)) i (Vs i .none) a=tH (QR a y B (.ref i)):=by rw[qf (Ne.symm nT),qf (Ne.symm ac),qa]
  calc hh O _ m _ D a y B i I3 ea qa (hx a y B i Hx _ hR am (λb l nb q=>?_) ea);let q':=an b l nb q;rw[qf (qo q' Y),qf (λz=>by rw[z,al]at q;cases q),qf nb];exact q'
 ·cases f with
  | next=>
   let{m,p,x,q}:=q;calc wpAny_execs_nil ({m,p,I.untried x,q})
  | brk=>
   let{m,p,x,q}:=q;calc{m,p,I.untried x,q}
  | cont=>
   let{m,p,x,q}:=q;calc{m,p,I.untried x,q}
  | ret u=>
   let{v,m,p,x,r,q}:=q;exact{v,m,p,I.untried x,r,q}
@[irreducible] def JH (X:Cx) (a:List ExceptHandler) (t:TH):Prop:=PH X a t
def JH.of(h:PH X a t):JH X a t:=by unfold JH;calc h
def JH.to(h:JH X a t):PH X a t:=by unfold JH at h;calc h
def Av:JH X a AQ:=.of Gd
def Aw{X:Cx}{x n:Str}{p pos:Pos}{j:Nat}{a:o0}{suite:List o0}{rest:List ExceptHandler}{ts:TS}{b:TH}{Cl:m9}(d:Gl X x)(i:X.mg x=tH (.ref Cl))(l:EG X.K Cl)(hN:X.N.Nodup)(m:X.N[j]?=tH n)
  (o:X.env.scope.names.lookup n=tH .local) (q:∀v E,Vm (X.suite v E) (a::suite) ts) (hr:JH X rest b) (u:(x==("__debug__":Str))=false:=by decide):JH X (.ExceptHandler (tH (.Name x p)) (tH n) (a::suite) pos::rest) (wE X.K Cl j ts b):=
 .of (x5 d i l hN m o (λv E=>(q v E).to) hr.to u)
def Li{X:Cx}{tb:(St->XK)->TS}(a:X.stack=X.env::X.outer)(b:X.env.frame=tH X.env.locals)(d:∀(pn:List (m9×Obj)) (W:n9->n0->Prop) (E:St->XK),YK (Z6 X.prog X.w) (X.tried pn W) E->Vm (X.tried pn W) gu (tb E))(i:JH X (j::l) m):JS X (.Try gu (j::l) [] [] pos) (OT tb m):=
 .of (BI a b (λpn W E h=>(d pn W E h).to) i.to)
inductive RJ(K:zen)(bm:List n9)(f:Str)(Q:VK)(x:V)(H1:Hp):Prop
 | mk (a:_) (C:_) (dx:_) (hd:_) (fs:_) (v:_):x=.ref a->H1 a=tH (QR a C dx hd)->H1 dx=tH (.xd fs)->XN K C bm->Qy K C f->fs.lookup f=tH v->Q v H1->RJ K bm f Q x H1
def ET(K:zen)(a:List n9)(b:TE)(f:Str):TE:=λd H Q=>b d H λx b=>RJ K a f Q x b
inductive uA(K:zen)(bm:List n9)(xs:List V)(H:Hp)(Q:VK):Prop
 | mk (a:_) (C:_) (dx:_) (hd:_) (fs:_) (c:_) (b:_):xs=[.ref a,c]->F2 c=true->H a=tH (QR a C dx hd)->H dx=tH (.xd fs)->XN K C bm->zak K (.ref C) (Et c)=tH b->(Q (.bl b) H)->uA K bm xs H Q
def N6(K:zen)(a:List n9):List V->Hp->VK->Prop:=λb H Q=>uA K a b H Q
def D9(b:JE X e d)(i:attributeBase e f X.env (eval e X.env)=eval e X.env):JE X (.Attribute e f pos) (ET X.K j d f):=.of (by
 calc λd s j H Q I h=>Kd i (jy (b.to d s j H _ I h) λu _ z=>?_);let{x,b,d,i,a,_,_,hd,fs,v,ex,j,l,c,n,m,q}:=z;subst ex;obtain rfl:u=Value.ref a:=i;calc GC d j l c n m λ_ _ d i=>{v,b,d,i,q})
def yJ{X:Cx}(i:zcc X.K (.builtin "object.__class__") "__get__"=tH (tH (.builtin "getset_descriptor.__get__")))(j:zcq X.K (.builtin "object.__class__")=tH true):Q8 X (.builtin "isinstance") (N6 X.K d):=by
 intro _ s _ H _ _ Q I r h;let{a,_,_,hd,fs,c,b,rfl,l,m,o,p,v,q}:=h;let{u,x,rfl,y,d}:=wq r;let B:x=Et c:=by
  cases c with
  | ty n=>calc d
  | ref z=>calc d
  | _=>cases l
 subst B;cases y;calc AF I m o p i j v λtk=>{.bl b,H,I.tok tk,s0,q}
end L2
namespace PySem
open PySem.Spec
section
variable{prog:o3}{w:o4}{A:o2}{R:Result->n0->Prop}{I:m9}{fp wr:List m9}{n:Nat}{P:Nat->n9->Prop}{St:Nat->o1->Prop}{κ:Type}[DecidableEq κ]{knd:KeyKind prog w κ}
end
section
variable{prog:o3}{w:o4}{A:o2}{E:n9->n0->Prop}{s:n0}{κ:Type}[DecidableEq κ]{knd:KeyKind prog w κ}
end
end PySem
namespace L2
open PySem PySem.Spec
open PyProof.Rows hiding K lo
open PySem.W
def xv{α:Type}{l:List α}(nd:l.Nodup){a:i < l.length}{b:j < l.length}(e:l[i]=l[j]):i=j:=by
 let h:=zaO.mp nd;rcases zaS i j with c | c | c
 ·exact absurd e (h i j a b c)
 ·exact c
 ·calc absurd e.symm (h j i b a c)
inductive N9(K:zen)(x:V)(y:V)(H:Hp)(Q:VK):Prop
 | mk (a:_) (b:_) (xs:_) (ys:_):x=.ref a->y=.ref b->JX K H a xs->JX K H b ys->(xs.length+ys.length<=zes)->(∀l,H l=r4->Q (.ref l) (upd H l (.lst (xs++ys))))->N9 K x y H Q
def O8(K:zen):R2:=λx y H Q=>N9 K x y H Q
def Paired.app:∀{l m:List α} {b d:List β},Paired G l b->Paired G m d->Paired G (l++m) (b++d)
 | _,_,_,_,.nil,h=>h
 | _,_,_,_,.cons a r,h=>.cons a (Paired.app r h)
def UQ:Z8 X (binaryOp .Add) (O8 X.K):=by
 intro _ s _ H x y v u Q I d i h;let{a,b,C,D,rfl,rfl,l,m,J,q}:=h;cases d;cases i;let{d,j,p,_}:=I.list l;let{i,l,L,_}:=I.list m;let m:=j.length;let m:=l.length;obtain⟨⟨cls,O,data,T⟩,m,o,n,hd⟩:=id p.isList;obtain⟨⟨_,U,i0,Y⟩,p,z,n2,B⟩:=id L.isList;simp only at o hd z B;subst o hd z B;let e:d.toArray++i.toArray=(d++i).toArray:={}
 calc concat_meets ({_,m,s0}) ({_,p,s0}) noFill_list_add seq_list_add PySem.F.slot_list_add PySem.F.entry_list_add (PySem.F.args_list_add_2 _ _) (list_addW a b d.toArray i.toArray n n2 O U T Y (by simp only[t4];omega)) ({m,p,?_});rw[e];exact{.ref s.heap.objs.size,_,I.laid (o:=.lst (C++D)) (λb u h=>tm _ h) (ti _) ({tz▸J,d++i,_,Paired.app j l,tL _ rfl}),s0,q _ (I.hok.fresh (ti _))}
inductive uB(K:zen)(x:V)(xs:List V)(H:Hp)(Q:VK):Prop
 | mk (a:m9) (zs:List Str) (z:Str) (j:Nat):x=.ref a->xs=[.str z]->(JX K H a (zs.map V.str))->zs[j]?=tH z->((∀i,i < j->zs[i]?≠tH z))->(Q (.int (j:Nat)) H)->uB K x xs H Q
def Ib(K:zen):V->List V->Hp->VK->Prop:=λx a H Q=>uB K x a H Q
def M5:LL X "list.index" (Ib X.K):=by
 intro _ s _ H x _ v _ Q I b d h;let{a,j,z,o,rfl,rfl,C,p,D,q}:=h;cases b;let{u,rfl,b}:=Jm d;let{t,rfl}:=b;let{l,B,J,L}:=I.list C;let ln:l.length=j.length:=by
  let:=B.length;rw[ta]at this;exact this.symm
 let b:=(tf.mp p).1;let str:∀i (d:i < l.toArray.size),∃b,l.toArray[i]=.str (j[i]'(by simp at d;omega)) b:=λi d=>by
  let C:(j.map V.str)[i]?=tH (V.str j[i]):=by rw[tA,tv (by simp at d;omega)];rfl
  let{O,T,b,e}:=B.get C;exists b;let:l.toArray[i]?=tH O:=by simpa using T
  rw[zbc d]at this;exact(tH.inj this).trans e
 obtain⟨⟨cls,O,data,T⟩,B,C,n,hd⟩:=id J.isList;simp only at C hd;subst C hd;let C:j.length<=zes:=by rwa [ta]at L
 refine call_meets zdj ({_,B,s0}) PySem.F.entry_list_index (PySem.F.args_list_index_2 _ _) (SeqAt.list_indexAt a l.toArray n O T (.str z t) (λy=>match y with | .str x _=>x==z | _=>false) o (by simp;omega) (by rw[sizeLine_eq]at C;omega) ?_ ?_) ({B,λy l=>?_,{.int _,H,I.tok _,{_,s0},q}})
 ·let{b,e}:=str o (by simp;omega);rw[e,(tf.mp p).2];exact beq_self_eq_true z
 ·intro m j lt;let{b,e}:=str m j;rw[e];calc beq_eq_false_iff_ne.mpr λc=>D m lt ?_;rw[tv (by simp at j;omega),c]
 ·let{i,d,rfl}:=Array.mem_iff_getElem.mp l;let{b,e}:=str i d;rw[e];exact SeqAt.EqAt.str_str _ b z t
abbrev xg(a:Bool):Obj:={cls:=.type "set",dict:=r4,data:=.set #[] 0 (.fresh 0 0 a)}
def Jj{α:Type}{K:zen}{a D:m9}{xs:List α}{enc:α->V}{out:α->Option V}{rest:St}{H:Hp}{tt:TT}{te:TE}{Q:Hp->Prop}(o:H D=r4)(d:H a=tH (.lst (xs.map enc)))(len:xs.length < zes)
  (u:∀x∈xs,∀G,qj H G->∀R:Bool->Hp->Prop,(∀G',qj G G'->R (out x).isSome G')->tt (tH (enc x)::rest) G R)
  (z:∀x∈xs,∀v,out x=tH v->∀G,qj H G->∀R:V->Hp->Prop,(∀G',qj G G'->R v G')->te (tH (enc x)::rest) G R)
  (k:∀G,qj H G->G D=tH (.lst (xs.filterMap out))->Q G):Vq (LP K a) (Ql 0) tt te D (r4::rest) H Q:=by
 let j:qj H (upd H D (.lst [])):=λb m h=>by
  rwa [qf (λe=>by rw[e,o]at h;cases h)]
 refine qR (λi l G=>(∃v0,l=v0::rest)/\qj H G/\G D=tH (.lst ((xs.take i).filterMap out))) ({{r4,s0},j,qa}) (λi l G _ ⟨_,s,_⟩=>.of (s _ _ d)) ?_ ?_
 ·rintro i y l G d ⟨⟨v0,rfl⟩,s,j⟩;rw[tA]at d;cases ex:xs[i]? with
  | none=>rw[ex]at d;cases d
  | some x=>
   rw[ex]at d;obtain rfl:=(tH.inj d).symm;let p:=tS ex;let q:(xs.take (i+1)).filterMap out=(xs.take i).filterMap out++(out x).toList:=by
    rw[tE,ex,zaz];cases c:out x<;>simp [c]
   show tt (tH (enc x)::rest) G _;calc u x p G s _ λu d=>?_;cases c:out x with
   | none=>
    show if false=true then _ else _
    rw[if_neg tN];exists{_,s0},λb m h=>d _ _ (s _ _ h);rw[q,c];simpa using d _ _ j
   | some v=>
    show if true=true then _ else _
    rw[if_pos rfl];refine z x p v c u (λb m h=>d _ _ (s _ _ h)) _ λG2 p=>{_,p _ _ (d _ _ j),?_,{_,s0},?_,?_}
    ·calc zbf (zaI _ _) ?_;rw[tG];omega
    ·intro b m h;rw[qf (λe=>by rw[e,o]at h;cases h)];exact p _ _ (d _ _ (s _ _ h))
    ·rw[q,c];exact qa
 ·rintro l G ⟨_,s,j⟩;rw[ta,tu (ti _)]at j;exact k G s j
section
variable{prog:o3}{w:o4}{KK:Type}[DecidableEq KK]{kd:HeapKind prog w KK}{A:o2}{E:n9->n0->Prop}{s:n0}
def Ci{Q:n9->n0->Prop}(gM:kd.room A)(is:kd.is s.heap k a)(l:s.heap.DictOfH kd d ys)(b:ys.length<=zes)(gy:∀v,(atKey ys k).map (·.2)=tH v->Q v {s with toks:=s.toks+kd.draws k})(new:(atKey ys k).map (·.2)=r4->∀g,g.DictOfH kd d (storedH ys k a x)->Heap.SameBut d s.heap g->Q x {s with heap:=g,toks:=s.toks+kd.draws k}):
  wpAny (model prog w) A (dictSetDefault d (.ref a) x) Q E s:=by
 let{_,_,z,i,B,b,j,p,o}:=l;let st:∀t:Nat,({s with toks:=t}:n0).heap=s.heap:=λ_=>rfl;unfold dictSetDefault
 try with_reducible refine wpAny_holding ?_
 refine zep (kd.pyHash gM is (zep (wpAny_dictFind_heap gM is i b j p o (λno=>?_) (λC _ y=>?_))))
 ·let l:=atKey_none_of_get no;refine zep (wpAny_rule (zep (wpAny_updateDictKeys (hz:=?_) i b (zeq ?_))))
  ·refine new (by rw[l];rfl) _ ({_,_,z+1,zay _ i (Obj.isFreed_of_dict (Obj.data_mapDictKeys b _)),B.mapDictKeys _,Obj.data_mapDictKeys b _,?_,λq z=>?_,?_}) (zbL.update ..)
   ·rw[storedH_new l];simp [entryOfKey,j]
   ·let two:q∈ys\/q=(k,a,x):=by
     rw[storedH_new l]at z;simpa using z
    rcases two with m | rfl
    ·exact kd.keeps (p q m) i b (zbL.update ..)
    ·exact kd.keeps is i b (zbL.update ..)
   ·rw[storedH_new l,tj,zaL];calc{o,zaX _ _,λu hu v l e=>(not_mem_keys_of_get no) ?_};let:v=k:=by simpa using l
    rwa [<-this,<-e]
  ·let:=size_of_entries j;omega
 ·let l:=atKey_of_get o y;calc zep (wpAny_dictEntries i b ?_);rw[entry_at j C,y];calc zep (wpAny_rule (zeq (gy _ ?_)));rw[l];rfl
def Nx(d a:m9)(hd:(d==sysModules)=false)(x:n9):
  MeetsIn prog w (Builtin.«dict.setdefault» ({[.ref d,.ref a,x],[]})) (λA R s=>kd.room A.in1/\∃(k:KK) (ys:List (KK×m9×n9)),kd.is s.heap k a/\s.heap.DictOfH kd d ys/\ys.length<=zes/\
   (∀v,(atKey ys k).map (·.2)=tH v->R (.ok (.ret v)) {s with toks:=s.toks+kd.draws k})/\
   ((atKey ys k).map (·.2)=r4->∀g,g.DictOfH kd d (storedH ys k a x)->Heap.SameBut d s.heap g->R (.ok (.ret x)) {s with heap:=g,toks:=s.toks+kd.draws k})):=
 .of_wp λA R s ⟨gM,k,ys,is,b,i,gy,new⟩=>by
  unfold Builtin.«dict.setdefault» Builtin.Dict.keyAndDefault;calc zep (zep (wpAny_notOrdered_dict b.typeIs (show wpAny _ _ (pure (d,Value.ref a,tH x)) _ _ s from zeq ?_)));show wpAny _ _ (if (d==sysModules)=true then _ else dictSetDefault d (Value.ref a) x >>= _) _ _ s;rw[if_neg (by rw[hd];decide)];calc zep (Ci gM is b i (λv e=>zeq ({v,s0,gy v e})) λe g b i=>zeq ({x,s0,new e g b i}))
end
def LD{A:o2}{k:List qJ}{Q:n9->n0->Prop}(hu:A.units+1 < cLine)(I:qA X i j H s)(e:H a=tH (.dT kvs))(m:H b=tH (.tup (k.map kV)))(l:kvs.length < zes)(p:qV v r)(gy:∀u,ja kvs k=tH u->∀o d,qA X i j H d->qV u o->Q o d)(new:ja kvs k=r4->∀d,qA X i j (upd H a (.dT (j2 kvs k v))) d->Q r d):
  wpAny (model X.prog X.w) A (call (.builtin "dict.setdefault") [.ref a,.ref b,r]) Q E s:=by
 let{z,hd,i,f9,d}:=Ha I.hok e;let rk:=f9.val k;refine call_meetsIn zcH d.typeIs PySem.F.entry_dict_setdefault (PySem.F.args_dict_setdefault_3 _ _ _) (Nx a b hd r) ({tupleKind_room_in1 hu,k,i,z7 I.hok m,d,by rw[<-Paired.length f9];calc z,λu d=>?_,λj g o x=>?_})
 ·rw[d]at rk;cases d:ja kvs k with
  | none=>rw[d]at rk;cases rk
  | some i=>
   rw[d]at rk;exact gy i d _ _ (I.tok _) rk
 ·rw[j]at rk;cases d:ja kvs k with
  | some i=>rw[d]at rk;cases rk
  | none=>
   let{q,j,y,i,B,C,D,_,J}:=o;calc new d _ (YD I (e▸True.intro) x ({q,i}) ({by have:=JF kvs k v;omega,hd,_,(f9.put k m p).keeps λc _ d=>?_,q,j,y,i,B,C,D,J}));rwa [qf (FV d e (λz=>nomatch z))]
inductive wB(ty tx:TE)(σ:St)(Q:VK)(x:V)(H1:Hp):Prop
 | mk (a:_):x=.ref a->SJ H1 a->(ty σ H1 λy H2=>tx σ H2 λz H3=>∃(kvs:List (List qJ×V)) (k:List qJ) (b:m9),H3 a=tH (.dT kvs)/\y=.ref b/\H3 b=tH (.tup (k.map kV))/\kvs.length < zes/\(∀v,ja kvs k=tH v->Q v H3)/\(ja kvs k=r4->Q z (upd H3 a (.dT (j2 kvs k z)))))->wB ty tx σ Q x H1
def Hq(b ty d:TE):TE:=λa H Q=>b a H λx b=>wB ty d a Q x b
def AB{X:Cx}(hu:X.A.units+1 < cLine)(p:JE X o i)(q:JE X e ty)(v:JE X f B)(m:M2 X o "setdefault" b_ e f C):JE X (.Call (.Attribute o "setdefault" b_) [e,f] [] C) (Hq i ty B):=.of (by
 calc λi s j H Q I h=>wpAny_Call_method m.base m.few m.line zbx zcH PySem.F.type_dict_setdefault (jy (p.to i s j H _ I h) λu p ⟨x,D,l,J,a,ex,d,L⟩=>?_);subst ex;obtain rfl:u=Value.ref a:=J;let{B,C,_}:=xN l d;exists B,C;rw[m.trees];refine Calls.callWith_builtin rfl (Calls.evalArgs_plain (Calls.spliced_cons (jy (q.to i p j D _ l L) λO l ⟨y,p,q,T,B⟩=>
  Calls.spliced_cons (jy (v.to i l j p _ q B) λ_ _ ⟨z,U,Y,j,kvs,k,b,e1,e2,e3,aa,gy,new⟩=>Calls.spliced_nil ?_))))
 subst e2;obtain rfl:O=Value.ref b:=T;calc LD hu Y e1 e3 aa j (λu l _ p i q=>{u,U,i,q,gy u l}) λl p i=>{z,_,i,j,new l})
def Xm(o:Obj):Nat:=match o.data with
 | .dict _ a=>a
 | _=>0
def qA.freeze(I:qA X d i H s)(e:H a=tH (.dK kvs)):∃o,qA X d i (upd H a (.frz o (.dK kvs))) s:=by
 let{z,hd,j,f9,o,l,m,d,r}:=(show qL X.prog X.w H s.heap a (.dK kvs) from I.hok a _ e);let i:Hh (H a):=e▸True.intro;calc{o,I.un (Un.write i (.inl rfl) (λb u _ q=>q) ({o,d})) (I.hok.write i (.inl rfl) (λb u _ q=>q) ({o,d}) ({d,z,hd,j,f9,o,l,m,d,r}))}
inductive ER(Q:VK)(x:V)(H1:Hp):Prop
 | mk (a:_) (kvs:_):x=.ref a->H1 a=tH (.dK kvs)->(∀o,Q x (upd H1 a (.frz o (.dK kvs))))->ER Q x H1
def SV(te:TE):TE:=λa H Q=>te a H λx a=>ER Q x a
def Lo(h:JE X e te):JE X e (SV te):=.of (by
 calc λb s d H Q I i=>jy (h.to b s d H _ I i) λv _ ⟨x,_,b,d,a,kvs,ex,i,q⟩=>?_;let{j,l}:=b.freeze i;calc{x,_,l,d,q j})
def So(a:m9)(o:Obj)(kvs:List (qJ×V))(zs:List Str):It:=
 {λi H=>H a=tH (.frz o (.dK kvs))/\i < zs.length,λi H x b=>b=H/\∃z,zs[i]?=tH z/\x=.str z,λi H=>H a=tH (.frz o (.dK kvs))/\i=zs.length}
def xW(ok:Z3 P w H h)(e:H a=tH (.frz o (.dK kvs))):(a==sysModules)=false/\∃vs,KV kvs vs/\h.DictAt (jN P w) a vs (Xm o):=by
 let{b,z,hd,vs,f9,_,i,_,d,ex,gw,r}:=(show qL P w H h a (.frz o (.dK kvs)) from ok a _ e);rw[b]at d;cases d;calc{hd,vs,f9,o,i,b,ex,?_,r};unfold Xm;rw[gw]
def uU{P:o3}{w:o4}{kvs:List (qJ×V)}{vs:List (qJ×n9)}{zs:List Str}(f9:KV kvs vs)(b:kvs.map (·.1)=zs.map Sum.inr){i:Nat}{z:Str}{k:qJ}{y v:n9}(d:zs[i]?=tH z)(f1:vs[i]?=tH (k,y))(f2:(jN P w).is k v=true):qV (.str z) v:=by
 let j:i < kvs.length:=by
  let a:=(tf.mp d).1;let l:kvs.length=zs.length:=by simpa using congrArg zat b
  omega
 let{_,g1,g2,_}:=Jo f9 (tv j);rw[f1]at g1;cases g1;let a:(kvs.map (·.1))[i]?=tH kvs[i].1:=by rw[tA,tv j];rfl
 rw[b,tA,d]at a;let b:=g2.symm.trans (tH.inj a).symm;subst b;rcases jZ (show WY (Sum.inr z) v=true from f2) with ⟨_,_,c,_⟩ | ⟨a,t,c,rfl⟩
 ·cases c
 ·cases c;calc{t,s0}
def Kv(a it:m9)(o:Obj)(kvs:List (qJ×V))(zs:List Str)(x:kvs.map (·.1)=zs.map Sum.inr):Vx P w K j (So a o kvs zs) [it] it (λi h=>h.IsKeyIter it a i zs.length (Xm o)) where
 mem:=by simp
 obj:=λi h st b j=>by
  let e:b=it:=by simpa using j
  subst e;let{o,e,c,d}:=st;exact{o,e,λv z=>by rw[d]at z;cases z}
 keep:=λi h h' st k=>let ⟨o,e,r⟩:=st;({o,k it {} o e,r})
 item:=by
  intro X B C D J i ab s σ H E I q st L;subst B C D;let{m,f1,f2,O,Q,T}:=q it {};let{l,u}:=L;let{_,p,f9,gw}:=xW I.hok l;let lv:p.length=zs.length:=by
   let U:kvs.length=zs.length:=by simpa using congrArg zat x
   rw[<-Paired.length f9,U]
  rw[<-lv]at st;calc(Walks.dictKeys (I.ok.hd J) it a (λe=>by rw[e,m]at l;cases l) p (Xm o)).item i s _ _ {} ({st,gw}) λv h' tk hv aa Y=>?_;let{k,y,g1,g2}:=hv;let{_,e2,c2,d2}:=id aa.1;calc{_,s0,Uc e2 c2 d2 {} ({.str zs[i],H,I.turned (λb o j e=>Y b o (by simpa using j) e) m f1 O Q T,uU f9 x (tv u) g1 g2,{s0,_,tv u,s0},?_,λb j=>(q b j).1})};rw[<-lv];exact aa.1
 done:=by
  intro X B C D J i ab s σ H E I q st L;subst B C D;let{m,f1,f2,O,Q,T}:=q it {};let{l,u}:=L;let{_,p,f9,gw}:=xW I.hok l;let lv:p.length=zs.length:=by
   let U:kvs.length=zs.length:=by simpa using congrArg zat x
   rw[<-Paired.length f9,U]
  subst u;rw[<-lv]at st;exact(Walks.dictKeys (I.ok.hd J) it a (λe=>by rw[e,m]at l;cases l) p (Xm o)).done s _ _ ({st,gw}) λh' tk Y=>{s0,I.turned (λb o j e=>Y b o (by simpa using j) e) m f1 O Q T}
 self:=λ_ _ _ _ _ st h=>wpAny_pyIter_keyiter st h
inductive F5(R:It->Hp->Prop)(x:V)(H1:Hp):Prop
 | mk (a:_) (o:_) (kvs:_) (zs:_):x=.ref a->H1 a=tH (.frz o (.dK kvs))->kvs.map (·.1)=zs.map Sum.inr->(R (So a o kvs zs) H1)->F5 R x H1
def fv(a:TE):TI:=λb H R=>a b H λx a=>F5 R x a
def xK(d:JE X l i):JI X j l (fv i):=.of (by
 calc λi s j H R I h=>jy (d.to i s j H _ I h) λv i ζ=>?_;let{x,p,d,u,y}:=ζ;let{a,m,kvs,j,e,z,o,q}:=y;subst e;cases u;let{hd,u,f9,gw}:=xW d.hok z;let lv:u.length=j.length:=by
  let u:kvs.length=j.length:=by simpa using congrArg zat o
  rw[<-Paired.length f9,u]
 refine wpAny_pyIter_dict hd gw ({i.heap.objs.size,[i.heap.objs.size],_,_,p,s0,d.kept λb m e=>tm _ e,Kv a _ m kvs j o,?_,λb j=>?_,q})
 ·rw[<-lv];exact{_,tL _ rfl,s0,s0}
 ·let e:b=i.heap.objs.size:=by simpa using j
  subst e;calc d.fpOk (ti _) (d.hok.fresh (ti _)))
def vg{a:m9}{o:Obj}{kvs:List (qJ×V)}{zs:List Str}{g:TG}{b:St}{H:Hp}{tb:TS}{D:QY}(Pv:Nat->St->Hp->Prop)(u:Pv 0 b H)(v:∀i b H,i<=zs.length->Pv i b H->H a=tH (.frz o (.dK kvs)))
  (B:∀i z b H,zs[i]?=tH z->Pv i b H->g (.str z) b H λd j=>tb {D with nx:=Pv (i+1),ct:=Pv (i+1),bk:=D.nx} d j) (hd:∀b H,Pv zs.length b H->D.nx b H):
  ∃W:Nat->Nat->St->Hp->Prop,(∃m,W 0 m b H)/\∀i m b H,W i m b H->
   ((So a o kvs zs).stop i H/\D.nx b H)\/((So a o kvs zs).go i H/\∃N:St->Hp->Prop,(∀l H',N l H'->∃p,p < m/\W (i+1) p l H')/\∀x H',(So a o kvs zs).yld i H x H'->g x b H' λd j=>tb {D with nx:=N,ct:=N,bk:=D.nx} d j):=by
 calc{λi m b H=>m=zs.length - i/\i<=zs.length/\Pv i b H,{zs.length,{},zax _,u},?_};rintro i m b H ⟨rfl,j,d⟩;let q:=v i b H j d;by_cases j:i < zs.length
 ·calc .inr ({{q,j},Pv (i+1),λl H' l=>{zs.length - (i+1),{},s0,j,l},λx H' y=>?_});let{e,z,j,rfl}:=y;subst e;exact B i z b _ j d
 ·let e:i=zs.length:={}
  subst e;exact .inl ({{q,s0},hd b H d})
def jJ.okX{P:o3}{w:o4}{K:zen}{mg:Str->Option n9}{base:o1}{i:Rj}{x b:Str}{st:o0}{f:m9}{j:zer}{N ps:List Str}{k:Nat}{d:Sp}(F:jJ K x b st f j)(S:ql N ps (qg st))(len:∀vs H Q E,d vs H Q E->vs.length=ps.length)
  (l:∀(a:n9) (A:o2) (outer:List Env) (s:n0) (H:Hp) (vs:List V) (Q:VK) (E:XK),jK k (A.deeper (envOfC b (qg st) s.heap.objs.size f a))->d vs H Q E->
   ∃t,Vm (Ji i P w K mg base N b (qg st) f a A outer s H E) (Qr st) t/\t {nx:=λ_ H'=>Q .non H',rt:=Q} (Z9 N vs) H):qu P w K mg base i (k+1) f j ps d:=by
 let{_,_,kV,_,pm,_,a,_,_,rfl,lk,b}:=F.ex;calc F7 lk b S len λA outer s H vs Q E hr b=>?_;let{t,h,q}:=l a A outer s H vs Q E hr b;calc{t,h.to,q}
def jJ.okY{P:o3}{w:o4}{K:zen}{mg:Str->Option n9}{base:o1}{d:Rj}{x a:Str}{st:o0}{f:m9}{i:zer}{N ps:List Str}{k:Nat}{b:Sp}(F:jJ K x a st f i)(S:ql N ps (qg st))(l:∀{j:n9} {A:o2} {outer:List Env} {s:n0} {vs:List V} {nd:N.Nodup} (H:Hp) (Q:VK) (E:XK),jK k (A.deeper (envOfC a (qg st) s.heap.objs.size f j))->b vs H Q E->∃t,Vm (Ji d P w K mg base N a (qg st) f j A outer s H E) (Qr st) t/\t {nx:=λ_ H'=>Q .non H',rt:=Q} (Z9 N vs) H)(len:∀vs H Q E,b vs H Q E->vs.length=ps.length:=by intro _ _ _ _ z;first | (cases z;subst_vars;rfl) | repeat first | (let{rfl,_}:=z;rfl) | let{_,z}:=z):qu P w K mg base d (k+1) f i ps b:=F.okX S len λ_ _ _ _ H _ Q E hr z=>l (nd:=S.nd) H Q E hr z
inductive FI(K:zen)(gO:Bool)(x:V)(y:V)(H:Hp)(Q:VK):Prop
 | mk (d:_) (ds:_):DV K H x d->(DV K H y (.list ds))->d.canLay0=true->PyData.canLayAll0 ds=true->(d.depth<=40)->(Q (.bl (if gO then !(ds.any λz=>PyData.eqv z d) else ds.any λz=>PyData.eqv z d)) H)->FI K gO x y H Q
def O6(K:zen)(gO:Bool):R2:=λx y H Q=>FI K gO x y H Q
def K3{X:Cx}(hu:X.A.units+64 < cLine):Z8 X (compareOp .NotIn) (O6 X.K true):=by
 intro _ s _ H x y v u Q I a b h;let{d,i,j,l,m,o,_,q}:=h;let{as,p}:=j.reads I a;let{bs,a}:=l.reads I b;calc SeqAt.notIn_list_reads a p o m ?_ ({.bl _,H,I,s0,q});let:=zdk (PyData.depthAll i) d.depth;omega
def qA.thaw(v:qA X l p d C)(B:d a=tH (.dK D))(I:qA X i j H s)(e:H a=tH (.frz o (.dK kvs))):qA X i j (upd H a (.dK kvs)) s:=by
 let j:∀b,H b=r4->b≠a:=λb q z=>by rw[z,e]at q;cases q
 refine{I.ok,I.os,I.bare,{I.base.keep,I.base.slot,λb d q n i=>?_,I.base.there,λb l q=>?_,λb d u q=>?_,λb C q=>?_},I.loc,I.cell,?_,λx c q=>?_,λD J=>?_,λb u q=>?_,I.len}
 ·let:=I.base.free b d q n i;rwa [qf (j b this)]
 ·let:=I.base.tups b l q;rwa [qf (λz=>by rw[z,e]at this;cases this)]
 ·let i:=I.base.frzs b d u q;let p:=v.base.frzs b d u q;rwa [qf (λz=>by rw[z,B]at p;cases p)]
 ·let{m,i}:=I.base.tbls b C q;exact{m,by rwa [qf (λz=>by rw[z,e]at i;cases i)]}
 ·rw[qf (j _ I.free)];exact I.free
 ·rcases I.freeC x c q with v | ⟨B,C,v⟩
  ·exact .inl (by rwa [qf (j _ v)])
  ·exact .inr ({B,C,by rwa [qf (λz=>by rw[z,e]at v;cases v)]})
 ·let{i,p,v}:=I.pin D J;exact{i,by rwa [qf (j _ p)],v}
 ·let own:∀c y,H c=tH (.own y)->upd H a (.dK kvs) c=tH (.own y):=λc y z=>by rwa [qf (λw=>by rw[w,e]at z;cases z)]
  let tup:∀c l,H c=tH (.tup l)->upd H a (.dK kvs) c=tH (.tup l):=λc y z=>by rwa [qf (λw=>by rw[w,e]at z;cases z)]
  by_cases i:b=a
  ·subst i;rw[qa]at q;cases q;let{_,ok}:=(show qL X.prog X.w H s.heap b (.frz o (.dK kvs)) from I.hok b _ e);exact ok.stay (λc w _ z=>z) (λc z=>own c _ z) tup λc d z=>by rwa [qf (λw=>by rw[w,e]at z;cases z)]
  ·rw[qf i]at q;exact(I.hok b u q).stay (λc w _ z=>z) (λc z=>own c _ z) tup λc d z=>by rwa [qf (λw=>by rw[w,e]at z;cases z)]
def QY.thaw(D:QY)(a:m9)(o:Obj)(kvs:List (qJ×V)):QY:={nx:=λb H=>H a=tH (.frz o (.dK kvs))/\D.nx b (upd H a (.dK kvs)),rt:=λv H=>H a=tH (.frz o (.dK kvs))/\D.rt v (upd H a (.dK kvs)),bk:=λb H=>H a=tH (.frz o (.dK kvs))/\D.bk b (upd H a (.dK kvs)),ct:=λb H=>H a=tH (.frz o (.dK kvs))/\D.ct b (upd H a (.dK kvs))}
inductive NE(ts:TS)(D:QY)(σ:St)(H:Hp):Prop
 | mk (a:_) (kvs:_):H a=tH (.dK kvs)->(∀o,ts (D.thaw a o kvs) σ (upd H a (.frz o (.dK kvs))))->NE ts D σ H
def OU(ts:TS):TS:=λD a H=>NE ts D a H
def D0{X:Cx}{st:o0}{ts:TS}(h:JS X st ts):JS X st (OU ts):=.of (by
 intro o s p H D I x;let{a,kvs,l,q}:=x;let{y,B}:=I.freeze l;calc wpAny_mono (h.to o s p _ _ B (q y)) (λf J z=>?_) (λ_ _ z=>z);cases f with
 | next=>let{b,m,d,i,j}:=z;calc{b,_,I.thaw l d i,j}
 | brk=>let{b,m,d,i,j}:=z;calc{b,_,I.thaw l d i,j}
 | cont=>let{b,m,d,i,j}:=z;calc{b,_,I.thaw l d i,j}
 | ret u=>let{v,b,m,d,C,i,j}:=z;calc{v,b,_,I.thaw l d i,C,j})
def FC(ok:Z3 P w H h)(e:Rd H a (.dK kvs)):(a==sysModules)=false/\∃vs,KV kvs vs/\h.DictOf (jN P w) a vs:=by
 let{_,hd,vs,f9,d}:=e.ok ok;exact{hd,vs,f9,d}
end L2
namespace HT
open PySem PySem.Spec
open PyProof.Rows hiding K lo
end HT
namespace L2
open PySem PySem.Spec
open PyProof.Rows hiding K lo
def xX{s:n0}{Q:Unit->n0->Prop}{fr:Option m9}(i:s.heap.get? e=tH {cls:=cl,dict:=d,data:=.fields vs})(j:vs[1]?=tH (.ref T))(st:Rg T l s.heap)(k:∀a,wg fs [T] s.heap a->Rg T (fr.elim .none λf=>rawInt f) a->Q () {s with heap:=a}):wpAny M A (setFlight (.ref e) fr) Q F s:=by
 let{_,a,l}:=st;let lt:=(zai.mp l).1;unfold setFlight;calc zep (wpAny_field i rfl j ?_);rw[if_pos (show (Value.ref T != Value.none)=true from by simp)];refine wpAny_setField a rfl lt (k _ ({λb i _ n q=>?_,λb i _ n q=>{i.slots,?_}}) ({_,zay _ a rfl,by simp [lt]}))
 all_goals
  rwa [zah _ _ λz=>n (by simp [z])]
def Ei{Q:Unit->n0->Prop}(I:qA X m o H s)(d:X.stack=X.env::X.outer)(p:X.env.frame=tH X.env.locals)(i:H a=tH (Z1 a C j))(k:∀T l,H T=r4->T≠a->qA X m o (upd (upd H a (QR a C j (.ref T))) T (Vs T (rawInt X.env.locals))) {s with heap:=l}->Q () {s with heap:=l}):wpAny M X.A (noteFrame (.ref a) X.env) Q F s:=by
 obtain⟨⟨_,m,l⟩,_,_⟩:=(show qL X.prog X.w H s.heap a (QR a C j .none) from I.hok a _ i);let fr:=I.ok.frames;let j:=I.stack;rw[d]at fr j;calc yc fr j p m l λu T m o j p=>?_;rw[<-d]at o;let lt:=(zai.mp l).1;let d:T≠a:=λz=>by
  let{_,q,_}:=p;rw[z,j]at q;cases q
 let l:=I.hok.fresh m;refine k T u l d (I.flown o ⟨λb d=>by cases tQ.mp d;exact{_,i},λb o d q=>by
   rwa [qf (qo q l),qf λz=>d (by simp [z])],λb d q=>by
   rwa [qf (tX (tJ d m)),qf λz=>by rw[z,i]at q;cases q]⟩ (λb d=>by cases tQ.mp d;calc{_,j}) λb o q d=>?_)
 by_cases i:b=T
 ·subst i;rw[qa]at q;cases q;exact zU p
 ·rw[qf i]at q;by_cases i:b=a
  ·subst i;rw[qa]at q;cases q;exact zK ({_,j,by simp [lt]})
  ·rw[qf i]at q;rcases d with d | d
   ·rw[q]at d;cases d
   ·calc absurd (tQ.mp d) i
def Lx{Q:Unit->n0->Prop}(I:qA X v x H s)(d:X.stack=X.env::X.outer)(y:X.env.frame=tH X.env.locals)(j:H a=tH (QR a C m (.ref T)))(l:H T=tH (Vs T .none))(k:∀i p,H i=r4->i≠a->qA X v x (upd (upd (upd H a (QR a C m (.ref i))) T (.ext λh=>∃o,h.get? T=tH o)) i (Vs i (rawInt X.env.locals))) {s with heap:=p}->Q () {s with heap:=p}):wpAny M X.A (noteFrame (.ref a) X.env) Q F s:=by
 obtain⟨⟨_,p,v⟩,_,_⟩:=(show qL X.prog X.w H s.heap a (QR a C m (.ref T)) from I.hok a _ j);let{m,_,_}:=(show qL X.prog X.w H s.heap T (Vs T .none) from I.hok T _ l);let B:T≠a:=λz=>by
  let{J,q,_}:=m;rw[z,p]at q;cases q
 let fr:=I.ok.frames;let x:=I.stack;rw[d]at fr x;calc UT fr x y p v m B λx i y B L m D=>?_;rw[<-d]at B;let lt:=(zai.mp v).1;let d:i≠a:=λz=>by
  let{J,q,_}:=D;rw[z,m]at q;cases q
 let v:=I.hok.fresh y;let{_,p}:=L;refine k i x v d (I.flown B ⟨λb d=>by
   simp only[tO,zaA,or_false]at d;rcases d with rfl | rfl
   ·exact{_,j}
   ·exact{_,l},λb o d q=>by
   simp only[tO,zaA,or_false,not_or]at d;rwa [qf (qo q v),qf d.2,qf d.1],λb d q=>by
   rwa [qf (tX (tJ d y)),qf (λz=>by rw[z,l]at q;cases q),qf (λz=>by rw[z,j]at q;cases q)]⟩ (λb d=>by
   simp only[tO,zaA,or_false]at d;rcases d with rfl | rfl
   ·exact{_,m}
   ·calc{_,p}) λb o q d=>?_)
 by_cases j:b=i
 ·subst j;rw[qa]at q;cases q;exact zU D
 ·rw[qf j]at q;by_cases i:b=T
  ·subst i;rw[qa]at q;cases q;exact{{_,p},{_,p},λx _ ⟨u,z⟩ k=>{u,k u z}}
  ·rw[qf i]at q;by_cases j:b=a
   ·subst j;rw[qa]at q;cases q;exact zK ({_,m,by simp [lt]})
   ·rw[qf j]at q;rcases d with d | d
    ·rw[q]at d;cases d
    ·simp only[tO,zaA,or_false]at d;calc(d.elim j i).elim
def yA{Q:Unit->n0->Prop}(I:qA X l m H s)(b:X.env.frame=tH X.env.locals)(d:H a=tH (QR a C i (.ref T)))(j:H T=tH (Vs T (rawInt X.env.locals)))(k:Q () s):wpAny M X.A (noteFrame (.ref a) X.env) Q F s:=by
 obtain⟨⟨_,l,m⟩,_,_⟩:=(show qL X.prog X.w H s.heap a (QR a C i (.ref T)) from I.hok a _ d);let{d,_,_}:=(show qL X.prog X.w H s.heap T (Vs T (rawInt X.env.locals)) from I.hok T _ j);calc Gb b l m d k
def vi{Q:Unit->n0->Prop}{fr:Option m9}(I:qA X j l H s)(m:H a=tH (QR a C o (.ref T)))(i:H T=tH (Vs T p))(k:∀d,qA X j l (upd H T (Vs T (fr.elim .none λf=>rawInt f))) {s with heap:=d}->Q () {s with heap:=d}):wpAny M X.A (setFlight (.ref a) fr) Q F s:=by
 obtain⟨⟨fs,d,j⟩,_,_⟩:=(show qL X.prog X.w H s.heap a (QR a C o (.ref T)) from I.hok a _ m);let{l,_,_}:=(show qL X.prog X.w H s.heap T (Vs T p) from I.hok T _ i);calc xX (fs:=Xz X.stack) d j l λd j st=>?_;let{_,q,z}:=id st;calc k d (I.flown j ({λb d=>by cases tQ.mp d;exact{_,i},λb j d q=>by rwa [qf (λz=>d (by simp [z]))],λb d q=>by rwa [qf (λz=>by rw[z,i]at q;cases q)]}) (λb d=>by cases tQ.mp d;calc{_,q}) λb j q d=>?_);by_cases i:b=T
 ·subst i;rw[qa]at q;cases q;exact zU st
 ·rw[qf i]at q;rcases d with d | d
  ·rw[q]at d;cases d
  ·calc absurd (tQ.mp d) i
def Kk(X:Cx)(p:List (m9×Obj))(E:XK):n9->n0->Prop:=λe s=>
 (∃(a d i:m9) (H:Hp) (m:St),e=.ref a/\qA X p m H s/\H a=tH (Z1 a d i)/\E (.ref d) (tH i) H)\/
 ∃(a d i j:m9) (o:n9) (l H:Hp) (m:St),e=.ref a/\qA X p m H s/\(o=.none\/o=rawInt X.env.locals)/\H a=tH (QR a d i (.ref j))/\H j=tH (Vs j o)/\l j=r4/\l a=tH (Z1 a d i)/\(∀b j,b≠a->l b=tH j->H b=tH j)/\E (.ref d) (tH i) l
def Gu{X:Cx}(U:X.stack=X.env::X.outer)(L:X.env.frame=tH X.env.locals):PassesOwn (model X.prog X.w) X.A X.env (Kk X B E):=by
 intro e s h;let O:∀{a l m d:m9} {Q:n9} {H o:Hp} {C:St} {y:n0},qA X B C H y->H a=tH (QR a l m (.ref d))->H d=tH (Vs d Q)->d≠a->o d=r4->o a=tH (Z1 a l m)->(∀b j,b≠a->o b=tH j->H b=tH j)->E (.ref l) (tH m) o->cameBackBy (model X.prog X.w) X.A X.env (Kk X B E) (.ref a) y:=λ{a l m d Q H o C y} I i v p u D J x=>by
  obtain⟨⟨fs,B,T⟩,_,_⟩:=(show qL X.prog X.w H y.heap a (QR a l m (.ref d)) from I.hok a _ i);unfold cameBackBy;calc zep (wpAny_field B rfl T ?_);rw[if_neg (show ¬((Value.ref d==Value.none)=true) by simp)]
  first
   | calc vi I i v λT y=>?_
   | refine zep (zeq (vi I i v λT y=>?_))
  calc .inr ({a,l,m,d,_,o,_,C,s0,y,.inr (by rw[L];rfl),by rwa [qf (Ne.symm p)],qa,u,D,λb j B q=>?_,x});rw[qf (λz=>by rw[z,u]at q;cases q)];exact J b j B q
 rcases h with ⟨a,l,m,H,C,rfl,I,i,x⟩ | ⟨a,l,m,d,Q,o,H,C,rfl,I,Y,i,v,u,D,J,x⟩
 ·exact Ei I U L i λd T l p y=>O y (by rw[qf (Ne.symm p)];calc qa) qa p l i (λb j B q=>by rwa [qf (qo q l),qf B]) x
 ·let p:d≠a:=λz=>by rw[z,D]at u;cases u
  rcases Y with rfl | rfl
  ·refine Lx I U L i v λC T l m y=>O y (by rw[qf (Ne.symm m),qf (Ne.symm p)];calc qa) qa m ?_ D (λb j B q=>?_) x
   ·cases q:o C with
    | none=>rfl
    | some j=>rw[J C j m q]at l;cases l
   ·let n1:b≠d:=λz=>by rw[z,u]at q;cases q
    let d:=J b j B q;rwa [qf (qo d l),qf n1,qf B]
  ·calc yA I L i v (O I i v p u D J x)
def Gv(h:Kk (Ji (Z6 P w) P w K mg base N d scope f i A outer s₀ H₀ E) v E e s):(Ji (Z6 P w) P w K mg base N d scope f i A outer s₀ H₀ E).xe e s:=by
 rcases h with ⟨a,j,l,H,o,rfl,I,d,m⟩ | ⟨a,j,l,x,D,y,H,o,rfl,I,C,d,p,i,u,B,m⟩
 ·exact zC v o H s a j l I d m
 ·rcases C with rfl | rfl
  ·exact J8 v o H s _ s I ({a,j,l,x,y,H,s0,s0,I.bare,Un.refl,I.hok,d,p,i,u,B,m})
  ·show wpAny _ _ (leaving _ _) _ _ s;unfold leaving;calc zep (yA I rfl d p (vi (fr:=r4) I d p λ_ o=>{a,j,l,x,y,_,s0,o.os,o.bare,o.base,o.hok,by rw[qf (Ne.symm (λz=>by rw[z,u]at i;cases i))];calc d,qa,i,u,λb d j q=>?_,m}));rw[qf (λz=>by rw[z,i]at q;cases q)];calc B b d j q
def M9{P:o3}{w:o4}{K:zen}{mg:Str->Option n9}{base:o1}{N:List Str}{l:Str}{scope:Scope}{f:m9}{m:n9}{A:o2}{outer:List Env}{s₀:n0}{H₀:Hp}{E:XK}{st:o0}{t:TS} (h:∀(pn:List (m9×Obj)) (W:n9->n0->Prop),PassesOwn (model P w) (Ji (Z6 P w) P w K mg base N l scope f m A outer s₀ H₀ E).A (Ji (Z6 P w) P w K mg base N l scope f m A outer s₀ H₀ E).env W->
   QT (Z6 P w) ((Ji (Z6 P w) P w K mg base N l scope f m A outer s₀ H₀ E).tried pn W) E->vm ((Ji (Z6 P w) P w K mg base N l scope f m A outer s₀ H₀ E).tried pn W) E->JS ((Ji (Z6 P w) P w K mg base N l scope f m A outer s₀ H₀ E).tried pn W) st t):
  PS (Ji (Z6 P w) P w K mg base N l scope f m A outer s₀ H₀ E) st t:=by
 refine λL s O H D I Q=>wpAny_mono ((h _ (Kk _ L E) (Gu rfl rfl) ?_ ?_).to [] s O H D (I.tried _) Q) (λT o q=>?_) (λe o z=>Gv z)
 ·intro U d J o e s' p Y;let{a,x,y,aa,Hx,H2,rfl,os,bare,un,ab,B,ht,ac,ae,af,C}:=Y;exact .inr ({a,x,y,aa,.none,Hx,H2,d,s0,I.untried (p.call' os un ab bare λb z=>absurd z {}),.inl rfl,B,ht,ac,ae,af,C})
 ·exact λU d J o a x y p B C=>.inl ({a,x,y,J,d,s0,I.untried p,B,C})
 ·cases T with
  | next=>let{d,i,j,q}:=q;calc{d,i,I.untried j,q}
  | brk=>let{d,i,j,q}:=q;calc{d,i,I.untried j,q}
  | cont=>let{d,i,j,q}:=q;calc{d,i,I.untried j,q}
  | ret u=>let{v,d,i,j,r,q}:=q;calc{v,d,i,I.untried j,r,q}
def X5{P:o3}{w:o4}{K:zen}{mg:Str->Option n9}{base:o1}{N:List Str}{a:Str}{scope:Scope}{f:m9}{b:n9}{A:o2}{outer:List Env}{s₀:n0}{H₀:Hp}{E:XK}{st:o0}{t:TS} (h:∀(pn:List (m9×Obj)) (W:n9->n0->Prop),PassesOwn (model P w) (Ji (Z6 P w) P w K mg base N a scope f b A outer s₀ H₀ E).A (Ji (Z6 P w) P w K mg base N a scope f b A outer s₀ H₀ E).env W->
  QT (Z6 P w) ((Ji (Z6 P w) P w K mg base N a scope f b A outer s₀ H₀ E).tried pn W) E->vm ((Ji (Z6 P w) P w K mg base N a scope f b A outer s₀ H₀ E).tried pn W) E->JS ((Ji (Z6 P w) P w K mg base N a scope f b A outer s₀ H₀ E).tried pn W) st t):
 JS (Ji (Z6 P w) P w K mg base N a scope f b A outer s₀ H₀ E) st t:=.of (M9 h)
def BV{zs:List Str}:∀{d:List n9},qN (zs.map V.str) d->StrsAre d zs:=by
 induction zs with
 | nil=>
  intro d h;cases h;calc .nil
 | cons z zs i=>
  intro d h;cases h with
  | cons a b=>
   let{t,rfl}:=a;calc .cons z t (i b)
def BE(h:StrsAre a zs):qN (zs.map V.str) a:=by
 induction h with
 | nil=>calc .nil
 | cons x t h a=>exact .cons ({t,s0}) a
open PySem.W
def qu.toX(F:qu P w K mg base jh k f i ps j):qu P w K mg base l k f i ps j:=
 ⟨F.len,λA i s H args j l Q E a b c d h=>codeAny_mono (F.run A i s H args j l Q E a b c d h) λz _ q=>by
  cases z with
  | error y=>calc(show False from q).elim
  | ok r=>
   cases r with
   | ret u=>calc q
   | _=>calc q⟩
def qu.either(F:qu P w K mg base i k f j ps l)(G:qu P w K mg base i k f j ps m):qu P w K mg base i k f j ps (λvs H Q E=>l vs H Q E\/m vs H Q E):=
 {λvs H Q E h=>h.elim (F.len vs H Q E) (G.len vs H Q E),λA i s H args j vs Q E a b c d h=>h.elim (F.run A i s H args j vs Q E a b c d) (G.run A i s H args j vs Q E a b c d)}
inductive N8(K:zen)(x:V)(y:V)(H:Hp)(Q:VK):Prop
 | mk (a b:m9) (kvs iu:List (qJ×V)):x=.ref a->y=.ref b->(Rd H a (.dK kvs))->(Rd H b (.dK iu))->kvs.length=iu.length->((∀p∈kvs,∃u d,ja iu p.1=tH u/\DV K H p.2 d/\DV K H u d/\PySem.SeqAt.shaped d=true))->(Q (.bl true) H)->N8 K x y H Q
def FM(K:zen):R2:=λx y H Q=>N8 K x y H Q
def Dc{X:Cx}(hu:X.A.units+70 < cLine):Z8 X (compareOp .Eq) (FM X.K):=by
 intro _ s _ H x y v u Q I i j h;let{a,b,kvs,_,rfl,rfl,o,z,len,all,q}:=h;cases i;cases j;let{C,D,l,J}:=FC I.hok o;let{L,o,p,O}:=FC I.hok z;let T:∀(j:List (qJ×V)) (m:List (qJ×n9)),KV j m->(∀i∈j,i∈kvs)->PySem.W.KeqHits X.A.in1 s o m true:=by
  intro j m r;induction r with
  | nil=>intro _;calc .nil
  | @cons i B j m U z Y=>
   intro z;let{_,d,e1,d1,d2,j}:=all i (z i (tK ..));let f9:=p.val i.1;rw[e1]at f9;let{k,y}:=B;let{ek,rv}:=U;cases B:valueAt o i.1 with
   | none=>rw[B]at f9;calc f9.elim
   | some o=>
    rw[B]at f9;let{as,B}:=d1.reads I rv;let{bs,U}:=d2.reads I f9;let o:=PySem.W.keq_at B U j j (by show X.A.units+1+64 < cLine;omega);rw[Va j]at o;let:=PySem.W.KeqHits.hit (k:=k) (by have j:i.1=k:=ek;rwa [<-j]) o (Y λi B=>z i (tI _ B));exact this
 calc PySem.W.keq_eq C L J O {} (λ_=>T kvs D l λ_ h=>h) ({.bl _,H,I,?_,q});show Value.bool _=Value.bool _;rw[<-(Paired.length l),<-(Paired.length p),len];simp
def RawD(h:o1)(d:m9)(b:Array DictEntry)(i:Nat):Prop:=∃a,h.get? d=tH a/\a.ExactDict/\a.data=.dict b i
def RawD.at_{b:o1}(x:RawD h d i j)(k:∀o,h.get? d=tH o->b.get? d=tH o):RawD b d i j:=let ⟨o,a,r⟩:=x;({o,k o a,r})
def RawD.ty{s:n0}(x:RawD s.heap d j l):s.TypeIs (.ref d) "dict":=let ⟨i,a,b,_⟩:=x;({i,a,b.1})
def raw_iter{s:n0}{Q:n9->n0->Prop}(hd:(d==sysModules)=false)(x:RawD s.heap d a b)(q:Q (.ref s.heap.objs.size) {s with heap:=s.heap.push {cls:=.type "dict_keyiterator",data:=.fields #[.ref d,.int 0 0,.int a.size 0,.int b 0]}}):wpAny (model prog w) A (pyIter (.ref d)) Q E s:=by
 let{_,a,_,b}:=id x;calc wpAny_pyIter_slot x.ty F.slot_dict_iter (wpAny_call_entry F.slot_dict_iter x.ty F.entry_dict_iter ?_ (F.args_dict_iter_1 _));unfold Builtin.«dict.__iter__» Builtin.Dict.dictSlotNone;calc zep (zep (wpAny_notOrdered_dict x.ty (show wpAny _ _ (pure (Value.ref d)) _ _ s from zeq ?_)));show wpAny _ _ (Builtin.Dict.showsAll d >>= _) _ _ s;unfold Builtin.Dict.showsAll;rw[hd,if_neg tN];calc zep (zeq (zep (wpAny_dictEntries a b (zep (wpAny_dictEpoch a b (zep (wpAny_newObj_type (zeq ({_,s0,"dict_keyiterator",_,{_,tL _ rfl,s0},F.slot_dict_keyiterator_next.lookup,?_})))))))));simpa [rawInt] using q
def CV{s:n0}{a:Array DictEntry}{Q:Option n9->n0->Prop}(t:s.heap.IsKeyIter it d i a.size j)(x:RawD s.heap d a j)(p:i < a.size)(q:∀b,b.IsKeyIter it d (i+1) a.size j->Heap.SameBut it s.heap b->Q (tH a[i].key) {s with heap:=b}):wpAny (model prog w) A (pyNext (.ref it)) Q E s:=by
 let{_,l,u,b}:=id t;let{_,m,_,o}:=id x;unfold pyNext;calc zep (wpAny_attempt (wpAny_callSpecial?_slot t.typeIs F.slot_dict_keyiterator_next (wpAny_call_entry F.slot_dict_keyiterator_next t.typeIs F.entry_dict_keyiterator_next (zep (zeq (zep (zep ?_)))) (F.args_dict_keyiterator_next_1 _))));calc zep (wpAny_typeNameOfWhole_keyiter t.typeIs (zeq (zep (wpAny_fieldsOf l b ?_))));simp only[show Builtin.Dict_items.ownsTuple "dict_keyiterator"=false by decide,zaP,if_false];show wpAny _ _ (if (Value.ref d==Value.none)=true then _ else _) _ _ s;rw[if_neg (show ¬((Value.ref d==.none)=true) from nofun)];calc zep (zeq (zep (wpAny_dictEntries m o ?_)));rw[if_neg {}];calc zep (zeq (zep (wpAny_dictEpoch m o ?_)));rw[if_neg {}];calc zeq ?_;simp only[show ¬((i:Int) < 0) from by omega,if_false,zaE,zbc p];calc zep (zep (wpAny_typeNameOfWhole_keyiter t.typeIs (zeq (zep (wpAny_isOneOf_keyiter t.typeIs ?_)))));show wpAny _ _ (setField (.ref it) 1 (rawInt ((i:Int)+1)) >>= _) _ _ s;calc zep (wpAny_setField l b {} ?_);let m:(s.heap.update it (Obj.mapFields (·.setIfInBounds 1 (rawInt ((i:Int)+1))))).IsKeyIter it d (i+1) a.size j:=
  {_,zay _ l (Obj.isFreed_of_fields (Obj.data_mapFields b _)),(Obj.cls_mapFields ..).trans u,by rw[Obj.data_mapFields b];simp [rawInt]}
 calc zep (wpAny_holding (zep (wpAny_isOneOf_keyiter m.typeIs ((show wpAny _ _ (pure a[i].key) _ _ _ from zeq (zeq ({_,s0,zeq (q _ m (zbL.update ..))})))))))
def NW{A:o2}{s:n0}{a:Array DictEntry}{Q:Option n9->n0->Prop}(m:A.handled=r4)(t:s.heap.IsKeyIter it d a.size a.size i)(x:RawD s.heap d a i)(q:∀b,Heap.ExtBut it s.heap b->Q r4 {s with heap:=b}):wpAny (model prog w) A (pyNext (.ref it)) Q E s:=by
 let{_,b,_,i}:=id t;let{_,j,_,l}:=id x;unfold pyNext;calc zep (wpAny_attempt (wpAny_callSpecial?_slot t.typeIs F.slot_dict_keyiterator_next (wpAny_call_entry F.slot_dict_keyiterator_next t.typeIs F.entry_dict_keyiterator_next (zep (zeq (zep (zep ?_)))) (F.args_dict_keyiterator_next_1 _))));calc zep (wpAny_typeNameOfWhole_keyiter t.typeIs (zeq (zep (wpAny_fieldsOf b i ?_))));simp only[show Builtin.Dict_items.ownsTuple "dict_keyiterator"=false by decide,zaP,if_false];show wpAny _ _ (if (Value.ref d==Value.none)=true then _ else _) _ _ s;rw[if_neg (show ¬((Value.ref d==.none)=true) from nofun)];calc zep (zeq (zep (wpAny_dictEntries j l ?_)));rw[if_neg {}];calc zep (zeq (zep (wpAny_dictEpoch j l ?_)));rw[if_neg {}];calc zeq ?_;simp only[show ¬((a.size:Int) < 0) from by omega,if_false,zaE,zcw (ti a.size)];calc zep (zep (wpAny_typeNameOfWhole_keyiter t.typeIs (zeq ?_)));show wpAny _ _ (setField (.ref it) 0 .none >>= _) _ _ s;calc zep (wpAny_setField b i {} (show wpAny _ _ (newExc (.type "StopIteration") [] >>= _) _ _ _ from zep ?_));simp only[newExc,newTuple];calc zep (wpAny_newObj_type (zep (wpAny_of_eq (by first | rfl | (simp only[firstArgMember];rfl)) (wpAny_newObj_type ?_ (by size_fits)))) (by size_fits));simp only[raiseNew];calc zep (wpAny_handled ?_);rw[show A.in1.handled=r4 from m];calc zep (zeq (wpAny_throw (zep ?_)));calc wpAny_isInstance (T:="StopIteration") (b:=true) ({_,tL _ rfl,s0}) isSubtype_stop (zeq (q _ (((zbL.update ..).extBut.push _).push _)))
def KW(hd:(d==sysModules)=false):MeetsIn prog w (Builtin.«dict.items» ({[.ref d],[]})) (λ_ R s=>s.TypeIs (.ref d) "dict"/\R (.ok (.ret (.ref s.heap.objs.size))) {s with heap:=s.heap.push {cls:=.type "dict_items",data:=.fields #[.ref d]}}):=
 .of_wp λA R s ⟨ty,h⟩=>by
  unfold Builtin.«dict.items» Builtin.Dict.noArgs;calc zep (zep (wpAny_notOrdered_dict ty (show wpAny _ _ (pure d) _ _ s from zeq ?_)));show wpAny _ _ (Builtin.Dict.showsAll d >>= _) _ _ s;unfold Builtin.Dict.showsAll;rw[hd,if_neg tN];calc zep (zeq (zep (wpAny_newObj_type (zeq ({_,s0,h})))))
def UL{s:n0}{Q:n9->n0->Prop}(a:s.heap.IsItemsView v d)(x:RawD s.heap d b i)(q:Q (.ref s.heap.objs.size) {s with heap:=s.heap.push {cls:=.type "dict_itemiterator",data:=.fields #[.none,.bool false,.ref d,.int 0 0,.int b.size 0,.int i 0,.none,.none]}}):wpAny (model prog w) A (pyIter (.ref v)) Q E s:=by
 let{_,v1,_,j}:=id a;let{_,b,_,i}:=id x;calc wpAny_pyIter_slot a.typeIs F.slot_dict_items_iter (wpAny_call_entry F.slot_dict_items_iter a.typeIs F.entry_dict_items_iter ?_ (F.args_dict_items_iter_1 _));unfold Builtin.«dict_items.__iter__» Builtin.Dict_items.dictOf;calc zep (zeq (zep (zep (wpAny_field v1 j rfl (zeq (zep ?_))))));unfold Builtin.Dict_items.newIterator;calc zep (wpAny_dictEntries b i (zep (wpAny_dictEpoch b i ?_)));simp only[show Builtin.Dict_items.ownsTuple "dict_itemiterator"=true by decide,if_true];calc wpAny_newObj_type (zeq ({_,s0,"dict_itemiterator",_,{_,tL _ rfl,s0},F.slot_dict_itemiterator_next.lookup,?_})) (by simp only[sizeOk,Builtin.Dict_items.ownedTupleFields,t4,tz,t7,zdz,sizeLine_eq];omega);simpa [rawInt,Builtin.Dict_items.ownedTupleFields] using q
def NX{s:n0}{a:Array DictEntry}{Q:Option n9->n0->Prop}(t:IsItemIter s.heap it d i a.size m ok B)(x:RawD s.heap d a m)(v:i < a.size) (q:∀j,IsItemIterOut j it d (i+1) a.size m a[i].key a[i].val s.heap.objs.size->j.get? s.heap.objs.size=tH {cls:=.type "tuple",data:=.seq #[a[i].key,a[i].val]}->(∀b o,b≠it->s.heap.get? b=tH o->j.get? b=tH o)->
   Q (tH (.ref s.heap.objs.size)) {s with heap:=j}):wpAny (model prog w) A (pyNext (.ref it)) Q E s:=by
 let{p,g,u,tk,os}:=s;let{_,j,_,l}:=id x;let ty:Shared.TypeIs ⟨p,g,u,tk,os⟩ (.ref it) "dict_itemiterator":={_,t,s0};unfold pyNext;calc zep (wpAny_attempt (wpAny_callSpecial?_slot ty F.slot_dict_itemiterator_next (wpAny_call_entry F.slot_dict_itemiterator_next ty F.entry_dict_itemiterator_next (zep (zeq (zep (zep ?_)))) (F.args_dict_itemiterator_next_1 _))));calc zep (wpAny_typeNameOfWhole_itemiter ty (zeq (zep (wpAny_fieldsOf t rfl ?_))));simp only[show Builtin.Dict_items.ownsTuple "dict_itemiterator"=true by decide,if_true];show wpAny _ _ (if (Value.ref d==Value.none)=true then _ else _) _ _ _;rw[if_neg (show ¬((Value.ref d==.none)=true) from nofun)];calc zep (zeq (zep (wpAny_dictEntries j l ?_)));rw[if_neg {}];calc zep (zeq (zep (wpAny_dictEpoch j l ?_)));rw[if_neg {}];calc zeq ?_;simp only[show ¬((i:Int) < 0) from by omega,if_false,zaE,zbc v];calc zep (zep (wpAny_typeNameOfWhole_itemiter ty (zeq (zep (wpAny_isOneOf_itemiter ty ?_)))));show wpAny _ _ (setField (.ref it) 3 (rawInt ((i:Int)+1)) >>= _) _ _ ({p,g,u,tk,os});refine zep (wpAny_setField_rec t {} λj v y=>?_)
 replace y:Heap.SameBut it p j:=y
 replace v:IsItemIter j it d (i+1) a.size m ok B:=by
  unfold IsItemIter;rw[show ((i+1:Nat):Int)=(i:Int)+1 by omega];simpa [rawInt] using v
 let C:Shared.TypeIs ⟨j,g,u,tk,os⟩ (.ref it) "dict_itemiterator":={_,v,s0};calc zep (wpAny_holding (zep (wpAny_isOneOf_itemiter C (zep (wpAny_isOneOf_itemiter C ?_)))));show wpAny _ _ (Builtin.Dict_items.pairFromOwner (.ref it) 6 a[i].key a[i].val) _ _ ({j,g,u,tk,os});unfold Builtin.Dict_items.pairFromOwner;calc zep (wpAny_newTuple ?_);let z:IsItemIter (j.push {cls:=.type "tuple",data:=.seq #[a[i].key,a[i].val]}) it d (i+1) a.size m ok B:=tm _ v;let D:=y.1;let J:(j.push {cls:=.type "tuple",data:=.seq #[a[i].key,a[i].val]}).get? p.objs.size=tH {cls:=.type "tuple",data:=.seq #[a[i].key,a[i].val]}:=by rw[<-D];exact tL _ rfl
 let L:∀b o,b≠it->p.get? b=tH o->(j.push {cls:=.type "tuple",data:=.seq #[a[i].key,a[i].val]}).get? b=tH o:=λb o l e=>tm _ (y.extBut b o l e);rw[D];generalize j.push {cls:=.type "tuple",data:=.seq #[a[i].key,a[i].val]}=H at z J L;show wpAny _ _ (Builtin.Dict_items.ownedTupleIsFree (.ref it) >>= _) _ _ ({H,g,u,tk,os});clear y v C D j;unfold Builtin.Dict_items.ownedTupleIsFree;calc zep (zep (wpAny_field z rfl rfl (zeq ?_)));simp only[if_true];refine zep (wpAny_field z rfl rfl (zep (wpAny_field z rfl rfl (zep (wpAny_setField_rec z {} λj u v=>?_)))))
 replace v:Heap.SameBut it H j:=v
 replace u:IsItemIter j it d (i+1) a.size m a[i].key B:=u
 refine zep (wpAny_setField_rec u {} λu y z=>?_)
 replace z:Heap.SameBut it j u:=z
 replace y:IsItemIter u it d (i+1) a.size m a[i].key a[i].val:=y
 refine zep (wpAny_setField_rec y {} λy j B=>?_)
 replace B:Heap.SameBut it u y:=B
 replace j:IsItemIterOut y it d (i+1) a.size m a[i].key a[i].val p.objs.size:=j
 refine zep (wpAny_setField_rec j {} λj u C=>?_)
 replace C:Heap.SameBut it y j:=C
 replace u:IsItemIterOut j it d (i+1) a.size m a[i].key a[i].val p.objs.size:=u
 let all:∀b o,b≠it->H.get? b=tH o->j.get? b=tH o:=λb o l e=>C.extBut b o l (B.extBut b o l (z.extBut b o l (v.extBut b o l e)));calc zep (wpAny_letGo (zeq (zeq ({_,s0,zeq (q j u (all _ _ (zbA (tM t)) J) λb o l e=>all b o l (L b o l e))}))))
def UK{A:o2}{s:n0}{a:Array DictEntry}{Q:Option n9->n0->Prop}(j:A.handled=r4)(t:IsItemIter s.heap it d a.size a.size i ok l)(x:RawD s.heap d a i)(q:∀b,Heap.ExtBut it s.heap b->Q r4 {s with heap:=b}):wpAny (model prog w) A (pyNext (.ref it)) Q E s:=by
 let{_,b,_,i}:=id x;let ty:s.TypeIs (.ref it) "dict_itemiterator":={_,t,s0};unfold pyNext;calc zep (wpAny_attempt (wpAny_callSpecial?_slot ty F.slot_dict_itemiterator_next (wpAny_call_entry F.slot_dict_itemiterator_next ty F.entry_dict_itemiterator_next (zep (zeq (zep (zep ?_)))) (F.args_dict_itemiterator_next_1 _))));calc zep (wpAny_typeNameOfWhole_itemiter ty (zeq (zep (wpAny_fieldsOf t rfl ?_))));simp only[show Builtin.Dict_items.ownsTuple "dict_itemiterator"=true by decide,if_true];show wpAny _ _ (if (Value.ref d==Value.none)=true then _ else _) _ _ s;rw[if_neg (show ¬((Value.ref d==.none)=true) from nofun)];calc zep (zeq (zep (wpAny_dictEntries b i ?_)));rw[if_neg {}];calc zep (zeq (zep (wpAny_dictEpoch b i ?_)));rw[if_neg {}];calc zeq ?_;simp only[show ¬((a.size:Int) < 0) from by omega,if_false,zaE,zcw (ti a.size)];calc zep (zep (wpAny_typeNameOfWhole_itemiter ty (zeq ?_)));show wpAny _ _ (setField (.ref it) 2 .none >>= _) _ _ s;calc zep (wpAny_setField t rfl {} (show wpAny _ _ (newExc (.type "StopIteration") [] >>= _) _ _ _ from zep ?_));simp only[newExc,newTuple];calc zep (wpAny_newObj_type (zep (wpAny_of_eq (by first | rfl | (simp only[firstArgMember];rfl)) (wpAny_newObj_type ?_ (by size_fits)))) (by size_fits));simp only[raiseNew];calc zep (wpAny_handled ?_);rw[show A.in1.handled=r4 from j];calc zep (zeq (wpAny_throw (zep ?_)));exact wpAny_isInstance (T:="StopIteration") (b:=true) ({_,tL _ rfl,s0}) isSubtype_stop (zeq (q _ (((zbL.update ..).extBut.push _).push _)))
def Pr(H:Hp)(u:HO)(i:Nat)(x y:V):Prop:=match u with
 | .dK kvs=>∃z,kvs[i]?=tH (Sum.inr z,y)/\x=.str z
 | .dT kvs=>∃k b,kvs[i]?=tH (k,y)/\x=.ref b/\H b=tH (.tup (k.map kV))
 | _=>False
def Ln:HO->Nat
 | .dK kvs=>kvs.length
 | .dT kvs=>kvs.length
 | _=>0
def KS:HO->Prop
 | .dK kvs=>∃a:List Str,kvs.map (·.1)=a.map Sum.inr
 | .dT _=>True
 | _=>False
def zJ(ok:Z3 P w H h)(L:KS u)(e:H a=tH (.frz o u)):
  (a==sysModules)=false/\∃b,RawD h a b (Xm o)/\b.size=Ln u/\∀(i:Nat) (p:i < b.size),∃x y,Pr H u i x y/\qV x b[i].key/\qV y b[i].val:=by
 cases u with
 | dK kvs=>
  let{j,z,hd,_,f9,T,b,v,l,ex,gw,_,pr,_}:=(show qL P w H h a (.frz o (.dK kvs)) from ok a _ e);rw[j]at l;cases l;let{m,B}:=L;let C:Xm o=v:=by unfold Xm;rw[gw]
  let D:=pr.length;let J:=Paired.length f9;let d:kvs.length=m.length:=by simpa using congrArg zat B
  let sz:b.size=kvs.length:=by rw[J,<-D];simp
  calc{hd,b,{o,j,ex,C▸gw},sz,λi p=>?_};let d:i < kvs.length:={}
  let{q,g1,g2,g3}:=Jo f9 (tv d);let{U,Y}:=pr.get? (e:=b[i]) (by simp [p]) g1;let O:m[i]?=tH m[i]:=tv {};let Q:(kvs.map (·.1))[i]?=tH kvs[i].1:=by rw[tA,tv d];rfl
  rw[B,tA,O]at Q;calc{.str m[i],kvs[i].2,{m[i],?_,s0},uU f9 B O g1 U,Y▸g3};rw[tv d,<-((tH.inj Q).symm)]
 | dT kvs=>
  let{j,z,hd,_,f9,T,b,v,l,ex,gw,m,_}:=(show qL P w H h a (.frz o (.dT kvs)) from ok a _ e);rw[j]at l;cases l;let C:Xm o=v:=by unfold Xm;rw[gw]
  let J:=Paired.length f9;let D:=size_of_entries m;calc{hd,b,{o,j,ex,by rw[C];calc gw},by rw[D,<-J];rfl,λi p=>?_};let d:i < kvs.length:={}
  let{q,g1,g2,g3,_}:=Jo f9 (tv d);let b:=entry_at m i;rw[g1,zbc p]at b;let j:=tH.inj b;exists .ref q.2.1,kvs[i].2,{kvs[i].1,q.2.1,tv d,s0,g3},?_
  ·rw[j];rfl
  ·rwa [j]
 | _=>calc L.elim
def qA.freezeT(I:qA X d i H s)(e:H a=tH (.dT kvs)):∃o,qA X d i (upd H a (.frz o (.dT kvs))) s:=by
 let{z,hd,j,f9,o,l,m,d,r}:=(show qL X.prog X.w H s.heap a (.dT kvs) from I.hok a _ e);let i:Hh (H a):=e▸True.intro;calc{o,I.un (Un.write i (.inl rfl) (λb u _ q=>q) ({o,d})) (I.hok.write i (.inl rfl) (λb u _ q=>q) ({o,d}) ({d,z,hd,j,KT.keeps f9 λb _ i=>by rw[qf (λq=>by rw[q,e]at i;cases i)];calc i,o,l,m,d,r}))}
inductive RH(Q:VK)(x:V)(H1:Hp):Prop
 | mk (a:_) (kvs:_):x=.ref a->H1 a=tH (.dT kvs)->(∀o,Q x (upd H1 a (.frz o (.dT kvs))))->RH Q x H1
def Oa(te:TE):TE:=λa H Q=>te a H λx a=>RH Q x a
def D8(h:JE X e te):JE X e (Oa te):=.of (by
 calc λb s d H Q I i=>jy (h.to b s d H _ I i) λv _ ⟨x,_,b,d,a,kvs,ex,i,q⟩=>?_;let{j,l}:=b.freezeT i;calc{x,_,l,d,q j})
inductive NM(ts:TS)(D:QY)(σ:St)(H:Hp):Prop
 | mk (a:_) (kvs:_):H a=tH (.dT kvs)->(∀o,ts D σ (upd H a (.frz o (.dT kvs))))->NM ts D σ H
def OW(ts:TS):TS:=λD a H=>NM ts D a H
def D1{X:Cx}{st:o0}{ts:TS}(h:JS X st ts):JS X st (OW ts):=.of (by
 intro b s d H D I i;let{a,kvs,j,q}:=i;let{i,l}:=I.freezeT j;calc h.to b s d _ D l (q i))
def LY(a:m9)(o:Obj)(u:HO):It:={λi H=>H a=tH (.frz o u)/\i < Ln u,λi H x b=>b=H/\∃y,Pr H u i x y,λi H=>H a=tH (.frz o u)/\i=Ln u}
def Sn(a:m9)(o:Obj)(u:HO):It:={λi H=>H a=tH (.frz o u)/\i < Ln u,λi H v d=>∃b x y,H b=r4/\v=.ref b/\Pr H u i x y/\d=upd H b (.tup [x,y]),λi H=>H a=tH (.frz o u)/\i=Ln u}
def Kt(a it:m9)(o:Obj)(u:HO)(U:KS u):Vx P w K j (LY a o u) [it] it (λi h=>h.IsKeyIter it a i (Ln u) (Xm o)) where
 mem:=by simp
 obj:=λi h st b j=>by
  let e:b=it:=by simpa using j
  subst e;let{o,e,c,d}:=st;exact{o,e,λv z=>by rw[d]at z;cases z}
 keep:=λi h Y st k=>let ⟨o,e,r⟩:=st;({o,k it {} o e,r})
 item:=by
  intro X p q B hc i ab s σ H E I m st C;subst p q B;let{D,f1,f2,J,L,O}:=m it {};let{Q,l}:=C;let{_,es,T,sz,all}:=zJ I.hok U Q;rw[<-sz]at st l;calc CV st T l λY aa sb=>?_;let{x,y,pr,rx,_}:=all i l;let{_,e2,c2,d2}:=id aa;exact{_,s0,Uc e2 c2 d2 {} ({x,H,I.turned (λb o j e=>(sb.2 b j).trans e) D f1 J L O,rx,{s0,y,pr},sz▸aa,λb j=>(m b j).1})}
 done:=by
  intro X p q B hc i ab s σ H E I m st C;subst p q B;let{D,f1,f2,J,L,O}:=m it {};let{Q,l}:=C;let{_,es,T,sz,all}:=zJ I.hok U Q;subst l;rw[<-sz]at st;exact NW (I.ok.hd hc) st T λY l=>{s0,I.turned (λb o j e=>l b o j e) D f1 J L O}
 self:=λ_ _ _ _ _ st h=>wpAny_pyIter_keyiter st h
def yX(a it:m9)(o:Obj)(u:HO)(T:KS u):Vx P w K (.Tuple d j l) (Sn a o u) [it] it (λi h=>∃ok m,IsItemIter h it a i (Ln u) (Xm o) ok m) where
 mem:=by simp
 obj:=λi h st b d=>by
  let e:b=it:=by simpa using d
  subst e;let{_,_,e}:=st;exact{_,e,λv z=>by cases z}
 keep:=λi h p st k=>let ⟨x,y,e⟩:=st;({x,y,k it {} _ e})
 item:=by
  intro X q B C d i U s Y H E I l st D;subst q B C;let{ok,m,st}:=st;let{J,j}:=D;let{_,L,O,sz,all}:=zJ I.hok T J;rw[<-sz]at st j;let{x,y,pr,rx,ry}:=all i j;calc NX st O j λp z1 z3 Q=>{_,s0,wpAny_letOwnedTupleGo_items z1 λaa ab sb=>?_};let nT:=zbA (tM st);let kT:∀c o,c≠it->p.get? c=tH o->aa.get? c=tH o:=λc o d e=>(sb.2 c d).trans e;let I1:qA X U Y (upd H s.heap.objs.size (.tup [x,y])) {s with heap:=aa,toks:=s.toks}:=I.turnLaid
   (λc o d e=>have n:c≠it:=(λz=>d (by simp [z]));kT c o n (Q c o n e)) l (ti _)
   ({J7,[L[i].key,L[i].val],.cons rx (.cons ry .nil),{_,kT _ _ nT z3,s0,_,s0}})
  calc{.ref s.heap.objs.size,_,I1,s0,{s.heap.objs.size,x,y,I.hok.fresh (ti _),s0,pr,s0},{_,_,sz▸ab},λc d=>?_};let ec:c=it:=by simpa using d
  subst ec;rw[qf (Ne.symm nT)];exact((l c d).1)
 done:=by
  intro X q B C d i U s Y H E I l st D;subst q B C;let{ok,m,st}:=st;let{J,j}:=D;let{_,L,O,sz,all}:=zJ I.hok T J;subst j;rw[<-sz]at st;exact UK (I.ok.hd d) st O λp Q=>{s0,I.turnedL (λc o d e=>Q c o (λz=>d (by simp [z])) e) l}
 self:=λ_ _ _ _ _ st h=>let ⟨_,_,e⟩:=st;PySem.W.kcp_self e h
inductive AM(R:It->Hp->Prop)(x:V)(H1:Hp):Prop
 | mk (a:_) (o:_) (u:_):x=.ref a->H1 a=tH (.frz o u)->KS u->(R (LY a o u) H1)->AM R x H1
def P7(a:TE):TI:=λb H R=>a b H λx a=>AM R x a
def U8(d:JE X l i):JI X j l (P7 i):=.of (by
 calc λi s j H R I h=>jy (d.to i s j H _ I h) λv i ζ=>?_;let{x,o,d,p,y}:=ζ;let{a,j,u,e,z,m,q}:=y;subst e;cases p;let{hd,_,p,sz,all}:=zJ d.hok m z;refine raw_iter hd p ({i.heap.objs.size,[i.heap.objs.size],_,_,o,s0,d.kept λb j e=>tm _ e,Kt a _ j u m,?_,λb j=>?_,q})
 ·rw[<-sz];exact{_,tL _ rfl,s0,s0}
 ·let e:b=i.heap.objs.size:=by simpa using j
  subst e;calc d.fpOk (ti _) (d.hok.fresh (ti _)))
inductive u2(R:It->Hp->Prop)(x:V)(H1:Hp):Prop
 | mk (a:_) (o:_) (u:_):x=.ref a->H1 a=tH (.frz o u)->KS u->(R (Sn a o u) H1)->u2 R x H1
def Ls(a:TE):TI:=λb H R=>a b H λx a=>u2 R x a
def Au{ap d:Pos}(i:JE X l j)(m:attributeBase l "items" X.env (eval l X.env)=eval l X.env:=by rfl)(o:(ap.endLine==d.line)=true:=by rfl):JI X (.Tuple p y z) (.Call (.Attribute l "items" ap) [] [] d) (Ls j):=.of (by
 calc λd s j H R I h=>wpAny_Call_method0_late m o (jy (i.to d s j H _ I h) λv d ζ=>?_);let{x,y,j,i,o}:=ζ;let{a,m,u,e,z,p,q}:=o;subst e;cases i;let{hd,B,i,sz,all}:=zJ j.hok p z;refine{"dict","dict.items",zbx,zdl,PySem.F.type_dict_items,i.ty,?_,Calls.callWith_builtin rfl (PySem.evalArgs_none ?_)}
 ·let{z,C,D,_}:=id i;exact λb o=>by cases o;exact{z,C,D.2.1}
 calc call_meetsIn zdl i.ty PySem.F.entry_dict_items (PySem.F.args_dict_items_1 _) (KW hd) ({i.ty,UL ({_,tL _ rfl,s0,s0}) (i.at_ λm e=>tm _ e) ?_});let z:∀b i,d.heap.get? b=tH i->((d.heap.push {cls:=.type "dict_items",data:=.fields #[.ref a]}).push {cls:=.type "dict_itemiterator",data:=.fields #[.none,.bool false,.ref a,.int 0 0,.int B.size 0,.int (Xm m) 0,.none,.none]}).get? b=tH i:=λb i e=>tm _ (tm _ e);let i:(d.heap.push {cls:=.type "dict_items",data:=.fields #[.ref a]}).objs.size=d.heap.objs.size+1:=zbe ..;refine{(d.heap.push {cls:=.type "dict_items",data:=.fields #[.ref a]}).objs.size,[(d.heap.push {cls:=.type "dict_items",data:=.fields #[.ref a]}).objs.size],_,_,y,s0,j.kept z,yX a _ m u p,{.none,.none,?_},λb o=>?_,q}
 ·rw[<-sz];exact tL _ rfl
 ·let e:b=(d.heap.push {cls:=.type "dict_items",data:=.fields #[.ref a]}).objs.size:=by simpa using o
  subst e;let le:d.heap.objs.size<=(d.heap.push {cls:=.type "dict_items",data:=.fields #[.ref a]}).objs.size:={}
  calc j.fpOk le (j.hok.fresh le))
def GH{a:m9}{o:Obj}{u:HO}{g:TG}{d:St}{H:Hp}{tb:TS}{D:QY}(Pv:Nat->St->Hp->Prop)(B:Pv 0 d H)(C:∀i d H,i<=Ln u->Pv i d H->H a=tH (.frz o u))
  (J:∀i x y p d H,i < Ln u->H p=r4->Pr H u i x y->Pv i d H->g (.ref p) d (upd H p (.tup [x,y])) λj l=>tb {D with nx:=Pv (i+1),ct:=Pv (i+1),bk:=D.nx} j l) (hd:∀d H,Pv (Ln u) d H->D.nx d H):
  ∃W:Nat->Nat->St->Hp->Prop,(∃m,W 0 m d H)/\∀i m d H,W i m d H->
   ((Sn a o u).stop i H/\D.nx d H)\/((Sn a o u).go i H/\∃N:St->Hp->Prop,(∀v H',N v H'->∃z,z < m/\W (i+1) z v H')/\∀x H',(Sn a o u).yld i H x H'->g x d H' λj l=>tb {D with nx:=N,ct:=N,bk:=D.nx} j l):=by
 calc{λi m d H=>m=Ln u - i/\i<=Ln u/\Pv i d H,{Ln u,{},zax _,B},?_};rintro i m d H ⟨rfl,j,p⟩;let q:=C i d H j p;by_cases j:i < Ln u
 ·calc .inr ({{q,j},Pv (i+1),λv H' l=>{Ln u - (i+1),{},s0,j,l},λx H' y=>?_});let{b,l,v,z,rfl,pr,rfl}:=y;exact J i l v b d H j z pr p
 ·let e:i=Ln u:={}
  subst e;calc .inl ({{q,s0},hd d H p})
def Bh{g:TG}{Q:Hp->Prop}(Pv:Nat->St->Hp->Prop)(d:Pv 0 j (upd H D (.lst [])))(l:∀i b H',i<=Ln u->Pv i b H'->H' a=tH (.frz o u))(m:∀i x y b H',i < Ln u->Pr H' u i x y->Pv i b H'->g x b H' (Vh tt te D (Pv (i+1))))(hd:∀b H',Pv (Ln u) b H'->Q H'):Vq (LY a o u) g tt te D j H Q:=
 Vg Pv d (λi b H' j d=>⟨{l i b H' (zab j) d,j},λx _ y=>by
  let{e,p,pr}:=y;subst e;calc m i x p b _ j pr d⟩) λb H' d=>{{l _ b H' (ti _) d,s0},hd b H' d}
section
variable{prog:o3}{w:o4}{KK:Type}[DecidableEq KK]{kd:HeapKind prog w KK}{A:o2}{E:n9->n0->Prop}{s:n0}
end
def x9:Q8 X (.builtin "len") (λxs H Q=>∃(a:m9) (kvs:List (List qJ×V)),xs=[V.ref a]/\Rd H a (.dT kvs)/\Q (.int kvs.length) H):=by
 intro _ s _ H xs _ Q I r h;let{a,kvs,rfl,b,q}:=h;let{u,rfl,d}:=Jm r;cases d;let{z,hd,_,f9,d}:=XB I.hok b;let{_,b,_,i,_,j,l,_,_}:=id d;let m:b.size=kvs.length:=by rw[size_of_entries l,<-Paired.length f9]
 let mt:MeetsIn X.prog X.w (Builtin.«dict.__len__» ⟨[.ref a],[]⟩) (λ_ R b=>b=s/\R (.ok (.ret (.int kvs.length b.toks))) {b with toks:=b.toks+1}):=.of_wp λA R b ⟨l,k⟩=>by
  subst l;show wpAny _ _ (dictSize a >>= _) _ _ b;unfold dictSize;calc zep (zep (wpAny_dictEntries i j (zeq ?_)));show wpAny _ _ (Builtin.Dict.pendingCount a >>= _) _ _ b;calc zep (wpAny_pendingCount_other hd (wpAny_ret_mkInt ?_));rw[<-m]at k;simpa using k
 let b:(kvs.length:Int) < 2^63:=by rw[sizeLine_eq]at z;omega
 calc Calls.call_function_entry kind_len plain_len entry_len (args_len1 _) ?_;unfold Builtin.«len»;refine zep (zeq (zep (wpAny_callSpecial?_slot d.typeIs F.slot_dict_len
  (call_meetsIn F.slot_dict_len d.typeIs F.entry_dict_len (F.args_dict_len_1 _) mt ({s0,?_})))))
 show wpAny _ _ _ _ _ {s with toks:=s.toks+1};calc zep (wpAny_holding (zeq (zep (wpAny_letGo ?_))));show wpAny _ _ (if ((kvs.length:Nat):Int) < 0 then _ else _) _ _ _;rw[if_neg {}];show wpAny _ _ (if ((kvs.length:Nat):Int) ≥ 2^63 then _ else _) _ _ _;rw[if_neg {}];calc zep (wpAny_mkInt (zeq ({_,s0,{.int kvs.length,H,I.tok _,{_,s0},q}})))
def Pb:QT (Z6 P w) X E0:=λ_ _ _ _ _ _ _ h=>by
 let{a,_,_,_,_,_,_,_,_,_,_,_,_,_,_,_,z}:=h;exact z.elim
def Ue(b:t≠it):∀(n i:Nat) (s:n0) (Q:List n9->n0->Prop),s.heap.IsListIter it t i->s.heap.IsList t d_->i+n<=d_.size->
  (∀a,a.IsListIter it t (i+n)->Heap.SameBut it s.heap a->Q ((d_.toList.drop i).take n) {s with heap:=a})->wpAny (model prog w) A (draw (.ref it) n) Q E s
 | 0,i,s,Q,gJ,_,_,a=>by
  show wpAny _ _ (pure []) Q E s;calc zeq (by simpa using a s.heap gJ (zbL.refl ..))
 | n+1,i,s,Q,gJ,d,j,a=>by
  let j:i < d_.size:={}
  show wpAny _ _ (pyNext (.ref it) >>= _) Q E s;calc zep (wpAny_pyNext_list_item gJ d (x:=d_[i]) (by simp [j]) λ_ m l=>zep (wpAny_holding (Ue b n (i+1) _ _ m (d.extBut l.extBut b) {} λb _ d=>zeq ?_)));let hd:d_.toList.drop i=d_[i]::d_.toList.drop (i+1):=by simp [List.drop_eq_getElem_cons,j]
  let:=a b (by rwa [show i+(n+1)=i+1+n by omega]) (l.trans d);rw[hd,List.take_succ_cons]at this;calc this
def YQ{A:o2}{s:n0}{Q:List n9->n0->Prop}(l:A.handled=r4)(a:s.heap.IsList t d_)(m:∀d,Heap.ExtBut s.heap.objs.size s.heap d->Q d_.toList {s with heap:=d}):wpAny (model prog w) A (unpackItems (.ref t) d_.size r4) Q E s:=by
 let i:t≠s.heap.objs.size:=by let{d,j,_}:=a;exact tX (tM j)
 unfold unpackItems;calc zep ?_;unfold notIterableAtAll;calc zep (wpAny_specialOf a.typeIs slot_list_iter.lookup (zeq ?_));simp only[zaP,if_false];calc zep (wpAny_holding (wpAny_pyIter_list a (zep (wpAny_holding (Ue i d_.size 0 _ _ ({_,tL _ rfl,s0,s0}) (a.push _) {} λ_ o j=>?_)))));let p:List.take d_.size (List.drop 0 d_.toList)=d_.toList:=by
  rw[zcS];exact tu {}
 rw[p,if_neg {}];calc zep (wpAny_holding (wpAny_pyNext_list_end l o ((a.push _).extBut j.extBut i) {} λa i=>?_));simp only[zdW,zaP,if_false];calc zeq (m a λb d a e=>i b d a (j.extBut b d a (tm _ e)))
def YF{prog:o3}{w:o4}{A:o2}{E:n9->n0->Prop}{s:n0}{env:Env}{a:List Expr}{d}{pos:Pos}{t:m9}{d_:Array n9}{Q:Unit->n0->Prop}(i:A.handled=r4)(j:s.heap.IsList t d_)
  (l:(assignEach a env).length=d_.size) (m:(assignEach a env).findIdx? (·.1)=r4)
  (h:∀b,Heap.ExtBut s.heap.objs.size s.heap b->wpAny (model prog w) A (assignInOrder ((assignEach a env).map (·.2)) d_.toList) Q E {s with heap:=b}):
  wpAny (model prog w) A (assign (.Tuple a d pos) env (.ref t)) Q E s:=by
 rw[assign_Tuple];calc zep (wpAny_standAt ?_);unfold unpack;rw[l,m];calc zep (wpAny_holding (YQ i j h))
inductive AU(K:zen)(n:Nat)(t:Ez)(v:V)(σ:St)(H:Hp)(Q:St->Hp->Prop):Prop
 | mk (a:_) (xs:_):v=.ref a->JX K H a xs->xs.length=n->t xs σ H Q->AU K n t v σ H Q
def P8(K:zen)(n:Nat)(t:Ez):TG:=λv a H Q=>AU K n t v a H Q
def D6{X:Cx}(j:X.calm=true)(h:Br X d t)(l:(assignEach d X.env).length=n:=by rfl)(m:(assignEach d X.env).findIdx? (·.1)=r4:=by rfl):JG X (.Tuple d k pos) (P8 X.K n t):=.of (by
 intro o s p H v u Q I r d;let{a,q,i,x,y,d}:=d;subst i;cases r;let{_,i,z,_}:=I.list x;calc YF (I.ok.hd j) z.isList (by simp [l,<-y,i.length]) m λ_ j=>h.to o _ p H q _ Q (I.kept λb l e=>j b l (tX (tM e)) e) (by simpa using i) d)
open Classical in
mutual
inductive DG(H:Hp):V->PyData->Prop
 | non:DG H .non .none
 | bl (b:Bool):DG H (.bl b) (.bool b)
 | int (i:Int):DG H (.int i) (.int i)
 | str (x:Str):DG H (.str x) (.str x)
 | lst {a:m9} {xs:List V} {ds:List PyData}:H a=tH (.lst xs)->a≠sysModules->DGs H xs ds->DG H (.ref a) (.list ds)
 | tup {a:m9} {xs:List V} {ds:List PyData}:H a=tH (.tup xs)->DGs H xs ds->DG H (.ref a) (.tuple ds)
 | dct0 {a:m9}:H a=tH (.dK [])->DG H (.ref a) (.dict [])
 | dct1 {a:m9} {z:Str} {i:Int}:H a=tH (.dK [(Sum.inr z,.int i)])->DG H (.ref a) (.dict [(.str z,.int i)])
inductive DGs(H:Hp):List V->List PyData->Prop
 | nil:DGs H [] []
 | cons {x:V} {xs:List V} {d:PyData} {ds:List PyData}:DG H x d->DGs H xs ds->DGs H (x::xs) (d::ds)
end
open PySem.Builtin PySem.Builtin.Str
def VC:∀(l:List (Str×Tok)),qN ((l.map (·.1)).map V.str) (strValues l)
 | []=>.nil
 | a::r=>.cons ({a.2,s0}) (VC r)
inductive uy(x:V)(xs:List V)(H:Hp)(Q:VK):Prop
 | mk (z y:Str):x=.str z->xs=[.str y]->(y.length==0)=false->(z.length<=1000)->(∀l,H l=r4->Q (.ref l) (upd H l (.lst ((Txt.split z y).map V.str))))->uy x xs H Q
def H0:V->List V->Hp->VK->Prop:=λx a H Q=>uy x a H Q
def zi:LL X "str.split" H0:=by
 intro d s j H x _ v _ Q I a l h;let{x,y,rfl,rfl,i,m,q}:=h;let{t,rfl}:=a;let{_,rfl,a}:=Jm l;let{u,rfl}:=a;let a:x.length+2<=zes:=by exact tP (Nat.add_le_add_right m 2) (by decide+kernel)
 let gj:∀(a:List (Str×Tok)) (k:Tok),a.map (·.1)=Txt.split x y->EP X d j Q (.ref s.heap.objs.size) {s with heap:=s.heap.push {cls:=.type "list",data:=.seq (strValues a).toArray},toks:=k}:=λa k e=>by
  calc{.ref s.heap.objs.size,_,I.laid (λb _ e=>tm _ e) (ti _) ?_,s0,q _ (I.hok.fresh (ti _))};refine{?_,strValues a,0,?_,tL _ rfl}
  ·rw[ta];let:=split_le x y;omega
  ·rw[<-e];exact VC a
 let j:(partsBetween x (occurrences x y 0 x.length (x.length+1)) y.length).length<=zes:=by
  let a:=StrLaws.occ_length_le x y 0 x.length (x.length+1);rw[length_partsBetween];omega
 cases a:(decide (x.length < y.length) || decide (strKind x < strKind y))
 ·cases d:(occurrences x y 0 x.length (x.length+1)).isEmpty
  ·calc call_meets F.slot_str_split (typeIs_str _ _ _) F.entry_str_split (F.args_str_split_2 _ _) (meets_str_split_sep x y t u a i d {} j) ?_;show wants _ _ _ {s with toks:=_,heap:=s.heap.push {cls:=.type "list",data:=.seq (strsFrom s.toks (partsBetween x (occurrences x y 0 x.length (x.length+1)) y.length)).toArray}};rw[strsFrom_eq];exact gj (numbered s.toks _) _ ((numbered_texts _ _).trans ((if_neg (ne_true_of_eq_false a)).trans (if_neg (ne_true_of_eq_false d))).symm)
  ·exact call_meets F.slot_str_split (typeIs_str _ _ _) F.entry_str_split (F.args_str_split_2 _ _) (meets_str_split_not_found x y t u a i d)
    (gj [(x,t)] s.toks ((if_neg (ne_true_of_eq_false a)).trans (if_pos d)).symm)
 ·exact call_meets F.slot_str_split (typeIs_str _ _ _) F.entry_str_split (F.args_str_split_2 _ _) (meets_str_split_cannot_occur x y t u a)
   (gj [(x,t)] s.toks (if_pos a).symm)
def XT{a b:Str}(h:a.cps.toList=b.cps.toList):a=b:=Str.ext' (Array.toList_inj.mp h)
def Eu:∀{a b r s:List Nat},c∉a->c∉b->a++c::r=b++c::s->a=b/\r=s:=by
 intro a;induction a with
 | nil=>
  intro b r s _ d e;cases b with
  | nil=>calc{s0,(zbY.inj e).2}
  | cons y b=>calc absurd (by rw[(zbY.inj e).1];calc tK) d
 | cons x a j=>
  intro b r s i d e;cases b with
  | nil=>calc absurd (by rw[<-(zbY.inj e).1];calc tK) i
  | cons y b=>
   let{l,m}:=zbY.inj e;let{o,p}:=j (λz=>i (tI _ z)) (λz=>d (tI _ z)) m;calc{by rw[l,o],p}
def As:∀{xs ys:List Str},xs≠[]->ys≠[]->(∀x∈xs,c∉x.cps.toList)->(∀x∈ys,c∉x.cps.toList)->Str.join ({#[c]}) xs=Str.join ({#[c]}) ys->xs=ys:=by
 let b:∀(x y:Str) (a:List Str),(Str.join ⟨#[c]⟩ (x::y::a)).cps.toList=x.cps.toList++c::(Str.join ⟨#[c]⟩ (y::a)).cps.toList:=λx y a=>by
  show ((x++({#[c]}))++Str.join ({#[c]}) (y::a)).cps.toList=_;show ((x.cps++#[c])++(Str.join ({#[c]}) (y::a)).cps).toList=_;simp
 intro xs;induction xs with
 | nil=>intro ys h;calc absurd rfl h
 | cons x a o=>
  intro ys _ p d i e;cases ys with
  | nil=>calc absurd rfl p
  | cons y m=>
   cases a with
   | nil=>
    cases m with
    | nil=>rw[show x=y from e]
    | cons j m=>
     let:=congrArg (λs:Str=>s.cps.toList) e;rw[b y j m]at this;calc absurd (show c∈x.cps.toList from by rw[show x.cps.toList=_ from this];simp) (d x tK)
   | cons l a=>
    cases m with
    | nil=>
     let:=congrArg (λs:Str=>s.cps.toList) e;rw[b x l a]at this;calc absurd (show c∈y.cps.toList from by rw[show y.cps.toList=_ from this.symm];simp) (i y tK)
    | cons j m=>
     let:=congrArg (λs:Str=>s.cps.toList) e;rw[b x l a,b y j m]at this;let{a,b}:=Eu (d x tK) (i y tK) this;rw[XT a,o {} {} (λz a=>d z (tI _ a)) (λz a=>i z (tI _ a)) (XT b)]
def RU(x y:Str):Txt.split x y≠[]:=λz=>by
 let:=split_pos x y;rw[z]at this;calc absurd this {}
def zV(h:xs≠[])(f:∀x∈xs,c∉x.cps.toList):Txt.split (Str.join ({#[c]}) xs) ({#[c]})=xs:=
 As (RU _ _) h (StrLaws.split_free _ c) f (StrLaws.join_split _ _)
open Classical in
def Rd.mono{H':Hp}(r:Rd H a u)(s:∀b o,H b=tH o->H' b=tH o):Rd H' a u:=r.elim (λe=>.inl (s _ _ e)) λ⟨o,e⟩=>.inr ({o,s _ _ e})
def jk.r{H:Hp}{a:m9}{kvs:List (qJ×V)}{k:qJ}(e:Rd H a (.dK kvs)):jk H a (kV k) (ja kvs k):=.inl ({kvs,k,e,s0,s0})
def G0:Q8 X (.builtin "len") (λxs H Q=>∃a kvs,xs=[V.ref a]/\Rd H a (.dK kvs)/\Q (.int kvs.length) H):=by
 intro _ s _ H xs _ Q I r h;let{a,kvs,rfl,b,q}:=h;let{u,rfl,d}:=Jm r;cases d;calc Hb I b λt _ b=>{.int kvs.length,H,b,{t,s0},q}
def wa:Q8 X (.builtin "isinstance") (λxs H Q=>∃(a:m9) (kvs:List (qJ×V)) (c:String) (b:Bool),xs=[.ref a,.ty c]/\Rd H a (.dK kvs)/\zak X.K (.type "dict") (.type c)=tH b/\Q (.bl b) H):=by
 intro _ s _ H xs _ Q I r h;let{a,d,c,b,rfl,i,e,q}:=h;let{u,_,rfl,j,l}:=wq r;cases j;cases l;let{_,_,_,_,j,_,_,g,l,_}:=(show qL X.prog X.w H s.heap a (.dK d) from i.ok I.hok);exact zaR zcZ I.kIn ({j,g,l.1}) e (λz=>nomatch z) λtk=>{.bl b,H,I.tok tk,s0,q}
mutual
inductive DW(K:zen)(H:Hp):V->PyData->Prop
 | non:DW K H .non .none
 | bl (b:Bool):DW K H (.bl b) (.bool b)
 | int (i:Int):DW K H (.int i) (.int i)
 | str (x:Str):DW K H (.str x) (.str x)
 | lst {a:m9} {xs:List V} {ds:List PyData}:JX K H a xs->a≠sysModules->DWs K H xs ds->DW K H (.ref a) (.list ds)
 | tup {a:m9} {xs:List V} {ds:List PyData}:SqT K H a xs->DWs K H xs ds->DW K H (.ref a) (.tuple ds)
inductive DWs(K:zen)(H:Hp):List V->List PyData->Prop
 | nil:DWs K H [] []
 | cons {x:V} {xs:List V} {d:PyData} {ds:List PyData}:DW K H x d->DWs K H xs ds->DWs K H (x::xs) (d::ds)
end
section
variable{X:Cx}{κ:Type}[DecidableEq κ]{knd:PySem.KeyKind X.prog X.w κ}
end
def Vi:∀(bs:List Bool),(zae bs.length).any (λi=>bs.getD i false)=bs.any id:=by
 intro bs;induction bs with
 | nil=>rfl
 | cons b bs a=>
  rw[t7,zdt,zbF,zeh,zbF];let:((λi=>(b::bs).getD i false) ∘ zee)=λi=>bs.getD i false:=by
   funext i;simp [Function.comp]
  rw[this,a];simp
def G5{X:Cx}(m:X.calm=true):Q8 X (.builtin "any") (λxs H Q=>∃(p:m9) (bs:List Bool),xs=[.ref p]/\JX X.K H p (bs.map V.bl)/\Q (.bl (bs.any id)) H):=by
 intro _ s _ H xs _ Q I r h;let{p,bs,rfl,l,q}:=h;let{u,rfl,a}:=Jm r;cases a;let{a,d,j,_}:=I.list l;let o:p < s.heap.objs.size:=by
  let{l,n,e,_}:=j;exact tM e
 let x:a.toArray.size=bs.length:=by
  let:=d.length;rw[ta]at this;simp only[t4];omega
 let y:X.A.in1.handled=r4:=I.ok.hd m;refine call_any_walk (wpAny_pyIter_list j.isList ⟨s.heap.objs.size,[s.heap.objs.size,p],[s.heap.objs.size],a.toArray.size,λi v=>a.toArray[i]?=tH v,_,λi=>bs.getD i false,s0,Walks.list y s.heap.objs.size p (tX o) a.toArray,
  ({{_,tL _ rfl,s0,s0},j.isList.at λl e=>tm _ e}),?_,λ_ tk m=>?_⟩)
 ·intro i v o y _ B C;let j:a[i]?=tH v:=by simpa using B
  let B:∃b,bs[i]?=tH b/\v=Value.bool b:=by
   cases e:bs[i]? with
   | none=>
    exfalso;let a:(bs.map V.bl)[i]?=r4:=by rw[tA,e];rfl
    rw[qN.none_of d a]at j;cases j
   | some b=>
    let a:(bs.map V.bl)[i]?=tH (V.bl b):=by rw[tA,e];rfl
    let{u,hu,D}:=d.get a;rw[j]at hu;cases hu;exact{b,s0,D}
  let{b,e,rfl}:=B;calc wpAny_truthy_bool ?_;let d:bs.getD i false=b:=by rw[zav,e];rfl
  let a:y (bs.getD i false) o:=C;rw[d]at a;exact a
 ·rw[x,Vi];exact⟨.bl (bs.any id),H,I.kept λb l e=>m b l (by
   intro z;let a:b=s.heap.objs.size:=by simpa using z
   calc absurd (tM e) (by rw[a];calc zaH _)) (tm _ e),s0,q⟩
def yP(zs:List Str):Nat->Nat
 | 0=>0
 | i+1=>if zs.getD i ""∈zs.take i then yP zs i else yP zs i+1
def x4(zs:List Str):∀i,yP zs i<=i
 | 0=>ti _
 | i+1=>by
  let:=x4 zs i;unfold yP;split<;>omega
def Bb{zs:List Str}:∀i,i<=zs.length->i<=yP zs i->(zs.take i).Nodup
 | 0,_,_=>zaV
 | i+1,j,h=>by
  let m:=x4 zs i;unfold yP at h;split at h
  ·omega
  ·rename_i c;let d:i < zs.length:=j;rw[tE,tv d];calc zaL.mpr ({Bb i {} {},{},λa o b l e=>c ?_});let:zs.getD i ""=zs[i]:=by simp [d]
   rwa [this,<-tQ.mp l,<-e]
abbrev XG(prog:o3)(w:o4)(h:o1)(S:m9)(zs:List Str)(m:Nat):Prop:=h.SetOf (PySem.strKind prog w) S (λy=>decide (y∈zs)) m
def XG.stay{a:o1}(x:XG prog w h S zs m)(k:∀o,h.get? S=tH o->a.get? S=tH o):XG prog w a S zs m:=let ⟨o,a,b,t,d,r⟩:=x;({o,a,b,t,k o d,r})
def y7{prog:o3}{w:o4}{A:o2}{R:Result->n0->Prop}{I:m9}{fp:List m9}{wr:List m9}{G:Array GenState->Array GenState->Prop}{n:Nat}{P:Nat->n9->Prop}{St:Nat->n0->Prop}(W:WalksS prog w A.in1 I fp wr G n P St){S:m9}(u:S∉fp){zs:List Str}(hz:zs.length=n)(C:∀i v,P i v->∃t,v=.str (zs.getD i "") t)(j:n+1 < scanBound):
  ∀(k i:Nat) (s:n0),n - i=k->i<=n->St i s->XG prog w s.heap S (zs.take i) (yP zs i)->(∀a,Moved (S::wr) G s a->XG prog w a.heap S zs (yP zs zs.length)->R (.ok (.ret .none)) a)->
   codeAny (model prog w) A (.builtin "set.update.loop" ({[.ref S,.ref I],[]})) R s:=by
 let x:S∉wr:=λh=>u (W.sub _ h);let up:∀b∈wr,b∈S::wr:=λb h=>tI _ h;intro k;induction k with
 | zero=>
  intro i s z B m l o;obtain rfl:i=n:=by omega
  rw[tu {},<-hz]at l;refine codeAny_builtin F.entry_set_update_loop (by
    rw[Around.under_plainId F.plain_set_update_loop _];calc(show wpAny _ A.in1 (pyNext (.ref I) >>= _) _ _ s from zep (W.done s _ _ m λa d=>(show wpAny _ A.in1 (ret Value.none) _ _ a from zeq (o a (d.mono up) (l.stay λp q=>d.heap S _ x q))))))
 | succ k D=>
  intro i s z B m l o;let lt:i < n:={}
  let z:i < zs.length:={}
  let B:zs.getD i ""=zs[i]:=by simp [z]
  refine codeAny_builtin F.entry_set_update_loop (by
    rw[Around.under_plainId F.plain_set_update_loop _];calc(show wpAny _ A.in1 (pyNext (.ref I) >>= _) _ _ s from zep (W.item i s _ _ lt m λv a m H d=>?_));let{t,rfl}:=C i v m;rw[B];let m:(PySem.strKind prog w).is zs[i] (.str zs[i] t)=true:=by
     show Value.isStrOf zs[i] (.str zs[i] t)=true;simp [Value.isStrOf]
    calc(show wpAny _ A.in1 (holding [Value.str zs[i] t] (setAdd S (.str zs[i] t)) >>= _) _ _ a from zep (wpAny_holding ?_));unfold setAdd;calc wpAny_holding (zep ((PySem.strKind prog w).pyHash m ?_));let ld:=x4 zs i;calc wpAny_setAddHashed_of m rfl (l.stay λp q=>d.heap S _ x q) {} λm l q=>?_;let x:XG prog w m S (zs.take (i+1)) (yP zs (i+1)):=SetOf_congr q (λy=>by
     rw[tE,tv z,<-Bool.decide_or];refine decide_eq_decide.mpr ({λh=>?_,λh=>?_})
     ·rcases h with h | h
      ·exact zaa _ h
      ·exact t3 _ (by rw[h];calc tQ.mpr rfl)
     ·rcases tU.mp h with h | h
      ·exact .inl h
      ·calc .inr (tQ.mp h)) (by
     show _=if zs.getD i ""∈zs.take i then yP zs i else yP zs i+1
     rw[B];by_cases c:zs[i]∈zs.take i
     ·rw[if_pos c,decide_eq_true c,if_pos rfl]
     ·rw[if_neg c,decide_eq_false c,if_neg tN])
    refine zeq ({plainId_quiet F.plain_set_update_loop _,D (i+1) _ {} lt (W.frame _ a _ _ H (zcu _) λb j p e=>?_) x λa m q=>o a (Moved.trans W.gtrans ((d.mono up).then_heap (zcu _) λb p j e=>?_) m) q})
    ·rwa [l.2 b (λh:b=S=>u (h▸j))]
    ·rwa [l.2 b (λh:b=S=>j (h▸tK))])
def x6{A:o2}{s:n0}{zs:List Str}{Q:n9->n0->Prop}(z:A.handled=r4)(B:s.heap.IsList l d_)(hz:zs.length=d_.size)(C:∀(i:Nat) (v:n9),d_[i]?=tH v->∃t,v=Value.str (zs.getD i "") t)(D:d_.size+1 < scanBound)(h:∀(d:o1) (tk:Nat),XG prog w d s.heap.objs.size zs (yP zs zs.length)->(∀b o,b < s.heap.objs.size->s.heap.get? b=tH o->d.get? b=tH o)->Q (.ref s.heap.objs.size) {s with heap:=d,toks:=tk}):
  wpAny (model prog w) A (call (.type "set") [.ref l]) Q E s:=by
 let{c,_,_}:=zbg.mro;let f1:=zbg.made;let f2:=zbg.sub;let a:=zbg.notType;let a:=zbg.canCreate;let a:=PySem.F.typeCall_set_1 (.ref l);calc wpAny_call (codeAny_of_tree (show wpAny _ _ (callAny (.type "set") _) _ _ _ from zeq ({Code.quiet_builtin _ (by decide+kernel),codeAny_builtin PySem.F.entry_type_call ?_})));rw[Around.under_plain (weight_type_call_type "set" [.ref l] []) rfl]
 repeat (any_goals (first | assumption | wp_step))
 calc codeAny_mono (PySem.code_set_new_1 (.ref l) (E:=E) (Q₁:=λobj j=>∃a:Bool,obj=.ref s.heap.objs.size/\j={s with heap:=s.heap.push (xg a)}) λa=>{a,s0,s0}) λr j hr=>?_;rcases r with e | j
 ·exact hr
 cases j with
 | ret obj=>
  let{a,rfl,rfl}:=hr;let q:(s.heap.push (xg a)).get? s.heap.objs.size=tH (xg a):=tL _ rfl;let g1:=zbg.init.lookup;let g2:=zbg.init.bind (.ref s.heap.objs.size)
  repeat (any_goals (first | assumption | wp_step))
  refine codeAny_mono (codeAny_call_builtin (R:=wants (λr j=>r=.none/\∃d tk,j={s with heap:=d,toks:=tk}/\XG prog w d s.heap.objs.size zs (yP zs zs.length)/\∀b o,b < s.heap.objs.size->s.heap.get? b=tH o->d.get? b=tH o) E) zbg.init.plain PySem.F.entry_set_init (PySem.check_set_init_1 ({_,q,s0}) ?_)) λH j p=>?_
  ·obtain⟨⟨_,J,_,L⟩,j,u,nl,x⟩:=id B;simp only at u x;subst u x;let u:=tM j;let x:(s.heap.push (xg a)).get? l=tH {cls:=.type "list",dict:=J,data:=.seq d_ nl,slots:=L}:=tm _ j;let j:(s.heap.push (xg a)).IsList l d_:={_,x,s0,nl,s0};let x:=PySem.F.sub_list_set;let x:=PySem.F.sub_list_frozenset;let x:(Value.type "list"==Value.type "dict")=false:={}
   let sz:(s.heap.push (xg a)).objs.size=s.heap.objs.size+1:=zbe ..;unfold Builtin.«set.__init__» noKeywords Builtin.Frozenset.updateFrom;generalize x:pyIter=PI
   wp_walk
   subst x;refine wpAny_pyIter_list j (zep (wpAny_runValue (y7 ((Walks.list (show A.in1.in1.in1.handled=r4 by simp [z]) _ l (show l≠(s.heap.push (xg a)).objs.size by rw[sz];calc tX (zcd u)) d_).toS) (λm=>?_) hz C D (d_.size - 0) 0 _ {} (zax _)
    ({{_,tL _ rfl,s0,s0},j.push _}) ?_ λx j st=>?_)))
   ·rw[sz]at m;simp only[tO,zaA,or_false]at m;rcases m with m | m
    ·exact absurd m (tX (zaZ _))
    ·exact absurd m (zbA u)
   ·exact SetOf_congr ((setObjOf_fresh a).setOf (tm _ q) (by unfold scanBound;omega)) (λy=>{}) rfl
   ·let{d,_,_,a,_}:=x;let q:=j.gens;let u:=j.drawn;let x:=j.os;subst q u x;calc(show wpAny _ _ _ _ _ _ from zeq (show wpAny _ _ (ret Value.none) _ _ _ from zeq ({s0,d,a,s0,st,λb o a e=>j.heap b o (λm=>?_) (tm _ (tm _ e))})));rw[sz]at m;simp only[tO,zaA,or_false]at m;rcases m with m | m
    ·exact absurd a (by rw[m];calc zaH _)
    ·exact absurd a (by rw[m];calc Nat.not_lt.mpr (zcu _))
  ·rcases H with e | a
   ·exact p
   cases a with
   | ret r=>
    let{rfl,d,tk,rfl,st,a}:=p
    repeat (any_goals (first | assumption | wp_step))
    calc h _ _ st a
   | _=>calc p.elim
 | _=>calc hr.elim
inductive wA(K:zen)(Q:VK)(x:V)(H1:Hp):Prop
 | mk (a:m9) (zs:List Str):x=.ref a->(JX K H1 a (zs.map V.str))->(zs.length<=1000)->(Q (.int (yP zs zs.length:Nat)) H1)->wA K Q x H1
def Ho(K:zen)(te:TE):TE:=λa H Q=>te a H λx a=>wA K Q x a
def Az{X:Cx}(o:X.calm=true)(g1:Gl X "len")(p:X.mg "len"=r4)(g2:Gl X "set")(y:X.mg "set"=r4)(z:JE X e te)(l:starEach [e] X.env=[(false,eval e X.env)]:=by rfl)(d:starEach [.Call (.Name "set" j) [e] [] m] X.env=[(false,eval (.Call (.Name "set" j) [e] [] m) X.env)]:=by rfl):JE X (.Call (.Name "len" B) [.Call (.Name "set" j) [e] [] m] [] C) (Ho X.K te):=.of (by
 calc λj s m H Q I h=>wpAny_Call_Name_kw (Jq I g1 p boot_len (PyProof.Rows.callWith_builtin1 (vJ d ?_) (by rw[d];rfl) rfl));calc wpAny_Call_Name_kw (Jq I g2 y boot_set (PyProof.Rows.callWith_type1 (vJ l (jy (z.to j s m H _ I h) λu _ ζ=>?_)) (by rw[l];rfl) rfl));let{x,y,j,m,a,d,ex,p,_,q}:=ζ;subst ex;cases m;let{l,m,z,_}:=j.list p;let ln:l.length=d.length:=by
  let:=m.length;rw[ta]at this;exact this.symm
 refine x6 (zs:=d) (j.ok.hd o) z.isList (by simp [ln]) (λi v e=>?_) (by simp only[t4,ln];show d.length+1 < 4096;omega) λ_ tk st z=>?_
 ·let o:l[i]?=tH v:=by simpa using e
  let l:i < d.length:=by
   let:=(tf.mp o).1;omega
  let B:(d.map V.str)[i]?=tH (V.str d[i]):=by rw[tA,tv l];rfl
  let{_,p,C,D}:=m.get B;rw[o]at p;cases p;exact{C,by rw[D,zav,tv l];rfl}
 ·let{l,m,_,t,o,ex,hd,_,_,p,B,C}:=st;calc call_len_set o ex hd B (by have:m.size < 4096:=p;omega) ({.int (yP d d.length:Nat),y,(j.kept λb l e=>z b l (tM e) e).tok _,{_,by rw[C]},q}))
inductive L4(Q:VK)(x:V)(H1:Hp):Prop
 | mk (a:m9) (kvs:List (qJ×V)) (zs:List Str):x=.ref a->H1 a=tH (.dK kvs)->kvs.map (·.2)=zs.map V.str->(zs.length < 64)->(∀(l:m9) (ys:List Str),H1 l=r4->ys.Perm zs->Q (.ref l) (upd H1 l (.lst (ys.map V.str))))->L4 Q x H1
def tSv(a:TE):TE:=λb H Q=>a b H λx a=>L4 Q x a
def P0{X:Cx}{ap d:Pos}(B:X.calm=true)(g2:Gl X "sorted")(l:X.mg "sorted"=r4)(m:JE X o p)(v:attributeBase o "values" X.env (eval o X.env)=eval o X.env:=by rfl)(y:(ap.endLine==d.line)=true:=by rfl)(j:starEach [.Call (.Attribute o "values" ap) [] [] d] X.env=[(false,eval (.Call (.Attribute o "values" ap) [] [] d) X.env)]:=by rfl):JE X (.Call (.Name "sorted" z) [.Call (.Attribute o "values" ap) [] [] d] [] C) (tSv p):=.of (by
 calc λd s p H Q I h=>wpAny_Call_Name_kw (Jq I g2 l boot_sorted (PyProof.Rows.callWith_builtin1 (vJ j ?_) (by rw[j];rfl) rfl));calc wpAny_Call_method0_late v y (jy (m.to d s p H _ I h) λu y ζ=>?_);let{x,_,l,d,a,kvs,j,ex,p,z,C,q}:=ζ;subst ex;cases d;let{d,m}:=yS l (x:=.ref a) rfl (.inr (.inr (.inl ({s0,.inl ({_,p})}))));calc{"dict","dict.values",zbx,zdg,PySem.F.type_dict_values,d,m,Calls.callWith_builtin rfl (PySem.evalArgs_none ?_)};let{D,hd,v,f9,m}:=yC l.hok p;calc call_meetsIn zdg m.typeIs PySem.F.entry_dict_values (PySem.F.args_dict_values_1 _) (meets_dict_values (jN X.prog X.w) a hd) ({{v,m},?_});let{_,gw}:=m.dictAt;let lk:kvs.length=j.length:=by simpa using congrArg zat z
 let lv:kvs.length=v.length:=Paired.length f9;calc Calls.call_function_entry kind_sorted plain_sorted entry_sorted (args_sorted1 _) ?_;unfold Builtin.«sorted»;calc zep (zeq (zep (kdu_collect (kdl_values) (l.ok.hd B) ({{_,tL _ rfl,s0,s0},gw.push _}) (by rw[<-lv];calc D) λd tk p D m=>?_)));let v:qN (j.map V.str) p.toList:=by
  calc VY _ _ (by have:=m.1;simp only[ta,zaG];omega) λi x u B J=>?_;let{k,f1}:=m.2 i u (by simpa using J);let m:i < kvs.length:=by
   let:=(tf.mp B).1;rw[ta]at this;omega
  let{_,g1,_,g3}:=Jo f9 (tv m);rw[f1]at g1;cases g1;let d:(kvs.map (·.2))[i]?=tH kvs[i].2:=by rw[tA,tv m];rfl
  rw[z,B]at d;rwa [tH.inj d]
 let m:=BV v;let z:p.toList.length=j.length:=by
  let:=v.length;rw[ta]at this;exact this.symm
 generalize p.toList=j at v m z;let v:∀b o,y.heap.get? b=tH o->d.get? b=tH o:=λb o e=>D b o (tm _ e);calc zep (wpAny_newList ?_);let p:=l.kept (t':=tk) v;show wpAny _ _ _ _ _ {y with heap:=d.push (seqObj "list" j.toArray 0),toks:=tk};let oL:(d.push (seqObj "list" j.toArray 0)).get? d.objs.size=tH (seqObj "list" j.toArray 0):=tL _ rfl;calc zep (wpAny_holding (wpAny_call_entry slot_list_sort ({_,oL,s0}) entry_list_sort (list_sort_treeK strKind_oneLt oL m.keysOf (λ_ _ rest e=>keyKind_strs (e▸m)) {} λz B D=>{_,s0,zeq ({_,s0,?_})}) (args_list_sort _)));let{l,v,y,_}:=sorted_out_str m B D;generalize (arrOf z).map (λx=>x.2)=out at v;let m:∀b o,d.get? b=tH o->(sortedHeap (d.push (seqObj "list" j.toArray 0)) d.objs.size j out).get? b=tH o:=λb o e=>by
  rw[sortedHeap_old (tX (tM e)) (tM (tm _ e))];exact tm _ e
 let{j,z}:=sortedHeap_at oL;calc{.ref d.objs.size,_,p.laid (o:=.lst (l.map V.str)) m (ti _) ({by rw[ta,y.length_eq];calc zab (zed C {}),_,j,BE v,z}),s0,q _ l (p.hok.fresh (ti _)) y})
def yy{a:m9}{o:Obj}{u:HO}{g:TG}{b:St}{H:Hp}{tb:TS}{D:QY}(Pv:Nat->St->Hp->Prop)(v:Pv 0 b H)(z:∀i b H,i<=Ln u->Pv i b H->H a=tH (.frz o u))
  (B:∀i x y b H,i < Ln u->Pr H u i x y->Pv i b H->g x b H λd j=>tb {D with nx:=Pv (i+1),ct:=Pv (i+1),bk:=D.nx} d j) (hd:∀b H,Pv (Ln u) b H->D.nx b H):
  ∃W:Nat->Nat->St->Hp->Prop,(∃m,W 0 m b H)/\∀i m b H,W i m b H->
   ((LY a o u).stop i H/\D.nx b H)\/((LY a o u).go i H/\∃N:St->Hp->Prop,(∀l H',N l H'->∃p,p < m/\W (i+1) p l H')/\∀x H',(LY a o u).yld i H x H'->g x b H' λd j=>tb {D with nx:=N,ct:=N,bk:=D.nx} d j):=by
 calc{λi m b H=>m=Ln u - i/\i<=Ln u/\Pv i b H,{Ln u,{},zax _,v},?_};rintro i m b H ⟨rfl,j,d⟩;let q:=z i b H j d;by_cases j:i < Ln u
 ·calc .inr ({{q,j},Pv (i+1),λl H' l=>{Ln u - (i+1),{},s0,j,l},λx H' y=>?_});let{rfl,l,pr}:=y;exact B i x l b _ j pr d
 ·let e:i=Ln u:={}
  subst e;calc .inl ({{q,s0},hd b H d})
end L2
namespace Rb
def jW(ns:List Nat):Nat:=ns.foldl (·^^^ ·) 0
def setN(ns:List Nat):Nat:=ns.foldl (λb n=>b ||| 2^n) 0
def memN(b n:Nat):List Nat:=(zae n).filter λi=>b.testBit i
def Lacks(r:Nat)(ns:List Nat):Prop:=r∉ns/\∀x,x < r->x∈ns
def IP(x:Nat):x % 2=(x.testBit 0).toNat:=by
 rw[zdm];rcases Nat.mod_two_eq_zero_or_one x with h | h<;>simp [h]
def or_and_xor(a:Nat):∀b,(a ||| b)=(a&&& b)+(a^^^b):=by
 induction a using zcr with
 | ind a d=>
  intro b;by_cases j:a=0
  ·subst j;simp
  ·let i:=d (a / 2) {} (b / 2);let d:(a ||| b) / 2=(a / 2) ||| (b / 2):=Nat.or_div_two;let n1:(a&&& b) / 2=(a / 2)&&& (b / 2):=Nat.and_div_two;let d:(a^^^b) / 2=(a / 2)^^^ (b / 2):=Nat.xor_div_two;let m:(a ||| b) % 2=(a&&& b) % 2+(a^^^b) % 2:=by
    rw[IP (a ||| b),IP (a&&& b),IP (a^^^b),Nat.testBit_or,Nat.testBit_and,zbW];cases a.testBit 0<;>cases b.testBit 0<;>rfl
   omega
def AW(ns:List Nat):∀b k,(ns.foldl (λb n=>b ||| 2^n) b).testBit k=(b.testBit k || decide (k∈ns)):=by
 induction ns with
 | nil=>intro b k;simp
 | cons n ns a=>
  intro b k;rw[zcI,a,Nat.testBit_or,Nat.testBit_two_pow];by_cases h:n=k
  ·subst h;simp
  ·let a:¬k=n:=λe=>h e.symm;simp [h,a]
def testBit_setN(ns:List Nat)(k:Nat):(setN ns).testBit k=decide (k∈ns):=by
 unfold setN;rw[AW];simp
def mem_memN{b n i:Nat}:i∈memN b n↔i < n/\b.testBit i=true:=by
 unfold memN;simp
def testBit_big{b k m:Nat}(h:b < 2^m)(a:m<=k):b.testBit k=false:=zdu (tJ h (zdI {} a))
def V8{b m:Nat}(h:b < 2^m):∀n,m<=n->memN b n=memN b m:=by
 intro n a;let{k,rfl}:=Nat.le.dest a;unfold memN;rw[List.range_add,zaF];let e:((zae k).map (m+·)).filter (λi=>b.testBit i)=[]:=by
  rw[zdv];intro i a;let{_,_,rfl}:=tc.mp a;rw[testBit_big h (Nat.le_add_right _ _)];simp
 rw[e,zal]
def memN_same{b m n:Nat}(a:b < 2^m)(d:b < 2^n):memN b n=memN b m:=by
 by_cases h:m<=n
 ·exact V8 a n h
 ·calc(V8 d m {}).symm
def uf{ns:List Nat}{m:Nat}(h:∀x∈ns,x < m):setN ns < 2^m:=by
 calc Nat.lt_pow_two_of_testBit _ λi _=>?_;rw[testBit_setN];calc decide_eq_false λz=>?_;let:=h i z;omega
def ue{b m:Nat}(h:b < 2^m):setN (memN b m)=b:=by
 calc zbu λi=>?_;rw[testBit_setN,zaB,decide_eq_true_iff,mem_memN];constructor
 ·exact λz=>z.2
 ·calc λz=>{Decidable.byContradiction λ_=>?_,z};rw[testBit_big h {}]at z;cases z
def turnN(b n m:Nat):Nat:=setN ((memN b m).map (·^^^n))
def xor_lt{a b m:Nat}(d:a < 2^m)(i:b < 2^m):a^^^b < 2^m:=zdX d i
def wk(a b:Nat):(a^^^b)^^^b=a:=by rw[zaJ,zaT,zbl]
def XQ{b n m k:Nat}(a:m<=2^k)(d:n < 2^k):turnN b n m < 2^ (2^k):=by
 calc uf λx i=>?_;let{y,j,rfl}:=tc.mp i;calc xor_lt (tJ (mem_memN.mp j).1 a) d
def pigeon:∀(n:Nat) (ns:List Nat),(∀x,x < n->x∈ns)->n<=ns.length:=by
 intro n;induction n with
 | zero=>intro ns _;calc zax _
 | succ n b=>
  intro ns h;let a:=h n (zaZ n);let:=b (ns.erase n) λx d=>(zbv {}).mpr (h x (zcd d));rw[zbO a]at this;let b:=zbb a;omega
def Lacks.uniq{r s:Nat}{ns:List Nat}(h:Lacks r ns)(g:Lacks s ns):r=s:=by
 rcases zaS r s with z | z | z
 ·exact absurd (g.2 r z) h.1
 ·exact z
 ·calc absurd (h.2 s z) g.1
def Z4(ns:List Nat):Nat->Nat
 | 0=>0
 | i+1=>if Z4 ns i∈ns then Z4 ns i+1 else Z4 ns i
def xE(ns:List Nat):∀i,(∀x,x < Z4 ns i->x∈ns)/\Z4 ns i<=i/\(Z4 ns i < i->Z4 ns i∉ns):=by
 intro i;induction i with
 | zero=>calc{λx a=>absurd a (zdB _),ti _,λh=>absurd h (zaH _)}
 | succ i d=>
  let{b,_,j}:=d;unfold Z4;by_cases h:Z4 ns i∈ns
  ·rw[if_pos h];calc{λx a=>?_,{},λ_=>absurd h (j {})};by_cases e:x=Z4 ns i
   ·rwa [e]
   ·exact b x {}
  ·rw[if_neg h];calc{b,{},λ_=>h}
def lackI_lacks(ns:List Nat):Lacks (Z4 ns (ns.length+1)) ns:=by
 let{a,_,b}:=xE ns (ns.length+1);calc{b ?_,a};let:=pigeon _ _ a;omega
def lackN(ns:List Nat):Nat:=Z4 ns (ns.length+1)
def lackN_eq{r:Nat}{ns:List Nat}(h:Lacks r ns):r=lackN ns:=h.uniq (lackI_lacks ns)
def memN_succ(b i:Nat):memN b (i+1)=memN b i++(if b.testBit i then [i] else []):=by
 unfold memN;rw[zcJ,zaF];congr 1;by_cases h:b.testBit i=true
 ·simp [h]
 ·simp [h]
def testBit_div(b i:Nat):b.testBit i=decide (b / 2^i % 2=1):=by
 rw[Nat.testBit_eq_decide_div_mod_eq]
def vt(ns:List Nat)(n:Nat):jW (ns++[n])=jW ns^^^n:=by unfold jW;rw[zbM];rfl
def setN_snoc(ns:List Nat)(n:Nat):setN (ns++[n])=setN ns ||| 2^n:=by unfold setN;rw[zbM];rfl
end Rb
namespace MLab
def wx:∀(g m:Nat),m < g->∃k,m.testBit k=false/\g.testBit k=true/\∀j,k < j->m.testBit j=g.testBit j:=by
 intro g;induction g using zcr with
 | _ g a=>
  intro m h;by_cases c:m / 2 < g / 2
  ·let{k,b,d,i}:=a (g / 2) {} (m / 2) c;calc{k+1,by rw[zbR];exact b,by rw[zbR];calc d,λj a=>?_};cases j with
   | zero=>omega
   | succ j=>rw[zbR,zbR];exact i j {}
  ·let e:m / 2=g / 2:={}
   refine{0,?_,?_,λj a=>?_}
   ·rw[zdm];simp;omega
   ·rw[zdm];simp;omega
   ·cases j with
    | zero=>omega
    | succ j=>rw[zbR,zbR,e]
def IT{x y:Nat}(k:Nat)(l:x.testBit k=false)(a:y.testBit k=true)(h:∀j,k < j->x.testBit j=y.testBit j):x < y:=by
 rcases zaS x y with c | rfl | c
 ·exact c
 ·rw[l]at a;cases a
 ·let{i,b,m,o}:=wx _ _ c;rcases zaS i k with d | rfl | d
  ·let:=o k d;rw[l,a]at this;cases this
  ·rw[a]at b;cases b
  ·let:=h i d;rw[b,m]at this;cases this
def Qw(ns:List Nat):Nat:=ns.foldr (λa b=>a^^^b) 0
def zz(a:Nat)(ns:List Nat):Qw (a::ns)=a^^^Qw ns:=rfl
def vq{k:Nat}:∀{ns:List Nat},(Qw ns).testBit k=true->∃n∈ns,n.testBit k=true
 | [],h=>by simp [Qw]at h
 | a::ns,h=>by
  rw[zz,zbW]at h;cases e:a.testBit k with
  | true=>calc{a,tK,e}
  | false=>
   rw[e,Bool.false_xor]at h;let{n,b,d}:=vq h;calc{n,tI _ b,d}
def Km{ns:List Nat}{m:Nat}(h:m < Qw ns):∃n∈ns,n^^^Qw ns^^^m < n:=by
 let{k,i,b,j}:=wx _ _ h;let{n,a,d}:=vq b;refine{n,a,IT k ?_ d λa l=>?_}
 ·rw[zbW,zbW,d,i,b];rfl
 ·rw[zbW,zbW,j a l];cases n.testBit a<;>cases (Qw ns).testBit a<;>rfl
section
variable{α:Type}(G:α->List α)
structure Zw(ok:α->Prop)(num:α->Option Nat)(e_:α->Nat):Prop where
 cl:∀{x y},ok x->y∈G x->ok y
 n1:∀{x n m},ok x->num x=tH n->m < n->∃y∈G x,num y=tH m/\e_ y < e_ x
 n2:∀{x y n},ok x->num x=tH n->y∈G x->num y≠tH n
 n3:∀{x y n},ok x->num x=tH n->y∈G x->(∀m,num y=tH m->n < m)->∃z∈G y,num z=tH n/\e_ z < e_ x
 n4:∀{x y n m},ok x->num x=tH n->y∈G x->num y=tH m->m < n->e_ y < e_ x
 e:∀{x m},ok x->num x=r4->(∀j,j < m->∃y∈G x,num y=tH j)->(∀y∈G x,num y≠tH m)->∃y∈G x,num y=r4/\∀z∈G y,num z≠tH m
section
variable{β:Type}(M:β->List β)
mutual
inductive JK:β->Prop
 | mk {a:β} (h:∀b∈M a,Won b):JK a
inductive Won:β->Prop
 | mk {a b:β} (m:b∈M a) (h:JK b):Won a
end
end
def mv:List α->List (List α)
 | []=>[]
 | x::h=>(G x).map (λy=>y::h)++(mv h).map (λb=>x::b)
def j6:∀{a b:List α},b∈mv G a↔∃p x y q,a=p++x::q/\y∈G x/\b=p++y::q
 | [],b=>by
  constructor
  ·intro h;simp [mv]at h
  ·rintro⟨p,x,y,q,e,_⟩;simp at e
 | x::h,b=>by
  unfold mv;rw[tU,tc,tc];constructor
  ·rintro(⟨y,hy,rfl⟩ | ⟨b',hb,rfl⟩)
   ·exact{[],x,y,h,s0,hy,s0}
   ·let{p,u,y,q,rfl,hy,rfl}:=j6.mp hb;exact{x::p,u,y,q,s0,hy,s0}
  ·rintro⟨p,u,y,q,e,hy,rfl⟩;cases p with
   | nil=>
    cases e;calc .inl ({y,hy,s0})
   | cons v p=>
    cases e;exact .inr ({p++y::q,j6.mpr ({p,u,y,q,s0,hy,s0}),s0})
variable{G}{ok:α->Prop}{num:α->Option Nat}{e_:α->Nat}
def QB(num:α->Option Nat)(h:List α):List Nat:=h.filterMap num
def ends(num:α->Option Nat)(h:List α):Nat:=(h.filter λx=>(num x).isNone).length
def vr(a b:List Nat):Qw (a++b)=Qw a^^^Qw b:=by
 induction a with
 | nil=>show Qw b=0^^^Qw b;rw[zbU]
 | cons x a d=>rw[zdh,zz,d,zz,zaJ]
def QX{p q:List α}{x:α}{n:Nat}(h:num x=tH n):Qw (QB num (p++x::q))=n^^^Qw (QB num (p++q)):=by
 unfold QB;rw[zaz,t8,h,zaz,vr,vr];show _^^^ (n^^^Qw _)=_;rw[<-zaJ,zcx _ n,zaJ]
def WO{p q:List α}{x:α}(h:num x=r4):QB num (p++x::q)=QB num (p++q):=by
 unfold QB;rw[zaz,t8,h,zaz]
def j9{p q:List α}{x:α}{n:Nat}(h:num x=tH n):ends num (p++x::q)=ends num (p++q):=by
 unfold ends;rw[zaF,zbn,h,zaF];rfl
def Qv{p q:List α}{x:α}(h:num x=r4):ends num (p++x::q)=ends num (p++q)+1:=by
 unfold ends;rw[zaF,zbn,h,zaF,tz,tz];show _+(_+1)=_;omega
def yG(e_:α->Nat)(h:List α):Nat:=(h.map e_).sum
def zx{p q:List α}{x:α}:yG e_ (p++x::q)=e_ x+yG e_ (p++q):=by
 unfold yG;rw[tj,tR,zbV,zau,tj,zbV];omega
def Yf{a b c:Nat}(h:a^^^c=b^^^c):a=b:=by
 let:a^^^c^^^c=b^^^c^^^c:=by rw[h]
 rwa [zaJ,zaJ,zaT,zbl,zbl]at this
def Us(L:Zw G ok num e_){h:List α}(d:∀x∈h,ok x){m:Nat}(lt:m < Qw (QB num h)):∃p x y q,h=p++x::q/\y∈G x/\(∃n k,num x=tH n/\num y=tH k)/\Qw (QB num (p++y::q))=m/\e_ y < e_ x:=by
 let{n,b,i}:=Km lt;let{x,a,ex}:=zaf.mp b;let{p,q,rfl}:=zcs a;let{y,j,b,l}:=L.n1 (d x a) ex i;calc{p,x,y,q,s0,j,{n,_,ex,b},?_,l};rw[QX b,QX ex];generalize Qw (QB num (p++q))=r;rw[<-zaJ n n r,zaT,zbU,zcx r m,zaJ,zaT,zbl]
def z5{h p q:List α}{x y:α}(L:Zw G ok num e_)(b:∀x∈h,ok x)(e:h=p++x::q)(d:y∈G x):∀z∈p++y::q,ok z:=λz a=>by
 subst e;rcases tU.mp a with a | a
 ·exact b z (zaa _ a)
 ·rcases tO.mp a with rfl | a
  ·exact L.cl (b x {}) d
  ·calc b z (t3 _ (tI _ a))
def Gh(L:Zw G ok num e_):∀(c:Nat) {h:List α},yG e_ h<=c->(∀x∈h,ok x)->ends num h=0->Qw (QB num h)=0->JK (mv G) h:=by
 intro c;induction c using zcr with
 | _ c u=>
  intro h v d i l;calc .mk λb o=>?_;let{a,x,y,q,rfl,j,rfl}:=(j6 G).mp o;let o:=d x {};let p:=z5 L d rfl j;cases ex:num x with
  | none=>rw[Qv ex]at i;omega
  | some n=>
   rw[j9 ex]at i;rw[QX ex]at l;rw[zx]at v;let v:(∀m,num y=tH m->n < m)->Won (mv G) (a++y::q):=λgt=>by
    let{z,d,B,_}:=L.n3 o ex j gt;refine .mk ((j6 G).mpr ({a,y,z,q,s0,d,s0})) (u (yG e_ (a++z::q)) (by rw[zx];omega) (ti _) (z5 L p rfl d) (by rw[j9 B];calc i) (by rw[QX B];calc l))
   cases d:num y with
   | none=>exact v λm h=>by rw[d]at h;cases h
   | some k=>
    rcases zaS k n with lt | rfl | gt
    ·let B:=L.n4 o ex j d lt;let pos:0 < Qw (QB num (a++y::q)):=by
      rw[QX d];calc zdY λz=>?_;let:=Yf (z.trans l.symm);omega
     obtain⟨B,O,C,D,l,H,⟨_,_,Q,T⟩,U,_⟩:=Us L p pos;let ce:yG e_ (a++y::q)=e_ y+yG e_ (a++q):=zx;rw[l,zx]at ce;let J:ends num (a++y::q)=0:=by rw[j9 d];exact i
     calc .mk ((j6 G).mpr ({B,O,C,D,l,H,s0})) (u (yG e_ (B++C::D)) (by rw[zx];omega) (ti _) (z5 L p l H) ?_ U);rw[l,j9 Q]at J;rw[j9 T];exact J
    ·exact absurd d (L.n2 o ex j)
    ·exact v λm h=>by rw[d]at h;cases h;calc gt
def Drawn(G:α->List α)(num:α->Option Nat)(h:List α):Prop:=(∃a x q,h=a++x::q/\num x=r4/\ends num (a++q)=0/\∀y∈G x,num y≠tH (Qw (QB num (a++q))))\/2<=ends num h
def zw{h:List α}:0 < ends num h↔∃p x q,h=p++x::q/\num x=r4:=by
 unfold ends;constructor
 ·intro c;let{x,a}:=zbS c;let{b,d}:=tV.mp a;let{p,q,e}:=zcs b;exact{p,x,q,e,by simpa using d}
 ·rintro⟨p,x,q,rfl,ex⟩;calc zbb (a:=x) (tV.mpr ({{},by rw[ex];rfl}))
def lack(L:Zw G ok num e_){x:α}(p:ok x)(ex:num x=r4):∃m,(∀j,j < m->∃y∈G x,num y=tH j)/\(∀y∈G x,num y≠tH m)/\∃y∈G x,num y=r4/\∀z∈G y,num z≠tH m:=by
 let ⟨b,u⟩:∃b,∀y∈G x,num y≠tH b:=by
  calc{(QB num (G x)).sum+1,λy i e=>?_};let:∀(d:List Nat) (n:Nat),n∈d->n<=d.sum:=by
   intro d;induction d with
   | nil=>intro n h;cases h
   | cons a d l=>
    intro n h;rw[zau];rcases tO.mp h with rfl | h
    ·omega
    ·let:=l n h;omega
  let q:(QB num (G x)).sum+1∈QB num (G x):=zaf.mpr ({y,i,e});let:=this _ _ q;omega
 let ⟨m,o,v⟩:∃m,(∀y∈G x,num y≠tH m)/\∀j,j < m->¬∀y∈G x,num y≠tH j:=by
  induction b using zcr with
  | _ b l=>
   by_cases c:∃j,j < b/\∀y∈G x,num y≠tH j
   ·let{j,d,h}:=c;exact l j d h
   ·exact{b,u,λj d h=>c ({j,d,h})}
 let lo:∀j,j < m->∃y∈G x,num y=tH j:=λj d=>Classical.byContradiction λn=>v j d λy i e=>n ({y,i,e});calc{m,lo,o,L.e p ex lo o}
def A7(L:Zw G ok num e_){h:List α}(D:∀x∈h,ok x)(d:Drawn G num h):∃b∈mv G h,Drawn G num b:=by
 rcases d with ⟨a,x,q,rfl,ex,T,no⟩ | two
 ·let i:=D x {};let{m,lo,Y,y,H,J,U}:=lack L i ex;rcases zaS m (Qw (QB num (a++q))) with lt | e | gt
  ·let j:∀z∈a++q,ok z:=λz i=>D z (by
    rcases tU.mp i with i | i
    ·exact zaa _ i
    ·calc t3 _ (tI _ i))
   obtain⟨O,Q,i,l,v,o,⟨_,_,en,ek⟩,x0,_⟩:=Us L j lt;let gF:∃B C,a++x::q∈[a++x::q]/\(B++x::C)∈mv G (a++x::q)/\B++C=O++i::l:=by
    rcases List.append_eq_append_iff.mp v with ⟨r,p,j⟩ | ⟨r,p,j⟩
    ·
     exists a,r++i::l,{},(j6 G).mpr ({a++x::r,Q,i,l,?_,o,?_})
     ·rw[j];simp
     ·simp
     ·rw[p];simp
    ·
     cases r with
     | nil=>
      simp at p j;exists a,i::l,{},(j6 G).mpr ({a++[x],Q,i,l,?_,o,?_})
      ·rw[<-j];simp
      ·simp
      ·rw[p]
     | cons u r=>
      rw[zdh]at j;let{rfl,l}:=zbY.inj j;exists O++i::r,q,{},(j6 G).mpr ({O,Q,i,r++x::q,?_,o,?_})
      ·rw[p];simp
      ·simp
      ·rw[l];simp
   let{B,C,_,l,j}:=gF;refine{_,l,.inl ({B,x,C,s0,ex,?_,?_})}
   ·rw[j,j9 ek];rwa [v,j9 en]at T
   ·rwa [j,x0]
  ·exact{a++y::q,(j6 G).mpr ({a,x,y,q,s0,H,s0}),.inl ({a,y,q,s0,J,T,e▸U})}
  ·let{i,o,v}:=lo _ gt;exact absurd v (no i o)
 ·let{a,x,q,rfl,ex}:=zw.mp (by omega:0 < ends num h);let{m,lo,Y,y,H,J,U}:=lack L (D x {}) ex;calc{a++y::q,(j6 G).mpr ({a,x,y,q,s0,H,s0}),.inr ?_};rw[Qv ex]at two;rwa [Qv J]
def Xp(num:α->Option Nat)(h:List α):Prop:=ends num h=0/\Qw (QB num h)=0
def Kl(L:Zw G ok num e_){h b:List α}(j:∀x∈h,ok x)(z:Xp num h)(m:b∈mv G h):¬Xp num b:=λw=>by
 let{_,x,y,q,rfl,l,rfl}:=(j6 G).mp m;cases ex:num x with
 | none=>have:=z.1;rw[Qv ex]at this;omega
 | some n=>
  cases a:num y with
  | none=>have:=w.1;rw[Qv a]at this;omega
  | some k=>
   let d:=z.2;let i:=w.2;rw[QX ex]at d;rw[QX a]at i;let:=Yf (d.trans i.symm);subst this;calc L.n2 (j x {}) ex l a
def Vc{h b:List α}(d:Drawn G num h)(m:b∈mv G h):¬Xp num b:=λw=>by
 let{p,u,y,v,rfl,z,rfl}:=(j6 G).mp m;cases l:num u with
 | some n=>
  let pos:0 < ends num (p++u::v):=by
   rcases d with ⟨j,x,q,e,ex,_⟩ | two
   ·exact zw.mpr ({j,x,q,e,ex})
   ·omega
  rw[j9 l]at pos;let o:=w.1;cases i:num y with
  | none=>rw[Qv i]at o;omega
  | some k=>rw[j9 i]at o;omega
 | none=>
  let o:=w.1;cases i:num y with
  | none=>rw[Qv i]at o;omega
  | some k=>
   rw[j9 i]at o;rcases d with ⟨j,x,q,e,ex,o,no⟩ | two
   ·let hu:u∈j++x::q:=by rw[<-e];simp
    let o:=Classical.byContradiction λne=>by
     let:u∈j++q:=by
      rcases tU.mp hu with h | h
      ·exact zaa _ h
      ·rcases tO.mp h with h | h
       ·exact absurd h ne
       ·exact t3 _ h
     let{a,b,B}:=zcs this;let:=zw.mpr ({a,u,b,B,l});omega
    subst o;let B:QB num (p++v)=QB num (j++q):=by rw[<-WO (p:=p) (q:=v) l,e,WO l]
    let o:=w.2;rw[QX i,B]at o;let:k=Qw (QB num (j++q)):=Yf (by rw[o,zaT]);exact no y z (by rw[i,this])
   ·rw[Qv l]at two;omega
def kind(L:Zw G ok num e_){h:List α}(l:∀x∈h,ok x):Xp num h\/Drawn G num h\/∃b∈mv G h,Xp num b/\∀x∈b,ok x:=by
 rcases zaS (ends num h) 1 with c | c | c
 ·let j:ends num h=0:={}
  by_cases m:Qw (QB num h)=0
  ·exact .inl ({j,m})
  ·obtain⟨a,x,y,q,e,i,⟨n,k,o,p⟩,u,_⟩:=Us L l (zdY m);calc .inr (.inr ({a++y::q,(j6 G).mpr ({a,x,y,q,e,i,s0}),{?_,u},z5 L l e i}));rw[e,j9 o]at j;rwa [j9 p]
 ·let{a,x,q,rfl,ex}:=zw.mp (by omega:0 < ends num h);rw[Qv ex]at c;let j:ends num (a++q)=0:={}
  by_cases d:∃y∈G x,num y=tH (Qw (QB num (a++q)))
  ·let{y,i,m}:=d;exact .inr (.inr ({a++y::q,(j6 G).mpr ({a,x,y,q,s0,i,s0}),{by rw[j9 m];exact j,by rw[QX m,zaT]},z5 L l rfl i}))
  ·exact .inr (.inl (.inl ({a,x,q,s0,ex,j,λy i e=>d ({y,i,e})})))
 ·exact .inr (.inl (.inr {}))
mutual
def uQ(L:Zw G ok num e_){h:List α}(i:∀x∈h,ok x):JK (mv G) h->Xp num h
 | .mk w=>by
  rcases kind L i with z | d | ⟨b,a,z,j⟩
  ·exact z
  ·let{b,a,l}:=A7 L i d;let j:∀x∈b,ok x:=by
    let{_,x,y,q,e,m,rfl}:=(j6 G).mp a;exact z5 L i e m
   exact absurd l (won_is L j (w b a)).1
  ·calc absurd z (won_is L j (w b a)).2
def won_is(L:Zw G ok num e_){h:List α}(a:∀x∈h,ok x):Won (mv G) h->¬Drawn G num h/\¬Xp num h
 | .mk (b:=b) m i=>by
  let j:∀x∈b,ok x:=by
   let{_,x,y,q,e,l,rfl}:=(j6 G).mp m;exact z5 L a e l
  let z:=uQ L j i;calc{λd=>Vc d m z,λi=>Kl L a i m z}
end
def zm(L:Zw G ok num e_){h:List α}(a:∀x∈h,ok x):JK (mv G) h↔Xp num h:={uQ L a,λz=>Gh L _ (ti _) a z.1 z.2}
def BB(L:Zw G ok num e_){h:List α}(i:∀x∈h,ok x):Won (mv G) h↔¬Drawn G num h/\¬Xp num h:=⟨won_is L i,λ⟨d,z⟩=>by
 rcases kind L i with a | j | ⟨b,l,a,m⟩
 ·exact absurd a z
 ·exact absurd j d
 ·calc .mk l ((zm L m).mpr a)⟩
end
section
variable{α:Type}[DecidableEq α](G:α->List α)(N:List α)
abbrev Rs(α:Type):=List (Nat×List α)
def qO(rs:Rs α)(z:α):Option Nat:=(rs.find? λr=>decide (z∈r.2)).map (·.1)
def zc(rs:Rs α)(z:α):Nat:=rs.findIdx λr=>decide (z∈r.2)
def ED(f:α->Option Nat)(x:α)(n:Nat):Prop:=(∀a,a < n->∃y∈G x,f y=tH a)/\(∀y∈G x,f y≠tH n)/\∀y∈G x,f y=r4->∃z∈G y,f z=tH n
structure vp(rs:Rs α)(n:Nat)(ns:List α):Prop where
 iff:∀x,x∈ns↔x∈N/\qO rs x=r4/\ED G (qO rs) x n
 sub:ns.Sublist N
inductive JL(n:Nat):Rs α->Rs α->Prop
 | stop {rs:Rs α} (h:vp G N rs n []):JL n rs rs
 | more {rs rs':Rs α} {ns:List α} (h:vp G N rs n ns) (ne:ns≠[]) (k:JL n (rs++[(n,ns)]) rs'):JL n rs rs'
inductive All:Nat->Rs α->Rs α->Prop
 | stop {n:Nat} {rs:Rs α} (h:vp G N rs n []):All n rs rs
 | more {n:Nat} {rs rs' hF:Rs α} (h:JL G N n rs rs') (ne:rs'≠rs) (k:All (n+1) rs' hF):All n rs hF
variable{G N}
def Zh{rs:Rs α}{n:Nat}{ns:List α}{z:α}:qO (rs++[(n,ns)]) z=match qO rs z with | some m=>tH m | none=>if z∈ns then tH n else r4:=by
 unfold qO;rw[List.find?_append];cases e:rs.find? (λr=>decide (z∈r.2)) with
 | some r=>rfl
 | none=>
  by_cases c:z∈ns
  ·simp [c]
  ·simp [c]
def Wd{rs:Rs α}{z:α}:qO rs z=r4↔∀r∈rs,z∉r.2:=by
 unfold qO;rw[Option.map_eq_none_iff,zcU];simp
def ZL{rs:Rs α}{n m:Nat}{ns:List α}{z:α}(h:qO rs z=tH m):zc (rs++[(n,ns)]) z=zc rs z/\zc rs z < rs.length:=by
 let ex:∃r∈rs,z∈r.2:=Classical.byContradiction λno=>by
  let:=Wd.mpr λr hr a=>no ({r,hr,a});rw[h]at this;cases this
 let{r,hr,a}:=ex;let lt:zc rs z < rs.length:=List.findIdx_lt_length_of_exists ({r,hr,decide_eq_true a});calc{?_,lt};unfold zc at lt ⊢;rw[zdM,if_pos lt]
def CJ{rs:Rs α}{n:Nat}{ns:List α}{z:α}(h:qO rs z=r4)(hz:z∈ns):zc (rs++[(n,ns)]) z=rs.length:=by
 let e:zc rs z=rs.length:=by
  unfold zc;rw[List.findIdx_eq_length];exact λr hr=>decide_eq_false (Wd.mp h r hr)
 unfold zc at e ⊢;rw[zdM,if_neg (by rw[e];calc zaH _)];simp [hz,List.findIdx_cons]
variable(G N) in
structure Ey(rs:Rs α)(n:Nat):Prop where
 inN:∀{x m},qO rs x=tH m->x∈N
 le:∀{x m},qO rs x=tH m->m<=n
 n1:∀{x k m},qO rs x=tH k->m < k->∃y∈G x,qO rs y=tH m/\zc rs y < zc rs x
 n2:∀{x y k},qO rs x=tH k->y∈G x->qO rs y≠tH k
 n3:∀{x y k},qO rs x=tH k->y∈G x->(∀m,qO rs y=tH m->k < m)->∃z∈G y,qO rs z=tH k/\zc rs z < zc rs x
 n4:∀{x y k m},qO rs x=tH k->y∈G x->qO rs y=tH m->m < k->zc rs y < zc rs x
def Yz{rs:Rs α}{n m:Nat}{ns:List α}{z:α}(h:qO rs z=tH m):qO (rs++[(n,ns)]) z=tH m:=by rw[Zh,h]
def F8{rs:Rs α}{n:Nat}{ns:List α}{z:α}(h:qO rs z=r4)(hz:z∈ns):qO (rs++[(n,ns)]) z=tH n:=by
 rw[Zh,h];calc if_pos hz
def QZ{rs:Rs α}{n m:Nat}{ns:List α}{z:α}(h:qO (rs++[(n,ns)]) z=tH m):(qO rs z=tH m/\zc (rs++[(n,ns)]) z=zc rs z/\zc rs z < rs.length)\/(qO rs z=r4/\z∈ns/\m=n/\zc (rs++[(n,ns)]) z=rs.length):=by
 cases e:qO rs z with
 | some k=>
  rw[Yz e]at h;cases h;calc .inl ({s0,ZL e})
 | none=>
  rw[Zh,e]at h;by_cases c:z∈ns
  ·let h:=h;rw[if_pos c]at h;cases h;exact .inr ({s0,c,s0,CJ e c})
  ·let h:=h;rw[if_neg c]at h;cases h
def A2{rs:Rs α}{n:Nat}{ns:List α}{z:α}(h:qO (rs++[(n,ns)]) z=r4):qO rs z=r4:=by
 cases e:qO rs z with
 | none=>rfl
 | some k=>rw[Yz e]at h;cases h
def Ey.more{rs:Rs α}{n:Nat}{ns:List α}(v:Ey G N rs n)(r:vp G N rs n ns):Ey G N (rs++[(n,ns)]) n:=by
 refine{λ{x m} h=>?_,λ{x m} h=>?_,λ{x k m} h lt=>?_,λ{x y k} h a e=>?_,λ{x y k} h a gt=>?_,λ{x y k m} h a b lt=>?_}
 ·rcases QZ h with ⟨h,_⟩ | ⟨_,h,_⟩
  ·exact v.inN h
  ·exact((r.iff x).mp h).1
 ·rcases QZ h with ⟨h,_⟩ | ⟨_,_,rfl,_⟩
  ·exact v.le h
  ·exact ti _
 ·rcases QZ h with ⟨h,d,_⟩ | ⟨h,l,rfl,d⟩
  ·let{y,a,b,_}:=v.n1 h lt;exact{y,a,Yz b,by rwa [d,(ZL b).1]}
  ·let{y,a,b}:=((r.iff x).mp l).2.2.1 m lt;exact{y,a,Yz b,by rw[d,(ZL b).1];calc(ZL (n:=k) (ns:=ns) b).2}
 ·rcases QZ h with ⟨h,_⟩ | ⟨h,l,rfl,_⟩
  ·rcases QZ e with ⟨e,_⟩ | ⟨p,o,u,_⟩
   ·exact v.n2 h a e
   ·let{z,j,i,_}:=v.n3 h a (λm q=>by rw[p]at q;cases q);rw[u]at i;exact((r.iff y).mp o).2.2.2.1 z j i
  ·let g:=((r.iff x).mp l).2.2;rcases QZ e with ⟨e,_⟩ | ⟨e,o,_,_⟩
   ·exact g.2.1 y a e
   ·let{z,j,i}:=g.2.2 y a e;exact((r.iff y).mp o).2.2.2.1 z j i
 ·rcases QZ h with ⟨h,d,_⟩ | ⟨h,l,rfl,d⟩
  ·let{z,j,i,_}:=v.n3 h a (λm q=>gt m (Yz q));exact{z,j,Yz i,by rwa [d,(ZL i).1]}
  ·let bare:qO rs y=r4:=by
    cases e:qO rs y with
    | none=>rfl
    | some m=>
     let:=gt m (Yz e);let:=v.le e;omega
   let{z,j,i}:=((r.iff x).mp l).2.2.2.2 y a bare;exact{z,j,Yz i,by rw[d,(ZL i).1];calc(ZL (n:=k) (ns:=ns) i).2}
 ·rcases QZ h with ⟨h,d,_⟩ | ⟨h,l,rfl,d⟩
  ·rcases QZ b with ⟨b,i,_⟩ | ⟨_,_,em,_⟩
   ·rw[d,i];exact v.n4 h a b lt
   ·let:=v.le h;omega
  ·rcases QZ b with ⟨b,i,a⟩ | ⟨_,_,rfl,_⟩
   ·rwa [d,i]
   ·omega
variable(G N) in
def EP(rs:Rs α)(m:Nat):Prop:=∀x∈N,qO rs x=r4->(∀a,a < m->∃y∈G x,qO rs y=tH a)->(∀y∈G x,qO rs y≠tH m)->∃y∈G x,qO rs y=r4/\∀z∈G y,qO rs z≠tH m
def A5{rs:Rs α}{n:Nat}(r:vp G N rs n []):EP G N rs n:=λx a e lo b=>Classical.byContradiction λno=>by
 calc absurd ((r.iff x).mpr ({a,e,lo,b,λy a b=>Classical.byContradiction λq=>no ({y,a,b,λz a b=>q ({z,a,b})})})) {}
def Ek{rs:Rs α}{n m:Nat}{ns:List α}(v:Ey G N rs n)(r:vp G N rs n ns)(lt:m < n)(h:EP G N rs m):EP G N (rs++[(n,ns)]) m:=λx o e lo p=>by
 let gy:∀{z b},b<=m->qO (rs++[(n,ns)]) z=tH b->qO rs z=tH b:=λ{z b} j a=>by
  rcases QZ a with ⟨a,_⟩ | ⟨_,_,rfl,_⟩
  ·exact a
  ·omega
 let{y,d,i,l}:=h x o (A2 e) (λb j=>let ⟨y,d,i⟩:=lo b j;({y,d,gy {} i})) (λy d i=>p y d (Yz i));calc{y,d,?_,λz b a=>l z b (gy (ti _) a)};cases q:qO (rs++[(n,ns)]) y with
 | none=>rfl
 | some k=>
  rcases QZ q with ⟨q,_⟩ | ⟨_,d,rfl,_⟩
  ·rw[i]at q;cases q
  ·let{z,b,a}:=((r.iff y).mp d).2.2.1 m lt;calc absurd a (l z b)
def Ee{n:Nat}{rs a:Rs α}(g:JL G N n rs a):Ey G N rs n->(∀m,m < n->EP G N rs m)->Ey G N a n/\∀m,m<=n->EP G N a m:=by
 induction g with
 | stop r=>exact λv h=>⟨v,λm a=>by
  rcases zcO m n with c | c
  ·exact h m c
  ·let:m=n:={}
   subst this;calc A5 r⟩
 | more r ne k b=>calc λv h=>b (v.more r) λm a=>Ek v r a (h m a)
def LG(cl:∀x∈N,∀y∈G x,y∈N){n:Nat}{rs b:Rs α}(a:All G N n rs b):Ey G N rs n->(∀x m,qO rs x=tH m->m < n)->(∀m,m < n->EP G N rs m)->Zw G (·∈N) (qO b) (zc b):=by
 induction a with
 | @stop n rs r=>
  calc λv lt h=>{λ{x y} b d=>cl x b y d,λ{x n m} _=>v.n1,λ{x y n} _=>v.n2,λ{x y n} _=>v.n3,λ{x y n m} _=>v.n4,λ{x m} b e lo d=>?_};rcases zaS m n with c | rfl | c
  ·exact h m c x b e lo d
  ·exact A5 r x b e lo d
  ·let{y,_,b}:=lo n c;let:=lt y n b;omega
 | @more n rs b i g ne k d=>
  intro v lt h;let{b,i}:=Ee g v h;calc d ({b.inN,λ{x m} e=>Nat.le_succ_of_le (b.le e),b.n1,b.n2,b.n3,b.n4}) (λx m e=>Nat.lt_succ_of_le (b.le e)) λm _=>i m {}
def BF(n:Nat):Ey G N ([]:Rs α) n:={λh=>(nomatch h),λh=>(nomatch h),λh=>(nomatch h),λh=>(nomatch h),λh=>(nomatch h),λh=>(nomatch h)}
def Xb(cl:∀x∈N,∀y∈G x,y∈N){rs:Rs α}(a:All G N 0 [] rs):Zw G (·∈N) (qO rs) (zc rs):=LG cl a (BF 0) (λx m h=>(nomatch h)) λm h=>absurd h (zdB m)
end
end MLab
namespace Rb
def QK{b n k:Nat}(i:n < 16):(turnN b n 16).testBit k=(decide (k < 16)&&b.testBit (k^^^n)):=by
 unfold turnN;rw[testBit_setN,zaB,decide_eq_true_iff,zaw,decide_eq_true_iff,tc];constructor
 ·rintro⟨y,j,rfl⟩;let{a,d}:=mem_memN.mp j;exact{xor_lt (m:=4) a i,by rw[wk];calc d}
 ·rintro⟨a,d⟩;calc{k^^^n,mem_memN.mpr ({xor_lt (m:=4) a i,d}),wk k n}
def Kw{b x y:Nat}(d:x < 16)(a:y < 16):turnN (turnN b x 16) y 16=turnN b (x^^^y) 16:=by
 calc zbu λk=>?_;rw[QK a,QK d,QK (xor_lt (m:=4) d a),zaJ,zcx y x];by_cases d:k < 16
 ·rw[decide_eq_true d,decide_eq_true (xor_lt (m:=4) d a)];simp
 ·rw[decide_eq_false d];simp
def Kr{b:Nat}(a:b < 65536):turnN b 0 16=b:=by
 unfold turnN;let e:((memN b 16).map λx=>x^^^0)=memN b 16:={}
 rw[e];calc ue a
def Rt(n:Nat):turnN 0 n 16=0:=by
 unfold turnN;let e:memN 0 16=[]:={}
 rw[e];rfl
inductive W where
 | num (n:Nat)
 | edl (b:Nat)
deriving DecidableEq
def jm:W->W->W
 | .num a,.num b=>.num (a^^^b)
 | .num a,.edl b=>.edl (turnN b a 16)
 | .edl b,.num a=>.edl (turnN b a 16)
 | .edl _,.edl _=>.edl 0
def YO:W->Prop
 | .num n=>n < 16
 | .edl b=>b < 65536
def Zd(a:List W):List Nat:=a.filterMap λ| .num n=>tH n | .edl _=>r4
def JD(a:List W):List Nat:=a.filterMap λ| .num _=>r4 | .edl b=>tH b
def Qk(a:List W):W:=match JD a with
 | []=>.num (jW (Zd a))
 | [b]=>.edl (turnN b (jW (Zd a)) 16)
 | _=>.edl 0
def Dh{a b:W}(d:YO a)(i:YO b):YO (jm a b):=by
 cases a<;>cases b
 ·exact xor_lt (m:=4) d i
 ·exact XQ (k:=4) (ti _) d
 ·exact XQ (k:=4) (ti _) i
 ·show 0 < 65536;decide
def Ud(ns:List Nat):∀a,ns.foldl (·^^^ ·) a=a^^^jW ns:=by
 induction ns with
 | nil=>intro a;simp [jW]
 | cons n ns b=>
  intro a;unfold jW;rw[zcI,zcI,b (a^^^n),b (0^^^n),zbU,zaJ]
def QC(n:Nat)(ns:List Nat):jW (n::ns)=n^^^jW ns:=by
 show ns.foldl (·^^^ ·) (0^^^n)=_;rw[Ud,zbU]
def Vp(a b:List Nat):jW (a++b)=jW a^^^jW b:=by
 show (a++b).foldl (·^^^ ·) 0=_;rw[zbM,Ud b];rfl
def yQ(a:List Nat):jW a.reverse=jW a:=by
 induction a with
 | nil=>rfl
 | cons n a b=>
  let e:jW [n]=n:=by
   show 0^^^n=n;rw[zbU]
  rw[zdb,Vp,b,e,QC,zcx]
def YP{ns:List Nat}(h:∀x∈ns,x < 16):jW ns < 16:=by
 induction ns with
 | nil=>decide
 | cons n ns a=>
  rw[QC];calc xor_lt (m:=4) (h n (tK ..)) (a λx a=>h x (tI _ a))
def uN{a:List W}(h:∀w∈a,YO w):∀x∈Zd a,x < 16:=by
 intro x a;let{w,d,e}:=zaf.mp a;cases w with
 | num n=>cases e;calc h _ d
 | edl b=>cases e
def Ga(a:List W)(w:W):Zd (a++[w])=Zd a++(match w with | .num n=>[n] | .edl _=>[]):=by
 unfold Zd;rw[zaz];cases w<;>rfl
def KE(a:List W)(w:W):JD (a++[w])=JD a++(match w with | .num _=>[] | .edl b=>[b]):=by
 unfold JD;rw[zaz];cases w<;>rfl
def Rv{a:List W}{w:W}(h:∀w∈a,YO w)(d:YO w):Qk (a++[w])=jm (Qk a) w:=by
 unfold Qk;rw[KE,Ga];cases w with
 | num n=>
  simp only[zal];let e:jW (Zd a++[n])=jW (Zd a)^^^n:=vt _ _;cases i:JD a with
  | nil=>simp only[e];rfl
  | cons b r=>
   cases r with
   | nil=>
    simp only[e];show W.edl _=W.edl _;rw[Kw (YP (uN h)) d]
   | cons c r=>
    show W.edl 0=W.edl _;rw[Rt]
 | edl b=>
  simp only[zal];cases i:JD a with
  | nil=>rfl
  | cons c r=>
   cases r with
   | nil=>rfl
   | cons a r=>rfl
def yZ{a:List W}(h:∀w∈a,YO w):YO (Qk a):=by
 let a:=YP (uN h);unfold Qk;split
 ·exact a
 ·exact XQ (k:=4) (ti _) a
 ·show 0 < 65536;decide
def AX{a:List W}(h:∀w∈a,YO w):∀i,i<=a.length->(a.take i).foldl jm (.num 0)=Qk (a.take i):=by
 intro i;induction i with
 | zero=>intro _;rfl
 | succ i d=>
  intro j;let b:=j;let e:a.take (i+1)=a.take i++[a[i]]:=by rw[tE,tv b];rfl
  rw[e,zbM,d (zab b),Rv (λw a=>h w (zbN a)) (h _ (zbo b))];rfl
def yz{a:List W}(h:∀w∈a,YO w):a.foldl jm (.num 0)=Qk a:=by
 let:=AX h a.length (ti _);rwa [tu (ti _)]at this
def BK(a:List W):Qk a.reverse=Qk a:=by
 let d:JD a.reverse=(JD a).reverse:=by unfold JD;rw[zdw]
 let i:Zd a.reverse=(Zd a).reverse:=by unfold Zd;rw[zdw]
 unfold Qk;rw[d,i,yQ];cases d:JD a with
 | nil=>rfl
 | cons b r=>
  cases r with
  | nil=>rfl
  | cons c r=>
   cases hr:(b::c::r).reverse with
   | nil=>have:=congrArg zat hr;simp at this
   | cons x y=>
    cases y with
    | nil=>have:=congrArg zat hr;simp at this
    | cons a d=>rfl
def BJ(a b:W):Qk [a,b]=jm a b:=by
 cases a<;>cases b
 ·show W.num (jW [_,_])=_;rw[QC,QC];show W.num (_^^^ (_^^^0))=_;rw[zbl];rfl
 ·show W.edl (turnN _ (jW [_]) 16)=_;rw[QC];show W.edl (turnN _ (_^^^0) 16)=_;rw[zbl];rfl
 ·show W.edl (turnN _ (jW [_]) 16)=_;rw[QC];show W.edl (turnN _ (_^^^0) 16)=_;rw[zbl];rfl
 ·rfl
end Rb
namespace MLab
section
variable{α:Type}(G:α->List α)
def mvs(b:α×Nat):List (α×Nat):=(G b.1).map (λy=>(y,b.2))++(zae b.2).map λk=>(b.1,k)
def gS:α ⊕ Nat->List (α ⊕ Nat)
 | .inl z=>(G z).map .inl
 | .inr h=>(zae h).map .inr
def Yp(num:α->Option Nat):α ⊕ Nat->Option Nat
 | .inl z=>num z
 | .inr h=>tH h
def S0(e_:α->Nat):α ⊕ Nat->Nat
 | .inl z=>e_ z
 | .inr h=>h
def T8(ok:α->Prop):α ⊕ Nat->Prop
 | .inl z=>ok z
 | .inr _=>True
variable{G}{ok:α->Prop}{num:α->Option Nat}{e_:α->Nat}
def La(L:Zw G ok num e_):Zw (gS G) (T8 ok) (Yp num) (S0 e_) where
 cl:=λ{x y} b a=>by
  cases x with
  | inl z=>
   let{j,d,rfl}:=tc.mp a;calc L.cl b d
  | inr h=>
   let{k,_,rfl}:=tc.mp a;trivial
 n1:=λ{x n m} b e lt=>by
  cases x with
  | inl z=>
   let{y,a,i,o}:=L.n1 b e lt;calc{.inl y,tc.mpr ({y,a,s0}),i,o}
  | inr h=>
   obtain rfl:h=n:=tH.inj e;exact{.inr m,tc.mpr ({m,zaD.mpr lt,s0}),s0,lt}
 n2:=λ{x y n} b e a=>by
  cases x with
  | inl z=>
   let{j,d,rfl}:=tc.mp a;calc L.n2 b e d
  | inr h=>
   let{k,l,rfl}:=tc.mp a;obtain rfl:h=n:=tH.inj e;intro q;let:k=h:=tH.inj q;let:=zaD.mp l;omega
 n3:=λ{x y n} b e a gt=>by
  cases x with
  | inl z=>
   let{j,d,rfl}:=tc.mp a;let{u,hu,p,v}:=L.n3 b e d gt;calc{.inl u,tc.mpr ({u,hu,s0}),p,v}
  | inr h=>
   let{k,l,rfl}:=tc.mp a;obtain rfl:h=n:=tH.inj e;let:=gt k rfl;let:=zaD.mp l;omega
 n4:=λ{x y n m} b e a i lt=>by
  cases x with
  | inl z=>
   let{j,d,rfl}:=tc.mp a;calc L.n4 b e d i lt
  | inr h=>
   let{k,l,rfl}:=tc.mp a;exact zaD.mp l
 e:=λ{x m} b e lo l=>by
  cases x with
  | inl z=>
   let{y,a,i,o}:=L.e b e (λp v=>by
    let{y,a,i}:=lo p v;let{j,d,rfl}:=tc.mp a;calc{j,d,i}) (λy a=>l (.inl y) (tc.mpr ({y,a,s0})))
   calc{.inl y,tc.mpr ({y,a,s0}),i,λu hu=>?_};let{a,b,rfl}:=tc.mp hu;calc o a b
  | inr h=>cases e
def two(b:α×Nat):List (α ⊕ Nat):=[.inl b.1,.inr b.2]
def Uq{b:α×Nat}{c:List (α ⊕ Nat)}:c∈mv (gS G) (two b)↔∃j∈mvs G b,c=two j:=by
 unfold two mvs;rw[j6];constructor
 ·rintro⟨a,x,y,q,e,d,rfl⟩;cases a with
  | nil=>
   cases e;let{i,l,rfl}:=tc.mp d;calc{(i,b.2),zaa _ (tc.mpr ({i,l,s0})),s0}
  | cons u a=>
   cases a with
   | nil=>
    cases e;let{k,i,rfl}:=tc.mp d;calc{(b.1,k),t3 _ (tc.mpr ({k,i,s0})),s0}
   | cons v a=>cases a<;>cases e
 ·rintro⟨j,a,rfl⟩;rcases tU.mp a with a | a
  ·let{y,d,rfl}:=tc.mp a;exact{[],.inl b.1,.inl y,[.inr b.2],s0,tc.mpr ({y,d,s0}),s0}
  ·let{k,i,rfl}:=tc.mp a;exact{[.inl b.1],.inr b.2,.inr k,[],s0,tc.mpr ({k,i,s0}),s0}
mutual
def yh{b:α×Nat}:JK (mvs G) b->JK (mv (gS G)) (two b)
 | .mk w=>.mk λc a=>by
  let{d,i,rfl}:=Uq.mp a;calc won_two (w d i)
def won_two{b:α×Nat}:Won (mvs G) b->Won (mv (gS G)) (two b)
 | .mk (b:=a) m d=>.mk (Uq.mpr ({a,m,s0})) (yh d)
end
mutual
def vy{c:List (α ⊕ Nat)}:JK (mv (gS G)) c->∀b:α×Nat,c=two b->JK (mvs G) b
 | .mk w=>λb e=>.mk λa d=>two_won (w (two a) (by rw[e];calc Uq.mpr ({a,d,s0}))) a rfl
def two_won{c:List (α ⊕ Nat)}:Won (mv (gS G)) c->∀b:α×Nat,c=two b->Won (mvs G) b
 | .mk m a=>λb e=>by
  rw[e]at m;let{d,i,j}:=Uq.mp m;calc .mk i (vy a d j)
end
def zk(L:Zw G ok num e_){z:α}{h:Nat}(hz:ok z):JK (mvs G) (z,h)↔num z=tH h:=by
 let b:∀x∈two (z,h),T8 ok x:=λx a=>by
  unfold two at a;rcases tO.mp a with rfl | a
  ·exact hz
  ·rw[tQ.mp a];trivial
 let a:JK (mvs G) (z,h)↔JK (mv (gS G)) (two (z,h)):={yh,λd=>vy d _ rfl};rw[a,zm (La L) b];unfold Xp two ends QB;cases e:num z with
 | none=>simp [Yp,e]
 | some n=>
  simp only[zbn,t8,Yp,e];show (0=0/\n^^^ (h^^^0)=0)↔_;rw[zbl];constructor
  ·rintro⟨_,x⟩;let:n=h:=Yf (by rw[x,zaT]);rw[this]
  ·intro q;cases q;calc{s0,zaT _}
end
section
variable{β:Type}{M:β->List β}
end
section
variable{α:Type}[DecidableEq α]{G:α->List α}{N:List α}
variable(G N) in
structure Pt(rs:Rs α)(n:Nat):Prop where
 val:Ey G N rs n
 ep:∀m,m < n->EP G N rs m
def Al{ok:α->Prop}{num a:α->Option Nat}{e_ d:α->Nat}(L:Zw G ok num e_)(i:Zw G ok a d){x:α}(b:ok x):num x=a x:=by
 let h:∀h,num x=tH h↔a x=tH h:=λh=>(zk L b).symm.trans (zk i b);cases e:num x with
 | some n=>calc((h n).mp e).symm
 | none=>
  cases b:a x with
  | none=>rfl
  | some n=>rw[(h n).mpr b]at e;cases e
end
section
variable{α:Type}{G:α->List α}
def Stl(G:α->List α)(zs:List α):Prop:=∀(i:Nat) (z:α),zs[i]?=tH z->∀y∈G z,∃a,a < i/\zs[a]?=tH y
structure Lst(f:α->Nat)(ys:List α)(n:Nat):Prop where
 lo:∀j,j < n->∃y∈ys,f y=j
 no:∀y∈ys,f y≠n
def K0{ok:α->Prop}{num:α->Option Nat}{e_:α->Nat}(L:Zw G ok num e_){zs:List α}{f:α->Nat}(st:Stl G zs)(hok:∀z∈zs,ok z)(p:∀z∈zs,Lst f (G z) (f z)):
  ∀(i:Nat) (z:α),zs[i]?=tH z->num z=tH (f z):=by
 intro i;induction i using zcr with
 | _ i q=>
  intro z l;let j:=tS l;let d:∀y∈G z,num y=tH (f y):=λy a=>by
   let{m,o,b}:=st i z l y a;exact q m o y b
  let l:=p z j;cases e:num z with
  | none=>
   let{y,a,b,_}:=L.e (hok z j) e (λm o=>by
    let{y,a,p}:=l.lo m o;calc{y,a,by rw[d y a,p]}) (λy a m=>by
    rw[d y a]at m;calc l.no y a (tH.inj m))
   rw[d y a]at b;cases b
  | some n=>
   rcases zaS n (f z) with c | c | c
   ·let{y,a,p}:=l.lo n c;exact absurd (by rw[d y a,p]) (L.n2 (hok z j) e a)
   ·rw[c]
   ·let{y,a,b,_}:=L.n1 (hok z j) e c;rw[d y a]at b;exact absurd (tH.inj b) (l.no y a)
variable[DecidableEq α]
end
section
variable{α γ:Type}{G G2:α->List α}{ok:α->Prop}{num hU:α->Option Nat}{e_ i':α->Nat}
def Zw.same(L:Zw G ok num e_)(h:∀x,ok x->G2 x=G x):Zw G2 ok num e_ where
 cl:=λ{x y} a b=>L.cl a (h x a▸b)
 n1:=λ{x n m} a e lt=>by rw[h x a];exact L.n1 a e lt
 n2:=λ{x y n} a e b=>L.n2 a e (h x a▸b)
 n3:=λ{x y n} a e b gt=>by
  rw[h x a]at b;rw[h y (L.cl a b)];exact L.n3 a e b gt
 n4:=λ{x y n m} a e b=>L.n4 a e (h x a▸b)
 e:=λ{x m} a e lo d=>by
  rw[h x a]at*;let{y,b,i,no}:=L.e a e lo d;calc{y,b,i,by rwa [h y (L.cl a b)]}
def Zw.sub{a:α->Prop}(L:Zw G ok num e_)(h:∀x,a x->ok x)(cl:∀{x y},a x->y∈G x->a y):Zw G a num e_:=
 {cl,λa=>L.n1 (h _ a),λa=>L.n2 (h _ a),λa=>L.n3 (h _ a),λa=>L.n4 (h _ a),λa=>L.e (h _ a)}
def Zw.pull{P:γ->List γ}{gq:γ->Prop}(L:Zw G ok num e_)(e:γ->α)(h:∀x,gq x->ok (e x))(cl:∀{x y},gq x->y∈P x->gq y)(m:∀{x y},gq x->(y∈G (e x)↔∃j∈P x,y=e j)):Zw P gq (λx=>num (e x)) (λx=>e_ (e x)) where
 cl:=cl
 n1:=λ{x n k} d q lt=>by
  let{y,i,a,b}:=L.n1 (h x d) q lt;let{j,l,rfl}:=(m d).mp i;exact{j,l,a,b}
 n2:=λ{x y n} d q i=>L.n2 (h x d) q ((m d).mpr ({y,i,s0}))
 n3:=λ{x y n} d q i gt=>by
  let{z,o,a,b}:=L.n3 (h x d) q ((m d).mpr ({y,i,s0})) gt;let{p,u,rfl}:=(m (cl d i)).mp o;exact{p,u,a,b}
 n4:=λ{x y n k} d q i=>L.n4 (h x d) q ((m d).mpr ({y,i,s0}))
 e:=λ{x k} d q lo p=>by
  let{y,i,a,b}:=L.e (h x d) q (λu v=>let ⟨y,i,a⟩:=lo u v;({e y,(m d).mpr ({y,i,s0}),a})) (λy i=>by
   let{j,l,rfl}:=(m d).mp i;calc p j l)
  let{j,l,rfl}:=(m d).mp i;exact{j,l,a,λz o=>b _ ((m (cl d l)).mpr ({z,o,s0}))}
structure Hf(G:α->List α)(P:γ->List γ)(gq:γ->Prop)(f g:γ->α):Prop where
 cl:∀{z w},gq z->w∈P z->gq w
 to:∀{z w},gq z->w∈P z->(f w∈G (f z)/\g w=g z)\/(f w=f z/\g w∈G (g z))
 b1:∀{z u},gq z->u∈G (f z)->∃w∈P z,f w=u/\g w=g z
 b2:∀{z u},gq z->u∈G (g z)->∃w∈P z,f w=f z/\g w=u
variable{P:γ->List γ}{gq:γ->Prop}{f g:γ->α}
def Ur(f g:γ->α)(b:γ×Nat):List (α ⊕ Nat):=[.inl (f b.1),.inl (g b.1),.inr b.2]
def YR(p:Hf G P gq f g){b:γ×Nat}(d:gq b.1){i:γ×Nat}(h:i∈mvs P b):gq i.1/\Ur f g i∈mv (gS G) (Ur f g b):=by
 rcases tU.mp h with h | h
 ·let{w,i,rfl}:=tc.mp h;calc{p.cl d i,(j6 _).mpr ?_};rcases p.to d i with ⟨a,e⟩ | ⟨e,a⟩
  ·exact{[],_,.inl (f w),[.inl (g b.1),.inr b.2],s0,tc.mpr ({_,a,s0}),by show [Sum.inl (f w),.inl (g w),.inr b.2]=_;rw[e];rfl}
  ·exact{[.inl (f b.1)],_,.inl (g w),[.inr b.2],s0,tc.mpr ({_,a,s0}),by show [Sum.inl (f w),.inl (g w),.inr b.2]=_;rw[e];rfl}
 ·let{k,i,rfl}:=tc.mp h;calc{d,(j6 _).mpr ({[.inl (f b.1),.inl (g b.1)],_,.inr k,[],s0,tc.mpr ({k,i,s0}),s0})}
def Ru(p:Hf G P gq f g){b:γ×Nat}(i:gq b.1){c:List (α ⊕ Nat)}(h:c∈mv (gS G) (Ur f g b)):∃a∈mvs P b,c=Ur f g a:=by
 unfold Ur at h;simp only[mv,zad,zci,zal,tj,tU,tc,Function.comp]at h;rcases h with ⟨y,a,rfl⟩ | ⟨y,a,rfl⟩ | ⟨y,a,rfl⟩
 ·let{u,hu,rfl}:=tc.mp a;let{w,d,rfl,e}:=p.b1 i hu;exact{(w,b.2),zaa _ (tc.mpr ({w,d,s0})),by unfold Ur;rw[e]}
 ·let{u,hu,rfl}:=tc.mp a;let{w,d,e,rfl}:=p.b2 i hu;exact{(w,b.2),zaa _ (tc.mpr ({w,d,s0})),by unfold Ur;rw[e]}
 ·let{k,d,rfl}:=tc.mp a;exact{(b.1,k),t3 _ (tc.mpr ({k,d,s0})),s0}
mutual
def yi(p:Hf G P gq f g){b:γ×Nat}(a:gq b.1):JK (mvs P) b->JK (mv (gS G)) (Ur f g b)
 | .mk h=>.mk λc i=>by
  let{j,d,rfl}:=Ru p a i;calc won_tri p (YR p a d).1 (h j d)
def won_tri(p:Hf G P gq f g){b:γ×Nat}(a:gq b.1):Won (mvs P) b->Won (mv (gS G)) (Ur f g b)
 | .mk m h=>.mk (YR p a m).2 (yi p (YR p a m).1 h)
end
mutual
def vB(p:Hf G P gq f g){c:List (α ⊕ Nat)}:JK (mv (gS G)) c->∀b:γ×Nat,gq b.1->c=Ur f g b->JK (mvs P) b
 | .mk h=>λb a e=>.mk λi d=>tri_won p (h _ (e▸(YR p a d).2)) i (YR p a d).1 rfl
def tri_won(p:Hf G P gq f g){c:List (α ⊕ Nat)}:Won (mv (gS G)) c->∀b:γ×Nat,gq b.1->c=Ur f g b->Won (mvs P) b
 | .mk m h=>λb a e=>by
  subst e;let{i,d,j}:=Ru p a m;calc .mk d (vB p h i (YR p a d).1 j)
end
def Mm(L:Zw G ok num e_){j:γ->Option Nat}{o:γ->Nat}(u:Zw P gq j o)(p:Hf G P gq f g)(hok:∀z,gq z->ok (f z)/\ok (g z)){z:γ}(hz:gq z){h:Nat}:j z=tH h↔∃n m,num (f z)=tH n/\num (g z)=tH m/\n^^^m=h:=by
 rw[<-zk u hz];let l:∀x∈Ur f g (z,h),T8 ok x:=by
  intro x j;simp only[Ur,tO,zck,or_false]at j;rcases j with rfl | rfl | rfl
  ·exact(hok z hz).1
  ·exact(hok z hz).2
  ·trivial
 rw[show JK (mvs P) (z,h)↔Xp (Yp num) (Ur f g (z,h)) from{λq=>(zm (La L) l).mp (yi p hz q),λq=>vB p ((zm (La L) l).mpr q) _ hz rfl}];unfold Xp;constructor
 ·rintro⟨a,b⟩;cases d:num (f z) with
  | none=>simp [Ur,ends,Yp,d]at a
  | some n=>
   cases i:num (g z) with
   | none=>simp [Ur,ends,Yp,d,i]at a
   | some m=>
    exists n,m,s0,rfl;simp [Ur,QB,Qw,Yp,d,i]at b;rw[<-zaJ]at b;let:=congrArg (·^^^h) b;simpa [zaJ,zaT] using this
 ·rintro⟨n,m,d,i,rfl⟩;calc{by simp [Ur,ends,Yp,d,i],?_};simp only[Ur,QB,Qw,t8,zcV,Yp,d,i,List.foldr_cons,List.foldr_nil,zbl];rw[<-zaJ,zaT]
end
section
variable{α:Type}[DecidableEq α]{G:α->List α}{N:List α}
def XS:∀{l m:List α},l.Sublist m->m.Nodup->l=m.filter λx=>decide (x∈l)
 | _,_,.slnil,_=>rfl
 | l,a::m,.cons _ h,b=>by
  rw[zaj]at b;rw[zbn,if_neg (by simpa using (λz=>b.1 (h.subset z)))];calc XS h b.2
 | a::l,_::m,.cons₂ _ h,b=>by
  rw[zaj]at b;rw[zbn,if_pos {}];congr 1;calc(XS h b.2).trans (zce λx d=>?_);let ne:x≠a:=λz=>b.1 (z▸d);simp [ne]
def vp.uniq(nd:N.Nodup){rs:Rs α}{n:Nat}{ns d:List α}(a:vp G N rs n ns)(b:vp G N rs n d):ns=d:=by
 rw[XS a.sub nd,XS b.sub nd];calc zce λx _=>decide_eq_decide.mpr ((a.iff x).trans (b.iff x).symm)
def JL.uniq(nd:N.Nodup){n:Nat}{rs a b:Rs α}(h:JL G N n rs a):JL G N n rs b->a=b:=by
 induction h with
 | stop r=>
  intro k;cases k with
  | stop _=>rfl
  | more d ne _=>calc absurd (d.uniq nd r) ne
 | more r ne k i=>
  intro j;cases j with
  | stop d=>calc absurd (r.uniq nd d) ne
  | more d _ j=>
   let:=r.uniq nd d;subst this;calc i j
def JL.same{n:Nat}{rs:Rs α}(h:JL G N n rs rs):vp G N rs n []:=by
 let len:∀{rs a:Rs α},JL G N n rs a->rs.length<=a.length:=λ{rs a} h=>by
  induction h with
  | stop _=>calc ti _
  | more r ne k b=>
   rw[tz]at b;omega
 generalize e:rs=a at h;let b:=e;cases h with
 | stop r=>calc r
 | more r ne k=>
  let:=len k;rw[tz,zas]at this;omega
def All.uniq(nd:N.Nodup){n:Nat}{rs a b:Rs α}(h:All G N n rs a):All G N n rs b->a=b:=by
 induction h with
 | stop r=>
  intro k;cases k with
  | stop _=>rfl
  | more g ne _=>
   let:=g.uniq nd (JL.stop r);calc absurd this ne
 | more g ne k d=>
  intro i;cases i with
  | stop i=>calc absurd (g.uniq nd (JL.stop i)) ne
  | more i _ j=>
   let:=g.uniq nd i;subst this;exact d j
variable(G N) in
inductive LH:Nat->Rs α->Prop
 | nil:LH 0 []
 | more {n:Nat} {rs rs':Rs α} (h:LH n rs) (g:JL G N n rs rs'):LH (n+1) rs'
def IY{l m:List α}:l.Nodup->(∀z∈l,z∈m)->l.length<=m.length:=by
 induction l generalizing m with
 | nil=>calc λ_ _=>zax _
 | cons a l j=>
  intro b h;rw[zaj]at b;let d:=h a tK;let:=j b.2 λz i=>(zbv (λ(e:z=a)=>b.1 (e▸i))).mpr (h z (tI _ i));rw[zbO d]at this;let:=zbb d;rw[t7];omega
end
section
variable{α:Type}[DecidableEq α]{G:α->List α}{N:List α}
def Uf{p q:α->Bool}:∀{l:List α},(∀x∈l,q x=true->p x=true)->(∃x∈l,p x=true/\q x=false)->l.countP q < l.countP p
 | [],_,⟨_,h,_⟩=>nomatch h
 | a::l,h,⟨x,b,i,j⟩=>by
  let le:=List.countP_mono_left λy d=>h y (tI _ d);rw[List.countP_cons,List.countP_cons];rcases tO.mp b with e | b
  ·subst e;rw[i,j];simp;omega
  ·let m:=Uf (λy d=>h y (tI _ d)) ({x,b,i,j});cases b:q a with
   | true=>rw[(h a tK) b];simp;omega
   | false=>simp;split<;>omega
def bare(N:List α)(rs:Rs α):Nat:=N.countP λx=>(qO rs x).isNone
def vp.ex(rs:Rs α)(n:Nat):∃ns,vp G N rs n ns:=by
 classical
 calc{N.filter λx=>decide (qO rs x=r4/\ED G (qO rs) x n),λx=>?_,zam};rw[tV,decide_eq_true_iff]
def G7{rs:Rs α}{n:Nat}{ns:List α}(h:vp G N rs n ns)(ne:ns≠[]):bare N (rs++[(n,ns)]) < bare N rs:=by
 let{x,b}:=List.exists_mem_of_ne_nil ns ne;let{i,d,_}:=(h.iff x).mp b;refine Uf (λy _ a=>?_) ({x,i,by rw[d];rfl,?_})
 ·rw[Zh]at a;cases e:qO rs y with
  | some m=>rw[e]at a;cases a
  | none=>rfl
 ·rw[Zh,d];simp [b]
def JL.ex(n:Nat):∀(m:Nat) (rs:Rs α),bare N rs<=m->∃rs',JL G N n rs rs'/\(rs'=rs\/bare N rs' < bare N rs)
 | m,rs,hm=>by
  let{ns,hr}:=vp.ex (G:=G) (N:=N) rs n;by_cases e:ns=[]
  ·subst e;exact{rs,.stop hr,.inl rfl}
  ·let lt:=G7 hr e;cases m with
   | zero=>omega
   | succ m=>
    let{rs',g,k}:=JL.ex n m (rs++[(n,ns)]) {};calc{rs',.more hr e g,.inr ?_};rcases k with k | k
    ·rw[k];exact lt
    ·omega
def All.ex:∀(m n:Nat) (rs:Rs α),bare N rs<=m->∃rs',All G N n rs rs'
 | m,n,rs,hm=>by
  let{ip,g,k}:=JL.ex (G:=G) n (bare N rs) rs (ti _);by_cases e:ip=rs
  ·subst e;exact{ip,.stop g.same}
  ·rcases k with k | k
   ·exact absurd k e
   ·cases m with
    | zero=>omega
    | succ m=>
     let{rs',a}:=All.ex m (n+1) ip {};calc{rs',.more g e a}
end
end MLab
namespace MRing
section
variable{α:Type}(G:α->List α)
def Bo(T:List α):Prop:=∀z∈T,∃y∈G z,y∈T
structure Bq(r:List α):Prop where
 ne:r≠[]
 nd:r.Nodup
 go:∀(i:Nat) (x y:α),r[i]?=tH x->(r.drop 1++r.take 1)[i]?=tH y->y∈G x
variable{G}
def wv{r:List α}{i:Nat}(h:i+1 < r.length):(r.drop 1++r.take 1)[i]?=r[i+1]?:=by
 rw[tZ (by rw[zbQ];omega),zct,Nat.add_comm]
def vA{r:List α}{i:Nat}(h:i+1=r.length):(r.drop 1++r.take 1)[i]?=r[0]?:=by
 rw[tY (by rw[zbQ];omega),zbQ,zbh,if_pos {}];congr 1;omega
def Bq.trap{r:List α}(h:Bq G r):Bo G r:=λz a=>by
 let{i,b,e}:=zdN a;let a:r[i]?=tH z:=by rw[tv b,e]
 by_cases c:i+1 < r.length
 ·exact{r[i+1],h.go i z _ a (by rw[wv c,tv c]),zbo c}
 ·let b:0 < r.length:={}
  calc{r[0],h.go i z _ a (by rw[vA {},tv b]),zbo b}
def CT{w:List α}{n:α}{j:Nat}(nd:w.Nodup)(l:∀(i:Nat) (x y:α),w[i]?=tH x->w[i+1]?=tH y->y∈G x)(last:∀x,w[w.length - 1]?=tH x->n∈G x)(b:w[j]?=tH n):Bq G (w.drop j):=by
 let a:=(tf.mp b).1;let ld:(w.drop j).length=w.length - j:=zbQ;refine{λe=>?_,nd.sublist (List.drop_sublist j w),λi x y ex a=>?_}
 ·let:=congrArg zat e;rw[ld]at this;simp at this;omega
 ·let d:=(tf.mp ex).1;let d:w[j+i]?=tH x:=by rwa [<-zct]
  by_cases c:i+1 < (w.drop j).length
  ·rw[wv c,zct]at a;exact l (j+i) x y d (by rw[<-a];congr 1)
  ·rw[vA {},zct,Nat.add_zero,b]at a;obtain rfl:=tH.inj a;calc last x (by rw[<-d];congr 1;omega)
def yY{T S:List α}{z:α}(t:Bo G T)(d:∀y∈T,y∉S)(h:∀y∈G z,y∈S):z∉T:=λa=>by
 let{y,b,i}:=t z a;calc d y i (h y b)
end
end MRing
namespace MPlay
abbrev En:=Option (Bool×Int)
section
variable{α:Type}(G:α->List α)
def step(g:α->En)(a:List α)(k:Nat):En:=
 if (a.any λy=>(g y).any λe=> !e.1)=true then tH (true,(k:Int)) else if (a.all λy=>(g y).isSome)=true then tH (false,(k:Int)) else r4
def ZW:Nat->α->En
 | 0,_=>r4
 | k+1,z=>match ZW k z with
  | some e=>tH e
  | none=>step (ZW k) (G z) k
def j4{k:Nat}{z:α}{e:Bool×Int}(h:ZW G k z=tH e):ZW G (k+1) z=tH e:=by
 simp only[ZW,h]
def Jw{k:Nat}{z:α}(h:ZW G k z=r4):ZW G (k+1) z=step (ZW G k) (G z) k:=by
 simp only[ZW,h]
def YG{g:α->En}{a:List α}:(a.any λy=>(g y).any λe=> !e.1)=true↔∃y∈a,∃n,g y=tH (false,n):=by
 rw[zaW];constructor
 ·rintro⟨y,a,h⟩;cases e:g y with
  | none=>rw[e]at h;cases h
  | some d=>
   let{b,n}:=d;rw[e]at h;cases b
   ·exact{y,a,n,e}
   ·cases h
 ·rintro⟨y,a,n,e⟩;calc{y,a,by rw[e];rfl}
def vI{g:α->En}{a:List α}{k:Nat}{n:Int}(h:step g a k=tH (true,n)):n=k/\∃y∈a,∃m,g y=tH (false,m):=by
 unfold step at h;split at h
 ·rename_i c;simp only[tH.injEq,Prod.mk.injEq,true_and]at h;exact{h.symm,YG.mp c}
 ·split at h<;>simp at h
def YV{g:α->En}{a:List α}{k:Nat}{n:Int}(h:step g a k=tH (false,n)):n=k/\∀y∈a,∃m,g y=tH (true,m):=by
 unfold step at h;split at h
 ·simp at h
 ·rename_i c;split at h
  ·rename_i d;simp only[tH.injEq,Prod.mk.injEq,true_and]at h;calc{h.symm,λy i=>?_};let j:=zaK.mp d y i;cases e:g y with
   | none=>rw[e]at j;cases j
   | some l=>
    let{b,m}:=l;cases b
    ·exact absurd (YG.mpr ({y,i,m,e})) c
    ·exact{m,s0}
  ·simp at h
def ZA{g:α->En}{a:List α}{k:Nat}(h:step g a k=r4):(∀y∈a,∀m,g y≠tH (false,m))/\∃y∈a,g y=r4:=by
 unfold step at h;split at h
 ·simp at h
 ·rename_i c;split at h
  ·simp at h
  ·rename_i d;exists λy b m e=>c (YG.mpr ({y,b,m,e}));rw[zaK]at d;let ⟨y,b⟩:=Classical.not_forall.mp d;let ⟨i,j⟩:=Classical.not_imp.mp b;calc{y,i,by simpa using j}
def Wj{g:α->En}{a:List α}{k:Nat}{b:Bool}{n:Int}(h:step g a k=tH (b,n)):n=k:=by
 cases b
 ·exact(YV h).1
 ·calc(vI h).1
def Xv{g:α->En}{a:List α}{k:Nat}(b:∀y∈a,∀m,g y≠tH (false,m))(d:∃y∈a,g y=r4):step g a k=r4:=by
 unfold step;rw[if_neg (λc=>by let{y,a,n,e}:=YG.mp c;calc b y a n e),if_neg];intro c;let{y,a,e}:=d;let:=zaK.mp c y a;rw[e]at this;cases this
def Ae{k:Nat}:∀{z:α} {b:Bool} {n:Int},ZW G k z=tH (b,n)->0<=n/\n < k:=by
 induction k with
 | zero=>intro z b n h;simp [ZW]at h
 | succ k a=>
  intro z b n h;cases e:ZW G k z with
  | some d=>
   rw[j4 G e]at h;obtain rfl:=tH.inj h;let:=a e;omega
  | none=>
   rw[Jw G e]at h;let:=Wj h;omega
def IX{k:Nat}{z y:α}{m:Int}(h:ZW G k z=r4)(b:y∈G z)(e:ZW G k y=tH (false,m)):m+1=k:=by
 cases k with
 | zero=>simp [ZW]at e
 | succ a=>
  let d:ZW G a z=r4:=by
   cases q:ZW G a z with
   | none=>rfl
   | some i=>rw[j4 G q]at h;cases h
  rw[Jw G d]at h;cases q:ZW G a y with
  | some i=>
   rw[j4 G q]at e;obtain rfl:=tH.inj e;calc absurd q (((ZA h).1) y b m)
  | none=>
   rw[Jw G q]at e;let:=Wj e;omega
def IW{k:Nat}{z:α}(h:ZW G k z=r4)(i:∀y∈G z,(ZW G k y).isSome=true):k=0\/∃y∈G z,∃b,ZW G k y=tH (b,(k:Int) - 1):=by
 cases k with
 | zero=>calc .inl rfl
 | succ a=>
  let d:ZW G a z=r4:=by
   cases q:ZW G a z with
   | none=>rfl
   | some a=>rw[j4 G q]at h;cases h
  rw[Jw G d]at h;let{y,a,q}:=(ZA h).2;calc .inr ({y,a,?_});let d:=i y a;rw[Jw G q]at d ⊢;obtain⟨⟨b,n⟩,e⟩:=zco.mp d;let:=Wj e;exists b;rw[e];congr 2;omega
structure Lv(f:α->En)(k:Nat):Prop where
 won:∀{z n},f z=tH (true,n)->∃y∈G z,f y=tH (false,n - 1)
 lost:∀{z n},f z=tH (false,n)->∀y∈G z,∃m,f y=tH (true,m)/\m+1<=n
 long:∀{z n},f z=tH (false,n)->0 < n->∃y∈G z,f y=tH (true,n - 1)
def Ad:∀k,Lv G (ZW G k) k
 | 0=>{λh=>by simp [ZW]at h,λh=>by simp [ZW]at h,λh=>by simp [ZW]at h}
 | k+1=>by
  let L:=Ad k;refine{λ{z n} h=>?_,λ{z n} h y hy=>?_,λ{z n} h hn=>?_}
  ·cases e:ZW G k z with
   | some p=>
    rw[j4 G e]at h;obtain rfl:=tH.inj h;let{y,hy,q}:=L.won e;calc{y,hy,j4 G q}
   | none=>
    rw[Jw G e]at h;let{rfl,y,hy,m,q}:=vI h;let:=IX G e hy q;exists y,hy;rw[j4 G q];congr 2;omega
  ·cases e:ZW G k z with
   | some p=>
    rw[j4 G e]at h;obtain rfl:=tH.inj h;let{m,q,hm}:=L.lost e y hy;calc{m,j4 G q,hm}
   | none=>
    rw[Jw G e]at h;let{rfl,ha}:=YV h;let{m,q}:=ha y hy;let:=Ae G q;exact{m,j4 G q,{}}
  ·cases e:ZW G k z with
   | some p=>
    rw[j4 G e]at h;obtain rfl:=tH.inj h;let{y,hy,q}:=L.long e hn;calc{y,hy,j4 G q}
   | none=>
    rw[Jw G e]at h;let{rfl,ha}:=YV h;rcases IW G e (λy hy=>by let{m,q}:=ha y hy;rw[q];rfl) with h0 | ⟨y,hy,b,q⟩
    ·omega
    ·let{m,q'}:=ha y hy;rw[q]at q';let{rfl,_}:=Prod.mk.inj (tH.inj q');calc{y,hy,j4 G q}
def Ac{N:List α}(hN:∀z∈N,∀y∈G z,y∈N){k:Nat}(h:∀z∈N,ZW G k z=r4->step (ZW G k) (G z) k=r4):∀j,k<=j->∀z∈N,ZW G j z=ZW G k z:=by
 intro j _;induction j with
 | zero=>
  intro z _;let e:k=0:={}
  rw[e]
 | succ j a=>
  by_cases e:k=j+1
  ·subst e;intro z _;rfl
  ·let a:=a {};intro z b;cases q:ZW G j z with
   | some d=>rw[j4 G q,<-a z b,q]
   | none=>
    rw[Jw G q,<-a z b,q];rw[a z b]at q;let{p,y,i,_}:=ZA (h z b q);refine Xv (λd l m o=>?_) ({y,i,?_})
    ·rw[a d (hN z b d l)]at o;exact p d l m o
    ·rwa [a y (hN z b y i)]
structure He(N:List α)(f:α->En):Prop where
 num:∀{z b n},f z=tH (b,n)->0<=n
 won:∀{z n},f z=tH (true,n)->∃y∈G z,f y=tH (false,n - 1)
 lost:∀{z n},f z=tH (false,n)->∀y∈G z,∃m,f y=tH (true,m)/\m+1<=n
 long:∀{z n},f z=tH (false,n)->0 < n->∃y∈G z,f y=tH (true,n - 1)
 drawn:∀{z},z∈N->f z=r4->(∀y∈G z,∀m,f y≠tH (false,m))/\∃y∈G z,f y=r4
 cl:∀z∈N,∀y∈G z,y∈N
def Hj{N:List α}(hN:∀z∈N,∀y∈G z,y∈N){k:Nat}(h:∀z∈N,ZW G k z=r4->step (ZW G k) (G z) k=r4):He G N (ZW G k):=
 let L:=Ad G k
 ({λe=>(Ae G e).1,L.won,L.lost,L.long,λa e=>ZA (h _ a e),hN})
variable[DecidableEq α]
variable{G}{N:List α}{f:α->En}
end
end MPlay
namespace MLab
section
variable{β:Type}[DecidableEq β]{M:β->List β}
mutual
def WU{a:β}:JK M a->¬Won M a
 | .mk w=>λ⟨m,b⟩=>won_not (w _ m) b
def won_not{a:β}:Won M a->¬JK M a
 | .mk m b=>λ⟨w⟩=>WU b (w _ m)
end
variable{Bs:List β}{F:β->Option Bool}{P ln:List β}{lf:β->Nat}{h:β}
end
inductive Lb where
 | num (n s:Nat) | end_ (b:Nat)
 deriving DecidableEq
def Lb.nm:Lb->Option Nat
 | .num n _=>tH n
 | .end_ _=>r4
def Jy(n s:Nat):Lb->Bool
 | .num m u=>decide (m=n)&&decide (u < s)
 | .end_ _=>false
def Xg(m:Nat):Lb->Bool
 | .num _ _=>false
 | .end_ b=> !b.testBit m
section
variable{α:Type}(G:α->List α)(f:α->Lb)
def Ge(z:α):List Nat:=(G z).filterMap λy=>(f y).nm
def YJ(n s:Nat)(y:α):Prop:=match f y with
 | .num m t=>if m < n then t < s else ∃b∈G y,Jy n s (f b)=true
 | .end_ _=>∃b∈G y,Jy n s (f b)=true
def wh(z:α):Prop:=match f z with
 | .num n s=>n=Rb.lackN (Ge G f z)/\∀y∈G z,YJ G f n s y
 | .end_ b=>b=Rb.setN (Ge G f z)/\∃y∈G z,Xg (Rb.lackN (Ge G f z)) (f y)=true
end
def yo(ns:List Nat):Rb.Lacks (Rb.lackN ns) ns:=Rb.lackI_lacks ns
def xD{ns b:List Nat}(h:∀x,x∈ns↔x∈b):Rb.lackN ns=Rb.lackN b:=by
 let a:Rb.Lacks (Rb.lackN ns) ns:=Rb.lackI_lacks _;calc Rb.lackN_eq ({λm=>a.1 ((h _).mpr m),λx b=>(h x).mp (a.2 x b)})
section
variable{α:Type}{G G':α->List α}{f:α->Lb}{N:List α}
def DH{z:α}{n:Nat}:n∈Ge G f z↔∃y∈G z,(f y).nm=tH n:=zaf
def ZF(G:α->List α)(num:α->Option Nat)(e_:α->Nat)(z:α):Lb:=match num z with
 | some n=>.num n (e_ z)
 | none=>.end_ (Rb.setN ((G z).filterMap num))
def DR{num:α->Option Nat}{e_:α->Nat}(z:α):(ZF G num e_ z).nm=num z:=by
 unfold ZF;cases num z<;>rfl
def DS{num:α->Option Nat}{e_:α->Nat}(z:α):Ge G (ZF G num e_) z=(G z).filterMap num:=by
 unfold Ge;calc congrArg (λg=>(G z).filterMap g) (funext λy=>DR y)
def Zw.fit{num:α->Option Nat}{e_:α->Nat}(L:Zw G (·∈N) num e_){z:α}(hz:z∈N):wh G (ZF G num e_) z:=by
 let v:∀{n s:Nat} {y b:α},b∈G y->num b=tH n->e_ b < s->∃b∈G y,Jy n s (ZF G num e_ b)=true:=λ{n s y b} i e o=>⟨b,i,by
  unfold ZF;rw[e];show (decide (n=n)&&decide (e_ b < s))=true;rw[decide_eq_true rfl,decide_eq_true o];rfl⟩
 unfold wh;rw[DS];cases e:num z with
 | some n=>
  let p:ZF G num e_ z=.num n (e_ z):=by unfold ZF;rw[e]
  rw[p];refine{Rb.lackN_eq ({λm=>?_,λm x=>?_}),λy a=>?_}
  ·let{y,a,q}:=zaf.mp m;exact L.n2 hz e a q
  ·let{y,a,q,_}:=L.n1 hz e x;exact zaf.mpr ({y,a,q})
  ·let n3:(∀m,num y=tH m->n < m)->∃b∈G y,Jy n (e_ z) (ZF G num e_ b)=true:=λh=>by
    let{b,i,q,o}:=L.n3 hz e a h;exact v i q o
   unfold YJ;cases d:num y with
   | some m=>
    let j:ZF G num e_ y=.num m (e_ y):=by unfold ZF;rw[d]
    rw[j];show if m < n then _ else _
    split
    ·rename_i c;exact L.n4 hz e a d c
    ·rename_i c;calc n3 λk l=>?_;rw[d]at l;cases l;let:m≠n:=λq=>L.n2 hz e a (q▸d);omega
   | none=>
    let j:ZF G num e_ y=.end_ (Rb.setN ((G y).filterMap num)):=by unfold ZF;rw[d]
    rw[j];exact n3 λk l=>by rw[d]at l;cases l
 | none=>
  let p:ZF G num e_ z=.end_ (Rb.setN ((G z).filterMap num)):=by unfold ZF;rw[e]
  rw[p];exists rfl;let u:=yo ((G z).filterMap num);let{y,a,d,q}:=L.e hz e (λB C=>zaf.mp (u.2 B C)) λy a q=>u.1 (zaf.mpr ({y,a,q}));exists y,a;let j:ZF G num e_ y=.end_ (Rb.setN ((G y).filterMap num)):=by unfold ZF;rw[d]
  rw[j];show (!(Rb.setN ((G y).filterMap num)).testBit _)=true;rw[Rb.testBit_setN,decide_eq_false λm=>?_]
  ·rfl
  ·let{b,i,D}:=zaf.mp m;calc q b i D
end
end MLab
namespace Rh
open PySem L2
def top(i:Nat):o0:=PySem.Challenge.pw_ringheaps_k95_whole_one_outcome_by_all_w.main.body.getD i (.Pass ({0,0,0,0}))
abbrev ze:o0:=top 14
abbrev kJ:o0:=top 103
abbrev Yj:o0:=top 104
abbrev Wp:o0:=top 105
abbrev Wx:o0:=top 106
abbrev Wz:o0:=top 107
abbrev ku:o0:=top 108
abbrev Vu:o0:=top 117
open PyProof.Rows hiding K lo
structure qK(K:zen)(mg:Str->Option n9)(x:Str)(st:o0)(ps:List Str)(f:m9)(fd:zer):Prop where
 fn:jJ K x x st f fd
 ns:mg x=tH (.ref f)
 bi:Qj K fd ps []
def qw{X:Cx}{x:Str}{st:o0}{ps:List Str}{f:m9}{b:zer}{k:Nat}{d:Sp}{e:Expr}{a:List Expr}{t:TA}{p pos:Pos}(h:qK X.K X.mg x st ps f b)(G:qu X.prog X.w X.K X.mg X.base jh k f b ps d)(i:JA X (e::a) t)(j:(x==("__debug__":Str))=false:=by decide)(l:starEach (e::a) X.env=(false,eval e X.env)::starEach a X.env:=by rfl)(m:(backTo pos (starEach a X.env)).any (·.1)=false:=by rfl)(o:Gl X x:=by rfl)(hr:jK k X.A:=by first | assumption | calc jK.mono hr {}):
 JE X (.Call (.Name x p) (e::a) [] pos) (Wi d [] E0 t):=.of (uF G hr o h.ns h.fn.kp h.bi .nil QP i.to j l m)
def qk{H:Hp}(h:H b=tH o)(hp:H p=r4):upd H p o' b=tH o:=by
 rwa [qf (qo h hp)]
def nq{H:Hp}(h:H a=o)(d:H b=o')(n:o≠o':=by nofun):b≠a:=λe=>n (by rw[<-h,<-d,e])
def Pw{H:Hp}(h:H a=o)(d:H b=o')(n:o≠o':=by nofun):a≠b:=λe=>n (by rw[<-h,<-d,e])
def qd{H:Hp}(hp:H p=r4):qj H (upd H p o):=λb u h=>qk h hp
def qj.upd(s:qj H H')(hp:H p=r4):qj H (upd H' p o):=λb u h=>by
 rw[qf (qo h hp)];calc s b u h
def JR(n s t:Int):List (qJ×V):=[(Sum.inr "number",.int n),(Sum.inr "seed",.int s),(Sum.inr "turn",.int t)]
def nns:¬(zeo "number")=zeo "seed":=by decide+kernel
def ad:¬(zeo "number")=zeo "turn":=by decide+kernel
def T9:¬(zeo "seed")=zeo "turn":=by decide+kernel
def nsn:¬(zeo "seed")=zeo "number":=by decide+kernel
def ntn:¬(zeo "turn")=zeo "number":=by decide+kernel
def nts:¬(zeo "turn")=zeo "seed":=by decide+kernel
def AI(h:¬a=b):¬(Sum.inr a:qJ)=Sum.inr b:=λe=>h (Sum.inr.inj e)
def gN{H:Hp}(h:H d=tH (.dK (JR n s t))):jk H d (.str "number") (tH (.int n)):=by
 let e:ja (JR n s t) (Sum.inr "number":qJ)=tH (.int n):=jE rfl;let q:=jk.k (k:=(Sum.inr "number":qJ)) h;rw[e]at q;calc q
def gS{H:Hp}(h:H d=tH (.dK (JR n s t))):jk H d (.str "seed") (tH (.int s)):=by
 let e:ja (JR n s t) (Sum.inr "seed":qJ)=tH (.int s):=(jt (AI nns)).trans (jE rfl);let q:=jk.k (k:=(Sum.inr "seed":qJ)) h;rw[e]at q;calc q
def gT{H:Hp}(h:H d=tH (.dK (JR n s t))):jk H d (.str "turn") (tH (.int t)):=by
 let e:ja (JR n s t) (Sum.inr "turn":qJ)=tH (.int t):=(jt (AI ad)).trans ((jt (AI T9)).trans (jE rfl));let q:=jk.k (k:=(Sum.inr "turn":qJ)) h;rw[e]at q;calc q
def Oj:(JR n s t).length < zes:=qi (by show 3<=1000;decide)
def pN{H:Hp}(h:H d=tH (.dK (JR n s t)))(v:Int):Jv H d (.str "number") (.int v) (upd H d (.dK (JR v s t))):=by
 let e:j2 (JR n s t) (Sum.inr "number":qJ) (.int v)=JR v s t:=by
  unfold j2 JR;simp [nsn,ntn]
 let q:=Jv.k (k:=(Sum.inr "number":qJ)) (v:=.int v) h Oj;rwa [e]at q
def pT{H:Hp}(h:H d=tH (.dK (JR n s t)))(v:Int):Jv H d (.str "turn") (.int v) (upd H d (.dK (JR n s v))):=by
 let e:j2 (JR n s t) (Sum.inr "turn":qJ) (.int v)=JR n s v:=by
  unfold j2 JR;simp [ad,T9]
 let q:=Jv.k (k:=(Sum.inr "turn":qJ)) (v:=.int v) h Oj;rwa [e]at q
inductive wI(vs:List V)(H:Hp)(Q:VK):Prop
 | mk (d:m9) (m n s t:Int):vs=[.ref d,.int m]->H d=tH (.dK (JR n s t))->(0 < m)->(m.natAbs < 2^200)->(∀r n' t',0<=r->r < m->Q (.int r) (upd H d (.dK (JR n' s t'))))->wI vs H Q
def Hu:Sp:=λa H Q _=>wI a H Q
inductive VL(vs:List V)(H:Hp)(Q:VK):Prop
 | mk (c:Int):vs=[.int c]->(∀d n s,H d=r4->Q (.ref d) (upd H d (.dK (JR n s 0))))->VL vs H Q
def vN:Sp:=λa H Q _=>VL a H Q
inductive uc(K:zen)(vs:List V)(H:Hp)(Q:VK):Prop
 | mk (a:m9) (ns:List Int) (k:Int):vs=[.ref a,.int k]->(JX K H a (ns.map V.int))->(0<=k)->(∀v,Q (.int v) H)->uc K vs H Q
def Nr(K:zen):Sp:=λa H Q _=>uc K a H Q
def HG:ql ["_law_source_here","_law_many","_law_digit","_law_number"] ["_law_source_here","_law_many"] (qg Wp):=j3
def UR(F:jJ K "_law_take" "_law_take" Wp f a):qu P w K mg base jh 1 f a ["_law_source_here","_law_many"] Hu:=by
 calc F.okK HG λH Q E hr h=>?_;intro X;let{d,m,n,b,t,rfl,hd,a,i,k}:=h;exists _,qb (qG (qp JU (qE (jv 0) qH) qh)
   (qb (qB 2 (jc ZR (qE (jv 0) qH) (jv 1)))
   (qb (jB (jv 0) qH (jc Mq (qE (jv 0) qH) (jv 1)))
   (qc (qm (jv 2))))) qt)
  (qb (jB (jv 0) qH (jc Zr (qE (jv 0) qH) qh))
  (qb (qB 3 (jc ZR (jc Zq (jc Zr (qE (jv 0) qH) (jc Zq qh (qE (jv 0) qH))) qh) qh))
  (qb (qB 3 (jc ZR (jc Zq (jv 3) (jv 3)) qh))
  (qc (qm (jc ZR (jc Db (jc ZR (jc Zq (jc Zr (jv 3) (qE (jv 0) qH)) (jc Zr (jv 3) qh)) qh) qh) (jv 1)))))))
 refine{_,gN hd,_,_,s0,s0,_,s0,Yw (λ_=>?_) (λ_=>?_)}
 ·exact{_,gN hd,_,_,s0,s0,a,{_,gN hd,_,_,s0,s0,{a,i},d,_,s0,pN hd _,(k _ _ _ (zbX _ {}) (zbK _ a))}}
 ·exists _,gT hd,_,_,s0,s0,d,_,s0,pT hd _;let i:upd H d (.dK (JR n b (t+1))) d=tH (.dK (JR n b (t+1))):=qa;calc{_,gS i,_,gT i,_,_,s0,s0,.inl ({{},{}}),_,_,s0,s0,_,_,s0,s0,.inr ({{},{}}),_,_,s0,s0,(by show (0:Int) < 2147483647;decide),?_};generalize j:((b+7919*(t+1))*48271) % 2147483647=x;let b:0<=x:=by rw[<-j];exact zbX _ {}
  let b:x < 2147483647:=by rw[<-j];exact zbK _ {}
  calc{_,_,s0,s0,.inl ({{},{}}),_,_,s0,s0,(by show (0:Int) < 2147483629;decide),?_};generalize b:(x*x) % 2147483629=y;let j:0<=y:=by rw[<-b];exact zbX _ {}
  let j:y < 2147483629:=by rw[<-b];exact zbK _ {}
  exists _,gT i,_,_,s0,s0,_,_,s0,s0,_,_,s0,s0,.inr ({{},{}}),_,_,s0,s0,(by show (0:Int) < 2147483587;decide),_,_,s0,s0,{{},{}},_,_,s0,s0,a;exact k _ _ _ (zbX _ {}) (zbK _ a)
structure Qd(mg:Str->Option n9):Prop where
 len:mg "len"=r4
 max:mg "max"=r4
 min:mg "min"=r4
 int:mg "int"=r4
 rng:mg "range"=r4
def Gg(n s t:Int):JN [] (JR n s t)=JR n s t:=by
 unfold JN JR;simp only[zcI,List.foldl_nil];unfold j2;simp [nns,ad,T9,nsn,ntn,nts]
def Nz:ql ["_law_cell"] ["_law_cell"] (qg Yj):=j3
def K6(F:jJ K "_law_source" "_law_source" Yj f a)(B:Qd mg):qu P w K mg base jh 1 f a ["_law_cell"] vN:=by
 calc F.okK Nz λH Q E hr h=>?_;intro X;let{c,rfl,k}:=h;refine⟨_,qc (qm (Eb
  (W0 qH (jc Zq (qr (GZ rfl) {} B.max boot_max (jV qh (jv 0)))
   (jr Xn {} B.int boot_int (qI (jf uK (jv 0) (jc Io qh qh)))))
  (W0 qH (jc ZR (jv 0) qh) (W0 qH qh D2))) rfl rfl {} {})),?_⟩
 refine λa b=>{_,_,s0,_,_,s0,s0,{{},{},{}},_,_,s0,s0,.inr ({_,s0,_,_,s0,s0,.inr ?_,_,_,s0,s0,(by show (0:Int) < 2147483629;decide),?_})}
 ·split<;>exact{{},{}}
 ·calc{qa,JR _ _ 0,s0,(by show 3<=15;decide),?_};rw[Gg,jF];calc k a _ _ b
def HY:ql ["_law_script","_law_k"] ["_law_script","_law_k"] (qg kJ):=j3
def Dx(F:jJ K "_law_cell_at" "_law_cell_at" kJ f b)(B:Qd mg):qu P w K mg base jh 1 f b ["_law_script","_law_k"] (Nr K):=by
 calc F.okK HY λH Q E hr h=>?_;intro X;let{a,b,k,rfl,d,_,q}:=h;refine⟨_,qb (qG (qp Jc (jv 1) (qr qy {} B.len boot_len (qI (jv 0))))
   (qc (qm (qF QN (jv 0) (jv 1)))) qt)
  (qc (qm (jc Zr (jc Zq qh (jv 1)) qh))),?_⟩
 refine{a,_,s0,.inl d,_,_,s0,s0,_,s0,Yw (λh=>?_) (λ_=>?_)}
 ·let i:=of_decide_eq_true h;rw[ta]at i;let i:(b.map V.int)[k.toNat]?=tH (V.int b[k.toNat]):=by rw[tA,tv {}];rfl
  let j:k=((k.toNat:Nat):Int):={}
  calc{_,V.int b[k.toNat],d,?_,q _};let b:=QA i;rw[<-j]at b;exact b
 ·exact{_,_,s0,s0,.inl ({{},{}}),_,_,s0,s0,q _}
def Fr(H:Hp)(d:m9)(H':Hp):Prop:=∀b a,H b=tH a->b≠d->H' b=tH a
def Fr.refl:Fr H d H:=λ_ _ h _=>h
def Fr.at_d(h:Fr H d H'):Fr H d (upd H' d o):=λb u i a=>by
 rw[qf a];calc h b u i a
def Fr.new(h:Fr H d H')(hp:H' p=r4):Fr H d (upd H' p o):=λb u a i=>qk (h b u a i) hp
def Fr.own(h:Fr H d H')(hp:H p=r4):Fr H d (upd H' p o):=λb u a i=>by
 rw[qf (qo a hp)];calc h b u a i
def Fr.trans(h:Fr H d H')(k:Fr H' d a):Fr H d a:=λb u i a=>k b u (h b u i a) a
def Fr.fresh(h:Fr H d H')(hd:H' d=tH o)(hp:H' p=r4):H p=r4:=by
 cases e:H p with
 | none=>rfl
 | some u=>
  by_cases n:p=d
  ·subst n;rw[hd]at hp;cases hp
  ·rw[h p u e n]at hp;cases hp
def Qn(c:Nat):Bool:=decide (97<=c)&&decide (c<=122)
def ji(z:Str):Bool:=(decide (1<=z.length)&&decide (z.length<=8))&&z.cps.toList.all Qn
def Kh:Str:="abcdefghijklmnopqrstuvwxyz"
def Up:Kh.cps.toList=[97,98,99,100,101,102,103,104,105,106,107,108,109,110,111,112,113,114,115,116,117,118,119,120,121,122]:=by decide+kernel
def Bl:Kh.cps.toList=(zae 26).map (97+·):=by rw[Up];rfl
def Kg:Kh.length<=zes:=by
 show Kh.cps.size<=zes;rw[<-zaG,Up];decide
def Bm(a:0<=r)(b:r < 26):Ke Kh.cps.toList r=tH (97+r.toNat):=by
 let b:Kh.cps.toList[r.toNat]?=tH (97+r.toNat):=by
  rw[Bl,tA,zbP {}];rfl
 let a:=QA b;let b:r=((r.toNat:Nat):Int):={}
 rw[<-b]at a;calc a
def V9{r:Int}(a:0<=r)(b:r < 26):Qn (97+r.toNat)=true:=by
 unfold Qn;rw[decide_eq_true (by omega:97<=97+r.toNat),decide_eq_true (by omega:97+r.toNat<=122)];rfl
def xH(a:List Nat):(Txt.join (zeo "") (a.map λk=>({#[k]}:Str))).cps.toList=a:=by
 show (Builtin.Str.glued (zeo "") _).cps.toList=_;rw[StrLaws.glued_eq_join];let e:(zeo "")=⟨#[]⟩:=by decide+kernel
 rw[e,PyProof.Rows.join_ones]
def Gq{z:Str}(e:z.cps.toList=A++[c]++B)(a:A.all Qn=true)(b:Qn c=true)(d:B.all Qn=true)(i:A.length+B.length<=7):ji z=true:=by
 let i:z.length=A.length+1+B.length:=by
  show z.cps.size=_;rw[<-zaG,e];simp;omega
 unfold ji;rw[decide_eq_true (by omega:1<=z.length),decide_eq_true (by omega:z.length<=8),e,zdC,zdC,a,d];simp [b]
def Rc(f s:Int)(k:Nat):Nat:=97+((f+s*(k:Int)) % 26).toNat
def DE:∀s∈[(1:Int),3,5,7,9,11],∀k,k < 14->∀j,j < 14->(s*((k:Nat):Int) - s*((j:Nat):Int)) % 26=0->k=j:=by decide+kernel
def DD(a:s=1\/s=3\/s=5\/s=7\/s=9\/s=11)(b:k < 14)(d:j < 14)(h:Rc f s k=Rc f s j):k=j:=by
 unfold Rc at h;calc DE s (by simpa using a) k b j d ?_;generalize s*(k:Int)=x at h ⊢;generalize s*(j:Int)=y at h ⊢;omega
def Zo(A:List Nat)(f s:Int)(zs:List Str):Prop:=∀a z,zs[a]?=tH z->∃B,z.cps.toList=A++[Rc f s a]++B/\B.all Qn=true/\A.length+B.length<=7
def Zo.snoc(h:Zo A f s zs){z:Str}(e:z.cps.toList=A++[Rc f s zs.length]++B)(d:B.all Qn=true)(i:A.length+B.length<=7):Zo A f s (zs++[z]):=by
 intro b y a;by_cases j:b < zs.length
 ·rw[tZ j]at a;exact h b y a
 ·let j:b=zs.length:=by
   let:=(tf.mp a).1;rw[tz,zas]at this;omega
  subst j;rw[tY (ti _),zcl]at a;obtain rfl:=(tH.inj a).symm;calc{B,e,d,i}
def Zo.names{A:List Nat}{f s:Int}{zs:List Str}(h:Zo A f s zs)(a:A.all Qn=true):∀z∈zs,ji z=true:=λz b=>by
 let{d,i}:=zan b;let{B,e,b,j}:=h d z i;calc Gq e a ?_ b j;unfold Rc;calc V9 (zbX _ {}) (zbK _ {})
def Zo.nodup(h:Zo A f s zs)(j:s=1\/s=3\/s=5\/s=7\/s=9\/s=11)(hz:zs.length<=14):zs.Nodup:=by
 calc zaO.mpr λi a d b _ e=>?_;let{B,l,_}:=h a _ (tv b);let{m,b,_}:=h i _ (tv d);rw[e]at b;let d:(A++[Rc f s a]++B)[A.length]?=(A++[Rc f s i]++m)[A.length]?:=by rw[<-l,<-b]
 rw[zcf,zcf,tY (ti _),tY (ti _),zcl]at d;calc absurd (DD j {} {} (tH.inj d)) {}
def yL{A:List Nat}(h:A.all Qn=true)(n:Nat):(A.take n).all Qn=true:=by
 rw[zaK]at h ⊢;calc λx a=>h x (zbN a)
def HD(a:0<=r)(b:r < 6):∃m:Int,(m=1\/m=3\/m=5\/m=7\/m=9\/m=11)/\Ke [V.int 1,V.int 3,V.int 5,V.int 7,V.int 9,V.int 11] r=tH (.int m):=by
 let:r=0\/r=1\/r=2\/r=3\/r=4\/r=5:={}
 rcases this with rfl | rfl | rfl | rfl | rfl | rfl
 ·exact{1,{},s0}
 ·exact{3,{},s0}
 ·exact{5,{},s0}
 ·exact{7,{},s0}
 ·exact{9,{},s0}
 ·calc{11,{},s0}
inductive v8(vs:List V)(H:Hp)(Q:VK):Prop
 | mk (d:m9) (m:Nat) (n s t:Int):vs=[.ref d,.int m]->H d=tH (.dK (JR n s t))->(m<=14)->(∀(l:m9) (zs:List Str) (n' t':Int) (H':Hp),H l=r4->H' l=tH (.lst (zs.map V.str))->zs.length=m->(∀z∈zs,ji z=true)->zs.Nodup->H' d=tH (.dK (JR n' s t'))->Fr H d H'->Q (.ref l) H')->v8 vs H Q
def B6:Sp:=λa H Q _=>v8 a H Q
def vF:∀zs:List Str,(zs.map λ_=>1).sum=zs.length
 | []=>rfl
 | z::zs=>by rw[tR,zau,vF zs,t7];omega
abbrev IL:List Str:=["_law_source_here","_law_many","_law_letters","_law_word","_law_ahead","_law_first","_law_step","_law_names_here","_law_k","_law_behind"]
def Cs:ql IL ["_law_source_here","_law_many"] (qg Wx):=j3
def MK{P:o3}{w:o4}{K:zen}{mg:Str->Option n9}{base:o1}{f fT:m9}{b j:zer}(F:jJ K "_law_names" "_law_names" Wx f b)(B:Qd mg)(a:qK K mg "_law_take" Wp ["_law_source_here","_law_many"] fT j):qu P w K mg base jh 2 f b ["_law_source_here","_law_many"] B6:=by
 let GT:=pin P w mg base (UR a.fn);calc F.okK Cs λH Q E hr h=>?_;intro X;let{d,m,n,b,t,rfl,hd,_,q}:=h;refine⟨_,qb (zq 2 qH)
  (qb (qB 3 (Jh zaU zcA zcB UZ qH (jO
   (jL (N':=["_law_k","_law_letters","_law_source_here"]) (ix:=[r4,tH 2,tH 0])
    (Js {} B.rng (qI qh))
    (λ_ _ _ fp _=>⟨qC 0,qP,
     qF xL (jv 1) (qw a GT (jV (jv 2) qh))⟩)) Qi)))
  (qb (qB 4 (ZI Nt (jv 3) zI (zH (jc Zq (qw a GT (jV (jv 0) qh)) (qw a GT (jV (jv 0) qh))))))
  (qb (qB 5 (qw a GT (jV (jv 0) qh)))
  (qb (qB 6 (qF QN (QH (jO qh (ja5 qh qh qh qh qh))) (qw a GT (jV (jv 0) qh))))
  (qb (qB 7 (QH Qi))
  (qb (je (Js {} B.rng (qI (jv 1))) (qC 8)
   (qb (qB 9 (ZI Nt (jv 3) zI (zH (qw a GT (jV (jv 0) (jc Ik qh (qr Z2 {} B.len boot_len (qI (jv 4)))))))))
   (qc (q5 (Jh zar zbq zbr Za (jv 7) (jO
    (jc ZS (jc ZS (jv 4) (qF xL (jv 2) (jc ZR (jc Zr (jv 5) (jc Zq (jv 6) (jv 8))) qh))) (jv 9)) Qi))))))
  (qc (qm (jv 7))))))))),?_⟩
 calc{s0,7,s0,{},{},λD l=>?_};let o:D≠d:=nq hd l;refine zL (λi C j=>∃(v:Option V) (p u:Int) (a:List Nat),C=[v,tH (.str Kh),tH (.ref d)]/\j d=tH (.dK (JR p b u))/\j D=tH (.lst ((a.map λk=>({#[k]}:Str)).map V.str))/\a.length=i/\a.all Qn=true/\Fr H d j)
  ({r4,n,t,[],s0,qk hd l,qa,s0,s0,Fr.refl.new l}) ?_ ?_
 ·rintro i C j hi ⟨v,p,u,a,rfl,O,x,J,T,fr⟩;refine{d,26,p,b,u,s0,O,{},{},λr n3 U Y r1=>{Kh,r,_,s0,s0,Kg,Bm Y r1,_,(by rw[qf o];calc x),?_,?_}}
  ·rw[ta,ta,J];exact qi {}
  ·exists _,n3,U,a++[97+r.toNat],s0,?_,?_,?_,?_
   ·rw[qf (Ne.symm o)];exact qa
   ·rw[tj,tj];exact qa
   ·rw[tz,J];rfl
   ·rw[zdC,T];simp [V9 Y r1]
   ·exact(fr.at_d).own l
 rintro C H1 ⟨v,n1,l,a,rfl,o,x,L,ae,aj⟩;let L:a.length=7:=L;exists zeo "",D,_,s0,s0,.of x,?_
 ·let y:((a.map λk=>(⟨#[k]⟩:Str)).map (·.length))=(a.map λk=>(⟨#[k]⟩:Str)).map λ_=>1:=by
   calc zaC λz x=>?_;let{c,_,rfl}:=tc.mp x;rfl
  let e2:(zeo "").length=0:=by decide+kernel
  rw[y,e2,vF,ta,L];decide
 generalize hw:Txt.join (zeo "") (a.map λk=>({#[k]}:Str))=y;let hW:y.cps.toList=a:=by rw[<-hw];exact xH a
 let ap:y.length=7:=by
  show y.cps.size=7;rw[<-zaG,hW,L]
 calc{d,2,n1,b,l,s0,o,{},{},λl n2 o _ _=>{d,5,n2,b,o,s0,qa,{},{},λr3 n3 U _ _=>?_}};rw[jF];let e4:∃o:Nat,l*r3=(o:Int)/\o<=4:=by
  let h2:l=0\/l=1:={}
  rcases h2 with rfl | rfl
  ·exact{0,{},{}}
  ·exact{r3.toNat,{},{}}
 let{o,ej,_}:=e4;calc{_,_,s0,s0,.inl ({{},{}}),_,s0,y,l*r3,s0,s0,s0,{},?_};rw[ej];generalize T:Txt.slice y r4 (tH (o:Int))=l;let hA:l.cps.toList=a.take o:=by rw[<-T,Wn,hW]
 let af:l.length=o:=by
  show l.cps.size=o;rw[<-zaG,hA,tG,L];omega
 calc{d,26,n3,b,U,s0,qa,{},{},λf n4 L _ f1=>?_};rw[jF];calc{J7,λT hp=>?_};let ag:T≠d:=nq qa hp;calc{d,6,n4,b,L,s0,(by rw[qf (Ne.symm ag)];calc qa),{},{},λ_ n5 U ak al=>?_};let{st,am,an}:=HD ak al;exists _,.int st,.of ((qf ag)▸qa),an;let aa:Fr H d (upd (upd (upd H1 d (.dK (JR n4 b L))) T (.lst [V.int 1,V.int 3,V.int 5,V.int 7,V.int 9,V.int 11])) d (.dK (JR n5 b U))):=(aj.at_d.new hp).at_d;generalize ao:upd (upd (upd H1 d (.dK (JR n4 b L))) T (.lst [V.int 1,V.int 3,V.int 5,V.int 7,V.int 9,V.int 11])) d (.dK (JR n5 b U))=L at aa;let ab:L d=tH (.dK (JR n5 b U)):=ao▸qa;calc{J7,λT J=>{m,s0,{},{},?_}};let ai:=aa.fresh ab J;let ac:T≠d:=nq ab J;refine Xj (λi C j=>∃(v1 v2:Option V) (p u:Int) (L:List Str),C=[tH (.ref d),tH (.int m),tH (.str Kh),tH (.str y),tH (.str l),tH (.int f),tH (.int st),tH (.ref T),v1,v2]/\
  j d=tH (.dK (JR p b u))/\j T=tH (.lst (L.map V.str))/\L.length=i/\Zo (a.take o) f st L/\Fr H d j)
  ({r4,r4,n5,U,[],s0,qk ab J,qa,s0,λo z x=>(nomatch x),aa.new J}) ?_ ?_
 ·rintro i C j hi ⟨v1,v2,p,u,L,rfl,O,J,x,U,fr⟩;rw[zcy];calc{l,s0,(by rw[af];calc zab (qi {})),_,_,s0,s0,d,8 - (l.length:Int),p,b,u,s0,O,{},{},λr n6 t6 Y r1=>?_};let Y:r=((r.toNat:Nat):Int):={}
  calc{_,s0,y,r,s0,s0,s0,{},?_};generalize hb:Txt.slice y r4 (tH r)=b;let y:b.cps.toList=a.take r.toNat:=by rw[<-hb,Y,Wn,hW];rfl
  let Y:b.length<=r.toNat:=by
   show b.cps.size<=r.toNat;rw[<-zaG,y,tG];omega
  calc{.inl ({s0,_,.of (by rw[qf ac];calc J)}),_,_,s0,s0,.inl ({{},{}}),_,_,s0,s0,_,_,s0,s0,(by show (0:Int) < 26;decide),?_};calc{Kh,_,_,s0,s0,Kg,Bm (zbX _ {}) (zbK _ {}),?_};let Y:97+((f+st*(i:Int)) % 26).toNat=Rc f st i:=rfl;rw[Y];let Y:(l++(⟨#[Rc f st i]⟩:Str)).length=o+1:=by
   show (l++({#[Rc f st i]}:Str)).cps.size=_;rw[Str.cps_append,Array.size_append];show l.length+1=_;rw[af]
  calc{_,_,s0,s0,zab (qi (by show l.length+1<=1000;omega)),_,_,s0,s0,zab (qi (by rw[Y];omega)),?_};calc{T,_,_,s0,s0,(by rw[qf ac];calc J),(by rw[ta,x];calc qi {}),?_};exists _,_,n6,t6,L++[l++({#[Rc f st i]}:Str)++b],s0,?_,?_,?_,?_
  ·rw[qf (Ne.symm ac)];exact qa
  ·rw[tj];exact qa
  ·rw[tz,x];rfl
  ·refine U.snoc (B:=a.take r.toNat) ?_ (yL ae _) ?_
   ·rw[Str.cps_append,Str.cps_append,zdO,zdO,hA,y,x]
   ·rw[tG,tG];omega
  ·exact fr.at_d.own ai
 ·rintro C j ⟨v1,v2,p,u,L,rfl,O,J,x,U,fr⟩;exact(q T L p u j ai J x (U.names (yL ae _)) (U.nodup am {}) O fr)
def wb(t:TT)(a:L2.St)(H:Hp):Prop:=∀Q:Bool->Hp->Prop,(∀b,Q b H)->t a H Q
def wb.and(h:wb t a H)(k:wb u a H):wb (Oh t u) a H:=λQ q=>h _ λb=>by
 cases b
 ·exact jx (q false)
 ·calc Qq (k _ q)
def wb.or(h:wb t a H)(k:wb u a H):wb (tOr t u) a H:=λQ q=>h _ λb=>by
 cases b
 ·exact jx (k _ q)
 ·calc Qq (q true)
def AK{i:TS}{D:QY}(G:Hp->Prop)(h:G d)(j:wb l a d)(hp:∀D:QY,(∀H',G H'->D.nx a H')->i D a d)(k:∀H',G H'->D.nx a H'):Kz l i VF D a d:=
 j _ λb=>by
  cases b
  ·exact jx (k _ h)
  ·calc Qq (hp D k)
def X9{d u:TS}{D:QY}(G:Hp->Prop)(h:G b)(i:wb j a b)(hp:∀D:QY,(∀H',G H'->D.nx a H')->d D a b)(k:∀H',G H'->u D a H'):Hm (Kz j d VF) u D a b:=AK G h i hp k
def W7{a:L2.St}{Q:L2.St->Hp->Prop}(h:Q (a.set i (tH v)) H):Ql i v a H Q:=h
abbrev up(k:Nat×Nat):Int×Int:=((k.1:Int),(k.2:Int))
def IU(a b:Nat×Nat):Prop:=a.1 < b.1\/(a.1=b.1/\a.2 < b.2)
abbrev keysOf(a:List (Nat×Nat)):List (List qJ):=a.map λk=>Xw (up k)
def K1(h:Xw (up a)=Xw (up b)):a=b:=by
 unfold Xw at h;simp only[zbY.injEq,Sum.inl.injEq,and_true]at h;exact Prod.ext (by have:=h.1;omega) (by have:=h.2;omega)
structure Z7(m i j:Nat)(ks:List (Nat×Nat)):Prop where
 ord:ks.Pairwise IU
 lt:∀x∈ks,x.2 < m/\(x.1 < i\/(x.1=i/\x.2 < j))
 len:ks.length<=i*m+j
def Z7.more(h:Z7 m i j a):Z7 m i (j+1) a:={h.ord,λx a=>by have:=h.lt x a;omega,by have:=h.len;omega}
def Z7.snoc(h:Z7 m i j l)(o:j < m):Z7 m i (j+1) (l++[(i,j)]):=by
 exists zdJ.mpr ({h.ord,zaX _ _,λa p b q=>?_}),λx d=>?_
 ·rw[tQ.mp q];let:=h.lt a p;unfold IU;omega
 ·rcases tU.mp d with d | d
  ·let:=h.lt x d;omega
  ·rw[tQ.mp d];exact{o,.inr ({s0,zaZ _})}
 ·rw[tz];let:=h.len;show l.length+1<=_;omega
def Z7.row(h:Z7 m i m a):Z7 m (i+1) 0 a:={h.ord,λx a=>by have:=h.lt x a;omega,by have:=h.len;rw[zei];omega}
inductive LM(m i j:Nat)(kvs:List (List qJ×V)):Prop
 | mk (ks:_):Z7 m i j ks->((kvs.map (·.1)=keysOf ks\/kvs.map (·.1)=keysOf (ks++[(i,j)])))->LM m i j kvs
def Kf(kvs:List (List qJ×V))(k:List qJ):((kvs.any λa=>decide (a.1=k))=true)↔k∈kvs.map (·.1):=by
 rw[zaW,tc];simp
def DX{kvs:List (List qJ×V)}(v:V)(h:k∈kvs.map (·.1)):(j2 kvs k v).map (·.1)=kvs.map (·.1):=by
 unfold j2;rw[if_pos ((Kf kvs k).mpr h),zad];calc zaC λx _=>?_;show (if x.1=k then (x.1,v) else x).1=x.1;split<;>rfl
def An{kvs:List (List qJ×V)}(v:V)(h:¬k∈kvs.map (·.1)):(j2 kvs k v).map (·.1)=kvs.map (·.1)++[k]:=by
 unfold j2;rw[if_neg (λz=>h ((Kf kvs k).mp z)),tj];rfl
def LM.put(h:LM m i j kvs)(v:V):LM m i j (j2 kvs (Xw (up (i,j))) v):=by
 let{b,a,h}:=h;calc{b,a,.inr ?_};rcases h with h | h
 ·rw[An,h,keysOf,keysOf,tj]
  ·rfl
  ·rw[h];intro z;let{x,b,e}:=tc.mp z;let:=a.lt x b;rw[K1 e]at this;omega
 ·rw[DX,h];rw[h];calc tc.mpr ({(i,j),{},s0})
def LM.len(h:LM m i j kvs):kvs.length<=i*m+j+1:=by
 let{_,a,h}:=h;let b:=a.len;rcases h with h | h
 ·let:=congrArg zat h;simp only[ta]at this;omega
 ·let:=congrArg zat h;simp only[ta,tz,zas]at this;omega
def EV(b:i<=m)(a:m<=14):i*m<=196:=tP (zbJ (tP b a) a) {}
def Sd(xs:List V):cutV xs r4 (tH 40)=xs.take 40:=by
 unfold cutV;let a:HT.sIx xs.length 0 r4=0:=rfl;let b:HT.sIx xs.length xs.length (tH 40)=min 40 xs.length:=by
  simp [HT.sIx]
 rw[a,b,zcS,Nat.sub_zero];by_cases h:40<=xs.length
 ·rw[zcG h]
 ·rw[Nat.min_eq_right {},tu (ti _),tu {}]
def YL(H:Hp)(ps:List m9)(a:List (Nat×Nat)):Prop:=ps.length=a.length/\∀(i:Nat) (b:m9) (k:Nat×Nat),ps[i]?=tH b->a[i]?=tH k->H b=tH (.tup [.int (k.1:Nat),.int (k.2:Nat)])
inductive kc(vs:List V)(H:Hp)(Q:VK):Prop
 | mk (d:m9) (m:Nat) (n s t sh lo:Int):vs=[.ref d,.int m,.int sh,.int lo]->H d=tH (.dK (JR n s t))->(m<=14)->(∀(l:m9) (ps:List m9) (ks:List (Nat×Nat)) (n' t':Int) (H':Hp),H l=r4->H' l=tH (.lst (ps.map V.ref))->YL H' ps ks->ks.Pairwise IU->(∀x∈ks,x.1 < m/\x.2 < m)->ks.length<=40->H' d=tH (.dK (JR n' s t'))->Fr H d H'->Q (.ref l) H')->kc vs H Q
def B9:Sp:=λa H Q _=>kc a H Q
abbrev IM:List Str:=["_law_source_here","_law_many","_law_shape","_law_low","_law_pairs","_law_k","_law_j","_law_way"]
abbrev UO:List Str:=["_law_source_here","_law_many","_law_shape","_law_low"]
def Cw:ql IM UO (qg Wz):=j3
def MO(F:jJ K "_law_leads" "_law_leads" Wz f l)(B:Qd mg)(o:mg "sorted"=r4)(j:qK K mg "_law_take" Wp ["_law_source_here","_law_many"] fT p):qu P w K mg base jh 2 f l UO B9:=by
 calc F.okK Cw λH Q E hr h=>?_;intro X;let{d,m,n,u,t,O,lo,rfl,hd,hm,q}:=h;refine⟨_,qb (qB 4 W5)
  (qb (je (Js {} B.rng (qI (jv 1))) (qC 5)
   (qc (je (Js {} B.rng (qI (jv 1))) (qC 6)
    (qb (qB 7 (qw j (pin P w mg base (UR j.fn)) (jV (jv 0) qh)))
    (qb (qG (JP (qp jU (jv 2) qh) (Je (Jd (JP (qp Jc (jv 6) (jv 5)) (Je (qp Jc (jv 7) qh))).pt (Qx (JP (qp uK (jv 6) (jv 5)) (Je (qp Jc (jv 7) qh))).pt)).pt)).pt
     (qc (jB (jv 4) (jH (jV (jv 5) (jv 6))) j0)) qt)
    (qb (qG (JP (qp jU (jv 2) qh) (Je (qp Jc (jv 7) qh))).pt
     (qc (jB (jv 4) (jH (jV (jv 5) (jv 6))) j0)) qt)
    (qb (qG (JP (qp jU (jv 2) qh) (Je (Jd (JP (qp jU (jv 6) (jc ZR (jc Zr (jv 5) qh) (jv 1))) (Je (qp Jc (jv 7) qh))).pt (Qx (qp Jc (jv 7) qh))).pt)).pt
     (qc (jB (jv 4) (jH (jV (jv 5) (jv 6))) j0)) qt)
    (qb (qG (JP (qp jU (jv 2) qh) (JP (qp Jc (jv 6) (jv 5)) (Je (Jd (qp Jc (jv 6) (jv 3)) (Qx (qp Jc (jv 7) qh))).pt))).pt
     (qc (jB (jv 4) (jH (jV (jv 5) (jv 6))) j0)) qt)
    (qc (qG (JP (qp jU (jv 2) qh) (Je (Jd (JP (qp Jc (jv 6) (jv 3)) (Je (qp Jc (jv 6) (jv 5)))).pt (Qx (JP (qp uK (jv 5) (jv 3)) (Je (qp Jc (jv 7) qh))).pt)).pt)).pt
     (qc (jB (jv 4) (jH (jV (jv 5) (jv 6))) j0)) qt)))))))))
   )
  (qc (qm (ZI XV (qr (x8 rfl) {} o boot_sorted (qI (jv 4))) zI (zH qh))))),?_⟩
 intro D T;let ac:D≠d:=nq hd T;refine⟨m,s0,{},{},Xj (n:=m) (λi v j=>∃(v1 y z:Option V) (C L:Int) (kvs:List (List qJ×V)) (l:List (Nat×Nat)),v=[tH (.ref d),tH (.int m),tH (.int O),tH (.int lo),tH (.ref D),v1,y,z]/\
  j d=tH (.dK (JR C u L))/\j D=tH (.dT kvs)/\kvs.map (·.1)=keysOf l/\Z7 m i 0 l/\Fr H d j)
  ({r4,r4,r4,n,t,[],[],s0,qk hd T,qa,s0,{.nil,λx Y=>(nomatch Y),zax _},Fr.refl.new T}) ?_ ?_⟩
 ·rintro i v j hi ⟨v1,y,z,C,L,kvs,l,rfl,U,af,p,o,fr⟩;rw[zcy];refine⟨m,s0,{},{},Xj (λJ v j=>∃(y z:Option V) (C L:Int) (kvs:List (List qJ×V)) (l:List (Nat×Nat)),v=[tH (.ref d),tH (.int m),tH (.int O),tH (.int lo),tH (.ref D),tH (.int i),y,z]/\
   j d=tH (.dK (JR C u L))/\j D=tH (.dT kvs)/\kvs.map (·.1)=keysOf l/\Z7 m i J l/\Fr H d j)
   ({_,_,C,L,kvs,l,s0,U,af,p,o,fr}) ?_ ?_⟩
  ·rintro J v H2 hj ⟨y,z,n2,t2,kvs,l,rfl,aa,ab,p,o,fr⟩;rw[zcy];calc{d,12,n2,u,t2,s0,aa,{},{},λr n3 U _ _=>?_};let ag:=EV (zab hi) hm;let' G:Hp->Prop:=λj=>∃(kvs:List (List qJ×V)),j d=tH (.dK (JR n3 u U))/\j D=tH (.dT kvs)/\LM m i J kvs/\Fr H d j;let g0:G (upd H2 d (.dK (JR n3 u U))):={kvs,qa,((qf ac)▸ab),{l,o,.inl p},fr.at_d};let put:∀j,G j->∀E:QY,(∀j,G j->E.nx [tH (.ref d),tH (.int m),tH (.int O),tH (.int lo),tH (.ref D),tH (.int i),tH (.int J),tH (.int r)] j)->
     NR (jd 4) (Uu (qW (jd 5) (qW (jd 6) QQ))) (tC (.bl true)) E [tH (.ref d),tH (.int m),tH (.int O),tH (.int lo),tH (.ref D),tH (.int i),tH (.int J),tH (.int r)] j:=by
    rintro j ⟨kvs,C,L,u,O⟩ E k;calc{J7,λae j=>{D,_,s0,Jv.t (k:=Xw (up (i,J))) (by rw[qf (Ne.symm (λe=>by rw[e,L]at j;cases j))];calc L) qa (qi (by have:=u.len;omega)),?_}};refine k _ ({_,?_,qa,u.put _,?_})
    ·rw[qf (Ne.symm ac),qf (Ne.symm (λe=>by rw[e,C]at j;cases j))];exact C
    ·exact(O.new j).own T
   calc W7 ?_;dsimp only[List.set];refine X9 G g0 ?_ (put _ g0) λ_ g3=>?_
   ·exact wb.and (λQ q=>{s0,_,s0,q _}) (.or (.and (λQ q=>{_,_,s0,s0,_,s0,q _}) (λQ q=>{_,_,s0,s0,_,s0,q _})) (.and (λQ q=>{_,_,s0,s0,_,s0,q _}) (λQ q=>{_,_,s0,s0,_,s0,q _})))
   refine X9 G g3 ?_ (put _ g3) λ_ j=>?_
   ·exact wb.and (λQ q=>{s0,_,s0,q _}) (λQ q=>{_,_,s0,s0,_,s0,q _})
   refine X9 G j ?_ (put _ j) λ_ j=>?_
   ·exact wb.and (λQ q=>{s0,_,s0,q _}) (.or (.and (λQ q=>{_,_,s0,s0,_,_,s0,s0,(by show (0:Int) < m;omega),s0,_,s0,q _}) (λQ q=>{_,_,s0,s0,_,s0,q _})) (λQ q=>{_,_,s0,s0,_,s0,q _}))
   refine X9 G j ?_ (put _ j) λ_ j=>?_
   ·exact wb.and (λQ q=>{s0,_,s0,q _}) (.and (λQ q=>{_,_,s0,s0,_,s0,q _}) (.or (λQ q=>{_,_,s0,s0,_,s0,q _}) (λQ q=>{_,_,s0,s0,_,s0,q _})))
   refine AK G j ?_ (put _ j) λ_ j=>?_
   ·exact wb.and (λQ q=>{s0,_,s0,q _}) (.or (.and (λQ q=>{_,_,s0,s0,_,s0,q _}) (λQ q=>{_,_,s0,s0,_,s0,q _})) (.and (λQ q=>{_,_,s0,s0,_,s0,q _}) (λQ q=>{_,_,s0,s0,_,s0,q _})))
   obtain⟨kvs,C,L,⟨l,o,u⟩,O⟩:=j;rcases u with u | u
   ·exact{_,_,n3,U,kvs,l,s0,C,L,u,o.more,O}
   ·exact{_,_,n3,U,kvs,_,s0,C,L,u,o.snoc hj,O}
  ·rintro v H2 ⟨y,z,n2,t2,kvs,l,rfl,aa,ab,p,o,fr⟩;exact{_,_,_,n2,t2,kvs,l,s0,aa,ab,p,o.row,fr}
 ·rintro v O ⟨v1,y,z,n1,T,kvs,l,rfl,J,j,p,o,fr⟩;let u:kvs.length=l.length:=by simpa using congrArg zat p
  let ag:=EV (ti m) hm;let u:=o.len;refine{D,kvs,l.map up,s0,j,?_,?_,{},λz U v ah tup=>?_}
  ·rw[p,zad];rfl
  ·intro i k _ j p;rw[tA]at j p;cases u:l[i]? with
   | none=>rw[u]at j;cases j
   | some a=>
    cases y:l[i+1]? with
    | none=>rw[y]at p;cases p
    | some b=>
     rw[u]at j;rw[y]at p;obtain rfl:=(tH.inj j).symm;obtain rfl:=(tH.inj p).symm;let L:=zaO.mp o.ord i (i+1) (tf.mp u).1 (tf.mp y).1 (zaZ _);rw[(tf.mp u).2,(tf.mp y).2]at L;unfold IU at L;show WV _ _;unfold WV;show (a.1:Int) < b.1\/((a.1:Int)=b.1/\(a.2:Int) < b.2);omega
  ·calc{40,s0,z,_,s0,.of qa,λy u=>?_};rw[Sd,<-zdT];let L:y≠d:=λe=>by
    rw[e,qk J v]at u;cases u
   let L:O y=r4:=by
    by_cases e:y=z
    ·rwa [e]
    ·rwa [qf e]at u
   refine q y (U.take 40) (l.take 40) n1 T _ (fr.fresh J L) qa ({?_,λi ae k j p=>?_}) ?_ ?_ ?_ ?_ ((fr.new v).new u)
   ·rw[tG,tG,ah,ta]
   ·let l:i < 40:=by
     let:=(tf.mp j).1;rw[tG]at this;omega
    rw[zbp l]at j p;let C:=tup i ae (up k) j (by rw[tA,p];rfl);exact qk (qk C v) u
   ·exact o.ord.sublist (zda _ _)
   ·intro x Y;let:=o.lt x (zbN Y);omega
   ·rw[tG];omega
   ·exact qk (qk J v) u
structure qe(rs:List (Str×List Str)):Prop where
 nm:∀r∈rs,ji r.1=true
 nd:(rs.map (·.1)).Nodup
 to:∀r∈rs,∀z∈r.2,z∈rs.map (·.1)
 rd:∀r∈rs,r.2.Nodup
 few:(rs.map λr=>r.2.length).sum<=40
def XP(zs:List Str)(j:Nat):Str:=zs.getD j ({#[]})
def XO{zs:List Str}(h:j < zs.length):XP zs j∈zs:=by
 unfold XP;rw[zav,tv h];calc zbo h
def Ye{zs:List Str}(h:j < zs.length):zs[j]?=tH (XP zs j):=by
 unfold XP;rw[zav,tv h];rfl
def wj{zs:List Str}(l:zs.Nodup)(b:i < zs.length)(d:j < zs.length)(h:XP zs i=XP zs j):i=j:=by
 let a:=Ye b;rw[h,<-(Ye d),tv b,tv d]at a;let e:=tH.inj a;rcases zaS i j with a | a | a
 ·exact absurd e (zaO.mp l i j b d a)
 ·exact a
 ·calc absurd e.symm (zaO.mp l j i d b a)
def Jp{β:Type}{f:α->β}:∀{l:List α},l.Nodup->(∀a∈l,∀b∈l,f a=f b->a=b)->(l.map f).Nodup
 | [],_,_=>zaV
 | a::l,h,k=>by
  rw[tR,zaj];rw[zaj]at h;calc{λz=>?_,Jp h.2 λx hx y hy=>k x (tI _ hx) y (tI _ hy)};let{b,hb,e}:=tc.mp z;let:=k b (tI _ hb) a (tK) e;subst this;calc h.1 hb
def Ut(a:List (Nat×Nat))(k:Nat):List Nat:=(a.filter λx=>decide (x.1=k)).map (·.2)
def Ky{d:List (Nat×Nat)}(h:d.Pairwise IU)(k:Nat):(Ut d k).Nodup:=by
 calc zbd.mpr (zdS.imp_of_mem (λ{a b} d i r=>?_) (h.sublist (zam)));let j:=of_decide_eq_true (tV.mp d).2;let d:=of_decide_eq_true (tV.mp i).2;unfold IU at r;omega
def y0{a:List (Nat×Nat)}(h:∀x∈a,x.1 < m/\x.2 < m)(k:Nat):∀j∈Ut a k,j < m:=λj a=>by
 let{x,b,e}:=tc.mp a;let:=(h x (tV.mp b).1).2;omega
def BT(os:List Nat)(f g:Nat->Nat):(os.map λk=>f k+g k).sum=(os.map f).sum+(os.map g).sum:=by
 induction os with
 | nil=>rfl
 | cons a os b=>
  simp only[tR,zau,b];omega
def BS{os:List Nat}(h:os.Nodup)(a:Nat):(os.map λk=>if a=k then 1 else 0).sum<=1:=by
 induction os with
 | nil=>calc zax _
 | cons b os d=>
  rw[zaj]at h;rw[tR,zau];by_cases e:a=b
  ·subst e;let z:(os.map λk=>if a=k then 1 else 0)=os.map λ_=>0:=zaC λk i=>by
    rw[if_neg];intro e;subst e;exact h.1 i
   rw[z,if_pos rfl];let:(os.map λ_=>0).sum=0:=by
    clear z d h;induction os with
    | nil=>rfl
    | cons c os d=>rw[tR,zau,d]
   omega
  ·rw[if_neg e];let:=d h.2;omega
def wy{os:List Nat}(h:os.Nodup):∀a:List (Nat×Nat),(os.map λk=>(Ut a k).length).sum<=a.length
 | []=>by
  let:(os.map λk=>(Ut [] k).length).sum=0:=by
   clear h;induction os with
   | nil=>rfl
   | cons c os b=>rw[tR,zau,b];rfl
  omega
 | x::a=>by
  let e:(os.map λk=>(Ut (x::a) k).length)=os.map λk=>(if x.1=k then 1 else 0)+(Ut a k).length:=zaC λk _=>by
   unfold Ut;rw[zbn];by_cases z:x.1=k
   ·rw[if_pos (decide_eq_true z),if_pos z];simp only[tR,t7];omega
   ·rw[if_neg (by simpa using z),if_neg z,zef]
  rw[e,BT,t7];let:=BS h x.1;let:=wy h a;omega
def ZB(zs:List Str)(a:List (Nat×Nat))(b:Bool)(k:Nat):Str×List Str:=
 (XP zs k,if b=true then ((Ut a k).map (XP zs)).reverse else (Ut a k).map (XP zs))
def KP:z∈(ZB zs a b k).2↔z∈(Ut a k).map (XP zs):=by
 unfold ZB;cases b
 ·rw[if_neg tN]
 ·rw[if_pos rfl,zdn]
def KQ:(ZB zs a b k).2.length=(Ut a k).length:=by
 unfold ZB;cases b
 ·rw[if_neg tN,ta]
 ·rw[if_pos rfl,zcm,ta]
structure yM(m:Nat)(os:List Nat):Prop where
 len:os.length=m
 nd:os.Nodup
 lt:∀k∈os,k < m
 all:∀j,j < m->j∈os
def Gx{zs:List Str}{d:List (Nat×Nat)}{os:List Nat}{m:Nat}(j:Bool)(hz:zs.length=m)(hN:∀z∈zs,ji z=true)(hd:zs.Nodup)(B:d.Pairwise IU)(l:∀x∈d,x.1 < m/\x.2 < m)(C:d.length<=40)(i:yM m os):
  qe (os.map (ZB zs d j)):=by
 let v:(os.map (ZB zs d j)).map (·.1)=os.map (XP zs):=by rw[zad];rfl
 exists λr hr=>?_,?_,λr hr z y=>?_,λr hr=>?_
 ·let{k,o,rfl}:=tc.mp hr;exact hN _ (XO (by rw[hz];calc i.lt k o))
 ·rw[v];exact Jp i.nd (λa p b q e=>wj hd (by rw[hz];calc i.lt a p) (by rw[hz];calc i.lt b q) e)
 ·let{k,o,rfl}:=tc.mp hr;rw[KP]at y;let{u,D,rfl}:=tc.mp y;rw[v];exact tc.mpr ({u,i.all u (y0 l k u D),s0})
 ·let{k,o,rfl}:=tc.mp hr;let o:=Jp (Ky B k) λa p b q e=>wj hd (by rw[hz];calc y0 l k a p) (by rw[hz];calc y0 l k b q) e;show (if j=true then _ else _:List Str).Nodup;cases j
  ·rwa [if_neg tN]
  ·rw[if_pos rfl];exact zdE.mpr (o.imp λh=>Ne.symm h)
 ·let l:((os.map (ZB zs d j)).map λr=>r.2.length)=os.map λk=>(Ut d k).length:=by
   rw[zad];exact zaC λk _=>KQ
  rw[l];calc tP (wy i.nd d) C
def Mo(m:Nat):yM m (zae m):={zap,zbH,λk h=>zaD.mp h,λ_ h=>zaD.mpr h}
def xr(m:Nat):yM m (YC m):={by rw[YC,zcm,zap],zdE.mpr (zbH.imp λh=>Ne.symm h),λk h=>zaD.mp (zdn.mp h),λ_ h=>zdn.mpr (zaD.mpr h)}
def XA(m:Nat):List Nat:=(zae m).map λk=>k*5 % m
def GK:∀m,m < 15->(XA m).Nodup->∀j,j < m->j∈XA m:=by decide+kernel
def kS(b:m<=14)(a:0 < m)(h:(XA m).Nodup):yM m (XA m):=
 {by rw[XA,ta,zap],h,λk b=>by let{x,_,rfl}:=tc.mp b;calc Nat.mod_lt _ a,GK m {} h}
def V6(val:Nat->Int):∀i,(firstMet val i).length=i->((zae i).map val).Nodup
 | 0,_=>zaV
 | i+1,h=>by
  let m:=firstMet_length_le val i;rw[firstMet_succ]at h;unfold step_dedup at h;split at h
  ·omega
  ·rename_i z;rw[tz,zas]at h;rw[zcJ,tj,zaL];calc{V6 val i {},{},λa d b j e=>?_};let l:b=val i:=by simpa using j
   subst l;subst e;calc z ?_;rw[firstMet_any val i (val i),zaW];calc{_,d,{}}
def IQ{os:List Nat}(h:¬(firstMet (λi=>(os.map λk=>((k:Nat):Int)).getD i 0) (os.map λk=>((k:Nat):Int)).length).length < os.length):os.Nodup:=by
 let a:=firstMet_length_le (λi=>(os.map λk=>((k:Nat):Int)).getD i 0) (os.map λk=>((k:Nat):Int)).length;let b:=V6 (λi=>(os.map λk=>((k:Nat):Int)).getD i 0) (os.map λk=>((k:Nat):Int)).length (by rw[ta]at a h ⊢;omega);let e:(zae (os.map λk=>((k:Nat):Int)).length).map (λi=>(os.map λk=>((k:Nat):Int)).getD i 0)=os.map λk=>((k:Nat):Int):=by
  calc zeg λi=>?_;rw[tA];by_cases a:i < (os.map λk=>((k:Nat):Int)).length
  ·rw[zbP a,tv a];simp only[zbz,zav,tv a,Option.getD_some]
  ·rw[zca (by rw[zap];omega),zca {}];rfl
 rw[e]at b;refine(zbd.mp b).imp λh e=>h (by rw[e])
def jg(H:Hp)(ps:List m9)(rs:List (Str×List Str)):Prop:=ps.length=rs.length/\∀(i:Nat) (a:m9) (r:Str×List Str),ps[i]?=tH a->rs[i]?=tH r->∃q,H a=tH (.tup [.str r.1,.ref q])/\H q=tH (.tup (r.2.map V.str))
inductive wL(vs:List V)(H:Hp)(Q:VK):Prop
 | mk (d:m9) (mo:Nat) (n s t:Int):vs=[.ref d,.int mo]->H d=tH (.dK (JR n s t))->(0 < mo)->(mo<=14)->(∀(l:m9) (ps:List m9) (rs:List (Str×List Str)) (n' t':Int) (H':Hp),H l=r4->H' l=tH (.lst (ps.map V.ref))->jg H' ps rs->qe rs->0 < rs.length->rs.length<=mo->H' d=tH (.dK (JR n' s t'))->Fr H d H'->Q (.ref l) H')->wL vs H Q
def R5:Sp:=λa H Q _=>wL a H Q
structure jp(mg:Str->Option n9):Prop where
 srt:mg "sorted"=r4
 lst:mg "list"=r4
 rev:mg "reversed"=r4
 set:mg "set"=r4
 tup:mg "tuple"=r4
def jg.mono(h:jg H ps rs)(s:qj H H'):jg H' ps rs:={h.1,λi d r j l=>let ⟨q,a,b⟩:=h.2 i d r j l;({q,s _ _ a,s _ _ b})}
def YL.mono(h:YL H ps a)(s:qj H H'):YL H' ps a:={h.1,λi a k b d=>s _ _ (h.2 i a k b d)}
def Fr.same(h:Fr H d H')(s:qj H' a):Fr H d a:=λb u a i=>s _ _ (h b u a i)
def jg.snoc(h:jg H ps rs)(hp:H p=tH (.tup [.str r.1,.ref q]))(j:H q=tH (.tup (r.2.map V.str))):jg H (ps++[p]) (rs++[r]):=by
 calc{by rw[tz,tz,h.1];rfl,λi l m a b=>?_};by_cases d:i < ps.length
 ·rw[tZ d]at a;rw[tZ (h.1▸d)]at b;exact h.2 i l m a b
 ·let d:i=ps.length:=by
   let:=(tf.mp a).1;rw[tz,zas]at this;omega
  subst d;rw[tY (ti _),zcl]at a;rw[h.1,tY (ti _),zcl]at b;obtain rfl:=(tH.inj a).symm;obtain rfl:=(tH.inj b).symm;calc{q,hp,j}
def jg.upd_lst(h:jg H ps rs)(d:H l=tH (.lst xs)):jg (upd H l o) ps rs:=by
 calc{h.1,λi j r m p=>?_};let{q,a,b}:=h.2 i j r m p;exists q,?_
 ·rwa [qf (λe=>by rw[e,d]at a;cases a)]
 ·rwa [qf (λe=>by rw[e,d]at b;cases b)]
def xQ{j:TT}{l u:TS}(R:Bool->Hp->Prop)(G:L2.St->Hp->Prop)(o:∀Q:Bool->Hp->Prop,(∀b a,R b a->Q b a)->j i p Q)(q:∀a,R true a->∀m:QY,(∀d H',G d H'->m.nx d H')->l m i a)(v:∀a,R false a->G i a)(k:∀d H',G d H'->u D d H'):Hm (Kz j l VF) u D i p:=
 o _ λb a r=>by
  cases b
  ·exact jx (k _ _ (v _ r))
  ·calc Qq (q _ r _ k)
def EH{zs:List Str}(h:j < zs.length):Ke (zs.map V.str) ((j:Nat):Int)=tH (V.str (XP zs j)):=QA (by rw[tA,Ye h];rfl)
def Rw{a:List (Nat×Nat)}{j:Nat}{x:Nat×Nat}(k:Nat)(h:a[j]?=tH x):Ut (a.take (j+1)) k=Ut (a.take j) k++if x.1=k then [x.2] else []:=by
 unfold Ut;rw[tE,h,zaF,tj];congr 1;by_cases e:x.1=k
 ·rw[if_pos e];simp [e]
 ·rw[if_neg e];simp [e]
abbrev oL(os:List Nat):List V:=os.map λk=>V.int ((k:Nat):Int)
def DA(os:List Nat):oL os=(os.map λk=>((k:Nat):Int)).map V.int:=by rw[zad];rfl
abbrev PK:List Str:=["_law_source_here","_law_most","_law_many","_law_names_here","_law_shape","_law_pairs","_law_about","_law_order","_law_rows_here","_law_k","_law_leads_here"]
def HH:ql PK ["_law_source_here","_law_most"] (qg ku):=j3
abbrev fy:List Str:=["_law_one","_law_j","_law_k","_law_names_here"]
def Ka:fy.Nodup:=by decide+kernel
def Df(F:jJ K "_law_rows" "_law_rows" ku f j)(B:Qd mg)(G:jp mg)(l:qK K mg "_law_take" Wp ["_law_source_here","_law_many"] fT p)(hN:qK K mg "_law_names" Wx ["_law_source_here","_law_many"] C J)(o:qK K mg "_law_leads" Wz UO L O):qu P w K mg base jh 3 f j ["_law_source_here","_law_most"] R5:=by
 let GT:=pin P w mg base (UR l.fn);calc F.okK HH λH Q E hr h=>?_;intro X;let{d,mo,n,j,t,rfl,hd,_,_,q}:=h;let p:jK 1 _:=hr.mono {};refine⟨_,qb (zq 2 (jc Zr qh (qw l GT (jV (jv 0) (jv 1)))))
  (qb (zq 3 (qw hN (pin P w mg base (MK hN.fn B l)) (jV (jv 0) (jv 2))))
  (qb (qB 4 (qw l GT (jV (jv 0) qh)))
  (qb (qB 5 (qw o (pin P w mg base (MO o.fn B G.srt l)) (P4 (jv 0) (jv 2) (jv 4) (jc Zr qh (qw l GT (jV (jv 0) qh))))))
  (qb (qB 6 (jf jU (qw l GT (jV (jv 0) qh)) qh))
  (qb (qB 7 (P1 rfl {} G.lst {} B.rng (jv 2)))
  (qb (qG (jj (jv 6)) (qc (Qu (i:=7) (N':=["_law_k","_law_many"]) (ix:=[r4,tH 2]) (Js {} B.rng (qI (jv 2)))
    (λo C l fp J=>{qC 0,qP,jc ZR (jc Zq (jv 0) qh) (jv 1)}))) qt)
  (qb (qG (qp Jc (qr yI {} B.len boot_len (qI (jr (GY rfl) {} G.set boot_set (qI (jv 7))))) (jv 2))
    (qc (qB 7 (Lm rfl {} G.lst {} G.rev {} B.rng (jv 2)))) qt)
  (qb (qB 8 (QH Qi))
  (qb (je (qv (jv 7)) (qC 9)
   (qb (Qu (i:=10) (ix:=[r4,r4,tH 9,tH 3]) (g:=GD K 2 (zu (Ql 0) (zu (Ql 1) GF))) (te:=YM (O3 K) (jd 3) (jd 1)) (qv (jv 5))
     (λo C l fp J=>⟨Jf rfl (qM (jP Ka rfl (Or.inl rfl)) (qM (jP Ka rfl (Or.inl rfl)) Qp)),
      Qo (qp jU (jv 0) (jv 2)),qF QN (jv 3) (jv 1)⟩))
   (qb (qG (jj (jv 6)) (qc (q5 (AD zar PySem.F.slot_list_reverse PySem.F.type_list_reverse xw (jv 10)))) qt)
   (qc (q5 (Jh zar zbq zbr Za (jv 8) (jO
    (jH (jV (qF QN (jv 3) (jv 9)) (jr Qa {} G.tup boot_tuple (qI (jv 10))))) Qi)))))))
  (qc (qm (jv 8)))))))))))),?_⟩
 calc{d,mo,n,j,t,s0,hd,{},{},λr n1 o _ p=>{_,_,s0,s0,?_}};let{m,em,m0,m1}:∃m:Nat,1+r=(m:Int)/\0 < m/\m<=mo:={(1+r).toNat,{},{},{}};rw[congrArg V.int em];calc{d,m,n1,j,o,s0,qa,{},λlz C n2 o l O Y zl zn as l au=>{d,5,n2,j,o,s0,l,{},{},λsh n3 l _ _=>{d,5,n3,j,l,s0,qa,{},{},λl n4 o _ _=>{_,_,s0,s0,d,m,n4,j,o,sh,1+l,s0,qa,{},λlp ps o n5 t5 l J av L aw ak ax T U=>?_}}}};let p:lz≠d:=nq qa O;calc{d,2,n5,j,t5,s0,T,{},{},λab n6 O _ _=>{s0,?_}};generalize decide (V.int ab=V.int 1)=b;let af:Fr H d (upd l d (.dK (JR n6 j O))):=((Fr.refl.at_d.trans au).at_d.at_d.trans U).at_d;let ag:upd l d (.dK (JR n6 j O)) d=tH (.dK (JR n6 j O)):=qa;let al:upd l d (.dK (JR n6 j O)) lz=tH (.lst (C.map V.str)):=by rw[qf p];exact(U _ _ (by rw[qf p,qf p];calc Y) p)
 let ah:upd l d (.dK (JR n6 j O)) lp=tH (.lst (ps.map V.ref)):=by rw[qf (λe=>by rw[e,qa]at J;cases J)];exact av
 let am:YL (upd l d (.dK (JR n6 j O))) ps o:=⟨L.1,λi p k e1 J=>by
  let h1:=L.2 i p k e1 J;let:p≠d:=nq T h1;rwa [qf this]⟩
 generalize upd l d (.dK (JR n6 j O))=T at af ag al ah am;calc{m,s0,{},λlo L=>W7 ?_};dsimp only[List.set];refine xQ (λc j=>c=b/\j=upd T lo (.lst (EL m))) (λl j=>∃lo os,l=[tH (.ref d),tH (.int mo),tH (.int m),tH (.ref lz),tH (.int sh),tH (.ref lp),tH (.bl b),tH (.ref lo),r4,r4,r4]/\qj T j/\T lo=r4/\j lo=tH (.lst (oL os))/\(os=zae m\/os=XA m))
  (λQ k=>{b,s0,k _ _ ({s0,s0})}) ?_ ?_ ?_
 ·rintro H1 ⟨rfl,rfl⟩ D' k;refine{m,s0,{},{},λD J=>zL (λi l j=>∃v:Option V,l=[v,tH (.int m)]/\j=upd (upd T lo (.lst (EL m))) D (.lst (oL ((zae i).map λk=>k*5 % m)))) ({r4,s0,s0}) ?_ ?_}
  ·rintro i l j U ⟨v,rfl,rfl⟩;rw[zcy];let U:i < m:=by simpa using U
   exists _,_,s0,s0,.inl ({{},{}}),_,_,s0,s0,(by show (0:Int) < m;omega),_,qa,?_,_,rfl
   ·rw[ta,ta,zap];exact qi {}
   ·rw[jF,zcJ,tj,oL,oL,tj];rfl
  ·rintro l j ⟨v,rfl,rfl⟩;let U:T D=r4:=by
    by_cases e:D=lo
    ·rwa [e]
    ·rwa [qf e]at J
   exact k _ _ ({D,XA m,s0,λa u h=>qk (qk h L) J,U,qa,.inr rfl})
 ·rintro H1 ⟨rfl,rfl⟩;exact{lo,zae m,s0,qd L,L,qa,.inl rfl}
 rintro l U ⟨lo,os,rfl,s7,_,an,ao⟩;let L:os.length=m:=by
  rcases ao with rfl | rfl
  ·exact zap
  ·rw[XA,ta,zap]
 refine xQ (λc j=>qj U j/\(c=true\/os.Nodup)) (λl j=>∃lo os,l=[tH (.ref d),tH (.int mo),tH (.int m),tH (.ref lz),tH (.int sh),tH (.ref lp),tH (.bl b),tH (.ref lo),r4,r4,r4]/\qj T j/\j lo=tH (.lst (oL os))/\yM m os)
  ?_ ?_ ?_ ?_
 ·calc λQ k=>{lo,os.map (λk=>((k:Nat):Int)),s0,.of (by rw[<-DA];calc an),by rw[ta,L];omega,λU S Y=>?_};calc{U,S,_,s0,qa,_,_,s0,s0,_,s0,k _ _ ({qd Y,?_})};by_cases h:(((firstMet (λi=>(os.map λk=>((k:Nat):Int)).getD i 0) (os.map λk=>((k:Nat):Int)).length).length:Nat):Int) < (m:Int)
  ·exact .inl (decide_eq_true h)
  ·exact .inr (IQ (by rw[L];omega))
 ·rintro H1 ⟨L,_⟩ D' k;exact{m,s0,{},λU Y=>k _ _ ({U,YC m,s0,λa u h=>qk (L _ _ (s7 _ _ h)) Y,qa,xr m})}
 ·rintro H1 ⟨L,h⟩;let h:=h.resolve_left {};exists lo,os,s0,λa u h=>L _ _ (s7 _ _ h),L _ _ an;rcases ao with rfl | rfl
  ·exact Mo m
  ·exact kS {} m0 h
 rintro l Y ⟨lo,os,rfl,s8,L,ho⟩;refine⟨J7,λU aa=>⟨{_,.of (qk L aa)},jz (xs:=oL os) (λi l j=>∃(v9 gW:Option V) (qs:List m9),l=[tH (.ref d),tH (.int mo),tH (.int m),tH (.ref lz),tH (.int sh),tH (.ref lp),tH (.bl b),tH (.ref lo),tH (.ref U),v9,gW]/\
  qj Y j/\j U=tH (.lst (qs.map V.ref))/\jg j qs ((os.take i).map (ZB C o b)))
  ({r4,r4,[],s0,qd aa,qa,s0,λi p r e=>(nomatch e)}) (λi l j _ ⟨_,_,_,_,s,_⟩=>.of (s _ _ L)) ?_ ?_⟩⟩
 ·rintro i x l j L ⟨v9,gW,qs,rfl,Y,ac,gg⟩;let ay:i < os.length:=by
   let:=(tf.mp L).1;rwa [ta]at this
  let{k,hk}:∃k,os[i]?=tH k:={_,tv ay};let ex:x=V.int ((k:Nat):Int):=by
   rw[tA,hk]at L;exact(tH.inj L).symm
  subst ex;calc{{_,.of (Y _ _ (s8 _ _ ah))},λD J=>?_};let ap:=Y _ _ (s8 _ _ al);let ai:=am.mono λa u h=>Y _ _ (s8 _ _ h);refine qR (K:=K) (a:=lp) (xs:=ps.map V.ref) (λL ae az=>∃v0 v1:Option V,ae=[v0,v1,tH (.int k),tH (.ref lz)]/\az=upd j D (.lst (((Ut (o.take L) k).map (XP C)).map V.str))) ({r4,r4,s0,s0})
   (λL ae G _ ⟨_,_,_,e⟩=>e▸.of (qk (Y _ _ (s8 _ _ ah)) J)) ?_ ?_
  ·rintro L y ae G hy ⟨v0,v1,rfl,rfl⟩;let hj:L < ps.length:=by
    let:=(tf.mp hy).1;rwa [ta]at this
   let{p,hp}:∃p,ps[L]?=tH p:={_,tv hj};let{kk,aj}:∃p,o[L]?=tH p:={_,tv (ai.1▸hj)};let ey:y=V.ref p:=by
    rw[tA,hp]at hy;exact(tH.inj hy).symm
   subst ey;exists p,_,s0,.of (qk (ai.2 L p kk hp aj) J),s0,s0,s0,_,rfl;rw[Rw k aj];by_cases e:kk.1=k
   ·let e1:decide (V.int ((kk.1:Nat):Int)=V.int ((k:Nat):Int))=true:=decide_eq_true (by rw[e]);rw[e1,if_pos e];refine Qq ({_,_,.of (qk ap J),EH (by rw[zl];calc(ak kk (tS aj)).2),_,qa,?_,_,_,s0,?_})
    ·rw[ta,ta];calc qi ?_;let h1:(Ut (o.take L) k).length<=(o.take L).length:=by
      unfold Ut;rw[ta];exact zao _ _
     rw[tG]at h1;omega
    ·rw[jF,tj,tj];rfl
   ·let e1:decide (V.int ((kk.1:Nat):Int)=V.int ((k:Nat):Int))=false:=decide_eq_false (by
     intro z;let:=V.int.inj z;omega)
    rw[e1,if_neg e,zal];exact jx ({_,_,s0,s0})
  ·rintro ae G ⟨v0,v1,rfl,rfl⟩;rw[ta,ai.1,tu (ti _)];calc W7 ?_;dsimp only[List.set];refine xQ (λc G=>c=b/\G=upd j D (.lst (((Ut o k).map (XP C)).map V.str)))
    (λl G=>l=[tH (.ref d),tH (.int mo),tH (.int m),tH (.ref lz),tH (.int sh),tH (.ref lp),tH (.bl b),tH (.ref lo),tH (.ref U),tH (.int k),tH (.ref D)]/\G=upd j D (.lst ((ZB C o b k).2.map V.str)))
    (λQ k=>{b,s0,k _ _ ({s0,s0})}) ?_ ?_ ?_
   ·rintro H1 ⟨rfl,rfl⟩ D' kk;calc{.inl ({s0,_,.of qa}),D,_,s0,s0,qa,kk _ _ ({s0,?_})};rw[jF,ZB,if_pos rfl,List.map_reverse]
   ·rintro H1 ⟨rfl,rfl⟩;exact{s0,s0}
   rintro l G ⟨rfl,rfl⟩;let aq:upd j D (.lst ((ZB C o b k).2.map V.str)) U=tH (.lst (qs.map V.ref)):=by rw[qf (Ne.symm (λe=>by rw[e,ac]at J;cases J))];exact ac
   let L:qj j (upd j D (.lst ((ZB C o b k).2.map V.str))):=qd J;calc{.inl ({s0,_,.of aq}),_,_,.of (L _ _ ap),EH (by rw[zl];calc(ho.lt k (tS hk))),D,_,s0,.inl ({.of qa,λlq J=>{J7,λlt p=>?_}})};let ar:=qk (o':=HO.tup [V.str (XP C k),V.ref lq]) (qk (o':=HO.tup ((ZB C o b k).2.map V.str)) aq J) p;exists U,_,_,s0,s0,ar,?_,_,_,qs++[lt],s0,?_,?_
   ·rw[ta,gg.1,ta,tG];calc qi ?_;let:=ho.len;omega
   ·exact qj.upd (λa u h=>qk (qk (L _ _ (Y _ _ h)) J) p) aa
   ·rw[tj];exact qa
   ·let e:os.take (i+1)=os.take i++[k]:=by rw[tE,hk];rfl
    rw[e,tj];exact jg.upd_lst (jg.snoc (q:=lq) (gg.mono λa u h=>qk (qk (L _ _ h) J) p) qa (qk qa p)) ar
 ·rintro l j ⟨v9,gW,qs,rfl,Y,ac,gg⟩;rw[ta ..,tu (ti _)]at gg;let l:T U=r4:=by
   cases z:T U with
   | none=>rfl
   | some u=>rw[s8 _ _ z]at aa;cases aa
  refine(q U qs _ n6 O j (af.fresh ag l) ac gg (Gx b zl zn as aw ak ax ho) ?_ ?_ (Y _ _ (s8 _ _ ag)) (af.same λa u h=>Y _ _ (s8 _ _ h)))
  ·rw[ta,ho.len];exact m0
  ·rw[ta,ho.len];exact m1
abbrev Wo:o0:=top 18
abbrev YZ:o0:=top 19
abbrev VS:o0:=top 20
abbrev CI:o0:=top 21
abbrev ur:o0:=top 22
abbrev NO:o0:=top 23
abbrev zd:o0:=top 24
def nd1(x:Str):[x].Nodup:={}
structure jD(K:zen)(mg:Str->Option n9):Prop where
 isi:mg "isinstance"=r4
 str:mg "str"=r4
 all:mg "all"=r4
 enu:mg "enumerate"=r4
 sum:mg "sum"=r4
 lets:∃t,mg "LETTERS"=tH (.str Kh t)
 lgst:∃t,mg "LONGEST_NAME"=tH (.int 8 t)
 mp:∃t,mg "MOST_PLACES"=tH (.int 14 t)
 mr:∃t,mg "MOST_ROADS"=tH (.int 40 t)
 kss:zak K (.type "str") (.type "str")=tH true
 ktt:zak K (.type "tuple") (.type "tuple")=tH true
 kll:zak K (.type "list") (.type "list")=tH true
def Lq(c:Nat):(!(Builtin.Str.occurrences Kh ({#[c]}) 0 Kh.length 1).isEmpty)=Qn c:=by
 rw[StrLaws.found_one,Bl];unfold Qn;rw[zaB];simp only[decide_eq_true_eq,zaw,tc,zaD];constructor
 ·rintro⟨k,_,rfl⟩;omega
 ·calc λh=>{c - 97,{},{}}
def Bk(f:Nat->Bool)(l:List Nat)(i c:Nat)(h:l[i]?=tH c):(l.take i).map f++[f c]=(l.take (i+1)).map f:=by
 rw[tE,h];simp
inductive E9(vs:List V)(H:Hp)(Q:VK):Prop
 | mk (z:_):vs=[.str z]->ji z=true->(∀H',qj H H'->Q (.bl true) H')->E9 vs H Q
def S8:Sp:=λa H Q _=>E9 a H Q
inductive EX(vs:List V)(H:Hp)(Q:VK):Prop
 | mk (q:m9) (zs:List Str):vs=[.ref q]->H q=tH (.tup (zs.map V.str))->((∀z∈zs,ji z=true))->(zs.length<=1000)->(∀H',qj H H'->Q (.bl true) H')->EX vs H Q
def S2:Sp:=λa H Q _=>EX a H Q
inductive R6(vs:List V)(H:Hp)(Q:VK):Prop
 | mk (p q:m9) (r:Str×List Str):vs=[.ref p]->H p=tH (.tup [.str r.1,.ref q])->H q=tH (.tup (r.2.map V.str))->ji r.1=true->((∀z∈r.2,ji z=true))->(r.2.length<=1000)->(∀H',qj H H'->Q (.bl true) H')->R6 vs H Q
def Oq:Sp:=λa H Q _=>R6 a H Q
structure QU(H:Hp)(l:m9)(ps:List m9)(rs:List (Str×List Str)):Prop where
 at_:H l=tH (.lst (ps.map V.ref))
 rows:jg H ps rs
 good:qe rs
 pos:0 < rs.length
 le:rs.length<=14
def QU.mono(h:QU H l ps rs)(s:qj H H'):QU H' l ps rs:={s _ _ h.at_,h.rows.mono s,h.good,h.pos,h.le}
def qe.names(h:qe rs):∀r∈rs,∀z∈r.2,ji z=true:=λr hr z a=>by
 let{b,d,rfl}:=tc.mp (h.to r hr z a);calc h.nm b d
def qe.len(h:qe rs):∀r∈rs,r.2.length<=40:=λr hr=>by
 calc tP ?_ h.few;let:∀(rs:List (Str×List Str)),r∈rs->r.2.length<=(rs.map λr=>r.2.length).sum:=by
  intro rs;induction rs with
  | nil=>intro h;cases h
  | cons a rs b=>
   intro h;rw[tR,zau];rcases tO.mp h with rfl | h
   ·omega
   ·let:=b h;omega
 calc this rs hr
def jg.item{H:Hp}{ps:List m9}{rs:List (Str×List Str)}(h:jg H ps rs){i:Nat}{x:V}(d:(ps.map V.ref)[i]?=tH x):∃p q r,x=.ref p/\rs[i]?=tH r/\r∈rs/\H p=tH (.tup [.str r.1,.ref q])/\H q=tH (.tup (r.2.map V.str)):=by
 rw[tA]at d;cases e:ps[i]? with
 | none=>rw[e]at d;cases d
 | some p=>
  rw[e]at d;let j:i < rs.length:=by
   let:=(tf.mp e).1;rwa [h.1]at this
  let{q,a,b}:=h.2 i p _ e (tv j);calc{p,q,_,(tH.inj d).symm,tv j,zbo j,a,b}
inductive w4(vs:List V)(H:Hp)(Q:VK):Prop
 | mk (l:m9) (ps:List m9) (rs:List (Str×List Str)):vs=[.ref l]->QU H l ps rs->(∀H',qj H H'->Q .non H')->w4 vs H Q
def y8:Sp:=λa H Q _=>w4 a H Q
inductive R9(vs:List V)(H:Hp)(Q:VK):Prop
 | mk (l:m9) (zs:List Str):vs=[.ref l]->H l=tH (.lst (zs.map V.str))->zs.Nodup->(zs.length<=1000)->(∀H',qj H H'->Q .non H')->R9 vs H Q
def Ov:Sp:=λa H Q _=>R9 a H Q
inductive ua(vs:List V)(H:Hp)(Q:VK):Prop
 | mk (q l:m9) (es zs:List Str):vs=[.ref q,.ref l]->H q=tH (.tup (es.map V.str))->H l=tH (.lst (zs.map V.str))->es.Nodup->((∀z∈es,z∈zs))->(es.length<=900)->(∀H',qj H H'->Q .non H')->ua vs H Q
def Np:Sp:=λa H Q _=>ua a H Q
def QW{kvs:List (qJ×V)}(h:¬k∈kvs.map (·.1)):ja kvs k=r4:=by
 cases e:ja kvs k with
 | none=>rfl
 | some v=>calc absurd (BG e) h
def jQ(zs:List Str):(zs.map V.str).all zR=true:=by
 rw[zcj,zaK];intro z _;rfl
def vd{z:Str}{zs:List Str}(h:z∈zs):Jz (.str z) (zs.map V.str)=true:=by
 unfold Jz;rw[zaW];calc{.str z,tc.mpr ({z,h,s0}),by show (z==z)=true;simp}
def HL:ql ["thing"] ["thing"] (qg ze):=j3
def X0(F:jJ K "is_name" "is_name" ze f a)(B:Qd mg)(T:jD K mg):qu P w K mg base jh 1 f a ["thing"] S8:=by
 calc F.okK HL λH Q E hr h=>?_;intro X;let{z,rfl,b,q}:=h;let{_,a}:=T.lets;let{_,d}:=T.lgst;refine⟨_,qb (qG (jX (jj (qr jM {} T.isi boot_isinstance (jV (jv 0) (QM (v:=.ty "str") {} T.str boot_str rfl))))) (qc (qm j0)) qt)
  (qb (qG (Jd (qp Jc (qr Z2 {} B.len boot_len (qI (jv 0))) qh)
    (Qx (qp JU (qr Z2 {} B.len boot_len (qI (jv 0))) (Qz (v:=.int 8) {} d ({_,s0}))))).pt (qc (qm j0)) qt)
  (qc (qm (qr (Q7 rfl) {} T.all boot_all (qI (jL (N':=["sign"]) (ix:=[r4]) (Lj (jv 0)) (λ_ _ _ fp _=>
   {qC 0,qP,jf K4 (jv 0) (Qz (v:=.str Kh) {} a ({_,s0})) (by with_unfolding_all rfl)}))))))),?_⟩
 let a:=b;unfold ji at a;simp only[zaw,decide_eq_true_eq]at a;obtain⟨⟨n1,n8⟩,d⟩:=a;let a:z.length<=zes:=zab (qi {});refine{_,_,_,_,s0,s0,.str z,T.kss,_,s0,jx ({z,s0,a,_,_,s0,s0,_,s0,Yw (λh=>?_) (λh=>?_)})}
 ·exact absurd (of_decide_eq_true h) {}
 ·refine{z,s0,a,_,_,s0,s0,_,s0,Yw (λa=>?_) (λa=>?_)}
  ·exact absurd (of_decide_eq_true a) (by show ¬(8:Int) < (z.length:Int);omega)
  ·refine{z,s0,λD j=>Ev (λi a b=>∃v,a=[v]/\b=upd H D (.lst (((z.cps.toList.take i).map Qn).map V.bl))) ({r4,s0,s0}) ?_ ?_}
   ·rintro i c a b l ⟨v,rfl,rfl⟩;exists _,_,s0,s0,_,qa,?_
    ·rw[ta,ta,tG];exact zbf (zdk _ _) (qi (show z.cps.toList.length<=1000 by rw[zaG];calc tP n8 {}))
    ·exists _,rfl;rw[jF,Lq,<-Bk Qn z.cps.toList i c (by simpa using l),tj];rfl
   ·rintro a b ⟨v,rfl,rfl⟩;exists D,_,s0,.of qa;let a:(z.cps.toList.map Qn).all id=true:=by rw[zcj];exact d
    rw[tu {},a];calc q _ (qd j)
def HE:ql ["thing"] ["thing"] (qg Wo):=j3
def De(F:jJ K "is_tuple_of_names" "is_tuple_of_names" Wo f a)(B:Qd mg)(G:jp mg)(T:jD K mg)(hN:qK K mg "is_name" ze ["thing"] b d):qu P w K mg base jh 2 f a ["thing"] S2:=by
 calc F.okK HE λH Q E hr h=>?_;intro X;let{x,o,rfl,b,u,_,q}:=h;refine⟨_,qc (qm (QI (qr jM {} T.isi boot_isinstance (jV (jv 0) (QM (v:=.ty "tuple") {} G.tup boot_tuple rfl)))
  (Jt (qr (Q7 rfl) {} T.all boot_all (qI (jL (N':=["part"]) (ix:=[r4]) (xJ (jv 0)) (λ_ j C fp _=>
   {qC 0,qP,qw hN (pin P w mg base (X0 hN.fn B T)) (qI (jv 0))}))))))),?_⟩
 refine{_,_,_,_,s0,s0,.tup b,T.ktt,_,s0,Qq ({{_,.of b},λD p=>Kb (λi d a=>∃v,d=[v]/\qj H a/\a D=tH (.lst ((zdH i true).map V.bl))) ({r4,s0,qd p,qa}) (λi d a _ ⟨_,_,s,_⟩=>.of (s _ _ b)) ?_ ?_})}
 ·rintro i y d a b ⟨v,rfl,l,m⟩;rw[tA]at b;cases e:o[i]? with
  | none=>rw[e]at b;cases b
  | some z=>
   rw[e]at b;obtain rfl:=(tH.inj b).symm;let b:=(tf.mp e).1;refine{z,s0,u z (tS e),λC j=>{_,j _ _ m,?_,_,s0,?_,?_}}
   ·rw[ta,zdD];exact qi {}
   ·exact qj.upd (l.trans j) p
   ·rw[qa,List.replicate_succ',tj];rfl
 ·rintro d a ⟨v,rfl,l,m⟩;exists D,_,s0,.of m;let e:(zdH (o.map V.str).length true).all id=true:={}
  rw[e];calc q _ l
def Cz:ql ["thing"] ["thing"] (qg YZ):=j3
def kZ(F:jJ K "is_row" "is_row" YZ f a)(B:Qd mg)(G:jp mg)(T:jD K mg)(hN:qK K mg "is_name" ze ["thing"] d i)(b:qK K mg "is_tuple_of_names" Wo ["thing"] j l):qu P w K mg base jh 3 f a ["thing"] Oq:=by
 calc F.okK Cz λH Q E hr h=>?_;intro X;let{d,x,r,rfl,a,i,j,l,m,q}:=h;refine⟨_,qb (qG (Jd (jX (jj (qr jM {} T.isi boot_isinstance (jV (jv 0) (QM (v:=.ty "tuple") {} G.tup boot_tuple rfl)))))
   (Qx (qp ZD (qr qy {} B.len boot_len (qI (jv 0))) qh))).pt qS qt)
  (qc (qm (QI (qw hN (pin P w mg base (X0 hN.fn B T)) (qI (qF qD (jv 0) qh))) (Jt (qw b (pin P w mg base (De b.fn B G T hN)) (qI (qF qD (jv 0) qh))))))),?_⟩
 exact{_,_,_,_,s0,s0,.tup a,T.ktt,_,s0,jx ({d,_,s0,.inr (.of a),s0,_,s0,jx ({_,_,.of a,s0,r.1,s0,j,λ_ b=>{_,s0,Qq ({_,_,.of (b _ _ a),s0,x,r.2,s0,b _ _ i,l,m,λa d=>q a (b.trans d)})}})})}
abbrev PQ:List Str:=["rows","number","row"]
def xc:ql PQ ["rows"] (qg VS):=j3
def Dt{P:o3}{w:o4}{K:zen}{mg:Str->Option n9}{base:o1}{f j m o:m9}{d p u v:zer}(F:jJ K "need_form" "need_form" VS f d)(B:Qd mg)(G:jp mg)(T:jD K mg)(hN:qK K mg "is_name" ze ["thing"] j p)(y:qK K mg "is_tuple_of_names" Wo ["thing"] m u)
  (l:qK K mg "is_row" YZ ["thing"] o v):qu P w K mg base jh 4 f d ["rows"] y8:=by
 let{_,m}:=T.mp;calc F.okK xc λH Q E hr h=>?_;intro X;let{j,d,o,rfl,g,q}:=h;refine⟨_,qb (qG (Jd (jX (jj (qr jM {} T.isi boot_isinstance (jV (jv 0) (QM (v:=.ty "list") {} G.lst boot_list rfl)))))
   (Qx (qp jU (qr qy {} B.len boot_len (qI (jv 0))) qh))).pt qS qt)
  (qb (qG (qp JU (qr qy {} B.len boot_len (qI (jv 0))) (Qz (v:=.int 14) {} m ({_,s0}))) qS qt)
  (qc (je (ZX {} T.enu (qI (jv 0))) (Jf rfl (qM (qC 1) (qM (qC 2) Qp)))
   (qc (qG (jX (jj (qw l (pin P w mg base (kZ l.fn B G T hN y)) (qI (jv 2))))) qS qt))))),?_⟩
 let l:(d.map V.ref).length=o.length:=by rw[ta,g.rows.1]
 calc{_,_,_,_,s0,s0,.lst g.at_,T.kll,_,s0,jx ({j,_,s0,.inl (.of g.at_),s0,_,s0,?_})};let l:decide (V.int (((d.map V.ref).length:Nat):Int)=V.int 0)=false:=decide_eq_false (by
  intro z;let:=V.int.inj z;let:=g.pos;omega)
 rw[l];calc jx ({j,_,s0,.inl (.of g.at_),_,_,s0,s0,_,s0,?_});let l:decide ((14:Int) < (((d.map V.ref).length:Nat):Int))=false:=decide_eq_false (by
  let:=g.le;omega)
 calc Yw (λz=>absurd z (by rw[l];decide)) (λ_=>?_);refine{j,s0,{_,.of g.at_},Zg (λi l d=>∃v1 m,l=[tH (.ref j),v1,m]/\qj H d) ({r4,r4,s0,qj.refl H}) (λi l d _ ⟨_,_,_,s⟩=>.of (s _ _ g.at_)) ?_ ?_}
 ·rintro i x l d u v p ⟨v1,m,rfl,j⟩;let{y,C,r,rfl,_,o,a,b}:=(g.mono (j.trans (qd (o:=.tup [.int (i:Nat),x]) p))).rows.item v;exact{u,_,s0,.of qa,s0,s0,y,C,r,s0,a,b,g.good.nm r o,g.good.names r o,tP (g.good.len r o) {},λ_ o=>{_,s0,jx ({_,_,s0,(j.trans (qd p)).trans o})}}
 ·rintro l d ⟨v1,m,rfl,j⟩;calc q d j
abbrev e9:List Str:=["order","ahead","name"]
def OM:ql e9 ["order"] (qg CI):=j3
def Q5{zs:List Str}(l:zs.Nodup)(e:zs[i]?=tH z):¬(Sum.inr z:qJ)∈(zs.take i).map Sum.inr:=λh=>by
 let{y,d,a}:=tc.mp h;let b:=Sum.inr.inj a;subst b;let{b,a}:=zan d;let d:=(tf.mp a).1;rw[tG]at d;let d:b < i:={}
 rw[zbp d]at a;let j:=(tf.mp a);let a:=(tf.mp e);calc absurd (j.2.trans a.2.symm) (zaO.mp l b i j.1 a.1 d)
def XZ{kvs:List (qJ×V)}{k:qJ}(v:V)(h:ja kvs k=r4):(j2 kvs k v).map (·.1)=kvs.map (·.1)++[k]:=by
 rw[QD v h,tj];rfl
def MC(F:jJ K "need_own_names" "need_own_names" CI f a):qu P w K mg base jh 1 f a ["order"] Ov:=by
 calc F.okK OM λH Q E hr h=>?_;intro X;let{b,j,rfl,m,u,_,q}:=h;exists _,qb (qB 1 j8)
  (qc (je (qv (jv 0)) (qC 2)
   (qb (qG (Jr (zr (jv 2) (jv 1))) qS qt) (qc (jB (jv 1) (jv 2) j0)))))
 refine λD l=>{{_,.of (qk m l)},jz (K:=K) (a:=b) (xs:=j.map V.str) (λi d a=>∃v kvs,d=[tH (.ref b),tH (.ref D),v]/\qj H a/\a D=tH (.dK kvs)/\kvs.map (·.1)=(j.take i).map Sum.inr) ({r4,[],s0,qd l,qa,s0}) (λi d a _ ⟨_,_,_,s,_⟩=>.of (s _ _ m)) ?_ ?_}
 ·rintro i x d a b ⟨v,kvs,rfl,m,p,o⟩;rw[tA]at b;cases e:j[i]? with
  | none=>rw[e]at b;cases b
  | some z=>
   rw[e]at b;obtain rfl:=(tH.inj b).symm;let b:=(tf.mp e).1;let b:=QW (by rw[o];calc Q5 u e);let j:jk a D (.str z) r4:=by
    let:=jk.k (k:=(Sum.inr z:qJ)) p;rwa [b]at this
   let lk:kvs.length < zes:=by
    let:=congrArg zat o;rw[ta,ta,tG]at this;exact qi {}
   calc{r4,j,_,s0,jx ({D,_,s0,Jv.k (k:=(Sum.inr z:qJ)) p lk,_,_,s0,qj.upd m l,qa,?_})};rw[XZ _ b,o,tE,e,tj];rfl
 ·rintro d a ⟨v,kvs,rfl,m,_⟩;calc q a m
abbrev PR:List Str:=["ends","order","ahead","name"]
def HU:ql PR ["ends","order"] (qg ur):=j3
def uM(F:jJ K "need_ends" "need_ends" ur f a):qu P w K mg base jh 1 f a ["ends","order"] Np:=by
 calc F.okK HU λH Q E hr h=>?_;intro X;let{x,p,l,B,rfl,b,C,J,L,_,q}:=h;refine⟨_,qb (qB 2 j8)
  (qc (je (xJ (jv 0)) (qC 3)
   (qb (qG (qp Qm (jv 3) (jv 1) (by with_unfolding_all rfl)) qS qt)
   (qb (qG (Jr (zr (jv 3) (jv 2))) qS qt) (qc (jB (jv 2) (jv 3) j0)))))),?_⟩
 refine λD m=>{{_,.of (qk b m)},Eh (K:=K) (a:=x) (xs:=l.map V.str) (λi d a=>∃v kvs,d=[tH (.ref x),tH (.ref p),tH (.ref D),v]/\qj H a/\a D=tH (.dK kvs)/\kvs.map (·.1)=(l.take i).map Sum.inr) ({r4,[],s0,qd m,qa,s0}) (λi d a _ ⟨_,_,_,s,_⟩=>.of (s _ _ b)) ?_ ?_}
 ·rintro i y d a b ⟨v,kvs,rfl,j,u,o⟩;rw[tA]at b;cases e:l[i]? with
  | none=>rw[e]at b;cases b
  | some z=>
   rw[e]at b;obtain rfl:=(tH.inj b).symm;let b:=(tf.mp e).1;let b:=QW (by rw[o];calc Q5 J e);let l:jk a D (.str z) r4:=by
    let:=jk.k (k:=(Sum.inr z:qJ)) u;rwa [b]at this
   let lk:kvs.length < zes:=by
    let:=congrArg zat o;rw[ta,ta,tG]at this;exact qi {}
   exists p,_,s0,.inl (.of (j _ _ C)),s0,jQ B,_,rfl;rw[vd (L z (tS e))];calc jx ({r4,l,_,s0,jx ({D,_,s0,Jv.k (k:=(Sum.inr z:qJ)) u lk,_,_,s0,qj.upd j m,qa,?_})});rw[XZ _ b,o,tE,e,tj];rfl
 ·rintro d a ⟨v,kvs,rfl,j,_⟩;calc q a j
abbrev fi:List Str:=["rows","many"]
def Fu:ql fi ["rows"] (qg NO):=j3
def IF{P:o3}{w:o4}{K:zen}{mg:Str->Option n9}{base:o1}{f:m9}{d:zer}(F:jJ K "need_few_roads" "need_few_roads" NO f d)(B:Qd mg)(T:jD K mg):qu P w K mg base jh 1 f d ["rows"] y8:=by
 let{_,l}:=T.mr;calc F.okK Fu λH Q E hr h=>?_;intro X;let{_,m,o,rfl,g,q}:=h;refine⟨_,qb (qB 1 (qr (Ug rfl) {} T.sum boot_sum (qI (jL (N':=["row"]) (ix:=[r4]) (te:=BR (λp H Q=>∃d j,p=[.ref d]/\(JX K H d j\/SqT K H d j)/\Q (.int j.length) H) (qW (YM (Yo K) (jd 0) (tC (.int 1))) QQ)) (qv (jv 0)) (λ_ _ _ fp _=>
   {qC 0,qP,qr qy {} B.len boot_len (qI (qF qD (jv 0) qh))})))))
  (qc (qG (qp JU (jv 1) (Qz (v:=.int 40) {} l ({_,s0}))) qS qt)),?_⟩
 refine{{_,.of g.at_},λD d=>qR (xs:=m.map V.ref) (λi j l=>∃v,j=[v]/\l=upd H D (.lst (((o.take i).map λr=>r.2.length).map λn=>V.int ((n:Nat):Int)))) ({r4,s0,s0}) (λi j l _ ⟨_,_,e⟩=>e▸.of (qk g.at_ d)) ?_ ?_}
 ·rintro i x j l o ⟨v,rfl,rfl⟩;let{_,p,r,rfl,m,_,a,b}:=g.rows.item o;let o:=(tf.mp m).1;exists _,_,.of (qk a d),s0,p,_,s0,.inr (.of (qk b d)),_,qa,?_,_,rfl
  ·rw[ta,ta,tG];let:=g.le;exact qi {}
  ·rw[jF,tE,m,tj,tj,ta];rfl
 ·rintro j l ⟨v,rfl,rfl⟩;rw[tu (by rw[ta,g.rows.1];calc ti _)];calc{D,_,s0,.of qa,zbf g.good.few {},{_,_,s0,s0,_,s0,?_}};let:=g.good.few;calc Yw (λz=>absurd (of_decide_eq_true z) ?_) (λ_=>q _ (qd d));show ¬(40:Int) < _;omega
abbrev PM:List Str:=["rows","order","row"]
def xb:ql PM ["rows"] (qg zd):=j3
structure Xr(K:zen)(mg:Str->Option n9):Prop where
 nm:∃f fd,qK K mg "is_name" ze ["thing"] f fd
 tn:∃f fd,qK K mg "is_tuple_of_names" Wo ["thing"] f fd
 rw:∃f fd,qK K mg "is_row" YZ ["thing"] f fd
 fo:∃f fd,qK K mg "need_form" VS ["rows"] f fd
 ow:∃f fd,qK K mg "need_own_names" CI ["order"] f fd
 en:∃f fd,qK K mg "need_ends" ur ["ends","order"] f fd
 fw:∃f fd,qK K mg "need_few_roads" NO ["rows"] f fd
def Dl{P:o3}{w:o4}{K:zen}{mg:Str->Option n9}{base:o1}{f:m9}{d:zer}(F:jJ K "need_rows" "need_rows" zd f d)(B:Qd mg)(G:jp mg)(T:jD K mg)(N:Xr K mg):qu P w K mg base jh 5 f d ["rows"] y8:=by
 let{_,_,l}:=N.nm;let{_,_,y}:=N.tn;let{_,_,C}:=N.rw;let{_,_,d}:=N.fo;let{_,_,j}:=N.ow;let{_,_,o}:=N.en;let{_,_,z}:=N.fw;calc F.okK xb λH Q E hr h=>?_;intro X;let{p,u,m,rfl,g,q}:=h;exists _,qb (q5 (qw d (pin P w mg base (Dt d.fn B G T l y C)) (qI (jv 0))))
  (qb (Qu (i:=1) (N':=["row"]) (ix:=[r4]) (te:=YM (Yo K) (jd 0) (tC (.int 0))) (qv (jv 0)) (λ_ y l fp _=>
   {qC 0,qP,qF qD (jv 0) qh}))
  (qb (q5 (qw j (pin P w mg base (MC j.fn)) (qI (jv 1))))
  (qb (je (qv (jv 0)) (qC 2)
   (qc (q5 (qw o (pin P w mg base (uM o.fn)) (jV (qF qD (jv 2) qh) (jv 1))))))
  (qc (q5 (qw z (pin P w mg base (IF z.fn B T)) (qI (jv 0))))))))
 calc{p,u,m,s0,g,λo L=>?_};let g1:=g.mono L;refine{{_,.of g1.at_},λD z=>qR (xs:=u.map V.ref) (λi d j=>∃v,d=[v]/\j=upd o D (.lst (((m.take i).map (·.1)).map V.str))) ({r4,s0,s0}) (λi d j _ ⟨_,_,e⟩=>e▸.of (qk g1.at_ z)) ?_ ?_}
 ·rintro i x d j C ⟨v,rfl,rfl⟩;let{Y,O,r,rfl,J,o,a,b}:=g1.rows.item C;let U:=(tf.mp J).1;exists _,_,.of (qk a z),s0,_,qa,?_,_,rfl
  ·rw[ta,ta,tG];let:=g.le;exact qi {}
  ·rw[jF,tE,J,tj,tj];rfl
 ·rintro d j ⟨v,rfl,rfl⟩;rw[tu (by rw[ta,g.rows.1];calc ti _)];calc{D,m.map (·.1),s0,qa,g.good.nd,by rw[ta];let:=g.le;omega,λl y=>?_};let U:=(qd z).trans y;let g2:=g1.mono U;refine{{_,.of g2.at_},jz (λi d j=>∃v,d=[tH (.ref p),tH (.ref D),v]/\qj l j) ({r4,s0,qj.refl l}) (λi d j _ ⟨_,_,s⟩=>.of (s _ _ g2.at_)) ?_ ?_}
  ·rintro i x d j C ⟨v,rfl,l⟩;let{Y,O,r,rfl,J,o,a,b}:=(g2.mono l).rows.item C;refine{_,_,.of a,s0,O,D,r.2,m.map (·.1),s0,b,l _ _ (y _ _ qa),g.good.rd r o,g.good.to r o,tP (g.good.len r o) {},λy o=>{_,s0,l.trans o}}
  ·rintro d j ⟨v,rfl,l⟩;exact{p,u,m,s0,g2.mono l,λy o=>q y (((L.trans U).trans l).trans o)}
abbrev xi:o0:=Qg (top 25) 0
abbrev XY:o0:=Qg (top 25) 1
abbrev UF:o0:=Qg (top 25) 2
def qz(rs:List (Str×List Str))(r:Str×List Str):List Str:=(rs.map (·.1)).filter λz=>Jz (.str z) (r.2.map V.str)
inductive qZ(CG:m9)(H:Hp)(a:m9)(rs:List (Str×List Str)):Prop
 | mk (dx lo rd:m9) (kvs:List (qJ×V)):H a=tH (.ins CG dx [("order",.ref lo),("roads",.ref rd)])->H lo=tH (.lst ((rs.map (·.1)).map V.str))->H rd=tH (.dK kvs)->(∀r∈rs,∃q,ja kvs (Sum.inr r.1)=tH (.ref q)/\H q=tH (.lst ((qz rs r).map V.str)))->qZ CG H a rs
def qZ.mono(h:qZ d H a rs)(s:qj H H'):qZ d H' a rs:=by
 let{d,lo,i,kvs,j,l,m,o}:=h;calc{d,lo,i,kvs,s _ _ j,s _ _ l,s _ _ m,λr hr=>let ⟨q,a,b⟩:=o r hr;({q,a,s _ _ b})}
def QU.fr(h:QU H l ps rs)(d:H x=tH (.ins C j fs))(s:Fr H x H'):QU H' l ps rs:=by
 refine{s _ _ h.at_ (λe=>?_),{h.rows.1,λi j r m o=>?_},h.good,h.pos,h.le}
 ·let:=h.at_;rw[e,d]at this;cases this
 ·let{q,a,b}:=h.rows.2 i j r m o;exact{q,s _ _ a (nq d a),s _ _ b (nq d b)}
structure EF(K:zen)(mg:Str->Option n9)(CG f:m9)(fd:zer):Prop where
 cl:Wf K CG
 mkr:Mk K CG f
 ns:mg "Ground"=tH (.ref CG)
 no:Qy K CG "order"
 nr:Qy K CG "roads"
 fn:jJ K "__init__" "Ground.__init__" xi f fd
 bi:Qj K fd ["self","rows"] []
def nor:¬(zeo "order")=zeo "roads":=by decide+kernel
def T7(v:V):ZN (zeo "order") v []=[(zeo "order",v)]:=rfl
def T6(v u:V):ZN (zeo "roads") u [(zeo "order",v)]=[(zeo "order",v),(zeo "roads",u)]:=by
 unfold ZN;rw[if_neg nor];rfl
def fk(v u:V):([(zeo "order",v),(zeo "roads",u)]:List (Str×V)).lookup (zeo "order")=tH v:=by simp [zbi]
def SE(v u:V):([(zeo "order",v),(zeo "roads",u)]:List (Str×V)).lookup (zeo "roads")=tH u:=by
 let e:((zeo "roads")==(zeo "order"))=false:=by decide+kernel
 simp [zbi,e]
inductive kl(CG:m9)(vs:List V)(H:Hp)(Q:VK):Prop
 | mk (x dx l:m9) (ps:List m9) (rs:List (Str×List Str)):vs=[.ref x,.ref l]->QU H l ps rs->H x=tH (.ins CG dx [])->(∀H',qZ CG H' x rs->Fr H x H'->Q .non H')->kl CG vs H Q
def XU(a:m9):Sp:=λb H Q _=>kl a b H Q
inductive VQ(CG:m9)(vs:List V)(H:Hp)(Q:VK):Prop
 | mk (a:m9) (rs:List (Str×List Str)):vs=[.ref a]->qZ CG H a rs->(∀l,H l=r4->Q (.ref l) (upd H l (.lst ((rs.map (·.1)).map V.str))))->VQ CG vs H Q
def kj(a:m9):Sp:=λb H Q _=>VQ a b H Q
inductive km(CG:m9)(vs:List V)(H:Hp)(Q:VK):Prop
 | mk (a:m9) (rs:List (Str×List Str)) (r:Str×List Str):vs=[.ref a,.str r.1]->qZ CG H a rs->(r∈rs)->ji r.1=true->(∀H1 l,qj H H1->H1 l=r4->Q (.ref l) (upd H1 l (.lst ((qz rs r).map V.str))))->km CG vs H Q
def Cd(a:m9):Sp:=λb H Q _=>km a b H Q
abbrev nGI:List Str:=["self","rows","row"]
def HS:ql nGI ["self","rows"] (qg xi):=j3
def zh(C:EF K mg p f d)(B:Qd mg)(G:jp mg)(T:jD K mg)(N:Xr K mg)(j:qK K mg "need_rows" zd ["rows"] l m):qu P w K mg base jh 6 f d ["self","rows"] (XU p):=by
 refine C.fn.okJ HS (λd H Q E h=>?_) (λ_ A _ s H d Q E hr h=>?_)
 ·let{x,m,af,U,d,rfl,_}:=h;rfl
 ·let{x,m,af,U,d,rfl,g,hx,q}:=h;refine⟨_,qb (q5 (qw j (pin P w mg base (Dl j.fn B G T N)) (qI (jv 1))))
   (qb (U5 (jv 0) (jL (N':=["row"]) (ix:=[r4]) (te:=YM (Yo K) (jd 0) (tC (.int 0))) (qv (jv 1)) (λC j Y fp l=>
    {qC 0,qP,qF qD (jv 0) qh})) rfl)
   (qb (U5 (jv 0) j8 rfl)
   (qc (je (qv (jv 1)) (jP (i:=2) HS.nd rfl (Or.inr rfl))
    (qc (jB (Q1 (jv 0) rfl) (qF qD (jv 2) qh) (jL (N':=["name","row"]) (ix:=[r4,tH 2]) (tt:=Yh (YM (FJ K false) (jd 0) (YM (Yo K) (jd 1) (tC (.int 1))))) (qv (Q1 (jv 0) rfl)) (λC j Y fp l=>
      {qC 0,Qo (qp Q4 (jv 0) (qF qD (jv 1) qh) (by with_unfolding_all rfl)),jv 0})))))))),?_⟩
  calc{af,U,d,s0,g,λl j=>?_};let g1:=g.mono j;let ap:Fr H x l:=λb u h _=>j _ _ h;let aj:=j _ _ hx;calc{{_,.of g1.at_},λlo o=>?_};let ak:lo≠x:=nq aj o;refine qR (xs:=U.map V.ref) (λi J j=>∃v,J=[v]/\j=upd l lo (.lst (((d.take i).map (·.1)).map V.str))) ({r4,s0,s0}) (λi J j _ ⟨_,_,e⟩=>e▸.of (qk g1.at_ o)) ?_ ?_
  ·rintro i y J j L ⟨v,rfl,rfl⟩;let{_,_,r,rfl,O,aq,a,b}:=g1.rows.item L;let hi:=(tf.mp O).1;exists _,_,.of (qk a o),s0,_,qa,?_,_,rfl
   ·rw[ta,ta,tG];let:=g.le;exact qi {}
   ·rw[jF,tE,O,tj,tj];rfl
  rintro J j ⟨v,rfl,rfl⟩;let e:d.take (U.map V.ref).length=d:=tu (by rw[ta,g.rows.1];calc ti _);rw[e];let ag:Fr H x (upd l lo (.lst ((d.map (·.1)).map V.str))):=ap.new o;let al:upd l lo (.lst ((d.map (·.1)).map V.str)) lo=tH (.lst ((d.map (·.1)).map V.str)):=qa;let ah:upd l lo (.lst ((d.map (·.1)).map V.str)) x=tH (.ins p m []):=qk aj o;generalize upd l lo (.lst ((d.map (·.1)).map V.str))=Y at ag al ah;calc{x,p,m,[],s0,ah,C.cl,C.no,{},?_};rw[T7];intro o l;let ai:o≠x:=nq qa l;let am:Y o=r4:=by rwa [qf ai]at l
  let an:o≠lo:=nq al am;let ao:=ag.fresh ah am;calc{x,p,m,_,s0,qk qa l,C.cl,C.nr,by show 1 < 1000;decide,?_};rw[T6];let l:Fr H x (upd (upd (upd Y x (.ins p m [("order",.ref lo)])) o (.dK [])) x (.ins p m [("order",.ref lo),("roads",.ref o)])):=((ag.at_d).own ao).at_d;refine⟨{_,.of (g.fr hx l).at_},jz (xs:=U.map V.ref) (λi J j=>∃v kvs,J=[tH (.ref x),tH (.ref af),v]/\j x=tH (.ins p m [("order",.ref lo),("roads",.ref o)])/\j lo=tH (.lst ((d.map (·.1)).map V.str))/\j o=tH (.dK kvs)/\
   kvs.map (·.1)=((d.map (·.1)).take i).map Sum.inr/\(∀r∈d.take i,∃q,ja kvs (Sum.inr r.1)=tH (.ref q)/\j q=tH (.lst ((qz d r).map V.str)))/\Fr H x j)
   ({r4,[],s0,qa,?_,?_,s0,λr h=>(nomatch h),l}) (λi J j _ ⟨_,_,_,_,_,_,_,_,fr⟩=>.of (g.fr hx fr).at_) ?_ ?_⟩
  ·rwa [qf ak,qf (Ne.symm an),qf ak]
  ·rw[qf ai];exact qa
  ·rintro i y J j L ⟨v,kvs,rfl,Y,aa,ab,ek,hv,fr⟩;let{ar,qq,r,rfl,O,aq,a,b}:=(g.fr hx fr).rows.item L;let hi:=(tf.mp O).1;let l:=g.le;refine⟨p,m,_,_,Y,C.cl,C.no,fk _ _,{_,.of aa},λD l=>qR (K:=K) (a:=lo) (xs:=(d.map (·.1)).map V.str) (λU ac ae=>∃v0,ac=[v0,tH (.ref ar)]/\ae=upd j D (.lst ((((d.map (·.1)).take U).filter λz=>Jz (.str z) (r.2.map V.str)).map V.str))) ({r4,s0,s0})
    (λU ac ae _ ⟨_,_,e⟩=>e▸.of (qk aa l)) ?_ ?_⟩
   ·rintro U y ac ae L ⟨v0,rfl,rfl⟩;rw[tA]at L;cases e:(d.map (·.1))[U]? with
    | none=>rw[e]at L;cases L
    | some z=>
     rw[e]at L;obtain rfl:=(tH.inj L).symm;exists _,_,.of (qk a l),s0,qq,_,s0,.inr (.of (qk b l)),s0,jQ _,_,rfl;let et:((d.map (·.1)).take (U+1)).filter (λz=>Jz (.str z) (r.2.map V.str))=((d.map (·.1)).take U).filter (λz=>Jz (.str z) (r.2.map V.str))++if Jz (.str z) (r.2.map V.str)=true then [z] else []:=by
      rw[tE,e,zaF];congr 1;cases L:Jz (.str z) (r.2.map V.str)
      ·simp [L]
      ·simp [L]
     rw[et];show if Jz (.str z) (r.2.map V.str)=true then _ else _
     cases L:Jz (.str z) (r.2.map V.str) with
     | true=>
      refine Qq ({_,qa,?_,_,s0,?_})
      ·rw[ta];calc qi (tP (zao _ _) ?_);rw[tG,ta];omega
      ·rw[jF,if_pos rfl,tj];rfl
     | false=>
      calc jx ({_,s0,?_});rw[if_neg tN,zal]
   ·rintro ac ae ⟨v0,rfl,rfl⟩;let L:((d.map (·.1)).take ((d.map (·.1)).map V.str).length).filter (λz=>Jz (.str z) (r.2.map V.str))=qz d r:=by
     rw[ta,tu (ti _)];rfl
    rw[L];let L:(d.map (·.1))[i]?=tH r.1:=by rw[tA,O];rfl
    let U:=QW (by rw[ek];calc Q5 g.good.nd L);let lk:kvs.length < zes:=by
     let:=congrArg zat ek;rw[ta,ta,tG,ta]at this;exact qi {}
    refine{p,m,_,_,qk Y l,C.cl,C.nr,SE _ _,_,_,.of (qk a l),s0,o,_,s0,Jv.k (k:=(Sum.inr r.1:qJ)) (qk ab l) lk,{_,j2 kvs (Sum.inr r.1) (.ref D),s0,?_,?_,qa,?_,λp d=>?_,?_}}
    ·rw[qf (Ne.symm ai)];exact qk Y l
    ·rw[qf (Ne.symm an)];exact qk aa l
    ·rw[XZ _ U,ek,tE,L,tj];rfl
    ·rw[tE,O]at d;rcases tU.mp d with h | h
     ·let{L,d,O}:=hv p h;exists L,?_
      ·rw[QV,if_neg]
       ·exact d
       ·intro z;rw[z,U]at d;cases d
      ·let n1:L≠o:=nq ab O;rw[qf n1];exact qk O l
     ·let d:p=r:=by simpa using h
      subst d;exists D,?_
      ·rw[QV,if_pos rfl]
      ·rw[qf (Ne.symm ((λh e=>by rw[e,l]at h;cases h) ab))];exact qa
    ·exact(fr.new l).own ao
  ·rintro J j ⟨v,kvs,rfl,Y,aa,ab,ek,hv,fr⟩;rw[tu (by rw[ta,g.rows.1];calc ti _)]at hv;calc q j ({m,lo,o,kvs,Y,aa,ab,hv}) fr
def TN:ql ["self"] ["self"] (qg XY):=j3
def j7(F:jJ K "names" "Ground.names" XY f d)(C:EF K mg b i j)(G:jp mg):qu P w K mg base jh 1 f d ["self"] (kj b):=by
 calc F.okK TN λH Q E hr h=>?_;intro X;obtain⟨a,_,rfl,⟨d,lo,_,kvs,i,j,_,_⟩,q⟩:=h;calc{_,qc (qm (jr Qs {} G.lst boot_list (qI (Q1 (jv 0) rfl)))),{b,d,_,_,i,C.cl,C.no,fk _ _,lo,_,s0,.inl (.of j),q}}
abbrev fh:List Str:=["self","name"]
def TQ:ql fh fh (qg UF):=j3
def QE(F:jJ K "roads_from" "Ground.roads_from" UF f d)(C:EF K mg b i j)(B:Qd mg)(G:jp mg)(T:jD K mg)(hN:qK K mg "is_name" ze ["thing"] l m):qu P w K mg base jh 2 f d fh (Cd b):=by
 calc F.okK TQ λH Q E hr h=>?_;intro X;let{a,_,r,rfl,m,o,d,q}:=h;refine⟨_,qb (qG (Jd (jX (jj (qw hN (pin P w mg base (X0 hN.fn B T)) (qI (jv 1))))) (Qx (Jr (Xf (jv 1) (Q1 (jv 0) rfl))))).pt qS qt)
  (qc (qm (jr Qs {} G.lst boot_list (qI (qE (Q1 (jv 0) rfl) (jv 1)))))),?_⟩
 calc{r.1,s0,d,λd i=>{_,s0,jx ?_}};let{j,lo,p,kvs,l,_,u,v}:=m.mono i;let{m,x,y}:=v r o;let o:jk d p (.str r.1) (tH (.ref m)):=by
  let:=jk.k (k:=(Sum.inr r.1:qJ)) u;rwa [x]at this
 exact{b,j,_,_,l,C.cl,C.nr,SE _ _,_,o,_,s0,jx ({b,j,_,_,l,C.cl,C.nr,SE _ _,_,o,m,_,s0,.inl (.of y),λb j=>q d b i j})}
abbrev Qt:o0:=top 34
abbrev zW:o0:=top 35
abbrev qY:=List (Str×List Str)
def js(rs:qY)(z:Str):List Str:=match rs.find? (λr=>decide (r.1=z)) with
 | some r=>qz rs r
 | none=>[]
def W8:∀{rs:qY} {r:Str×List Str},(rs.map (·.1)).Nodup->r∈rs->rs.find? (λq=>decide (q.1=r.1))=tH r
 | a::rs,r,b,h=>by
  rw[tR,zaj]at b;rcases tO.mp h with rfl | h
  ·simp [zaY]
  ·let:¬a.1=r.1:=λe=>b.1 (e▸tc.mpr ({r,h,s0}));simp only[zaY,decide_eq_false this];calc W8 b.2 h
def jC{rs:qY}(a:(rs.map (·.1)).Nodup)(h:r∈rs):js rs r.1=qz rs r:=by
 unfold js;rw[W8 a h]
def Zc(h:y∈qz rs r):∃a∈rs,a.1=y:=by
 let{a,b,d}:=tc.mp (tV.mp h).1;calc{a,b,d}
def Qf{zs:List Str}:Jz (.str z) (zs.map V.str)=true↔z∈zs:=by
 calc{λh=>?_,vd};unfold Jz at h;let{y,a,e}:=zaW.mp h;let{x,b,rfl}:=tc.mp a;let a:(x==z)=true:=e;rw[beq_iff_eq]at a;calc a▸b
def WG(g:qe rs)(h:r∈rs):y∈qz rs r↔y∈r.2:=by
 unfold qz;rw[tV,Qf];calc{λz=>z.2,λz=>{g.to r h y z,z}}
def jb{rs:qY}(b:(rs.map (·.1)).Nodup):∀z∈rs.map (·.1),∀y∈js rs z,y∈rs.map (·.1):=λz d y a=>by
 let{r,hr,rfl}:=tc.mp d;rw[jC b hr]at a;let{b,d,rfl}:=Zc a;calc tc.mpr ({b,d,s0})
def Jx:∀{l m:List α},l.Nodup->(∀z∈l,z∈m)->l.length<=m.length
 | [],m,_,_=>zax _
 | a::l,m,hn,h=>by
  classical
  rw[zaj]at hn;let ha:=h a tK;let:=Jx hn.2 λz hz=>(zbv (λ(e:z=a)=>hn.1 (e▸hz))).mpr (h z (tI _ hz));rw[zbO ha]at this;let:=zbb ha;rw[t7];omega
def V7:∀{more kvs:List (qJ×V)},(more.map (·.1)).Nodup->(∀k∈more.map (·.1),¬k∈kvs.map (·.1))->JN kvs more=kvs++more
 | [],kvs,_,_=>(zal _).symm
 | a::more,kvs,b,h=>by
  rw[tR,zaj]at b;show JN (j2 kvs a.1 a.2) more=_;rw[QD a.2 (QW (h a.1 {})),V7 b.2]
  ·rw[zcf];rfl
  ·intro k d m;rw[tj]at m;rcases tU.mp m with m | m
   ·exact h k (by rw[tR];calc tI _ d) m
   ·let:k=a.1:=by simpa using m
    subst this;exact b.1 d
structure yN(K:zen)(C:m9)(m gB:Str)(st:o0)(ps:List Str)(f:m9)(fd:zer):Prop where
 fn:jJ K m gB st f fd
 me:Vz K C m f
 bi:Qj K fd ps []
def Jg{X:Cx}{C f:m9}{a:zer}{m j:Str}{st:o0}{ps:List Str}{k:Nat}{b:Sp}{o:Expr}{d:TE}{b_ pos:Pos}{l:Sem Bool}(h:yN X.K C m j st ps f a)(c:Wf X.K C)(G:qu X.prog X.w X.K X.mg X.base jh k f a ps b)(hr:jK k X.A)(p:JE X o d)
 (q:eval (.Call (.Attribute o m b_) [] [] pos) X.env=(do
  let i <-eval o X.env
  standAt b_.atName
  let (f,first) <-holding [i] (getMethod i m l)
  callWith pos f first (backTo pos (starEach [] X.env)) (backToKw pos (keywordEach [] X.env))):=by rfl):
 JE X (.Call (.Attribute o m b_) [] [] pos) (Wh C m b [] E0 d QQ):=Ay p c h.me G hr h.bi .nil QP q
def ZJ{X:Cx}{C f:m9}{b:zer}{m l:Str}{st:o0}{ps:List Str}{k:Nat}{d:Sp}{o e:Expr}{a:List Expr}{i:TE}{t:TA}{b_ pos:Pos}{p:Sem Bool}(h:yN X.K C m l st ps f b)(c:Wf X.K C)(G:qu X.prog X.w X.K X.mg X.base jh k f b ps d)(hr:jK k X.A)(q:JE X o i)(u:JA X (e::a) t)
 (v:starEach (e::a) X.env=(false,eval e X.env)::starEach a X.env:=by rfl) (x:(backTo pos (starEach a X.env)).any (·.1)=false:=by rfl)
 (y:eval (.Call (.Attribute o m b_) (e::a) [] pos) X.env=(do
  let j <-eval o X.env
  standAt b_.atName
  let (f,first) <-holding [j] (getMethod j m p)
  callWith pos f first (backTo pos (starEach (e::a) X.env)) (backToKw pos (keywordEach [] X.env))):=by rfl):
 JE X (.Call (.Attribute o m b_) (e::a) [] pos) (Wh C m d [] E0 i t):=D7 q c h.me G hr h.bi .nil QP u v x y
structure GM(K:zen)(mg:Str->Option n9)(CG:m9):Prop where
 cls:∃f fd,EF K mg CG f fd
 nm:∃f fd,yN K CG "names" "Ground.names" XY ["self"] f fd
 fr:∃f fd,yN K CG "roads_from" "Ground.roads_from" UF ["self","name"] f fd
 isn:∃f fd,qK K mg "is_name" ze ["thing"] f fd
def qZ.ins(h:qZ d H a rs):∃b fs,H a=tH (.ins d b fs)/\fs.lookup (zeo "names")=r4/\fs.lookup (zeo "roads_from")=r4:=by
 let{b,lo,_,kvs,d,_}:=h;exists b,_,d,?_
 ·let b:((zeo "names")==(zeo "order"))=false:=by decide+kernel
  let d:((zeo "names")==(zeo "roads"))=false:=by decide+kernel
  simp only[zbi];rw[b,d]
 ·let b:((zeo "roads_from")==(zeo "order"))=false:=by decide+kernel
  let d:((zeo "roads_from")==(zeo "roads"))=false:=by decide+kernel
  simp only[zbi];rw[b,d]
def WT{rs:qY}{i:Nat}{y:V}(h:((rs.map (·.1)).map V.str)[i]?=tH y):∃r,rs[i]?=tH r/\r∈rs/\y=.str r.1:=by
 rw[tA,tA]at h;cases e:rs[i]? with
 | none=>rw[e]at h;cases h
 | some r=>rw[e]at h;calc{r,s0,tS e,(tH.inj h).symm}
def jA{zs:List Str}{i:Nat}{y:V}(h:(zs.map V.str)[i]?=tH y):∃z,zs[i]?=tH z/\z∈zs/\y=.str z:=by
 rw[tA]at h;cases e:zs[i]? with
 | none=>rw[e]at h;cases h
 | some z=>rw[e]at h;calc{z,s0,tS e,(tH.inj h).symm}
def Jb(r:Str×List Str):(qz rs r).length<=rs.length:=by
 let:=zao (λz=>Jz (.str z) (r.2.map V.str)) (rs.map (·.1));rwa [ta]at this
def qU{c:Bool}{A B:Prop}(a:c=false)(h:B):if c=true then A else B:=by
 rw[a];calc jx h
def jI{c:Bool}{A B:Prop}(a:c=true)(h:A):if c=true then A else B:=by
 rwa [if_pos a]
def wu{kvs:List (qJ×V)}:∀{i:Nat} {k:qJ} {v:V},(kvs.map (·.1)).Nodup->kvs[i]?=tH (k,v)->ja kvs k=tH v:=by
 induction kvs with
 | nil=>intro i k v _ e;simp at e
 | cons b r d=>
  intro i k v a e;rw[tR,zaj]at a;cases i with
  | zero=>
   rw[List.getElem?_cons_zero]at e;obtain rfl:=tH.inj e;calc jE rfl
  | succ i=>
   rw[List.getElem?_cons_succ]at e;let:¬b.1=k:=λz=>a.1 (z▸tc.mpr ({_,tS e,s0}));rw[jt this];calc d a.2 e
def vf(g:qe rs)(h:r∈rs):y∈js rs r.1↔y∈r.2:=by
 rw[jC g.nd h];calc WG g h
def Af:∀{l:List Nat} {x:Nat},x∈l->x<=l.sum
 | a::l,x,h=>by
  rw[zau];rcases tO.mp h with e | h
  ·omega
  ·let:=Af h;omega
def qe.two(g:qe rs)(h:r∈rs):r.2.length<=40:=by
 calc tP (Af (tc.mpr ({r,h,s0}))) g.few
def jq(s:qj H H')(h:H' a=r4):H a=r4:=by
 cases z:H a with
 | none=>rfl
 | some u=>rw[s _ _ z]at h;cases h
def ZU(h:ji z=true):(∀c∈z.cps.toList,c<=122)/\z.length<=8/\1<=z.length:=by
 unfold ji at h;simp only[zaw,decide_eq_true_eq]at h;calc{λc a=>?_,h.1.2,h.1.1};let:=zaK.mp h.2 c a;unfold Qn at this;simp only[zaw,decide_eq_true_eq]at this;calc this.2
def uO(h:ji z=true):PyData.strOk z=true:=by
 unfold PyData.strOk;rw[Array.all_eq_true_iff_forall_mem];intro c a;let:=(ZU h).1 c (by simpa using a);calc decide_eq_true {}
def Bg(x:Int):Builtin.bitNot (Builtin.bitNot x)=x:=by unfold Builtin.bitNot;omega
def bo(a b:Nat):Builtin.bitOr a b=((a ||| b:Nat):Int):=by
 let e:Builtin.bitAnd (Builtin.bitNot a) (Builtin.bitNot b)=Builtin.bitNot (((Builtin.bitNot (Builtin.bitNot a)).toNat ||| (Builtin.bitNot (Builtin.bitNot b)).toNat:Nat):Int):=by
  unfold Builtin.bitAnd;rw[decide_eq_false (by unfold Builtin.bitNot;omega),decide_eq_false (by unfold Builtin.bitNot;omega)]
 unfold Builtin.bitOr;rw[e,Bg,Bg,Bg,zaE,zaE]
def ba(a b:Nat):Builtin.bitAnd a b=((a&&& b:Nat):Int):=by
 unfold Builtin.bitAnd;rw[decide_eq_true (zcP a),decide_eq_true (zcP b)];rfl
def JV(ns:List Nat):List V:=ns.map λn=>V.int (n:Nat)
def Yx(ns:List Nat):(JV ns).length=ns.length:=ta ..
def ve{ns:List Nat}{i:Nat}{x:V}(h:(JV ns)[i]?=tH x):∃n:Nat,ns[i]?=tH n/\x=.int n:=by
 unfold JV at h;rw[tA]at h;cases e:ns[i]? with
 | none=>rw[e]at h;cases h
 | some n=>rw[e]at h;calc{n,s0,(tH.inj h).symm}
def YT{ns:List Nat}{i n:Nat}(h:ns[i]?=tH n):ns.take (i+1)=ns.take i++[n]:=by
 rw[tE,h];rfl
def yr(ns:List Nat)(n:Nat):JV ns++[V.int (n:Nat)]=JV (ns++[n]):=by unfold JV;rw[tj];rfl
def W6(ns:List Nat):(JV ns).all zR=true:=by
 unfold JV;rw[zcj];calc zaK.mpr λ_ _=>rfl
def xS(ns:List Nat)(n:Nat):Jz (.int (n:Nat)) (JV ns)=decide (n∈ns):=by
 unfold Jz JV;rw[zeh,zaB,zaW,decide_eq_true_iff];constructor
 ·rintro⟨y,hy,e⟩;let:y=n:=by
   let:=eq_of_beq e;omega
  exact this▸hy
 ·calc λh=>{n,h,?_};show ((n:Int)==(n:Int))=true;simp
inductive Wm(K:zen)(vs:List V)(H:Hp)(Q:VK):Prop
 | mk (a:m9) (ns:List Nat):vs=[.ref a]->(JX K H a (JV ns))->(ns.length<=1000)->(∀H',qj H H'->Q (.int (Rb.lackN ns:Nat)) H')->Wm K vs H Q
def KB(K:zen):Sp:=λa H Q _=>Wm K a H Q
inductive vQ(K:zen)(vs:List V)(H:Hp)(Q:VK):Prop
 | mk (a:m9) (ns:List Nat):vs=[.ref a]->(JX K H a (JV ns))->((∀x∈ns,x < 1000))->(Q (.int (Rb.setN ns:Nat)) H)->vQ K vs H Q
def BZ(K:zen):Sp:=λa H Q _=>vQ K a H Q
def Cn:ql ["numbers","bits","number"] ["numbers"] (qg zW):=j3
def WK{P:o3}{w:o4}{K:zen}{mg:Str->Option n9}{base:o1}{f:m9}{b:zer}(F:jJ K "set_of" "set_of" zW f b):qu P w K mg base jh 1 f b ["numbers"] (BZ K):=by
 calc F.okK Cn λH Q E hr h=>?_;intro X;let{a,j,rfl,l,m,q}:=h;exists _,qb (qB 1 qh)
  (qb (je (qv (jv 0)) (qC 2) (qc (qB 1 (jc Pi (jv 1) (jc Im qh (jv 2))))))
  (qc (qm (jv 1))))
 refine{{_,l},jz (λi b d=>∃v,b=[tH (.ref a),tH (.int ((Rb.setN (j.take i):Nat):Int)),v]/\d=H) ({r4,s0,s0}) (λi b d _ ⟨_,_,e⟩=>e▸l) ?_ ?_}
 ·rintro i x b d o ⟨v,rfl,rfl⟩;let{n,l,rfl}:=ve o;let n1:=m n (tS l);let m:(1:Int)*2^ ((n:Nat):Int).toNat=((2^n:Nat):Int):=by rw[zaE,Int.one_mul];push_cast;rfl
  let e:((Rb.setN (j.take (i+1)):Nat):Int)=Builtin.bitOr (Rb.setN (j.take i):Nat) ((1:Int)*2^ ((n:Nat):Int).toNat):=by rw[m,bo,YT l,Rb.setN_snoc]
  calc{_,_,s0,s0,{{},{},{}},_,_,s0,s0,tH (.int n),?_,s0};rw[e];rfl
 ·rintro b d ⟨v,rfl,rfl⟩;calc ?_;rwa [Yx,tu (ti _)]
def VR:ql ["numbers","there","number","least"] ["numbers"] (qg Qt):=j3
def ZT{P:o3}{w:o4}{K:zen}{mg:Str->Option n9}{base:o1}{f:m9}{b:zer}(F:jJ K "lacking" "lacking" Qt f b):qu P w K mg base jh 1 f b ["numbers"] (KB K):=by
 calc F.okK VR λH Q E hr h=>?_;intro X;let{a,d,rfl,l,_,q}:=h;refine⟨_,qb (qB 1 j8)
  (qb (je (qv (jv 0)) (qC 2) (qc (jB (jv 1) (jv 2) j0)))
  (qb (qB 3 qh)
  (qb (ZG PassesOwn.never (Jr (zr (jv 3) (jv 1)) (by with_unfolding_all rfl)) (qc (xG (i:=3) VR.nd rfl (Or.inl rfl) qh xO)))
  (qc (qm (jv 3)))))),?_⟩
 refine λD o=>⟨{_,(qd o).seq l},jz (K:=K) (a:=a) (xs:=JV d) (λi b j=>∃v kvs,b=[tH (.ref a),tH (.ref D),v,r4]/\j=upd H D (.dK kvs)/\kvs.length<=i/\∀x:Nat,(ja kvs (Sum.inl (x:Int):qJ)).isSome=decide (x∈d.take i)) ({r4,[],s0,s0,ti _,λx=>by simp [ja]})
  (λi b j _ ⟨_,_,_,e,_⟩=>e▸(qd o).seq l) ?_ ?_⟩
 ·rintro i x b j l ⟨v,kvs,rfl,rfl,u,m⟩;let{n,p,rfl}:=ve l;let y:=(tf.mp p).1;refine{D,_,s0,Jv.k (k:=(Sum.inl (n:Int):qJ)) qa (qi {}),{tH (.int n),j2 kvs (Sum.inl (n:Int)) (.bl true),s0,jF,?_,λx=>?_}}
  ·let:=JF kvs (Sum.inl (n:Int):qJ) (.bl true);omega
  ·rw[QV,YT p];by_cases e:x=n
   ·subst e;simp
   ·let p:¬(Sum.inl (x:Int):qJ)=Sum.inl (n:Int):=λz=>e (by have:=Sum.inl.inj z;omega);rw[if_neg p,m x,zaB];simp [e]
 ·rintro b j ⟨v,kvs,rfl,rfl,u,m⟩;rw[Yx,tu (ti _)]at m;refine Zy (λb j=>∃r:Nat,b=[tH (.ref a),tH (.ref D),v,tH (.int r)]/\j=upd H D (.dK kvs)/\∀x,x < r->x∈d) (λb _=>match b with | [_,_,_,tH (.int r)]=>d.length - r.toNat | _=>0) ({0,s0,s0,λx l=>absurd l (zdB _)}) ?_ ?_
  ·rintro b j ⟨r,rfl,rfl,p⟩;exists _,jk.k (k:=(Sum.inl (r:Int):qJ)) qa,_,rfl;rw[m r];by_cases j:r∈d
   ·rw[decide_eq_true j];let m:=Rb.pigeon (r+1) d λx l=>by
     by_cases e:x=r
     ·rwa [e]
     ·exact p x {}
    refine Qq ({_,_,s0,s0,{r+1,s0,s0,λx l=>?_},?_})
    ·by_cases e:x=r
     ·rwa [e]
     ·exact p x {}
    ·show d.length - ((r:Int)+1).toNat < d.length - (r:Int).toNat;omega
   ·rw[decide_eq_false j];calc jx ?_;let e:=Rb.lackN_eq ({j,p});let:=q _ (qd (o:=.dK kvs) o);rwa [<-e]at this
  ·rintro b H Q _ d z;let{v,e,z}:=xV z;let{w,b,z}:=xV z;let{a,j,l,g,k,m,q}:=xR z;exact yV e (yV b (yR j ({l,g,k,m,d _ _ q})))
open MLab
abbrev Fx:o0:=top 48
abbrev WC:o0:=top 49
abbrev YY:o0:=top 50
abbrev kF:o0:=top 51
abbrev UE:o0:=top 52
abbrev XX:o0:=top 53
structure j1(N:List Str)(H:Hp)(d:m9)(f:Str->Option Nat):Prop where
 at_:∃kvs:List (qJ×V),H d=tH (.dK kvs)/\(∀z:Str,ja kvs (Sum.inr z:qJ)=(f z).map λn=>V.int (n:Nat))/\(kvs.map (·.1)).Nodup/\∀k∈kvs.map (·.1),k∈N.map (Sum.inr:Str->qJ)
def j1.mono(h:j1 N H d f)(s:qj H H'):j1 N H' d f:={let ⟨kvs,a,b⟩:=h.at_;({kvs,s _ _ a,b})}
def j1.get(h:j1 N H d f)(z:Str):jk H d (.str z) ((f z).map λn=>V.int (n:Nat)):=by
 let{kvs,a,b,_}:=h.at_;rw[<-b z];calc jk.k (k:=(Sum.inr z:qJ)) a
def j1.isd(h:j1 N H d f):∃kvs:List (qJ×V),H d=tH (.dK kvs):=let ⟨kvs,a,_⟩:=h.at_;({kvs,a})
def j1.put(h:j1 N H d f)(hz:z∈N)(i:f z=r4)(le:N.length<=14):∃H',Jv H d (.str z) (.int (n:Nat)) H'/\j1 N H' d (λy=>if y=z then tH n else f y)/\∃o,H'=upd H d o:=by
 let{kvs,a,b,j,sub}:=h.at_;let ln:kvs.length<=14:=by
  let:=Jx j sub;rw[ta,ta]at this;omega
 refine{_,Jv.k (k:=(Sum.inr z:qJ)) a (qi {}),{j2 kvs (Sum.inr z) (.int (n:Nat)),qa,λy=>?_,?_,?_},_,s0}
 ·rw[QV];by_cases e:y=z
  ·subst e;rw[if_pos rfl,if_pos rfl];rfl
  ·rw[if_neg e,if_neg (λq=>e (Sum.inr.inj q))];exact b y
 ·rw[QD _ (by rw[b z,i];rfl),tj];calc zaL.mpr ({j,zaX _ _,λx j y l e=>?_});let m:y=Sum.inr z:=by simpa using l
  subst m;subst e;let:(ja kvs (Sum.inr z:qJ)).isSome=true:=by
   let{l,m,p}:=tc.mp j;let j:(kvs.any λu=>decide (u.1=(Sum.inr z:qJ)))=true:=zaW.mpr ({l,m,decide_eq_true p});rwa [Zb]at j
  rw[b z,i]at this;cases this
 ·rw[QD _ (by rw[b z,i];rfl),tj];intro k i;rcases tU.mp i with i | i
  ·exact sub k i
  ·let:k=Sum.inr z:=by simpa using i
   rw[this];calc tc.mpr ({z,hz,s0})
def Yd(rs:qY)(f:Str->Option Nat)(z:Str):List Nat:=(js rs z).filterMap f
def Qe:n∈Yd rs f z↔∃y∈js rs z,f y=tH n:=zaf
def Wb(z:Str):(js rs z).length<=rs.length:=by
 unfold js;split
 ·exact Jb _
 ·calc zax _
def yK(rs:qY)(f:Str->Option Nat)(z:Str):List Str:=(js rs z).filter λy=>(f y).isNone
def Yy(rs:qY)(f:Str->Option Nat)(z:Str)(n:Nat):Bool:=decide (Rb.lackN (Yd rs f z)=n)&&(yK rs f z).all λy=>decide (n∈Yd rs f y)
def GA:Yy rs f z n=true↔ED (js rs) f z n:=by
 unfold Yy ED yK;rw[zaw,decide_eq_true_iff,zaK];let lk:Rb.Lacks (Rb.lackN (Yd rs f z)) (Yd rs f z):=Rb.lackI_lacks _;constructor
 ·rintro⟨rfl,h⟩;exact{λa b=>Qe.mp (lk.2 a b),λy a e=>lk.1 (Qe.mpr ({y,a,e})),λy a e=>Qe.mp (of_decide_eq_true (h y (tV.mpr ({a,by rw[e];rfl}))))}
 ·rintro⟨b,d,i⟩;refine{(Rb.lackN_eq ({λm=>?_,λx j=>Qe.mpr (b x j)})).symm,λy a=>decide_eq_true ?_}
  ·let{y,a,e}:=Qe.mp m;exact d y a e
  ·let{b,d}:=tV.mp a;calc Qe.mpr (i y b (by simpa using d))
def NV(rs:qY)(f:Str->Option Nat)(n:Nat):List Str:=((rs.map (·.1)).filter λz=>(f z).isNone).filter λz=>Yy rs f z n
def CS(rs:qY)(R:Rs Str)(n:Nat):vp (js rs) (rs.map (·.1)) R n (NV rs (qO R) n):=⟨λx=>by
 unfold NV;rw[tV,tV,GA];constructor
 ·rintro⟨⟨a,b⟩,c⟩;exact{a,by simpa using b,c}
 ·rintro⟨a,b,c⟩;calc{{a,by rw[b];rfl},c},zam.trans zam⟩
inductive Fb(CG:m9)(vs:List V)(H:Hp)(Q:VK):Prop
 | mk (g d:m9) (rs:qY) (z:Str) (f:Str->Option Nat):vs=[.ref g,.ref d,.str z]->qZ CG H g rs->qe rs->(rs.length<=14)->(z∈rs.map (·.1))->(j1 (rs.map (·.1)) H d f)->(∀H' l,qj H H'->H l=r4->H' l=tH (.lst (JV (Yd rs f z)))->Q (.ref l) H')->Fb CG vs H Q
def Oy(a:m9):Sp:=λb H Q _=>Fb a b H Q
inductive w6(CG:m9)(vs:List V)(H:Hp)(Q:VK):Prop
 | mk (g d:m9) (rs:qY) (z:Str) (f:Str->Option Nat) (n:Nat):(vs=[.ref g,.ref d,.str z,.int (n:Nat)])->qZ CG H g rs->qe rs->(rs.length<=14)->(z∈rs.map (·.1))->(j1 (rs.map (·.1)) H d f)->(∀H',qj H H'->Q (.bl (Yy rs f z n)) H')->w6 CG vs H Q
def HC(a:m9):Sp:=λb H Q _=>w6 a b H Q
inductive vT(CG:m9)(vs:List V)(H:Hp)(Q:VK):Prop
 | mk (g d:m9) (rs:qY) (f:Str->Option Nat) (n:Nat):(vs=[.ref g,.ref d,.int (n:Nat)])->qZ CG H g rs->qe rs->(rs.length<=14)->(j1 (rs.map (·.1)) H d f)->(∀H' l,qj H H'->H l=r4->H' l=tH (.lst ((NV rs f n).map V.str))->Q (.ref l) H')->vT CG vs H Q
def B1(a:m9):Sp:=λb H Q _=>vT a b H Q
def xx(g:α->Option β)(h:β->V):∀l:List α,(l.filterMap g).map h=l.filterMap λx=>(g x).map h
 | []=>rfl
 | a::l=>by
  rw[t8,t8];cases g a with
  | none=>calc xx g h l
  | some b=>rw[tR,xx g h l];rfl
def W9(p:Str->Bool):∀l:List Str,(l.filter p).map V.str=l.filterMap λx=>if p x=true then tH (V.str x) else r4
 | []=>rfl
 | a::l=>by
  rw[zbn,t8];cases p a with
  | false=>calc W9 p l
  | true=>
   rw[if_pos rfl,if_pos rfl,tR,W9 p l]
def uP(f:α->V):∀l:List α,l.map f=l.filterMap λx=>tH (f x)
 | []=>rfl
 | a::l=>by rw[tR,t8,uP f l]
abbrev FP:List Str:=["ground","numbered","name"]
def Tx:ql FP FP (qg Fx):=j3
def FS(F:jJ K "numbers_behind" "numbers_behind" Fx f a)(B:Qd mg)(G:jp mg)(T:jD K mg)(M:GM K mg b):qu P w K mg base jh 3 f a FP (Oy b):=by
 let{_,_,b}:=M.cls;let{_,_,i}:=M.fr;let{_,_,l}:=M.isn;calc F.okK Tx λH Q E hr h=>?_;intro X;let{g,d,a,z,o,rfl,j,good,_,m,hd,q}:=h;exists _,qc (qm (jL (N':=["end","numbered"]) (ix:=[r4,tH 1]) (qv (ZJ i b.cl (pin P w mg base (QE i.fn b B G T l)) hr (jv 0) (qI (jv 2)))) (λb b p fp _=>
  {qC 0,Qo (Jr (zr (jv 0) (jv 1))),qE (jv 1) (jv 0)})))
 let{l,fs,u,_,C}:=j.ins;let{r,i,rfl}:=tc.mp m;calc{l,fs,u,C,g,a,r,s0,j,i,good.nm r i,λj le l m=>?_};let b:qj H (upd j le (.lst ((qz a r).map V.str))):=l.trans (qd m);let l:upd j le (.lst ((qz a r).map V.str)) le=tH (.lst ((qz a r).map V.str)):=qa;generalize upd j le (.lst ((qz a r).map V.str))=p at b l;let j:=hd.mono b;refine{{_,.of l},λW m=>Jj (out:=λy=>(o y).map λn=>V.int (n:Nat)) m l (qi (tP (Jb r) {})) ?_ ?_ ?_}
 ·refine λx l G' a R k=>{_,(j.mono a).get x,_,s0,k G' λ_ _ h=>h}
 ·intro x l v o G' a R k;let l:=(j.mono a).get x;rw[o]at l;exact{_,l,k G' λ_ _ h=>h}
 ·calc λG' a j=>q _ W (b.trans a) (jq b m) ?_;rw[j];congr 2;unfold JV Yd;rw[jC good.nd i,xx]
abbrev PP:List Str:=["ground","numbered","name","number","bare"]
abbrev VZ:List Str:=["ground","numbered","name","number"]
def HR:ql PP VZ (qg WC):=j3
def Ds(F:jJ K "gets_number" "gets_number" WC f fd)(B:Qd mg)(G:jp mg)(T:jD K mg)(M:GM K mg CG)(J:qK K mg "numbers_behind" Fx FP fB ag)(hL:qK K mg "lacking" Qt ["numbers"] fL ah):qu P w K mg base jh 4 f fd VZ (HC CG):=by
 let GB:=pin P w mg base (FS J.fn B G T M);let{_,_,j}:=M.cls;let{_,_,hR}:=M.fr;let{_,_,hN}:=M.isn;calc F.okK HR λH Q E hr h=>?_;intro X;let{g,d,a,z,b,n,rfl,l,good,o,L,hd,q}:=h;refine⟨_,qb (qG (qp ZD (qw hL (pin P w mg base (ZT hL.fn)) (qI (qw J GB (Vo (jv 0) (jv 1) (jv 2))))) (jv 3)) (qc (qm j0)) qt)
  (qb (Qu (i:=4) (N':=["end","numbered"]) (ix:=[r4,tH 1]) (qv (ZJ hR j.cl (pin P w mg base (QE hR.fn j B G T hN)) (hr.mono {}) (jv 0) (qI (jv 2)))) (λj O U fp ae=>
   {qC 0,Qo (Jr (Xf (jv 0) (jv 1))),jv 0}))
  (qc (qm (qr (Q7 rfl) {} T.all boot_all (qI (jL (N':=["end","number","ground","numbered"]) (ix:=[r4,tH 3,tH 0,tH 1]) (te:=YM (FJ K false) (jd 1) (Wi (Oy CG) [] E0 (qW (jd 2) (qW (jd 3) (qW (jd 0) QQ))))) (qv (jv 4)) (λj O U fp ae=>
   {qC 0,qP,jf Q4 (jv 1) (qw J GB (Vo (jv 2) (jv 3) (jv 0))) (by with_unfolding_all rfl)}))))))),?_⟩
 calc{g,d,a,z,b,s0,l,good,o,L,hd,λ_ i s1 _ j=>?_};let ln:∀y,(Yd a b y).length<=14:=λy=>tP (zaI _ _) (tP (Wb y) o);calc{i,_,s0,.of j,by have:=ln z;omega,λU O=>{s0,_,s0,?_}};let p:=s1.trans O;by_cases c:Rb.lackN (Yd a b z)=n
 ·calc qU (by rw[c];simp) ?_;let{dx,fs,hg,_,e2}:=(l.mono p).ins;let{r,Y,rfl}:=tc.mp L;calc{dx,fs,hg,e2,g,a,r,s0,l.mono p,Y,good.nm r Y,λH3 le s3 af=>?_};let s4:qj H (upd H3 le (.lst ((qz a r).map V.str))):=p.trans (s3.trans (qd af));let aa:upd H3 le (.lst ((qz a r).map V.str)) le=tH (.lst ((qz a r).map V.str)):=qa;generalize upd H3 le (.lst ((qz a r).map V.str))=H4 at s4 aa;refine{{_,.of aa},λW i=>Jj (out:=λy=>if (b y).isNone=true then tH (V.str y) else r4) i aa (qi (tP (Jb r) {})) ?_ ?_ ?_}
  ·calc λx u G' C R k=>{_,((hd.mono s4).mono C).get x,_,s0,?_};let:=k G' λ_ _ h=>h;cases e:b x with
   | none=>rwa [e]at this
   | some m=>rwa [e]at this
  ·intro x u v i G' C R k;let:v=V.str x:=by
    split at i
    ·exact(tH.inj i).symm
    ·cases i
   subst this;exact(k G' λ_ _ h=>h)
  ·intro _ C hG;rw[<-W9 (λy=>(b y).isNone),<-jC good.nd Y]at hG;let hb:=hG;let ab:=s4.trans C;calc{{_,.of hb},λj C=>?_};let bl:(yK a b r.1).length<=14:=tP (zao _ _) (tP (Wb r.1) o);refine Jj (a:=W) (xs:=yK a b r.1) (enc:=V.str) (out:=λy=>tH (V.bl (decide (n∈Yd a b y)))) (rest:=[tH (.int (n:Nat)),tH (.ref g),tH (.ref d)]) C hb (qi {}) ?_ ?_ ?_
   ·exact λx u G' D R k=>k G' λ_ _ h=>h
   ·intro x u v i G' D R k;obtain rfl:=tH.inj i;let sA:=ab.trans D;calc{g,d,a,x,b,s0,l.mono sA,good,o,jb good.nd _ L x (tV.mp u).1,hd.mono sA,λi l7 l _ o=>{l7,_,s0,.inl (.of o),s0,W6 _,?_}};rw[xS];exact k i l
   ·intro G6 D ac;rw[<-uP]at ac;calc{j,(yK a b r.1).map λy=>decide (n∈Yd a b y),s0,.of (by rw[ac,zad];rfl),?_};let:=q G6 (ab.trans D);unfold Yy at this;rw[decide_eq_true c,zdU]at this;rwa [zcj]
 ·refine jI (by
   let:¬V.int ((Rb.lackN (Yd a b z):Nat):Int)=V.int ((n:Nat):Int):=λe=>c (by have:=V.int.inj e;omega);rw[decide_eq_false this];rfl) ?_
  let:=q U p;unfold Yy at this;rwa [decide_eq_false c,zcg]at this
def jY(H:Hp)(ps:List m9)(a:List (List Str)):Prop:=ps.length=a.length/\∀(i:Nat) (b:m9) (d:List Str),ps[i]?=tH b->a[i]?=tH d->H b=tH (.lst (d.map V.str))
def jY.mono(h:jY H ps a)(s:qj H H'):jY H' ps a:={h.1,λi a b d j=>s _ _ (h.2 i a b d j)}
def jY.nil:jY H [] []:={s0,λi _ _ e=>(nomatch e)}
def JY{α:Type}{xs:List α}{x y:α}{i:Nat}(h:(xs++[x])[i]?=tH y):(i < xs.length/\xs[i]?=tH y)\/(i=xs.length/\y=x):=by
 by_cases a:i < xs.length
 ·rw[tZ a]at h;exact .inl ({a,h})
 ·let a:i=xs.length:=by
   let:=(tf.mp h).1;rw[tz,zas]at this;omega
  subst a;rw[tY (ti _),zcl]at h;calc .inr ({s0,(tH.inj h).symm})
def jY.snoc{l:List Str}(h:jY H ps a)(hp:H p=tH (.lst (l.map V.str))):jY H (ps++[p]) (a++[l]):=by
 calc{by rw[tz,tz,h.1];rfl,λi d j b a=>?_};rcases JY b with ⟨m,b⟩ | ⟨m,rfl⟩
 ·rcases JY a with ⟨_,a⟩ | ⟨m,_⟩
  ·exact h.2 i d j b a
  ·let:=h.1;omega
 ·rcases JY a with ⟨m,_⟩ | ⟨_,rfl⟩
  ·let:=h.1;omega
  ·calc hp
def jY.app(h:jY H ps a)(k:jY H b d):jY H (ps++b) (a++d):=by
 calc{by rw[tz,tz,h.1,k.1],λi d j a b=>?_};by_cases c:i < ps.length
 ·rw[tZ c]at a;rw[tZ (h.1▸c)]at b;exact h.2 i d j a b
 ·rw[tY {}]at a;rw[tY (by rw[<-h.1];omega),<-h.1]at b;calc k.2 _ d j a b
def jY.fr(h:jY H ps a)(hd:H d=tH (.dK kvs))(f:Fr H d H'):jY H' ps a:={h.1,λi a b j l=>f _ _ (h.2 i a b j l) (λe=>by have:=h.2 i a b j l;rw[e,hd]at this;cases this)}
def j1.fr(h:j1 N H d f)(s:Fr H e H')(ne:d≠e):j1 N H' d f:={let ⟨kvs,a,b⟩:=h.at_;({kvs,s _ _ a ne,b})}
def j1.congr{g:Str->Option Nat}(h:j1 N H d f)(e:∀z,f z=g z):j1 N H d g:={let ⟨kvs,a,b,c⟩:=h.at_;({kvs,a,λz=>by rw[b z,e z],c})}
def yO(b:m9)(H:Hp)(g d:m9):Prop:=∀i lo a,H g=tH (.ins b i [("order",.ref lo),("roads",.ref a)])->a≠d
def qZ.fr(h:qZ i H a rs)(hd:∃kvs:List (qJ×V),H d=tH (.dK kvs))(ap:yO i H a d)(s:Fr H d H'):qZ i H' a rs:=by
 let{l,lo,m,i,j,o,v,x}:=h;let{kvs,hd}:=hd;let ne:∀{b:m9} {p:HO},H b=tH p->(∀i:List (qJ×V),p≠.dK i)->b≠d:=λu no e=>by rw[e,hd]at u;exact no kvs (tH.inj u).symm
 calc{l,lo,m,i,s _ _ j (ne j (λ_=>{})),s _ _ o (ne o (λ_=>{})),s _ _ v (ap l lo m j),λr hr=>let ⟨q,a,b⟩:=x r hr;({q,a,s _ _ b (ne b (λ_=>{}))})}
def XL(f:Str->Option Nat)(n:Nat)(ns:List Str):Str->Option Nat:=λz=>if z∈ns then tH n else f z
def AT{ns:List Str}(h:∀z∈ns,qO R z=r4)(z:Str):XL (qO R) n ns z=qO (R++[(n,ns)]) z:=by
 unfold XL;rw[Zh];by_cases c:z∈ns
 ·rw[if_pos c,h z c];show _=if z∈ns then tH n else r4
  rw[if_pos c]
 ·rw[if_neg c];cases qO R z with
  | some m=>rfl
  | none=>
   show r4=if z∈ns then tH n else r4
   rw[if_neg c]
def CQ:R++(a++[l]).map (λx=>(n,x))=(R++a.map λx=>(n,x))++[(n,l)]:=by
 rw[tj,zcf];rfl
inductive w5(CG:m9)(vs:List V)(H:Hp)(Q:VK):Prop
 | mk (g d:m9) (rs:qY) (R:Rs Str) (n:Nat):(vs=[.ref g,.ref d,.int (n:Nat)])->qZ CG H g rs->qe rs->(rs.length<=14)->(j1 (rs.map (·.1)) H d (qO R))->yO CG H g d->(∀H' l ps ls,H l=r4->H' l=tH (.lst (ps.map V.ref))->jY H' ps ls->(∀p∈ps,H p=r4)->j1 (rs.map (·.1)) H' d (qO (R++ls.map λx=>(n,x)))->JL (js rs) (rs.map (·.1)) n R (R++ls.map λx=>(n,x))->Fr H d H'->Q (.ref l) H')->w5 CG vs H Q
def Hz(a:m9):Sp:=λb H Q _=>w5 a b H Q
def zy(rs:qY)(f:Str->Option Nat):Nat:=((rs.map (·.1)).filter λz=>(f z).isNone).length
def Kc{rs:qY}{ns:List Str}(h:∀z∈ns,z∈rs.map (·.1)/\qO R z=r4)(ne:ns≠[]):zy rs (qO (R++[(n,ns)])) < zy rs (qO R):=by
 unfold zy;generalize rs.map (·.1)=N at*;let sub:(N.filter λz=>(qO (R++[(n,ns)]) z).isNone).Sublist (N.filter λz=>(qO R z).isNone):=by
  let e:(N.filter λz=>(qO (R++[(n,ns)]) z).isNone)=(N.filter λz=>(qO R z).isNone).filter λz=>(qO (R++[(n,ns)]) z).isNone:=by
   rw[List.filter_filter];calc zce λz _=>?_;cases c:(qO (R++[(n,ns)]) z).isNone with
   | false=>simp
   | true=>
    let:=A2 (by simpa using c);rw[this];rfl
  rw[e];exact zam
 let{a,r,d}:=zcW ne;let b:a∈ns:=d▸tK;let{i,d}:=h a b;rcases zcO (N.filter λz=>(qO (R++[(n,ns)]) z).isNone).length (N.filter λz=>(qO R z).isNone).length with c | c
 ·exact c
 ·let e:=sub.eq_of_length_le c;let m:a∈N.filter λz=>(qO R z).isNone:=tV.mpr ({i,by rw[d];rfl});rw[<-e]at m;let:=(tV.mp m).2;rw[F8 d b]at this;cases this
def Uo(N:List Str)(H:Hp)(d:m9):Nat:=match H d with
 | some (.dK kvs)=>(N.filter λz=>(ja kvs (Sum.inr z:qJ)).isNone).length
 | _=>0
def j1.bare{rs:qY}(h:j1 (rs.map (·.1)) H d f):Uo (rs.map (·.1)) H d=zy rs f:=by
 let{kvs,a,b,_}:=h.at_;unfold Uo zy;rw[a];show ((rs.map (·.1)).filter λz=>(ja kvs (Sum.inr z:qJ)).isNone).length=_;congr 1;calc zce λz _=>?_;rw[b z];cases f z<;>rfl
abbrev IJ:List Str:=["ground","numbered","number","bare"]
abbrev ZP:List Str:=["ground","numbered","number"]
def Co:ql IJ ZP (qg YY):=j3
def MA(F:jJ K "round_of" "round_of" YY f a)(B:Qd mg)(G:jp mg)(T:jD K mg)(M:GM K mg b)(u:qK K mg "numbers_behind" Fx FP i j)(z:qK K mg "lacking" Qt ["numbers"] o p)(l:qK K mg "gets_number" WC VZ C D):qu P w K mg base jh 5 f a ZP (B1 b):=by
 let{_,_,i}:=M.cls;let{_,_,j}:=M.nm;calc F.okK Co λH Q E hr h=>?_;intro X;let{g,d,a,b,n,rfl,p,good,C,hd,q}:=h;refine⟨_,qb (Qu (i:=3) (N':=["name","numbered"]) (ix:=[r4,tH 1]) (qv (Jg j i.cl (pin P w mg base (j7 j.fn i G)) (hr.mono {}) (jv 0))) (λi j o fp D=>
   {qC 0,Qo (Jr (Xf (jv 0) (jv 1))),jv 0}))
  (qc (qm (jL (N':=["name","ground","numbered","number"]) (ix:=[r4,tH 0,tH 1,tH 2]) (qv (jv 3)) (λi j o fp D=>
   {qC 0,Qo (jj (qw l (pin P w mg base (Ds l.fn B G T M u z)) (P4 (jv 1) (jv 2) (jv 0) (jv 3)))),jv 0})))),?_⟩
 let{i,fs,l,u,_}:=p.ins;calc{i,fs,l,u,g,a,s0,p,λln l=>{{_,.of qa},λW i=>?_}};let j:qj H (upd H ln (.lst ((a.map (·.1)).map V.str))):=qd l;let l:upd H ln (.lst ((a.map (·.1)).map V.str)) ln=tH (.lst ((a.map (·.1)).map V.str)):=qa;generalize upd H ln (.lst ((a.map (·.1)).map V.str))=o at j l i;refine Jj (out:=λy=>if (b y).isNone=true then tH (V.str y) else r4) i l (qi (by rw[ta];omega)) ?_ ?_ ?_
 ·calc λx l G' o R k=>{_,((hd.mono j).mono o).get x,_,s0,?_};let:=k G' λ_ _ h=>h;cases e:b x with
  | none=>rwa [e]at this
  | some m=>rwa [e]at this
 ·intro x l v i G' o R k;let:v=V.str x:=by
   split at i
   ·exact(tH.inj i).symm
   ·cases i
  subst this;exact(k G' λ_ _ h=>h)
 ·intro _ o u;rw[<-W9 (λy=>(b y).isNone)]at u;let z:=j.trans o;calc{{_,.of u},λD o=>?_};let bl:((a.map (·.1)).filter λy=>(b y).isNone).length<=14:=tP (zao _ _) (by rw[ta];calc C);refine Jj (out:=λy=>if Yy a b y n=true then tH (V.str y) else r4) (rest:=[tH (.ref g),tH (.ref d),tH (.int (n:Nat))]) o u (qi {}) ?_ ?_ ?_
  ·intro x l G' j R k;let u:=z.trans j;calc{g,d,a,x,b,n,s0,p.mono u,good,C,(tV.mp l).1,hd.mono u,λp u=>{_,s0,?_}};let:=k p u;cases e:Yy a b x n with
   | true=>rwa [e]at this
   | false=>rwa [e]at this
  ·intro x l v i G' j R k;let:v=V.str x:=by
    split at i
    ·exact(tH.inj i).symm
    ·cases i
   subst this;exact(k G' λ_ _ h=>h)
  ·intro l j i;rw[<-W9 (λy=>Yy a b y n)]at i;calc q l D (z.trans j) (jq z o) i
abbrev PN:List Str:=["ground","numbered","number","rounds","names","name"]
def HQ:ql PN ZP (qg kF):=j3
def Dq(F:jJ K "give_number" "give_number" kF f l)(B:Qd mg)(G:jp mg)(T:jD K mg)(M:GM K mg o)(p:qK K mg "numbers_behind" Fx FP J L)(C:qK K mg "lacking" Qt ["numbers"] O U)(D:qK K mg "gets_number" WC VZ Y aA)(j:qK K mg "round_of" YY ZP fR aB):qu P w K mg base jh 6 f l ZP (Hz o):=by
 let l:=pin P w mg base (MA j.fn B G T M p C D);calc F.okK HQ λH Q E hr h=>?_;intro X;let{g,d,o,R,n,rfl,gr,good,ag,hd,ap,q}:=h;refine⟨_,qb (qB 3 (QH Qi))
  (qb (qB 4 (qw j l (Vo (jv 0) (jv 1) (jv 2))))
  (qb (ZG PassesOwn.never (qp JU (qr qy {} B.len boot_len (qI (jv 4))) qh)
   (qb (je (qv (jv 4)) (qC 5) (qc (jB (jv 1) (jv 5) (jv 2))))
   (qb (q5 (Jh zar zbq zbr Za (jv 3) (qI (jv 4))))
   (qc (qB 4 (qw j l (Vo (jv 0) (jv 1) (jv 2))))))))
  (qc (qm (jv 3))))),?_⟩
 calc{J7,λp ab=>?_};let C:qj H (upd H p (.lst [])):=qd ab;calc{g,d,o,qO R,n,s0,gr.mono C,good,ag,hd.mono C,λ_ l1 O U ay=>?_};let{al,ah}:=hd.isd;let am:p≠d:=nq ah ab;refine Zy (λσ L=>∃(Y:Option V) (j:m9) (l:List m9) (J:List (List Str)),σ=[tH (.ref g),tH (.ref d),tH (.int (n:Nat)),tH (.ref p),tH (.ref j),Y]/\Fr H d L/\L p=tH (.lst (l.map V.ref))/\jY L l J/\
   j1 (o.map (·.1)) L d (qO (R++J.map λx=>(n,x)))/\L j=tH (.lst ((NV o (qO (R++J.map λx=>(n,x))) n).map V.str))/\(∀R',JL (js o) (o.map (·.1)) n (R++J.map λx=>(n,x)) R'->JL (js o) (o.map (·.1)) n R R')/\j≠p/\(∀D∈l,D≠p)/\H j=r4/\(∀D∈l,H D=r4)/\J.length+zy o (qO (R++J.map λx=>(n,x)))<=14)
  (λ_ L=>Uo (o.map (·.1)) L d)
  ({r4,l1,[],[],s0,λb u hb _=>O _ _ (C _ _ hb),O _ _ qa,.nil,?_,?_,?_,(nq qa U),λD h=>(nomatch h),jq C U,λD h=>(nomatch h),?_}) ?_ ?_
 ·let:=(hd.mono C).mono O;simpa using this
 ·simpa using ay
 ·intro R' h;simpa using h
 ·show 0+_<=14;rw[zef];calc tP (zao _ _) ?_;rwa [ta]
 ·rintro σ L ⟨Y,j,l,J,rfl,fr,an,ai,num,hl,gv,nl,np,_,p0,_⟩;let C:=gr.fr ({al,ah}) ap fr;let{_,ao}:=num.isd;generalize aq:R++J.map (λx=>(n,x))=O at*;exists j,_,s0,.inl (.of hl),_,_,s0,s0,_,rfl;rw[ta];generalize ar:NV o (qO O) n=C at*;let aj:=ar▸CS o O n;let aa:∀z∈C,z∈o.map (·.1)/\qO O z=r4:=λz U=>let ⟨a,b,_⟩:=(aj.iff z).mp U;({a,b});let as:C.Nodup:=by
   rw[<-ar];exact good.nd.sublist (zam.trans zam)
  let aC:C.length<=14:=by
   let:=Jx as λz U=>(aa z U).1;rw[ta]at this;omega
  cases c:C with
  | nil=>
   subst c;calc qU {} (?_);let:=gv O (.stop aj);rw[<-aq]at this num;calc q L p l J ab an ai p0 num this fr
  | cons z0 rest=>
   let ne:C≠[]:=by rw[c];simp
   rw[<-c];clear c;calc jI (decide_eq_true (by have:=zdP.mpr ne;show (0:Int) < (C.length:Int);omega)) ?_;let au:j≠d:=nq ao hl;refine⟨{_,.of hl},jz (λi ac G'=>∃Y,ac=[tH (.ref g),tH (.ref d),tH (.int (n:Nat)),tH (.ref p),tH (.ref j),Y]/\j1 (o.map (·.1)) G' d (XL (qO O) n (C.take i))/\Fr L d G')
    ({Y,s0,num.congr λz=>by unfold XL;rw[List.take_zero,if_neg {}],Fr.refl}) (λi ac G' _ ⟨_,_,_,f⟩=>.of (f _ _ hl au)) ?_ ?_⟩
   ·rintro i y ac G' hy ⟨av,rfl,ae,Y⟩;let{z,ez,U,rfl}:=jA hy;let il:=(tf.mp ez).1;let nt:z∉C.take i:=λm=>by
     let{aw,hj}:=zan m;rw[zbh]at hj;split at hj
     ·let h1:=(tf.mp hj);let h2:=(tf.mp ez);let:=xv as (h1.2.trans h2.2.symm);omega
     ·cases hj
    let{H2,put,hU,_,e2}:=ae.put (aa z U).1 (by unfold XL;rw[if_neg nt];calc(aa z U).2) (by rw[ta];calc ag);exists d,H2,s0,put,_,s0,hU.congr λy=>?_
    ·unfold XL;rw[tE,ez];by_cases e:y=z
     ·subst e;rw[if_pos rfl,if_pos {}]
     ·rw[if_neg e];by_cases m:y∈C.take i
      ·rw[if_pos m,if_pos (zaa _ m)]
      ·rw[if_neg m,if_neg (by simp [m,e])]
    ·rw[e2];exact Y.at_d
   ·rintro ac G' ⟨av,rfl,ae,Y⟩;rw[ta,tu (ti _)]at ae;let ax:=Y _ _ an am;let rG:=ai.fr ao Y;let az:=Kc (n:=n) aa ne;calc{.inl ({s0,_,.of ax}),p,_,_,s0,s0,ax,by rw[ta,ai.1];calc qi {},?_};let e5:l.map V.ref++[V.ref j]=(l++[j]).map V.ref:=by rw[tj];rfl
    rw[e5];let af:Fr H d (upd G' p (.lst ((l++[j]).map V.ref))):=(fr.trans Y).own ab;let r3:jY (upd G' p (.lst ((l++[j]).map V.ref))) (l++[j]) (J++[C]):=by
     calc jY.snoc ({rG.1,λi D x e1 e2=>?_}) (by rw[qf nl];calc(Y _ _ hl au));rw[qf (np D (tS e1))];exact rG.2 i D x e1 e2
    let ak:upd G' p (.lst ((l++[j]).map V.ref)) p=tH (.lst ((l++[j]).map V.ref)):=qa;let Y:j1 (o.map (·.1)) (upd G' p (.lst ((l++[j]).map V.ref))) d (qO (O++[(n,C)])):={let ⟨kvs,a,b⟩:=(ae.congr (AT λz U=>(aa z U).2)).at_;({kvs,by rwa [qf (Ne.symm am)],b})};generalize upd G' p (.lst ((l++[j]).map V.ref))=U at af r3 ak Y ⊢;calc{g,d,o,qO (O++[(n,C)]),n,s0,gr.fr ({al,ah}) ap af,good,ag,Y,λ_ l4 o U _=>?_};let p:R++(J++[C]).map (λx=>(n,x))=O++[(n,C)]:=by rw[CQ,aq]
    exists{av,l4,l++[j],J++[C],s0,af.same o,o _ _ ak,r3.mono o,?_,?_,?_,(nq ak U),?_,?_,?_,?_}
    ·rw[p];exact Y.mono o
    ·rwa [p]
    ·rw[p];exact λR' h=>gv R' (.more aj ne h)
    ·intro D j;rcases tU.mp j with j | j
     ·exact np D j
     ·rwa [tQ.mp j]
    ·let{_,l}:=Y.isd;exact af.fresh l U
    ·intro D j;rcases tU.mp j with j | j
     ·exact p0 D j
     ·rwa [tQ.mp j]
    ·rw[p,tz,zas];omega
    ·rw[(Y.mono o).bare,num.bare];exact az
 ·rintro σ L Q _ h z;let{v,e,D,j,e2,h1,i,aw,l,o,b,e5,h2}:=xV z;exact yV e ({D,j,e2,h1,i,aw,l,o,b,e5,h _ _ h2})
def AR{G:Str->List Str}{N:List Str}{n:Nat}{R a:Rs Str}(h:JL G N n R a):(a=R/\vp G N R n [])\/R.length < a.length:=by
 induction h with
 | stop r=>calc .inl ({s0,r})
 | more r ne k a=>
  right;rcases a with ⟨e,_⟩ | lt
  ·rw[e,tz];exact zaZ _
  ·rw[tz]at lt;calc Nat.lt_of_succ_lt lt
def Gy{G:Str->List Str}{N:List Str}{n:Nat}{R:Rs Str}(h:JL G N n R R):vp G N R n []:=by
 rcases AR h with ⟨_,r⟩ | lt
 ·exact r
 ·exact absurd lt (zaH _)
structure Kj(N:List Str)(R:Rs Str):Prop where
 sub:∀r∈R,∀z∈r.2,z∈N
 dis:R.Pairwise λr r'=>∀z∈r.2,z∉r'.2
 ne:∀r∈R,r.2≠[]
 srt:∀r∈R,r.2.Sublist N
def Kj.nil:Kj N []:={λ_ h=>(nomatch h),zdS.nil,λ_ h=>(nomatch h),λ_ h=>(nomatch h)}
def Kj.more(o:Kj N R)(r:vp G N R n ns)(ne:ns≠[]):Kj N (R++[(n,ns)]):=by
 refine{λx d z i=>?_,zdJ.mpr ({o.dis,zaX _ _,λa l b m z i j=>?_}),λx d=>?_,λx d=>?_}
 ·rcases tU.mp d with d | d
  ·exact o.sub x d z i
  ·rw[tQ.mp d]at i;exact((r.iff z).mp i).1
 ·rw[tQ.mp m]at j;exact Wd.mp ((r.iff z).mp j).2.1 a l i
 ·rcases tU.mp d with d | d
  ·exact o.ne x d
  ·rwa [tQ.mp d]
 ·rcases tU.mp d with d | d
  ·exact o.srt x d
  ·rw[tQ.mp d];calc r.sub
def yv(h:JL G N n R a):Kj N R->Kj N a:=by
 induction h with
 | stop r=>calc id
 | more r ne k a=>calc λb=>a (b.more r ne)
def Ex(h:All G N n R a):Kj N R->Kj N a:=by
 induction h with
 | stop r=>calc id
 | more g ne k a=>calc λb=>a (yv g b)
def Gz(h:JL (js rs) (rs.map (·.1)) n R d):zy rs (qO d)<=zy rs (qO R)/\(d≠R->zy rs (qO d) < zy rs (qO R)):=by
 induction h with
 | stop r=>calc{ti _,λe=>absurd rfl e}
 | more r ne k d=>
  let:=Kc (λz d=>let ⟨a,b,_⟩:=(r.iff z).mp d;({a,b})) ne (n:=n);calc{{},λ_=>{}}
def uI:∀{R:Rs Str},Kj N R->R.length<=N.length:=λ{R} i=>by
 let gF:∀R:Rs Str,(R.Pairwise λr b=>∀z∈r.2,z∉b.2)->(∀r∈R,r.2≠[])->∃a:List Str,a.length=R.length/\a.Nodup/\∀z∈a,∃r∈R,z∈r.2:=by
  intro R;induction R with
  | nil=>calc λ_ _=>{[],s0,zaV,λz h=>(nomatch h)}
  | cons r R d=>
   intro q ne;let{a,j,l,sub}:=d (zdZ.mp q).2 (λx o=>ne x (tI _ o));let{z,t,e}:=zcW (ne r tK);let d:z∈r.2:=e▸tK;refine{z::a,by simp [j],zaj.mpr ({λm=>?_,l}),λy o=>?_}
   ·let{b,p,u}:=sub z m;exact(zdZ.mp q).1 b p z d u
   ·rcases tO.mp o with rfl | o
    ·exact{r,tK,d}
    ·let{b,p,h}:=sub y o;exact{b,tI _ p,h}
 let{a,j,l,sub}:=gF R i.dis i.ne;rw[<-j];calc Jx l λz d=>let ⟨r,hr,h⟩:=sub z d;i.sub r hr z h
inductive kh(CG:m9)(vs:List V)(H:Hp)(Q:VK):Prop
 | mk (g d:m9) (rs:qY):vs=[.ref g,.ref d]->qZ CG H g rs->qe rs->(rs.length<=14)->(j1 (rs.map (·.1)) H d (qO []))->yO CG H g d->(∀H' l ps R,H l=r4->H' l=tH (.lst (ps.map V.ref))->jY H' ps (R.map (·.2))->(∀p∈ps,H p=r4)->j1 (rs.map (·.1)) H' d (qO R)->All (js rs) (rs.map (·.1)) 0 [] R->Fr H d H'->Q (.ref l) H')->kh CG vs H Q
def Cb(a:m9):Sp:=λb H Q _=>kh a b H Q
abbrev IN:List Str:=["ground","numbered","rounds","number","more"]
abbrev xo:List Str:=["ground","numbered"]
def uh:ql IN xo (qg UE):=j3
def MQ(F:jJ K "give_numbers" "give_numbers" UE f l)(B:Qd mg)(G:jp mg)(T:jD K mg)(M:GM K mg m)(o:qK K mg "numbers_behind" Fx FP D J)(p:qK K mg "lacking" Qt ["numbers"] L O)(y:qK K mg "gets_number" WC VZ U Y)(C:qK K mg "round_of" YY ZP fR aH)(j:qK K mg "give_number" kF ZP fV aI):qu P w K mg base jh 7 f l xo (Cb m):=by
 let l:=pin P w mg base (Dq j.fn B G T M o p y C);calc F.okK uh λH Q E hr h=>?_;intro X;let{g,d,p,rfl,gr,good,ai,hd,ap,q}:=h;refine⟨_,qb (qB 2 (QH Qi))
  (qb (qB 3 qh)
  (qb (qB 4 (qw j l (Vo (jv 0) (jv 1) (jv 3))))
  (qb (ZG PassesOwn.never (qp JU (qr qy {} B.len boot_len (qI (jv 4))) qh)
   (qb (q5 (Jh zar zbs zbt ZE (jv 2) (qI (jv 4))))
   (qb (xG (i:=3) uh.nd rfl (Or.inl rfl) qh xO)
   (qc (qB 4 (qw j l (Vo (jv 0) (jv 1) (jv 3))))))))
  (qc (qm (jv 2)))))),?_⟩
 calc{J7,λo O=>?_};let j:qj H (upd H o (.lst [])):=qd O;let{aw,ae}:=hd.isd;let af:o≠d:=nq ae O;let aj:∀{l:Hp},Fr H d l->yO m l g d:=λfr _ lo _ h=>by
  let{_,_,_,_,C,_}:=gr;let:=fr _ _ C (nq ae C);rw[h]at this;cases this;exact ap _ _ _ C
 let J:Fr H d (upd H o (.lst [])):=Fr.refl.own O;refine⟨g,d,p,[],0,s0,gr.mono j,good,ai,hd.mono j,aj J,λ_ l1 m ax ay az aA aB aC aD U=>Zy (λY l=>∃(L:m9) (n:Nat) (y m:List m9) (R:Rs Str) (D:List (List Str)),Y=[tH (.ref g),tH (.ref d),tH (.ref o),tH (.int (n:Nat)),tH (.ref L)]/\Fr H d l/\l o=tH (.lst (y.map V.ref))/\jY l y (R.map (·.2))/\l L=tH (.lst (m.map V.ref))/\jY l m D/\
   j1 (p.map (·.1)) l d (qO (R++D.map λx=>(n,x)))/\JL (js p) (p.map (·.1)) n R (R++D.map λx=>(n,x))/\(∀R',All (js p) (p.map (·.1)) n R R'->All (js p) (p.map (·.1)) 0 [] R')/\L≠o/\(∀j∈y,j≠o/\H j=r4)/\(∀j∈m,j≠o/\H j=r4)/\Kj (p.map (·.1)) R)
  (λY l=>Uo (p.map (·.1)) l d*2+(match Y with | [_,_,_,_,tH (.ref L)]=>(match l L with | some (.lst (_::_))=>1 | _=>0) | _=>0))
  ({l1,0,[],m,[],ax,s0,J.trans U,U _ _ qa af,.nil,az,aA,aC,aD,λR' h=>h,(nq qa ay),λj h=>(nomatch h),?_,.nil}) ?_ ?_⟩
 ·intro j J;let C:=aB j J;let U:j≠o:=nq qa C;exact{U,by rwa [qf U]at C}
 ·rintro Y l ⟨L,n,y,m,R,D,rfl,fr,ag,ab,hl,rn,num,gv,al,nl,np,ak,od⟩;let{_,_}:=num.isd;let am:=yv gv od;let ol:=uI am;rw[tz,ta,ta]at ol;exists L,_,s0,.inl (.of hl),_,_,s0,s0,_,rfl;rw[ta];cases c:D with
  | nil=>
   subst c;let e0:=zaN rn.1;subst e0;rw[zci,zal]at gv num;calc qU {} (q l o y R O ag ab (λj J=>(np j J).2) num (al R (.stop (Gy gv))) fr)
  | cons x0 rest=>
   let ne:D≠[]:=by rw[c];simp
   clear c;let lp:m.length=D.length:=rn.1;let pos:=zdP.mpr ne;calc jI (decide_eq_true (by show (0:Int) < (m.length:Int);omega)) ?_;exists .inl ({s0,_,.of ag}),o,L,_,_,s0,s0,ag,hl,?_
   ·rw[ta,ta,ab.1,ta,lp];exact zab (qi {})
   ·let e5:y.map V.ref++m.map V.ref=(y++m).map V.ref:=by rw[tj]
    rw[e5];let aa:Fr H d (upd l o (.lst ((y++m).map V.ref))):=fr.own O;let ac:upd l o (.lst ((y++m).map V.ref)) o=tH (.lst ((y++m).map V.ref)):=qa;let r3:jY (upd l o (.lst ((y++m).map V.ref))) (y++m) ((R++D.map λx=>(n,x)).map (·.2)):=by
     let O:(R++D.map λx=>(n,x)).map (·.2)=R.map (·.2)++D:=by
      rw[tj,zad];congr 1;exact List.map_id D
     rw[O];refine jY.app ({ab.1,λi j x O e2=>?_}) ({rn.1,λi j x O e2=>?_})
     ·rw[qf (np j (tS O)).1];exact ab.2 i j x O e2
     ·rw[qf (ak j (tS O)).1];exact rn.2 i j x O e2
    let ah:j1 (p.map (·.1)) (upd l o (.lst ((y++m).map V.ref))) d (qO (R++D.map λx=>(n,x))):={let ⟨kvs,a,b⟩:=num.at_;({kvs,by rwa [qf (Ne.symm af)],b})};let aE:R++D.map (λx=>(n,x))≠R:=λe=>by
     let:=congrArg zat e;rw[tz,ta]at this;omega
    generalize R++D.map (λx=>(n,x))=D at*;generalize upd l o (.lst ((y++m).map V.ref))=G3 at aa r3 ac ah ⊢;let{_,an}:=ah.isd;refine{_,_,s0,s0,{g,d,p,D,n+1,s0,gr.fr ({aw,ae}) ap aa,good,ai,ah,aj aa,λH4 l4 ao aq aF ar as aG au av o=>{{l4,n+1,y++m,ao,D,aq,s0,aa.trans o,o _ _ ac af,r3.fr an o,ar,as,au,av,λR' h=>al R' (.more gv aE h),(nq ac aF),?_,?_,am},?_}}}
    ·intro j J;rcases tU.mp J with J | J
     ·exact np j J
     ·exact ak j J
    ·intro j J;let C:=aG j J;exists (nq ac C);cases U:H j with
     | none=>rfl
     | some u=>
      by_cases c:j=d
      ·rw[c,an]at C;cases C
      ·rw[aa _ _ U c]at C;cases C
    ·show Uo (p.map (·.1)) H4 d*2+(match H4 l4 with | some (.lst (_::_))=>1 | _=>0) < Uo (p.map (·.1)) l d*2+(match l L with | some (.lst (_::_))=>1 | _=>0);let o:=Gz av;rw[au.bare,num.bare,ar,hl];let{_,_,O}:=List.exists_cons_of_length_pos (by omega:0 < m.length);rw[O];show _ < zy p (qO D)*2+1;cases aq with
     | nil=>
      rw[zaN as.1];show _+0 < _;let:=o.1;omega
     | cons m p=>
      let:=o.2 λe=>by
       let:=congrArg zat e;rw[tz,ta]at this;simp at this
      let m:(match (tH (HO.lst (ao.map V.ref)):Option HO) with | some (.lst (_::_))=>1 | _=>0)<=1:=by split<;>omega
      omega
 ·rintro Y l Q _ h z;let{v,e,j,l,e2,C,i,m,o,p,b,e5,U}:=xV z;exact yV e ({j,l,e2,C,i,m,o,p,b,e5,h _ _ U})
def Vr(R:Rs Str)(i:Nat):Str->Option Nat:=λz=>(qO (R.take i) z).map λ_=>zc R z
def xf(o:Kj N R)(hr:R[i]?=tH r)(hz:z∈r.2):zc R z=i:=by
 let{a,b}:=tf.mp hr;unfold zc;rw[List.findIdx_eq a];calc{by rw[b];calc decide_eq_true hz,λd j=>decide_eq_false λm=>?_};let:=zaO.mp o.dis d i {} a j z m;rw[b]at this;calc this hz
def vH(o:Kj N R)(hr:R[i]?=tH r)(hz:z∈r.2):Vr R i z=r4:=by
 unfold Vr;let:qO (R.take i) z=r4:=Wd.mpr λx b m=>by
  let{_,a}:=zan b;rw[zbh]at a;split at a
  ·let b:=xf o a m;let b:=xf o hr hz;omega
  ·cases a
 rw[this];rfl
def KA(o:Kj N R)(hr:R[i]?=tH r)(z:Str):XL (Vr R i) i r.2 z=Vr R (i+1) z:=by
 unfold XL;by_cases c:z∈r.2
 ·rw[if_pos c];let n:=vH o hr c;unfold Vr at n ⊢;let a:qO (R.take i) z=r4:=by
   cases e:qO (R.take i) z with
   | none=>rfl
   | some m=>rw[e]at n;cases n
  rw[tE,hr];show _=(qO (R.take i++[(r.1,r.2)]) z).map _;rw[F8 a c,xf o hr c];rfl
 ·rw[if_neg c];unfold Vr;rw[tE,hr];show _=(qO (R.take i++[(r.1,r.2)]) z).map _;rw[Zh];cases qO (R.take i) z with
  | some m=>rfl
  | none=>
   show _=Option.map _ (if z∈r.2 then tH r.1 else r4);rw[if_neg c]
def RT(R:Rs Str)(z:Str):Vr R R.length z=(qO R z).map λ_=>zc R z:=by
 unfold Vr;rw[tu (ti _)]
def Zt(rs:qY)(R:Rs Str)(z:Str):List V:=match qO R z with
 | some n=>[.str "number",.int (n:Nat),.int (zc R z:Nat)]
 | none=>[.str "endless",.int (Rb.setN (Yd rs (qO R) z):Nat)]
structure Jk(H:Hp)(D:m9)(rs:qY)(R:Rs Str):Prop where
 at_:∃kvs:List (qJ×V),H D=tH (.dK kvs)/\kvs.map (·.1)=(rs.map (·.1)).map Sum.inr/\∀r∈rs,∃t,ja kvs (Sum.inr r.1:qJ)=tH (.ref t)/\H t=tH (.tup (Zt rs R r.1))
def Jk.mono(h:Jk H D rs R)(s:qj H H'):Jk H' D rs R:={let ⟨kvs,a,b,c⟩:=h.at_;({kvs,s _ _ a,b,λr hr=>let ⟨t,u,v⟩:=c r hr;({t,u,s _ _ v})})}
def wG:∀(n:Nat) (L:List Nat),(∀m,m<=n->m∈L)->n*(n+1)<=2*L.sum
 | 0,_,_=>{}
 | n+1,L,h=>by
  let a:=wG n (L.erase (n+1)) λm _=>(zbv {}).mpr (h m {});let a:L.sum=(n+1)+(L.erase (n+1)).sum:=by
   let:=(zdK (h (n+1) (ti _))).sum_nat;rw[this,zau]
  rw[a];let:(n+1)*(n+1+1)=n*(n+1)+2*(n+1):=by
   rw[Nat.mul_comm,<-Nat.add_mul]
  omega
def vG{f g:α->Nat}:∀{l:List α},(∀x∈l,f x<=g x)->(l.map f).sum<=(l.map g).sum
 | [],_=>ti _
 | a::l,h=>by
  rw[tR,tR,zau,zau];let:=h a tK;let:=vG λx hx=>h x (tI _ hx);omega
def Lw{rs:qY}(a:(rs.map (·.1)).Nodup)(z:Str):(js rs z).Nodup:=by
 unfold js;split
 ·exact a.sublist zam
 ·calc zaV
def z6(good:qe rs)(L:Zw (js rs) (·∈rs.map (·.1)) num e_)(b:x∈rs.map (·.1))(e:num x=tH n):n<=8:=by
 let i:∀m,m<=n->m∈rs.map λr=>(num r.1).getD 0:=λm _=>by
  rcases zcO m n with c | c
  ·let{y,a,d,_}:=L.n1 b e c;let{r,hr,rfl}:=tc.mp (L.cl b a);exact tc.mpr ({r,hr,by rw[d];rfl})
  ·let:m=n:={}
   subst this;let{r,hr,rfl}:=tc.mp b;exact tc.mpr ({r,hr,by rw[e];rfl})
 let b:=wG n _ i;let b:(rs.map λr=>(num r.1).getD 0).sum<=(rs.map λr=>r.2.length).sum:=vG λr hr=>by
  cases c:num r.1 with
  | none=>calc zax _
  | some m=>
   show m<=_;let:(zae m).length<=((js rs r.1).filterMap num).length:=Jx zbH λ_ b=>by
    let{y,a,d,_}:=L.n1 (tc.mpr ({r,hr,s0})) c (zaD.mp b);exact zaf.mpr ({y,a,d})
   rw[zap]at this;let b:=zaI num (js rs r.1);let d:=Jx (Lw good.nd _) λy a=>(vf good hr).mp a;omega
 let b:=good.few;rcases zcO 8 n with c | c
 ·let:9*10<=n*(n+1):=zbJ c {};omega
 ·calc c
inductive VO(CG:m9)(vs:List V)(H:Hp)(Q:VK):Prop
 | mk (g:m9) (rs:qY):vs=[.ref g]->qZ CG H g rs->qe rs->(rs.length<=14)->(∀H' D R,qj H H'->H D=r4->Jk H' D rs R->All (js rs) (rs.map (·.1)) 0 [] R->Q (.ref D) H')->VO CG vs H Q
def Nk(a:m9):Sp:=λb H Q _=>VO a b H Q
abbrev nLb:List Str:=["ground","numbered","steps","step","names","name","labels"]
def TB:ql nLb ["ground"] (qg XX):=j3
structure Yb(K:zen)(mg:Str->Option n9):Prop where
 lack:∃f fd,qK K mg "lacking" Qt ["numbers"] f fd
 seto:∃f fd,qK K mg "set_of" zW ["numbers"] f fd
 nb:∃f fd,qK K mg "numbers_behind" Fx FP f fd
 gets:∃f fd,qK K mg "gets_number" WC VZ f fd
 round:∃f fd,qK K mg "round_of" YY ZP f fd
 give:∃f fd,qK K mg "give_number" kF ZP f fd
 gives:∃f fd,qK K mg "give_numbers" UE xo f fd
 labels:∃f fd,qK K mg "labels_of" XX ["ground"] f fd
def J9(F:jJ K "labels_of" "labels_of" XX f j)(B:Qd mg)(G:jp mg)(T:jD K mg)(M:GM K mg o)(Y:Yb K mg):qu P w K mg base jh 8 f j ["ground"] (Nk o):=by
 let{_,_,O}:=Y.lack;let{_,_,p}:=Y.seto;let{_,_,l}:=Y.nb;let{_,_,U}:=Y.gets;let{_,_,hR}:=Y.round;let{_,_,hV}:=Y.give;let{_,_,v}:=Y.gives;let{_,_,C}:=M.cls;let{_,_,J}:=M.nm;calc F.okK TB λH Q E hr h=>?_;intro X;let{g,j,rfl,gr,good,ag,q}:=h;refine⟨_,qb (qB 1 j8)
  (qb (qB 2 j8)
  (qb (je (ZX {} T.enu (qI (qw v (pin P w mg base (MQ v.fn B G T M l O U hR hV)) (jV (jv 0) (jv 1))))) (Jf rfl (qM (qC 3) (qM (qC 4) Qp)))
   (qc (je (qv (jv 4)) (qC 5) (qc (jB (jv 2) (jv 5) (jv 3))))))
  (qb (qB 6 j8)
  (qb (je (qv (Jg J C.cl (pin P w mg base (j7 J.fn C G)) (hr.mono {}) (jv 0))) (qC 5)
   (qc (qG (Jr (zr (jv 5) (jv 1)))
    (qc (jB (jv 6) (jv 5) (jH (Vo qH (qE (jv 1) (jv 5)) (qE (jv 2) (jv 5))))))
    (qc (jB (jv 6) (jv 5) (jH (jV qH (qw p (pin P w mg base (WK p.fn)) (qI (qw l (pin P w mg base (FS l.fn B G T M)) (Vo (jv 0) (jv 1) (jv 5))))))))))))
  (qc (qm (jv 6))))))),?_⟩
 intro d hd st aa;let s1:qj H (upd H d (.dK [])):=qd hd;let s2:qj H (upd (upd H d (.dK [])) st (.dK [])):=s1.trans (qd aa);let l:upd (upd H d (.dK [])) st (.dK []) d=tH (.dK []):=qk qa aa;let v:upd (upd H d (.dK [])) st (.dK []) st=tH (.dK []):=qa;let aq:d≠st:=Pw qa aa;generalize upd (upd H d (.dK [])) st (.dK [])=p at s2 l v;let ap:∀{p:Hp} {a:m9},qj H p->H a=r4->yO o p g a:=λC J dx lo _ h=>by
  let{_,_,_,_,h1,_,o,_}:=gr;let:=C _ _ h1;rw[h]at this;cases this;exact nq J o
 calc{g,d,j,s0,gr.mono s2,good,ag,(λh=>{[],h,λz=>rfl,zaV,λk h=>(nomatch h)}) l,ap s2 hd,λH3 l ps R C J ah _ num all ar=>?_};let o:=Ex all .nil;let oL:=uI o;rw[ta]at oL;let as:=ar _ _ v (Ne.symm aq);let{_,_}:=num.isd;let L:=Xb (jb good.nd) all;refine⟨l,s0,{_,.of J},Zg (λi p G'=>∃U v4 l,p=[tH (.ref g),tH (.ref d),tH (.ref st),U,v4,l,r4]/\j1 (j.map (·.1)) G' st (Vr R i)/\Fr H3 st G')
  ({r4,r4,r4,s0,{[],as,λz=>rfl,zaV,λk h=>(nomatch h)},Fr.refl}) (λi p G' _ ⟨_,_,_,_,_,f⟩=>.of (f _ _ J (λe=>by rw[e,v]at C;cases C))) ?_ ?_⟩
 ·rintro i x p G' O J hp ⟨U,v4,l,rfl,Yp,ab⟩;rw[tA]at J;cases C:ps[i]? with
  | none=>rw[C]at J;cases J
  | some pi=>
   rw[C]at J;obtain rfl:=(tH.inj J).symm;let li:i < R.length:=by
    let:=(tf.mp C).1;let:=ah.1;rw[ta]at this;omega
   let{r,v}:∃r,R[i]?=tH r:={_,tv li};let ai:=ah.2 i pi r.2 C (by rw[tA,v];rfl);let sp:qj G' (upd G' O (.tup [.int (i:Nat),V.ref pi])):=qd hp;let aj:=ab.same sp;exists O,_,s0,.of qa,s0,rfl;let au:∀{G2:Hp},Fr H3 st G2->G2 pi=tH (.lst (r.2.map V.str)):=λf=>f _ _ ai (λe=>by rw[e,as]at ai;cases ai);let av:=Yp.mono sp;generalize upd G' O (.tup [.int (i:Nat),V.ref pi])=C at sp aj av;refine⟨{_,.of (au aj)},jz (λO ac G2=>∃l,ac=[tH (.ref g),tH (.ref d),tH (.ref st),tH (.int (i:Nat)),tH (.ref pi),l,r4]/\j1 (j.map (·.1)) G2 st (XL (Vr R i) i (r.2.take O))/\Fr H3 st G2)
    ({l,s0,av.congr λz=>by unfold XL;rw[List.take_zero,if_neg {}],aj}) (λO ac G2 _ ⟨_,_,_,f⟩=>.of (au f)) ?_ ?_⟩
   ·rintro O y ac G2 hy ⟨ak,rfl,ae,al⟩;let{z,ez,hz,rfl}:=jA hy;by_cases nt:z∈r.2.take O
    ·exfalso;let{_,hj}:=zan nt;rw[zbh]at hj;split at hj
     . have h1:=(tf.mp hj);let h2:=(tf.mp ez);let:=xv (good.nd.sublist (o.srt r (tS v))) (h1.2.trans h2.2.symm);omega
     . cases hj
    ·let{H4,put,aB,_,e4}:=ae.put ((o.sub r (tS v)) z hz) (by unfold XL;rw[if_neg nt];calc vH o v hz) (by rw[ta];calc ag);exists st,H4,s0,put,_,s0,aB.congr λy=>?_
     . unfold XL;rw[tE,ez];by_cases e:y=z
       ·subst e;rw[if_pos rfl,if_pos {}]
       ·rw[if_neg e];by_cases m:y∈r.2.take O
        ·rw[if_pos m,if_pos (zaa _ m)]
        ·rw[if_neg m,if_neg (by simp [m,e])]
     . rw[e4];exact al.at_d
   ·rintro ac G2 ⟨ak,rfl,ae,al⟩;rw[ta,tu (ti _)]at ae;exact{_,_,_,s0,ae.congr (KA o v),al}
 ·rintro p G' ⟨U,v4,l,rfl,Yp,ab⟩;rw[ta,ah.1,ta]at Yp;let sG:qj H G':=λb u h=>ab _ _ ((λb u h=>ar b u (s2 _ _ h) (qo h hd)) _ _ h) (qo h (jq s1 aa));intro D O;let o:qj G' (upd G' D (.dK [])):=qd O;let aw:=jq sG O;let am:upd G' D (.dK []) D=tH (.dK []):=qa;generalize upd G' D (.dK [])=C at o am;let{dx,fs,hg,l1,_}:=((gr.mono sG).mono o).ins;calc{dx,fs,hg,l1,g,j,s0,(gr.mono sG).mono o,λln an=>{{_,.of qa},?_}};let sL:qj C (upd C ln (.lst ((j.map (·.1)).map V.str))):=qd an;let ax:upd C ln (.lst ((j.map (·.1)).map V.str)) ln=tH (.lst ((j.map (·.1)).map V.str)):=qa;generalize upd C ln (.lst ((j.map (·.1)).map V.str))=G2 at sL ax;let ay:qj G' G2:=o.trans sL;refine jz (λi p o=>∃l kvs,p=[tH (.ref g),tH (.ref d),tH (.ref st),U,v4,l,tH (.ref D)]/\Fr G2 D o/\o D=tH (.dK kvs)/\kvs.map (·.1)=((j.map (·.1)).take i).map Sum.inr/\
    ∀r∈j.take i,∃t,ja kvs (Sum.inr r.1:qJ)=tH (.ref t)/\o t=tH (.tup (Zt j R r.1)))
   ({l,[],s0,Fr.refl,sL _ _ am,s0,λr h=>(nomatch h)}) (λi p o _ ⟨_,_,_,f,_⟩=>.of (f _ _ ax (λe=>by rw[e,am]at an;cases an))) ?_ ?_
  ·rintro i y p o hy ⟨ak,kvs,rfl,fr,af,ek,hv⟩;let{r,v,az,rfl}:=WT hy;let C:=(tf.mp v).1;let ao:qj G' o:=λb u h=>fr _ _ (ay _ _ h) (qo h O);let nm:=(num.fr ab aq).mono ao;let lk:kvs.length=i:=by
    let:=congrArg zat ek;rw[ta,ta,tG,ta]at this;omega
   let eN:(j.map (·.1))[i]?=tH r.1:=by rw[tA,v];rfl
   let new:ja kvs (Sum.inr r.1:qJ)=r4:=QW (by rw[ek];calc Q5 good.nd eN);let gj:∀(O:Hp) (t:m9),Fr G2 D O->O D=tH (.dK kvs)->qj o O->O t=tH (.tup (Zt j R r.1))->∃C,Jv O D (.str r.1) (.ref t) C/\
     ∃l kvs,[tH (V.ref g),tH (.ref d),tH (.ref st),U,v4,tH (.str r.1),tH (.ref D)]=[tH (.ref g),tH (.ref d),tH (.ref st),U,v4,l,tH (.ref D)]/\Fr G2 D C/\C D=tH (.dK kvs)/\kvs.map (·.1)=((j.map (·.1)).take (i+1)).map Sum.inr/\
      ∀r∈j.take (i+1),∃t,ja kvs (Sum.inr r.1:qJ)=tH (.ref t)/\C t=tH (.tup (Zt j R r.1)):=λO t f4 h4 U l=>by
    refine{_,Jv.k (k:=(Sum.inr r.1:qJ)) h4 (qi {}),tH (.str r.1),j2 kvs (Sum.inr r.1) (.ref t),s0,f4.at_d,qa,?_,λr2 aA=>?_}
    ·rw[QD _ new,tj,ek,tE,eN,tj];rfl
    ·let tD:∀{b:m9} {xs:List V},O b=tH (.tup xs)->b≠D:=λhb e=>by rw[e,h4]at hb;cases hb
     rw[tE,v]at aA;rcases tU.mp aA with h | h
     . let{v,a,b}:=hv r2 h;exists v,?_
       ·rw[QV,if_neg (λq=>(λe=>by rw[e,new]at a;cases a) (Sum.inr.inj q))];exact a
       ·rw[qf (tD (U _ _ b))];exact U _ _ b
     . have:r2=r:=by simpa using h
       subst this;exists t,?_
       ·rw[QV,if_pos rfl]
       ·rw[qf (tD l)];exact l
   exists _,nm.get r.1,_,rfl;cases c:qO R r.1 with
   | some n=>
    let g1:=nm.get r.1;let g2:=((Yp.congr (RT R)).mono ao).get r.1;rw[c]at g1 g2;calc Qq ({_,g1,_,g2,J7,λt l=>?_});let v:Zt j R r.1=[.str "number",.int (n:Nat),.int (zc R r.1:Nat)]:=by unfold Zt;rw[c]
    let{C,put,k}:=gj (upd o t (.tup [.str "number",.int (n:Nat),.int (zc R r.1:Nat)])) t (fr.same (qd l)) (qk af l) (qd l) (by rw[v];calc qa);calc{D,C,s0,put,k}
   | none=>
    let gN:=L;refine jx ({g,d,j,r.1,qO R,s0,gr.mono (sG.trans ao),good,ag,tc.mpr ({r,az,s0}),nm,λH4 O U _ aC=>{O,_,s0,.of aC,λx J=>?_,J7,λt l=>?_}})
    ·let{y,hy,O}:=Qe.mp J;let:=z6 good L (jb good.nd _ (tc.mpr ({r,az,s0})) y hy) O;omega
    ·let v:Zt j R r.1=[.str "endless",.int (Rb.setN (Yd j (qO R) r.1):Nat)]:=by unfold Zt;rw[c]
     let{C,put,k}:=gj (upd H4 t (.tup [.str "endless",.int (Rb.setN (Yd j (qO R) r.1):Nat)])) t ((fr.same U).same (qd l)) (qk (U _ _ af) l) (U.trans (qd l)) (by rw[v];calc qa);exact{D,C,s0,put,k}
  ·rintro p o ⟨ak,kvs,rfl,fr,af,ek,hv⟩;rw[ta,tu (ti _)]at ek;rw[ta,ta,tu (ti _)]at hv;exact(q o D R (λb u h=>fr _ _ (ay _ _ (sG _ _ h)) (qo h aw)) aw ({kvs,af,ek,hv}) all)
open Rb
abbrev Zp:o0:=top 36
abbrev XW:o0:=top 37
abbrev za:o0:=top 13
abbrev Yk:o0:=top 41
abbrev WA:o0:=top 42
abbrev Wr:o0:=top 46
abbrev UD:o0:=Qg (top 44) 0
abbrev UC:o0:=Qg (top 44) 1
abbrev xh:o0:=Qg (top 44) 3
abbrev NJ:o0:=Qg (top 44) 4
abbrev um:o0:=Qg (top 44) 5
abbrev UI:o0:=Qg (top 45) 0
abbrev UH:o0:=Qg (top 45) 1
abbrev xj:o0:=Qg (top 45) 3
abbrev NP:o0:=Qg (top 45) 4
abbrev ut:o0:=Qg (top 45) 5
def bx(a b:Nat):Builtin.bitXor a b=((a^^^b:Nat):Int):=by
 unfold Builtin.bitXor;rw[bo,ba];let:=Rb.or_and_xor a b;omega
inductive vZ(vs:List V)(H:Hp)(Q:VK):Prop
 | mk (b:Nat):vs=[.int b]->(b < 65536)->(∀l,H l=r4->Q (.ref l) (upd H l (.lst (JV (Rb.memN b 16)))))->vZ vs H Q
def B5:Sp:=λa H Q _=>vZ a H Q
inductive VJ(vs:List V)(H:Hp)(Q:VK):Prop
 | mk (b n:Nat):vs=[.int b,.int n]->(b < 65536)->(n < 16)->(∀H',qj H H'->Q (.int (Rb.turnN b n 16:Nat)) H')->VJ vs H Q
def vK:Sp:=λa H Q _=>VJ a H Q
def Ew(b:Nat):b < 2^ (Builtin.Int.intBits (b:Nat)):=by
 unfold Builtin.Int.intBits;by_cases h:b=0
 ·subst h;simp
 ·rw[if_neg (by simpa using h)];calc Nat.lt_log2_self
def Ui(h:b < 65536):Builtin.Int.intBits (b:Nat)<=16:=by
 unfold Builtin.Int.intBits;by_cases a:b=0
 ·subst a;simp
 ·rw[if_neg (by simpa using a)];let:b.log2 < 16:=(Nat.log2_lt a).mpr h;calc this
def Cg(b i:Nat):Builtin.bitAnd ((b:Int) / 2^ ((i:Nat):Int).toNat) 1=(((b.testBit i).toNat:Nat):Int):=by
 let a:(b:Int) / 2^ ((i:Nat):Int).toNat=((b / 2^i:Nat):Int):=by rw[zaE];push_cast;rfl
 let d:Builtin.bitAnd ((b / 2^i:Nat):Int) 1=(((b / 2^i)&&& 1:Nat):Int):=ba (b / 2^i) 1;rw[a,d,Nat.and_one_is_mod,Rb.testBit_div];by_cases h:b / 2^i % 2=1
 ·rw[h];rfl
 ·let a:b / 2^i % 2=0:={}
  rw[a];rfl
def Cr:ql ["bits"] ["bits"] (qg Zp):=j3
def zg(F:jJ K "numbers_in" "numbers_in" Zp f a)(B:Qd mg):qu P w K mg base jh 1 f a ["bits"] B5:=by
 calc F.okK Cr λH Q E hr h=>?_;intro X;let{b,rfl,a,q}:=h;refine⟨_,qc (qm (jL (N':=["number","bits"]) (ix:=[r4,tH 0])
  (Js {} B.rng (qI (AD PySem.F.plainAttrs_int PySem.F.slot_int_bit_length PySem.F.type_int_bit_length Gf (jv 0))))
  (λ_ _ _ fp _=>{qC 0,Qo (qp jU (jc Ir (jc Il (jv 1) (jv 0)) qh) qh),jv 0}))),?_⟩
 refine{s0,_,s0,s0,_,s0,{},?_,λD m=>?_}
 ·let:=Ui a;omega
 ·rw[zaE];refine zL (λi d j=>∃v,d=[v,tH (.int b)]/\j=upd H D (.lst (JV (Rb.memN b i)))) ({r4,s0,s0}) ?_ ?_
  ·rintro i d j _ ⟨v,rfl,rfl⟩;rw[zcy];exists _,_,s0,s0,{},_,_,s0,s0,s0,_,rfl;let e:decide (V.int (Builtin.bitAnd ((b:Int) / 2^ ((i:Nat):Int).toNat) 1)=V.int 1)=b.testBit i:=by
    rw[Cg];cases b.testBit i<;>decide
   rw[e];let o:(JV (Rb.memN b i)).length < zes:=by
    rw[Yx];calc qi ?_;let:=Ui a;let l:(Rb.memN b i).length<=(zae i).length:=zao _ _;rw[zap]at l;omega
   cases l:b.testBit i with
   | true=>
    calc Qq ({_,qa,o,tH (.int i),s0,?_});rw[jF,yr,Rb.memN_succ,l];rfl
   | false=>
    calc jx ({tH (.int i),s0,?_});rw[Rb.memN_succ,l];simp
  ·rintro d j ⟨v,rfl,rfl⟩;rw[Rb.memN_same (m:=16) a (Ew b)];calc q D m
def Ny:ql ["bits","number"] ["bits","number"] (qg XW):=j3
def K5(F:jJ K "set_turned" "set_turned" XW f d)(B:Qd mg)(hN:qK K mg "numbers_in" Zp ["bits"] j l)(a:qK K mg "set_of" zW ["numbers"] o p):
  qu P w K mg base jh 2 f d ["bits","number"] vK:=by
 calc F.okK Ny λH Q E hr h=>?_;intro X;let{b,n,rfl,d,p,q}:=h;exists _,qc (qm (qw a (pin P w mg base (WK a.fn)) (qI (jL (N':=["other","number"]) (ix:=[r4,tH 1])
  (qv (qw hN (pin P w mg base (zg hN.fn B)) (qI (jv 0))))
  (λ_ _ _ fp _=>{qC 0,qP,jc xt (jv 0) (jv 1)})))))
 calc{b,s0,d,λl u=>{{_,.of qa},λD j=>?_}};let o:l≠D:=λe=>by rw[e,qa]at j;cases j
 refine qR (λi a d=>∃v,a=[v,tH (.int n)]/\d=upd (upd H l (.lst (JV (Rb.memN b 16)))) D (.lst (JV (((Rb.memN b 16).take i).map (·^^^n))))) ({r4,s0,s0})
  (λi a d _ ⟨_,_,e⟩=>.of (by rw[e,qf o];calc qa)) ?_ ?_
 ·rintro i x a d l ⟨v,rfl,rfl⟩;let{m,z,rfl}:=ve l;exists _,_,s0,s0,_,qa,?_,tH (.int m),rfl
  ·rw[Yx,ta,tG];calc qi (tP (zdk _ _) ?_);let C:(Rb.memN b 16).length<=(zae 16).length:=zao _ _;rw[zap]at C;omega
  ·rw[jF]
   try dsimp only
   rw[bx,yr,YT z,tj];rfl
 ·rintro a d ⟨v,rfl,rfl⟩;rw[Yx,tu (ti _)];exists D,(Rb.memN b 16).map (·^^^n),s0,.of qa,λx l=>?_
  ·let{y,a,rfl}:=tc.mp l;let:=Rb.xor_lt (m:=4) (Rb.mem_memN.mp a).1 p;omega
  ·exact q _ (qj.upd (qd u) (by rw[<-j,qf (Ne.symm o)]))
structure Cl(K:zen)(mg:Str->Option n9)(x gB gx:Str)(st:o0)(C f:m9)(fd:zer):Prop where
 cl:Wf K C
 mkr:Mk K C f
 ns:mg x=tH (.ref C)
 na:Qy K C gx
 fn:jJ K "__init__" gB st f fd
 bi:Qj K fd ["self",gx] []
 ca:t9 K (.ref C) "__class__"=tH (tH (.builtin "object.__class__"))
 ob:zcn K C (.type "object")=tH true
structure Wk(K:zen)(mg:Str->Option n9):Prop where
 isi:mg "isinstance"=r4
 bool:mg "bool"=r4
 kii:zak K (.type "int") (.type "int")=tH true
 kib:zak K (.type "int") (.type "bool")=tH false
 most:∃t,mg "MOST_NUMBER"=tH (.int 15 t)
 mset:∃t,mg "MOST_BITS"=tH (.int 65535 t)
def DN{f:Str}{v:V}:[(f,v)].lookup f=tH v:=by simp [zbi]
def Zj(i CE:m9)(H:Hp)(a:m9):W->Prop
 | .num n=>∃d,H a=tH (.ins i d [("number",.int (n:Nat))])
 | .edl b=>∃d,H a=tH (.ins CE d [("bits",.int (b:Nat))])
def Zj.same{d CE:m9}{H H':Hp}{a:m9}{w:W}(h:Zj d CE H a w)(s:qj H H'):Zj d CE H' a w:=by
 cases w with
 | num n=>let{d,e}:=h;calc{d,s _ _ e}
 | edl b=>let{d,e}:=h;calc{d,s _ _ e}
def Qh:W->Str
 | .num _=>"number"
 | .edl _=>"endless"
def JM:W->Nat
 | .num n=>n
 | .edl b=>b
inductive VI(vs:List V)(H:Hp)(Q:VK):Prop
 | mk (i:Int):vs=[.int i]->(Q (.bl true) H)->VI vs H Q
def RV:Sp:=λa H Q _=>VI a H Q
inductive VN(vs:List V)(H:Hp)(Q:VK):Prop
 | mk (i:Int):vs=[.int i]->(0<=i)->(i<=15)->(Q (.bl true) H)->VN vs H Q
def Ng:Sp:=λa H Q _=>VN a H Q
inductive ke(vs:List V)(H:Hp)(Q:VK):Prop
 | mk (i:Int):vs=[.int i]->(0<=i)->(i<=65535)->(Q (.bl true) H)->ke vs H Q
def Ca:Sp:=λa H Q _=>ke a H Q
def Cj:ql ["thing"] ["thing"] (qg za):=j3
def WJ(F:jJ K "is_whole" "is_whole" za f a)(B:Qd mg)(T:Wk K mg):qu P w K mg base jh 1 f a ["thing"] RV:=by
 calc F.okK Cj λH Q E hr h=>?_;intro X;let{i,rfl,q}:=h;refine⟨_,qc (qm (QI (qr jM {} T.isi boot_isinstance (jV (jv 0) (QM (v:=.ty "int") {} B.int boot_int rfl)))
  (Jt (Ll (qr jM {} T.isi boot_isinstance (jV (jv 0) (QM (v:=.ty "bool") {} T.bool boot_bool rfl))))))),?_⟩
 calc{_,_,_,_,s0,s0,.int i,T.kii,_,s0,Qq ({_,_,_,_,s0,s0,.int i,T.kib,_,s0,q})}
def NA:ql ["thing"] ["thing"] (qg Yk):=j3
def V0(F:jJ K "is_number" "is_number" Yk f b)(B:Qd mg)(T:Wk K mg)(a:qK K mg "is_whole" za ["thing"] d j):qu P w K mg base jh 2 f b ["thing"] Ng:=by
 let{t,b}:=T.most;calc F.okK NA λH Q E hr h=>?_;intro X;let{i,rfl,d,j,q}:=h;calc{_,qc (qm (QI (qw a (pin P w mg base (WJ a.fn B T)) (qI (jv 0))) (QI (jf uJ qh (jv 0)) (Jt (jf uJ (jv 0) (Qz (v:=.int 15) {} b ({_,s0}))))))),{i,s0,_,s0,Qq ({_,_,s0,s0,_,s0,?_})}};rw[decide_eq_true d];calc Qq ({_,_,s0,s0,?_});show Q (.bl (decide (i<=15))) H;rw[decide_eq_true j];calc q
def Cy:ql ["thing"] ["thing"] (qg WA):=j3
def kY(F:jJ K "is_set" "is_set" WA f b)(B:Qd mg)(T:Wk K mg)(a:qK K mg "is_whole" za ["thing"] d j):qu P w K mg base jh 2 f b ["thing"] Ca:=by
 let{t,b}:=T.mset;calc F.okK Cy λH Q E hr h=>?_;intro X;let{i,rfl,d,j,q}:=h;calc{_,qc (qm (QI (qw a (pin P w mg base (WJ a.fn B T)) (qI (jv 0))) (QI (jf uJ qh (jv 0)) (Jt (jf uJ (jv 0) (Qz (v:=.int 65535) {} b ({_,s0}))))))),{i,s0,_,s0,Qq ({_,_,s0,s0,_,s0,?_})}};rw[decide_eq_true d];calc Qq ({_,_,s0,s0,?_});show Q (.bl (decide (i<=65535))) H;rw[decide_eq_true j];calc q
inductive wZ(C:m9)(gx:Str)(hi:Int)(vs:List V)(H:Hp)(Q:VK):Prop
 | mk (x dx:m9) (n:Int):vs=[.ref x,.int n]->(0<=n)->(n<=hi)->H x=tH (.ins C dx [])->(Q .non (upd H x (.ins C dx [(gx,.int n)])))->wZ C gx hi vs H Q
def Ux(C:m9)(gx:Str)(a:Int):Sp:=λb H Q _=>wZ C gx a b H Q
def Cv:ql ["self","number"] ["self","number"] (qg UD):=j3
def MG(F:jJ K "__init__" "Numbered.__init__" UD f d)(B:Qd mg)(T:Wk K mg)(i:qK K mg "is_whole" za ["thing"] l m)(b:qK K mg "is_number" Yk ["thing"] o p)(cl:Wf K a)(j:Qy K a "number"):
  qu P w K mg base jh 3 f d ["self","number"] (Ux a "number" 15):=by
 calc F.okK Cv λH Q E hr h=>?_;intro X;let{x,d,n,rfl,l,m,o,q}:=h;calc{_,qb (qG (jX (jj (qw b (pin P w mg base (V0 b.fn B T i)) (qI (jv 1))))) qS qt) (qc (U5 (jv 0) (jv 1) rfl)),{n,s0,l,m,_,s0,jx ({x,a,d,[],s0,o,cl,j,{},q})}}
def CD:ql ["self","bits"] ["self","bits"] (qg UI):=j3
def MU{P:o3}{w:o4}{K:zen}{mg:Str->Option n9}{base:o1}{f d i CE:m9}{a j l:zer}(F:jJ K "__init__" "Endless.__init__" UI f a)(B:Qd mg)(T:Wk K mg)(m:qK K mg "is_whole" za ["thing"] i l)(b:qK K mg "is_set" WA ["thing"] d j)(cl:Wf K CE)(o:Qy K CE "bits"):
  qu P w K mg base jh 3 f a ["self","bits"] (Ux CE "bits" 65535):=by
 calc F.okK CD λH Q E hr h=>?_;intro X;let{x,a,n,rfl,d,i,j,q}:=h;calc{_,qb (qG (jX (jj (qw b (pin P w mg base (kY b.fn B T m)) (qI (jv 1))))) qS qt) (qc (U5 (jv 0) (jv 1) rfl)),{n,s0,d,i,_,s0,jx ({x,CE,a,[],s0,j,cl,o,{},q})}}
def wH(b CE:m9):Sp:=λd H Q _=>∃a w,d=[.ref a]/\Zj b CE H a w/\∀b,H b=r4->Q (.ref b) (upd H b (.tup [.str (Qh w),.int (JM w:Nat)]))
def Uv(b CE:m9):Sp:=λd H Q E=>(∃a n,d=[.ref a]/\Zj b CE H a (.num n))/\wH b CE d H Q E
def Uw(d CE:m9):Sp:=λi H Q E=>(∃a b,i=[.ref a]/\Zj d CE H a (.edl b))/\wH d CE i H Q E
def Zj.inj{b CE:m9}(d:b≠CE){H:Hp}{a:m9}{u v:W}(h:Zj b CE H a u)(g:Zj b CE H a v):u=v:=by
 cases u<;>cases v<;>let{_,e}:=h<;>let{_,b}:=g<;>rw[e]at b
 ·let:=(HO.ins.inj (tH.inj b)).2.2;let i:=V.int.inj (Prod.mk.inj (zbY.inj this).1).2;congr 1;omega
 ·exact absurd (HO.ins.inj (tH.inj b)).1 d
 ·exact absurd (HO.ins.inj (tH.inj b)).1 (Ne.symm d)
 ·let:=(HO.ins.inj (tH.inj b)).2.2;let i:=V.int.inj (Prod.mk.inj (zbY.inj this).1).2;congr 1;omega
def Ct:ql ["self"] ["self"] (qg UC):=j3
def ME{P:o3}{w:o4}{K:zen}{mg:Str->Option n9}{base:o1}{f b CE:m9}{d:zer}(F:jJ K "told" "Numbered.told" UC f d)(cl:Wf K b)(i:Qy K b "number")(j:b≠CE):qu P w K mg base jh 1 f d ["self"] (Uv b CE):=by
 calc F.okK Ct λH Q E hr h=>?_;intro X;obtain⟨⟨a,n,rfl,d⟩,_,w,e,l,q⟩:=h;cases e;let m:=Zj.inj j l d;subst m;let{j,l}:=d;calc{_,qc (qm (jH (jV qH (Q1 (jv 0) rfl)))),{b,j,_,_,l,cl,i,DN,J7,q}}
def CB:ql ["self"] ["self"] (qg UH):=j3
def MT{P:o3}{w:o4}{K:zen}{mg:Str->Option n9}{base:o1}{f d CE:m9}{i:zer}(F:jJ K "told" "Endless.told" UH f i)(cl:Wf K CE)(j:Qy K CE "bits")(l:d≠CE):qu P w K mg base jh 1 f i ["self"] (Uw d CE):=by
 calc F.okK CB λH Q E hr h=>?_;intro X;obtain⟨⟨a,b,rfl,d⟩,_,w,e,i,q⟩:=h;cases e;let m:=Zj.inj l i d;subst m;let{i,l}:=d;calc{_,qc (qm (jH (jV qH (Q1 (jv 0) rfl)))),{CE,i,_,_,l,cl,j,DN,J7,q}}
inductive Fl(b:Bool)(vs:List V)(H:Hp)(Q:VK):Prop
 | mk (a:_):vs=[.ref a]->(Q (.bl b) H)->Fl b vs H Q
def KC(b:Bool):Sp:=λa H Q _=>Fl b a H Q
def HN:ql ["self"] ["self"] (qg um):=j3
def Dk(F:jJ K "is_endless" "Numbered.is_endless" um f b):qu P w K mg base jh 1 f b ["self"] (KC false):=by
 calc F.okK HN λH Q E hr h=>?_;intro X;let{a,rfl,q}:=h;calc{_,qc (qm j0),q}
def HX:ql ["self"] ["self"] (qg ut):=j3
def Dw(F:jJ K "is_endless" "Endless.is_endless" ut f b):qu P w K mg base jh 1 f b ["self"] (KC true):=by
 calc F.okK HX λH Q E hr h=>?_;intro X;let{a,rfl,q}:=h;exact{_,qc (qm j0),q}
structure WF(K:zen)(mg:Str->Option n9) where
 (CN CE fNI fEI fNT fET fNO fEO fNP fEP fNE fEE fW fB fS fT fN fO:m9)
 (dNI dEI dNT dET dNO dEO dNP dEP dNE dEE dW dB dS dT dN dO:zer)
 ne:CN≠CE
 cN:Cl K mg "Numbered" "Numbered.__init__" "number" UD CN fNI dNI
 cE:Cl K mg "Endless" "Endless.__init__" "bits" UI CE fEI dEI
 nT:yN K CN "told" "Numbered.told" UC ["self"] fNT dNT
 eT:yN K CE "told" "Endless.told" UH ["self"] fET dET
 nO:yN K CN "outcome" "Numbered.outcome" NJ ["self"] fNO dNO
 eO:yN K CE "outcome" "Endless.outcome" NP ["self"] fEO dEO
 nP:yN K CN "plus" "Numbered.plus" xh ["self","other"] fNP dNP
 eP:yN K CE "plus" "Endless.plus" xj ["self","other"] fEP dEP
 nE:yN K CN "is_endless" "Numbered.is_endless" um ["self"] fNE dNE
 eE:yN K CE "is_endless" "Endless.is_endless" ut ["self"] fEE dEE
 hW:qK K mg "is_whole" za ["thing"] fW dW
 hB:qK K mg "is_number" Yk ["thing"] fB dB
 hS:qK K mg "is_set" WA ["thing"] fS dS
 hT:qK K mg "set_turned" XW ["bits","number"] fT dT
 hN:qK K mg "numbers_in" Zp ["bits"] fN dN
 hO:qK K mg "set_of" zW ["numbers"] fO dO
def isE:W->Bool
 | .num _=>false
 | .edl _=>true
def WF.gNI(h:WF K mg)(B:Qd mg)(T:Wk K mg):qu P w K mg base jh 3 h.fNI h.dNI ["self","number"] (Ux h.CN "number" 15):=MG h.cN.fn B T h.hW h.hB h.cN.cl h.cN.na
def WF.gEI(h:WF K mg)(B:Qd mg)(T:Wk K mg):qu P w K mg base jh 3 h.fEI h.dEI ["self","bits"] (Ux h.CE "bits" 65535):=MU h.cE.fn B T h.hW h.hS h.cE.cl h.cE.na
def WF.gNT(h:WF K mg):qu P w K mg base jh 1 h.fNT h.dNT ["self"] (Uv h.CN h.CE):=ME h.nT.fn h.cN.cl h.cN.na h.ne
def WF.gET(h:WF K mg):qu P w K mg base jh 1 h.fET h.dET ["self"] (Uw h.CN h.CE):=MT h.eT.fn h.cE.cl h.cE.na h.ne
def WF.gNE(h:WF K mg):qu P w K mg base jh 1 h.fNE h.dNE ["self"] (KC false):=Dk h.nE.fn
def WF.gEE(h:WF K mg):qu P w K mg base jh 1 h.fEE h.dEE ["self"] (KC true):=Dw h.eE.fn
def WF.gT(h:WF K mg)(B:Qd mg):qu P w K mg base jh 2 h.fT h.dT ["bits","number"] vK:=K5 h.hT.fn B h.hN h.hO
def DF{f g:Str}{v:V}(h:(g==f)=false):[(f,v)].lookup g=r4:=by simp [zbi,h]
def n1:((zeo "is_endless")==(zeo "number"))=false:=by decide+kernel
def n2:((zeo "is_endless")==(zeo "bits"))=false:=by decide+kernel
def n3:((zeo "told")==(zeo "number"))=false:=by decide+kernel
def n4:((zeo "told")==(zeo "bits"))=false:=by decide+kernel
def n5:((zeo "plus")==(zeo "number"))=false:=by decide+kernel
def n6:((zeo "plus")==(zeo "bits"))=false:=by decide+kernel
def LC{j CE a:m9}{H:Hp}{w:W}{Q:VK}(h:Zj j CE H a w)(q:Q (.bl (isE w)) H):∃i d fs,V.ref a=.ref i/\fs.lookup (zeo "is_endless")=r4/\((H i=tH (.ins j d fs)/\KC false [V.ref a] H Q E0)\/(H i=tH (.ins CE d fs)/\KC true [V.ref a] H Q E0)):=by
 cases w with
 | num n=>let{d,e}:=h;calc{a,d,_,s0,DF n1,.inl ({e,a,s0,q})}
 | edl b=>let{d,e}:=h;calc{a,d,_,s0,DF n2,.inr ({e,a,s0,q})}
def BM{i CE a:m9}{H:Hp}{w:W}{Q:VK}(h:Zj i CE H a w)(q:∀p,H p=r4->Q (.ref p) (upd H p (.tup [.str (Qh w),.int (JM w:Nat)]))):
  ∃j d fs,V.ref a=.ref j/\fs.lookup (zeo "told")=r4/\((H j=tH (.ins i d fs)/\Uv i CE [V.ref a] H Q E0)\/(H j=tH (.ins CE d fs)/\Uw i CE [V.ref a] H Q E0)):=by
 cases w with
 | num n=>let{d,e}:=id h;calc{a,d,_,s0,DF n3,.inl ({e,{a,n,s0,h},a,_,s0,h,q})}
 | edl b=>let{d,e}:=id h;calc{a,d,_,s0,DF n4,.inr ({e,{a,b,s0,h},a,_,s0,h,q})}
def AA{X:Cx}(h:WF X.K X.mg)(hr:jK 1 X.A)(l:JE X o m)(p:eval (.Call (.Attribute o "is_endless" b_) [] [] pos) X.env=(eval o X.env >>= λd=>standAt b_.atName >>= λ_=>holding [d] (getMethod d "is_endless" v) >>= λr=>callWith pos r.1 r.2 (backTo pos (starEach [] X.env)) (backToKw pos (keywordEach [] X.env))):=by rfl):
  JE X (.Call (.Attribute o "is_endless" b_) [] [] pos) (λj H Q=>m j H λx b=>∃a u,x=.ref a/\Zj h.CN h.CE b a u/\Q (.bl (isE u)) b):=
 X6 (Xe (uX l) h.cN.cl h.nE.me h.gNE hr h.nE.bi h.cE.cl h.eE.me h.gEE hr h.eE.bi p) λj H Q q=>{_,q,λx b ⟨a,u,e,i,b⟩=>by subst e;calc LC i b}
def uY{X:Cx}(h:WF X.K X.mg)(hr:jK 1 X.A)(l:JE X o m)(v:eval (.Call (.Attribute o "told" b_) [] [] pos) X.env=(eval o X.env >>= λd=>standAt b_.atName >>= λ_=>holding [d] (getMethod d "told" y) >>= λr=>callWith pos r.1 r.2 (backTo pos (starEach [] X.env)) (backToKw pos (keywordEach [] X.env))):=by rfl):
  JE X (.Call (.Attribute o "told" b_) [] [] pos) (λj H Q=>m j H λx b=>∃a u,x=.ref a/\Zj h.CN h.CE b a u/\∀p,b p=r4->Q (.ref p) (upd b p (.tup [.str (Qh u),.int (JM u:Nat)]))):=
 X6 (Xe (uX l) h.cN.cl h.nT.me h.gNT hr h.nT.bi h.cE.cl h.eT.me h.gET hr h.eT.bi v) λj H Q q=>{_,q,λx b ⟨a,u,e,i,b⟩=>by subst e;calc BM i b}
inductive vV(CN CE:m9)(vs:List V)(H:Hp)(Q:VK):Prop
 | mk (a:_) (o:_) (n:_) (v:_):vs=[.ref a,.ref o]->(Zj CN CE H a (.num n))->Zj CN CE H o v->(n < 16)->YO v->(∀H' r,qj H H'->Zj CN CE H' r (jm (.num n) v)->Q (.ref r) H')->vV CN CE vs H Q
def wO(a CE:m9):Sp:=λb H Q _=>vV a CE b H Q
inductive vW(CN CE:m9)(vs:List V)(H:Hp)(Q:VK):Prop
 | mk (a:_) (o:_) (b:_) (v:_):vs=[.ref a,.ref o]->(Zj CN CE H a (.edl b))->Zj CN CE H o v->(b < 65536)->YO v->(∀H' r,qj H H'->Zj CN CE H' r (jm (.edl b) v)->Q (.ref r) H')->vW CN CE vs H Q
def wP(a CE:m9):Sp:=λb H Q _=>vW a CE b H Q
def UU{d CE:m9}{H:Hp}{x a:m9}{n:Nat}(i:H x=r4)(hd:H a=r4)(j:a≠x):qj H (upd (upd (upd H a (.own x)) x (.ins d a [])) x (.ins d a [("number",.int (n:Nat))]))/\Zj d CE (upd (upd (upd H a (.own x)) x (.ins d a [])) x (.ins d a [("number",.int (n:Nat))])) x (.num n):=
 {λb _ d=>by rwa [qf (qo d i),qf (qo d i),qf (qo d hd)],a,qa}
def UV{d CE:m9}{H:Hp}{x a:m9}{b:Nat}(i:H x=r4)(hd:H a=r4)(j:a≠x):qj H (upd (upd (upd H a (.own x)) x (.ins CE a [])) x (.ins CE a [("bits",.int (b:Nat))]))/\Zj d CE (upd (upd (upd H a (.own x)) x (.ins CE a [])) x (.ins CE a [("bits",.int (b:Nat))])) x (.edl b):=
 {λb _ d=>by rwa [qf (qo d i),qf (qo d i),qf (qo d hd)],a,qa}
def CC:ql ["self","other"] ["self","other"] (qg xj):=j3
def WF.gEP{P:o3}{w:o4}{K:zen}{mg:Str->Option n9}{base:o1}(h:WF K mg)(B:Qd mg)(T:Wk K mg):qu P w K mg base jh 5 h.fEP h.dEP ["self","other"] (wP h.CN h.CE):=by
 refine h.eP.fn.okJ CC (λd H Q E z=>?_) (λ_ A _ s H d Q E hr z=>?_)
 ·let{a,d,b,v,rfl,_}:=z;rfl
 ·let{a,d,b,v,rfl,p,m,u,o,q}:=z;refine⟨_,qb (qG (jj (AA h (hr.mono {}) (jv 1))) (qc (qm (QL h.cE.mkr (h.gEI B T) hr {} h.cE.ns h.cE.bi .nil QP (qI qh)))) qt)
   (qc (qm (QL h.cE.mkr (h.gEI B T) hr {} h.cE.ns h.cE.bi .nil QP (qI (qw h.hT (h.gT B) (jV (Q1 (jv 0) rfl) (Q1 (jv 1) rfl))))))),?_⟩
  exists d,v,s0,m,_,rfl;cases v with
  | edl c=>
   calc Qq (λx d i hd j=>{x,d,0,s0,{},{},qa,s0,?_});let{l,y}:=UV i hd j;calc q _ _ l y
  | num n=>
   let{y,C}:=id p;let{p,D}:=id m;refine jx ({h.CE,y,_,_,C,h.cE.cl,h.cE.na,DN,h.CN,p,_,_,D,h.cN.cl,h.cN.na,DN,b,n,s0,u,o,λ_ l x d i hd j=>{x,d,_,s0,{},?_,qa,s0,?_}})
   ·let:turnN b n 16 < 65536:=XQ (k:=4) (ti _) o;omega
   ·let{d,m}:=UV i hd j;calc q _ _ (l.trans d) m
def Cu:ql ["self","other"] ["self","other"] (qg xh):=j3
def WF.gNP(h:WF K mg)(B:Qd mg)(T:Wk K mg):qu P w K mg base jh 6 h.fNP h.dNP ["self","other"] (wO h.CN h.CE):=by
 refine h.nP.fn.okJ Cu (λd H Q E z=>?_) (λ_ A _ s H d Q E hr z=>?_)
 ·let{a,j,b,v,rfl,_}:=z;rfl
 ·let{a,j,n,v,rfl,p,d,u,y,q}:=z;refine⟨_,qb (qG (jj (AA h (hr.mono {}) (jv 1))) (qc (qm (ZJ h.eP h.cE.cl (h.gEP B T) hr (jv 1) (qI (jv 0))))) qt)
   (qc (qm (QL h.cN.mkr (h.gNI B T) (hr.mono {}) {} h.cN.ns h.cN.bi .nil QP (qI (jc xt (Q1 (jv 0) rfl) (Q1 (jv 1) rfl)))))),?_⟩
  exists j,v,s0,d,_,rfl;cases v with
  | edl c=>
   let{l,o}:=id d;calc Qq ({l,_,o,DF n6,j,a,c,.num n,s0,d,p,y,u,λj r s i=>q j r s i})
  | num m=>
   let{j,C}:=id p;let{l,o}:=id d;calc jx ({h.CN,j,_,_,C,h.cN.cl,h.cN.na,DN,h.CN,l,_,_,o,h.cN.cl,h.cN.na,DN,_,_,s0,s0,λx d j hd l=>?_});let lt:=xor_lt (m:=4) u y;exists x,d,((n^^^m:Nat):Int),by rw[<-bx];rfl,{},{},qa,rfl;let{d,o}:=UU j hd l;calc q _ _ d o
def C3{i CE a:m9}{H:Hp}{u:W}{Q:VK}{t:TA}{l:L2.St}(h:Zj i CE H a u)(hu:YO u)(x:t l H λvs d=>∃o v,vs=[.ref o]/\Zj i CE d a u/\Zj i CE d o v/\YO v/\∀H' r,qj d H'->Zj i CE H' r (jm u v)->Q (.ref r) H')
  (mono:∀R p:List V->Hp->Prop,(∀vs H,R vs H->p vs H)->t l H R->t l H p):
  ∃m j fs,V.ref a=.ref m/\fs.lookup (zeo "plus")=r4/\((H m=tH (.ins i j fs)/\t l H λvs d=>wO i CE (V.ref a::vs) d Q E0)\/(H m=tH (.ins CE j fs)/\t l H λvs d=>wP i CE (V.ref a::vs) d Q E0)):=by
 cases u with
 | num n=>
  let{j,e}:=id h;calc{a,j,_,s0,DF n5,.inl ({e,mono _ _ (λvs d ⟨o,v,i,l,m,p,q⟩=>{a,o,n,v,by rw[i],l,m,hu,p,q}) x})}
 | edl b=>
  let{j,e}:=id h;calc{a,j,_,s0,DF n6,.inr ({e,mono _ _ (λvs d ⟨o,v,i,l,m,p,q⟩=>{a,o,b,v,by rw[i],l,m,hu,p,q}) x})}
def uZ{X:Cx}(h:WF X.K X.mg)(B:Qd X.mg)(T:Wk X.K X.mg)(hr:jK 6 X.A)(m:JE X o p)(C:JA X [e] t)(D:starEach [e] X.env=(false,eval e X.env)::starEach [] X.env:=by rfl)(J:eval (.Call (.Attribute o "plus" b_) [e] [] pos) X.env=(eval o X.env >>= λl=>standAt b_.atName >>= λ_=>holding [l] (getMethod l "plus" L) >>= λr=>callWith pos r.1 r.2 (backTo pos (starEach [e] X.env)) (backToKw pos (keywordEach [] X.env))):=by rfl):
  JE X (.Call (.Attribute o "plus" b_) [e] [] pos) (λd H Q=>p d H λx j=>∃a u,x=.ref a/\Zj h.CN h.CE j a u/\YO u/\t d j λvs b=>∃o v,vs=[.ref o]/\Zj h.CN h.CE b a u/\Zj h.CN h.CE b o v/\YO v/\∀H' r,qj b H'->Zj h.CN h.CE H' r (jm u v)->Q (.ref r) H'):=
 X6 (Ax (uX m) h.cN.cl h.nP.me (h.gNP B T) hr h.nP.bi h.cE.cl h.eP.me (h.gEP B T) (hr.mono {}) h.eP.bi (P3 C) D rfl J) λd H Q q=>⟨_,q,λx j ⟨a,u,e,i,hu,d⟩=>by
  subst e;calc C3 i hu ({_,d,λvs b z=>z}) λR _ k ⟨G,g,z⟩=>{G,g,λvs b y=>k vs b (z vs b y)}⟩
def Wl(d CE:m9)(H:Hp)(as:List m9)(b:List W):Prop:=as.length=b.length/\∀(i:Nat) (a:m9) (u:W),as[i]?=tH a->b[i]?=tH u->Zj d CE H a u
inductive vM(K:zen)(CN CE:m9)(vs:List V)(H:Hp)(Q:VK):Prop
 | mk (l:m9) (as:List m9) (ws:List W):vs=[.ref l]->(JX K H l (as.map V.ref))->Wl CN CE H as ws->((∀u∈ws,YO u))->(∀H' r,qj H H'->Zj CN CE H' r (Qk ws)->Q (.ref r) H')->vM K CN CE vs H Q
def BX(K:zen)(a CE:m9):Sp:=λb H Q _=>vM K a CE b H Q
def Cm:ql ["worths","total","worth"] ["worths"] (qg Wr):=j3
def vh{a:List W}(h:∀u∈a,YO u)(i:Nat):YO ((a.take i).foldl jm (.num 0)):=by
 let b:∀u∈a.take i,YO u:=λu hu=>h u (zbN hu);rw[yz b];calc yZ b
def Mv{P:o3}{w:o4}{K:zen}{mg:Str->Option n9}{base:o1}{f:m9}{a:zer}(F:jJ K "sum_of" "sum_of" Wr f a)(h:WF K mg)(B:Qd mg)(T:Wk K mg):qu P w K mg base jh 7 f a ["worths"] (BX K h.CN h.CE):=by
 calc F.okK Cm λH Q E hr z=>?_;intro X;let{m,as,a,rfl,d,p,u,q}:=z;refine⟨_,qb (qB 1 (QL h.cN.mkr (h.gNI B T) (hr.mono {}) {} h.cN.ns h.cN.bi .nil QP (qI qh)))
  (qb (je (qv (jv 0)) (qC 2) (qc (qB 1 (uZ h B T hr (jv 1) (qI (jv 2))))))
  (qc (qm (jv 1)))),?_⟩
 calc λx b j hd o=>{x,b,0,s0,{},{},qa,s0,?_};let{l,C}:=UU j hd o;refine{{_,l.seq d},jz (λi j b=>∃r v,j=[tH (.ref m),tH (.ref r),v]/\qj H b/\Zj h.CN h.CE b r ((a.take i).foldl jm (.num 0))) ({x,r4,s0,l,C}) (λi j b _ ⟨_,_,_,e,_⟩=>e.seq d) ?_ ?_}
 ·rintro i y j b d ⟨r,v,rfl,l,m⟩;rw[tA]at d;cases o:as[i]? with
  | none=>rw[o]at d;cases d
  | some C=>
   rw[o]at d;obtain rfl:=(tH.inj d).symm;let d:i < a.length:=by
    let:=(tf.mp o).1;rwa [p.1]at this
   let D:=tv d;let J:a.take (i+1)=a.take i++[a[i]]:=by rw[tE,D];rfl
   calc{r,_,s0,m,vh u i,C,_,s0,m,(p.2 i C _ o D).same l,u _ (zbo d),λ_ a d o=>{a,_,s0,l.trans d,?_}};rw[J,zbM];exact o
 ·rintro j b ⟨r,v,rfl,l,m⟩;calc(q _ _ l ?_);rwa [ta,p.1,tu (ti _),yz u]at m
def ZQ:W->Str
 | .num n=>if n=0 then "lost" else "won"
 | .edl b=>if b.testBit 0=true then "won" else "drawn"
inductive wR(CN CE:m9)(vs:List V)(H:Hp)(Q:VK):Prop
 | mk (a:_) (n:_):vs=[.ref a]->(Zj CN CE H a (.num n))->(Q (.str (ZQ (.num n))) H)->wR CN CE vs H Q
def Na(a CE:m9):Sp:=λb H Q _=>wR a CE b H Q
inductive wS(CN CE:m9)(vs:List V)(H:Hp)(Q:VK):Prop
 | mk (a:_) (b:_):vs=[.ref a]->(Zj CN CE H a (.edl b))->(b < 65536)->(∀H',qj H H'->Q (.str (ZQ (.edl b))) H')->wS CN CE vs H Q
def Nb(a CE:m9):Sp:=λb H Q _=>wS a CE b H Q
def HM:ql ["self"] ["self"] (qg NJ):=j3
def HW:ql ["self"] ["self"] (qg NP):=j3
def WF.gNO{P:o3}{w:o4}{K:zen}{mg:Str->Option n9}{base:o1}(h:WF K mg):qu P w K mg base jh 1 h.fNO h.dNO ["self"] (Na h.CN h.CE):=by
 refine h.nO.fn.okJ HM (λb H Q E z=>?_) (λ_ A _ s H b Q E hr z=>?_)
 ·let{a,n,rfl,_}:=z;rfl
 ·obtain⟨a,n,rfl,⟨b,e⟩,q⟩:=z;calc{_,qb (qG (qp jU (Q1 (jv 0) rfl) qh) (qc (qm qH)) qt) (qc (qm qH)),{h.CN,b,_,_,e,h.cN.cl,h.cN.na,DN,s0,_,s0,?_}};let q:Q (.str (if n=0 then "lost" else "won")) H:=q;by_cases c:n=0
  ·subst c;rw[if_pos rfl]at q;exact jI {} q
  ·rw[if_neg c]at q;calc qU (decide_eq_false λz=>c (by have:=V.int.inj z;omega)) q
def WF.gEO(h:WF K mg)(B:Qd mg):qu P w K mg base jh 2 h.fEO h.dEO ["self"] (Nb h.CN h.CE):=by
 refine h.eO.fn.okJ HW (λd H Q E z=>?_) (λ_ A _ s H d Q E hr z=>?_)
 ·let{a,b,rfl,_}:=z;rfl
 ·obtain⟨a,b,rfl,⟨d,e⟩,i,q⟩:=z;calc{_,qb (qG (qp Q4 qh (qw h.hN (pin P w mg base (zg h.hN.fn B)) (qI (Q1 (jv 0) rfl))) (by with_unfolding_all rfl)) (qc (qm qH)) qt) (qc (qm qH)),{h.CE,d,_,_,e,h.cE.cl,h.cE.na,DN,b,s0,i,λd i=>{d,_,s0,.inl (.of qa),s0,W6 _,_,s0,?_}}};let j:Jz (.int ((0:Nat):Int)) (JV (memN b 16))=b.testBit 0:=by
   rw[xS];unfold memN;rw[zaB,decide_eq_true_iff,tV];exact{λh=>h.2,λh=>{{},h}}
  let q:=q _ (qd (o:=HO.lst (JV (memN b 16))) i);let q:Q (.str (if b.testBit 0=true then "won" else "drawn")) (upd H d (HO.lst (JV (memN b 16)))):=q;show if Jz (.int ((0:Nat):Int)) (JV (memN b 16))=true then _ else _
  rw[j];cases c:b.testBit 0 with
  | true=>rw[if_pos c]at q;calc Qq q
  | false=>rw[if_neg (c▸tN)]at q;calc jx q
def n7:((zeo "outcome")==(zeo "number"))=false:=by decide+kernel
def n8:((zeo "outcome")==(zeo "bits"))=false:=by decide+kernel
def C6{i CE a:m9}{H:Hp}{w:W}{Q:VK}(h:Zj i CE H a w)(ok:YO w)(q:∀H',qj H H'->Q (.str (ZQ w)) H'):
  ∃j d fs,V.ref a=.ref j/\fs.lookup (zeo "outcome")=r4/\((H j=tH (.ins i d fs)/\Na i CE [V.ref a] H Q E0)\/(H j=tH (.ins CE d fs)/\Nb i CE [V.ref a] H Q E0)):=by
 cases w with
 | num n=>let{d,e}:=id h;calc{a,d,_,s0,DF n7,.inl ({e,a,n,s0,h,q H λ_ _ z=>z})}
 | edl b=>let{d,e}:=id h;calc{a,d,_,s0,DF n8,.inr ({e,a,b,s0,h,ok,q})}
def U9{X:Cx}(h:WF X.K X.mg)(B:Qd X.mg)(hr:jK 2 X.A)(l:JE X o m)(p:eval (.Call (.Attribute o "outcome" b_) [] [] pos) X.env=(eval o X.env >>= λd=>standAt b_.atName >>= λ_=>holding [d] (getMethod d "outcome" v) >>= λr=>callWith pos r.1 r.2 (backTo pos (starEach [] X.env)) (backToKw pos (keywordEach [] X.env))):=by rfl):
  JE X (.Call (.Attribute o "outcome" b_) [] [] pos) (λj H Q=>m j H λx b=>∃a u,x=.ref a/\Zj h.CN h.CE b a u/\YO u/\∀H',qj b H'->Q (.str (ZQ u)) H'):=
 X6 (Xe (uX l) h.cN.cl h.nO.me h.gNO (hr.mono {}) h.nO.bi h.cE.cl h.eO.me (h.gEO B) hr h.eO.bi p) λj H Q q=>{_,q,λx b ⟨a,u,e,i,k,b⟩=>by subst e;calc C6 i k b}
abbrev zX:o0:=top 26
abbrev Wy:o0:=top 30
abbrev LU:o0:=top 54
abbrev CH:o0:=top 67
abbrev Sz:o0:=top 70
abbrev uk:o0:=top 71
structure Jl(H:Hp)(h:m9)(rs:qY)(hs:List Str):Prop where
 at_:H h=tH (.lst (hs.map V.str))
 le:hs.length<=8
 in_:∀z∈hs,∃r∈rs,r.1=z
def Jl.mono(x:Jl H h rs a)(s:qj H H'):Jl H' h rs a:={s _ _ x.at_,x.le,x.in_}
inductive vX(CG:m9)(vs:List V)(H:Hp)(Q:VK):Prop
 | mk (g:m9) (rs:qY) (z:Str):vs=[.ref g,.str z]->qZ CG H g rs->((∃r∈rs,r.1=z))->(∀H',qj H H'->Q .non H')->vX CG vs H Q
def B3(a:m9):Sp:=λb H Q _=>vX a b H Q
inductive ka(CG:m9)(vs:List V)(H:Hp)(Q:VK):Prop
 | mk (g h:m9) (rs:qY) (hs:List Str):vs=[.ref g,.ref h]->qZ CG H g rs->Jl H h rs hs->(∀H',qj H H'->Q .non H')->ka CG vs H Q
def B7(a:m9):Sp:=λb H Q _=>ka a b H Q
def TK(H H':Hp):Prop:=∀a b,H a=tH (.tup b)->H' a=tH (.tup b)
def TK.of(s:qj H H'):TK H H':=λa _ h=>s _ _ h
def TK.upd{H:Hp}(hd:H d=tH o)(no:∀xs,o≠.tup xs):TK H (upd H d u):=λa xs h=>by
 rw[qf (λe=>by rw[e,hd]at h;calc no xs (tH.inj h))];calc h
def QG(rs:qY)(z:Str):List Str:=match rs.find? (λr=>decide (r.1=z)) with
 | some r=>r.2
 | none=>[]
def WW{rs:qY}(a:(rs.map (·.1)).Nodup)(h:r∈rs):QG rs r.1=r.2:=by
 unfold QG;rw[W8 a h]
def ju(g:qe rs)(hz:z∈rs.map (·.1)):y∈QG rs z↔y∈js rs z:=by
 let{r,hr,rfl}:=tc.mp hz;rw[WW g.nd hr,vf g hr]
def Lc(g:qe rs)(L:Zw (js rs) (·∈rs.map (·.1)) num e_):Zw (QG rs) (·∈rs.map (·.1)) num e_ where
 cl:=λ{x y} a b=>L.cl a ((ju g a).mp b)
 n1:=λ{x n m} a e lt=>let ⟨y,b,k⟩:=L.n1 a e lt;({y,(ju g a).mpr b,k})
 n2:=λ{x y n} a e b=>L.n2 a e ((ju g a).mp b)
 n3:=λ{x y n} a e b gt=>let ⟨z,d,k⟩:=L.n3 a e ((ju g a).mp b) gt;({z,(ju g (L.cl a ((ju g a).mp b))).mpr d,k})
 n4:=λ{x y n m} a e b=>L.n4 a e ((ju g a).mp b)
 e:=λ{x m} a e lo i=>by
  let{y,b,j,l}:=L.e a e (λo p=>let ⟨y,b,k⟩:=lo o p;({y,(ju g a).mp b,k})) (λy b=>i y ((ju g a).mpr b));calc{y,(ju g a).mpr b,j,λz d=>l z ((ju g (L.cl a b)).mp d)}
abbrev IK:List Str:=["ground","thing"]
def Tr:ql IK IK (qg zX):=j3
def WL(F:jJ K "need_place" "need_place" zX f a)(G:jp mg)(M:GM K mg b):qu P w K mg base jh 2 f a IK (B3 b):=by
 let{_,_,a}:=M.cls;let{_,_,b}:=M.nm;calc F.okK Tr λH Q E hr h=>?_;intro X;let{g,d,z,rfl,i,j,q}:=h;calc{_,qc (qG (qp Qm (jv 1) (Jg b a.cl (pin P w mg base (j7 b.fn a G)) hr (jv 0)) (by with_unfolding_all rfl)) qS qt),?_};let{a,fs,b,l,_}:=i.ins;calc{a,fs,b,l,g,d,s0,i,λa b=>{a,_,s0,.inl (.of qa),s0,jQ _,_,s0,?_}};show if (!Jz (.str z) ((d.map (·.1)).map V.str))=true then _ else _
 rw[vd (by let{r,a,rfl}:=j;calc tc.mpr ({r,a,s0}))];calc jx (q _ (qd b))
abbrev nNH:List Str:=["ground","heap","thing"]
def Tw:ql nNH ["ground","heap"] (qg Wy):=j3
def kX(F:jJ K "need_heap" "need_heap" Wy f a)(B:Qd mg)(G:jp mg)(T:jD K mg)(M:GM K mg d)(b:qK K mg "need_place" zX IK j l)(mt:∃t,mg "MOST_TOKENS"=tH (.int 8 t)):qu P w K mg base jh 3 f a ["ground","heap"] (B7 d):=by
 let{tk,j}:=mt;calc F.okK Tw λH Q E hr h=>?_;intro X;let{g,d,l,_,rfl,m,a,q}:=h;refine⟨_,qb (qG (jX (jj (qr jM {} T.isi boot_isinstance (jV (jv 1) (QM (v:=.ty "list") {} G.lst boot_list rfl))))) qS qt)
  (qb (qG (qp JU (qr qy {} B.len boot_len (qI (jv 1))) (Qz (v:=.int 8) {} j ({_,s0}))) qS qt)
  (qc (je (qv (jv 1)) (qC 2) (qc (q5 (qw b (pin P w mg base (WL b.fn G M)) (jV (jv 0) (jv 2)))))))),?_⟩
 refine{_,_,_,_,s0,s0,.lst a.at_,T.kll,_,s0,jx ({d,_,s0,.inl (.of a.at_),_,_,s0,s0,_,s0,qU (decide_eq_false ?_) ?_})}
 ·let:=a.le;rw[ta];omega
 refine{{_,.of a.at_},jz (λi b G=>∃v,b=[tH (.ref g),tH (.ref d),v]/\qj H G) ({_,s0,qj.refl H}) (λi b G _ ⟨_,_,s⟩=>.of (s _ _ a.at_)) ?_ ?_}
 ·rintro i y b G j ⟨v,rfl,d⟩;let{z,_,o,rfl}:=jA j;exact{g,l,z,s0,m.mono d,a.in_ z o,λ_ a=>{_,s0,d.trans a}}
 ·rintro b G ⟨v,rfl,d⟩;calc q G d
def wT(rs:qY)(R:Rs Str)(z:Str):W:=match qO R z with
 | some n=>.num n
 | none=>.edl (setN (Yd rs (qO R) z))
def Jn(e:qO R z=tH n):wT rs R z=.num n:=by unfold wT;rw[e]
def Q9(e:qO R z=r4):wT rs R z=.edl (setN (Yd rs (qO R) z)):=by unfold wT;rw[e]
def Yg(good:qe rs)(L:Zw (js rs) (·∈rs.map (·.1)) (qO R) (zc R))(hz:z∈rs.map (·.1)):YO (wT rs R z):=by
 cases e:qO R z with
 | some n=>
  rw[Jn e];let:=z6 good L hz e;show n < 16;omega
 | none=>
  rw[Q9 e];show setN _ < 65536;calc uf (m:=16) λx a=>?_;let{y,b,d}:=Qe.mp a;let:=z6 good L (L.cl hz b) d;omega
def Xs(ns:List Nat):jW ns=Qw ns:=by
 induction ns with
 | nil=>rfl
 | cons n ns a=>rw[QC,a,zz]
def V5:∀a:List Str,Zd (a.map (wT rs R))=QB (qO R) a
 | []=>rfl
 | z::a=>by
  unfold Zd QB;rw[tR,t8,t8];let b:=V5 (rs:=rs) (R:=R) a;unfold Zd QB at b;cases e:qO R z with
  | some n=>rw[Jn e,b]
  | none=>rw[Q9 e,b]
def YW:∀a:List Str,(JD (a.map (wT rs R))).length=ends (qO R) a
 | []=>rfl
 | z::a=>by
  unfold JD ends;rw[tR,t8,zbn];let b:=YW (rs:=rs) (R:=R) a;unfold JD ends at b;cases e:qO R z with
  | some n=>rwa [Jn e]
  | none=>rw[Q9 e];show _+1=_+1;rw[b]
def KF(ex:qO R x=r4)(b:ends (qO R) (p++q)=0):JD ((p++x::q).map (wT rs R))=[setN (Yd rs (qO R) x)]:=by
 let a:JD ((p++q).map (wT rs R))=[]:=zaN (by rw[YW];calc b);unfold JD at a ⊢;rw[tj,zaz,List.append_eq_nil_iff]at a;rw[tj,tR,zaz,t8,Q9 ex,a.1,a.2];rfl
def xq(good:qe rs)(L:Zw (js rs) (·∈rs.map (·.1)) (qO R) (zc R)){i:List Str}(u:∀z∈i,z∈rs.map (·.1)):
  (JK (mv (QG rs)) i/\ZQ (Qk (i.map (wT rs R)))="lost")\/(Won (mv (QG rs)) i/\ZQ (Qk (i.map (wT rs R)))="won")\/(¬JK (mv (QG rs)) i/\¬Won (mv (QG rs)) i/\ZQ (Qk (i.map (wT rs R)))="drawn"):=by
 let j:=Lc good L;let o:=YW (rs:=rs) (R:=R) i;let B:jW (Zd (i.map (wT rs R)))=Qw (QB (qO R) i):=by rw[V5,Xs]
 rw[zm j u,BB j u];rcases zaS (ends (qO R) i) 1 with c | c | c
 ·let l:ends (qO R) i=0:={}
  rw[l]at o;let p:Qk (i.map (wT rs R))=.num (Qw (QB (qO R) i)):=by unfold Qk;rw[zaN o,<-B]
  let C:¬Drawn (QG rs) (qO R) i:=by
   rintro(⟨j,x,q,rfl,ex,_⟩ | h)
   ·rw[Qv ex]at l;omega
   ·omega
  rw[p];by_cases v:Qw (QB (qO R) i)=0
  ·exact .inl ({{l,v},if_pos v})
  ·exact .inr (.inl ({{C,λz=>v z.2},if_neg v}))
 ·let{j,x,q,rfl,ex}:=zw.mp (by omega:0 < ends (qO R) i);rw[Qv ex]at c;let l:ends (qO R) (j++q)=0:={}
  let C:=u x {};let lt:Qw (QB (qO R) (j++x::q)) < 16:=by
   rw[<-Xs];calc YP λn v=>?_;let{z,D,H}:=zaf.mp v;let:=z6 good L (u z D) H;omega
  let p:Qk ((j++x::q).map (wT rs R))=.edl (turnN (setN (Yd rs (qO R) x)) (Qw (QB (qO R) (j++x::q))) 16):=by
   unfold Qk;rw[KF ex l,<-B]
  let B:¬Xp (qO R) (j++x::q):=λz=>by have:=z.1;rw[Qv ex]at this;omega
  let D:(turnN (setN (Yd rs (qO R) x)) (Qw (QB (qO R) (j++x::q))) 16).testBit 0=decide (Qw (QB (qO R) (j++q))∈Yd rs (qO R) x):=by
   rw[QK lt,zbU,testBit_setN,WO ex];simp
  rw[p];by_cases m:Qw (QB (qO R) (j++q))∈Yd rs (qO R) x
  ·refine .inr (.inl ({{?_,B},?_}))
   ·let{y,v,u}:=Qe.mp m;exact λd=>Vc d ((j6 _).mpr ({j,x,y,q,s0,(ju good C).mpr v,s0})) ({by rw[j9 u];exact l,by rw[QX u,zaT]})
   ·show (if _ then _ else _)=_;rw[D,if_pos (decide_eq_true m)]
  ·let d:Drawn (QG rs) (qO R) (j++x::q):=.inl ({j,x,q,s0,ex,l,λy v u=>m (Qe.mpr ({y,(ju good C).mp v,u}))});calc .inr (.inr ({B,λh=>h.1 d,?_}));show (if _ then _ else _)=_;rw[D,decide_eq_false m];rfl
 ·let d:Drawn (QG rs) (qO R) i:=.inr {};let p:Qk (i.map (wT rs R))=.edl 0:=by
   unfold Qk;cases e:JD (i.map (wT rs R)) with
   | nil=>rw[e]at o;simp at o;omega
   | cons a t=>
    cases t with
    | nil=>rw[e]at o;simp at o;omega
    | cons b t=>rfl
  rw[p];calc .inr (.inr ({λz=>by have:=z.1;omega,λh=>h.1 d,s0}))
inductive Fc(CN CE:m9)(vs:List V)(H:Hp)(Q:VK):Prop
 | mk (t:m9) (rs:qY) (R:Rs Str) (z:Str):vs=[.ref t]->H t=tH (.tup (Zt rs R z))->(YO (wT rs R z))->(∀a H',qj H H'->Zj CN CE H' a (wT rs R z)->Q (.ref a) H')->Fc CN CE vs H Q
def S9(a CE:m9):Sp:=λb H Q _=>Fc a CE b H Q
inductive RY(CN CE:m9)(vs:List V)(H:Hp)(Q:VK):Prop
 | mk (D h:m9) (rs:qY) (R:Rs Str) (hs:List Str):vs=[.ref D,.ref h]->Jk H D rs R->Jl H h rs hs->((∀z∈hs,YO (wT rs R z)))->(∀a H',qj H H'->Zj CN CE H' a (Qk (hs.map (wT rs R)))->Q (.ref a) H')->RY CN CE vs H Q
def On(a CE:m9):Sp:=λb H Q _=>RY a CE b H Q
inductive Fi(CG CN CE:m9)(vs:List V)(H:Hp)(Q:VK):Prop
 | mk (g h:m9) (rs:qY) (hs:List Str):vs=[.ref g,.ref h]->qZ CG H g rs->qe rs->(rs.length<=14)->Jl H h rs hs->(∀a H' R,qj H H'->All (js rs) (rs.map (·.1)) 0 [] R->Zj CN CE H' a (Qk (hs.map (wT rs R)))->Q (.ref a) H')->Fi CG CN CE vs H Q
def Tb(a b CE:m9):Sp:=λd H Q _=>Fi a b CE d H Q
def TC:ql ["label"] ["label"] (qg LU):=j3
def MM(F:jJ K "label_worth" "label_worth" LU f a)(h:WF K mg)(B:Qd mg)(T:Wk K mg):qu P w K mg base jh 5 f a ["label"] (S9 h.CN h.CE):=by
 calc F.okK TC λH Q E hr z=>?_;intro X;let{t,b,R,z,rfl,a,ok,q}:=z;refine⟨_,qb (qG (qp jU (qF qD (jv 0) qh) qH) (qc (qm (QL h.cN.mkr (h.gNI B T) hr {} h.cN.ns h.cN.bi .nil QP (qI (qF qD (jv 0) qh))))) qt)
  (qc (qm (QL h.cE.mkr (h.gEI B T) hr {} h.cE.ns h.cE.bi .nil QP (qI (qF qD (jv 0) qh))))),?_⟩
 cases e:qO R z with
 | some n=>
  rw[Jn e]at ok q;let d:Zt b R z=[.str "number",.int (n:Nat),.int (zc R z:Nat)]:=by unfold Zt;rw[e]
  rw[d]at a;refine{_,_,.of a,s0,s0,_,s0,jI (by decide+kernel) ({_,_,.of a,s0,λx i j hd l=>{x,i,_,s0,{},?_,qa,s0,?_}})}
  ·let:n < 16:=ok;omega
  ·let{m,o}:=UU j hd l;calc q _ _ m o
 | none=>
  rw[Q9 e]at ok q;let d:Zt b R z=[.str "endless",.int (setN (Yd b (qO R) z):Nat)]:=by unfold Zt;rw[e]
  rw[d]at a;refine{_,_,.of a,s0,s0,_,s0,qU (by decide+kernel) ({_,_,.of a,s0,λx i j hd l=>{x,i,_,s0,{},?_,qa,s0,?_}})}
  ·let:setN (Yd b (qO R) z) < 65536:=ok;omega
  ·let{m,o}:=UV j hd l;calc q _ _ m o
def OH:ql ["labels","heap"] ["labels","heap"] (qg CH):=j3
def Ms(F:jJ K "worth_by" "worth_by" CH f j)(h:WF K mg)(B:Qd mg)(T:Wk K mg)(d:qK K mg "label_worth" LU ["label"] m o)(l:qK K mg "sum_of" Wr ["worths"] p v):qu P w K mg base jh 8 f j ["labels","heap"] (On h.CN h.CE):=by
 calc F.okK OH λH Q E hr z=>?_;intro X;let{D,_,j,R,J,rfl,C,m,ok,q}:=z;let hu:=hu_of hr;exists _,qc (qm (qw l (pin P w mg base (Mv l.fn h B T)) (qI (jL (N':=["place","labels"]) (ix:=[r4,tH 0]) (qv (jv 1)) (λ_ _ _ fp _=>
   {qC 0,qP,qw d (pin P w mg base (MM d.fn h B T)) (qI (qE (jv 1) (jv 0)))})))))
 refine⟨{_,.of m.at_},λW L=>qR (λl o G=>∃(v0:Option V) (as:List m9),o=[v0,tH (.ref D)]/\qj H G/\G W=tH (.lst (as.map V.ref))/\Wl h.CN h.CE G as ((J.take l).map (wT j R)))
  ({r4,[],s0,qd L,qa,s0,λi a u e=>(nomatch e)}) (λl o G _ ⟨_,_,_,s,_⟩=>.of (s _ _ m.at_)) ?_ ?_⟩
 ·rintro l y o G O ⟨v0,as,rfl,p,v,d⟩;let{z,U,x,rfl}:=jA O;let{kvs,Y,_,hv}:=(C.mono p).at_;let{r,aa,er}:=m.in_ z x;let{t,C,O}:=hv r aa;rw[er]at C O;calc{_,by rw[<-C];calc jk.k (k:=(Sum.inr z:qJ)) Y,t,j,R,z,s0,O,ok z x,λa O C Y=>?_};let l8:=m.le;let m:=d.1;rw[ta,tG]at m;let m:=L;exists _,C _ _ v,by rw[ta];calc qi {},_,as++[a],s0,qj.upd (p.trans C) L,tj▸qa;let up:∀{b:m9} {u:Rb.W},Zj h.CN h.CE O b u->Zj h.CN h.CE (upd O W (.lst (as.map V.ref++[V.ref a]))) b u:=λ{b u} L=>by
   let O:=C _ _ v;cases u with
   | num n=>let{m,e}:=L;calc{m,by rwa [qf (λq=>by rw[q,O]at e;cases e)]}
   | edl n=>let{m,e}:=L;exact{m,by rwa [qf (λq=>by rw[q,O]at e;cases e)]}
  rw[tE,U,tj];calc{by rw[tz,tz,d.1];rfl,λi b u L m=>?_};rcases JY L with ⟨O,L⟩ | ⟨O,rfl⟩
  ·rcases JY (show (zem (wT j R) (J.take l)++[wT j R z])[i]?=tH u from m) with ⟨_,m⟩ | ⟨O,_⟩
   ·exact up ((d.2 i b u L m).same C)
   ·let:=d.1;omega
  ·rcases JY (show (zem (wT j R) (J.take l)++[wT j R z])[i]?=tH u from m) with ⟨O,_⟩ | ⟨_,rfl⟩
   ·let:=d.1;omega
   ·exact up Y
 ·rintro o G ⟨v0,as,rfl,p,v,d⟩;rw[ta,tu (ti _)]at d;calc{W,as,_,s0,.of v,d,λu hu=>?_,λd r j l=>q r d (p.trans j) l};let{z,x,rfl}:=tc.mp hu;exact ok z x
structure XM(K:zen)(mg:Str->Option n9):Prop where
 place:∃f fd,qK K mg "need_place" zX IK f fd
 heap:∃f fd,qK K mg "need_heap" Wy ["ground","heap"] f fd
 lw:∃f fd,qK K mg "label_worth" LU ["label"] f fd
 sum:∃f fd,qK K mg "sum_of" Wr ["worths"] f fd
 wby:∃f fd,qK K mg "worth_by" CH ["labels","heap"] f fd
 hw:∃f fd,qK K mg "heap_worth" Sz ["ground","heap"] f fd
 outc:∃f fd,qK K mg "outcome" uk ["ground","heap"] f fd
 most:∃t,mg "MOST_TOKENS"=tH (.int 8 t)
def TL:ql ["ground","heap"] ["ground","heap"] (qg Sz):=j3
def FT(F:jJ K "heap_worth" "heap_worth" Sz f b)(h:WF K mg)(B:Qd mg)(Z:Wk K mg)(G:jp mg)(T:jD K mg)(M:GM K mg d)(Y:Yb K mg)(O:XM K mg):qu P w K mg base jh 9 f b ["ground","heap"] (Tb d h.CN h.CE):=by
 let{_,_,u}:=O.place;let{_,_,i}:=O.heap;let{_,_,v}:=O.lw;let{_,_,x}:=O.sum;let{_,_,j}:=O.wby;let{_,_,l}:=Y.labels;calc F.okK TL λH Q E hr z=>?_;intro X;let{g,m,b,o,rfl,p,good,le,d,q}:=z;exists _,qb (q5 (qw i (pin P w mg base (kX i.fn B G T M u O.most)) (jV (jv 0) (jv 1))))
  (qc (qm (qw j (pin P w mg base (Ms j.fn h B Z v x)) (jV (qw l (pin P w mg base (J9 l.fn B G T M Y)) (qI (jv 0))) (jv 1)))))
 calc{g,m,b,o,s0,p,d,λ_ i=>{g,b,s0,p.mono i,good,le,λ_ D R j _ l all=>{D,m,b,R,o,s0,l,(d.mono i).mono j,λz b=>?_,λa l m o=>q a l R (i.trans (j.trans m)) all o}}};let{r,i,e}:=d.in_ z b;calc Yg good (Xb (jb good.nd) all) (tc.mpr ({r,i,e}))
def HI:ql ["ground","heap"] ["ground","heap"] (qg uk):=j3
abbrev Yl:o0:=top 31
abbrev uo:o0:=top 32
abbrev CK:o0:=top 68
abbrev ul:o0:=top 69
abbrev CL:o0:=top 72
def SD(rs:qY)(j:Nat)(z:Str):List (Nat×Str):=(js rs z).map λe=>(j,e)
def mvs(rs:qY)(b:List Str)(n:Nat):List (Nat×Str):=(zae n).flatMap λa=>SD rs a (XP b a)
def yd(rs:qY)(a:List Str)(n:Nat):mvs rs a (n+1)=mvs rs a n++SD rs n (XP a n):=by
 unfold mvs;rw[zcJ,zdQ];simp
def IO(m:Nat×Str):List V:=[.int (m.1:Int),.str m.2]
def Zv(H:Hp)(ps:List m9)(a:List (Nat×Str)):Prop:=ps.length=a.length/\∀(i:Nat) (b:m9) (m:Nat×Str),ps[i]?=tH b->a[i]?=tH m->H b=tH (.tup (IO m))
def Zv.mono(h:Zv H ps a)(s:qj H H'):Zv H' ps a:={h.1,λi a m b d=>s _ _ (h.2 i a m b d)}
def Zv.nil(H:Hp):Zv H [] []:={s0,λi _ m e=>by simp at e}
def Zv.app(h:Zv H ps a)(k:Zv H b ns):Zv H (ps++b) (a++ns):=by
 calc{by rw[tz,tz,h.1,k.1],λi j m a b=>?_};by_cases d:i < ps.length
 ·rw[tZ d]at a;rw[tZ (h.1▸d)]at b;exact h.2 i j m a b
 ·let l:=Nat.le_of_not_lt d;rw[tY l]at a;rw[tY (h.1▸l),<-h.1]at b;calc k.2 _ j m a b
def Zv.one{H:Hp}(h:H p=tH (.tup (IO m))):Zv H [p] [m]:=by
 calc{s0,λi _ _ a b=>?_};cases i with
 | zero=>cases a;cases b;calc h
 | succ i=>simp at a
def X4{a:List Str}(g:qe rs)(le:rs.length<=14)(b:∀z∈a,∃r∈rs,r.1=z):∀n,n<=a.length->(mvs rs a n).length<=n*14
 | 0,_=>ti _
 | n+1,h=>by
  rw[yd,tz];let d:=X4 g le b n (zab h);let{r,hr,e}:=b _ (XO h);let b:=Wb (rs:=rs) (XP a n);unfold SD;rw[ta];omega
inductive kb(CG:m9)(vs:List V)(H:Hp)(Q:VK):Prop
 | mk (g h:m9) (rs:qY) (hs:List Str):vs=[.ref g,.ref h]->qZ CG H g rs->qe rs->(rs.length<=14)->Jl H h rs hs->(∀H' l ps,qj H H'->H l=r4->H' l=tH (.lst (ps.map V.ref))->Zv H' ps (mvs rs hs hs.length)->Q (.ref l) H')->kb CG vs H Q
def B8(a:m9):Sp:=λb H Q _=>kb a b H Q
def UX(h:m∈mvs rs a n):m.1 < n/\m.2∈js rs (XP a m.1):=by
 unfold mvs at h;let{_,a,b}:=zdo.mp h;let{e,d,rfl}:=tc.mp b;calc{zaD.mp a,d}
inductive wW(vs:List V)(H:Hp)(Q:VK):Prop
 | mk (h p:m9) (hs:List Str) (m:Nat×Str):vs=[.ref h,.ref p]->H h=tH (.lst (hs.map V.str))->H p=tH (.tup (IO m))->(m.1 < hs.length)->(∀l,H l=r4->Q (.ref l) (upd H l (.lst ((hs.set m.1 m.2).map V.str))))->wW vs H Q
def Hy:Sp:=λa H Q _=>wW a H Q
def atI_get{xs:List V}{r:Int}(a:0<=r)(b:r < (xs.length:Int)):∃v,Ke xs r=tH v/\xs[r.toNat]?=tH v:=by
 let:r.toNat < xs.length:={}
 calc{xs[r.toNat],?_,tv this};unfold Ke Ec;rw[if_pos a,if_pos b];calc tv this
def QU.fr'(h:QU H l ps rs)(hd:H d=tH (.dK j))(s:Fr H d H'):QU H' l ps rs:=by
 refine{s _ _ h.at_ (λe=>?_),{h.rows.1,λi j r m o=>?_},h.good,h.pos,h.le}
 ·let:=h.at_;rw[e,hd]at this;cases this
 ·let{q,a,b}:=h.rows.2 i j r m o;calc{q,s _ _ a (nq hd a),s _ _ b (nq hd b)}
abbrev nMo:List Str:=["ground","heap","moves","token","place"]
def Ty:ql nMo ["ground","heap"] (qg Yl):=j3
def ML(F:jJ K "moves_of" "moves_of" Yl f d)(B:Qd mg)(G:jp mg)(T:jD K mg)(M:GM K mg j)(L:qK K mg "need_place" zX IK o p)(mt:∃t,mg "MOST_TOKENS"=tH (.int 8 t))(l:qK K mg "need_heap" Wy ["ground","heap"] v C):qu P w K mg base jh 4 f d ["ground","heap"] (B8 j):=by
 let{_,_,d}:=M.cls;let{_,_,o}:=M.fr;let{_,_,O}:=M.isn;calc F.okK Ty @λ_ A _ s _ _ H Q E hr h=>?_;let{g,p,j,v,rfl,C,gd,le,J,q}:=h;refine⟨_,qb (q5 (qw l (pin P w mg base (kX l.fn B G T M L mt)) (jV (jv 0) (jv 1))))
  (qb (qB 2 (QH Qi))
  (qb (je (ZX {} T.enu (qI (jv 1))) (Jf rfl (qM (qC 3) (qM (qC 4) Qp)))
   (qc (q5 (Jh zar zbs zbt ZE (jv 2) (jO
    (jL (N':=["end","token"]) (ix:=[r4,tH 3]) (qv (ZJ o d.cl (pin P w mg base (QE o.fn d B G T O)) (hr.mono {}) (jv 0) (qI (jv 4)))) (λd o U fp _=>
     {qC 0,qP,jH (jV (jv 1) (jv 0))})) Qi)))))
  (qc (qm (jv 2))))),?_⟩
 calc{g,p,j,v,s0,C,J,λl O=>{J7,λd L=>?_}};let ah:H d=r4:=by
  cases z:H d with
  | none=>rfl
  | some u=>rw[O _ _ z]at L;cases L
 let o:qj H (upd l d (.lst [])):=O.trans (qd L);let L:upd l d (.lst []) d=tH (.lst []):=qa;generalize upd l d (.lst [])=U at o L;refine⟨p,s0,{_,.of (o _ _ J.at_)},Zg (λi U G=>∃v3 v4 l,U=[tH (.ref g),tH (.ref p),tH (.ref d),v3,v4]/\qj H G/\G d=tH (.lst (l.map V.ref))/\Zv G l (mvs j v i))
  ({_,_,[],s0,o,L,Zv.nil _}) (λi U G _ ⟨_,_,_,_,s,_⟩=>.of (s _ _ J.at_)) ?_ ?_⟩
 ·rintro i y U G p hy L ⟨v3,v4,l,rfl,sG,ac,mv⟩;let{z,o,O,rfl}:=jA hy;let hi:=(tf.mp o).1;let ak:XP v i=z:=by
   let:=Ye hi;rw[o]at this;exact(tH.inj this).symm
  exists p,_,s0,.of qa,s0,rfl;let o:qj G (upd G p (.tup [.int (i:Nat),.str z])):=qd L;let Y:=sG.trans o;let ae:=o _ _ ac;let ai:=mv.mono o;generalize upd G p (.tup [.int (i:Nat),.str z])=p at o Y ae ai;let{r,af,er}:=J.in_ z O;let{o,fs,v,_,L}:=(C.mono Y).ins;calc{.inl ({s0,_,.of ae}),o,fs,v,L,g,j,r,by rw[er];rfl,C.mono Y,af,gd.nm r af,λG2 e o v=>?_};let sE:qj p (upd G2 e (.lst ((qz j r).map V.str))):=o.trans (qd v);let p:upd G2 e (.lst ((qz j r).map V.str)) e=tH (.lst ((qz j r).map V.str)):=qa;generalize upd G2 e (.lst ((qz j r).map V.str))=C at sE p;refine⟨{_,.of p},λD hD=>qR (λaa ab o=>∃v0 v,ab=[v0,tH (.int (i:Nat))]/\qj C o/\o D=tH (.lst (v.map V.ref))/\Zv o v (((qz j r).take aa).map λy=>(i,y)))
   ({r4,[],s0,qd hD,qa,Zv.nil _}) (λaa ab o _ ⟨_,_,_,s,_⟩=>.of (s _ _ p)) ?_ ?_⟩
  ·rintro aa y ab o hy ⟨v0,v,rfl,L,O,C⟩;let{x,ex,_,rfl}:=jA hy;let p:=(tf.mp ex).1;refine{J7,λt ht=>{_,qk O ht,?_,_,v++[t],s0,?_,?_,?_}}
   ·rw[ta,C.1,ta,tG];let:=Jb (rs:=j) r;exact qi {}
   ·exact qj.upd (L.trans (qd ht)) hD
   ·rw[qa,tj];rfl
   ·let nt:t≠D:=nq O ht;let e1:Zv (upd (upd o t (.tup [.int (i:Nat),.str x])) D (.lst (v.map V.ref++[.ref t]))) v (((qz j r).take aa).map λy=>(i,y)):=⟨C.1,λk p m a b=>by
     let z:=C.2 k p m a b;rw[qf (λe=>by rw[e,O]at z;cases z)];calc qk z ht⟩
    rw[tE,ex,tj];exact e1.app (Zv.one ((qf nt)▸qa))
  ·rintro ab o ⟨v0,v,rfl,L,O,C⟩;rw[ta,tu (ti _)]at C;let aj:=L _ _ (sE _ _ ae);let ag:=(ai.mono sE).mono L;let ml:=X4 gd le J.in_ i (zab hi);let l8:=J.le;let J:=Jb (rs:=j) r;exists d,D,_,_,s0,s0,aj,O,?_
   ·rw[ta,ta,ag.1,C.1,ta];exact zab (qi {})
   ·calc{_,_,l++v,s0,qj.upd ((Y.trans sE).trans L) ah,by rw[qa,tj],?_};rw[yd,ak,SD,<-er,jC gd.nd af];let ne:∀{p:m9} {m:Nat×Str},o p=tH (.tup (IO m))->p≠d:=λh e=>by rw[e,aj]at h;cases h
    let up:∀{l:List m9} {j:List (Nat×Str)},Zv o l j->Zv (upd o d (.lst (zem V.ref l++zem V.ref v))) l j:=λh=>⟨h.1,λk p m a b=>by
     let z:=h.2 k p m a b;rwa [qf (ne z)]⟩
    refine Zv.app ?_ ?_
    ·exact⟨ag.1,λk p m a b=>by
      let z:=ag.2 k p m a b;rwa [qf (ne z)]⟩
    ·exact⟨C.1,λk p m a b=>by
      let z:=C.2 k p m a b;rwa [qf (ne z)]⟩
 ·rintro U G ⟨v3,v4,l,rfl,sG,ac,mv⟩;rw[ta]at mv;calc(q G d l sG ah ac mv)
abbrev nLy:List Str:=["heap","move","left"]
def Tz:ql nLy ["heap","move"] (qg uo):=j3
def Dn(F:jJ K "left_by" "left_by" uo f a)(G:jp mg):qu P w K mg base jh 1 f a ["heap","move"] Hy:=by
 calc F.okK Tz λH Q E hr h=>?_;intro X;let{a,_,b,m,rfl,i,d,_,q}:=h;refine⟨_,qb (qB 2 (jr Qs {} G.lst boot_list (qI (jv 0))))
  (qb (U6 (qF qD (jv 1) qh) (Lk (jv 2) (qF qD (jv 1) qh) Nv))
  (qc (qm (jv 2)))),?_⟩
 refine{a,_,s0,.inl (.of i),λi a=>{_,_,.of (qk d a),s0,_,_,.of (qk d a),s0,i,_,(m.1:Int),m.1,s0,s0,qa,?_,?_}}
 ·unfold Ec;rw[if_pos {},if_pos (by rw[ta];omega)];rfl
 ·let e:(b.map V.str).set m.1 (.str m.2)=(b.set m.1 m.2).map V.str:=by rw[List.map_set]
  rw[jF,e];calc q i a
def lf(a:List Str)(m:Nat×Str):List Str:=a.set m.1 m.2
def Xq(H:Hp)(ts:List m9)(os:List ((Nat×Str)×Str)):Prop:=ts.length=os.length/\∀(i:Nat) (t:m9) (a:(Nat×Str)×Str),ts[i]?=tH t->os[i]?=tH a->∃b,H t=tH (.tup [.ref b,.str a.2])/\H b=tH (.tup (IO a.1))
def Xq.tk{H H':Hp}{ts:List m9}{os:List ((Nat×Str)×Str)}(h:Xq H ts os)(k:TK H H'):Xq H' ts os:={h.1,λi t d j l=>let ⟨m,a,b⟩:=h.2 i t d j l;({m,k _ _ a,k _ _ b})}
def Xq.nil:Xq H [] []:={s0,λi t _ e=>(nomatch e)}
def Xq.snoc{H:Hp}{ts:List m9}{os:List ((Nat×Str)×Str)}{t p:m9}{o:(Nat×Str)×Str}(h:Xq H ts os)(d:H t=tH (.tup [.ref p,.str o.2]))(hp:H p=tH (.tup (IO o.1))):Xq H (ts++[t]) (os++[o]):=by
 calc{by rw[tz,tz,h.1];rfl,λi j l b a=>?_};rcases JY b with ⟨m,b⟩ | ⟨m,rfl⟩
 ·rcases JY a with ⟨_,a⟩ | ⟨m,_⟩
  ·exact h.2 i j l b a
  ·let:=h.1;omega
 ·rcases JY a with ⟨m,_⟩ | ⟨_,rfl⟩
  ·let:=h.1;omega
  ·calc{p,d,hp}
def F1(g:qe rs){a:List Str}(b:∀z∈a,∃r∈rs,r.1=z)(d:m∈mvs rs a a.length):∀z∈lf a m,∃r∈rs,r.1=z:=λz a=>by
 let{i,j}:=UX d;let{r,hr,e}:=b _ (XO i);unfold lf at a;rcases List.mem_or_eq_of_mem_set a with h | h
 ·exact b z h
 ·rw[h];calc tc.mp (jb g.nd _ (tc.mpr ({r,hr,e})) _ j)
def z4(rs:qY)(R:Rs Str)(a:List Str):List ((Nat×Str)×Str):=(mvs rs a a.length).map λm=>(m,ZQ (Qk ((lf a m).map (wT rs R))))
inductive Nd(vs:List V)(H:Hp)(Q:VK):Prop
 | mk (D h:m9) (rs:qY) (R:Rs Str) (hs:List Str):vs=[.ref D,.ref h]->Jk H D rs R->Jl H h rs hs->((∀z∈hs,YO (wT rs R z)))->(∀H',qj H H'->Q (.str (ZQ (Qk (hs.map (wT rs R))))) H')->Nd vs H Q
def Ow:Sp:=λa H Q _=>Nd a H Q
inductive wU(CG:m9)(vs:List V)(H:Hp)(Q:VK):Prop
 | mk (g D h:m9) (rs:qY) (R:Rs Str) (hs:List Str):vs=[.ref g,.ref D,.ref h]->qZ CG H g rs->qe rs->(rs.length<=14)->Jk H D rs R->(Zw (js rs) (·∈rs.map (·.1)) (qO R) (zc R))->Jl H h rs hs->(∀H' L ts,qj H H'->H L=r4->H' L=tH (.lst (ts.map V.ref))->Xq H' ts (z4 rs R hs)->Q (.ref L) H')->wU CG vs H Q
def Hw(a:m9):Sp:=λb H Q _=>wU a b H Q
inductive Nf(CG:m9)(vs:List V)(H:Hp)(Q:VK):Prop
 | mk (g h:m9) (rs:qY) (hs:List Str):vs=[.ref g,.ref h]->qZ CG H g rs->qe rs->(rs.length<=14)->Jl H h rs hs->(∀H' L ts R,qj H H'->H L=r4->All (js rs) (rs.map (·.1)) 0 [] R->H' L=tH (.lst (ts.map V.ref))->Xq H' ts (z4 rs R hs)->Q (.ref L) H')->Nf CG vs H Q
def Ox(a:m9):Sp:=λb H Q _=>Nf a b H Q
structure Bt(K:zen)(mg:Str->Option n9):Prop where
 mo:∃f fd,qK K mg "moves_of" Yl ["ground","heap"] f fd
 lb:∃f fd,qK K mg "left_by" uo ["heap","move"] f fd
 oby:∃f fd,qK K mg "outcome_by" CK ["labels","heap"] f fd
 osby:∃f fd,qK K mg "outcomes_by" ul ["ground","labels","heap"] f fd
 oaf:∃f fd,qK K mg "outcomes_after" CL ["ground","heap"] f fd
def ON:ql ["labels","heap"] ["labels","heap"] (qg CK):=j3
def IA(F:jJ K "outcome_by" "outcome_by" CK f b)(h:WF K mg)(B:Qd mg)(Z:Wk K mg)(O:XM K mg):qu P w K mg base jh 9 f b ["labels","heap"] Ow:=by
 let{_,_,d}:=O.lw;let{_,_,i}:=O.sum;let{_,_,b}:=O.wby;calc F.okK ON λH Q E hr z=>?_;intro X;let{D,j,l,R,m,rfl,o,p,ok,q}:=z;calc{_,qc (qm (U9 h B (hr.mono {}) (qw b (pin P w mg base (Ms b.fn h B Z d i)) (jV (jv 0) (jv 1))))),{D,j,l,R,m,s0,o,p,ok,λa _ b d=>{a,_,s0,d,yZ λu hu=>?_,λd i=>q d (b.trans i)}}};let{z,b,rfl}:=tc.mp hu;calc ok z b
def HJ:ql ["ground","labels","heap"] ["ground","labels","heap"] (qg ul):=j3
def Di(F:jJ K "outcomes_by" "outcomes_by" ul f b)(h:WF K mg)(B:Qd mg)(Z:Wk K mg)(G:jp mg)(T:jD K mg)(M:GM K mg d)(O:XM K mg)(a:Bt K mg):qu P w K mg base jh 10 f b ["ground","labels","heap"] (Hw d):=by
 let{_,_,o}:=O.place;let{_,_,p}:=O.heap;let{_,_,b}:=a.mo;let{_,_,i}:=a.lb;let{_,_,j}:=a.oby;calc F.okK HJ λH Q E hr z=>?_;intro X;let{g,D,x,d,R,a,rfl,u,good,le,lb,L,l,q}:=z;exists _,qc (qm (jL (N':=["move","labels","heap"]) (ix:=[r4,tH 1,tH 2])
   (qv (qw b (pin P w mg base (ML b.fn B G T M o O.most p)) (jV (jv 0) (jv 2)))) (λ_ _ _ fp _=>
   ⟨qC 0,qP,
    jH (jV (jv 0) (qw j (pin P w mg base (IA j.fn h B Z O)) (jV (jv 1) (qw i (pin P w mg base (Dn i.fn G)) (jV (jv 2) (jv 0))))))⟩)))
 calc{g,x,d,a,s0,u,good,le,l,λp _ ps C _ o mv=>{{_,.of o},λW J=>?_}};let l8:=l.le;let b:(mvs d a a.length).length<=112:=by
  let:=X4 good le l.in_ a.length (ti _);omega
 let ac:=mv.1;refine qR (λi u b=>∃(v0:Option V) (j:List m9),u=[v0,tH (.ref D),tH (.ref x)]/\qj p b/\b W=tH (.lst (j.map V.ref))/\Xq b j ((z4 d R a).take i))
  ({r4,[],s0,qd J,qa,.nil}) (λi u b _ ⟨_,_,_,s,_⟩=>.of (s _ _ o)) ?_ ?_
 ·rintro i y u b o ⟨v0,j,rfl,p,U,os⟩;rw[tA]at o;cases v:ps[i]? with
  | none=>rw[v]at o;cases o
  | some Y=>
   rw[v]at o;obtain rfl:=(tH.inj o).symm;let o:=(tf.mp v).1;let o:i < (mvs d a a.length).length:={}
   let em:=tv o;let aa:=zbo o;generalize (mvs d a a.length)[i]=m at em aa;let hp:=p _ _ (mv.2 i Y m v em);let sA:=C.trans p;calc{x,Y,a,m,s0,sA _ _ l.at_,hp,(UX aa).1,λo x=>?_};let v:qj b (upd b o (.lst ((a.set m.1 m.2).map V.str))):=qd x;let x:upd b o (.lst ((a.set m.1 m.2).map V.str)) o=tH (.lst ((lf a m).map V.str)):=qa;generalize upd b o (.lst ((a.set m.1 m.2).map V.str))=G2 at v x;let ab:=F1 good l.in_ aa;refine{D,o,d,R,lf a m,s0,(lb.mono sA).mono v,{x,by unfold lf;rw[List.length_set];calc l8,ab},λz l=>?_,λx s3=>?_}
   ·let{r,o,e}:=ab z l;exact Yg good L (tc.mpr ({r,o,e}))
   ·calc{J7,λt l=>?_};let o:=v.trans s3;let v:(z4 d R a)[i]?=tH (m,ZQ (Qk ((lf a m).map (wT d R)))):=by unfold z4;rw[tA,em];rfl
    let i:=os.1;rw[tG]at i;let i:upd x t (.tup [V.ref Y,.str (ZQ (Qk ((lf a m).map (wT d R))))]) W=tH (.lst (j.map V.ref)):=qk (o _ _ U) l;exists _,i,by rw[ta];calc qi {},_,j++[t],s0,qj.upd (p.trans (o.trans (qd l))) J,tj▸qa;rw[tE,v];exact((os.tk (.of (o.trans (qd l)))).snoc qa (qk (o _ _ hp) l)).tk (TK.upd i λ_=>{})
 ·rintro u b ⟨v0,j,rfl,p,U,os⟩;let i:(ps.map V.ref).length=(z4 d R a).length:=by unfold z4;rw[ta,ta,ac]
  rw[i,tu (ti _)]at os;calc q b W j (C.trans p) (jq C J) U os
def OO:ql ["ground","heap"] ["ground","heap"] (qg CL):=j3
def IB(F:jJ K "outcomes_after" "outcomes_after" CL f b)(h:WF K mg)(B:Qd mg)(Z:Wk K mg)(G:jp mg)(T:jD K mg)(M:GM K mg d)(Y:Yb K mg)(O:XM K mg)(a:Bt K mg):qu P w K mg base jh 11 f b ["ground","heap"] (Ox d):=by
 let{_,_,b}:=Y.labels;let{_,_,d}:=a.osby;calc F.okK OO λH Q E hr z=>?_;intro X;let{g,l,i,m,rfl,j,good,le,o,q}:=z;refine{_,qc (qm (qw d (pin P w mg base (Di d.fn h B Z G T M O a)) (Vo (jv 0) (qw b (pin P w mg base (J9 b.fn B G T M Y)) (qI (jv 0))) (jv 1)))),{g,i,s0,j,good,le,λ_ D R a _ b all=>{g,D,l,i,R,m,s0,j.mono a,good,le,b,Xb (jb good.nd) all,o.mono a,λb L d i j l os=>q b L d R (a.trans i) (jq a j) all l os}}}
def U2(g:qe rs)(hz:z∈rs.map (·.1))(a:y∈QG rs z):y∈rs.map (·.1):=jb g.nd _ hz _ ((ju g hz).mp a)
def kn(rs:qY)(f:Str->Option Nat)(z:Str):List Nat:=(QG rs z).filterMap f
def U4:n∈kn rs f z↔∃y∈QG rs z,f y=tH n:=zaf
def kr(h:∀x,x∈ns↔x∈a):Rb.setN ns=Rb.setN a:=zbu λk=>by rw[Rb.testBit_setN,Rb.testBit_setN,decide_eq_decide.mpr (h k)]
def tW:Rb.W->List V
 | .num n=>[.str "number",.int (n:Nat)]
 | .edl b=>[.str "endless",.int (b:Nat)]
def wF(rs:qY)(f:Str->Option Nat)(z:Str):Rb.W:=match f z with
 | some n=>.num n
 | none=>.edl (Rb.setN (kn rs f z))
structure Bw(H:Hp)(D:m9)(F:Str->Rb.W)(zs:List Str):Prop where
 at_:∃kvs:List (qJ×V),H D=tH (.dK kvs)/\kvs.map (·.1)=zs.map Sum.inr/\∀z∈zs,∃t,ja kvs (Sum.inr z:qJ)=tH (.ref t)/\H t=tH (.tup (tW (F z)))
def Bw.mono(h:Bw H D F zs)(s:qj H H'):Bw H' D F zs:={let ⟨kvs,a,b,c⟩:=h.at_;({kvs,s _ _ a,b,λz d=>let ⟨t,u,v⟩:=c z d;({t,u,s _ _ v})})}
def Bw.get(h:Bw H D F zs)(hz:z∈zs):∃t,jk H D (.str z) (tH (.ref t))/\H t=tH (.tup (tW (F z))):=by
 let{kvs,a,b,c}:=h.at_;let{t,u,v}:=c z hz;calc{t,?_,v};rw[<-u];calc jk.k (k:=(Sum.inr z:qJ)) a
def Bw.new(h:Bw H D F zs)(hz:z∉zs)(l:zs.length<=14)(p:H t=tH (.tup (tW (F z)))):∃o,Jv H D (.str z) (.ref t) (upd H D o)/\Bw (upd H D o) D F (zs++[z]):=by
 let{kvs,a,b,c}:=h.at_;let lk:kvs.length=zs.length:=by simpa using congrArg zat b
 let new:ja kvs (Sum.inr z:qJ)=r4:=QW (by
  rw[b];intro m;let{y,d,e}:=tc.mp m;cases e;calc hz d)
 let i:∀{b:m9} {x:List V},H b=tH (.tup x)->b≠D:=λj e=>by rw[e,a]at j;cases j
 refine{_,Jv.k (k:=(Sum.inr z:qJ)) a (qi {}),{_,qa,?_,λy d=>?_}}
 ·rw[QD _ new,tj,b,tj];rfl
 ·rcases tU.mp d with d | d
  ·let{j,u,v}:=c y d;calc{j,?_,by rwa [qf (i v)]};rwa [QV,if_neg (λq=>by cases q;calc hz d)]
  ·let:y=z:=by simpa using d
   subst this;calc{t,by rw[QV,if_pos rfl],by rwa [qf (i p)]}
def L0(g:qe rs)(L:Zw (QG rs) (·∈rs.map (·.1)) f e_)(all:All (js rs) (rs.map (·.1)) 0 [] R)(hz:z∈rs.map (·.1)):wF rs f z=wT rs R z:=by
 let eq:∀{y},y∈rs.map (·.1)->f y=qO R y:=λa=>Al L (Lc g (Xb (jb g.nd) all)) a;unfold wF wT;rw[eq hz];cases qO R z with
 | some n=>rfl
 | none=>
  show Rb.W.edl _=Rb.W.edl _;congr 1;calc kr λx=>?_;rw[U4,Qe];constructor
  ·rintro⟨y,a,e⟩;exact{y,(ju g hz).mp a,by rwa [<-eq (U2 g hz a)]}
  ·rintro⟨y,a,e⟩;let b:=(ju g hz).mpr a;exact{y,b,by rwa [eq (U2 g hz b)]}
def Xt(u:Rb.W):tW u=[.str (Qh u),.int (JM u:Nat)]:=by cases u<;>rfl
def Vw(F:Str->W)(fs:List (W×Str))(z:Str):List (W×Str):=if F z∈fs.map (·.1) then fs else fs++[(F z,z)]
def QO(F:Str->W)(zs:List Str):List (W×Str):=zs.foldl (Vw F) []
def GG(F:Str->W)(zs:List Str)(z:Str):QO F (zs++[z])=Vw F (QO F zs) z:=by unfold QO;rw[zbM];rfl
structure Fs(F:Str->W)(zs:List Str)(fs:List (W×Str)):Prop where
 nd:(fs.map (·.1)).Nodup
 of:∀p∈fs,p.2∈zs/\F p.2=p.1
 all:∀z∈zs,F z∈fs.map (·.1)
 len:fs.length<=zs.length
def Fs.more(h:Fs F zs fs)(z:Str):Fs F (zs++[z]) (Vw F fs z):=by
 unfold Vw;by_cases c:F z∈fs.map (·.1)
 ·rw[if_pos c];calc{h.nd,λj i=>{zaa _ (h.of j i).1,(h.of j i).2},λy d=>?_,by rw[tz];let:=h.len;omega};rcases tU.mp d with d | d
  ·exact h.all y d
  ·rwa [tQ.mp d]
 ·rw[if_neg c];refine{?_,λj i=>?_,λy d=>?_,by rw[tz,tz];let:=h.len;simp;omega}
  ·rw[tj];calc zaL.mpr ({h.nd,zaX _ _,λa _ b l e=>c ?_});let:b=F z:=by simpa using l
   rwa [<-this,<-e]
  ·rcases tU.mp i with i | i
   ·exact{zaa _ (h.of j i).1,(h.of j i).2}
   ·let:j=(F z,z):=by simpa using i
    subst this;exact{t3 _ (tQ.mpr rfl),s0}
  ·rw[tj];rcases tU.mp d with d | d
   ·exact zaa _ (h.all y d)
   ·rw[tQ.mp d];calc t3 _ {}
def u5:∀(ys zs:List Str) (fs:List (W×Str)),Fs F zs fs->Fs F (zs++ys) (ys.foldl (Vw F) fs)
 | [],zs,fs,h=>by rw[zal];calc h
 | y::ys,zs,fs,h=>by
  let:=u5 ys (zs++[y]) _ (h.more y);rwa [zcf]at this
def u4(F:Str->W)(zs:List Str):Fs F zs (QO F zs):=u5 zs [] [] ({zaV,λ_ h=>(nomatch h),λz h=>(nomatch h),ti _})
def look(fs:List (W×Str))(u:W):Str:=((fs.find? λa=>decide (a.1=u)).map (·.2)).getD (zeo "")
def uR:∀{fs:List (W×Str)} {u:W} {z:Str},(fs.map (·.1)).Nodup->(u,z)∈fs->look fs u=z
 | [],_,_,_,h=>nomatch h
 | a::fs,u,z,b,h=>by
  let{n1,n2}:=zaj.mp b;unfold look;rw[zaY];by_cases c:a.1=u
  ·rw[decide_eq_true c];rcases tO.mp h with e | h
   ·rw[<-e];rfl
   ·exact absurd (tc.mpr ({_,h,c.symm})) n1
  ·rw[decide_eq_false c];rcases tO.mp h with e | h
   ·exact absurd (by rw[<-e]) c
   ·calc uR n2 h
def Fs.look(h:Fs F zs fs)(hu:u∈fs.map (·.1)):(u,look fs u)∈fs/\look fs u∈zs/\F (look fs u)=u:=by
 let{p,hp,rfl}:=tc.mp hu;let e:Rh.look fs p.1=p.2:=uR h.nd hp;rw[e];calc{hp,h.of p hp}
def kW(u:W):List qJ:=[Sum.inr (Qh u),Sum.inl (JM u:Int)]
def xF(u:W):(kW u).map kV=tW u:=by rw[Xt];rfl
def Ao(h:kW u=kW v):u=v:=by
 unfold kW at h;let{i,d}:=zbY.inj h;let{d,_}:=zbY.inj d;let i:=Sum.inr.inj i;let d:=Int.ofNat.inj (Sum.inl.inj d);let ne:(zeo "number")≠(zeo "endless"):=by decide+kernel
 cases u with
 | num n=>cases v with
  | num m=>calc congrArg _ d
  | edl b=>calc absurd i ne
 | edl a=>cases v with
  | num m=>calc absurd i.symm ne
  | edl b=>calc congrArg _ d
def fT(fs:List (W×Str)):List (List qJ×V):=fs.map λa=>(kW a.1,V.str a.2)
def xZ:∀{fs:List (W×Str)} {u:W} {z:Str},(fs.map (·.1)).Nodup->(u,z)∈fs->ja (fT fs) (kW u)=tH (.str z)
 | [],_,_,_,h=>nomatch h
 | a::fs,u,z,b,h=>by
  let{n1,n2}:=zaj.mp b;show ja ((kW a.1,V.str a.2)::fT fs) (kW u)=_;by_cases c:a.1=u
  ·rw[jE (by rw[c])];rcases tO.mp h with e | h
   ·rw[<-e]
   ·exact absurd (tc.mpr ({_,h,c.symm})) n1
  ·rw[jt (λe=>c (Ao e))];rcases tO.mp h with e | h
   ·exact absurd (by rw[<-e]) c
   ·calc xZ n2 h
def vj:∀{fs:List (W×Str)} {u:W},u∉fs.map (·.1)->ja (fT fs) (kW u)=r4
 | [],_,_=>rfl
 | a::fs,u,h=>by
  show ja ((kW a.1,V.str a.2)::fT fs) (kW u)=_;rw[jt (λe=>h (by rw[<-Ao e];calc tK)),vj λm=>h (tI _ m)]
def A3(fs:List (W×Str)):(fT fs).length=fs.length:=ta ..
def Sb{fs:List (W×Str)}{i:Nat}{k:List qJ}{y:V}(h:(fT fs)[i]?=tH (k,y)):∃p,fs[i]?=tH p/\p∈fs/\k=kW p.1/\y=.str p.2:=by
 unfold fT at h;rw[tA]at h;cases e:fs[i]? with
 | none=>rw[e]at h;cases h
 | some p=>
  rw[e]at h;let:=tH.inj h;calc{p,s0,tS e,(Prod.mk.inj this).1.symm,(Prod.mk.inj this).2.symm}
def Ly{fs:List (W×Str)}{F:Str->W}(h:F z∉fs.map (·.1)):j2 (fT fs) (kW (F z)) (.str z)=fT (Vw F fs z):=by
 rw[QD _ (vj h)];unfold Vw;rw[if_neg h];unfold fT;rw[tj];rfl
def AV{fs:List (W×Str)}{F:Str->W}(h:F z∈fs.map (·.1)):Vw F fs z=fs:=by unfold Vw;rw[if_pos h]
def ends(fs:List (W×Str))(p:W×Str):List Str:=match p.1 with
 | .num n=>(zae n).map λk=>look fs (.num k)
 | .edl b=>(memN b 16).map (λk=>look fs (.num k))++[p.2]
def zP(fs:List (W×Str)):qY:=fs.map λa=>(a.2,ends fs a)
def Q6(fs:List (W×Str)):(zP fs).map (·.1)=fs.map (·.2):=by unfold zP;rw[zad];rfl
structure Wc(F:Str->W)(zs:List Str):Prop where
 num:∀z∈zs,∀n,F z=.num n->∀m,m < n->∃y∈zs,F y=.num m
 edl:∀z∈zs,∀b,F z=.edl b->∀k,b.testBit k=true->∃y∈zs,F y=.num k
 ok:∀z∈zs,YO (F z)
 nm:∀z∈zs,ji z=true
def Fs.has(h:Fs F zs fs)(c:Wc F zs)(hp:p∈fs):
  match p.1 with | .num n=>n < 16/\∀m,m < n->W.num m∈fs.map (·.1) | .edl b=>b < 65536/\∀k,b.testBit k=true->W.num k∈fs.map (·.1):=by
 let{m,e}:=h.of p hp;let ok:=c.ok _ m;rw[e]at ok;cases k:p.1 with
 | num n=>
  rw[k]at e ok;calc{ok,λa d=>by let{y,i,j}:=c.num _ m n e a d;rw[<-j];calc h.all y i}
 | edl b=>
  rw[k]at e ok;calc{ok,λa d=>by let{y,i,j}:=c.edl _ m b e a d;rw[<-j];calc h.all y i}
def YA(e:p.1=.num n):ends fs p=(zae n).map λk=>look fs (.num k):=by unfold ends;rw[e]
def YB(e:p.1=.edl b):ends fs p=(memN b 16).map (λk=>look fs (.num k))++[p.2]:=by unfold ends;rw[e]
def Hd(h:b < 65536)(a:b.testBit k=true):k < 16:=zdp λle=>by
 let d:(2:Nat)^16<=2^k:=zdI {} le;let:b < 2^k:=tJ h d;rw[zdu this]at a;cases a
def ZY(h:Fs F zs fs)(c:Wc F zs)(hp:p∈fs):
  y∈ends fs p↔match p.1 with | .num n=>∃k,k < n/\y=look fs (.num k) | .edl b=>(∃k,b.testBit k=true/\y=look fs (.num k))\/y=p.2:=by
 let d:=h.has c hp;cases e:p.1 with
 | num n=>
  rw[YA e,tc];calc{λ⟨k,a,z⟩=>{k,zaD.mp a,z.symm},λ⟨k,a,z⟩=>{k,zaD.mpr a,z.symm}}
 | edl b=>
  rw[e]at d;rw[YB e,tU,tc,tQ];calc or_congr ({λ⟨k,a,z⟩=>{k,(mem_memN.mp a).2,z.symm},λ⟨k,a,z⟩=>{k,mem_memN.mpr ({Hd d.1 a,a}),z.symm}}) Iff.rfl
def Fs.nd2(h:Fs F zs fs):(fs.map (·.2)).Nodup:=by
 let e:fs.map (·.1)=(fs.map (·.2)).map F:=by
  rw[zad];exact zaC λa b=>(h.of a b).2.symm
 let:=h.nd;rw[e]at this;calc(zbd.mp this).imp λa e=>a (congrArg F e)
def Aa(h:Fs F zs fs)(c:Wc F zs)(hp:p∈fs)(l:y∈ends fs p)(ne:y≠p.2\/∃n,p.1=.num n):∃k,F y=.num k/\y=look fs (.num k)/\(W.num k,y)∈fs:=by
 let a:=h.has c hp;let d:=(ZY h c hp).mp l;cases e:p.1 with
 | num n=>
  rw[e]at a d;let{k,i,rfl}:=d;let:=h.look (a.2 k i);calc{k,this.2.2,s0,this.1}
 | edl b=>
  rw[e]at a d;rcases d with ⟨k,i,rfl⟩ | rfl
  ·let:=h.look (a.2 k i);exact{k,this.2.2,s0,this.1}
  ·rcases ne with ne | ⟨n,j⟩
   ·exact absurd rfl ne
   ·rw[e]at j;cases j
def Eo(h:Fs F zs fs)(c:Wc F zs)(hp:p∈fs)(a:y∈ends fs p):y∈fs.map (·.2):=by
 by_cases e:y=p.2
 ·rw[e];exact tc.mpr ({p,hp,s0})
 ·let{k,_,_,m}:=Aa h c hp a (.inl e);calc tc.mpr ({_,m,s0})
def AJ{l:List Nat}{f:Nat->Str}(nd:l.Nodup)(h:∀a∈l,∀b∈l,f a=f b->a=b):(l.map f).Nodup:=by
 calc zbd.mpr (nd.imp_of_mem λ{a b} d i ne e=>ne (h a d b i e))
def El(h:Fs F zs fs)(c:Wc F zs)(hp:p∈fs):(ends fs p).Nodup:=by
 let d:=h.has c hp;let inj:∀{a b:Nat},W.num a∈fs.map (·.1)->W.num b∈fs.map (·.1)->look fs (.num a)=look fs (.num b)->a=b:=λi j e=>by
  let l:=(h.look i).2.2;rw[e,(h.look j).2.2]at l;exact(W.num.inj l).symm
 cases e:p.1 with
 | num n=>
  rw[e]at d;rw[YA e];calc AJ zbH λa i b j z=>inj (d.2 a (zaD.mp i)) (d.2 b (zaD.mp j)) z
 | edl b=>
  rw[e]at d;rw[YB e];calc zaL.mpr ({AJ (zbH.sublist zam) λa i m j z=>inj (d.2 a (mem_memN.mp i).2) (d.2 m (mem_memN.mp j).2) z,zaX _ _,λy i _ j z=>?_});let{k,m,rfl}:=tc.mp i;let l:=(h.look (d.2 k (mem_memN.mp m).2)).2.2;rw[z,tQ.mp j,(h.of p hp).2,e]at l;cases l
def z8(h:Fs F zs fs)(c:Wc F zs)(a:((zP fs).map λr=>r.2.length).sum<=40):qe (zP fs):=by
 refine{λr hr=>?_,by rw[Q6];calc h.nd2,λr hr y b=>?_,λr hr=>?_,a}
 all_goals let{d,a,rfl}:=tc.mp hr
 ·exact c.nm _ (h.of d a).1
 ·rw[Q6];exact Eo h c a b
 ·calc El h c a
def nF(F:Str->W)(z:Str):Option Nat:=match F z with
 | .num n=>tH n
 | .edl _=>r4
def sF(F:Str->W)(z:Str):Nat:=match F z with
 | .num n=>n
 | .edl _=>0
def Y7{F:Str->W}(e:F z=.num n):nF F z=tH n:=by unfold nF;rw[e]
def M4{F:Str->W}(e:F z=.edl b):nF F z=r4:=by unfold nF;rw[e]
def UG{F:Str->W}(e:F z=.num n):sF F z=n:=by unfold sF;rw[e]
def V4(e:nF F z=tH n):F z=.num n:=by
 unfold nF at e;cases k:F z with
 | num m=>rw[k]at e;rw[tH.inj e]
 | edl b=>rw[k]at e;cases e
def IG(e:nF F z=r4):∃b,F z=.edl b:=by
 unfold nF at e;cases k:F z with
 | num m=>rw[k]at e;cases e
 | edl b=>calc{b,s0}
def zo(h:Fs F zs fs)(g:qe (zP fs))(hp:p∈fs):QG (zP fs) p.2=ends fs p:=WW g.nd (tc.mpr ({p,hp,s0}))
def Gj(h:Fs F zs fs)(c:Wc F zs)(g:qe (zP fs)):Zw (QG (zP fs)) (·∈(zP fs).map (·.1)) (nF F) (sF F) where
 cl:=λ{x y} d j=>U2 g d j
 n1:=λ{x n m} d e lt=>by
  rw[Q6]at d;let{i,a,rfl}:=tc.mp d;rw[zo h g a];let l:i.1=.num n:=by rw[<-(h.of i a).2];exact V4 e
  let o:=h.has c a;rw[l]at o;let lk:=h.look (o.2 m lt);exists look fs (.num m),(ZY h c a).mpr (by rw[l];calc{m,lt,s0}),Y7 lk.2.2;rwa [UG lk.2.2,UG (V4 e)]
 n2:=λ{x y n} d e j=>by
  rw[Q6]at d;let{i,a,rfl}:=tc.mp d;rw[zo h g a]at j;let l:i.1=.num n:=by rw[<-(h.of i a).2];exact V4 e
  let o:=h.has c a;let p:=(ZY h c a).mp j;rw[l]at p o;let{k,q,rfl}:=p;rw[Y7 (h.look (o.2 k q)).2.2];exact λz=>by have:=tH.inj z;omega
 n3:=λ{x y n} d e j gt=>by
  rw[Q6]at d;let{i,a,rfl}:=tc.mp d;rw[zo h g a]at j;let l:i.1=.num n:=by rw[<-(h.of i a).2];exact V4 e
  let o:=h.has c a;let p:=(ZY h c a).mp j;rw[l]at p o;let{k,q,rfl}:=p;let:=gt k (Y7 (h.look (o.2 k q)).2.2);omega
 n4:=λ{x y n m} d e j j lt=>by
  rwa [UG (V4 e),UG (V4 j)]
 e:=λ{x m} d e lo j=>by
  let o:=d;rw[Q6]at d;let{i,a,rfl}:=tc.mp d;let{b,d}:=IG e;let l:i.1=.edl b:=by rw[<-(h.of i a).2];exact d
  calc{i.2,?_,e,j};rw[zo h g a];calc(ZY h c a).mpr (by rw[l];calc .inr rfl)
def Rn(h:Fs F zs fs)(c:Wc F zs)(g:qe (zP fs))(all:All (js (zP fs)) ((zP fs).map (·.1)) 0 [] R)(hp:p∈fs):wT (zP fs) R p.2=p.1:=by
 rw[<-L0 g (Gj h c g) all (by rw[Q6];calc tc.mpr ({p,hp,s0}))];let a:=(h.of p hp).2;unfold wF;cases e:p.1 with
 | num n=>
  rw[e]at a;rw[Y7 a]
 | edl b=>
  rw[e]at a;rw[M4 a];let d:=h.has c hp;rw[e]at d;show W.edl _=W.edl _;congr 1;let l:setN (memN b 16)=b:=ue d.1;rw[<-l];calc kr λx=>?_;rw[U4,zo h g hp];constructor
  ·rintro⟨y,m,i⟩;let l:=(ZY h c hp).mp m;rw[e]at l;rcases l with ⟨k,j,rfl⟩ | rfl
   ·rw[Y7 (h.look (d.2 k j)).2.2]at i;cases i;exact mem_memN.mpr ({Hd d.1 j,j})
   ·rw[M4 a]at i;cases i
  ·intro i;let{_,a}:=mem_memN.mp i;exact{look fs (.num x),(ZY h c hp).mpr (by rw[e];calc .inl ({x,a,s0})),Y7 (h.look (d.2 x a)).2.2}
abbrev UA:o0:=top 86
abbrev SA:o0:=top 88
abbrev uq:o0:=top 89
abbrev Sy:o0:=top 90
abbrev UJ:o0:=top 87
structure G9(K:zen)(mg:Str->Option n9):Prop where
 nin:∃f fd,qK K mg "numbers_in" Zp ["bits"] f fd
 wt:∃f fd,qK K mg "worths_told" UA ["ground"] f fd
 fp:∃f fd,qK K mg "first_places" SA ["told"] f fd
 lr:∃f fd,qK K mg "least_row" uq ["firsts","worth"] f fd
 lg:∃f fd,qK K mg "least_ground" Sy ["ground"] f fd
 al:∃f fd,qK K mg "alike" UJ ["ground","one","other"] f fd
 need:∃f fd,qK K mg "need_rows" zd ["rows"] f fd
def wD(u:W):PyData:=.tuple [.str (Qh u),.int (JM u:Nat)]
def VB{H:Hp}(h:H t=tH (.tup (tW u))):DV K H (.ref t) (wD u):=by
 rw[Xt]at h;calc .tup (.of h) (.cons (.str _) (.cons (.int _) .nil))
def okN:PyData.strOk "number"=true:=by decide+kernel
def okE:PyData.strOk "endless"=true:=by decide+kernel
def wp(u:W):PySem.SeqAt.shaped (wD u)=true:=by
 unfold PySem.SeqAt.shaped wD;cases u with
 | num n=>
  simp only[Qh,PyData.canLay0,PyData.canLayAll0,okN,PyData.depth,PyData.depthAll];rfl
 | edl n=>
  simp only[Qh,PyData.canLay0,PyData.canLayAll0,okE,PyData.depth,PyData.depthAll];rfl
def L1(u v:W):PyData.eqv (wD u) (wD v)=decide (u=v):=by
 let b:((zeo "number")==(zeo "endless"))=false:=by decide+kernel
 let d:((zeo "endless")==(zeo "number"))=false:=by decide+kernel
 let gF:PyData.eqv (wD u) (wD v)=((Qh u==Qh v)&&(((JM u:Nat):Int)==((JM v:Nat):Int)&&true)):=rfl;rw[gF];cases u with
 | num n=>
  cases v with
  | num m=>
   show (((zeo "number")==(zeo "number"))&&(((n:Nat):Int)==((m:Nat):Int)&&true))=_;by_cases c:n=m
   ·subst c;simp
   ·rw[decide_eq_false (λe=>c (by cases e;rfl))];let a:¬((n:Int)=(m:Int)):=λe=>c {};simp [a]
  | edl m=>
   show (((zeo "number")==(zeo "endless"))&&_)=_;rw[b];rfl
 | edl n=>
  cases v with
  | num m=>
   show (((zeo "endless")==(zeo "number"))&&_)=_;rw[d];rfl
  | edl m=>
   show (((zeo "endless")==(zeo "endless"))&&(((n:Nat):Int)==((m:Nat):Int)&&true))=_;by_cases c:n=m
   ·subst c;simp
   ·rw[decide_eq_false (λe=>c (by cases e;rfl))];let a:¬((n:Int)=(m:Int)):=λe=>c {};simp [a]
inductive RW(CG:m9)(vs:List V)(H:Hp)(Q:VK):Prop
 | mk (g:m9) (rs:qY):vs=[.ref g]->qZ CG H g rs->qe rs->(rs.length<=14)->(∀H' D R,qj H H'->H D=r4->Bw H' D (wT rs R) (rs.map (·.1))->All (js rs) (rs.map (·.1)) 0 [] R->Q (.ref D) H')->RW CG vs H Q
def Ol(a:m9):Sp:=λb H Q _=>RW a b H Q
inductive ko(CG:m9)(vs:List V)(H:Hp)(Q:VK):Prop
 | mk (g:m9) (rs:qY) (x y:Str):vs=[.ref g,.str x,.str y]->qZ CG H g rs->qe rs->(rs.length<=14)->(x∈rs.map (·.1))->(y∈rs.map (·.1))->(∀H' R,qj H H'->All (js rs) (rs.map (·.1)) 0 [] R->Q (.bl (decide (wT rs R x=wT rs R y))) H')->ko CG vs H Q
def Ce(a:m9):Sp:=λb H Q _=>ko a b H Q
def ug:ql ["ground","labels","told","name"] ["ground"] (qg UA):=j3
def kU(F:jJ K "worths_told" "worths_told" UA f d)(h:WF K mg)(B:Qd mg)(Z:Wk K mg)(G:jp mg)(T:jD K mg)(M:GM K mg j)(Y:Yb K mg)(O:XM K mg):qu P w K mg base jh 9 f d ["ground"] (Ol j):=by
 let{_,_,j}:=Y.labels;let{_,_,l}:=O.lw;let{_,_,o}:=M.cls;let{_,_,p}:=M.nm;refine F.okJ ug (λd H Q E h=>?_) (λ_ A _ s H d Q E hr x=>?_)
 ·let{g,d,rfl,_}:=h;rfl
 ·let{g,d,rfl,C,good,J,q}:=x;refine⟨_,qb (qB 1 (hN:=ug.nd) (qw j (pin P w mg base (J9 j.fn B G T M Y)) (qI (jv 0))))
   (qb (qB 2 (hN:=ug.nd) j8)
   (qb (je (qv (Jg p o.cl (pin P w mg base (j7 p.fn o G)) (hr.mono {}) (jv 0))) (jP (i:=3) ug.nd rfl (Or.inl rfl))
    (qc (jB (jv 2) (jv 3) (uY h (hr.mono {}) (qw l (pin P w mg base (MM l.fn h B Z)) (qI (qE (jv 1) (jv 3))))))))
   (qc (qm (jv 2))))),?_⟩
  calc{g,d,s0,C,good,J,λl L R o _ lb all=>?_};intro D J;let j:qj l (upd l D (.dK [])):=qd J;let p:upd l D (.dK []) D=tH (.dK []):=qa;generalize upd l D (.dK [])=x at j p;let{l,fs,U,l1,_}:=(C.mono (o.trans j)).ins;calc{l,fs,U,l1,g,d,s0,C.mono (o.trans j),λln C=>?_};let l:qj x (upd x ln (.lst ((d.map (·.1)).map V.str))):=qd C;let U:upd x ln (.lst ((d.map (·.1)).map V.str)) ln=tH (.lst ((d.map (·.1)).map V.str)):=qa;generalize upd x ln (.lst ((d.map (·.1)).map V.str))=H3 at l U;let aa:=jq o J;refine⟨{_,.of U},jz (λi x X=>∃v3:Option V,x=[tH (.ref g),tH (.ref L),tH (.ref D),v3]/\Fr H3 D X/\Bw X D (wT d R) ((d.map (·.1)).take i))
   ({r4,s0,Fr.refl,{[],l _ _ p,s0,λz h=>(nomatch h)}}) (λi x X _ ⟨_,_,f,_⟩=>.of (f _ _ U (λe=>by rw[e,p]at C;cases C))) ?_ ?_⟩
  ·rintro i y x X hy ⟨v3,rfl,fr,C⟩;let{z,U,hz,rfl}:=jA hy;let hi:=(tf.mp U).1;rw[ta]at hi;let ac:∃t,jk X L (.str z) (tH (.ref t))/\X t=tH (.tup (Zt d R z)):=by
    let{kvs,a,_,c}:=((lb.mono j).mono l).at_;let{r,ae,rfl}:=tc.mp hz;let{t,u,v}:=c r ae;let af:=fr _ _ a λe=>by
     let{_,b0,_}:=lb.at_;rw[e,J]at b0;cases b0
    calc{t,by rw[<-u];calc jk.k (k:=(Sum.inr r.1:qJ)) af,fr _ _ v λe=>?_};let:=l _ _ p;rw[e,this]at v;cases v
   let{t,gt,p}:=ac;calc{_,gt,t,d,R,z,s0,p,Yg good (Xb (jb good.nd) all) hz,λa J s4 p=>{a,_,s0,p,λp hp=>?_}};let s5:qj X (upd J p (.tup [.str (Qh (wT d R z)),.int (JM (wT d R z):Nat)])):=s4.trans (qd hp);let ab:upd J p (.tup [.str (Qh (wT d R z)),.int (JM (wT d R z):Nat)]) p=tH (.tup (tW (wT d R z))):=by rw[Xt];exact qa
   generalize upd J p (.tup [.str (Qh (wT d R z)),.int (JM (wT d R z):Nat)])=X2 at s5 ab;let p:z∉(d.map (·.1)).take i:=λm=>by
    let:=Q5 good.nd U;exact this (tc.mpr ({z,m,s0}))
   let{_,put,_}:=(C.mono s5).new p (by rw[tG];omega) ab;exists D,_,s0,put,_,s0,(fr.same s5).at_d;rwa [tE,U]
  ·rintro x X ⟨v3,rfl,fr,C⟩;rw[ta,tu (ti _)]at C;calc(q X D R (λb u d=>fr _ _ (l _ _ (j _ _ (o _ _ d))) (qo d aa)) aa C all)
def ui:ql ["ground","one","other","told"] ["ground","one","other"] (qg UJ):=j3
def MV(F:jJ K "alike" "alike" UJ f a)(h:WF K mg)(B:Qd mg)(Z:Wk K mg)(G:jp mg)(T:jD K mg)(M:GM K mg b)(Y:Yb K mg)(O:XM K mg)(d:G9 K mg):qu P w K mg base jh 10 f a ["ground","one","other"] (Ce b):=by
 let{_,_,b}:=O.place;let{_,_,i}:=d.wt;let j:=pin P w mg base (WL b.fn G M);refine F.okJ ui (λa H Q E h=>?_) (λ_ A _ s H a Q E hr o=>?_)
 ·let{g,a,x,y,rfl,_}:=h;rfl
 ·let{g,a,x,y,rfl,d,good,p,l,m,q}:=o;exists _,qb (q5 (qw b j (jV (jv 0) (jv 1))))
   (qb (q5 (qw b j (jV (jv 0) (jv 2))))
   (qb (qB 3 (hN:=ui.nd) (qw i (pin P w mg base (kU i.fn h B Z G T M Y O)) (qI (jv 0))))
   (qc (qm (jf (Ip hr.units) (qE (jv 3) (jv 1)) (qE (jv 3) (jv 2)))))))
  calc{g,a,x,s0,d,tc.mp l,λ_ b=>{g,a,y,s0,d.mono b,tc.mp m,λ_ i=>{g,a,s0,d.mono (b.trans i),good,p,λj D R o _ d all=>?_}}};let{_,g1,p}:=d.get l;let{_,g2,l}:=d.get m;exists _,g1,_,g2,wD (wT a R x),wD (wT a R y),VB p,VB l,wp _,wp _;rw[L1];exact q j R (b.trans (i.trans o)) all
def EJ(e:wT rs R z=.num n):qO R z=tH n:=by
 cases k:qO R z with
 | some m=>rw[Jn k]at e;rw[W.num.inj e]
 | none=>rw[Q9 k]at e;cases e
def EK(e:wT rs R z=.edl b):qO R z=r4/\b=setN (Yd rs (qO R) z):=by
 cases k:qO R z with
 | some m=>rw[Jn k]at e;cases e
 | none=>rw[Q9 k]at e;calc{s0,(W.edl.inj e).symm}
def Rm(good:qe rs)(all:All (js rs) (rs.map (·.1)) 0 [] R):Wc (wT rs R) (rs.map (·.1)):=by
 let L:=Xb (jb good.nd) all;refine{λz a n e m lt=>?_,λz a b e k j=>?_,λz a=>Yg good L a,λz a=>?_}
 ·let{y,d,i,_}:=L.n1 a (EJ e) lt;exact{y,jb good.nd z a y d,Jn i}
 ·let{_,rfl}:=EK e;rw[testBit_setN]at j;let{y,d,i}:=Qe.mp (of_decide_eq_true j);exact{y,jb good.nd z a y d,Jn i}
 ·let{r,hr,rfl}:=tc.mp a;calc good.nm r hr
def vE{g:Str->Nat}:∀{a b:List Str},a.Nodup->(∀z∈a,z∈b)->(a.map g).sum<=(b.map g).sum
 | [],_,_,_=>zax _
 | x::a,b,d,h=>by
  let{n1,n2}:=zaj.mp d;rw[((zdK (h x tK)).map g).sum_nat,tR,tR,zau,zau];calc zdL (vE n2 λz d=>(zbv (λq=>n1 (by rw[<-q];calc d))).mpr (h z (tI _ d))) _
def Em(good:qe rs)(all:All (js rs) (rs.map (·.1)) 0 [] R)(h:Fs (wT rs R) (rs.map (·.1)) fs)(hp:p∈fs):(ends fs p).length<=(QG rs p.2).length:=by
 let L:=Lc good (Xb (jb good.nd) all);let{m,e}:=h.of p hp;cases k:p.1 with
 | num n=>
  rw[k]at e;rw[YA k,ta];let d:=Jx zbH λl i=>by
   let{y,a,j,_}:=L.n1 m (EJ e) (zaD.mp i);exact zaf.mpr ({y,a,j})
  calc tP d (zaI ..)
 | edl b=>
  rw[k]at e;rw[YB k,tz,ta,zas];let{o,q}:=EK e;let d:=Jx (l:=memN b 16) (zbH.sublist zam) λl i=>by
   let:=(mem_memN.mp i).2;rw[q,testBit_setN]at this;let{y,a,j}:=Qe.mp (of_decide_eq_true this);exact zaf.mpr ({y,(ju good m).mpr a,j})
  let lk:Lacks (lackN (kn rs (qO R) p.2)) (kn rs (qO R) p.2):=lackI_lacks _;let{y,a,j,_}:=L.e m o (λl i=>U4.mp (lk.2 l i)) (λy a z=>lk.1 (U4.mpr ({y,a,z})));let{u,v,i}:=zcs a;rw[i,zaz,t8,j,tz]at d;let a:=zaI (qO R) u;let a:=zaI (qO R) v;rw[i,tz,t7];let d:(memN b 16).length<=(u.filterMap (qO R)).length+(v.filterMap (qO R)).length:=d;omega
def Xk{rs:qY}(good:qe rs){R:Rs Str}(all:All (js rs) (rs.map (·.1)) 0 [] R){fs:List (W×Str)}(h:Fs (wT rs R) (rs.map (·.1)) fs):((zP fs).map λr=>r.2.length).sum<=40:=by
 let b:((zP fs).map λr=>r.2.length)=fs.map λa=>(ends fs a).length:=by unfold zP;rw[zad];rfl
 rw[b];let d:∀b:List (W×Str),(∀a∈b,a∈fs)->(b.map λa=>(ends fs a).length).sum<=((b.map (·.2)).map λz=>(QG rs z).length).sum:=by
  intro b;induction b with
  | nil=>intro _;calc ti _
  | cons a b i=>
   intro b;rw[tR,tR,tR,zau,zau];exact Nat.add_le_add (Em good all h (b a tK)) (i λq i=>b q (tI _ i))
 refine tP (d fs λ_ z=>z) (tP (vE (b:=rs.map (·.1)) h.nd2 λz b=>?_) ?_)
 ·let{a,d,rfl}:=tc.mp b;exact(h.of a d).1
 ·let a:(rs.map (·.1)).map (λz=>(QG rs z).length)=rs.map λr=>r.2.length:=by
   rw[zad];exact zaC λr hr=>by show (QG rs r.1).length=_;rw[WW good.nd hr]
  rw[a];calc good.few
def Sh(H:Hp)(D:m9)(o:Obj)(kvs:List (qJ×V))(F:Str->W)(zs:List Str):Prop:=H D=tH (.frz o (.dK kvs))/\kvs.map (·.1)=zs.map Sum.inr/\∀z∈zs,∃t,ja kvs (Sum.inr z:qJ)=tH (.ref t)/\H t=tH (.tup (tW (F z)))
def Sh.mono(h:Sh H D o kvs F zs)(s:qj H H'):Sh H' D o kvs F zs:={s _ _ h.1,h.2.1,λz d=>let ⟨t,a,b⟩:=h.2.2 z d;({t,a,s _ _ b})}
inductive Fj(vs:List V)(H:Hp)(Q:VK):Prop
 | mk (D:m9) (o:Obj) (kvs:List (qJ×V)) (F:Str->W) (zs:List Str):vs=[.ref D]->Sh H D o kvs F zs->zs.Nodup->(zs.length<=14)->(∀H' Fd,qj H H'->H Fd=r4->H' Fd=tH (.dT (fT (QO F zs)))->Q (.ref Fd) H')->Fj vs H Q
def Tc:Sp:=λa H Q _=>Fj a H Q
inductive Nl(vs:List V)(H:Hp)(Q:VK):Prop
 | mk (Fd t:m9) (F:Str->W) (zs:List Str) (fs:List (W×Str)) (p:W×Str):vs=[.ref Fd,.ref t]->(Rd H Fd (.dT (fT fs)))->H t=tH (.tup (tW p.1))->(p∈fs)->Fs F zs fs->Wc F zs->(∀H' r q,qj H H'->H' r=tH (.tup [.str p.2,.ref q])->H' q=tH (.tup ((ends fs p).map V.str))->Q (.ref r) H')->Nl vs H Q
def Oz:Sp:=λa H Q _=>Nl a H Q
def jk.w(h:Rd H a (.dT (fT fs)))(d:H b=tH (.tup (tW u)))(nd:(fs.map (·.1)).Nodup)(m:(u,z)∈fs):jk H a (.ref b) (tH (.str z)):=
 .inr ({_,kW u,b,h,s0,by rw[xF];calc d,(xZ nd m).symm})
abbrev nFP:List Str:=["told","firsts","name","worth"]
def TR:ql nFP ["told"] (qg SA):=j3
def Pq(F:jJ K "first_places" "first_places" SA f d):qu P w K mg base jh 1 f d ["told"] Tc:=by
 calc F.okK TR λH Q E hr h=>?_;intro X;let{D,l,kvs,F,d,rfl,wf,nd,le,q}:=h;exists _,qb (qB 1 W5)
  (qb (je (Au (jv 0)) (Jf rfl (qM (qC 2) (qM (qC 3) Qp)))
   (qc (q5 (AB (hu_of hr) (jv 1) (jv 3) (jv 2) ({s0,s0,s0,s0})))))
  (qc (qm (jv 1))))
 intro j C;let J:qj H (upd H j (.dT [])):=qd C;let p:upd H j (.dT []) j=tH (.dT []):=qa;generalize upd H j (.dT [])=T at J p;let o:=wf.mono J;let lk:kvs.length=d.length:=by simpa using congrArg zat wf.2.1
 refine{D,l,.dK kvs,s0,o.1,{d,wf.2.1},GH (λi B X=>∃L O:Option V,B=[tH (.ref D),tH (.ref j),L,O]/\Fr T j X/\X j=tH (.dT (fT (QO F (d.take i))))) ({r4,r4,s0,Fr.refl,p}) (λi B X _ ⟨_,_,_,f,_⟩=>f _ _ o.1 (λe=>by have:=o.1;rw[e,p]at this;cases this)) ?_ ?_}
 ·rintro i x y T B X hi Y ⟨z,ek,rfl⟩ ⟨L,O,rfl,fr,l⟩;let ez:d[i]?=tH z:=by
   let U:(kvs.map (·.1))[i]?=tH (Sum.inr z):=by rw[tA,ek];rfl
   rw[wf.2.1,tA]at U;rw[tv (by have:i < kvs.length:=hi;omega)]at U ⊢;exact congrArg tH (Sum.inr.inj (tH.inj U))
  let{t,et,U}:=o.2.2 z (tS ez);let o:y=.ref t:=by
   let:=wu (by rw[wf.2.1];calc Jp nd λa _ b _ e=>Sum.inr.inj e) ek;rw[et]at this;exact(tH.inj this).symm
  subst o;let o:qj X (upd X T (.tup [.str z,.ref t])):=qd Y;let fs:=u4 F (d.take i);let lf:(fT (QO F (d.take i))).length < zes:=by
   rw[A3];let:=fs.len;rw[tG]at this;exact qi {}
  let aa:T≠j:=nq l Y;let snoc:QO F (d.take (i+1))=Vw F (QO F (d.take i)) z:=by rw[tE,ez];exact GG ..
  refine{T,_,s0,.of qa,s0,s0,{j,s0,.inr ({_,.inl (o _ _ l)}),fT (QO F (d.take i)),kW (F z),t,o _ _ l,s0,by rw[xF];calc o _ _ (fr _ _ U (λe=>by rw[e,p]at U;cases U)),lf,λv p=>?_,λT=>?_}}
  ·exists _,_,s0,fr.same o;let m:=Classical.byContradiction λn=>by rw[vj n]at p;cases p
   rw[snoc,AV m];exact o _ _ l
  ·exists _,_,s0,(fr.same o).at_d;let m:F z∉(QO F (d.take i)).map (·.1):=λm=>by
    rw[xZ fs.nd (fs.look m).1]at T;cases T
   rw[qa,snoc,Ly m]
 ·rintro B X ⟨L,O,rfl,fr,l⟩;let o:Ln (.dK kvs)=d.length:=lk;rw[o,tu (ti _)]at l;exact(q X j (λb u d=>fr _ _ (J _ _ d) (qo d C)) C l)
def DL(fs:List (W×Str))(a:List Nat):List Str:=a.map λk=>look fs (.num k)
def yj{fs:List (W×Str)}{a:List Nat}{i k:Nat}(e:a[i]?=tH k):(DL fs (a.take (i+1))).map V.str=(DL fs (a.take i)).map V.str++[.str (look fs (.num k))]:=by
 unfold DL;rw[tE,e,tj,tj];rfl
def Hk(k:Nat):tW (.num k)=[.str (zeo "number"),.int (k:Nat)]:=rfl
def Lu{a:List Nat}{i:Nat}{y:V}(h:(JV a)[i]?=tH y):∃k,a[i]?=tH k/\k∈a/\y=.int (k:Nat):=by
 unfold JV at h;rw[tA]at h;cases e:a[i]? with
 | none=>rw[e]at h;cases h
 | some z=>rw[e]at h;calc{z,s0,tS e,(tH.inj h).symm}
def Zl(fs:List (W×Str))(F:Str->W)(zs:List Str):List (qJ×V):=zs.map λz=>((Sum.inr z:qJ),V.str (look fs (F z)))
inductive Ff(CG:m9)(vs:List V)(H:Hp)(Q:VK):Prop
 | mk (g:m9) (rs:qY):vs=[.ref g]->qZ CG H g rs->qe rs->(0 < rs.length)->(rs.length<=14)->(∀H' r x Pd R,qj H H'->H Pd=r4->H' r=tH (.tup [.ref x,.ref Pd])->qZ CG H' x (zP (QO (wT rs R) (rs.map (·.1))))->qZ CG (upd H' Pd (.dK [])) x (zP (QO (wT rs R) (rs.map (·.1))))->H' Pd=tH (.dK (Zl (QO (wT rs R) (rs.map (·.1))) (wT rs R) (rs.map (·.1))))->All (js rs) (rs.map (·.1)) 0 [] R->Q (.ref r) H')->Ff CG vs H Q
def Ta(a:m9):Sp:=λb H Q _=>Ff a b H Q
abbrev nLR:List Str:=["firsts","worth","ends"]
abbrev pLR:List Str:=["firsts","worth"]
def TD:ql nLR pLR (qg uq):=j3
def Pz:(["number","firsts"]:List Str).Nodup:=by decide+kernel
def Dm{P:o3}{w:o4}{K:zen}{mg:Str->Option n9}{base:o1}{f d:m9}{a j:zer}(F:jJ K "least_row" "least_row" uq f a)(B:Qd mg)(G:jp mg)(hN:qK K mg "numbers_in" Zp ["bits"] d j):qu P w K mg base jh 2 f a pLR Oz:=by
 calc F.okK TD λH Q E hr h=>?_;intro X;let{u,t,F,_,fs,p,rfl,l,d,j,h,c,q}:=h;refine⟨_,qb (qG (qp jU (qF qD (jv 1) qh) qH)
   (qc (qm (jH (jV (qE (jv 0) (jv 1)) (jr Qa {} G.tup boot_tuple (qI (jL (ix:=[r4,tH 0]) (Js {} B.rng (qI (qF qD (jv 1) qh))) (λa C m fp o=>
    {jP (i:=0) Pz rfl (Or.inl rfl),qP,qE (jv 1) (jH (jV qH (jv 0)))})))))))) qt)
  (qb (Qu (i:=2) (ix:=[r4,tH 0]) (qv (qw hN (pin P w mg base (zg hN.fn B)) (qI (qF qD (jv 1) qh)))) (λa C m fp o=>
    {jP (i:=0) Pz rfl (Or.inl rfl),qP,qE (jv 1) (jH (jV qH (jv 0)))}))
  (qc (qm (jH (jV (qE (jv 0) (jv 1)) (jr Qa {} G.tup boot_tuple (qI (jc UQ (jv 2) (QH (qI (qE (jv 0) (jv 1)))))))))))),?_⟩
 let m:=h.has c j;let J:∀{X:Hp},qj H X->jk X u (.ref t) (tH (.str p.2)):=λa=>jk.w (l.mono a) (a _ _ d) h.nd j;let v:H t=tH (.tup [.str (Qh p.1),.int (JM p.1:Nat)]):=by rw[d,Xt]
 exists _,_,.of v,QA rfl,s0,_,rfl;let ne:(zeo "number")≠(zeo "endless"):=by decide+kernel
 let aa:∀{X:Hp} {D:m9} {k:Nat} {j:List V} {N:L2.St->Hp->Prop} {v1:Option V},qj H X->H D=r4->X D=tH (.lst j)->j.length < zes->W.num k∈fs.map (·.1)->
   (∀b,X b=r4->b≠D->N [tH (.int (k:Nat)),tH (.ref u)] (upd (upd X b (.tup [.str (zeo "number"),.int (k:Nat)])) D (.lst (j++[.str (look fs (.num k))]))))->
   Ql 0 (.int (k:Nat)) [v1,tH (.ref u)] X (Vh BO (zO (jd 1) (Uu (qW (tC (.str (zeo "number"))) (qW (jd 0) QQ)))) D N):=by
  intro X D k j N v1 a _ d T L n;calc{J7,λb o=>?_};let O:b≠D:=nq d o;let x:=qd (o:=HO.tup [.str (zeo "number"),.int (k:Nat)]) o;exact{_,jk.w ((l.mono a).mono x) (by rw[Hk];calc qa) h.nd (h.look L).1,j,x _ _ d,T,n b o O}
 cases e:p.1 with
 | num n=>
  rw[e]at m;calc jI (decide_eq_true rfl) ?_;rw[e]at v;calc{_,J (λ_ _ z=>z),{_,_,.of v,QA (j:=1) rfl,(n:Int),s0,{},by have:=m.1;omega,λD d=>?_}};rw[zaE];refine zL (λi l X=>∃v0:Option V,l=[v0,tH (.ref u)]/\qj H X/\X D=tH (.lst ((DL fs ((zae n).take i)).map V.str))) ({r4,s0,qd d,qa}) ?_ ?_
  ·rintro i l X x ⟨v0,rfl,a,j⟩;let T:(zae n)[i]?=tH i:=by rw[zbP x]
   rw[zcy _];refine aa (v1:=v0) a d j ?_ (m.2 i x) λb o O=>{_,s0,qj.upd (a.trans (qd o)) d,?_}
   ·unfold DL;rw[ta,ta,tG,zap];exact qi (by have:=m.1;omega)
   ·rw[qa,yj T]
  ·rintro l X ⟨v0,rfl,a,j⟩;rw[tu (by rw[zap];calc ti _)]at j;calc{D,_,s0,.inl ({.of j,λT U=>{J7,λr x=>q _ r T ((a.trans (qd U)).trans (qd x)) qa (qk ?_ x)}})};rw[YA e];calc qa
 | edl b=>
  rw[e]at m;calc qU (decide_eq_false λz=>ne (V.str.inj z).symm) ?_;rw[e]at v;calc{_,_,.of v,QA (j:=1) rfl,b,s0,m.1,λln Y=>?_};let v:qj H (upd H ln (.lst (JV (memN b 16)))):=qd Y;let Y:upd H ln (.lst (JV (memN b 16))) ln=tH (.lst (JV (memN b 16))):=qa;generalize upd H ln (.lst (JV (memN b 16)))=H1 at v Y;let ab:(memN b 16).length<=16:=tP (zao ..) (by rw[zap];calc ti _);refine{{_,.of Y},λD d=>qR (K:=K) (a:=ln) (xs:=JV (memN b 16)) (λi l X=>∃v0:Option V,l=[v0,tH (.ref u)]/\qj H1 X/\X D=tH (.lst ((DL fs ((memN b 16).take i)).map V.str))) ({r4,s0,qd d,qa}) (λi l X _ ⟨_,_,a,_⟩=>.of (a _ _ Y)) ?_ ?_}
  ·rintro i y l X u ⟨v0,rfl,a,j⟩;let{k,Y,L,rfl}:=Lu u;refine aa (v1:=v0) (v.trans a) (jq v d) j ?_ (m.2 k (mem_memN.mp L).2) λ_ o O=>{_,s0,qj.upd (a.trans (qd o)) d,?_}
   ·unfold DL;rw[ta,ta,tG];exact qi {}
   ·rw[qa,yj Y]
  ·rintro l X ⟨v0,rfl,a,j⟩;let le:(JV (memN b 16)).length=(memN b 16).length:=by unfold JV;rw[ta]
   rw[le,tu (ti _)]at j;let d:=v.trans a;calc{_,J d,_,J d,J7,λa l=>?_};let C:=qd (o:=HO.lst [V.str p.2]) l;refine{D,a,_,_,s0,s0,.of (C _ _ j),.of qa,?_,λa j=>?_}
   ·unfold DL;rw[ta,ta];exact zab (qi (by simp;omega))
   calc{a,_,s0,.inl ({.of qa,λT U=>{J7,λr x=>q _ r T ((((d.trans C).trans (qd (o:=HO.lst ((DL fs (memN b 16)).map V.str++[V.str p.2])) j)).trans (qd U)).trans (qd x)) qa (qk ?_ x)}})};rw[YB e,tj];exact qa
def Q0{X:Hp}{ps:List m9}{R:Hp->Prop}(p:X m=tH (.lst (ps.map V.ref)))(gg:jg X ps rs)(good:qe rs)(pos:0 < rs.length)(q:rs.length<=14)(o:X x=r4)(y:X a=r4)(i:a≠x)(k:∀d,qj X d->qZ j d x rs->R d):
  XU j [.ref x,.ref m] (upd (upd X a (.own x)) x (.ins j a [])) (λv H'=>v=.non/\R H') E:=by
 let l:qj X (upd (upd X a (.own x)) x (.ins j a [])):=λb u i=>by
  rwa [qf (qo i o),qf (qo i y)]
 calc{x,a,m,ps,rs,s0,{l _ _ p,gg.mono l,good,pos,q},qa,λd a j=>{s0,k d (λb u i=>j b u (l _ _ i) (qo i o)) a}}
def M8(e:fs[i]?=tH p):(zP fs).take (i+1)=(zP fs).take i++[(p.2,ends fs p)]:=by
 let:(zP fs)[i]?=tH (p.2,ends fs p):=by unfold zP;rw[tA,e];rfl
 rw[tE,this];rfl
def zG(fs:List (W×Str)):(zP fs).length=fs.length:=ta ..
def UM(fs:List (W×Str))(F:Str->W)(zs:List Str):(Zl fs F zs).map (·.1)=zs.map Sum.inr:=by
 unfold Zl;rw[zad];rfl
abbrev fb:List Str:=["ground","told","firsts","least","places","name"]
def OQ:ql fb ["ground"] (qg Sy):=j3
def Py:(["worth","firsts"]:List Str).Nodup:=by decide+kernel
def MN(F:jJ K "least_ground" "least_ground" Sy f j)(h:WF K mg)(B:Qd mg)(Z:Wk K mg)(G:jp mg)(T:jD K mg)(N:Xr K mg)(M:GM K mg l)(Y:Yb K mg)(O:XM K mg)(d:G9 K mg):qu P w K mg base jh 10 f j ["ground"] (Ta l):=by
 let{_,_,j}:=M.cls;let{_,_,C}:=d.need;let{_,_,l}:=d.wt;let{_,_,v}:=d.fp;let{_,_,o}:=d.lr;let{_,_,J}:=d.nin;calc F.okK OQ λH Q E hr z=>?_;intro X;let{g,d,rfl,U,good,pos,p,q}:=z;refine⟨_,qb (qB 1 (Lo (qw l (pin P w mg base (kU l.fn h B Z G T M Y O)) (qI (jv 0)))))
  (qb (zq 2 (D8 (qw v (pin P w mg base (Pq v.fn)) (qI (jv 1)))))
  (qb (qB 3 (QL j.mkr (pin P w mg base (zh j B G T N C)) (hr.mono {}) {} j.ns j.bi .nil QP (qI (jL (ix:=[r4,tH 2]) (U8 (jv 2)) (λj s2 L fp _=>
    {jP (i:=0) Py rfl (Or.inl rfl),qP,qw o (pin P w mg base (Dm o.fn B G J)) (jV (jv 1) (jv 0))})))))
  (qb (qB 4 j8)
  (qb (je (xK (jv 1)) (qC 5)
   (qc (jB (jv 4) (jv 5) (qE (jv 2) (qE (jv 1) (jv 5))))))
  (qc (qm (jH (jV (jv 3) (jv 4))))))))),?_⟩
 calc{g,d,s0,U,good,p,λj D R o J C all=>?_};let{kvs,l,ek,U}:=C.at_;calc{D,kvs,s0,l,λC=>?_};let s2:qj H (upd j D (.frz C (.dK kvs))):=qj.upd o J;let ae:Sh (upd j D (.frz C (.dK kvs))) D C kvs (wT d R) (d.map (·.1)):={qa,ek,λz hz=>let ⟨t,a,b⟩:=U z hz;({t,a,by rwa [qf (λe=>by rw[e,l]at b;cases b)]})};generalize upd j D (.frz C (.dK kvs))=L at s2 ae;let j:(d.map (·.1)).length<=14:=by rw[ta];exact p
 calc{D,C,kvs,wT d R,d.map (·.1),s0,ae,good.nd,j,λj l p U o=>{l,_,s0,o,λJ=>?_}};let o:=u4 (wT d R) (d.map (·.1));let wc:=Rm good all;let fl:=o.len;let an:0 < (QO (wT d R) (d.map (·.1))).length:=by
  cases d with
  | nil=>cases pos
  | cons r0 as=>
   let:=o.all r0.1 tK;let{af,hp,_}:=tc.mp this;exact zbb hp
 let s4:qj L (upd j l (.frz J (.dT (fT (QO (wT d R) (d.map (·.1))))))):=qj.upd p U;let h4:upd j l (.frz J (.dT (fT (QO (wT d R) (d.map (·.1)))))) l=tH (.frz J (.dT (fT (QO (wT d R) (d.map (·.1)))))):=qa;generalize ao:QO (wT d R) (d.map (·.1))=fs at*;generalize upd j l (.frz J (.dT (fT fs)))=p at s4 h4;calc{l,J,.dT (fT fs),s0,h4,True.intro,λL hV=>?_};let ap:Ln (.dT (fT fs))=fs.length:=A3 fs;refine Bh (λi U X=>∃(v0:Option V) (j:List m9),U=[v0,tH (.ref l)]/\qj p X/\X L=tH (.lst (j.map V.ref))/\jg X j ((zP fs).take i)) ({r4,[],s0,qd hV,qa,s0,λi af r e=>by simp at e}) (λi U X _ ⟨_,_,_,L,_⟩=>L _ _ h4) ?_ ?_
 ·rintro i x y U X hi ⟨k,b,e,rfl,p⟩ ⟨v0,j,rfl,L,hX,gg⟩;let{af,ep,hp,rfl,_}:=Sb e;rw[xF]at p;calc{l,b,wT d R,d.map (·.1),fs,af,s0,.inr ({J,L _ _ h4}),p,hp,o,wc,λ_ r _ ag aa aq=>?_};let aj:=ag _ _ hX;refine{_,aj,?_,_,j++[r],s0,qj.upd (L.trans ag) hV,by rw[qa,tj];rfl,?_}
  ·rw[ta,gg.1,tG];calc qi ?_;rw[zG];omega
  ·rw[M8 ep];exact jg.upd_lst ((gg.mono ag).snoc aa aq) aj
 ·rintro U X ⟨v0,j,rfl,L,hX,gg⟩;rw[ap,tu (by rw[zG];calc ti _)]at gg;calc λx _ j U ar=>Q0 hX gg (z8 o wc (Xk good all o)) (by rw[zG];calc an) (by rw[zG];omega) j U ar λU s6 ak=>?_;intro j ac;let al:=L.trans s6;let ah:=s4.trans al;let L:qj U (upd U j (.dK [])):=qd ac;let h7:upd U j (.dK []) j=tH (.dK []):=qa;generalize upd U j (.dK [])=H7 at L h7;let ab:=ae.mono (ah.trans L);let ai:=(al.trans L) _ _ h4;let am:D≠j:=λe=>by have:=ab.1;rw[e,h7]at this;cases this
  refine{D,C,kvs,d.map (·.1),s0,ab.1,ek,vg (λi σ X=>∃v5:Option V,σ=[tH (.ref g),tH (.ref D),tH (.ref l),tH (.ref x),tH (.ref j),v5]/\Fr H7 j X/\X j=tH (.dK (Zl fs (wT d R) ((d.map (·.1)).take i)))) ({r4,s0,Fr.refl,h7}) (λi σ X _ ⟨_,_,fr,_⟩=>fr _ _ ab.1 am) ?_ ?_}
  ·rintro i z σ X l ⟨v5,rfl,fr,v⟩;let hz:=tS l;let hi:=(tf.mp l).1;let{t,et,ht}:=ab.2.2 z hz;let vn:ja (Zl fs (wT d R) ((d.map (·.1)).take i)) (Sum.inr z:qJ)=r4:=QW (by
    rw[UM];exact λm=>by let{y,hy,e}:=tc.mp m;calc(λm=>Q5 good.nd l (tc.mpr ({z,m,s0}))) (Sum.inr.inj e▸hy))
   let lk:(Zl fs (wT d R) ((d.map (·.1)).take i)).length < zes:=by
    unfold Zl;rw[ta,tG];exact qi {}
   calc{_,.inl ({kvs,Sum.inr z,.inr ({C,fr _ _ ab.1 am}),s0,et.symm}),_,jk.w (.inr ({J,fr _ _ ai (λe=>by rw[e,h7]at ai;cases ai)})) (fr _ _ ht (λe=>by rw[e,h7]at ht;cases ht)) o.nd (o.look (o.all z hz)).1,j,_,s0,Jv.k (k:=(Sum.inr z:qJ)) v lk,{_,s0,fr.at_d,?_}};rw[qa,QD _ vn,tE,l];unfold Zl;rw[tj];rfl
  ·rintro σ X ⟨v5,rfl,fr,v⟩;rw[tu (ti _)]at v;calc{J7,λr aa=>?_};let l:qj U (upd (upd X r (.tup [.ref x,.ref j])) j (.dK [])):=λb u p=>by
    let d:=qo p ac;rw[qf d];exact qk (fr _ _ (L _ _ p) d) aa
   let d:qj U (upd X r (.tup [.ref x,.ref j])):=λb u p=>qk (fr _ _ (L _ _ p) (qo p ac)) aa;let:=q (upd X r (.tup [.ref x,.ref j])) r x j R ((s2.trans ah).trans d) (jq (s2.trans ah) ac) qa;rw[ao]at this;exact this (ak.mono d) (ak.mono l) (qk v aa) all
abbrev kz:o0:=top 81
abbrev KM:o0:=top 82
abbrev KN:o0:=top 83
abbrev kw:o0:=top 84
abbrev zY:o0:=Qg (top 25) 3
abbrev UB:o0:=Qg (top 4) 0
abbrev Ja:o0:=Qg (top 5) 0
def jT(rs:qY):qY:=rs.map λr=>(r.1,qz rs r)
abbrev OY(K:zen):List V->Hp->VK->Prop:=λd H Q=>∃a b,d=[.ref a]/\((JX K H a b/\∀d,H d=r4->Q (.ref d) (upd H d (.tup b)))\/(SqT K H a b/\Q (.ref a) H))
inductive ki(CG:m9)(vs:List V)(H:Hp)(Q:VK):Prop
 | mk (a:m9) (rs:qY):vs=[.ref a]->qZ CG H a rs->(rs.length<=14)->(∀l ps H',qj H H'->H l=r4->H' l=tH (.lst (ps.map V.ref))->jg H' ps (jT rs)->Q (.ref l) H')->ki CG vs H Q
def Cc(a:m9):Sp:=λb H Q _=>ki a b H Q
def TM:ql ["self"] ["self"] (qg zY):=j3
def WM(F:jJ K "rows" "Ground.rows" zY f b)(C:EF K mg m d j)(G:jp mg):qu P w K mg base jh 1 f b ["self"] (Cc m):=by
 calc F.okK TM λH Q E hr h=>?_;intro X;let{a,d,rfl,j,_,q}:=h;refine⟨_,qc (qm (jL (N':=["name","self"]) (ix:=[r4,tH 0]) (te:=Uu (qW (jd 0) (qW (BR (OY K) (qW (zO (Ob K (jd 1) "roads") (jd 0)) QQ)) QQ))) (qv (Q1 (jv 0) rfl)) (λC _ _ fp _=>
   {qC 0,qP,jH (jV (jv 0) (jr Qa {} G.tup boot_tuple (qI (qE (Q1 (jv 1) rfl) (jv 0)))))}))),?_⟩
 let{u,lo,J,kvs,B,b,L,O}:=j;refine⟨m,u,_,_,B,C.cl,C.no,fk _ _,{_,.of b},λD x=>qR (λi p X=>∃(v:Option V) (j:List m9),p=[v,tH (.ref a)]/\qj H X/\X D=tH (.lst (j.map V.ref))/\jg X j ((d.take i).map λr=>(r.1,qz d r)))
  ({r4,[],s0,qd x,qa,s0,λi _ r e=>(nomatch e)}) (λi p X _ ⟨_,_,_,s,_⟩=>.of (s _ _ b)) ?_ ?_⟩
 ·rintro i y p X b ⟨v,j,rfl,l,z,gg⟩;rw[tA,tA]at b;cases o:d[i]? with
  | none=>rw[o]at b;cases b
  | some r=>
   rw[o]at b;obtain rfl:=(tH.inj b).symm;let b:=(tf.mp o).1;let{b,T,U}:=O r (tS o);let O:jk X J (.str r.1) (tH (.ref b)):=by
    let:=jk.k (k:=(Sum.inr r.1:qJ)) (l _ _ L);rwa [T]at this
   calc{m,u,_,_,l _ _ B,C.cl,C.nr,SE _ _,_,O,b,_,s0,.inl ({.of (l _ _ U),λb J=>{J7,λm B=>?_}})};let u:qj X (upd (upd X b (.tup ((qz d r).map V.str))) m (.tup [.str r.1,.ref b])):=(qd J).trans (qd B);let J:upd (upd X b (.tup ((qz d r).map V.str))) m (.tup [.str r.1,.ref b]) b=tH (.tup ((qz d r).map V.str)):=qk qa B;let B:upd (upd X b (.tup ((qz d r).map V.str))) m (.tup [.str r.1,.ref b]) m=tH (.tup [.str r.1,.ref b]):=qa;generalize upd (upd X b (.tup ((qz d r).map V.str))) m (.tup [.str r.1,.ref b])=L at u J B;let b:=u _ _ z;let d:=gg.1;rw[ta,tG]at d;exists _,b,by rw[ta];calc qi {},_,j++[m],s0,qj.upd (l.trans u) x,tj▸qa;rw[tE,o,tj];exact jg.upd_lst (jg.snoc (gg.mono u) B J) b
 ·rintro p X ⟨v,j,rfl,l,z,gg⟩;rw[tu (by rw[ta,ta];calc ti _)]at gg;exact q D j X l x z gg
structure Ri(K:zen)(mg:Str->Option n9)(D:m9)(x gB:Str)(st:o0)(gx:Str)(C f:m9)(fd:zer):Prop where
 cls:XN K C (.ref D::Zn)
 mkr:Sr K C f (.ref D::Zn)
 ns:mg x=tH (.ref C)
 na:Qy K C gx
 fn:jJ K "__init__" gB st f fd
 bi:Qj K fd ["self",gx] []
def Ph(D:m9):xp (.ref D::Zn):=rfl
def Gi(D:m9):(Value.ref D::Zn).contains (.type "BaseException")=true:=rfl
def Ri.rcls{K:zen}{mg:Str->Option n9}{D C f:m9}{x a gx:Str}{st:o0}{b:zer}(h:Ri K mg D x a st gx C f b):EA K C:={f,_,h.mkr,Gi D}
inductive OC(C:m9)(gx:Str)(vs:List V)(H:Hp)(Q:VK):Prop
 | mk (e:_) (y:_):vs=[.ref e,y]->H e=tH (Xl e C)->(∀dx,H dx=r4->Q .non (upd (upd H e (Z1 e C dx)) dx (.xd [(gx,y)])))->OC C gx vs H Q
def Td(C:m9)(gx:Str):Sp:=λa H Q _=>OC C gx a H Q
def Zm{H:Hp}(j:H e=r4)(d:upd H e (Xl e C) a=r4):
  qj H (upd (upd (upd H e (Xl e C)) e (Z1 e C a)) a (.xd fs))/\upd (upd (upd H e (Xl e C)) e (Z1 e C a)) a (.xd fs) e=tH (Z1 e C a)/\upd (upd (upd H e (Xl e C)) e (Z1 e C a)) a (.xd fs) a=tH (.xd fs):=by
 refine{λb _ a=>?_,?_,qa}
 ·let i:=qo a j;rw[qf (λz=>by rw[<-z,qf i,a]at d;cases d),qf i,qf i];exact a
 ·rw[qf (λz=>by rw[<-z,qa]at d;cases d)];calc qa
def Sm(H H':Hp):Prop:=∀b a,H b=tH a->(∀d,a≠.ext d)->H' b=tH a
def Bv(H:Hp)(D:m9):Hp:=λb=>if b=D then r4 else H b
def A9(h:b≠D):Bv H D b=H b:=if_neg h
def Ep:Bv (upd H D o) D=Bv H D:=funext λb=>by
 unfold Bv;by_cases h:b=D
 ·rw[if_pos h,if_pos h]
 ·rw[if_neg h,if_neg h,qf h]
def A8(s:qj H H'):qj (Bv H D) (Bv H' D):=λb u a=>by
 unfold Bv at a ⊢;by_cases h:b=D
 ·rw[if_pos h]at a;cases a
 ·rw[if_neg h]at a ⊢;calc s _ _ a
def Er:qj (Bv H D) H:=λb u a=>by
 unfold Bv at a;by_cases h:b=D
 ·rw[if_pos h]at a;cases a
 ·rwa [if_neg h]at a
def DM(a b:V):([(zeo "order",a),(zeo "roads",b)]:List (Str×V)).lookup (zeo "rows")=r4:=by
 let d:((zeo "rows")==(zeo "order"))=false:=by decide+kernel
 let i:((zeo "rows")==(zeo "roads"))=false:=by decide+kernel
 simp [zbi,d,i]
def YS(g:qe rs)(hr:r∈rs):(qz rs r).Perm r.2:=(List.perm_ext_iff_of_nodup (by unfold qz;calc g.nd.sublist zam) (g.rd r hr)).mpr λy=>WG g hr
def jR(rs:qY):(jT rs).map (·.1)=rs.map (·.1):=by unfold jT;rw[zad];rfl
def Two(a d C:m9)(b:Bool):Prop:=(b=true/\C=a)\/(b=false/\C=d)
structure SK(K:zen)(mg:Str->Option n9)(D CW CM:m9):Prop where
 w:∃f fd,Ri K mg D "Twice" "Twice.__init__" UB "found" CW f fd
 m:∃f fd,Ri K mg D "TooMany" "TooMany.__init__" Ja "found" CM f fd
structure QJ(rs:qY):Prop where
 nm:∀r∈rs,ji r.1=true
 nd:(rs.map (·.1)).Nodup
 to:∀r∈rs,∀z∈r.2,z∈rs.map (·.1)
 rd:∀r∈rs,r.2.Nodup
 len:∀r∈rs,r.2.length<=40
def QJ.names(h:QJ rs):∀r∈rs,∀z∈r.2,ji z=true:=λr hr z a=>by
 let{b,d,rfl}:=tc.mp (h.to r hr z a);calc h.nm b d
def QJ.good(h:QJ rs)(f:(rs.map λr=>r.2.length).sum<=40):qe rs:={h.nm,h.nd,h.to,h.rd,f}
structure Vk(H:Hp)(l:m9)(ps:List m9)(rs:qY):Prop where
 at_:H l=tH (.lst (ps.map V.ref))
 rows:jg H ps rs
 good:QJ rs
 pos:0 < rs.length
 le:rs.length<=14
def Vk.mono(h:Vk H l ps rs)(s:qj H H'):Vk H' l ps rs:={s _ _ h.at_,h.rows.mono s,h.good,h.pos,h.le}
def Ht:Sp:=λb H Q _=>∃(a:m9) (d:List m9) (i:qY),b=[.ref a]/\Vk H a d i/\∀a,qj H a->Q .non a
def y9(i:m9):Sp:=λd H Q E=>∃(b:m9) (j:List m9) (a:qY),d=[.ref b]/\Vk H b j a/\40 < (a.map λr=>r.2.length).sum/\(a.map λr=>r.2.length).sum < 2^60/\∀b d,qj H b->b d=tH (.xd [(zeo "found",.int ((a.map λr=>r.2.length).sum:Nat))])->E (.ref i) (tH d) b
def Uy(i:m9):Sp:=λd H Q E=>∃(b:m9) (a:List V),d=[.ref b]/\H b=tH (.lst a)/\14 < a.length/\a.length<=1000/\∀b d,qj H b->b d=tH (.xd [(zeo "found",.int (a.length:Nat))])->E (.ref i) (tH d) b
def MS(F:jJ K "need_form" "need_form" VS f d)(B:Qd mg)(G:jp mg)(T:jD K mg)(hN:qK K mg "is_name" ze ["thing"] j o)(m:qK K mg "is_tuple_of_names" Wo ["thing"] p u)(l:qK K mg "is_row" YZ ["thing"] v y):qu P w K mg base jh 4 f d ["rows"] Ht:=by
 let{_,o}:=T.mp;calc F.okK xc λH Q E hr h=>?_;intro X;let{j,d,p,rfl,g,q}:=h;refine⟨_,qb (qG (Jd (jX (jj (qr jM {} T.isi boot_isinstance (jV (jv 0) (QM (v:=.ty "list") {} G.lst boot_list rfl)))))
   (Qx (qp jU (qr qy {} B.len boot_len (qI (jv 0))) qh))).pt qS qt)
  (qb (qG (qp JU (qr qy {} B.len boot_len (qI (jv 0))) (Qz (v:=.int 14) {} o ({_,s0}))) qS qt)
  (qc (je (ZX {} T.enu (qI (jv 0))) (Jf rfl (qM (qC 1) (qM (qC 2) Qp)))
   (qc (qG (jX (jj (qw l (pin P w mg base (kZ l.fn B G T hN m)) (qI (jv 2))))) qS qt))))),?_⟩
 let l:(d.map V.ref).length=p.length:=by rw[ta,g.rows.1]
 calc{_,_,_,_,s0,s0,.lst g.at_,T.kll,_,s0,jx ({j,_,s0,.inl (.of g.at_),s0,_,s0,?_})};let l:decide (V.int (((d.map V.ref).length:Nat):Int)=V.int 0)=false:=decide_eq_false (by
  intro z;let:=V.int.inj z;let:=g.pos;omega)
 rw[l];calc jx ({j,_,s0,.inl (.of g.at_),_,_,s0,s0,_,s0,?_});let l:decide ((14:Int) < (((d.map V.ref).length:Nat):Int))=false:=decide_eq_false (by
  let:=g.le;omega)
 calc Yw (λz=>absurd z (by rw[l];decide)) (λ_=>?_);refine{j,s0,{_,.of g.at_},Zg (λi l d=>∃v1 m,l=[tH (.ref j),v1,m]/\qj H d) ({r4,r4,s0,qj.refl H}) (λi l d _ ⟨_,_,_,s⟩=>.of (s _ _ g.at_)) ?_ ?_}
 ·rintro i x l d u v p ⟨v1,m,rfl,j⟩;let{y,C,r,rfl,_,o,a,b}:=(g.mono (j.trans (qd (o:=.tup [.int (i:Nat),x]) p))).rows.item v;exact{u,_,s0,.of qa,s0,s0,y,C,r,s0,a,b,g.good.nm r o,g.good.names r o,tP (g.good.len r o) {},λ_ o=>{_,s0,jx ({_,_,s0,(j.trans (qd p)).trans o})}}
 ·rintro l d ⟨v1,m,rfl,j⟩;calc q d j
def u0{X:Cx}{x:Str}{st:o0}{ps:List Str}{f:m9}{b:zer}{k:Nat}{d:Sp}{E:XK}{e:Expr}{a:List Expr}{t:TA}{p pos:Pos}(h:qK X.K X.mg x st ps f b)(G:qu X.prog X.w X.K X.mg X.base (Z6 X.prog X.w) k f b ps d)(i:QT (Z6 X.prog X.w) X E)(j:JA X (e::a) t)(l:(x==("__debug__":Str))=false:=by decide)(m:starEach (e::a) X.env=(false,eval e X.env)::starEach a X.env:=by rfl)(o:(backTo pos (starEach a X.env)).any (·.1)=false:=by rfl)(q:Gl X x:=by rfl)(hr:jK k X.A:=by first | assumption | calc jK.mono hr {}):
 JE X (.Call (.Name x p) (e::a) [] pos) (Wi d [] E t):=.of (uF G hr q h.ns h.fn.kp h.bi .nil i j.to l m o)
def KJ:ql ["self","found"] ["self","found"] (qg Ja):=j3
def Ck:ql ["self","found"] ["self","found"] (qg UB):=j3
def Y6(x:Ri K mg D "TooMany" "TooMany.__init__" Ja "found" C f a):qu P w K mg base jh 1 f a ["self","found"] (Td C "found"):=by
 refine x.fn.okJ KJ (λa H Q E h=>?_) (λ_ A _ s H a Q E hr h=>?_)
 ·let{e,y,rfl,_}:=h;rfl
 ·let{e,y,rfl,a,k}:=h;calc{_,qc (Ar (jv 0) (jv 1) rfl),e,C,s0,a,x.cls,Ph D,x.na,λa b=>k a b}
def Dy(x:Ri K mg D "Twice" "Twice.__init__" UB "found" C f a):qu P w K mg base jh 1 f a ["self","found"] (Td C "found"):=by
 refine x.fn.okJ Ck (λa H Q E h=>?_) (λ_ A _ s H a Q E hr h=>?_)
 ·let{e,y,rfl,_}:=h;rfl
 ·let{e,y,rfl,a,k}:=h;calc{_,qc (Ar (jv 0) (jv 1) rfl),e,C,s0,a,x.cls,Ph D,x.na,λa b=>k a b}
def Du(F:jJ K "need_few_roads" "need_few_roads" NO f j)(B:Qd mg)(T:jD K mg)(d:Ri K mg D "TooMany" "TooMany.__init__" Ja "found" u l m):qu P w K mg base (Z6 P w) 3 f j ["rows"] (y9 u):=by
 let{_,o}:=T.mr;calc F.okY Fu λH Q E hr h=>?_;let{_,y,j,rfl,g,big,C,q}:=h;refine⟨_,qb (qB 1 (qr (Ug rfl) {} T.sum boot_sum (qI (jL (N':=["row"]) (ix:=[r4]) (te:=BR (λp H Q=>∃l m,p=[.ref l]/\(JX K H l m\/SqT K H l m)/\Q (.int m.length) H) (qW (YM (Yo K) (jd 0) (tC (.int 1))) QQ)) (qv (jv 0)) (λ_ _ _ fp _=>
   {qC 0,qP,qr qy {} B.len boot_len (qI (qF qD (jv 0) qh))})))))
  (qc (qG (qp JU (jv 1) (Qz (v:=.int 40) {} o ({_,s0}))) (qc (Yt rfl zC (Yv d.mkr (Y6 d) hr {} d.ns d.bi QP (qI (jv 1))))) qt)),?_⟩
 refine{{_,.of g.at_},λp l=>qR (xs:=y.map V.ref) (λi m o=>∃v,m=[v]/\o=upd H p (.lst (((j.take i).map λr=>r.2.length).map λn=>V.int ((n:Nat):Int)))) ({r4,s0,s0}) (λi m o _ ⟨_,_,e⟩=>e▸.of (qk g.at_ l)) ?_ ?_}
 ·rintro i x m o J ⟨v,rfl,rfl⟩;let{_,L,r,rfl,z,_,a,b}:=g.rows.item J;let J:=(tf.mp z).1;exists _,_,.of (qk a l),s0,L,_,s0,.inr (.of (qk b l)),_,qa,?_,_,rfl
  ·rw[ta,ta,tG];let:=g.le;exact qi {}
  ·rw[jF,tE,z,tj,tj,ta];rfl
 ·rintro m o ⟨v,rfl,rfl⟩;let e:j.take (y.map V.ref).length=j:=tu (by rw[ta,g.rows.1];calc ti _);rw[e];calc{p,_,s0,.of qa,tJ C {},?_};let m:=qd (o:=HO.lst ((j.map λr=>r.2.length).map λn=>V.int ((n:Nat):Int))) l;generalize upd H p (.lst ((j.map λr=>r.2.length).map λn=>V.int ((n:Nat):Int)))=l at m;calc{_,_,s0,s0,_,s0,jI (decide_eq_true (by show (40:Int) < _;omega)) ?_};calc{J7,λe j=>{e,_,s0,qa,λl o=>{s0,e,u,l,s0,(Zm j o).2.1,d.rcls,?_}}};let{d,_,p}:=Zm j o;calc q _ l (m.trans d) p
def MR(F:jJ K "need_form" "need_form" VS f b)(B:Qd mg)(G:jp mg)(T:jD K mg)(a:Ri K mg D "TooMany" "TooMany.__init__" Ja "found" i d j):qu P w K mg base (Z6 P w) 3 f b ["rows"] (Uy i):=by
 let{_,j}:=T.mp;calc F.okY xc λH Q E hr h=>?_;let{d,_,rfl,b,big,_,q}:=h;refine⟨_,qb (qG (Jd (jX (jj (qr jM {} T.isi boot_isinstance (jV (jv 0) (QM (v:=.ty "list") {} G.lst boot_list rfl)))))
   (Qx (qp jU (qr qy {} B.len boot_len (qI (jv 0))) qh))).pt qS qt)
  (qb (qG (qp JU (qr qy {} B.len boot_len (qI (jv 0))) (Qz (v:=.int 14) {} j ({_,s0}))) (qc (Yt rfl zC (Yv a.mkr (Y6 a) hr {} a.ns a.bi QP (qI (qr qy {} B.len boot_len (qI (jv 0))))))) qt) qS),?_⟩
 calc{_,_,_,_,s0,s0,.lst b,T.kll,_,s0,jx ({d,_,s0,.inl (.of b),s0,_,s0,qU (decide_eq_false λz=>by have:=V.int.inj z;omega) ({d,_,s0,.inl (.of b),_,_,s0,s0,_,s0,jI (decide_eq_true {}) ?_})})};calc{d,_,s0,.inl (.of b),J7,λe b=>{e,_,s0,qa,λd j=>{s0,e,i,d,s0,(Zm b j).2.1,a.rcls,?_}}};let{a,_,i}:=Zm b j;calc q _ d a i
def MI(F:jJ K "need_rows" "need_rows" zd f d)(B:Qd mg)(G:jp mg)(T:jD K mg)(N:Xr K mg)(J:Ri K mg D "TooMany" "TooMany.__init__" Ja "found" j l m):qu P w K mg base (Z6 P w) 5 f d ["rows"] (y9 j):=by
 let{_,_,y}:=N.nm;let{_,_,j}:=N.tn;let{_,_,o}:=N.rw;let{_,_,l}:=N.fo;let{_,_,d}:=N.ow;let{_,_,z}:=N.en;let{_,_,C}:=N.fw;calc F.okY xb λH Q E hr h=>?_;let{p,u,m,rfl,g,big,Y,q}:=h;exists _,qb (q5 (qw l (pin P w mg base (MS l.fn B G T y j o)) (qI (jv 0))))
  (qb (Qu (i:=1) (N':=["row"]) (ix:=[r4]) (te:=YM (Yo K) (jd 0) (tC (.int 0))) (qv (jv 0)) (λ_ y l fp _=>
   {qC 0,qP,qF qD (jv 0) qh}))
  (qb (q5 (qw d (pin P w mg base (MC d.fn)) (qI (jv 1))))
  (qb (X5 (t:=RI (yt K (jd 0)) (Ql 2) (RK (Wi Np [] E0 (qW (YM (Yo K) (jd 2) (tC (.int 1))) (qW (jd 1) QQ))))) λ_ W d j o=>je (hp:=d) (qv (jv 0)) (qC 2)
   (qc (q5 (qw z (pin P w mg base (uM z.fn)) (jV (qF qD (jv 2) qh) (jv 1))))))
  (qc (q5 (u0 C (pin P w mg base (Du C.fn B T J)) J8 (qI (jv 0))))))))
 calc{p,u,m,s0,g,λo L=>?_};let g1:=g.mono L;refine{{_,.of g1.at_},λD z=>qR (xs:=u.map V.ref) (λi d j=>∃v,d=[v]/\j=upd o D (.lst (((m.take i).map (·.1)).map V.str))) ({r4,s0,s0}) (λi d j _ ⟨_,_,e⟩=>e▸.of (qk g1.at_ z)) ?_ ?_}
 ·rintro i x d j C ⟨v,rfl,rfl⟩;let{p',O,r,rfl,J,o,a,b}:=g1.rows.item C;let U:=(tf.mp J).1;exists _,_,.of (qk a z),s0,_,qa,?_,_,rfl
  ·rw[ta,ta,tG];let:=g.le;exact qi {}
  ·rw[jF,tE,J,tj,tj];rfl
 ·rintro d j ⟨v,rfl,rfl⟩;rw[tu (by rw[ta,g.rows.1];calc ti _)];calc{D,m.map (·.1),s0,qa,g.good.nd,by rw[ta];let:=g.le;omega,λl y=>?_};let U:=(qd z).trans y;let g2:=g1.mono U;refine{{_,.of g2.at_},jz (λi d j=>∃v,d=[tH (.ref p),tH (.ref D),v]/\qj l j) ({r4,s0,qj.refl l}) (λi d j _ ⟨_,_,s⟩=>.of (s _ _ g2.at_)) ?_ ?_}
  ·rintro i x d j C ⟨v,rfl,l⟩;let{p',O,r,rfl,J,o,a,b}:=(g2.mono l).rows.item C;refine{_,_,.of a,s0,O,D,r.2,m.map (·.1),s0,b,l _ _ (y _ _ qa),g.good.rd r o,g.good.to r o,tP (g.good.len r o) {},λy o=>{_,s0,l.trans o}}
  ·rintro d j ⟨v,rfl,l⟩;calc{p,u,m,s0,g2.mono l,big,Y,λy d o=>q y d (((L.trans U).trans l).trans o)}
def MJ(F:jJ K "need_rows" "need_rows" zd f a)(B:Qd mg)(G:jp mg)(T:jD K mg)(N:Xr K mg)(b:Ri K mg D "TooMany" "TooMany.__init__" Ja "found" d i j):qu P w K mg base (Z6 P w) 5 f a ["rows"] (Uy d):=by
 let{_,_,a}:=N.fo;calc F.okY xb λH Q E hr h=>?_;let{d,i,rfl,h}:=h;calc{_,qb (q5 (u0 a (pin P w mg base (MR a.fn B G T b)) J8 (qI (jv 0)))) qS,d,i,s0,h}
def OB(b:m9):Sp:=λd H Q E=>∃(x a:m9),d=[.ref x,.ref a]/\(y9 b [.ref a] H Q E\/Uy b [.ref a] H Q E)
def V3(C:EF K mg j f d)(B:Qd mg)(G:jp mg)(T:jD K mg)(N:Xr K mg)(a:qK K mg "need_rows" zd ["rows"] l m)(b:Ri K mg D "TooMany" "TooMany.__init__" Ja "found" i o p):qu P w K mg base (Z6 P w) 6 f d ["self","rows"] (OB i):=by
 refine C.fn.okX HS (λd H Q E h=>?_) (λ_ A _ s H d Q E hr h=>?_)
 ·let{x,d,rfl,_}:=h;rfl
 ·let{x,d,rfl,h}:=h;exists _,qb (q5 (u0 a ((MI a.fn B G T N b).either (MJ a.fn B G T N b)) J8 (qI (jv 1)))) qS;rcases h with ⟨a,b,d,e,h⟩ | ⟨a,i,e,h⟩
  ·exact .inl ({a,b,d,e,h})
  ·exact .inr ({a,i,e,h})
abbrev SQ(C:m9)(d:Sp)(E:XK)(t:TA):TE:=λa H Q=>t a H λa b=>a.length<=zes/\∀x,b x=r4->d (.ref x::a) (upd b x (Xl x C)) (λv a=>v=.non/\Q (.ref x) a) E
def Qb(rs:qY):Nat:=(rs.map λr=>r.2.length).sum
def VU(a b:qY):Qb (a++b)=Qb a+Qb b:=by unfold Qb;rw[tj,zbV]
def ZM(g:qe rs):Qb (jT rs)=Qb rs:=by
 unfold Qb jT;rw[zad];congr 1;calc zaC λr hr=>(YS g hr).length_eq
def XI(rs us:qY):Option (Bool×V):=match (us.map (·.1)).find? (λz=>decide (z∈rs.map (·.1))) with
 | some z=>tH (true,.str z)
 | none=>if 14 < rs.length+us.length then tH (false,.int ((rs.length+us.length:Nat):Int)) else if 40 < Qb rs+Qb us then tH (false,.int ((Qb rs+Qb us:Nat):Int)) else r4
inductive Fg(CG CW CM:m9)(vs:List V)(H:Hp)(Q:VK)(E:XK):Prop
 | mk (g h:m9) (rs us:qY):vs=[.ref g,.ref h]->qZ CG H g rs->qZ CG H h us->qe rs->qe us->(0 < rs.length)->(rs.length<=14)->(us.length<=14)->((∀b v,XI rs us=tH (b,v)->∀Hx dx C,qj H Hx->Hx dx=tH (.xd [(zeo "found",v)])->Two CW CM C b->E (.ref C) (tH dx) Hx))->((XI rs us=r4->∀H' x,qj H H'->qZ CG H' x (jT rs++jT us)->qe (jT rs++jT us)->Q (.ref x) H'))->Fg CG CW CM vs H Q E
def OA(a b d:m9):Sp:=λi H Q E=>Fg a b d i H Q E
def Zx(g:qe rs):QJ (jT rs):=by
 refine{λr hr=>?_,by rw[jR];calc g.nd,λr hr z d=>?_,λr hr=>?_,λr hr=>?_}
 all_goals let{a,b,rfl}:=tc.mp hr
 ·exact g.nm a b
 ·rw[jR];exact(tV.mp d).1
 ·exact g.nd.sublist zam
 ·show (qz rs a).length<=40;rw[(YS g b).length_eq];calc g.len a b
def VA(a:QJ rs)(b:QJ us)(d:∀z∈us.map (·.1),z∉rs.map (·.1)):QJ (rs++us):=by
 refine{λr hr=>?_,?_,λr hr z i=>?_,λr hr=>?_,λr hr=>?_}
 ·rcases tU.mp hr with hr | hr
  ·exact a.nm r hr
  ·exact b.nm r hr
 ·rw[tj];exact zaL.mpr ({a.nd,b.nd,λx j y l e=>d y l (e▸j)})
 ·rw[tj];rcases tU.mp hr with hr | hr
  ·exact zaa _ (a.to r hr z i)
  ·exact t3 _ (b.to r hr z i)
 ·rcases tU.mp hr with hr | hr
  ·exact a.rd r hr
  ·exact b.rd r hr
 ·rcases tU.mp hr with hr | hr
  ·exact a.len r hr
  ·calc b.len r hr
def jg.app(a:jg H ps rs)(b:jg H d us):jg H (ps++d) (rs++us):=⟨by rw[tz,tz,a.1,b.1],λi l r d j=>by
 by_cases m:i < ps.length
 ·rw[tZ m]at d;rw[tZ (a.1▸m)]at j;exact a.2 i l r d j
 ·rw[tY {}]at d;rw[tY (by rw[<-a.1];omega),<-a.1]at j;calc b.2 _ l r d j⟩
def yB:∀{l:List Str} {z:Str},l.find? p=tH z->∃a b,l=a++z::b/\p z=true/\∀y∈a,p y=false
 | [],_,h=>by cases h
 | x::l,z,h=>by
  rw[zaY]at h;cases c:p x with
  | true=>
   rw[c]at h;cases h;calc{[],l,s0,c,λy d=>(nomatch d)}
  | false=>
   rw[c]at h;let{a,b,e,i,no}:=yB h;calc{x::a,b,by rw[e];rfl,i,λy d=>?_};rcases tO.mp d with e | d
   ·rwa [e]
   ·calc no y d
abbrev nJn:List Str:=["one","other","ahead","name"]
abbrev uH:List Str:=["one","other"]
def TF:ql nJn uH (qg kz):=j3
def Pp{f:m9}(F:jJ K "joined" "joined" kz f fd)(B:Qd mg)(G:jp mg)(T:jD K mg)(N:Xr K mg)(M:GM K mg J)(hW:qK K mg "need_rows" zd ["rows"] fW aw)(ab:yN K J "rows" "Ground.rows" zY ["self"] ax ay)(Y:SK K mg D L CM):
  qu P w K mg base (Z6 P w) 8 f fd uH (OA J L CM):=by
 let{_,_,l}:=M.cls;let{_,_,hM}:=M.nm;let{_,_,O}:=Y.w;let{_,_,xM}:=Y.m;let GN:=pin P w mg base (j7 hM.fn l G);let ah:=pin P w mg base (WM ab.fn l G);calc F.okY TF λH Q E hr h=>?_;let{g,h,d,j,rfl,gr,gh,gd,ud,pos,al,am,qX,qQ}:=h;let Y:jK 1 _:=hr.mono {};refine⟨_,qb (qB 2 (Jg hM l.cl GN Y (jv 0)))
  (qb (X5 (t:=RI (yt K (Wh J "names" (kj J) [] E0 (jd 1) QQ)) (Ql 3) (Kz (Yh (YM (FJ K false) (jd 3) (jd 2))) (NF K E (SQ L (Td L "found") E0 (qW (jd 3) QQ))) VF)) λ_ W o _ p=>
    je (hp:=o) (qv (Jg hM l.cl GN Y (jv 1))) (qC 3)
    (qc (qG (qp Q4 (jv 3) (jv 2) (by with_unfolding_all rfl)) (qc (Yt rfl p (Yv O.mkr (Dy O) (hr.mono {}) {} O.ns O.bi QP (qI (jv 3))))) qt)))
  (qc (qm (QL l.mkr ((zh l B G T N hW).toX.either (V3 l B G T N hW xM)) hr {} l.ns l.bi .nil J8 (qI (jc UQ (Jg ab l.cl ah Y (jv 0)) (Jg ab l.cl ah Y (jv 1)))))))),?_⟩
 let{dx,fs,l,Y,_}:=gr.ins;calc{dx,fs,l,Y,g,d,s0,gr,λln Y=>?_};let l:qj H (upd H ln (.lst ((d.map (·.1)).map V.str))):=qd Y;let h1:upd H ln (.lst ((d.map (·.1)).map V.str)) ln=tH (.lst ((d.map (·.1)).map V.str)):=qa;generalize upd H ln (.lst ((d.map (·.1)).map V.str))=Y at l h1;let{an,ao,ap,aq,_}:=(gh.mono l).ins;calc{an,ao,ap,aq,h,j,s0,gh.mono l,λlm ar=>?_};let s2:qj Y (upd Y lm (.lst ((j.map (·.1)).map V.str))):=qd ar;let U:upd Y lm (.lst ((j.map (·.1)).map V.str)) lm=tH (.lst ((j.map (·.1)).map V.str)):=qa;generalize upd Y lm (.lst ((j.map (·.1)).map V.str))=H2 at s2 U;let aa:=l.trans s2;let ac:=s2 _ _ h1;exists{_,.of U};cases q:(j.map (·.1)).find? (λz=>decide (z∈d.map (·.1))) with
 | some z=>
  let res:XI d j=tH (true,.str z):=by unfold XI;rw[q]
  let{a,b,l,pz,no}:=yB q;rw[l]at U;refine jz (λi o X=>(∃v,o=[tH (.ref g),tH (.ref h),tH (.ref ln),v])/\X=H2/\i<=a.length) ({{_,s0},s0,zax _}) (λi o X _ ⟨_,e,_⟩=>by rw[e];calc .of U) ?_ ?_
  ·rintro i y o X C ⟨⟨v,rfl⟩,rfl,hi⟩;rcases zcO i a.length with c | c
   ·rw[tj,tZ (by rw[ta];calc c)]at C;let{x,ex,p,rfl}:=jA C;let ix:Jz (.str x) ((d.map (·.1)).map V.str)=false:=by
     cases e:Jz (.str x) ((d.map (·.1)).map V.str) with
     | false=>rfl
     | true=>exact absurd (Qf.mp e) (of_decide_eq_false (no x p))
    exists ln,_,s0,.inl (.of ac),s0,jQ _,_,rfl;show if (Jz (.str x) ((d.map (·.1)).map V.str))=true then _ else _
    exact qU ix ({{_,s0},s0,c})
   ·let e:i=a.length:={}
    subst e;rw[tj,tY (by rw[ta];calc ti _),ta,zcl]at C;obtain rfl:V.str z=y:=by simpa using C
    exists ln,_,s0,.inl (.of ac),s0,jQ _,_,rfl;show if (Jz (.str z) ((d.map (·.1)).map V.str))=true then _ else _
    calc jI (Qf.mpr (of_decide_eq_true pz)) ({J7,λe l=>{e,_,s0,qa,λdx Y=>{s0,e,L,dx,s0,(Zm l Y).2.1,O.rcls,?_}}});let{m1,m2,O}:=Zm l Y;exact qX _ _ res _ dx L (aa.trans m1) O (.inl ({s0,s0}))
  ·rintro o X ⟨_,_,hi⟩;rw[ta,tz,t7]at hi;omega
 | none=>
  let no:∀z∈j.map (·.1),z∉d.map (·.1):=λz l m=>by
   let:=zcU.mp q z l;exact this (decide_eq_true m)
  refine jz (λi o X=>(∃v,o=[tH (.ref g),tH (.ref h),tH (.ref ln),v])/\X=H2) ({{_,s0},s0}) (λi o X _ ⟨_,e⟩=>by rw[e];calc .of U) ?_ ?_
  ·rintro i y o X C ⟨⟨v,rfl⟩,rfl⟩;let{x,ex,p,rfl}:=jA C;let ix:Jz (.str x) ((d.map (·.1)).map V.str)=false:=by
    cases e:Jz (.str x) ((d.map (·.1)).map V.str) with
    | false=>rfl
    | true=>exact absurd (Qf.mp e) (no x p)
   exists ln,_,s0,.inl (.of ac),s0,jQ _,_,rfl;show if (Jz (.str x) ((d.map (·.1)).map V.str))=true then _ else _
   exact qU ix ({{_,s0},s0})
  ·rintro o X ⟨⟨v,rfl⟩,rfl⟩;let l:=gr.mono aa;let C:=gh.mono aa;let{o,_,_,_,L,_}:=id l;calc{o,_,L,DM _ _,g,d,s0,l,al,λm1 o _ U _ l ai=>?_};let{L,_,_,_,O,_}:=id (C.mono U);calc{L,_,O,DM _ _,h,j,s0,C.mono U,am,λm2 C L t2 _ O aj=>?_};let Y:(jT d).length=d.length:=ta ..;let Y:(jT j).length=j.length:=ta ..;let Y:=ai.1;let Y:=aj.1;calc{m1,m2,_,_,s0,s0,.of (t2 _ _ l),.of O,by rw[ta,ta];calc zab (qi {}),λl as x ak p Y au=>?_};rw[(tj).symm]at p Y ⊢;let O:qj L (upd L l (.lst ((o++C).map V.ref))):=qd as;let h3:upd L l (.lst ((o++C).map V.ref)) l=tH (.lst ((o++C).map V.ref)):=qa;let ae:=((ai.mono t2).mono O).app (aj.mono O);generalize upd L l (.lst ((o++C).map V.ref))=X3 at O h3 ae p Y;let af:=aa.trans ((U.trans t2).trans O);let L:qj X3 (upd (upd X3 ak (.own x)) x (.ins J ak [])):=λb u O=>by
    rwa [qf (qo O p),qf (qo O Y)]
   let gH:=VA (Zx gd) (Zx ud) (by rwa [jR,jR]);let rd:((jT d++jT j).map λr=>r.2.length).sum=Qb d+Qb j:=by
    show Qb (jT d++jT j)=_;rw[VU,ZM gd,ZM ud]
   let av:(o++C).length=d.length+j.length:=by rw[tz];omega
   let J:(jT d++jT j).length=d.length+j.length:=by rw[tz];omega
   by_cases c1:14 < d.length+j.length
   ·let res:XI d j=tH (false,.int ((d.length+j.length:Nat):Int)):=by unfold XI;rw[q];show (if _ then _ else _)=_;rw[if_pos c1]
    calc .inr ({x,l,s0,.inr ({l,_,s0,L _ _ h3,by rw[ta];omega,by rw[ta];omega,λJ ag O U=>?_})});rw[ta,av]at U;exact qX _ _ res J ag CM ((af.trans L).trans O) U (.inr ({s0,s0}))
   ·by_cases c2:40 < Qb d+Qb j
    ·let res:XI d j=tH (false,.int ((Qb d+Qb j:Nat):Int)):=by unfold XI;rw[q];show (if _ then _ else _)=_;rw[if_neg c1,if_pos c2]
     calc .inr ({x,l,s0,.inl ({l,o++C,jT d++jT j,s0,{L _ _ h3,ae.mono L,gH,{},{}},rd▸c2,by rw[rd];calc zbf (Nat.add_le_add gd.few ud.few) {},λJ ag O U=>?_})});rw[rd]at U;exact qX _ _ res J ag CM ((af.trans L).trans O) U (.inr ({s0,s0}))
    ·let res:XI d j=r4:=by unfold XI;rw[q];show (if _ then _ else _)=_;rw[if_neg c1,if_neg c2]
     let d:=gH.good (by rw[rd];omega);exact .inl (Q0 h3 ae d {} {} p Y au λJ O j=>qQ res J x (af.trans O) j d)
abbrev zT:=Str×Str
def xl(A B:List Str):List zT:=A.flatMap λa=>B.map λb=>(a,b)
def j5:p∈xl A B↔p.1∈A/\p.2∈B:=by
 unfold xl;rw[zdo];constructor
 ·rintro⟨a,d,h⟩;let{b,i,rfl}:=tc.mp h;exact{d,i}
 ·rintro⟨d,i⟩;calc{p.1,d,tc.mpr ({p.2,i,s0})}
def M0:∀{A B:List Str},A.Nodup->B.Nodup->(xl A B).Nodup
 | [],_,_,_=>zaV
 | a::A,B,i,d=>by
  let{n1,n2}:=zaj.mp i;show (B.map (λb=>(a,b))++xl A B).Nodup;calc zaL.mpr ({zbd.mpr (d.imp λne e=>ne (Prod.mk.inj e).2),M0 n2 d,λx d y i e=>?_});let{b,_,rfl}:=tc.mp d;subst e;calc n1 (j5.mp i).1
def uT(A B:List Str):(xl A B).length=A.length*B.length:=by
 induction A with
 | nil=>simp [xl]
 | cons a A d=>
  show (B.map (λb=>(a,b))++xl A B).length=_;rw[tz,ta,d,t7,zei,Nat.add_comm]
def J6(H:Hp)(ps:List m9)(xs:List zT):Prop:=ps.length=xs.length/\∀(i:Nat) (a:m9) (x:zT),ps[i]?=tH a->xs[i]?=tH x->H a=tH (.tup [.str x.1,.str x.2])
def J6.mono(h:J6 H ps xs)(s:qj H H'):J6 H' ps xs:={h.1,λi a x b d=>s _ _ (h.2 i a x b d)}
def J6.nil(H:Hp):J6 H [] []:={s0,λi _ x e=>by simp at e}
def J6.app(a:J6 H ps xs)(b:J6 H d ys):J6 H (ps++d) (xs++ys):=⟨by rw[tz,tz,a.1,b.1],λi l x d j=>by
 by_cases m:i < ps.length
 ·rw[tZ m]at d;rw[tZ (a.1▸m)]at j;exact a.2 i l x d j
 ·rw[tY {}]at d;rw[tY (by rw[<-a.1];omega),<-a.1]at j;calc b.2 _ l x d j⟩
def J6.one{H:Hp}(h:H p=tH (.tup [.str x.1,.str x.2])):J6 H [p] [x]:=⟨s0,λi b d a j=>by
 cases i with
 | zero=>
  obtain rfl:p=b:=by simpa using a
  obtain rfl:x=d:=by simpa using j
  calc h
 | succ i=>simp at a⟩
def J6.lst(h:J6 H ps xs)(b:H D=tH (.lst ys)):J6 (upd H D (.lst zs)) ps xs:=⟨h.1,λi d x j l=>by
 let a:=h.2 i d x j l;rwa [qf (λe=>by rw[e,b]at a;cases a)]⟩
def J6.at_{H:Hp}{ps:List m9}{xs:List zT}(h:J6 H ps xs){i:Nat}{y:V}(a:(ps.map V.ref)[i]?=tH y):∃p x,y=.ref p/\ps[i]?=tH p/\xs[i]?=tH x/\x∈xs/\H p=tH (.tup [.str x.1,.str x.2]):=by
 rw[tA]at a;cases e:ps[i]? with
 | none=>rw[e]at a;cases a
 | some p=>
  rw[e]at a;let b:i < xs.length:=by rw[<-h.1];exact(tf.mp e).1
  let ex:=tv b;calc{p,xs[i],(tH.inj a).symm,s0,ex,zbo b,h.2 i p _ e ex}
def dP(x:zT):PyData:=.tuple [.str x.1,.str x.2]
def Bd(x y:zT):PyData.eqv (dP x) (dP y)=decide (x=y):=by
 let gF:PyData.eqv (dP x) (dP y)=((x.1==y.1)&&((x.2==y.2)&&true)):=rfl;rw[gF,Bool.and_true,zaB,zaw,beq_iff_eq,beq_iff_eq,decide_eq_true_iff];calc{λh=>Prod.ext h.1 h.2,λh=>by rw[h];calc{s0,s0}}
def Ss{H:Hp}(h:H p=tH (.tup [.str x.1,.str x.2])):DV K H (.ref p) (dP x):=.tup (.of h) (.cons (.str _) (.cons (.str _) .nil))
def Hi:∀{ps:List m9} {xs:List zT},J6 H ps xs->DVs K H (ps.map V.ref) (xs.map dP)
 | [],[],_=>.nil
 | [],_::_,h=>by cases h.1
 | _::_,[],h=>by cases h.1
 | d::ps,x::xs,h=>.cons (Ss (h.2 0 d x rfl rfl)) (Hi ({zee.inj h.1,λi a b j l=>h.2 (i+1) a b (by simpa using j) (by simpa using l)}))
def SH(x:zT):Prop:=ji x.1=true/\ji x.2=true
def Hc(h:SH x):(dP x).canLay0=true:=by
 show (PyData.strOk x.1&&(PyData.strOk x.2&&true))=true;rw[uO h.1,uO h.2];rfl
def Sf:∀{xs:List zT},(∀x∈xs,SH x)->PyData.canLayAll0 (xs.map dP)=true
 | [],_=>rfl
 | x::xs,h=>by
  rw[tR,PyData.canLayAll0,Sf λy a=>h y (tI _ a),Bool.and_true];calc Hc (h x tK)
def Sg(xs:List zT)(x:zT):(xs.map dP).any (λz=>PyData.eqv z (dP x))=decide (x∈xs):=by
 rw[zaB,zaW,decide_eq_true_iff];constructor
 ·rintro⟨d,hd,e⟩;let{y,_,rfl}:=tc.mp hd;rw[Bd]at e;rwa [<-of_decide_eq_true e]
 ·calc λh=>{dP x,tc.mpr ({x,h,s0}),by rw[Bd];calc decide_eq_true rfl}
def Vn(rs:qY)(x:zT):List zT:=(js rs x.1).map λe=>(e,x.2)
def FO(us:qY)(x:zT):List zT:=(js us x.2).map λe=>(x.1,e)
def YN(rs us:qY)(x:zT):List zT:=Vn rs x++(FO us x).filter λy=>decide (y∉Vn rs x)
inductive E2(CG:m9)(vs:List V)(H:Hp)(Q:VK):Prop
 | mk (g h:m9) (rs us:qY):vs=[.ref g,.ref h]->qZ CG H g rs->qZ CG H h us->(rs.length<=14)->(us.length<=14)->(∀H' l ps,qj H H'->H l=r4->H' l=tH (.lst (ps.map V.ref))->J6 H' ps (xl (rs.map (·.1)) (us.map (·.1)))->Q (.ref l) H')->E2 CG vs H Q
def S4(a:m9):Sp:=λb H Q _=>E2 a b H Q
inductive E6(CG:m9)(vs:List V)(H:Hp)(Q:VK):Prop
 | mk (g h t:m9) (rs us:qY) (r u:Str×List Str):vs=[.ref g,.ref h,.ref t]->qZ CG H g rs->qZ CG H h us->qe rs->qe us->(rs.length<=14)->(us.length<=14)->(r∈rs)->(u∈us)->H t=tH (.tup [.str r.1,.str u.1])->(∀H' l ps,qj H H'->H l=r4->H' l=tH (.lst (ps.map V.ref))->J6 H' ps (YN rs us (r.1,u.1))->Q (.ref l) H')->E6 CG vs H Q
def Ou(a:m9):Sp:=λb H Q _=>E6 a b H Q
abbrev nPs:List Str:=["one","other","pairs","name"]
def Tp:ql nPs uH (qg KM):=j3
def e6:(["beside","name"]:List Str).Nodup:=by decide+kernel
def Pk(F:jJ K "pairs_of" "pairs_of" KM f a)(G:jp mg)(M:GM K mg d):qu P w K mg base jh 2 f a uH (S4 d):=by
 let{_,_,j}:=M.cls;let{_,_,l}:=M.nm;let m:=pin P w mg base (j7 l.fn j G);calc F.okK Tp λH Q E hr z=>?_;intro X;let{g,h,d,a,rfl,o,O,_,ab,q}:=z;exists _,qb (qB 2 (QH Qi))
  (qb (je (qv (Jg l j.cl m hr (jv 0))) (qC 3)
   (qc (q5 (Jh zar zbs zbt ZE (jv 2) (qI (jL (ix:=[r4,tH 3]) (qv (Jg l j.cl m hr (jv 1))) (λj p x fp _=>
    {jP (i:=0) e6 rfl (Or.inl rfl),qP,jH (jV (jv 1) (jv 0))})))))))
  (qc (qm (jv 2))))
 calc{J7,λL B=>?_};let v:qj H (upd H L (.lst [])):=qd B;let l:upd H L (.lst []) L=tH (.lst []):=qa;generalize upd H L (.lst [])=j at v l;let{m,fs,C,J,_}:=(o.mono v).ins;calc{m,fs,C,J,g,d,s0,o.mono v,λln m=>?_};let p:qj j (upd j ln (.lst ((d.map (·.1)).map V.str))):=qd m;let o:upd j ln (.lst ((d.map (·.1)).map V.str)) ln=tH (.lst ((d.map (·.1)).map V.str)):=qa;generalize upd j ln (.lst ((d.map (·.1)).map V.str))=x at p o;refine{{_,.of o},jz (λi C X=>∃(U:Option V) (j:List m9),C=[tH (.ref g),tH (.ref h),tH (.ref L),U]/\Fr x L X/\X L=tH (.lst (j.map V.ref))/\J6 X j (xl ((d.map (·.1)).take i) (a.map (·.1)))) ({r4,[],s0,Fr.refl,p _ _ l,.nil _}) (λi C X _ ⟨_,_,_,fr,_⟩=>.of (fr _ _ o (λe=>by rw[e,l]at m;cases m))) ?_ ?_}
 ·rintro i y C X hy ⟨U,j,rfl,fr,J,pr⟩;let{z,ez,_,rfl}:=jA hy;let l:=(tf.mp ez).1;rw[ta]at l;let m:=O.mono λb u l=>fr _ _ (p _ _ (v _ _ l)) (qo l B);let{o,x,O,T,_}:=m.ins;calc{.inl ({s0,_,.of J}),o,x,O,T,h,a,s0,m,λm o=>{{_,.of qa},λD hD=>?_}};let t1:qj X (upd X m (.lst ((a.map (·.1)).map V.str))):=qd o;let o:upd X m (.lst ((a.map (·.1)).map V.str)) m=tH (.lst ((a.map (·.1)).map V.str)):=qa;generalize upd X m (.lst ((a.map (·.1)).map V.str))=x at t1 o hD;refine qR (λaa O Y=>∃(v0:Option V) (m:List m9),O=[v0,tH (.str z)]/\qj x Y/\Y D=tH (.lst (m.map V.ref))/\J6 Y m (((a.map (·.1)).take aa).map λb=>(z,b))) ({r4,[],s0,qd hD,qa,.nil _}) (λaa O Y _ ⟨_,_,_,x,_⟩=>.of (x _ _ o)) ?_ ?_
  ·rintro aa y O Y hy ⟨v0,m,rfl,x,T,o⟩;let{b,eb,l,rfl}:=jA hy;let hj:=(tf.mp eb).1;rw[ta]at hj;calc{J7,λt ht=>?_};let st:=qd (o:=HO.tup [V.str z,.str b]) ht;refine{_,st _ _ T,?_,_,m++[t],s0,qj.upd (x.trans st) hD,by rw[qa,tj];rfl,?_}
   ·rw[ta,o.1,ta,tG];exact qi {}
   ·rw[tE,eb,tj];exact((o.mono st).app (.one qa)).lst (st _ _ T)
  ·rintro O Y ⟨v0,m,rfl,x,T,o⟩;rw[ta,tu (ti _)]at o;let O:=t1.trans x;let x:=O _ _ J;let lp:=pr.1;let lq:=o.1;rw[uT,tG,ta,ta]at lp;rw[ta,ta]at lq;let ac:j.length<=14*14:=by rw[lp];exact zbJ {} ab
   refine{L,D,_,_,s0,s0,x,T,?_,_,j++m,s0,(fr.same O).at_d,by rw[qa,tj],?_}
   ·rw[ta,ta];exact zab (qi {})
   ·let e:xl ((d.map (·.1)).take (i+1)) (a.map (·.1))=xl ((d.map (·.1)).take i) (a.map (·.1))++(a.map (·.1)).map λb=>(z,b):=by
     unfold xl;rw[tE,ez,zdQ];simp
    rw[e];exact((pr.mono O).app o).lst x
 ·rintro C X ⟨U,j,rfl,fr,J,pr⟩;rw[ta,tu (ti _)]at pr;calc(q X L j (λb u l=>fr _ _ (p _ _ (v _ _ l)) (qo l B)) B J pr)
abbrev nPb:List Str:=["one","other","pair","ends"]
abbrev Pf:List Str:=["one","other","pair"]
def Tt:ql nPb Pf (qg KN):=j3
def PJ:(["end","pair"]:List Str).Nodup:=by decide+kernel
def PF:(["end","pair","ends"]:List Str).Nodup:=by decide+kernel
def Po(F:jJ K "pairs_behind" "pairs_behind" KN f a)(B:Qd mg)(G:jp mg)(T:jD K mg)(M:GM K mg d):qu P w K mg base jh 3 f a Pf (Ou d):=by
 let{_,_,i}:=M.cls;let{_,_,j}:=M.fr;let{_,_,a}:=M.isn;let m:=pin P w mg base (QE j.fn i B G T a);calc F.okK Tt λH Q E hr z=>?_;intro X;let{g,h,t,a,d,r,u,rfl,o,gh,O,U,_,_,aa,ab,ht,q}:=z;refine⟨_,qb (zq 3 (jL (ix:=[r4,tH 2]) (te:=Uu (qW (jd 0) (qW (YM (Yo K) (jd 1) (tC (.int 1))) QQ))) (qv (ZJ j i.cl m hr (jv 0) (qI (qF qD (jv 2) qh)))) (λi p l fp v=>
    {jP (i:=0) PJ rfl (Or.inl rfl),qP,jH (jV (jv 0) (qF qD (jv 1) qh))})))
  (qb (q5 (Jh zar zbs zbt ZE (jv 3) (qI (jL (ix:=[r4,tH 2,tH 3]) (tt:=Yh (YM (O6 K true) (Uu (qW (YM (Yo K) (jd 1) (tC (.int 0))) (qW (jd 0) QQ))) (jd 2))) (te:=Uu (qW (YM (Yo K) (jd 1) (tC (.int 0))) (qW (jd 0) QQ))) (qv (ZJ j i.cl m hr (jv 1) (qI (qF qD (jv 2) qh)))) (λi p l fp v=>
    {jP (i:=0) PF rfl (Or.inl rfl),Qo (qp (K3 hr.units) (jH (jV (qF qD (jv 1) qh) (jv 0))) (jv 2) (by with_unfolding_all rfl)),jH (jV (qF qD (jv 1) qh) (jv 0))})))))
  (qc (qm (jv 3)))),?_⟩
 let{i,fs,j,_,m}:=o.ins;let p:=Jb (rs:=a) r;let p:=Jb (rs:=d) u;calc{i,fs,j,m,_,_,.of ht,QA (j:=0) rfl,g,a,r,s0,o,aa,O.nm r aa,λi le j m=>{{_,.of qa},λL C=>?_}};let J:qj H (upd i le (.lst ((qz a r).map V.str))):=j.trans (qd m);let o:upd i le (.lst ((qz a r).map V.str)) le=tH (.lst ((qz a r).map V.str)):=qa;generalize upd i le (.lst ((qz a r).map V.str))=l at J o C;refine qR (K:=K) (a:=le) (xs:=(qz a r).map V.str) (λi j Y=>∃(v0:Option V) (p:List m9),j=[v0,tH (.ref t)]/\qj l Y/\Y L=tH (.lst (p.map V.ref))/\J6 Y p (((qz a r).take i).map λb=>(b,u.1))) ({r4,[],s0,qd C,qa,.nil _}) (λi j Y _ ⟨_,_,_,m,_⟩=>.of (m _ _ o)) ?_ ?_
 ·rintro i y j Y hy ⟨v0,p,rfl,m,o,l⟩;let{b,v,hb,rfl}:=jA hy;let hj:=(tf.mp v).1;calc{_,_,.of (m _ _ (J _ _ ht)),QA (j:=1) rfl,J7,λc hc=>?_};let st:=qd (o:=HO.tup [V.str b,.str u.1]) hc;refine{_,st _ _ o,?_,_,p++[c],s0,qj.upd (m.trans st) C,by rw[qa,tj];rfl,?_}
  ·rw[ta,l.1,ta,tG];exact qi {}
  ·rw[tE,v,tj];exact((l.mono st).app (.one (x:=(b,u.1)) qa)).lst (st _ _ o)
 ·rintro j Y ⟨v0,p,rfl,m,o,l⟩;rw[ta,tu (ti _)]at l;let e1:Vn a (r.1,u.1)=(qz a r).map λb=>(b,u.1):=by unfold Vn;rw[jC O.nd aa]
  rw[<-e1]at l;let ac:=J.trans m;let iR:=jq J C;let m:=gh.mono ac;let ae:=ac _ _ ht;let ai:∀x∈Vn a (r.1,u.1),SH x:=λx C=>by
   rw[e1]at C;let{b,hb,rfl}:=tc.mp C;let{C,J,e}:=Zc hb;exact{by rw[<-e];calc O.nm C J,U.nm u ab}
  let{C,J,aj,_,ak}:=m.ins;calc{.inl ({s0,_,.of o}),C,J,aj,ak,_,_,.of ae,QA (j:=1) rfl,h,d,u,s0,m,ab,U.nm u ab,λJ m al am=>{{_,.of qa},λD hD=>?_}};let C:qj Y (upd J m (.lst ((qz d u).map V.str))):=al.trans (qd am);let h3:upd J m (.lst ((qz d u).map V.str)) m=tH (.lst ((qz d u).map V.str)):=qa;generalize upd J m (.lst ((qz d u).map V.str))=J at C h3 hD;let af:=C _ _ o;let ag:=l.mono C;refine qR (K:=K) (a:=m) (xs:=(qz d u).map V.str) (λi j Z=>∃(v0:Option V) (m:List m9),j=[v0,tH (.ref t),tH (.ref L)]/\qj J Z/\Z D=tH (.lst (m.map V.ref))/\J6 Z m ((((qz d u).take i).map λb=>(r.1,b)).filter λy=>decide (y∉Vn a (r.1,u.1)))) ({r4,[],s0,qd hD,qa,.nil _}) (λi j Z _ ⟨_,_,_,sz,_⟩=>.of (sz _ _ h3)) ?_ ?_
  ·rintro i y j Z hy ⟨v0,m,rfl,sz,J,o⟩;let{b,v,hb,rfl}:=jA hy;let hj:=(tf.mp v).1;let an:SH (r.1,b):=by
    let{u',ao,e}:=Zc hb;exact{O.nm r aa,by rw[<-e];calc U.nm u' ao}
   let ah:=sz _ _ (C _ _ ae);calc{_,_,.of ah,QA (j:=0) rfl,J7,λc hc=>?_};let st:=qd (o:=HO.tup [V.str r.1,.str b]) hc;exists dP (r.1,b),(Vn a (r.1,u.1)).map dP,Ss qa,.lst (.of (st _ _ (sz _ _ af))) (Hi ((ag.mono sz).mono st)),Hc an,Sf ai,by show (1:Nat)<=40;decide,_,rfl;rw[Sg];let O:(((qz d u).take (i+1)).map λb=>(r.1,b)).filter (λy=>decide (y∉Vn a (r.1,u.1)))=(((qz d u).take i).map λb=>(r.1,b)).filter (λy=>decide (y∉Vn a (r.1,u.1)))++if (r.1,b)∈Vn a (r.1,u.1) then [] else [(r.1,b)]:=by
    rw[tE,v,tj,zaF];congr 1;by_cases i:(r.1,b)∈Vn a (r.1,u.1)<;>simp [i]
   by_cases i:(r.1,b)∈Vn a (r.1,u.1)
   ·rw[if_pos i,zal]at O;calc qU (by rw[decide_eq_true i];rfl) ({_,m,s0,sz.trans st,st _ _ J,?_});rw[O];exact o.mono st
   ·rw[if_neg i]at O;calc jI (by rw[decide_eq_false i];rfl) ?_;calc{_,_,.of (st _ _ ah),QA (j:=0) rfl,J7,λv ap=>?_};let i:=st.trans (qd (o:=HO.tup [V.str r.1,.str b]) ap);refine{_,i _ _ J,?_,_,m++[v],s0,qj.upd (sz.trans i) hD,by rw[qa,tj];rfl,?_}
    ·rw[ta,o.1];calc qi (tP (zao ..) ?_);rw[ta,tG];omega
    ·rw[O];exact((o.mono i).app (.one (x:=(r.1,b)) qa)).lst (i _ _ J)
  ·rintro j Z ⟨v0,m,rfl,sz,J,o⟩;rw[ta,tu (ti _)]at o;let i:=sz _ _ af;let j:=l.1;let l:=o.1;let l:=zao (λy=>decide (y∉Vn a (r.1,u.1))) ((qz d u).map λb=>(r.1,b));rw[ta]at l;rw[e1,ta]at j;let j:YN a d (r.1,u.1)=Vn a (r.1,u.1)++((qz d u).map λb=>(r.1,b)).filter (λy=>decide (y∉Vn a (r.1,u.1))):=by unfold YN FO;rw[jC U.nd ab]
   refine{L,D,_,_,s0,s0,i,J,?_,q _ L (p++m) (qj.upd ((ac.trans C).trans sz) iR) iR (by rw[qa,tj]) ?_}
   ·rw[ta,ta];exact zab (qi {})
   ·rw[j];exact(((ag.mono sz)).app o).lst i
def Id:Str:=zeo "abcdefghijklmn"
def IR(n:Nat):Str:={#[97+n]}
def Ic:∀n < 14,Id.cps.toList[n]?=tH (97+n):=by decide+kernel
def C2:Id.length<=zes:=by decide+kernel
def M7:∀n < 14,ji (IR n)=true:=by decide+kernel
def DJ(h:IR a=IR b):a=b:=by
 unfold IR at h;let:=congrArg (λz:Str=>z.cps.toList) h;simpa using this
def lt(Z:List zT)(x:zT):Str:=IR (Z.idxOf x)
def PU{Z:List zT}(nd:Z.Nodup)(h:Z[i]?=tH x):lt Z x=IR i:=by
 let{a,e}:=tf.mp h;subst e;calc congrArg IR (nd.idxOf_getElem i a)
def IS(a:x∈Z)(b:y∈Z)(h:lt Z x=lt Z y):x=y:=by
 let e:=DJ h;rw[<-(zea (zbC a)),<-(zea (zbC b))];congr 1
def DK{Z:List zT}(l:Z.length<=14)(a:x∈Z):ji (lt Z x)=true:=M7 _ (tJ (zbC a) l)
def kP(x:zT):List qJ:=[Sum.inr x.1,Sum.inr x.2]
def Ap(h:kP x=kP y):x=y:=by
 unfold kP at h;simp only[zbY.injEq,Sum.inr.injEq,and_true]at h;calc Prod.ext h.1 h.2
def kvs(Z:List zT)(g:zT->V):List (List qJ×V):=Z.map λx=>(kP x,g x)
def yp:∀{Z:List zT},x∉Z->ja (kvs Z g) (kP x)=r4
 | [],_=>rfl
 | z::Z,h=>(jt λe=>h (by rw[<-Ap e];calc tK)).trans (yp λm=>h (tI _ m))
def zp:∀{Z:List zT},x∈Z->ja (kvs Z g) (kP x)=tH (g x)
 | z::Z,h=>by
  by_cases e:z=x
  ·subst e;exact jE rfl
  ·calc(jt λq=>e (Ap q)).trans (zp ?_);rcases tO.mp h with m | m
   ·exact absurd m.symm e
   ·calc m
def DU(h:x∉Z):j2 (kvs Z g) (kP x) (g x)=kvs (Z++[x]) g:=by
 rw[QD _ (yp h)];unfold kvs;rw[tj];rfl
def kO(Z:List zT):List (List qJ×V):=kvs Z λx=>.str (lt Z x)
abbrev jS(rs us:qY):List zT:=xl (rs.map (·.1)) (us.map (·.1))
def K2(rs us:qY)(x:zT):Str×List Str:=(lt (jS rs us) x,(YN rs us x).map (lt (jS rs us)))
def qT(rs us:qY):qY:=(jS rs us).map (K2 rs us)
def Ki(h:x∈jS rs us):∃r u,r∈rs/\u∈us/\x=(r.1,u.1):=by
 let{a,b}:=j5.mp h;let{r,hr,d}:=tc.mp a;let{u,hu,a}:=tc.mp b;calc{r,u,hr,hu,Prod.ext d.symm a.symm}
def ZO(g:qe rs)(i:qe us)(j:x∈jS rs us)(d:y∈YN rs us x):y∈jS rs us:=by
 let{r,u,hr,hu,rfl}:=Ki j;unfold YN at d;rcases tU.mp d with h | h
 ·unfold Vn at h;rw[jC g.nd hr]at h;let{e,a,rfl}:=tc.mp h;let{d,j,b}:=Zc a;exact j5.mpr ({tc.mpr ({d,j,b}),tc.mpr ({u,hu,s0})})
 ·let h:=(tV.mp h).1;unfold FO at h;rw[jC i.nd hu]at h;let{e,a,rfl}:=tc.mp h;let{d,i,b}:=Zc a;calc j5.mpr ({tc.mpr ({r,hr,s0}),tc.mpr ({d,i,b})})
def FW(g:qe rs)(r:Str×List Str):(qz rs r).Nodup:=by unfold qz;calc g.nd.sublist zam
def Ii(g:qe rs)(a:x∈jS rs us):(Vn rs x).Nodup:=by
 let{r,u,hr,hu,rfl}:=Ki a;unfold Vn;rw[jC g.nd hr];calc zbd.mpr ((FW g r).imp λne e=>ne (Prod.mk.inj e).1)
def Ih(a:qe us)(b:x∈jS rs us):(FO us x).Nodup:=by
 let{r,u,hr,hu,rfl}:=Ki b;unfold FO;rw[jC a.nd hu];calc zbd.mpr ((FW a u).imp λne e=>ne (Prod.mk.inj e).2)
def Ml(g:qe rs)(i:qe us)(d:x∈jS rs us):(YN rs us x).Nodup:=by
 unfold YN;calc zaL.mpr ({Ii g d,(Ih i d).sublist zam,λa d b i e=>?_});let:=(tV.mp i).2;calc of_decide_eq_true this (e▸d)
def WS:∀{xs ys:List zT},xs.Nodup->(∀x∈xs,x∈ys)->xs.length<=ys.length
 | [],_,_,_=>zax _
 | x::xs,ys,a,h=>by
  let{n1,n2}:=zaj.mp a;let m:=h x tK;let:=WS (ys:=ys.erase x) n2 λy a=>(zbv λe=>n1 (by rw[<-e];calc a)).mpr (h y (tI _ a));rw[zbO m]at this;let:=zbb m;rw[t7];omega
def uG(g:qe rs)(a:qe us)(b:x∈jS rs us):(YN rs us x).length<=(jS rs us).length:=WS (Ml g a b) λy d=>ZO g a b d
def Px(g:qe rs)(a:qe us):(jS rs us).Nodup:=M0 g.nd a.nd
def FX{xs:List zT}(nd:xs.Nodup)(h:∀x∈xs,x∈Z):(xs.map (lt Z)).Nodup:=by
 calc zbd.mpr (nd.imp_of_mem λa b ne e=>ne (IS (h _ a) (h _ b) e))
def Kn(g:qe rs)(a:qe us)(l:(jS rs us).length<=14):QJ (qT rs us):=by
 let i:(qT rs us).map (·.1)=(jS rs us).map (lt (jS rs us)):=by unfold qT;rw[zad];rfl
 refine{λr hr=>?_,by rw[i];calc FX (Px g a) λ_ h=>h,λr hr z j=>?_,λr hr=>?_,λr hr=>?_}
 all_goals let{x,b,rfl}:=tc.mp hr
 ·exact DK l b
 ·let{y,d,rfl}:=tc.mp j;rw[i];exact tc.mpr ({y,ZO g a b d,s0})
 ·exact FX (Ml g a b) λy d=>ZO g a b d
 ·show ((YN rs us x).map (lt (jS rs us))).length<=40;rw[ta];let:=uG g a b;omega
def PV(rs us:qY):(jS rs us).length=rs.length*us.length:=by rw[uT,ta,ta]
def RS{xs:List Nat}(h:∀x∈xs,x<=m):xs.sum<=xs.length*m:=by
 induction xs with
 | nil=>simp
 | cons x xs a=>
  let b:=h x tK;let d:=a λy b=>h y (tI _ b);rw[zau,t7,zei];omega
def xk(a:QJ (qT rs us))(l:(jS rs us).length<=14):Qb (qT rs us)<=14*40:=by
 unfold Qb;refine tP (RS λn b=>?_) (Nat.mul_le_mul_right _ ?_)
 ·let{r,hr,rfl}:=tc.mp b;exact a.len r hr
 ·rw[ta];show ((jS rs us).map (K2 rs us)).length<=14;rwa [ta]
def UN(rs us:qY):Option (Bool×V):=if 14 < rs.length*us.length then tH (false,.int ((rs.length*us.length:Nat):Int)) else if 40 < Qb (qT rs us) then tH (false,.int ((Qb (qT rs us):Nat):Int)) else r4
inductive E5(CG CW CM:m9)(vs:List V)(H:Hp)(Q:VK)(E:XK):Prop
 | mk (g h:m9) (rs us:qY):vs=[.ref g,.ref h]->qZ CG H g rs->qZ CG H h us->qe rs->qe us->(0 < rs.length)->(0 < us.length)->(rs.length<=14)->(us.length<=14)->((∀b v,UN rs us=tH (b,v)->∀Hx dx C,qj H Hx->Hx dx=tH (.xd [(zeo "found",v)])->Two CW CM C b->E (.ref C) (tH dx) Hx))->((UN rs us=r4->∀H' x Pd t,qj H H'->qZ CG H' x (qT rs us)->qe (qT rs us)->H Pd=r4->H' Pd=tH (.dT (kO (jS rs us)))->H' t=tH (.tup [.ref x,.ref Pd])->Q (.ref t) H'))->E5 CG CW CM vs H Q E
def S5(a b d:m9):Sp:=λi H Q E=>E5 a b d i H Q E
abbrev N0(K:zen):List V->Hp->VK->Prop:=λd H Q=>∃a b,d=[.ref a]/\((JX K H a b/\∀d,H d=r4->Q (.ref d) (upd H d (.tup b)))\/(SqT K H a b/\Q (.ref a) H))
abbrev PL:List Str:=["one","other","pairs","places","number","pair","rows"]
def Ts:ql PL uH (qg kw):=j3
def e7:(["end","places"]:List Str).Nodup:=by decide+kernel
def Pn(F:jJ K "paired" "paired" kw f d)(B:Qd mg)(G:jp mg)(T:jD K mg)(N:Xr K mg)(M:GM K mg CG)(v:qK K mg "need_rows" zd ["rows"] o z)(j:SK K mg D l CM)(q:qK K mg "pairs_of" KM uH J O)(C:qK K mg "pairs_behind" KN Pf U aL)(p:∃t,mg "PAIR_NAMES"=tH (.str Id t)):
  qu P w K mg base (Z6 P w) 8 f d uH (S5 CG l CM):=by
 let{_,_,l}:=M.cls;let{_,_,o}:=j.m;let{tp,p}:=p;let{_,z}:=T.mp;calc F.okY Ts λH Q E hr h=>?_;let{g,h,d,j,rfl,gr,gh,gd,ud,pos,aA,af,ag,qX,qQ}:=h;refine⟨_,qb (qB 2 (qw q (pin P w mg base (Pk q.fn G M)) (jV (jv 0) (jv 1))))
  (qb (qG (qp JU (qr qy {} B.len boot_len (qI (jv 2))) (Qz (v:=.int 14) {} z ({_,s0}))) (qc (Yt rfl zC (Yv o.mkr (Y6 o) (hr.mono {}) {} o.ns o.bi QP (qI (qr qy {} B.len boot_len (qI (jv 2))))))) qt)
  (qb (zq 3 W5)
  (qb (X5 (t:=RI (F4 K (qW (jd 2) QQ)) (GD K 2 (zu (Ql 4) (zu (Ql 5) GF))) (NR (jd 3) (jd 5) (YM O2 (tC (.str Id)) (jd 4)))) λJ W q O z=>
    je (hp:=q) (ZX {} T.enu (qI (jv 2))) (Jf rfl (qM (qC 4) (qM (qC 5) Qp)))
    (qc (jB (jv 3) (jv 5) (qF xL (Qz {} p ({_,s0})) (jv 4)))))
  (qb (qB 6 (QH Qi))
  (qb (X5 (t:=RI (yt K (jd 2)) (Ql 5) (RK (SY K "list" uC (jd 6) (qW (Uu (qW (zO (jd 3) (jd 5)) (qW (BR (N0 K) (qW (LS (yt K (Wi (Ou CG) [] E0 (qW (jd 0) (qW (jd 1) (qW (jd 5) QQ))))) [r4,tH 3] (Ql 0) BO (zO (jd 1) (jd 0))) QQ)) QQ))) QQ)))) λJ W q O z=>
    je (hp:=q) (qv (jv 2)) (qC 5)
    (qc (q5 (Jh zar zbq zbr Za (jv 6) (jO
     (jH (jV (qE (jv 3) (jv 5)) (jr Qa {} G.tup boot_tuple (jO
      (jL (qv (qw C (pin P w mg base (Po C.fn B G T M)) (Vo (jv 0) (jv 1) (jv 5)))) (λl U J fp _=>
       {jP e7 rfl (Or.inl rfl),qP,qE (jv 1) (jv 0)})) Qi)))) Qi)))))
  (qc (qm (jH (jV (QL l.mkr ((zh l B G T N v).toX.either (V3 l B G T N v o)) hr {} l.ns l.bi .nil J8 (qI (jv 6))) (jv 3)))))))))),?_⟩
 calc{g,h,d,j,s0,gr,gh,af,ag,λp L ps s1 _ q pr=>?_};let pr:=pr;let aa:=pr.1;let lZ:=PV d j;let l:=zbJ af ag;exists L,_,s0,.inl (.of q),_,_,s0,s0,_,rfl;by_cases c1:14 < d.length*j.length
 ·let res:UN d j=tH (false,.int ((d.length*j.length:Nat):Int)):=by unfold UN;rw[if_pos c1]
  calc jI (decide_eq_true (by rw[ta,aa,lZ];omega)) ?_;calc{L,_,s0,.inl (.of q),J7,λe l=>{e,_,s0,qa,λv C=>{s0,e,CM,v,s0,(Zm l C).2.1,o.rcls,?_}}};let{o,_,O}:=Zm l C;calc qX _ _ res _ v CM (s1.trans o) ?_ (.inr ({s0,s0}));rw[O,ta,aa,lZ]
 calc qU (decide_eq_false (by rw[ta,aa,lZ];omega)) ?_;let ah:(jS d j).length<=14:=by rw[lZ];omega
 let an:=Px gd ud;calc λl o=>?_;let U:qj p (upd p l (.dT [])):=qd o;let h2:upd p l (.dT []) l=tH (.dT []):=qa;generalize upd p l (.dT [])=J at U h2;let ao:=jq s1 o;let ai:=U _ _ q;let ap:L≠l:=nq o q;let aj:=pr.mono U;refine{L,s0,{_,.of ai},Zg (λi p X=>∃(v4 C:Option V),p=[tH (.ref g),tH (.ref h),tH (.ref L),tH (.ref l),v4,C,r4]/\Fr J l X/\X l=tH (.dT (kvs ((jS d j).take i) λx=>.str (lt (jS d j) x)))) ({r4,r4,s0,Fr.refl,h2}) (λi p X _ ⟨_,_,_,fr,_⟩=>.of (fr _ _ ai ap)) ?_ ?_}
 ·rintro i y p X ab hy q ⟨v4,C,rfl,fr,J⟩;let{a,x,rfl,ea,ex,mx,v}:=aj.at_ hy;let hi:=(tf.mp ex).1;let aB:x∉(jS d j).take i:=λm=>by
   let{O,o}:=zan m;let hj:=(tf.mp o).1;rw[tG]at hj;rw[zbp {}]at o;let:=(zde {} an).mp (o.trans ex.symm);omega
  refine{ab,_,s0,.of qa,s0,s0,{Id,_,97+i,s0,s0,C2,QA (Ic i (tJ hi ah)),l,_,s0,Jv.t (k:=kP x) (by rw[qf (λe=>by rw[<-e,J]at q;cases q)];calc J) (qk (fr _ _ v (λe=>by rw[e,h2]at v;cases v)) q) ?_,_,_,s0,?_,?_}}
  ·unfold kvs;rw[ta,tG];exact qi {}
  ·exact(fr.new q).at_d
  ·rw[qa,tE,ex];let e:=DU (g:=λx=>V.str (lt (jS d j) x)) aB;rw[show (tH x).toList=[x] from rfl,<-e,PU an ex];rfl
 ·rintro p X ⟨v4,C,rfl,fr,J⟩;rw[ta,aa,tu (ti _)]at J;let s3:qj H X:=λb u o=>fr _ _ (U _ _ (s1 _ _ o)) (qo o ao);let ak:=fr _ _ ai ap;let aC:J6 X ps (jS d j):=⟨aj.1,λi ab x U e2=>by
   let q:=aj.2 i ab x U e2;exact fr _ _ q λe=>by rw[e,h2]at q;cases q⟩
  calc{J7,λR z=>?_};let U:qj X (upd X R (.lst [])):=qd z;let h4:upd X R (.lst []) R=tH (.lst []):=qa;generalize upd X R (.lst [])=H5 at U h4;let nR:=jq s3 z;let nPR:l≠R:=nq z J;let q:=U _ _ ak;let aq:=U _ _ J;refine{{_,.of q},jz (K:=K) (a:=L) (xs:=ps.map V.ref) (λi p Y=>∃(C:Option V) (J:List m9),p=[tH (.ref g),tH (.ref h),tH (.ref L),tH (.ref l),v4,C,tH (.ref R)]/\Fr H5 R Y/\Y R=tH (.lst (J.map V.ref))/\jg (Bv Y R) J ((qT d j).take i)) ({C,[],s0,Fr.refl,h4,{s0,λi ab r e=>by simp at e}}) (λi p Y _ ⟨_,_,_,fr,_⟩=>.of (fr _ _ q (λe=>by rw[e,z]at ak;cases ak))) ?_ ?_}
  ·rintro i y p Y hy ⟨aD,J,rfl,q,z,gg⟩;let{a,x,rfl,ea,ex,mx,v}:=(aC.mono U).at_ hy;let hi:=(tf.mp ex).1;let{r,u,aE,aF,ar}:=Ki mx;let as:=q _ _ v (λe=>by rw[e,h4]at v;cases v);let au:=q _ _ aq nPR;let C:qj H Y:=λb u o=>q _ _ (U _ _ (s3 _ _ o)) (qo o nR);let v:jk Y l (.ref a) (tH (.str (lt (jS d j) x))):=by
    let:=jk.t (k:=kP x) au as;unfold kO at*;rwa [zp mx]at this
   calc{.inl ({s0,_,.of z}),_,v,g,h,a,d,j,r,u,s0,gr.mono C,gh.mono C,gd,ud,af,ag,aE,aF,by rw[as,ar],λY1 lm qs av _ aw pq=>{{_,.of aw},λv ac=>?_}};rw[<-ar]at pq;refine qR (K:=K) (a:=lm) (xs:=qs.map V.ref) (λO ae Y'=>∃v0:Option V,ae=[v0,tH (.ref l)]/\Y'=upd Y1 v (.lst (((YN d j x).take O).map λy=>V.str (lt (jS d j) y)))) ({r4,s0,s0}) (λO ae Y' _ ⟨_,_,e⟩=>by rw[e];calc .of (qk aw ac)) ?_ ?_
   ·rintro O y ae Y' hy ⟨v0,rfl,rfl⟩;let{b,x2,rfl,_,ax,aG,o}:=pq.at_ hy;let hj:=(tf.mp ax).1;let pl:=uG gd ud mx;let aH:jk (upd Y1 v (.lst (((YN d j x).take O).map λy=>V.str (lt (jS d j) y)))) l (.ref b) (tH (.str (lt (jS d j) x2))):=by
     let:=jk.t (k:=kP x2) (qk (o':=.lst (((YN d j x).take O).map λy=>V.str (lt (jS d j) y))) (av _ _ au) ac) (qk o ac);rwa [zp (ZO gd ud mx aG)]at this
    exists _,aH,_,qa,?_,_,rfl
    ·rw[ta,tG];exact qi {}
    ·rw[jF,tE,ax,tj];rfl
   ·rintro ae Y' ⟨v0,rfl,rfl⟩;rw[ta,pq.1,tu (ti _)];let em:((YN d j x).map λy=>V.str (lt (jS d j) y))=((YN d j x).map (lt (jS d j))).map V.str:=by rw[zad];rfl
    rw[em];let O:qj Y (upd Y1 v (.lst (((YN d j x).map (lt (jS d j))).map V.str))):=av.trans (qd ac);let ay:upd Y1 v (.lst (((YN d j x).map (lt (jS d j))).map V.str)) v=tH (.lst (((YN d j x).map (lt (jS d j))).map V.str)):=qa;generalize upd Y1 v (.lst (((YN d j x).map (lt (jS d j))).map V.str))=Y2 at O ay;calc{v,_,s0,.inl ({.of ay,λtq al=>{J7,λtp v=>?_}})};let t2:=qd (o:=HO.tup (((YN d j x).map (lt (jS d j))).map V.str)) al;let aI:=t2.trans (qd (o:=HO.tup [V.str (lt (jS d j) x),.ref tq]) v);let am:=O.trans aI;let aM:=(gg.mono (A8 am)).snoc (r:=K2 d j x) (p:=tp) (q:=tq) (by rw[A9 (λe=>by rw[e,t2 _ _ (O _ _ z)]at v;cases v)];calc qa) (by rw[A9 (λe=>by rw[e,O _ _ z]at al;cases al)];calc qk qa v);refine{R,_,_,s0,s0,am _ _ z,?_,_,J++[tp],s0,(q.same am).at_d,by rw[qa,tj];rfl,?_}
    ·rw[ta,gg.1,tG];refine qi (tP (Nat.min_le_left _ _) {})
    ·let v:(qT d j)[i]?=tH (K2 d j x):=by unfold qT;rw[tA,ex];rfl
     rwa [tE,v,Ep]
  ·rintro p Y ⟨aD,J,rfl,q,z,gg⟩;let p:(qT d j).length=(jS d j).length:=ta ..;rw[ta,aa,<-p,tu (ti _)]at gg;let v:=gg.mono Er;let C:qj H Y:=λb u o=>q _ _ (U _ _ (s3 _ _ o)) (qo o nR);let gH:=Kn gd ud ah;let O:0 < (qT d j).length:=by rw[p,lZ];exact Nat.mul_pos pos aA
   calc(λx U hx az aJ=>?_);let p:qj Y (upd (upd Y U (.own x)) x (.ins CG U [])):=λb u o=>by
    rwa [qf (qo o hx),qf (qo o az)]
   by_cases o:40 < Qb (qT d j)
   ·let res:UN d j=tH (false,.int ((Qb (qT d j):Nat):Int)):=by unfold UN;rw[if_neg c1,if_pos o]
    exact .inr ({x,R,s0,.inl ({R,J,qT d j,s0,{p _ _ z,v.mono p,gH,O,{}},o,zbf (xk gH ah) {},λH5 J U aK=>qX _ _ res H5 J CM ((C.trans p).trans U) aK (.inr ({s0,s0}))})})
   ·let res:UN d j=r4:=by unfold UN;rw[if_neg c1,if_neg o]
    let o:=gH.good (by show Qb (qT d j)<=40;omega);calc .inl (Q0 z v o O {} hx az aJ λ_ j p=>{J7,λt v=>?_});let d:=qd (o:=HO.tup [V.ref x,.ref l]) v;exact qQ res _ x l t ((C.trans j).trans d) (p.mono d) o ao (d _ _ (j _ _ (q _ _ aq nPR))) qa
abbrev Q3(rs:qY)(R:Rs Str):Prop:=All (js rs) (rs.map (·.1)) 0 [] R
def WX(g:qe rs)(a:Q3 rs R):Zw (js rs) (·∈rs.map (·.1)) (qO R) (zc R):=Xb (jb g.nd) a
def J0(rs:qY):∃R,Q3 rs R:=All.ex _ 0 [] (ti _)
def AY{l:List Str}{f f':Str->Option Nat}(h:∀y∈l,f y=f' y):l.filterMap f=l.filterMap f':=by
 induction l with
 | nil=>rfl
 | cons a l b=>rw[t8,t8,h a (tK ..),b λy d=>h y (tI _ d)]
def WP(g:qe rs)(d:qe us)(a:Q3 rs R)(b:Q3 us S)(sub:∀z∈rs.map (·.1),z∈us.map (·.1))(e:∀z∈rs.map (·.1),js us z=js rs z){z:Str}(hz:z∈rs.map (·.1)):qO S z=qO R z:=
 Al (((WX d b).sub sub λ{x y} d i=>jb g.nd x d y (e x d▸i)).same λx d=>(e x d).symm) (WX g a) hz
def wm(g:qe rs)(i:qe us)(a:Q3 rs R)(b:Q3 us S)(sub:∀z∈rs.map (·.1),z∈us.map (·.1))(e:∀z∈rs.map (·.1),js us z=js rs z){z:Str}(hz:z∈rs.map (·.1)):wT us S z=wT rs R z:=by
 let h:=λ{y} d=>WP g i a b sub e (z:=y) d;let n:Yd us (qO S) z=Yd rs (qO R) z:=by
  unfold Yd;rw[e z hz];exact AY λy d=>h (jb g.nd z hz y d)
 unfold wT;rw[h hz,n]
def vc(h:r∈rs):(r.1,qz rs r)∈jT rs:=tc.mpr ({r,h,s0})
def xY(g:qe rs)(hr:r∈rs):(rs.map (·.1)).filter (λz=>Jz (.str z) ((qz rs r).map V.str))=qz rs r:=by
 conv=>rhs;unfold qz
 exact zce λz _=>by
  rw[zaB,Qf,Qf,WG g hr]
def A0{us:qY}{xs:List Str}(h:∀z∈us.map (·.1),z∉xs):(us.map (·.1)).filter (λz=>Jz (.str z) (xs.map V.str))=[]:=
 zdv.mpr λz a q=>h z a (Qf.mp q)
def FB(h:y∈qz rs r):y∈rs.map (·.1):=let ⟨d,a,b⟩:=Zc h;tc.mpr ({d,a,b})
abbrev jn(rs us:qY):qY:=jT rs++jT us
def JJ(rs us:qY):(jn rs us).map (·.1)=rs.map (·.1)++us.map (·.1):=by rw[tj,jR,jR]
def uW{rs us:qY}(g:qe rs)(b:qe (jn rs us))(d:∀z∈us.map (·.1),z∉rs.map (·.1)):∀z∈rs.map (·.1),js (jn rs us) z=js rs z:=λz a=>by
 let{r,hr,rfl}:=tc.mp a;rw[jC b.nd (zaa _ (vc hr)),jC g.nd hr];show ((jn rs us).map (·.1)).filter (λz=>Jz (.str z) ((qz rs r).map V.str))=_;rw[JJ,zaF,xY g hr,A0 λz a q=>d z a (FB q),zal]
def uV{rs us:qY}(g:qe us)(b:qe (jn rs us))(d:∀z∈us.map (·.1),z∉rs.map (·.1)):∀z∈us.map (·.1),js (jn rs us) z=js us z:=λz a=>by
 let{r,hr,rfl}:=tc.mp a;rw[jC b.nd (t3 _ (vc hr)),jC g.nd hr];show ((jn rs us).map (·.1)).filter (λz=>Jz (.str z) ((qz us r).map V.str))=_;rw[JJ,zaF,xY g hr,A0 λz a q=>d z (FB q) a,List.nil_append]
def Rp(g:qe rs)(b:qe (jn rs us))(d:∀z∈us.map (·.1),z∉rs.map (·.1))(a:Q3 rs R)(c:Q3 (jn rs us) T){z:Str}(hz:z∈rs.map (·.1)):wT (jn rs us) T z=wT rs R z:=
 wm g b a c (λz hz=>by rw[JJ];calc zaa _ hz) (uW g b d) hz
def Ro(g:qe us)(b:qe (jn rs us))(d:∀z∈us.map (·.1),z∉rs.map (·.1))(a:Q3 us S)(c:Q3 (jn rs us) T){z:Str}(hz:z∈us.map (·.1)):wT (jn rs us) T z=wT us S z:=
 wm g b a c (λz hz=>by rw[JJ];calc t3 _ hz) (uV g b d) hz
def JZ:y∈YN rs us x↔y∈Vn rs x\/y∈FO us x:=by
 unfold YN;rw[tU,tV,decide_eq_true_iff];constructor
 ·rintro(h | ⟨h,_⟩)
  ·exact .inl h
  ·exact .inr h
 ·rintro(h | h)
  ·exact .inl h
  ·by_cases c:y∈Vn rs x
   ·exact .inl c
   ·calc .inr ({h,c})
def zF:y∈Vn rs x↔y.1∈js rs x.1/\y.2=x.2:=by
 unfold Vn;rw[tc];constructor
 ·rintro⟨e,d,rfl⟩;exact{d,s0}
 ·rintro⟨a,b⟩;calc{_,a,by rw[<-b]}
def zE:y∈FO us x↔y.1=x.1/\y.2∈js us x.2:=by
 unfold FO;rw[tc];constructor
 ·rintro⟨e,d,rfl⟩;exact{s0,d}
 ·rintro⟨a,b⟩;calc{_,b,by rw[<-a]}
def Zf(d:qe (qT rs us))(i:x∈jS rs us):y∈js (qT rs us) (lt (jS rs us) x)↔∃j∈YN rs us x,y=lt (jS rs us) j:=by
 let h:=vf d (tc.mpr ({x,i,s0})) (y:=y);rw[show (K2 rs us x).1=lt (jS rs us) x from rfl]at h;rw[h];show y∈(YN rs us x).map _↔_;rw[tc];calc{λ⟨a,b,c⟩=>{a,b,c.symm},λ⟨a,b,c⟩=>{a,b,c.symm}}
def ZC(a:x∈jS rs us):lt (jS rs us) x∈(qT rs us).map (·.1):=tc.mpr ({K2 rs us x,tc.mpr ({x,a,s0}),s0})
def Ak(g:qe rs)(d:qe us)(b:qe (qT rs us))(c:Q3 (qT rs us) T):Zw (YN rs us) (·∈jS rs us) (λx=>qO T (lt (jS rs us) x)) (λx=>zc T (lt (jS rs us) x)):=
 (WX b c).pull (lt (jS rs us)) (λx a=>ZC a) (λ{x y} a i=>ZO g d a i) λ{x y} a=>Zf b a
def Mc(g:qe rs)(l:qe us)(i:qe (jn rs us))(j:∀z∈us.map (·.1),z∉rs.map (·.1)):Hf (js (jn rs us)) (YN rs us) (·∈jS rs us) Prod.fst Prod.snd where
 cl:=λ{z w} d m=>ZO g l d m
 to:=λ{z w} d m=>by
  let{o,p}:=j5.mp d;rcases JZ.mp m with h | h
  ·let{a,b}:=zF.mp h;exact .inl ({(uW g i j _ o)▸a,b})
  ·let{a,b}:=zE.mp h;exact .inr ({a,(uV l i j _ p)▸b})
 b1:=λ{z u} d hu=>by
  rw[uW g i j _ (j5.mp d).1]at hu;exact{(u,z.2),JZ.mpr (.inl (zF.mpr ({hu,s0}))),s0,s0}
 b2:=λ{z u} d hu=>by
  rw[uV l i j _ (j5.mp d).2]at hu;calc{(z.1,u),JZ.mpr (.inr (zE.mpr ({s0,hu}))),s0,s0}
def yb(g:qe rs)(j:qe us)(i:qe (jn rs us))(l:∀z∈us.map (·.1),z∉rs.map (·.1))(y:qe (qT rs us))(a:Q3 rs R)(b:Q3 us S)(c:Q3 (qT rs us) T)(o:x∈jS rs us):qO T (lt (jS rs us) x)=tH h↔∃n m,qO R x.1=tH n/\qO S x.2=tH m/\n^^^m=h:=by
 let{_,p}:=J0 (jn rs us);let u:∀{z},z∈rs.map (·.1)->z∈(jn rs us).map (·.1):=λd=>by rw[JJ];exact zaa _ d
 let v:∀{z},z∈us.map (·.1)->z∈(jn rs us).map (·.1):=λd=>by rw[JJ];exact t3 _ d
 let q:=Mm (WX i p) (Ak g j y c) (Mc g j i l) (λz d=>{u (j5.mp d).1,v (j5.mp d).2}) o (h:=h);rwa [WP g i a p (λz d=>u d) (uW g i l) (j5.mp o).1,WP j i b p (λz d=>v d) (uV j i l) (j5.mp o).2]at q
def EI(a:n<=8)(b:m<=8):n^^^m < 16:=zdX (n:=4) {} {}
def Rk{n m:Nat}:n^^^ (m^^^n)=m:=by rw[zcx m n,<-zaJ,zaT,zbU]
def BC(g:qe rs)(u:qe us)(d:qe (jn rs us))(i:∀z∈us.map (·.1),z∉rs.map (·.1))(v:qe (qT rs us))(a:Q3 rs R)(b:Q3 us S)(c:Q3 (qT rs us) T)(l:x∈jS rs us):wT (qT rs us) T (lt (jS rs us) x)=jm (wT rs R x.1) (wT us S x.2):=by
 let{B,C}:=j5.mp l;let np:=λ{y} (o:y∈jS rs us) {h}=>yb g u d i v a b c o (h:=h);let D:∀k,k∈Yd (qT rs us) (qO T) (lt (jS rs us) x)↔(∃e∈js rs x.1,∃n m,qO R e=tH n/\qO S x.2=tH m/\n^^^m=k)\/∃e∈js us x.2,∃n m,qO R x.1=tH n/\qO S e=tH m/\n^^^m=k:=λk=>by
  rw[Qe];constructor
  ·rintro⟨y,o,e⟩;let{_,j,rfl}:=(Zf v l).mp o;let{n,m,d,i,H}:=(np (ZO g u l j)).mp e;rcases JZ.mp j with h | h
   ·let{p,q}:=zF.mp h;exact .inl ({_,p,n,m,d,q▸i,H})
   ·let{p,q}:=zE.mp h;exact .inr ({_,q,n,m,p▸d,i,H})
  ·rintro(⟨e,j,h⟩ | ⟨e,j,h⟩)
   ·let o:(e,x.2)∈YN rs us x:=JZ.mpr (.inl (zF.mpr ({j,s0})));exact{_,(Zf v l).mpr ({_,o,s0}),(np (ZO g u l o)).mpr h}
   ·let o:(x.1,e)∈YN rs us x:=JZ.mpr (.inr (zE.mpr ({s0,j})));exact{_,(Zf v l).mpr ({_,o,s0}),(np (ZO g u l o)).mpr h}
 let r4:(∀n m,qO R x.1=tH n->qO S x.2=tH m->False)->qO T (lt (jS rs us) x)=r4:=λno=>by
  cases e:qO T (lt (jS rs us) x) with
  | none=>rfl
  | some h=>
   let{n,m,d,i,_}:=(np l).mp e;exact(no n m d i).elim
 let v:∀{z n},z∈rs.map (·.1)->qO R z=tH n->n<=8:=λo e=>z6 g (WX g a) o e;let H:∀{z n},z∈us.map (·.1)->qO S z=tH n->n<=8:=λo e=>z6 u (WX u b) o e;cases d:qO R x.1 with
 | some n=>
  cases i:qO S x.2 with
  | some m=>rw[Jn d,Jn i,Jn ((np l).mpr ({n,m,d,i,s0}))];rfl
  | none=>
   rw[Jn d,Q9 i,Q9 (r4 λ_ _ _ q=>by rw[i]at q;cases q)];show W.edl _=.edl _;congr 1;calc zbu λk=>?_;rw[testBit_setN,QK (by have:=v B d;omega),testBit_setN,zaB,zaw,decide_eq_true_iff,decide_eq_true_iff,decide_eq_true_iff,D,Qe];constructor
   ·rintro(⟨e,j,p,m,_,q,_⟩ | ⟨e,j,p,m,l,o,rfl⟩)
    ·rw[i]at q;cases q
    ·rw[d]at l;cases l;exists EI (v B d) (H (jb u.nd _ C _ j) o),e,j;rwa [zcx n m,zaJ,zaT,zbl]
   ·rintro⟨_,e,j,q⟩;calc .inr ({e,j,n,_,d,q,Rk})
 | none=>
  cases i:qO S x.2 with
  | some m=>
   rw[Q9 d,Jn i,Q9 (r4 λ_ _ q=>by rw[d]at q;cases q)];show W.edl _=.edl _;congr 1;calc zbu λk=>?_;rw[testBit_setN,QK (by have:=H C i;omega),testBit_setN,zaB,zaw,decide_eq_true_iff,decide_eq_true_iff,decide_eq_true_iff,D,Qe];constructor
   ·rintro(⟨e,j,p,u,l,o,rfl⟩ | ⟨e,j,p,u,q,_⟩)
    ·rw[i]at o;cases o;exists EI (v (jb g.nd _ B _ j) l) (H C i),e,j;rwa [zaJ,zaT,zbl]
    ·rw[d]at q;cases q
   ·rintro⟨_,e,j,q⟩;calc .inl ({e,j,_,m,q,i,by rw[zaJ,zaT,zbl]})
  | none=>
   rw[Q9 d,Q9 i,Q9 (r4 λ_ _ q=>by rw[d]at q;cases q)];show W.edl _=.edl 0;congr 1;calc zbu λk=>?_;rw[testBit_setN,Nat.zero_testBit,decide_eq_false_iff_not,D];rintro(⟨e,j,p,u,_,q,_⟩ | ⟨e,j,p,u,q,_⟩)
   ·rw[i]at q;cases q
   ·rw[d]at q;cases q
abbrev NC:o0:=top 55
abbrev WD:o0:=top 110
inductive RX(CG CN CE:m9)(vs:List V)(H:Hp)(Q:VK):Prop
 | mk (g:m9) (rs:qY) (z:Str):vs=[.ref g,.str z]->qZ CG H g rs->qe rs->(rs.length<=14)->(z∈rs.map (·.1))->(∀H' a R,qj H H'->All (js rs) (rs.map (·.1)) 0 [] R->Zj CN CE H' a (wT rs R z)->Q (.ref a) H')->RX CG CN CE vs H Q
def Om(a b CE:m9):Sp:=λd H Q _=>RX a b CE d H Q
inductive wQ(CG:m9)(vs:List V)(H:Hp)(Q:VK):Prop
 | mk (g h:m9) (rs:qY) (hs:List Str):vs=[.ref g,.ref h]->qZ CG H g rs->qe rs->(rs.length<=14)->Jl H h rs hs->(∀H' R,qj H H'->Q3 rs R->Q (.str (ZQ (Qk (hs.map (wT rs R))))) H')->wQ CG vs H Q
def Hv(a:m9):Sp:=λb H Q _=>wQ a b H Q
def Hl(d CE:m9)(b:TE):TE:=λi H Q=>b i H λx b=>∃a u,x=.ref a/\Zj d CE b a u/\∀d,b d=r4->Q (.ref d) (upd b d (.tup [.str (Qh u),.int (JM u:Nat)]))
def Yu{X:Cx}{a CE:m9}{o:Expr}{b:TE}{b_ pos:Pos}{i:Sem Bool}(j:JE X o b)(h:WF X.K X.mg)(hr:jK 1 X.A)(l:h.CN=a:=by rfl)(m:h.CE=CE:=by rfl)
  (p:eval (.Call (.Attribute o "told" b_) [] [] pos) X.env=(eval o X.env >>= λd=>standAt b_.atName >>= λ_=>holding [d] (getMethod d "told" i) >>= λr=>callWith pos r.1 r.2 (backTo pos (starEach [] X.env)) (backToKw pos (keywordEach [] X.env))):=by rfl):
  JE X (.Call (.Attribute o "told" b_) [] [] pos) (Hl a CE b):=by
 subst l;subst m;calc uY h hr j p
def OG:ql ["ground","name"] ["ground","name"] (qg NC):=j3
def Iv(F:jJ K "worth_of" "worth_of" NC f b)(h:WF K mg)(B:Qd mg)(Z:Wk K mg)(G:jp mg)(T:jD K mg)(M:GM K mg d)(Y:Yb K mg)(i:qK K mg "need_place" zX IK l m)(j:qK K mg "label_worth" LU ["label"] o p):qu P w K mg base jh 9 f b ["ground","name"] (Om d h.CN h.CE):=by
 let{_,_,l}:=Y.labels;calc F.okK OG λH Q E hr h=>?_;intro X;let{g,b,z,rfl,m,good,o,d,q}:=h;exists _,qb (q5 (qw i (pin P w mg base (WL i.fn G M)) (jV (jv 0) (jv 1))))
  (qc (qm (qw j (pin P w mg base (MM j.fn h B Z)) (qI (qE (qw l (pin P w mg base (J9 l.fn B G T M Y)) (qI (jv 0))) (jv 1))))))
 calc{g,b,z,s0,m,tc.mp d,λ_ i=>{g,b,s0,m.mono i,good,o,λ_ D R j _ l all=>?_}};let{kvs,a,_,c}:=l.at_;let{r,l,m}:=tc.mp d;let{t,u,v}:=c r l;rw[m]at u v;calc{_,by rw[<-u];calc jk.k (k:=(Sum.inr z:qJ)) a,t,b,R,z,s0,v,Yg good (Xb (jb good.nd) all) d,λa b d l=>q b a R ((i.trans j).trans d) all l}
def uL(F:jJ K "outcome" "outcome" uk f b)(h:WF K mg)(B:Qd mg)(Z:Wk K mg)(G:jp mg)(T:jD K mg)(M:GM K mg d)(Y:Yb K mg)(O:XM K mg):qu P w K mg base jh 10 f b ["ground","heap"] (Hv d):=by
 let{_,_,b}:=O.hw;calc F.okK HI λH Q E hr z=>?_;intro X;let{g,i,j,l,rfl,m,good,le,d,q}:=z;calc{_,qc (qm (U9 h B (hr.mono {}) (qw b (pin P w mg base (FT b.fn h B Z G T M Y O)) (jV (jv 0) (jv 1))))),{g,i,j,l,s0,m,good,le,d,λa _ R b all i=>{a,_,s0,i,yZ λu hu=>?_,λi j=>q i R (b.trans j) all}}};let{z,b,rfl}:=tc.mp hu;let{r,i,e}:=d.in_ z b;exact Yg good (Xb (jb good.nd) all) (tc.mpr ({r,i,e}))
open MRing
abbrev CO:o0:=top 92
abbrev Fw:o0:=top 93
abbrev HZ:o0:=top 94
abbrev LT:o0:=top 95
def out(zs l:List Str):List Str:=l.filter λy=> !Jz (.str y) (zs.map V.str)
def Ze:y∈out zs l↔y∈l/\y∉zs:=by
 unfold out;rw[tV,Bool.not_eq_true',<-Bool.not_eq_true,Qf]
def WI{zs l:List Str}{i:Nat}{z:Str}(e:l[i]?=tH z):out zs (l.take (i+1))=out zs (l.take i)++if (!Jz (.str z) (zs.map V.str))=true then [z] else []:=by
 unfold out;rw[tE,e,zaF];congr 1;cases c:(!Jz (.str z) (zs.map V.str))
 ·simp [c]
 ·simp [c]
def UP(zs l:List Str):(out zs l).length<=l.length:=zao _ _
inductive Fk(CG:m9)(vs:List V)(H:Hp)(Q:VK):Prop
 | mk (g S:m9) (rs:qY) (r:Str×List Str) (zs:List Str):vs=[.ref g,.ref S,.str r.1]->qZ CG H g rs->(r∈rs)->ji r.1=true->(rs.length<=14)->H S=tH (.lst (zs.map V.str))->(∀H' l,qj H H'->H l=r4->H' l=tH (.lst ((out zs (qz rs r)).map V.str))->Q (.ref l) H')->Fk CG vs H Q
def OD(a:m9):Sp:=λb H Q _=>Fk a b H Q
def ya(rs:qY)(zs:List Str):List Str:=(out zs (rs.map (·.1))).filter λz=>(out zs (js rs z)).isEmpty
inductive EZ(CG:m9)(vs:List V)(H:Hp)(Q:VK):Prop
 | mk (g S:m9) (rs:qY) (zs:List Str):vs=[.ref g,.ref S]->qZ CG H g rs->qe rs->(rs.length<=14)->H S=tH (.lst (zs.map V.str))->(∀H' l,qj H H'->H l=r4->H' l=tH (.lst ((ya rs zs).map V.str))->Q (.ref l) H')->EZ CG vs H Q
def S3(a:m9):Sp:=λb H Q _=>EZ a b H Q
abbrev C5:List Str:=["ground","settled","name"]
def TU:ql C5 C5 (qg CO):=j3
def FU(F:jJ K "ends_left" "ends_left" CO f a)(B:Qd mg)(G:jp mg)(T:jD K mg)(M:GM K mg b):qu P w K mg base jh 3 f a C5 (OD b):=by
 let{_,_,b}:=M.cls;let{_,_,d}:=M.fr;let{_,_,j}:=M.isn;calc F.okK TU λH Q E hr h=>?_;intro X;let{g,S,a,r,l,rfl,i,m,o,_,u,q}:=h;refine⟨_,qc (qm (jL (N':=["end","settled"]) (ix:=[r4,tH 1]) (tt:=Yh (YM (FJ K true) (jd 0) (jd 1))) (qv (ZJ d b.cl (pin P w mg base (QE d.fn b B G T j)) hr (jv 0) (qI (jv 2)))) (λb b p fp _=>
  {qC 0,Qo (qp Qm (jv 0) (jv 1) (by with_unfolding_all rfl)),jv 0}))),?_⟩
 let{d,fs,j,_,v}:=i.ins;calc{d,fs,j,v,g,a,r,s0,i,m,o,λd le i j=>?_};let b:qj H (upd d le (.lst ((qz a r).map V.str))):=i.trans (qd j);let m:upd d le (.lst ((qz a r).map V.str)) le=tH (.lst ((qz a r).map V.str)):=qa;generalize upd d le (.lst ((qz a r).map V.str))=p at b m;calc{{_,.of m},λW d=>?_};let i:=Jb (rs:=a) r;refine qR (xs:=(qz a r).map V.str) (λo i j=>∃v0,i=[v0,tH (.ref S)]/\j=upd p W (.lst ((out l ((qz a r).take o)).map V.str))) ({r4,s0,s0}) (λo i j _ ⟨_,_,e⟩=>e▸.of (qk m d)) ?_ ?_
 ·rintro o y i j a ⟨v0,rfl,rfl⟩;let{z,m,_,rfl}:=jA a;exists S,_,s0,.inl (.of (qk (b _ _ u) d)),s0,jQ _,_,rfl;rw[WI m];show if (!Jz (.str z) (l.map V.str))=true then _ else _
  cases c:(!Jz (.str z) (l.map V.str)) with
  | true=>
   refine Qq ({_,qa,?_,_,s0,?_})
   ·rw[ta];calc qi (tP (UP _ _) ?_);rw[tG];omega
   ·rw[jF,if_pos rfl,tj];rfl
  | false=>
   calc jx ({_,s0,?_});rw[if_neg tN,zal]
 ·rintro i j ⟨v0,rfl,rfl⟩;rw[ta,tu (ti _)];calc q _ W (b.trans (qd d)) (jq b d) qa
abbrev nSN:List Str:=["ground","settled","left"]
abbrev Ij:List Str:=["ground","settled"]
def Tj:ql nSN Ij (qg Fw):=j3
def Pj(F:jJ K "settled_next" "settled_next" Fw f fd)(B:Qd mg)(G:jp mg)(T:jD K mg)(M:GM K mg CG)(hE:qK K mg "ends_left" CO C5 fE ae):qu P w K mg base jh 4 f fd Ij (S3 CG):=by
 let{_,_,v}:=M.cls;let{_,_,hM}:=M.nm;calc F.okK Tj λH Q E hr h=>?_;intro X;let{g,S,d,i,rfl,J,good,aa,hS,q}:=h;refine⟨_,qb (Qu (i:=2) (N':=["name","settled"]) (ix:=[r4,tH 1]) (tt:=Yh (YM (FJ K true) (jd 0) (jd 1))) (qv (Jg hM v.cl (pin P w mg base (j7 hM.fn v G)) (hr.mono {}) (jv 0))) (λv p o fp ab=>
   {qC 0,Qo (qp Qm (jv 0) (jv 1) (by with_unfolding_all rfl)),jv 0}))
  (qc (qm (jL (N':=["name","ground","settled"]) (ix:=[r4,tH 0,tH 1]) (tt:=Yh (YM T4 (BR (λm H Q=>∃j l,m=[.ref j]/\(JX K H j l\/SqT K H j l)/\Q (.int l.length) H) (qW (Wi (OD CG) [] E0 (qW (jd 1) (qW (jd 2) (qW (jd 0) QQ)))) QQ)) (tC (.int 0)))) (qv (jv 2)) (λv p o fp ab=>
   {qC 0,Qo (qp jU (qr qy {} B.len boot_len (qI (qw hE (pin P w mg base (FU hE.fn B G T M)) (Vo (jv 1) (jv 2) (jv 0))))) qh),jv 0})))),?_⟩
 let{v,fs,hg,l1,_}:=J.ins;calc{v,fs,hg,l1,g,d,s0,J,λln v=>{{_,.of qa},λW x=>?_}};let p:qj H (upd H ln (.lst ((d.map (·.1)).map V.str))):=qd v;let v:upd H ln (.lst ((d.map (·.1)).map V.str)) ln=tH (.lst ((d.map (·.1)).map V.str)):=qa;generalize upd H ln (.lst ((d.map (·.1)).map V.str))=o at p v x;refine qR (xs:=(d.map (·.1)).map V.str) (λl m j=>∃v0,m=[v0,tH (.ref S)]/\j=upd o W (.lst ((out i ((d.map (·.1)).take l)).map V.str))) ({r4,s0,s0}) (λl m j _ ⟨_,_,e⟩=>e▸.of (qk v x)) ?_ ?_
 ·rintro l y m j L ⟨v0,rfl,rfl⟩;let{z,O,hz,rfl}:=jA L;exists S,_,s0,.inl (.of (qk (p _ _ hS) x)),s0,jQ _,_,rfl;rw[WI O];show if (!Jz (.str z) (i.map V.str))=true then _ else _
  cases c:(!Jz (.str z) (i.map V.str)) with
  | true=>
   refine Qq ({_,qa,?_,_,s0,?_})
   ·rw[ta];calc qi (tP (UP _ _) ?_);rw[tG,ta];omega
   ·rw[jF,if_pos rfl,tj];rfl
  | false=>
   calc jx ({_,s0,?_});rw[if_neg tN,zal]
 ·rintro m j ⟨v0,rfl,rfl⟩;rw[ta,tu (ti _)];let C:qj H (upd o W (.lst ((out i (d.map (·.1))).map V.str))):=p.trans (qd x);let p:upd o W (.lst ((out i (d.map (·.1))).map V.str)) W=tH (.lst ((out i (d.map (·.1))).map V.str)):=qa;generalize upd o W (.lst ((out i (d.map (·.1))).map V.str))=o at C p;calc{{_,.of p},λV2 U=>?_};let lo:(out i (d.map (·.1))).length<=14:=by
   calc tP (UP _ _) ?_;rwa [ta]
  refine qR (a:=W) (xs:=(out i (d.map (·.1))).map V.str) (λl m j=>∃v0,m=[v0,tH (.ref g),tH (.ref S)]/\qj o j/\j V2=tH (.lst ((((out i (d.map (·.1))).take l).filter λz=>(out i (js d z)).isEmpty).map V.str))) ({r4,s0,qd U,qa}) (λl m j _ ⟨_,_,s,_⟩=>.of (s _ _ p)) ?_ ?_
  ·rintro l y m j L ⟨v0,rfl,u,D⟩;let{z,O,hz,rfl}:=jA L;let{r,Y,rfl}:=tc.mp (Ze.mp hz).1;let o:=C.trans u;calc{g,S,d,r,i,s0,J.mono o,Y,good.nm r Y,aa,o _ _ hS,λ_ o s6 _ p=>{o,_,s0,.inl (.of p),s0,_,s0,?_}};let et:((out i (d.map (·.1))).take (l+1)).filter (λz=>(out i (js d z)).isEmpty)=((out i (d.map (·.1))).take l).filter (λz=>(out i (js d z)).isEmpty)++if (out i (js d r.1)).isEmpty=true then [r.1] else []:=by
    rw[tE,O,zaF];congr 1;cases c:(out i (js d r.1)).isEmpty
    ·simp [c]
    ·simp [c]
   let ee:decide (V.int (((out i (qz d r)).map V.str).length:Nat)=V.int 0)=(out i (js d r.1)).isEmpty:=by
    rw[jC good.nd Y,ta];cases out i (qz d r) with
    | nil=>calc decide_eq_true rfl
    | cons a b=>
     calc decide_eq_false λe=>?_;let:=V.int.inj e;rw[t7]at this;omega
   rw[et];show if decide (V.int (((out i (qz d r)).map V.str).length:Nat)=V.int 0)=true then _ else _
   rw[ee];let ac:=s6 _ _ D;cases c:(out i (js d r.1)).isEmpty with
   | true=>
    refine Qq ({_,ac,?_,_,s0,qj.upd (u.trans s6) U,?_})
    ·rw[ta];calc qi (tP (zao _ _) ?_);rw[tG];omega
    ·rw[qa,if_pos rfl,tj];rfl
   | false=>
    calc jx ({_,s0,u.trans s6,?_});rwa [if_neg tN,zal]
  ·rintro m j ⟨v0,rfl,u,D⟩;rw[ta,tu (ti _)]at D;exact q _ V2 (C.trans u) (jq C U) D
def Xh:z∈ya rs zs↔z∈rs.map (·.1)/\z∉zs/\∀y∈js rs z,y∈zs:=by
 unfold ya;rw[tV,Ze,List.isEmpty_iff];constructor
 ·rintro⟨⟨a,b⟩,c⟩;calc{a,b,λy d=>Classical.byContradiction λn=>?_};let:y∈out zs (js rs z):=Ze.mpr ({d,n});rw[c]at this;cases this
 ·rintro⟨a,b,c⟩;calc{{a,b},zcC.mpr λy d=>(Ze.mp d).2 (c y (Ze.mp d).1)}
def IH{rs:qY}(a:(rs.map (·.1)).Nodup)(zs:List Str):(ya rs zs).Nodup:=a.sublist (zam.trans zam)
def UW{rs:qY}{zs:List Str}(h:∀z∈zs,z∈rs.map (·.1))(nd:zs.Nodup):zs.length<=rs.length:=by
 let:=Jx nd h;rwa [ta]at this
structure Vy(rs:qY)(zs:List Str):Prop where
 sub:∀z∈zs,z∈rs.map (·.1)
 nd:zs.Nodup
 far:∀T,Bo (js rs) T->∀y∈T,y∉zs
 st:MLab.Stl (js rs) zs
def Vy.nil(rs:qY):Vy rs []:={λ_ h=>(nomatch h),zaV,λ_ _ _ _ h=>(nomatch h),λ_ _ h=>(nomatch h)}
def Vy.more{rs:qY}(j:(rs.map (·.1)).Nodup)(h:Vy rs zs):Vy rs (zs++ya rs zs):=by
 refine{λz d=>?_,zaL.mpr ({h.nd,IH j zs,λa p b q e=>?_}),λo t y j m=>?_,λi z l y j=>?_}
 ·rcases tU.mp d with d | d
  ·exact h.sub z d
  ·exact(Xh.mp d).1
 ·exact(Xh.mp q).2.1 (e▸p)
 ·rcases tU.mp m with m | m
  ·exact h.far o t y j m
  ·exact yY t (h.far o t) (Xh.mp m).2.2 j
 ·by_cases d:i < zs.length
  ·rw[tZ d]at l;let{d,o,p}:=h.st i z l y j;exact{d,o,by rwa [tZ {}]}
  ·rw[tY {}]at l;let{d,p}:=zan ((Xh.mp (tS l)).2.2 y j);let o:=(tf.mp p).1;calc{d,{},by rwa [tZ o]}
inductive E7(CG:m9)(vs:List V)(H:Hp)(Q:VK):Prop
 | mk (g:m9) (rs:qY):vs=[.ref g]->qZ CG H g rs->qe rs->(rs.length<=14)->(∀H' l zs,qj H H'->H l=r4->H' l=tH (.lst (zs.map V.str))->Vy rs zs->ya rs zs=[]->Q (.ref l) H')->E7 CG vs H Q
def S6(a:m9):Sp:=λb H Q _=>E7 a b H Q
abbrev nPR:List Str:=["ground","settled","more"]
def Tu:ql nPR ["ground"] (qg HZ):=j3
def FR(F:jJ K "places_to_no_ring" "places_to_no_ring" HZ f j)(B:Qd mg)(G:jp mg)(T:jD K mg)(M:GM K mg l)(m:qK K mg "ends_left" CO C5 o p)(d:qK K mg "settled_next" Fw Ij u x):qu P w K mg base jh 5 f j ["ground"] (S6 l):=by
 let j:=pin P w mg base (Pj d.fn B G T M m);calc F.okK Tu λH Q E hr h=>?_;intro X;let{g,l,rfl,D,good,J,q}:=h;refine⟨_,qb (qB 1 (QH Qi))
  (qb (qB 2 (qw d j (jV (jv 0) (jv 1))))
  (qb (ZG PassesOwn.never (qp JU (qr qy {} B.len boot_len (qI (jv 2))) qh)
   (qb (q5 (Jh zar zbs zbt ZE (jv 1) (qI (jv 2))))
   (qc (qB 2 (qw d j (jV (jv 0) (jv 1)))))))
  (qc (qm (jv 1))))),?_⟩
 refine⟨J7,λj u=>⟨g,j,l,[],s0,D.mono (qd u),good,J,qa,λ_ M1 y C L=>Zy (λx m=>∃(o:m9) (d:List Str),x=[tH (.ref g),tH (.ref j),tH (.ref o)]/\qj H m/\m j=tH (.lst (d.map V.str))/\m o=tH (.lst ((ya l d).map V.str))/\Vy l d/\j≠o)
  (λx m=>15 - (match m j with | some (.lst p)=>p.length | _=>0))
  ({M1,[],s0,(qd u).trans y,y _ _ qa,L,.nil l,Pw qa C}) ?_ ?_⟩⟩
 ·rintro x m ⟨o,d,rfl,L,y,O,st,ne⟩;let C:=st.more good.nd;let U:=UW C.sub C.nd;rw[tz]at U;exists o,_,s0,.inl (.of O),_,_,s0,s0,_,rfl;rw[ta];refine Yw (λc=>?_) (λc=>?_)
  ·let U:=of_decide_eq_true c;calc{.inl ({s0,_,.of y}),j,o,_,_,s0,s0,y,O,by rw[ta,ta];calc zab (qi {}),?_};rw[<-tj];let o:qj H (upd m j (.lst ((d++ya l d).map V.str))):=qj.upd L u;calc{g,j,l,d++ya l d,s0,D.mono o,good,J,qa,λO M2 D Y aa=>?_};let J:=D _ _ (qa);exists{M2,d++ya l d,s0,o.trans D,J,aa,C,Pw qa Y};show 15 - (match O j with | some (.lst p)=>p.length | _=>0) < 15 - (match m j with | some (.lst p)=>p.length | _=>0);rw[J,y];show 15 - ((d++ya l d).map V.str).length < 15 - (d.map V.str).length;rw[ta,ta,tz];omega
  ·let U:¬(0:Int) < (((ya l d).length:Nat):Int):=λz=>c (decide_eq_true z);exact(q m j d L u y st (zaN {}))
 ·rintro x m Q _ f z;let{v,e,a,d,j,l,i,m,o,p,b,u,x}:=xV z;exact yV e ({a,d,j,l,i,m,o,p,b,u,f _ _ x})
structure SG(rs:qY)(zs ws:List Str)(z:Str):Prop where
 nd:ws.Nodup
 chain:∀(i:Nat) (x y:Str),ws[i]?=tH x->ws[i+1]?=tH y->y∈js rs x
 last:∀x,ws[ws.length - 1]?=tH x->z∈js rs x
 sub:∀y∈ws,y∈rs.map (·.1)
 at_:z∈out zs (rs.map (·.1))
def SG.go{rs:qY}(p:(rs.map (·.1)).Nodup)(h:SG rs zs l z)(q:z∉l)(e:ya rs zs=[]):∃y r,out zs (js rs z)=y::r/\SG rs zs (l++[z]) y:=by
 let m:=Ze.mp h.at_;cases c:out zs (js rs z) with
 | nil=>
  let:z∈ya rs zs:=Xh.mpr ⟨m.1,m.2,λy j=>Classical.byContradiction λn=>by
   let:y∈out zs (js rs z):=Ze.mpr ({j,n});rw[c]at this;cases this⟩
  rw[e]at this;cases this
 | cons y r=>
  let{o,v}:=Ze.mp (by rw[c];calc tK);refine{y,r,s0,{?_,λi x u ex j=>?_,λx ex=>?_,λu hu=>?_,Ze.mpr ({jb p z m.1 y o,v})}}
  ·calc zaL.mpr ({h.nd,zaX _ _,λa _ b p v=>q ?_});rwa [<-tQ.mp p,<-v]
  ·let p:=(tf.mp ex).1;let q:=(tf.mp j).1;rw[tz,zas]at p q;rw[tZ {}]at ex;by_cases d:i+1 < l.length
   ·rw[tZ d]at j;exact h.chain i x u ex j
   ·rw[tY {}]at j;let:i+1 - l.length=0:={}
    rw[this]at j;obtain rfl:=tH.inj j;exact h.last x (by rw[<-ex];congr 1;omega)
  ·rw[tz,zas,Nat.add_sub_cancel,tY (ti _),zcl]at ex;obtain rfl:=tH.inj ex;exact o
  ·rcases tU.mp hu with hu | hu
   ·exact h.sub u hu
   ·rw[tQ.mp hu];calc m.1
def AZ{a:List Str}{z:Str}(nd:a.Nodup)(h:z∈a):∃j:Nat,a[j]?=tH z/\∀i:Nat,i < j->a[i]?≠tH z:=by
 let{j,a,e}:=zdN h;calc{j,by rw[tv a,e],λi _ a=>?_};let{_,b}:=tf.mp a;let:=xv nd (b.trans e.symm);omega
def Be(a:List Str)(h:j < a.length):L2.cutV (a.map V.str) (tH (j:Int)) r4=(a.drop j).map V.str:=by
 unfold L2.cutV;rw[HT.sIx_none,HT.sIx_nat,ta,zcG (zab h),List.map_drop];calc tu (by rw[zbQ,ta];calc ti _)
def Bu(zs:List Str)(G:Str->List Str)(a:Str):Nat->List Str×Str
 | 0=>([],a)
 | n+1=>if (Bu zs G a n).2∈(Bu zs G a n).1 then Bu zs G a n else ((Bu zs G a n).1++[(Bu zs G a n).2],(out zs (G (Bu zs G a n).2)).headD (Bu zs G a n).2)
inductive Bp(rs:qY)(r:List Str):Prop
 | mk (zs ws:List Str) (z z0:Str) (rest:List Str) (j n:Nat):Vy rs zs->ya rs zs=[]->(out zs (rs.map (·.1))=z0::rest)->Bu zs (js rs) z0 n=(ws,z)->ws.Nodup->ws[j]?=tH z->r=ws.drop j->Bp rs r
def JQ(rs:qY):Prop:=∀a,(∀z∈a,z∈rs.map (·.1))->Bo (js rs) a->a=[]
inductive E1(CG:m9)(vs:List V)(H:Hp)(Q:VK):Prop
 | mk (g:m9) (rs:qY):vs=[.ref g]->qZ CG H g rs->qe rs->(rs.length<=14)->(∀H' v,qj H H'->((v=.non/\JQ rs)\/∃l r,v=.ref l/\H l=r4/\H' l=tH (.lst (r.map V.str))/\Bq (js rs) r/\(∀z∈r,z∈rs.map (·.1))/\Bp rs r)->Q v H')->E1 CG vs H Q
def Os(a:m9):Sp:=λb H Q _=>E1 a b H Q
abbrev nRI:List Str:=["ground","settled","left","walked","name"]
def To:ql nRI ["ground"] (qg LT):=j3
def FQ(F:jJ K "ring_in" "ring_in" LT f a)(B:Qd mg)(G:jp mg)(T:jD K mg)(M:GM K mg j)(d:qK K mg "ends_left" CO C5 p u)(l:qK K mg "settled_next" Fw Ij C J)(o:qK K mg "places_to_no_ring" HZ ["ground"] L O):qu P w K mg base jh 6 f a ["ground"] (Os j):=by
 let{_,_,j}:=M.cls;let{_,_,p}:=M.nm;calc F.okK To λH Q E hr h=>?_;intro X;let{g,a,rfl,gr,good,ac,q}:=h;refine⟨_,qb (zq 1 (qw o (pin P w mg base (FR o.fn B G T M d l)) (qI (jv 0))))
  (qb (Qu (i:=2) (N':=["name","settled"]) (ix:=[r4,tH 1]) (tt:=Yh (YM (FJ K true) (jd 0) (jd 1))) (qv (Jg p j.cl (pin P w mg base (j7 p.fn j G)) (hr.mono {}) (jv 0))) (λj C j fp _=>
   {qC 0,Qo (qp Qm (jv 0) (jv 1) (by with_unfolding_all rfl)),jv 0}))
  (qb (qG (qp jU (qr qy {} B.len boot_len (qI (jv 2))) qh) (qc (qm va)) qt)
  (qb (qB 3 (QH Qi))
  (qb (qB 4 (qF QN (jv 2) qh))
  (qb (ZG PassesOwn.never (qp Qm (jv 4) (jv 3) (by with_unfolding_all rfl))
   (qb (q5 (Jh zar zbq zbr Za (jv 3) (qI (jv 4))))
   (qc (qB 4 (qF QN (qw d (pin P w mg base (FU d.fn B G T M)) (Vo (jv 0) (jv 1) (jv 4))) qh)))))
  (qc (qm (ZI XV (jv 3) (zH (Jh zar zdj PySem.F.type_list_index M5 (jv 3) (qI (jv 4)))) zI)))))))),?_⟩
 calc{g,a,s0,gr,good,ac,λo S d p l L st en=>?_};let{l,fs,u,J,_}:=(gr.mono p).ins;calc{l,fs,u,J,g,a,s0,gr.mono p,λln u=>{{_,.of qa},λW l=>?_}};let C:qj H (upd o ln (.lst ((a.map (·.1)).map V.str))):=p.trans (qd u);let J:upd o ln (.lst ((a.map (·.1)).map V.str)) ln=tH (.lst ((a.map (·.1)).map V.str)):=qa;let O:upd o ln (.lst ((a.map (·.1)).map V.str)) S=tH (.lst (d.map V.str)):=qk L u;generalize upd o ln (.lst ((a.map (·.1)).map V.str))=j at C J l O;refine qR (xs:=(a.map (·.1)).map V.str) (λp o u=>∃v0,o=[v0,tH (.ref S)]/\u=upd j W (.lst ((out d ((a.map (·.1)).take p)).map V.str))) ({r4,s0,s0}) (λp o u _ ⟨_,_,e⟩=>e▸.of (qk J l)) ?_ ?_
 ·rintro p y o u J ⟨v0,rfl,rfl⟩;let{z,L,_,rfl}:=jA J;exists S,_,s0,.inl (.of (qk O l)),s0,jQ _,_,rfl;rw[WI L];show if (!Jz (.str z) (d.map V.str))=true then _ else _
  cases c:(!Jz (.str z) (d.map V.str)) with
  | true=>
   refine Qq ({_,qa,?_,_,s0,?_})
   ·rw[ta];calc qi (tP (UP _ _) ?_);rw[tG,ta];omega
   ·rw[jF,if_pos rfl,tj];rfl
  | false=>
   calc jx ({_,s0,?_});rw[if_neg tN,zal]
 ·rintro o u ⟨v0,rfl,rfl⟩;rw[ta,tu (ti _)];let U:qj H (upd j W (.lst ((out d (a.map (·.1))).map V.str))):=C.trans (qd l);let L:upd j W (.lst ((out d (a.map (·.1))).map V.str)) W=tH (.lst ((out d (a.map (·.1))).map V.str)):=qa;let ae:upd j W (.lst ((out d (a.map (·.1))).map V.str)) S=tH (.lst (d.map V.str)):=qk O l;generalize upd j W (.lst ((out d (a.map (·.1))).map V.str))=H3 at U L ae;exists W,_,s0,.inl (.of L),s0,_,rfl;rw[ta];cases c:out d (a.map (·.1)) with
  | nil=>
   calc jI (decide_eq_true rfl) (q _ _ U (.inl ({s0,λj sub t=>zcC.mpr λy J=>?_})));let:y∈out d (a.map (·.1)):=Ze.mpr ({sub y J,st.far j t y J});rw[c]at this;cases this
  | cons Y rest=>
   rw[c]at L;calc qU (decide_eq_false λe=>by have:=V.int.inj e;rw[t7]at this;omega) ?_;calc{J7,λD O=>{_,_,.of (qk L O),QA (rfl:(V.str Y::rest.map V.str)[0]?=tH (V.str Y)),?_}};let j:=jq U O;refine Zy (λσ o=>∃(z:Str) (j:List Str),σ=[tH (.ref g),tH (.ref S),tH (.ref W),tH (.ref D),tH (.str z)]/\qj H3 o/\o D=tH (.lst (j.map V.str))/\SG a d j z/\∃n,Bu d (js a) Y n=(j,z))
    (λσ o=>15 - (match o D with | some (.lst u)=>u.length | _=>0))
    ({Y,[],s0,qd O,qa,{zaV,λi x y e=>by simp at e,λx e=>by simp at e,λy h=>(nomatch h),c▸tK},0,s0}) ?_ ?_
   ·rintro σ o ⟨z,j,rfl,sH,C,l,n,wn⟩;let lw:=UW l.sub l.nd;exists D,_,s0,.inl (.of C),s0,jQ _,_,rfl;show if (!Jz (.str z) (j.map V.str))=true then _ else _
    refine Yw (λcc=>?_) (λcc=>?_)
    ·let nw:z∉j:=λm=>by
      rw[Qf.mpr m]at cc;cases cc
     let{y,r,eo,aa}:=l.go good.nd nw en;let ag:=UW aa.sub aa.nd;rw[tz,zas]at ag;calc{.inl ({s0,_,.of C}),D,_,_,s0,s0,C,by rw[ta];calc qi {},?_};let em:j.map V.str++[V.str z]=(j++[z]).map V.str:=by rw[tj];rfl
     rw[em];let sT:qj H3 (upd o D (.lst ((j++[z]).map V.str))):=qj.upd sH O;let{O,ab,ah}:=tc.mp (Ze.mp l.at_).1;subst ah;calc{g,S,a,O,d,s0,gr.mono (U.trans sT),ab,good.nm O ab,ac,sT _ _ ae,λH5 _ s5 _ af=>?_};rw[<-jC good.nd ab,eo]at af;exists _,_,.of af,QA (rfl:(V.str y::r.map V.str)[0]?=tH (V.str y));let d5:=s5 _ _ (qa);calc{{y,j++[O.1],s0,sT.trans s5,d5,aa,n+1,by rw[Bu,wn,if_neg nw];show (_,(out d (js a O.1)).headD O.1)=_;rw[eo];rfl},?_};show 15 - (match H5 D with | some (.lst u)=>u.length | _=>0) < 15 - (match o D with | some (.lst u)=>u.length | _=>0);rw[d5,C];show 15 - ((j++[O.1]).map V.str).length < 15 - (j.map V.str).length;rw[ta,ta,tz,zas];omega
    ·let O:=Classical.byContradiction λn=>cc (by
      cases e:Jz (.str z) (j.map V.str) with
      | false=>rfl
      | true=>calc absurd (Qf.mp e) n)
     let{p,a,fj}:=AZ l.nd O;let jl:=(tf.mp a).1;calc{.inl ({s0,_,.of C}),D,j,z,p,s0,s0,.of C,a,fj,_,s0,D,_,s0,.of C,λC O=>?_};rw[Be j jl];let sF:=U.trans sH;refine q _ _ (sF.trans (qd O)) (.inr ({C,j.drop p,s0,jq sF O,qa,CT l.nd l.chain l.last a,λy J=>l.sub y (List.mem_of_mem_drop J),d,j,z,Y,rest,p,n,st,en,c,wn,l.nd,a,s0}))
   ·rintro σ o Q _ f z;let{v,e,z}:=xV z;let{_,a,C,u,d,j,l,L,b,o,p}:=xV z;exact yV e (yV a ({C,u,d,j,l,L,b,o,f _ _ p}))
abbrev OV:o0:=top 96
def Aj:MLab.Lst f ys (Rb.lackN (ys.map f)):=by
 let h:Rb.Lacks (Rb.lackN (ys.map f)) (ys.map f):=Rb.lackI_lacks _;refine{λb d=>?_,λy a e=>?_}
 ·let{y,a,e}:=tc.mp (h.2 b d);exact{y,a,e}
 ·calc h.1 (by rw[<-e];calc tc.mpr ({y,a,s0}))
def _root_.MLab.Lst.congr{f':Str->Nat}(h:MLab.Lst f ys n)(e:∀y∈ys,f' y=f y):MLab.Lst f' ys n:={λb d=>let ⟨y,a,z⟩:=h.lo b d;({y,a,(e y a).trans z}),λy a z=>h.no y a ((e y a).symm.trans z)}
def Nu(nt:JQ rs)(d:ya rs zs=[])(cl:∀z∈rs.map (·.1),∀y∈js rs z,y∈rs.map (·.1)):∀z∈rs.map (·.1),z∈zs:=λz i=>Classical.byContradiction λn=>by
 let t:Bo (js rs) ((rs.map (·.1)).filter λz=>decide (z∉zs)):=λx j=>by
  let{a,b}:=tV.mp j;let:x∉ya rs zs:=by rw[d];exact λh=>nomatch h
  let:¬∀y∈js rs x,y∈zs:=λc=>this (Xh.mpr ({a,of_decide_eq_true b,c}));let{y,d}:=Classical.not_forall.mp this;let{d,j}:=Classical.not_imp.mp d;exact{y,d,tV.mpr ({cl x a y d,decide_eq_true j})}
 let m:z∈(rs.map (·.1)).filter λz=>decide (z∉zs):=tV.mpr ({i,decide_eq_true n});rw[nt _ (λz i=>(tV.mp i).1) t]at m;cases m
def Mf(f:Str->Nat)(zs:List Str):List (qJ×V):=zs.map λz=>((Sum.inr z:qJ),V.int (f z:Nat))
def kQ(f:Str->Nat)(zs:List Str):(Mf f zs).map (·.1)=zs.map Sum.inr:=by
 unfold Mf;rw[zad];rfl
def uD{zs:List Str}(nd:zs.Nodup)(h:z∈zs):ja (Mf f zs) (Sum.inr z:qJ)=tH (.int (f z:Nat)):=by
 let{i,d}:=zan h;refine wu (i:=i) ?_ ?_
 ·rw[kQ];exact Jp nd λa _ b _ e=>Sum.inr.inj e
 ·unfold Mf;rw[tA,d];rfl
inductive E8(CG:m9)(vs:List V)(H:Hp)(Q:VK):Prop
 | mk (g:m9) (rs:qY):vs=[.ref g]->qZ CG H g rs->qe rs->(rs.length<=14)->JQ rs->(∀H' D zs f,qj H H'->H D=r4->H' D=tH (.dK (Mf f zs))->Vy rs zs->(∀z∈rs.map (·.1),z∈zs)->(∀z∈zs,MLab.Lst f (js rs z) (f z))->Q (.ref D) H')->E8 CG vs H Q
def S7(a:m9):Sp:=λb H Q _=>E8 a b H Q
abbrev nPN:List Str:=["ground","found","numbers","name"]
def Tv:ql nPN ["ground"] (qg OV):=j3
def Pm(F:jJ K "plain_numbers" "plain_numbers" OV f a)(B:Qd mg)(G:jp mg)(T:jD K mg)(M:GM K mg d)(j:qK K mg "ends_left" CO C5 o J)(l:qK K mg "settled_next" Fw Ij L O)(b:qK K mg "places_to_no_ring" HZ ["ground"] U aj)(p:qK K mg "ring_in" LT ["ground"] fR ak)(C:qK K mg "lacking" Qt ["numbers"] fL al):qu P w K mg base jh 7 f a ["ground"] (S7 d):=by
 let{_,_,d}:=M.cls;let{_,_,J}:=M.fr;let{_,_,O}:=M.isn;calc F.okK Tv λH Q E hr h=>?_;intro X;let{g,a,rfl,o,good,L,nt,q}:=h;let hu:=hu_of hr;refine⟨_,qb (qB 1 (qw p (pin P w mg base (FQ p.fn B G T M j l b)) (qI (jv 0))))
  (qb (qG (qp C8 (jv 1) va) qS qt)
  (qb (zq 2 j8)
  (qb (je (qv (qw b (pin P w mg base (FR b.fn B G T M j l)) (qI (jv 0)))) (qC 3)
   (qc (jB (jv 2) (jv 3) (qw C (pin P w mg base (ZT C.fn)) (qI (jL (N':=["end","numbers"]) (ix:=[r4,tH 2]) (qv (ZJ J d.cl (pin P w mg base (QE J.fn d B G T O)) (hr.mono {}) (jv 0) (qI (jv 3)))) (λd d p fp _=>
    {qC 0,qP,qE (jv 1) (jv 0)})))))))
  (qc (qm (jv 2)))))),?_⟩
 let{U,fs,hg,_,l2}:=o.ins;calc{g,a,s0,o,good,L,λb v j l=>?_};let C:v=.non:=by
  rcases l with ⟨e,_⟩ | ⟨J,r,_,_,_,ring,inr,_⟩
  ·exact e
  ·exact absurd (nt r inr ring.trap) ring.ne
 subst C;exists rfl,_,rfl;rw[decide_eq_true rfl];calc jx λD l=>?_;let d:qj b (upd b D (.dK [])):=qd l;let h2:upd b D (.dK []) D=tH (.dK []):=qa;let nD:=jq j l;generalize upd b D (.dK [])=p at d h2;let b:=j.trans d;calc{g,a,s0,o.mono b,good,L,λ_ p l d ab j st en=>{{_,.of j},?_}};let C:=UW st.sub st.nd;refine jz (λi O X=>∃(v3:Option V) (f:Str->Nat),O=[tH (.ref g),tH .non,tH (.ref D),v3]/\qj H X/\X p=tH (.lst (l.map V.str))/\X D=tH (.dK (Mf f (l.take i)))/\∀z∈l.take i,MLab.Lst f (js a z) (f z))
  ({_,λ_=>0,s0,b.trans d,j,d _ _ h2,λz h=>(nomatch h)}) (λi O X _ ⟨_,_,_,_,h,_⟩=>.of h) ?_ ?_
 ·rintro i y O X b ⟨v3,f,rfl,p,ac,C,lst⟩;let{z,J,d,rfl}:=jA b;let j:=(tf.mp J).1;let{r,L,rfl}:=tc.mp (st.sub z d);let eg:=jC good.nd L;let ae:∀y∈qz a r,y∈l.take i:=λy b=>by
   rw[<-eg]at b;let{d,hj,j}:=st.st i r.1 J y b;calc tS (i:=d) ?_;rw[zbh];rwa [if_pos hj]
  let am:=Jb (rs:=a) (r:=r);calc{U,fs,p _ _ hg,l2,g,a,r,s0,o.mono p,L,good.nm r L,λL le ag ah=>{{_,.of qa},λo U=>?_}};let sA:qj X (upd L le (.lst ((qz a r).map V.str))):=ag.trans (qd ah);let hA:upd L le (.lst ((qz a r).map V.str)) le=tH (.lst ((qz a r).map V.str)):=qa;generalize upd L le (.lst ((qz a r).map V.str))=L at sA hA U;refine qR (xs:=(qz a r).map V.str) (λd aa Y=>∃v0:Option V,aa=[v0,tH (.ref D)]/\Y=upd L o (.lst (JV (((qz a r).take d).map f)))) ({r4,s0,s0}) (λd aa Y _ ⟨_,_,e⟩=>e▸.of (qk hA U)) ?_ ?_
  ·rintro d y aa Y b ⟨v0,rfl,rfl⟩;let{z,af,ai,rfl}:=jA b;let hj:=(tf.mp af).1;let gd:=jk.k (k:=(Sum.inr z:qJ)) (qk (o':=HO.lst (JV (((qz a r).take d).map f))) (sA _ _ C) U);rw[uD (st.nd.sublist (zda _ _)) (ae z ai)]at gd;exists _,gd,_,qa,?_,_,rfl
   ·unfold JV;rw[ta,ta,tG];exact qi {}
   ·unfold JV;rw[jF,tE,af,tj,tj];rfl
  ·rintro aa Y ⟨v0,rfl,rfl⟩;rw[ta,tu (ti _)];let sU:qj L (upd L o (.lst (JV ((qz a r).map f)))):=qd U;let U:upd L o (.lst (JV ((qz a r).map f))) o=tH (.lst (JV ((qz a r).map f))):=qa;generalize upd L o (.lst (JV ((qz a r).map f)))=X3 at sU U;calc{o,(qz a r).map f,s0,.of U,by rw[ta];omega,λ_ o=>?_};let L:=sA.trans (sU.trans o);let U:r.1∉l.take i:=λm=>by
    let{d,j}:=zan m;rw[zbh]at j;by_cases c:d < i
    ·rw[if_pos c]at j;let{o,b1}:=tf.mp j;let{a2,b2}:=tf.mp J;exact zaO.mp st.nd d i o a2 c (by rw[b1,b2])
    ·rw[if_neg c]at j;cases j
   let ek:ja (Mf f (l.take i)) (Sum.inr r.1:qJ)=r4:=QW (by
    rw[kQ];exact λm=>by let{y,b,e}:=tc.mp m;calc U (Sum.inr.inj e▸b))
   let lk:(Mf f (l.take i)).length < zes:=by
    unfold Mf;rw[ta,tG];exact qi {}
   exists D,_,s0,Jv.k (k:=(Sum.inr r.1:qJ)) (L _ _ C) lk;let o:∀y∈l.take i,(λx=>if x=r.1 then Rb.lackN ((qz a r).map f) else f x) y=f y:=λy b=>by
    show (if y=r.1 then _ else f y)=f y;rw[if_neg (λe=>U (by rw[<-e];calc b))]
   let U:(λx=>if x=r.1 then Rb.lackN ((qz a r).map f) else f x) r.1=Rb.lackN ((qz a r).map f):=if_pos rfl;exists _,λx=>if x=r.1 then Rb.lackN ((qz a r).map f) else f x,s0,qj.upd (p.trans L) nD,?_,?_
   ·rw[qf (λe=>by rw[e,h2]at ab;cases ab)];exact L _ _ ac
   ·rw[qa,QD _ ek,tE,J];congr 2;unfold Mf;rw[tj];congr 1
    ·exact zaC λy b=>by rw[o y b]
    ·show _=[((Sum.inr r.1:qJ),V.int (((λx=>if x=r.1 then Rb.lackN ((qz a r).map f) else f x) r.1:Nat):Int))];rw[U]
   ·intro y b;rw[tE,J]at b;rcases tU.mp b with b | b
    ·let J:=zbN b;let{d,j}:=zan b;rw[zbh]at j;by_cases c:d < i
     ·rw[if_pos c]at j;let:=(lst y b).congr (f':=λx=>if x=r.1 then Rb.lackN ((qz a r).map f) else f x) λu hu=>o u (by
       let{a,_,_}:=st.st d y j u hu;calc tS (i:=a) ?_;rwa [zbh,if_pos {}])
      rwa [o y b]
     ·rw[if_neg c]at j;cases j
    ·let:y=r.1:=by simpa using b
     subst this;rw[U,eg];exact Aj.congr λu hu=>o u (ae u hu)
 ·rintro O X ⟨v3,f,rfl,p,ac,C,lst⟩;rw[ta,tu (ti _)]at C lst;exact(q X D l f p nD C st (Nu nt en (jb good.nd)) lst)
open MPlay
abbrev lv(rs:qY)(k:Nat):Str->En:=ZW (js rs) k
abbrev EE:=Str×(Bool×Int)
def US(rs:qY)(k:Nat)(r:Str×List Str):En:=if (lv rs k r.1).isSome=true then r4 else step (lv rs k) (qz rs r) k
def Vv(rs:qY)(k:Nat)(a:qY):List EE:=a.filterMap λr=>(US rs k r).map λe=>(r.1,e)
def tb(rs:qY):Nat->List EE
 | 0=>[]
 | k+1=>tb rs k++Vv rs k rs
def Yr(g:(Str×List Str)->En):∀{b:qY},(b.map (·.1)).Nodup->∀r∈b,(b.filterMap λr=>(g r).map λe=>(r.1,e)).lookup r.1=g r
 | a::b,d,r,h=>by
  rw[tR,zaj]at d;let out:∀z,¬z∈b.map (·.1)->(b.filterMap λr=>(g r).map λe=>(r.1,e)).lookup z=r4:=by
   intro z i;rw[zdq];intro b j;let{l,m,o}:=zaf.mp j;let{e,_,rfl}:=zbT.mp o;simp only[beq_eq_false_iff_ne,ne_eq,bne_iff_ne];exact λj=>i (j▸tc.mpr ({l,m,s0}))
  rw[t8];rcases tO.mp h with rfl | h
  ·cases e:g r with
   | none=>calc out _ d.1
   | some b=>simp [zaq]
  ·let ne:¬r.1=a.1:=λe=>d.1 (e▸tc.mpr ({r,h,s0}));cases e:g a with
   | none=>calc Yr g d.2 r h
   | some b=>
    simp only[zbz,zaq];rw[beq_eq_false_iff_ne.mpr ne];calc Yr g d.2 r h
def XR{rs:qY}(a:(rs.map (·.1)).Nodup):∀k,∀r∈rs,(tb rs k).lookup r.1=lv rs k r.1
 | 0,r,h=>rfl
 | k+1,r,h=>by
  show (tb rs k++Vv rs k rs).lookup r.1=_;rw[List.lookup_append,XR a k r h];cases e:lv rs k r.1 with
  | some b=>calc(j4 _ e).symm
  | none=>
   let b:lv rs (k+1) r.1=step (lv rs k) (js rs r.1) k:=Jw _ e;rw[b,jC a h,Vv,Yr _ a r h];show US rs k r=_;unfold US;rw[e];rfl
def zD(rs:qY)(k:Nat):∀b:qY,((Vv rs k b).map (·.1)).Sublist (b.map (·.1))
 | []=>.slnil
 | a::b=>by
  let d:=zD rs k b;unfold Vv at d ⊢;rw[t8];cases e:US rs k a with
  | none=>calc d.cons _
  | some b=>calc d.cons₂ _
def EN(rs:qY):∀k,∀z∈(tb rs k).map (·.1),z∈rs.map (·.1)
 | 0,z,h=>(nomatch h)
 | k+1,z,h=>by
  rw[tb,tj]at h;rcases tU.mp h with h | h
  ·exact EN rs k z h
  ·calc(zD rs k rs).subset h
def DB(h:z∈(Vv rs k d).map (·.1)):lv rs k z=r4:=by
 let{x,b,rfl}:=tc.mp h;let{r,_,e}:=zaf.mp b;let{_,a,rfl}:=zbT.mp e;unfold US at a;show lv rs k r.1=r4;cases q:lv rs k r.1 with
 | none=>rfl
 | some y=>rw[q]at a;cases a
def Rx{rs:qY}(a:(rs.map (·.1)).Nodup)(h:z∈(Vv rs k rs).map (·.1)):¬z∈(tb rs k).map (·.1):=λm=>by
 let{r,hr,rfl}:=tc.mp ((zD rs k rs).subset h);let e:=XR a k r hr;rw[DB h,zdq]at e;let{x,a,ex}:=tc.mp m;let:=e x a;simp only[beq_eq_false_iff_ne,ne_eq,bne_iff_ne]at this;calc this ex.symm
def EM{rs:qY}(d:(rs.map (·.1)).Nodup):∀k,((tb rs k).map (·.1)).Nodup
 | 0=>zaV
 | k+1=>by
  rw[tb,tj,zaL];calc{EM d k,d.sublist (zD rs k rs),λa i b j e=>?_};subst e;calc Rx d j i
def Rz{rs:qY}(a:(rs.map (·.1)).Nodup)(k:Nat):(tb rs k).length<=rs.length:=by
 let:=Jx (EM a k) (EN rs k);rwa [ta,ta]at this
def RA{rs:qY}(a:(rs.map (·.1)).Nodup)(h:Vv rs k rs=[]):∀z∈rs.map (·.1),lv rs k z=r4->step (lv rs k) (js rs z) k=r4:=λz b e=>by
 let{r,hr,rfl}:=tc.mp b;let q:=Yr (US rs k) a r hr;let b:(rs.filterMap λr=>(US rs k r).map λe=>(r.1,e))=[]:=h;rw[b]at q;let b:=q.symm;unfold US at b;rw[e]at b;rwa [jC a hr]
abbrev tF(rs:qY):Str->En:=lv rs 14
def Oc{rs:qY}(a:(rs.map (·.1)).Nodup)(b:k<=14)(h:Vv rs k rs=[]):He (js rs) (rs.map (·.1)) (tF rs)/\∀r∈rs,tF rs r.1=lv rs k r.1:=by
 let e:=Ac (js rs) (jb a) (RA a h) 14 b;calc{Hj (js rs) (jb a) λz b d=>?_,λr hr=>e _ (tc.mpr ({r,hr,s0}))};rw[e z b]at d;let{l,y,i,_}:=ZA (RA a h z b d);refine Xv (λd j m q=>?_) ({y,i,?_})
 ·rw[e d (jb a z b d j)]at q;exact l d j m q
 ·rwa [e y (jb a z b y i)]
def vu(b:Bool):Str:=if b=true then "won" else "lost"
def Vb:En->List V
 | none=>[.str "drawn",.non]
 | some e=>[.str (vu e.1),.int e.2]
inductive Zi(K:zen)(H:Hp)(v:V)(e:En):Prop
 | mk (p:_):v=.ref p->(SqT K H p (Vb e))->Zi K H v e
def _root_.L2.SqT.mono(h:SqT K H p xs)(s:qj H H'):SqT K H' p xs:=by
 rcases h with (h | ⟨a,h⟩) | h
 ·exact .inl (.inl (s _ _ h))
 ·exact .inl (.inr ({a,s _ _ h}))
 ·calc .inr h
def _root_.L2.SqT.put{K:zen}{H:Hp}{p D:m9}{xs:List V}{kvs:List (qJ×V)}{o:HO}(h:SqT K H p xs)(a:H D=tH (.dK kvs)):SqT K (upd H D o) p xs:=by
 rcases h with (h | ⟨u,h⟩) | h
 ·exact .inl (.inl (by rwa [qf (λe=>by rw[e,a]at h;cases h)]))
 ·exact .inl (.inr ({u,by rwa [qf (λe=>by rw[e,a]at h;cases h)]}))
 ·calc .inr h
def Zi.mono(h:Zi K H v e)(s:qj H H'):Zi K H' v e:=let ⟨d,a,b⟩:=h;({d,a,L2.SqT.mono b s})
def Zi.put{K:zen}{H:Hp}{D:m9}{v:V}{e:En}{kvs:List (qJ×V)}{o:HO}(h:Zi K H v e)(d:H D=tH (.dK kvs)):Zi K (upd H D o) v e:=let ⟨i,a,b⟩:=h;({i,a,L2.SqT.put b d})
def Qc(K:zen)(H:Hp)(kvs:List (qJ×V))(t:List EE):Prop:=Paired (λ(a:qJ×V) (x:EE)=>a.1=Sum.inr x.1/\Zi K H a.2 (tH x.2)) kvs t
def Qc.imp(f:∀v e,Zi K H v e->Zi K H' v e):∀{kvs:List (qJ×V)} {t:List EE},Qc K H kvs t->Qc K H' kvs t
 | _,_,.nil=>.nil
 | _,_,.cons h r=>.cons ({h.1,f _ _ h.2}) (Qc.imp f r)
def Qc.append:∀{kvs more:List (qJ×V)} {t u:List EE},Qc K H kvs t->Qc K H more u->Qc K H (kvs++more) (t++u)
 | _,_,_,_,.nil,k=>k
 | _,_,_,_,.cons h r,k=>.cons h (Qc.append r k)
def Qc.keys:∀{kvs:List (qJ×V)} {t:List EE},Qc K H kvs t->kvs.map (·.1)=(t.map (·.1)).map Sum.inr
 | _,_,.nil=>rfl
 | _,_,.cons h r=>by rw[tR,tR,tR,h.1,Qc.keys r]
def Qc.len{K:zen}{H:Hp}{kvs:List (qJ×V)}{t:List EE}(h:Qc K H kvs t):kvs.length=t.length:=by
 let:=congrArg zat h.keys;simpa using this
def Qc.look(z:Str):∀{kvs:List (qJ×V)} {t:List EE},Qc K H kvs t->(t.lookup z=r4/\ja kvs (Sum.inr z)=r4)\/∃e v,t.lookup z=tH e/\ja kvs (Sum.inr z)=tH v/\Zi K H v (tH e)
 | _,_,.nil=>.inl ({s0,s0})
 | _,_,.cons (a:=a) (b:=(b,d)) h r=>by
  by_cases e:b=z
  ·subst e;exact .inr ({d,a.2,by simp [zaq],jE h.1,h.2})
  ·let b:¬a.1=Sum.inr z:=λq=>e (Sum.inr.inj (h.1.symm.trans q));rw[jt b,zaq,beq_eq_false_iff_ne.mpr λq=>e q.symm];calc Qc.look z r
def vw(f:Str->En)(a:List Str):List Str:=a.filterMap λy=>(f y).map λe=>vu e.1
def vv(f:Str->En):∀a:List Str,Jz (.str "lost") ((vw f a).map V.str)=a.any λy=>(f y).any λe=> !e.1
 | []=>rfl
 | y::a=>by
  let d:=vv f a;unfold vw Jz at d ⊢;rw[t8,zbF];cases e:f y with
  | none=>simpa using d
  | some a=>
   let{b,n}:=a;rw[zbz,tR,zbF,d];congr 1;cases b
   ·show (zeo "lost"==zeo "lost")=true;simp
   ·show (zeo "won"==zeo "lost")=false;decide+kernel
def Rl(f:Str->En)(a:List Str):(vw f a).length<=a.length:=zaI _ _
def wl(f:Str->En):∀a:List Str,decide ((vw f a).length=a.length)=a.all λy=>(f y).isSome
 | []=>rfl
 | y::a=>by
  let b:=wl f a;let le:=Rl f a;unfold vw at b le ⊢;rw[t8,zcD];cases e:f y with
  | none=>
   simp only[Option.map_none,zdW,zcg,t7];calc decide_eq_false {}
  | some a=>
   rw[<-b];simp only[zbz,zdV,zdU,t7];calc decide_eq_decide.mpr {}
abbrev YX:o0:=top 99
abbrev Wt:o0:=top 100
abbrev Wq:o0:=top 101
def WN(e:rs[i]?=tH r):Vv rs k (rs.take (i+1))=Vv rs k (rs.take i)++(match US rs k r with | some x=>[(r.1,x)] | none=>[]):=by
 unfold Vv;rw[tE,e,zaz];congr 1;show List.filterMap _ [r]=_;rw[t8,zcV];cases US rs k r<;>rfl
def DC(rs:qY)(k:Nat)(a:qY):(Vv rs k a).length<=a.length:=zaI _ _
def C0{H:Hp}{rs:qY}(j:(rs.map (·.1)).Nodup)(a:H D=tH (.dK more))(gP:Qc K H more (Vv rs k (rs.take i)))(b:rs[i]?=tH r)(l:US rs k r=tH e)(hp:H p=tH (.tup (Vb (tH e)))):
  Qc K (upd H D (.dK (j2 more (Sum.inr r.1) (.ref p)))) (j2 more (Sum.inr r.1) (.ref p)) (Vv rs k (rs.take (i+1))):=by
 let o:ja more (Sum.inr r.1:qJ)=r4:=by
  calc QW λm=>?_;rw[gP.keys]at m;let{z,q,d}:=tc.mp m;obtain rfl:=Sum.inr.inj d;let d:=(zD rs k (rs.take i)).subset q;rw[zdT]at d;let q:(rs.map (·.1))[i]?=tH r.1:=by rw[tA,b];rfl
  exact Q5 j q (tc.mpr ({_,d,s0}))
 rw[QD _ o,WN b,l];calc Qc.append (gP.imp λv e h=>h.put a) (.cons ({s0,Zi.put ({p,s0,.of hp}) a}) .nil)
inductive vR(K:zen)(CG:m9)(vs:List V)(H:Hp)(Q:VK):Prop
 | mk (g d:m9) (rs:qY) (k:Nat) (kvs:List (qJ×V)):vs=[.ref g,.ref d,.int k]->qZ CG H g rs->qe rs->(rs.length<=14)->H d=tH (.dK kvs)->(Qc K H kvs (tb rs k))->(∀H' D more,qj H H'->H D=r4->H' D=tH (.dK more)->Qc K H' more (Vv rs k rs)->Q (.ref D) H')->vR K CG vs H Q
def B0(K:zen)(a:m9):Sp:=λb H Q _=>vR K a b H Q
abbrev nSI:List Str:=["ground","table","number","settled","name","ends","words"]
abbrev Pc:List Str:=["ground","table","number"]
def Tk:ql nSI Pc (qg YX):=j3
def My(F:jJ K "settled_in" "settled_in" YX f a)(B:Qd mg)(G:jp mg)(T:jD K mg)(M:GM K mg b):qu P w K mg base jh 3 f a Pc (B0 K b):=by
 let{_,_,b}:=M.cls;let{_,_,j}:=M.nm;let{_,_,m}:=M.fr;let{_,_,o}:=M.isn;calc F.okK Tk λH Q E hr h=>?_;intro X;let{g,d,a,k,kvs,rfl,l,good,_,hd,gP,q}:=h;refine⟨_,qb (qB 3 j8)
  (qb (je (qv (Jg j b.cl (pin P w mg base (j7 j.fn b G)) (hr.mono {}) (jv 0))) (qC 4)
   (qb (qG (Jr (zr (jv 4) (jv 1))) (qc yq) qt)
   (qb (qB 5 (ZJ m b.cl (pin P w mg base (QE m.fn b B G T o)) hr (jv 0) (qI (jv 4))))
   (qb (Qu (i:=6) (N':=["end","table"]) (ix:=[r4,tH 1]) (te:=YM (Yo K) (zO (jd 1) (jd 0)) (tC (.int 0))) (qv (jv 5)) (λb p b fp _=>
    {qC 0,Qo (Jr (zr (jv 0) (jv 1))),qF qD (qE (jv 1) (jv 0)) qh}))
   (qc (qG (qp Q4 qH (jv 6) (by with_unfolding_all rfl))
    (qc (jB (jv 3) (jv 4) (jH (jV qH (jv 2)))))
    (qc (qG (qp jU (qr qy {} B.len boot_len (qI (jv 6))) (qr qy {} B.len boot_len (qI (jv 5))))
     (qc (jB (jv 3) (jv 4) (jH (jV qH (jv 2))))) qt))))))))
  (qc (qm (jv 3)))),?_⟩
 intro D u;let{J,fs,hg,j,l2}:=l.ins;let m:D≠d:=nq hd u;calc{J,fs,qk hg u,j,g,a,s0,l.mono (qd u),λln m=>{{_,.of qa},?_}};let ag:ln≠D:=nq qa m;refine jz (λi O j=>∃v4 v5 v6 more,O=[tH (.ref g),tH (.ref d),tH (.int k),tH (.ref D),v4,v5,v6]/\qj H j/\j ln=tH (.lst ((a.map (·.1)).map V.str))/\j D=tH (.dK more)/\Qc K j more (Vv a k (a.take i)))
  ({r4,r4,r4,[],s0,(qd u).trans (qd m),qa,?_,.nil}) (λi O j _ ⟨_,_,_,_,_,_,h,_⟩=>.of h) ?_ ?_
 ·rw[qf (Ne.symm ag)];exact qa
 ·rintro i y O j L ⟨v4,v5,v6,more,rfl,m,U,Y,x⟩;let{r,er,aa,rfl}:=WT L;let o:=(tf.mp er).1;let g8:=gP.imp λv e h=>h.mono m;let ah:=m _ _ hd;let ab:=XR good.nd k;let o:=jk.k (k:=(Sum.inr r.1:qJ)) ah;exists _,o,_,rfl;rcases g8.look r.1 with ⟨C,e2⟩ | ⟨e,v,C,e2,e3⟩
  ·rw[ab r aa]at C;rw[e2];calc jx ({J,fs,m _ _ hg,l2,g,a,r,s0,l.mono m,aa,good.nm r aa,λb le p l=>?_});let nW:US a k r=step (lv a k) (qz a r) k:=by
    unfold US;rw[C];rfl
   let s3:qj j (upd b le (.lst ((qz a r).map V.str))):=p.trans (qd l);let ac:upd b le (.lst ((qz a r).map V.str)) le=tH (.lst ((qz a r).map V.str)):=qa;generalize upd b le (.lst ((qz a r).map V.str))=H3 at s3 ac;let b:=Jb (rs:=a) r;refine{{_,.of ac},λW J=>qR (a:=le) (xs:=(qz a r).map V.str) (λl p ae=>∃v0,p=[v0,tH (.ref d)]/\ae=upd H3 W (.lst ((vw (lv a k) ((qz a r).take l)).map V.str))) ({r4,s0,s0}) (λl p ae _ ⟨_,_,e⟩=>e▸.of (qk ac J)) ?_ ?_}
   ·rintro l y p ae L ⟨v0,rfl,rfl⟩;let{z,ez,hz,rfl}:=jA L;let b:=qk (o':=HO.lst ((vw (lv a k) ((qz a r).take l)).map V.str)) (s3 _ _ ah) J;let o:=jk.k (k:=(Sum.inr z:qJ)) b;let{b,ai,rfl}:=Zc hz;let L:vw (lv a k) ((qz a r).take (l+1))=vw (lv a k) ((qz a r).take l)++(match lv a k b.1 with | some e=>[vu e.1] | none=>[]):=by
     unfold vw;rw[tE,ez,zaz];congr 1;show List.filterMap _ [b.1]=_;rw[t8,zcV];cases lv a k b.1<;>rfl
    exists _,o,_,rfl;rw[L];rcases(g8.imp λv e h=>h.mono s3).look b.1 with ⟨f1,f2⟩ | ⟨e,v,f1,f2,L⟩
    ·rw[ab b ai]at f1;rw[f1];show if (ja kvs (Sum.inr b.1)).isSome=true then _ else _
     rw[f2];calc jx ({_,s0,?_});rw[zal]
    ·rw[ab b ai]at f1;rw[f1];show if (ja kvs (Sum.inr b.1)).isSome=true then _ else _
     rw[f2];rw[f2]at o;let{b,rfl,l}:=L;refine Qq ({_,o,_,.str (vu e.1),l.mono (qd J),s0,_,qa,?_,_,s0,?_})
     ·rw[ta];calc qi (tP (Rl _ _) ?_);rw[tG];omega
     ·rw[jF,tj];rfl
   ·rintro p ae ⟨v0,rfl,rfl⟩;rw[ta,tu (ti _)];let p:qj j (upd H3 W (.lst ((vw (lv a k) (qz a r)).map V.str))):=s3.trans (qd J);let aj:=qk (o':=HO.lst ((vw (lv a k) (qz a r)).map V.str)) ac J;let af:upd H3 W (.lst ((vw (lv a k) (qz a r)).map V.str)) W=tH (.lst ((vw (lv a k) (qz a r)).map V.str)):=qa;generalize upd H3 W (.lst ((vw (lv a k) (qz a r)).map V.str))=l at p aj af;let J:=p _ _ Y;let ak:=x.imp λv e h=>h.mono p;let lk:more.length < zes:=by
     rw[x.len];calc qi (tP (DC _ _ _) ?_);rw[tG];omega
    exists W,_,s0,.inl (.of af),s0,jQ _,_,rfl;let gj:∀e b,US a k r=tH e->l b=r4->(upd l b (.tup (Vb (tH e)))) b=tH (.tup (Vb (tH e)))->
      qj H (upd (upd l b (.tup (Vb (tH e)))) D (.dK (j2 more (Sum.inr r.1) (.ref b))))/\upd (upd l b (.tup (Vb (tH e)))) D (.dK (j2 more (Sum.inr r.1) (.ref b))) ln=tH (.lst ((a.map (·.1)).map V.str))/\
      Qc K (upd (upd l b (.tup (Vb (tH e)))) D (.dK (j2 more (Sum.inr r.1) (.ref b)))) (j2 more (Sum.inr r.1) (.ref b)) (Vv a k (a.take (i+1))):=λe b o l al=>by
     calc{qj.upd ((m.trans p).trans (qd l)) u,?_,C0 good.nd (qk J l) (ak.imp λv e h=>h.mono (qd l)) er o al};rw[qf ag];exact qk (p _ _ U) l
    show if Jz (.str (zeo "lost")) ((vw (lv a k) (qz a r)).map V.str)=true then _ else _
    rw[vv (lv a k) (qz a r)];refine Yw (λc=>?_) (λc=>?_)
    ·let o:US a k r=tH (true,(k:Int)):=by
      rw[nW];unfold MPlay.step;rw[if_pos c]
     calc{J7,λb l=>{D,_,s0,Jv.k (k:=(Sum.inr r.1:qJ)) (qk J l) lk,?_}};let{f1,f2,L}:=gj _ b o l qa;exact{_,_,_,_,s0,f1,f2,qa,L}
    ·exists W,_,s0,.inl (.of af),le,_,s0,.inl (.of aj),s0,_,rfl;let ed:decide (V.int ((((vw (lv a k) (qz a r)).map V.str).length:Nat):Int)=V.int ((((qz a r).map V.str).length:Nat):Int))=(qz a r).all λy=>(lv a k y).isSome:=by
      rw[<-(wl (lv a k) (qz a r)),ta,ta];calc decide_eq_decide.mpr ({λh=>?_,λh=>by rw[h]});let:=V.int.inj h;omega
     rw[ed];refine Yw (λc2=>?_) (λc2=>?_)
     ·let o:US a k r=tH (false,(k:Int)):=by
       rw[nW];unfold MPlay.step;rw[if_neg c,if_pos c2]
      calc{J7,λb l=>{D,_,s0,Jv.k (k:=(Sum.inr r.1:qJ)) (qk J l) lk,?_}};let{f1,f2,L}:=gj _ b o l qa;exact{_,_,_,_,s0,f1,f2,qa,L}
     ·let o:US a k r=r4:=by
       rw[nW];unfold MPlay.step;rw[if_neg c,if_neg c2]
      exists _,_,_,_,s0,m.trans p,p _ _ U,J;rw[WN er,o];rwa [zal]
  ·rw[ab r aa]at C;rw[e2];calc Qq ({_,_,_,more,s0,m,U,Y,?_});let o:US a k r=r4:=by
    unfold US;rw[C];rfl
   rwa [WN er,o,zal]
 ·rintro O j ⟨v4,v5,v6,more,rfl,m,U,Y,x⟩;rw[ta,ta,tu (ti _)]at x;calc(q j D more m u Y x)
inductive vP(K:zen)(CG:m9)(vs:List V)(H:Hp)(Q:VK):Prop
 | mk (g:m9) (rs:qY):vs=[.ref g]->qZ CG H g rs->qe rs->(rs.length<=14)->(∀H' D kvs t,qj H H'->H D=r4->H' D=tH (.dK kvs)->Qc K H' kvs t->(∀r∈rs,t.lookup r.1=tF rs r.1)->He (js rs) (rs.map (·.1)) (tF rs)->Q (.ref D) H')->vP K CG vs H Q
def BY(K:zen)(a:m9):Sp:=λb H Q _=>vP K a b H Q
def LQ(K:zen)(H:Hp)(kvs:List (qJ×V))(rs:qY):Prop:=∀r∈rs,∃v,ja kvs (Sum.inr r.1:qJ)=tH v/\Zi K H v (tF rs r.1)
inductive vL(K:zen)(CG:m9)(vs:List V)(H:Hp)(Q:VK):Prop
 | mk (g:m9) (rs:qY):vs=[.ref g]->qZ CG H g rs->qe rs->(rs.length<=14)->(∀H' D kvs,qj H H'->H D=r4->H' D=tH (.dK kvs)->kvs.map (·.1)=(rs.map (·.1)).map Sum.inr->LQ K H' kvs rs->He (js rs) (rs.map (·.1)) (tF rs)->Q (.ref D) H')->vL K CG vs H Q
def wJ(K:zen)(a:m9):Sp:=λb H Q _=>vL K a b H Q
abbrev nSP:List Str:=["ground","table","number","settled"]
def OJ:ql nSP ["ground"] (qg Wt):=j3
def Mx(F:jJ K "settled_places" "settled_places" Wt f fd)(B:Qd mg)(G:jp mg)(T:jD K mg)(M:GM K mg CG)(L:qK K mg "settled_in" YX Pc fI ah):qu P w K mg base jh 4 f fd ["ground"] (BY K CG):=by
 let O:=pin P w mg base (My L.fn B G T M);calc F.okK OJ λH Q E hr h=>?_;intro X;let{g,d,rfl,U,good,Y,q}:=h;refine⟨_,qb (qB 1 j8)
  (qb (qB 2 qh)
  (qb (qB 3 (qw L O (Vo (jv 0) (jv 1) (jv 2))))
  (qb (ZG PassesOwn.never (qp JU (qr G1 {} B.len boot_len (qI (jv 3))) qh)
   (qb (q5 (Ea (jv 1) (jv 3) ({s0,s0,s0,s0})))
   (qb (xG (i:=2) OJ.nd rfl (Or.inl rfl) qh xO)
   (qc (qB 3 (qw L O (Vo (jv 0) (jv 1) (jv 2))))))))
  (qc (qm (jv 1)))))),?_⟩
 calc λj p=>{g,j,d,0,[],s0,U.mono (qd p),good,Y,qa,.nil,λ_ C J o L O ab=>?_};let nT:∀{c:m9} {ac:HO},H c=tH ac->c≠j:=λh e=>by rw[e,p]at h;cases h
 refine Zy (λu l=>∃(k:Nat) (D:m9) (kvs more:List (qJ×V)),u=[tH (.ref g),tH (.ref j),tH (.int k),tH (.ref D)]/\qj H l/\l j=tH (.dK kvs)/\Qc K l kvs (tb d k)/\l D=tH (.dK more)/\Qc K l more (Vv d k d)/\k<=(tb d k).length/\j≠D)
  (λu _=>match u with | [_,_,tH (.int k),_]=>15 - k.toNat | _=>0)
  ({0,C,[],J,s0,(qd p).trans o,o _ _ qa,.nil,O,ab,zax _,Pw qa L}) ?_ ?_
 ·rintro u l ⟨k,D,kvs,more,rfl,sH,C,J,hD,o,_,ne⟩;let L:=Rz good.nd k;let L:=Rz good.nd (k+1);refine{D,more,s0,hD,_,_,s0,s0,_,s0,Yw (λc=>?_) (λc=>?_)}
  ·let c':=of_decide_eq_true c;let eM:JN kvs more=kvs++more:=by
    refine V7 ?_ λz hz m=>?_
    ·rw[o.keys];exact Jp (good.nd.sublist (zD d k d)) λa _ b _ e=>Sum.inr.inj e
    ·rw[o.keys]at hz;rw[J.keys]at m;let{x,hx,rfl}:=tc.mp hz;let{y,hy,e}:=tc.mp m;obtain rfl:=Sum.inr.inj e;exact Rx good.nd hx hy
   let lk:kvs.length+more.length<=zes:=by
    let L:(tb d (k+1)).length=(tb d k).length+(Vv d k d).length:=by rw[tb,tz]
    rw[J.len,o.len];exact zab (qi {})
   exists j,s0,.inl ({_,.inl C}),D,kvs,more,s0,C,hD,ne,lk;rw[eM];exists _,_,s0,rfl;let aa:Qc K (upd l j (.dK (kvs++more))) (kvs++more) (tb d (k+1)):=(J.append o).imp λv e h=>h.put C;let sT:qj H (upd l j (.dK (kvs++more))):=qj.upd sH p;refine{g,j,d,k+1,_,s0,U.mono sT,good,Y,qa,aa,λ_ U Y O ae af ag=>{{k+1,U,_,Y,s0,sT.trans O,O _ _ qa,aa.imp λv e h=>h.mono O,af,ag,?_,Pw qa ae},?_}}
   ·let L:(tb d (k+1)).length=(tb d k).length+(Vv d k d).length:=by rw[tb,tz]
    let:=o.len;omega
   ·show 15 - ((k:Int)+1).toNat < 15 - (k:Int).toNat;omega
  ·let c':¬(0:Int) < ((more.length:Nat):Int):=λz=>c (decide_eq_true z);let{d,O}:=Oc good.nd (k:=k) {} (zaN (by rw[<-o.len];omega));calc(q l j kvs _ sH p C J (λr hr=>?_) d);rw[O r hr];exact XR good.nd k r hr
 ·rintro u l Q _ f z;let{v,e,a,kvs,d,L,i,j,l,o,b,p,u}:=xV z;calc yV e ({a,kvs,d,L,i,j,l,o,b,p,f _ _ u})
abbrev nTO:List Str:=["ground","settled","table","name"]
def Tg:ql nTO ["ground"] (qg Wq):=j3
def Mu(F:jJ K "table_of" "table_of" Wq f d)(B:Qd mg)(G:jp mg)(T:jD K mg)(M:GM K mg l)(p:∃a,mg "DRAWN"=tH (.ref a)/\∃(o:Obj) (b:Array n9) (n:Nat),K.lookup a=tH o/\o.cls=.type "tuple"/\o.data=.seq b n/\b.size<=zes/\qN (Vb r4) b.toList)(x:qK K mg "settled_in" YX Pc m C)(j:qK K mg "settled_places" Wt ["ground"] J L):qu P w K mg base jh 5 f d ["ground"] (wJ K l):=by
 let{_,_,l}:=M.cls;let{_,_,m}:=M.nm;let{O,C,oD}:=p;calc F.okK Tg λH Q E hr h=>?_;intro X;let{g,d,rfl,b,good,p,q}:=h;refine⟨_,qb (qB 1 (qw j (pin P w mg base (Mx j.fn B G T M x)) (qI (jv 0))))
  (qb (qB 2 j8)
  (qb (je (qv (Jg m l.cl (pin P w mg base (j7 m.fn l G)) (hr.mono {}) (jv 0))) (qC 3)
   (qc (jB (jv 2) (jv 3) (AC (hu_of hr) (jv 1) (jv 3) (Qz (v:=.ref O) {} C rfl) ({s0,s0,s0,s0})))))
  (qc (qm (jv 2))))),?_⟩
 calc{g,d,s0,b,good,p,λp S kvs t C _ ae gP lk tt=>?_};intro D l;let{j,fs,m,x,_}:=b.ins;calc{j,fs,qk (C _ _ m) l,x,g,d,s0,(b.mono C).mono (qd l),λln m=>{{_,.of qa},?_}};let aa:ln≠D:=nq qa m;let af:H D=r4:=by
  cases z:H D with
  | none=>rfl
  | some u=>rw[C _ _ z]at l;cases l
 refine jz (λi J b=>∃U j,J=[tH (.ref g),tH (.ref S),tH (.ref D),U]/\qj p b/\b ln=tH (.lst ((d.map (·.1)).map V.str))/\b D=tH (.dK j)/\
  j.map (·.1)=((d.map (·.1)).take i).map Sum.inr/\∀r∈d.take i,∃v,ja j (Sum.inr r.1:qJ)=tH v/\Zi K b v (tF d r.1))
  ({r4,[],s0,(qd l).trans (qd m),qa,?_,s0,λr h=>(nomatch h)}) (λi J b _ ⟨_,_,_,_,h,_⟩=>.of h) ?_ ?_
 ·rw[qf (Ne.symm aa)];exact qa
 ·rintro i y J b hy ⟨U,j,rfl,p,ag,x,m,L⟩;let{r,Y,ab,rfl}:=WT hy;let hi:=(tf.mp Y).1;let ac:=p _ _ ae;let en:(d.map (·.1))[i]?=tH r.1:=by rw[tA,Y];rfl
  let ez:=QW (by rw[m];calc Q5 good.nd en);let ah:j.length < zes:=by
   let:=congrArg zat m;rw[ta,ta,tG,ta]at this;exact qi {}
  let hE:Zi K b ((ja kvs (Sum.inr r.1:qJ)).getD (.ref O)) (tF d r.1):=by
   rcases(gP.imp λv e h=>h.mono p).look r.1 with ⟨f1,f2⟩ | ⟨e,v,f1,f2,d⟩
   ·rw[lk r ab]at f1;rw[f2,f1];exact{O,s0,.inr oD}
   ·rw[lk r ab]at f1;rwa [f2,f1]
  refine{S,s0,.inl ({_,.inl ac}),_,jk.k (k:=(Sum.inr r.1:qJ)) ac,D,_,s0,Jv.k (k:=(Sum.inr r.1:qJ)) x ah,{_,_,s0,qj.upd p l,?_,qa,?_,λl d=>?_}}
  ·rwa [qf aa]
  ·rw[XZ _ ez,m,tE,en,tj];rfl
  ·rw[tE,Y]at d;rcases tU.mp d with h | h
   ·let{v1,d,O}:=L l h;calc{v1,?_,O.put x};rw[QV,if_neg]
    ·exact d
    ·intro z;rw[z,ez]at d;cases d
   ·let d:l=r:=by simpa using h
    subst d;calc{_,?_,hE.put x};rw[QV,if_pos rfl]
 ·rintro J b ⟨U,j,rfl,p,ag,x,m,L⟩;rw[ta,ta,tu (ti _)]at L;rw[ta,tu (ti _)]at m;exact(q b D j (C.trans p) af x m L tt)
abbrev f8(rs:qY)(R:Rs Str):Prop:=Q3 rs R
abbrev oW(rs:qY)(R:Rs Str)(a:List Str):Str:=ZQ (Qk (a.map (wT rs R)))
def Sx:En->Str
 | none=>zeo "drawn"
 | some e=>vu e.1
def LB(e:En):∃v,Vb e=[.str (Sx e),v]:=by
 cases e with
 | none=>calc{_,s0}
 | some e=>calc{_,s0}
def UY(good:qe rs)(hz:z∈rs.map (·.1)):b∈mv (QG rs) [z]↔∃y∈js rs z,b=[y]:=by
 rw[j6];constructor
 ·rintro⟨i,x,y,q,e,d,rfl⟩;cases i with
  | nil=>
   let{rfl,rfl}:z=x/\q=[]:=by simpa [eq_comm] using e
   calc{y,(ju good hz).mp d,s0}
  | cons a i=>simp at e
 ·rintro⟨y,d,rfl⟩;exact{[],z,y,[],s0,(ju good hz).mpr d,s0}
mutual
def vC{rs:qY}{f:Str->En}(good:qe rs)(T:He (js rs) (rs.map (·.1)) f){h:List Str}:JK (mv (QG rs)) h->∀z,h=[z]->z∈rs.map (·.1)->∃n,f z=tH (false,n)
 | .mk w=>have i:∀b,b∈mv (QG rs) h->∀z,b=[z]->z∈rs.map (·.1)->∃n,f z=tH (true,n):=λb a=>tab_won good T (w b a)
   λz e d=>by
   subst e;let all:∀y∈js rs z,∃n,f y=tH (true,n):=λy a=>i [y] ((UY good d).mpr ({y,a,s0})) y rfl (T.cl z d y a);cases e:f z with
   | none=>
     let{_,y,a,q}:=T.drawn d e;let{n,k}:=all y a;rw[q]at k;cases k
   | some d=>
     let{b,n}:=d;cases b
     . exact{n,s0}
     . let{y,a,q}:=T.won e;let{m,k}:=all y a;rw[q]at k;cases k
def tab_won{rs:qY}{f:Str->En}(good:qe rs)(T:He (js rs) (rs.map (·.1)) f){h:List Str}:Won (mv (QG rs)) h->∀z,h=[z]->z∈rs.map (·.1)->∃n,f z=tH (true,n)
 | .mk m a=>have i:=vC good T a
   λz e d=>by
   subst e;let j:=(UY good d).mp m;let k:∃y∈js rs z,∃n,f y=tH (false,n):=by
     let{y,a,l}:=j;exact{y,a,i y l (T.cl z d y a)}
   let{y,a,n,k}:=k;cases e:f z with
   | none=>calc absurd k ((T.drawn d e).1 y a n)
   | some d=>
     let{b,i}:=d;cases b
     . let{_,q,_}:=T.lost e y a;rw[q]at k;cases k
     . calc{i,s0}
end
def RB(good:qe rs)(T:He (js rs) (rs.map (·.1)) f):∀(k:Nat) (n:Int),n.toNat < k->∀z∈rs.map (·.1),(f z=tH (false,n)->JK (mv (QG rs)) [z])/\(f z=tH (true,n)->Won (mv (QG rs)) [z]):=by
 intro k;induction k with
 | zero=>intro n h;omega
 | succ k i=>
  refine λn _ z d=>{λe=>.mk λb j=>?_,λe=>?_}
  ·let{y,a,rfl}:=(UY good d).mp j;let{m,em,_}:=T.lost e y a;let:=T.num em;exact(i m {} y (T.cl z d y a)).2 em
  ·let{y,a,em}:=T.won e;let:=T.num em;calc .mk ((UY good d).mpr ({y,a,s0})) ((i (n - 1) {} y (T.cl z d y a)).1 em)
def BN(good:qe rs)(T:He (js rs) (rs.map (·.1)) f)(all:f8 rs R)(hz:z∈rs.map (·.1)):oW rs R [z]=Sx (f z):=by
 rcases xq good (Xb (jb good.nd) all) (λy a=>(tQ.mp a)▸hz) with ⟨d,e⟩ | ⟨w,e⟩ | ⟨n,v,e⟩
 ·let{m,k}:=vC good T d z rfl hz;rwa [k]
 ·let{m,k}:=tab_won good T w z rfl hz;rwa [k]
 ·cases k:f z with
  | none=>calc e
  | some a=>
   let{b,m}:=a;let h:=RB good T (m.toNat+1) m {} z hz;cases b
   ·exact absurd (h.1 k) n
   ·exact absurd (h.2 k) v
def ZZ(f:α->β)(l:List α):l.filterMap (λx=>tH (f x))=l.map f:=by induction l<;>simp [*]
def YE{x:V}{xs:List V}:Ke (x::xs) 0=tH x:=by
 let{v,a,b}:=atI_get (xs:=x::xs) (r:=0) {} (by rw[t7];omega);rw[a];calc b.symm
abbrev Ym:o0:=top 76
abbrev Wu:o0:=top 77
abbrev kv:o0:=top 78
abbrev Vf:Str:={#[32]}
abbrev Re:Str:={#[58]}
def LI(z:Str)(r:Str×List Str):Prop:=ji r.1=true/\(∀x∈r.2,ji x=true)/\z=Str.join Vf ((r.1++Re)::r.2)
def M3(h:ji z=true):∀c∈z.cps.toList,97<=c:=by
 unfold ji at h;simp only[zaw,decide_eq_true_eq]at h;intro c a;let:=zaK.mp h.2 c a;unfold Qn at this;simp only[zaw,decide_eq_true_eq]at this;calc this.1
def Yq(h:ji z=true)(a:c < 97):c∉z.cps.toList:=λm=>by
 let:=M3 h c m;omega
def ZH(c:Nat)(x y:Str)(l:List Str):(Str.join ({#[c]}) (x::y::l)).cps.toList=x.cps.toList++c::(Str.join ({#[c]}) (y::l)).cps.toList:=by
 show ((x++({#[c]}))++Str.join ({#[c]}) (y::l)).cps.toList=_;show ((x.cps++#[c])++(Str.join ({#[c]}) (y::l)).cps).toList=_;simp
def We(a b:Str):(a++b).cps.toList=a.cps.toList++b.cps.toList:=by
 show (a.cps++b.cps).toList=_;simp
def W4(a b:Str)(l:List Str):(Str.join Vf ((a++b)::l)).cps.toList=a.cps.toList++(Str.join Vf (b::l)).cps.toList:=by
 cases l with
 | nil=>calc We a b
 | cons y l=>
  rw[ZH,ZH,We];simp
def Xd(a:c≠32):∀{l:List Str},(∀x∈l,c∉x.cps.toList)->c∉(Str.join Vf l).cps.toList
 | [],_=>by show c∉([]:List Nat);simp
 | [x],h=>h x tK
 | x::y::l,h=>by
  rw[ZH];intro m;rcases tU.mp m with m | m
  ·exact h x tK m
  ·rcases tO.mp m with m | m
   ·exact a m
   ·calc Xd a (λz a=>h z (tI _ a)) m
def GX(a:Str):a++({#[]}:Str)=a:=XT (by rw[We];simp)
def NU(a:Str)(ns:List Str):Str.join Vf ((a++Re)::ns)=Str.join Re [a,Str.join Vf ({#[]}::ns)]:=by
 calc XT ?_;rw[W4,ZH];congr 1;show (Str.join Vf (Re::ns)).cps.toList=58::(Str.join Vf ({#[]}::ns)).cps.toList;let:=W4 Re ({#[]}) ns;rwa [GX]at this
def zB(h:LI z r):Txt.split z Re=[r.1,Str.join Vf ({#[]}::r.2)]:=by
 let{b,d,e}:=h;rw[e,NU];calc zV {} λx a=>?_;rcases tO.mp a with rfl | a
 ·exact Yq b {}
 ·rw[tQ.mp a];calc Xd {} λy a=>?_;rcases tO.mp a with rfl | a
  ·simp
  ·calc Yq (d y a) {}
def VT(h:LI z r):Txt.split (Str.join Vf ({#[]}::r.2)) Vf=({#[]})::r.2:=by
 calc zV {} λy a=>?_;rcases tO.mp a with rfl | a
 ·simp
 ·calc Yq (h.2.1 y a) {}
def U0(x:Str):x.length=x.cps.toList.length:=by
 show x.cps.size=_;simp
def W3:∀{l:List Str} {x:Str},x∈l->x.length<=(Str.join ({#[c]}) l).length
 | [y],x,h=>by rw[tQ.mp h];calc ti _
 | y::a::l,x,h=>by
  let e:=congrArg zat (ZH c y a l);rw[<-U0,tz,t7,<-U0,<-U0]at e;rcases tO.mp h with rfl | h
  ·omega
  ·let:=W3 (c:=c) h;omega
def VH(h:x∈Txt.split z ({#[c]})):x.length<=z.length:=by
 let:=W3 (c:=c) h;rwa [StrLaws.join_split]at this
def uv(g:qe rs)(h:r∈rs):r.2.length<=40:=by
 let:∀a:List Nat,∀x∈a,x<=a.sum:=λa=>by
  induction a with
  | nil=>intro x b;cases b
  | cons y a d=>
   intro x b;rw[zau];rcases tO.mp b with rfl | b
   ·omega
   ·let:=d x b;omega
 calc tP (this _ _ (tc.mpr ({r,h,s0}))) g.few
abbrev fz:Str:={#[10]}
def At(sep:Str)(l:List Str):Txt.join sep l=Str.join sep l:=StrLaws.glued_eq_join sep l
def PZ:zeo "\n"=fz:=by decide+kernel
def DY:zeo ":"=Re:=by decide+kernel
def Lh:zeo " "=Vf:=by decide+kernel
def ft:zeo ""=({#[]}:Str):=by decide+kernel
def jG(r:Str×List Str):Str:=Str.join Vf ((r.1++Re)::r.2)
def Hg(r:Str×List Str):Prop:=ji r.1=true/\∀x∈r.2,ji x=true
def uw(h:Hg r):LI (jG r) r:={h.1,h.2,s0}
def yk(c:Nat)(l:List Str):(Str.join ({#[c]}) l).length=(l.map (·.length)).sum+(l.length - 1):=by
 rw[<-At];let:=size_glued ({#[c]}:Str) l;show (Builtin.Str.glued ({#[c]}) l).length=_;rw[this];show _+(l.length - 1)*1=_;omega
def YU:∀{l:List Str},(∀x∈l,ji x=true)->(l.map (·.length)).sum<=8*l.length
 | [],_=>ti _
 | x::l,h=>by
  let a:=YU λy d=>h y (tI _ d);let b:=(ZU (h x tK)).2.1;rw[tR,zau,t7];omega
def Ab(h:Hg r):(jG r).length<=9+9*r.2.length:=by
 let a:=YU h.2;let b:=(ZU h.1).2.1;let c:(r.1++Re).length=r.1.length+1:=Str.length_append _ _;unfold jG;rw[yk,tR,zau,t7,c];omega
def Y9:∀{rs:qY},(∀r∈rs,Hg r)->((rs.map jG).map (·.length)).sum<=9*rs.length+9*(rs.map λr=>r.2.length).sum
 | [],_=>ti _
 | r::rs,h=>by
  let a:=Y9 λy d=>h y (tI _ d);let b:=Ab (h r tK);simp only[tR,zau,t7]at a ⊢;omega
def zt(g:qe rs):∀r∈rs,Hg r:=λr hr=>{g.nm r hr,g.names r hr}
def Wg(rs:qY):Str:=Str.join fz (rs.map jG)
def DO(h:Hg r):(10:Nat)∉(jG r).cps.toList:=by
 calc Xd {} λx a=>?_;rcases tO.mp a with rfl | a
 ·rw[We];intro m;rcases tU.mp m with m | m
  ·exact Yq h.1 {} m
  ·simp at m
 ·calc Yq (h.2 x a) {}
def Kp(g:qe rs)(pos:0 < rs.length):Txt.split (Wg rs) fz=rs.map jG:=by
 refine zV (λz=>?_) λx a=>?_
 ·rw[zcM]at z;rw[z]at pos;exact absurd pos {}
 ·let{r,hr,rfl}:=tc.mp a;calc DO (zt g r hr)
def BH(g:qe rs)(le:rs.length<=14):(Wg rs).length<=1000/\∀r∈rs,(jG r).length<=1000:=by
 let a:=Y9 (zt g);let b:=g.few;let c:(Wg rs).length<=1000:=by
  unfold Wg;rw[yk,ta];omega
 calc{c,λr hr=>?_};let:=W3 (c:=10) (l:=rs.map jG) (tc.mpr ({r,hr,s0}));calc tP this c
def Se(b:Str)(a:List Str):cutV ((b::a).map V.str) (tH (1:Int)) r4=a.map V.str:=by
 unfold cutV;rw[HT.sIx_none,show (1:Int)=((1:Nat):Int) from rfl,HT.sIx_nat,ta,t7,zcG {},tR,List.drop_succ_cons,zcS,tu (by rw[ta];omega)]
inductive VP(vs:List V)(H:Hp)(Q:VK):Prop
 | mk (r:Str×List Str):vs=[.str (jG r)]->((jG r).length<=1000)->Hg r->(r.2.length<=100)->(∀H',qj H H'->Q (.bl true) H')->VP vs H Q
def kf:Sp:=λa H Q _=>VP a H Q
inductive vS(vs:List V)(H:Hp)(Q:VK):Prop
 | mk (r:Str×List Str):vs=[.str (jG r)]->((jG r).length<=1000)->Hg r->(∀H' p q,qj H H'->H' p=tH (.tup [.str r.1,.ref q])->H' q=tH (.tup (r.2.map V.str))->Q (.ref p) H')->vS vs H Q
def wM:Sp:=λa H Q _=>vS a H Q
inductive wN(CG:m9)(vs:List V)(H:Hp)(Q:VK):Prop
 | mk (rs:qY):vs=[.str (Wg rs)]->qe rs->(0 < rs.length)->(rs.length<=14)->(∀H' a,qj H H'->qZ CG H' a rs->Q (.ref a) H')->wN CG vs H Q
def R7(a:m9):Sp:=λb H Q _=>wN a b H Q
def OS:ql ["line","halves","words"] ["line"] (qg Ym):=j3
def K8(F:jJ K "is_line" "is_line" Ym f a)(B:Qd mg)(T:jD K mg)(hN:qK K mg "is_name" ze ["thing"] b d):qu P w K mg base jh 2 f a ["line"] kf:=by
 let a:=pin P w mg base (X0 hN.fn B T);calc F.okK OS λH Q E hr h=>?_;intro X;let{r,rfl,m,d,_,q}:=h;let i:=uw d;refine⟨_,qb (qB 1 (Jh zaU zbD zbE zi (jv 0) (qI qH)))
  (qb (qG (JW.pt (Jd (qp ZD (qr qy {} B.len boot_len (qI (jv 1))) (qh)) (Qx (jX (jj (qw hN a (qI (qF QN (jv 1) (qh))))))))) (qc (qm j0)) qt)
  (qb (qB 2 (Jh zaU zbD zbE zi (qF QN (jv 1) (qh)) (qI qH)))
  (qc (qm (QI (jf jU (qF QN (jv 2) (qh)) qH) (Jt (qr (Q7 rfl) {} T.all boot_all (qI (jL (N':=["word"]) (ix:=[r4]) (qv (ZI XV (jv 2) (zH qh) zI)) (λ_ j l fp _=>
   {qC 0,qP,qw hN a (qI (jv 0))})))))))))),?_⟩
 calc{s0,_,_,s0,s0,by decide+kernel,m,λa b=>?_};rw[DY,zB i];let o:=qd (o:=HO.lst ([r.1,Str.join Vf ({#[]}::r.2)].map V.str)) b;let b:upd H a (HO.lst ([r.1,Str.join Vf (⟨#[]⟩::r.2)].map V.str)) a=tH (.lst [V.str r.1,.str (Str.join Vf (⟨#[]⟩::r.2))]):=qa;generalize upd H a (HO.lst ([r.1,Str.join Vf ({#[]}::r.2)].map V.str))=p at o b;calc{a,_,s0,.inl (.of b),s0,_,s0,qU rfl ({_,.str r.1,.of b,s0,_,s0,d.1,λl j=>{_,s0,jx ({_,.str (Str.join Vf ({#[]}::r.2)),.of (j _ _ b),s0,s0,_,_,s0,s0,by decide+kernel,tP (VH (by show _∈Txt.split (jG r) Re;rw[zB i];simp)) m,λa f2=>?_})}})};rw[Lh,VT i];let i:=qd (o:=HO.lst (({#[]}::r.2).map V.str)) f2;let b:upd l a (HO.lst ((⟨#[]⟩::r.2).map V.str)) a=tH (.lst ((⟨#[]⟩::r.2).map V.str)):=qa;generalize upd l a (HO.lst (({#[]}::r.2).map V.str))=l at i b;calc{_,.str ({#[]}),.of b,YE,s0,_,s0,jI (decide_eq_true (by rw[ft])) ({1,s0,a,_,s0,.of b,λa b=>?_})};rw[Se];let m:=qd (o:=HO.lst (r.2.map V.str)) b;let b:upd l a (HO.lst (r.2.map V.str)) a=tH (.lst (r.2.map V.str)):=qa;generalize upd l a (HO.lst (r.2.map V.str))=p at m b;refine{{_,.of b},λW a=>Jj (out:=λx=>tH (V.bl true)) a b (qi {}) (λx b Y l p a=>a Y (qj.refl Y)) (λx b v u Y l p a=>?_) (λp y l=>?_)}
 ·cases u;exact{x,s0,d.2 x b,λb d=>a b d}
 ·let em:r.2.filterMap (λx=>tH (V.bl true))=(r.2.map λ_=>true).map V.bl:=by rw[ZZ (λ_=>V.bl true),zad];rfl
  rw[em]at l;exists W,_,s0,.of l;let a:(r.2.all λ_=>true)=true:={}
  simp only[zcj,Function.comp_def,id];rw[a];calc q p ((((o.trans j).trans i).trans m).trans y)
def OK:ql ["line","halves"] ["line"] (qg Wu):=j3
def Mz(F:jJ K "row_of" "row_of" Wu f a)(G:jp mg):qu P w K mg base jh 1 f a ["line"] wM:=by
 calc F.okK OK λH Q E hr h=>?_;intro X;let{r,rfl,i,a,q}:=h;let b:=uw a;refine⟨_,qb (qB 1 (Jh zaU zbD zbE zi (jv 0) (qI qH)))
  (qc (qm (jH (jV (qF QN (jv 1) (qh)) (jr Qa {} G.tup boot_tuple (qI (ZI XV (Jh zaU zbD zbE zi (qF QN (jv 1) (qh)) (qI qH)) (zH qh) zI))))))),?_⟩
 calc{s0,_,_,s0,s0,by decide+kernel,i,λa d=>?_};rw[DY,zB b];let j:=qd (o:=HO.lst ([r.1,Str.join Vf ({#[]}::r.2)].map V.str)) d;let d:upd H a (HO.lst ([r.1,Str.join Vf (⟨#[]⟩::r.2)].map V.str)) a=tH (.lst [V.str r.1,.str (Str.join Vf (⟨#[]⟩::r.2))]):=qa;generalize upd H a (HO.lst ([r.1,Str.join Vf ({#[]}::r.2)].map V.str))=l at j d;calc{_,.str r.1,.of d,s0,_,.str (Str.join Vf ({#[]}::r.2)),.of d,s0,s0,_,_,s0,s0,by decide+kernel,tP (VH (by show _∈Txt.split (jG r) Re;rw[zB b];simp)) i,λa f2=>?_};rw[Lh,VT b];let b:=qd (o:=HO.lst (({#[]}::r.2).map V.str)) f2;let d:upd l a (HO.lst ((⟨#[]⟩::r.2).map V.str)) a=tH (.lst ((⟨#[]⟩::r.2).map V.str)):=qa;generalize upd l a (HO.lst (({#[]}::r.2).map V.str))=i at b d;calc{1,s0,a,_,s0,.of d,λa l=>?_};rw[Se];let d:=qd (o:=HO.lst (r.2.map V.str)) l;let l:upd i a (HO.lst (r.2.map V.str)) a=tH (.lst (r.2.map V.str)):=qa;generalize upd i a (HO.lst (r.2.map V.str))=m at d l;calc{a,_,s0,.inl ({.of l,λa l=>{J7,λm fp=>?_}})};let i:=qd (o:=HO.tup [V.str r.1,.ref a]) fp;calc q _ m a ((j.trans b).trans (d.trans ((qd l).trans i))) qa (i _ _ qa)
abbrev nRd:List Str:=["text","lines","number","line"]
def Tn:ql nRd ["text"] (qg kv):=j3
def Dg(F:jJ K "read_ground" "read_ground" kv f d)(T:jD K mg)(C:EF K mg b j l)(m:qu P w K mg base jh 6 j l ["self","rows"] (XU b))(o:qK K mg "is_line" Ym ["line"] p u)(z:qu P w K mg base jh 2 p u ["line"] kf)(B:qK K mg "row_of" Wu ["line"] D J)(L:qu P w K mg base jh 1 D J ["line"] wM):qu P w K mg base jh 8 f d ["text"] (R7 b):=by
 calc F.okK Tn λH Q E hr h=>?_;intro X
 ·let{b,rfl,good,pos,le,q}:=h;refine⟨_,qb (qG (jX (jj (qr jM {} T.isi boot_isinstance (jV (jv 0) (QM (v:=.ty "str") {} T.str boot_str rfl))))) (qS) (qt))
   (qb (qB 1 (Jh zaU zbD zbE zi (jv 0) (qI qH)))
   (qb (je (ZX {} T.enu (qI (jv 1))) (Jf rfl (qM (qC 2) (qM (qC 3) Qp)))
 (qc (qG (jX (jj (qw o z (qI (jv 3))))) (qS) (qt))))
   (qc (qm (QL C.mkr m hr {} C.ns C.bi .nil QP (qI (jL (N':=["line"]) (ix:=[r4]) (qv (jv 1)) (λC o z fp _=>
    {qC 0,qP,qw B L (qI (jv 0))})))))))),?_⟩
  let{d,L}:=BH good le;let O:=zt good;calc{_,_,_,_,s0,s0,YI.str _,T.kss,_,s0,jx ({s0,_,_,s0,s0,by decide+kernel,d,λm d=>?_})};rw[PZ,Kp good pos];let U:=qd (o:=HO.lst ((b.map jG).map V.str)) d;let p:upd H m (HO.lst ((b.map jG).map V.str)) m=tH (.lst ((b.map jG).map V.str)):=qa;generalize upd H m (HO.lst ((b.map jG).map V.str))=u at U p;let Y:∀{i:Nat} {y:Str},(b.map jG)[i]?=tH y->∃r,b[i]?=tH r/\r∈b/\y=jG r:=λ{i y} e=>by
   rw[tA]at e;cases l:b[i]? with
   | none=>rw[l]at e;cases e
   | some r=>rw[l]at e;exact{r,s0,tS l,(tH.inj e).symm}
  refine{m,s0,{_,.of p},Zg (λi d j=>(∃v1 B,d=[tH (.str (Wg b)),tH (.ref m),v1,B])/\qj u j) ({{r4,r4,s0},qj.refl u}) (λi d j _ ⟨_,s⟩=>.of (s _ _ p)) ?_ ?_}
  ·rintro i x d j u D m ⟨⟨v1,B,rfl⟩,o⟩;let s3:=o.trans (qd (o:=.tup [.int (i:Nat),x]) m);let{y,J,hy,rfl}:=jA D;let{r,l,m,rfl}:=Y J;exact{u,_,s0,.of qa,s0,s0,r,s0,L r m,O r m,tP (uv good m) {},λz s4=>{_,s0,jx ({{_,_,s0},s3.trans s4})}}
  ·rintro d z ⟨⟨v1,B,rfl⟩,o⟩;let B:=o _ _ p;refine⟨{_,.of B},λW hW=>qR (λi d j=>∃(v:Option V) (p:List m9),d=[v]/\qj z j/\j W=tH (.lst (p.map V.ref))/\jg j p (b.take i))
    ({r4,[],s0,qd hW,qa,s0,λi u r e=>(nomatch e)}) (λi d j _ ⟨_,_,_,s,_⟩=>.of (s _ _ B)) ?_ ?_⟩
   ·rintro i x d X D ⟨v,p,rfl,b,j,gg⟩;let{y,J,hy,rfl}:=jA D;let{r,l,m,rfl}:=Y J;calc{r,s0,L r m,O r m,λ_ u q m B D=>?_};let z:=m _ _ j;let J:=gg.1;rw[tG]at J;exists _,z,by rw[ta];calc qi {},_,p++[u],s0,qj.upd (b.trans m) hW,tj▸qa;rw[tE,l];exact jg.upd_lst (jg.snoc (gg.mono m) B D) z
   ·rintro d X ⟨v,p,rfl,b,j,gg⟩;rw[ta,ta,tu (ti _)]at gg;calc λa _ d l m=>Q0 j gg good pos le d l m λd j l=>q d a (((U.trans o).trans b).trans j) l
end Rh
/-! GROUNDS SHOWN. -/
namespace Rh
open PySem L2
open PyProof.Rows hiding K lo
abbrev zb:o0:=top 74
abbrev kt:o0:=top 75
def Zz(g:qe rs):qe (jT rs):=by
 let h:=Zx g;calc{h.nm,h.nd,h.to,h.rd,tP ?_ g.few};unfold jT;rw[zad];calc zcN (congrArg List.sum (zaC λr hr=>(YS g hr).length_eq))
inductive R3(vs:List V)(H:Hp)(Q:VK):Prop
 | mk (p q:m9) (r:Str×List Str):vs=[.ref p]->H p=tH (.tup [.str r.1,.ref q])->H q=tH (.tup (r.2.map V.str))->Hg r->(r.2.length<=40)->(∀H',qj H H'->Q (.str (jG r)) H')->R3 vs H Q
def Op:Sp:=λa H Q _=>R3 a H Q
inductive R4(CG:m9)(vs:List V)(H:Hp)(Q:VK):Prop
 | mk (a:m9) (rs:qY):vs=[.ref a]->qZ CG H a rs->qe rs->(rs.length<=14)->(∀H',qj H H'->Q (.str (Wg (jT rs))) H')->R4 CG vs H Q
def EY(a:m9):Sp:=λb H Q _=>R4 a b H Q
def Ti:ql ["row"] ["row"] (qg zb):=j3
def Ix(F:jJ K "show_row" "show_row" zb f b)(G:jp mg):qu P w K mg base jh 1 f b ["row"] Op:=by
 calc F.okK Ti λH Q E hr h=>?_;intro X;let{_,q,r,rfl,i,j,l,_,k}:=h;calc{_,qc (qm (Jh zaU zcA zcB UZ qH (qI (jc Iq (QH (qI (jc ZS (qF qD (jv 0) qh) qH))) (jr Qs {} G.lst boot_list (qI (qF qD (jv 0) qh))))))),?_};let b:=(ZU l.1).2.1;let m:(r.1++zeo ":").length=r.1.length+1:=Str.length_append _ _;refine{s0,_,_,.of i,s0,_,_,s0,s0,?_,J7,λb f1=>?_}
 ·exact zab (qi (by show r.1.length+1<=1000;omega))
 let d:=qd (o:=HO.lst [V.str (r.1++zeo ":")]) f1;let o:upd H b (HO.lst [V.str (r.1++zeo ":")]) b=tH (.lst [V.str (r.1++zeo ":")]):=qa;generalize upd H b (HO.lst [V.str (r.1++zeo ":")])=p at d o;calc{_,_,.of (d _ _ i),s0,q,_,s0,.inr (.of (d _ _ j)),λi f2=>?_};let j:=qd (o:=HO.lst (r.2.map V.str)) f2;let u:upd p i (HO.lst (r.2.map V.str)) i=tH (.lst (r.2.map V.str)):=qa;generalize upd p i (HO.lst (r.2.map V.str))=v at j u;calc{b,i,_,_,s0,s0,j _ _ o,u,zab (qi (by rw[ta];show 1+_<=1000;omega)),λb i=>?_};exists _,b,(r.1++Re)::r.2,s0,s0,.of (DY▸qa),?_
 ·let a:=YU l.2;rw[DY]at m;rw[tR,zau,m,t7];show _+_*1<=_;omega
 ·rw[At,Lh];calc k _ ((d.trans j).trans (qd i))
def Tm:ql ["ground"] ["ground"] (qg kt):=j3
def Iy(F:jJ K "show_ground" "show_ground" kt f m)(C:EF K mg d o p)(G:jp mg)(j:yN K d "rows" "Ground.rows" zY ["self"] u y)(l:qK K mg "show_row" zb ["row"] z B):qu P w K mg base jh 2 f m ["ground"] (EY d):=by
 calc F.okK Tm λH Q E hr h=>?_;intro X;let{a,d,rfl,m,o,u,k}:=h;refine⟨_,qc (qm (Jh zaU zcA zcB UZ qH (qI (jL (N':=["row"]) (ix:=[r4]) (qv (Jg j C.cl (pin P w mg base (WM j.fn C G)) (hr.mono {}) (jv 0))) (λC p _ fp _=>
   {qC 0,qP,qw l (pin P w mg base (Ix l.fn G)) (qI (jv 0))}))))),?_⟩
 let{l,lo,_,kvs,y,_}:=id m;let j:=Zz o;calc{s0,l,_,y,DM _ _,a,d,s0,m,u,λ_ l _ B nl m gg=>{{_,.of m},λD o=>?_}};let lt:(jT d).length=d.length:=ta ..;let u:l.map V.ref=(l.zip (jT d)).map λx=>V.ref x.1:=by
  rw[show (λx:m9×(Str×List Str)=>V.ref x.1)=V.ref ∘ Prod.fst from rfl,<-zad,List.map_fst_zip (by rw[gg.1];calc ti _)]
 rw[u]at m;refine Jj (xs:=l.zip (jT d)) (out:=λx=>tH (V.str (jG x.2))) o m (qi (by rw[List.length_zip,gg.1];omega)) (λx u Y m y o=>o Y (qj.refl Y)) (λx u v z Y m y o=>?_) (λ_ J y=>?_)
 ·cases z;let{i,e}:=zan u;let{z,u}:=zcY.mp e;let{q,L,O}:=gg.2 i _ _ z u;let z:=tS u;exact{x.1,q,x.2,s0,m _ _ L,m _ _ O,zt j _ z,uv j z,λm p=>o m p}
 ·let em:(l.zip (jT d)).filterMap (λx=>tH (V.str (jG x.2)))=((jT d).map jG).map V.str:=by
   rw[ZZ (λx:m9×(Str×List Str)=>V.str (jG x.2)),show (λx:m9×(Str×List Str)=>V.str (jG x.2))=(λr:Str×List Str=>V.str (jG r)) ∘ Prod.snd from rfl,<-zad,List.map_snd_zip (by rw[gg.1];calc ti _),zad];rfl
  rw[em]at y;exists _,D,(jT d).map jG,s0,s0,.of y,?_
  ·let a:=Y9 (zt j);let b:=j.few;rw[ta];show _+_*1<=_;omega
  ·rw[At,PZ];calc k _ (B.trans J)
end Rh
/-! THE LAW:_law_by_moves. -/
namespace Rh
open PySem L2 MLab Rb
open PyProof.Rows hiding K lo
abbrev OX:o0:=top 111
def IV{a:List Str}(h:j < a.length)(y:Str):a.take j++[y]++a.drop (j+1)=lf a (j,y):=by
 unfold lf;rw[List.set_eq_take_append_cons_drop,if_pos h];simp
def fC(a:List Str):Str:=if zeo "lost"∈a then "won" else if zeo "drawn"∈a then "drawn" else "lost"
def Xq.item{H:Hp}{ts:List m9}{os:List ((Nat×Str)×Str)}(h:Xq H ts os){i:Nat}{x:V}(e:(ts.map V.ref)[i]?=tH x):∃t p o,x=.ref t/\ts[i]?=tH t/\os[i]?=tH o/\H t=tH (.tup [.ref p,.str o.2])/\H p=tH (.tup (IO o.1)):=by
 rw[tA]at e;cases d:ts[i]? with
 | none=>rw[d]at e;cases e
 | some t=>
  rw[d]at e;let l:=(tf.mp d).1;let j:i < os.length:=h.1▸l;let{p,a,b}:=h.2 i t _ d (tv j);calc{t,p,_,(tH.inj e).symm,s0,tv j,a,b}
def uS(g:qe rs){a:List Str}(i:∀z∈a,∃r∈rs,r.1=z):b∈mv (QG rs) a↔∃m∈mvs rs a a.length,b=lf a m:=by
 rw[j6];constructor
 ·rintro⟨d,x,y,q,rfl,j,rfl⟩;let l:x∈rs.map (·.1):=by
   let{r,hr,e}:=i x {};exact tc.mpr ({r,hr,e})
  let o:XP (d++x::q) d.length=x:=by unfold XP;simp
  calc{(d.length,y),zdo.mpr ({d.length,zaD.mpr {},tc.mpr ({y,by rw[o];calc(ju g l).mp j,s0})}),?_};unfold lf;simp
 ·rintro⟨m,j,rfl⟩;let{d,l}:=UX j;let j:XP a m.1∈rs.map (·.1):=by
   let{r,hr,e}:=i _ (XO d);exact tc.mpr ({r,hr,e})
  exists a.take m.1,XP a m.1,m.2,a.drop (m.1+1),?_,(ju g j).mpr l
  ·let:=Ye d;let{_,a}:=tf.mp this;rw[<-a];simp
  ·rw[<-IV d];simp
def Bf(g:qe rs)(all:All (js rs) (rs.map (·.1)) 0 [] R){a:List Str}(l:∀z∈a,∃r∈rs,r.1=z){z:Str}(k:(JK (mv (QG rs)) a/\z=zeo "lost")\/(Won (mv (QG rs)) a/\z=zeo "won")\/(¬JK (mv (QG rs)) a/\¬Won (mv (QG rs)) a/\z=zeo "drawn")):z=fC ((z4 rs R a).map (·.2)):=by
 let o:∀m∈mvs rs a a.length,_:=λm d=>xq g (Xb (jb g.nd) all) ((λh z i=>let ⟨r,hr,e⟩:=h z i;tc.mpr ({r,hr,e})) (F1 g l d));let q:∀{w:Str},w∈(z4 rs R a).map (·.2)↔∃m∈mvs rs a a.length,ZQ (Qk ((lf a m).map (wT rs R)))=w:=λ{w}=>by
  unfold z4;rw[zad,tc];exact Iff.rfl
 let p:zeo "lost"∈(z4 rs R a).map (·.2)↔Won (mv (QG rs)) a:=by
  rw[q];constructor
  ·rintro⟨m,d,e⟩;rcases o m d with ⟨i,_⟩ | ⟨_,j⟩ | ⟨_,_,j⟩
   ·exact .mk ((uS g l).mpr ({m,d,s0})) i
   ·exact absurd (j.symm.trans e) (by decide+kernel)
   ·exact absurd (j.symm.trans e) (by decide+kernel)
  ·rintro(⟨u,i⟩);let{m,d,rfl}:=(uS g l).mp u;exists m,d;rcases o m d with ⟨_,e⟩ | ⟨w,_⟩ | ⟨n,_,_⟩
   ·exact e
   ·exact absurd w (WU i)
   ·exact absurd i n
 let u:zeo "drawn"∈(z4 rs R a).map (·.2)↔∃m∈mvs rs a a.length,¬JK (mv (QG rs)) (lf a m)/\¬Won (mv (QG rs)) (lf a m):=by
  rw[q];constructor
  ·rintro⟨m,d,e⟩;rcases o m d with ⟨_,j⟩ | ⟨_,j⟩ | ⟨n1,n2,_⟩
   ·exact absurd (j.symm.trans e) (by decide+kernel)
   ·exact absurd (j.symm.trans e) (by decide+kernel)
   ·exact{m,d,n1,n2}
  ·rintro⟨m,d,n1,n2⟩;exists m,d;rcases o m d with ⟨i,_⟩ | ⟨w,_⟩ | ⟨_,_,e⟩
   ·exact absurd i n1
   ·exact absurd w n2
   ·exact e
 unfold fC;rcases k with ⟨i,e⟩ | ⟨w,e⟩ | ⟨n1,n2,e⟩
 ·rw[if_neg (λh=>WU i (p.mp h)),if_neg,e];rintro h;let{m,d,_,n}:=u.mp h;obtain⟨a⟩:=i;exact n (a _ ((uS g l).mpr ({m,d,s0})))
 ·rw[if_pos (p.mpr w),e]
 ·rw[if_neg (λh=>n2 (p.mp h)),if_pos,e];calc u.mpr (Classical.byContradiction λno=>n1 (.mk λb a=>?_));let{m,d,rfl}:=(uS g l).mp a;rcases o m d with ⟨i,_⟩ | ⟨w,_⟩ | ⟨j,l,_⟩
  ·exact absurd (.mk a i) n2
  ·exact w
  ·calc absurd ({m,d,j,l}) no
inductive Fm(CG:m9)(vs:List V)(H:Hp)(Q:VK):Prop
 | mk (g h:m9) (rs:qY) (hs:List Str):vs=[.ref g,.ref h]->qZ CG H g rs->qe rs->(rs.length<=14)->Jl H h rs hs->(∀H' R,qj H H'->Q3 rs R->Q (.str (oW rs R hs)) H')->Fm CG vs H Q
def Te(a:m9):Sp:=λb H Q _=>Fm a b H Q
abbrev SC:List Str:=["_law_ground","_law_heap_here"]
def PB:(["_law_move","_law_found"]:List Str).Nodup:=by decide+kernel
def TV:ql ["_law_ground","_law_heap_here","_law_left"] SC (qg OX):=j3
def Ps{P:o3}{w:o4}{K:zen}{mg:Str->Option n9}{base:o1}{f b:m9}{d:zer}(F:jJ K "_law_by_moves" "_law_by_moves" OX f d)(h:WF K mg)(B:Qd mg)(Z:Wk K mg)(G:jp mg)(T:jD K mg)(M:GM K mg b)(Y:Yb K mg)(O:XM K mg)(m:Bt K mg):qu P w K mg base jh 12 f d SC (Te b):=by
 let{_,_,d}:=m.oaf;calc F.okK TV λH Q E hr h=>?_;intro X;let{g,o,j,l,rfl,p,good,le,b,q}:=h;refine⟨_,qb (Qu (i:=2) (ix:=[r4,r4]) (g:=GD K 2 (zu (Ql 0) (zu (Ql 1) GF))) (qv (qw d (pin P w mg base (IB d.fn h B Z G T M Y O m)) (jV (jv 0) (jv 1))))
    (λ_ _ _ fp _=>{Jf rfl (qM (jP PB rfl (Or.inl rfl)) (qM (jP PB rfl (Or.inl rfl)) Qp)),qP,jv 1}))
  (qb (qG (qp Q4 qH (jv 2) (by with_unfolding_all rfl)) (qc (qm qH)) qt)
  (qc (qm (qF QN (QH (jV qH qH)) (jr Xn {} B.int boot_int (qI (jf Q4 qH (jv 2) (by with_unfolding_all rfl)))))))),?_⟩
 calc{g,o,j,l,s0,p,good,le,b,λu L _ R v _ all d m=>{{_,.of d},λW o=>?_}};let y:(z4 j R l).length<=200:=by
  unfold z4;rw[ta];let a:=X4 good le b.in_ _ (ti _);let:=b.le;omega
 let p:=Bf good all b.in_ (xq good (Xb (jb good.nd) all) λz C=>tc.mpr (b.in_ z C));generalize z4 j R l=os at m y p;refine qR (λi j G=>∃v0 v1,j=[v0,v1]/\qj u G/\G W=tH (.lst (((os.take i).map (·.2)).map V.str))) ({r4,r4,s0,qd o,qa}) (λi j G _ ⟨_,_,_,s,_⟩=>.of (s _ _ d)) ?_ ?_
 ·rintro i x j G u ⟨v0,v1,rfl,l,b⟩;let{t,_,_,rfl,_,y,C,_}:=m.item u;exists t,_,s0,.of (l _ _ C),s0,s0,_,b,?_,_,_,s0,qj.upd l o
  ·rw[ta,ta,tG];exact qi {}
  ·rw[qa,tE,y,tj,tj];rfl
 ·rintro j G ⟨v0,v1,rfl,l,b⟩;rw[ta,m.1,tu (ti _)]at b;let q:=λj s=>q j R ((v.trans l).trans s) all;unfold oW at q;rw[p]at q;unfold fC at q;exists W,_,s0,.inl (.of b),s0,jQ _,_,rfl;show if Jz (.str "lost") ((os.map (·.2)).map V.str)=true then _ else _
  by_cases c:zeo "lost"∈os.map (·.2)
  ·rw[if_pos c]at q;rw[Qf.mpr c];exact Qq (q _ (qj.refl _))
  ·rw[if_neg c]at q;rw[show Jz (.str "lost") ((os.map (·.2)).map V.str)=false from zdd.mpr λz=>c (Qf.mp z)];calc jx ({J7,λ_ d=>{W,_,s0,.inl (.of (qk b d)),s0,jQ _,.inr ({_,s0,?_})}});let q:=q _ (qd (o:=HO.lst [.str "lost",.str "drawn"]) d);by_cases b:zeo "drawn"∈os.map (·.2)
   ·rw[if_pos b]at q;rw[Qf.mpr b];exact{_,_,.of qa,s0,q}
   ·rw[if_neg b]at q;rw[show Jz (.str "drawn") ((os.map (·.2)).map V.str)=false from zdd.mpr λz=>b (Qf.mp z)];exact{_,_,.of qa,s0,q}
abbrev NL:o0:=top 27
abbrev WB:o0:=top 56
abbrev Y0:o0:=top 57
abbrev Wv:o0:=top 58
abbrev KL:o0:=top 59
abbrev kx:o0:=top 60
abbrev zA:o0:=top 61
abbrev Ww:o0:=top 62
abbrev kG:o0:=top 63
abbrev ky:o0:=top 64
abbrev Ws:o0:=top 65
def PY:Lb->List V
 | .num n s=>[.str (zeo "number"),.int (n:Nat),.int (s:Nat)]
 | .end_ b=>[.str (zeo "endless"),.int (b:Nat)]
inductive vo(K:zen)(H:Hp)(v:V)(l:Lb):Prop
 | mk (p:_):v=.ref p->(SqT K H p (PY l))->vo K H v l
def vo.mono(h:vo K H v l)(s:qj H H'):vo K H' v l:=let ⟨a,e,q⟩:=h;({a,e,q.mono s})
/-- labels jT,as a dict -/
structure Rf(K:zen)(H:Hp)(D:m9)(rs:qY)(f:Str->Lb):Prop where
 at_:∃kvs,Rd H D (.dK kvs)/\∀z∈rs.map (·.1),∃v,ja kvs (Sum.inr z:qJ)=tH v/\vo K H v (f z)
def Rf.mono(h:Rf K H D rs f)(s:qj H H'):Rf K H' D rs f:={let ⟨kvs,a,b⟩:=h.at_;({kvs,a.mono s,λz d=>let ⟨v,e,i⟩:=b z d;({v,e,i.mono s})})}
def Rf.get(h:Rf K H D rs f)(hz:z∈rs.map (·.1)):∃p,jk H D (.str z) (tH (.ref p))/\SqT K H p (PY (f z)):=by
 let{kvs,a,b}:=h.at_;let{v,e,p,rfl,d}:=b z hz;let g:=jk.r (k:=(Sum.inr z:qJ)) a;rw[e]at g;exact{p,g,d}
/-- labels within their bounds -/
def LW(rs:qY)(f:Str->Lb):Prop:=∀z∈rs.map (·.1),match f z with
 | .num n _=>n < 1000
 | .end_ b=>b < 65536
def II{rs:qY}(a:(rs.map (·.1)).Nodup)(h:LW rs f)(hz:z∈rs.map (·.1)):∀x∈Ge (js rs) f z,x < 1000:=λx d=>by
 let{y,i,e}:=DH.mp d;let:=h y (jb a z hz y i);revert this e;cases f y with
 | num n s=>intro e h;cases e;calc h
 | end_ b=>intro e;cases e
def DI(z:Str):(Ge (js rs) f z).length<=rs.length:=tP (zaI _ _) (Wb z)
inductive kq(K:zen)(vs:List V)(H:Hp)(Q:VK):Prop
 | mk (v u:V) (l:Lb) (n s:Nat):vs=[v,u]->vo K H v l->(vo K H u (.num n s))->(Q (.bl (Jy n s l)) H)->kq K vs H Q
def Cf(K:zen):Sp:=λa H Q _=>kq K a H Q
inductive vU(K:zen)(CG:m9)(vs:List V)(H:Hp)(Q:VK):Prop
 | mk (g D:m9) (u:V) (rs:qY) (f:Str->Lb) (y:Str) (n s:Nat):vs=[.ref g,.ref D,u,.str y]->qZ CG H g rs->qe rs->(rs.length<=14)->Rf K H D rs f->(vo K H u (.num n s))->(y∈rs.map (·.1))->(∀H' b,qj H H'->(b=true↔YJ (js rs) f n s y)->Q (.bl b) H')->vU K CG vs H Q
def B2(K:zen)(a:m9):Sp:=λb H Q _=>vU K a b H Q
inductive R0(K:zen)(CG:m9)(vs:List V)(H:Hp)(Q:VK):Prop
 | mk (g D:m9) (rs:qY) (f:Str->Lb) (z:Str):vs=[.ref g,.ref D,.str z]->qZ CG H g rs->qe rs->(rs.length<=14)->Rf K H D rs f->(z∈rs.map (·.1))->(∀H' l,qj H H'->H' l=tH (.lst (JV (Ge (js rs) f z)))->Q (.ref l) H')->R0 K CG vs H Q
def Oo(K:zen)(a:m9):Sp:=λb H Q _=>R0 K a b H Q
inductive wV(K:zen)(CG:m9)(vs:List V)(H:Hp)(Q:VK):Prop
 | mk (g D:m9) (rs:qY) (f:Str->Lb) (z:Str) (n s:Nat):vs=[.ref g,.ref D,.str z]->qZ CG H g rs->qe rs->(rs.length<=14)->Rf K H D rs f->(z∈rs.map (·.1))->f z=.num n s->(∀H' b,qj H H'->(b=true↔wh (js rs) f z)->Q (.bl b) H')->wV K CG vs H Q
def Nh(K:zen)(a:m9):Sp:=λb H Q _=>wV K a b H Q
def Sa(l:List Str)(g:Str->Option Nat):l.filterMap (λy=>(g y).map λn=>V.int (n:Nat))=JV (l.filterMap g):=by
 unfold JV;rw[List.map_filterMap]
def CF:ql ["other","label"] ["other","label"] (qg Y0):=j3
def MW(F:jJ K "is_ahead" "is_ahead" Y0 f a):qu P w K mg base jh 1 f a ["other","label"] (Cf K):=by
 calc F.okK CF λH Q E hr h=>?_;intro X;obtain⟨v,u,j,n,a,rfl,⟨_,rfl,d⟩,⟨_,rfl,i⟩,q⟩:=h;exists _,qc (qm (QI (jf jU (qF qD (jv 0) qh) qH) (QI (jf jU (qF qD (jv 0) qh) (qF qD (jv 1) qh)) (Jt (jf Jc (qF qD (jv 0) qh) (qF qD (jv 1) qh))))));cases j with
 | end_ b=>calc{_,_,d,s0,s0,_,s0,qU (by decide+kernel) q}
 | num m t=>
  calc{_,_,d,s0,s0,_,s0,jI (by decide+kernel) ({_,_,d,s0,_,_,i,s0,s0,_,s0,?_})};by_cases c:m=n
  ·calc jI (decide_eq_true (by rw[c])) ({_,_,d,s0,_,_,i,s0,(t:Int),(a:Int),s0,s0,?_});let e:Jy n a (.num m t)=decide ((t:Int) < (a:Int)):=by
    show (decide (m=n)&&decide (t < a))=_;rw[decide_eq_true c,zdU];exact decide_eq_decide.mpr {}
   rwa [e]at q
  ·calc qU (decide_eq_false λz=>c (by have:=V.int.inj z;omega)) ?_;let e:Jy n a (.num m t)=false:=by
    show (decide (m=n)&&decide (t < a))=_;rw[decide_eq_false c];rfl
   rwa [e]at q
def Cp:ql ["ground","told","label","end","other"] ["ground","told","label","end"] (qg Wv):=j3
def MB(F:jJ K "road_fits" "road_fits" Wv f fd)(B:Qd mg)(G:jp mg)(T:jD K mg)(M:GM K mg CG)(any:mg "any"=r4)(U:qK K mg "is_ahead" Y0 ["other","label"] fA ac):qu P w K mg base jh 3 f fd ["ground","told","label","end"] (B2 K CG):=by
 let{_,_,o}:=M.cls;let{_,_,i}:=M.fr;let{_,_,hN}:=M.isn;calc F.okK Cp λH Q E hr h=>?_;intro X;obtain⟨g,D,u,a,f,y,n,d,rfl,gr,good,_,td,⟨p2,rfl,p⟩,C,q⟩:=h;refine⟨_,qb (qB 4 (qE (jv 1) (jv 3)))
  (DZ (qG (JW.pt (JP (qp jU (qF qD (jv 4) qh) qH) (Je (qp Jc (qF qD (jv 4) qh) (qF qD (jv 2) qh))))) (qc (qm (jf Jc (qF qD (jv 4) qh) (qF qD (jv 2) qh)))) qt)
  (qc (qm (qr (G5 rfl) {} any boot_any (qI (jL (N':=["back","label","told"]) (ix:=[r4,tH 2,tH 1]) (qv (ZJ i o.cl (pin P w mg base (QE i.fn o B G T hN)) (hr.mono {}) (jv 0) (qI (jv 3)))) (λo l H2 fp _=>
   {qC 0,qP,qw U (pin P w mg base (MW U.fn)) (jV (qE (jv 2) (jv 0)) (jv 1))}))))))),?_⟩
 let{o,U,j}:=td.get C;let{r,J,er}:=tc.mp C;let aa:js a y=qz a r:=by rw[<-er,jC good.nd J]
 refine{_,U,{λab L=>L=H/\ab=[tH (.ref g),tH (.ref D),tH (.ref p2),tH (.str y),tH (.ref o)]/\((∃x∈js a y,Jy n d (f x)=true)↔YJ (js a) f n d y),?_,?_}}
 ·let sr:qj H H:=λ_ _ z=>z;unfold YJ;unfold YJ at q;cases ef:f y with
  | end_ b=>
   rw[ef]at j;calc{_,_,j,s0,s0,_,s0,qU (by decide+kernel) (jx ({s0,s0,Iff.rfl}))}
  | num m t=>
   rw[ef]at j q;calc{_,_,j,s0,s0,_,s0,jI (by decide+kernel) ({_,_,j,s0,_,_,p,s0,(m:Int),(n:Int),s0,s0,_,s0,?_})};by_cases c:m < n
   ·calc jI (decide_eq_true {}) ({_,_,j,s0,_,_,p,s0,(t:Int),(d:Int),s0,s0,q H _ sr ?_});rw[decide_eq_true_iff];show _↔if m < n then t < d else _
    rw[if_pos c];omega
   ·calc qU (decide_eq_false {}) ({s0,s0,?_});show _↔if m < n then t < d else _
    rw[if_neg c]
 ·rintro ab L ⟨rfl,rfl,iff⟩;let{j,fs,o,_,U}:=gr.ins;calc{j,fs,o,U,g,a,r,by rw[er];rfl,gr,J,good.nm r J,λj le J U=>{{_,.of qa},λW o=>?_}};let l:qj L (upd j le (.lst ((qz a r).map V.str))):=J.trans (qd U);let J:upd j le (.lst ((qz a r).map V.str)) le=tH (.lst ((qz a r).map V.str)):=qa;generalize upd j le (.lst ((qz a r).map V.str))=H2 at l J o;refine Jj (out:=λz=>tH (V.bl (Jy n d (f z)))) o J (qi (tP (Jb r) {})) (λz hz Y O j i=>i Y (qj.refl Y)) (λz hz v ev Y O j i=>?_) (λ_ j o=>?_)
  ·cases ev;let{J,L,sz}:=((td.mono l).mono O).get (jb good.nd y C z (aa▸hz));exact{_,L,_,_,f z,n,d,s0,{J,s0,sz},{p2,s0,(p.mono l).mono O},i Y (qj.refl Y)}
  ·calc{W,(qz a r).map λz=>Jy n d (f z),s0,.of (by rw[o,ZZ,zad];rfl),q _ _ (l.trans j) ?_};rw[<-iff,zeh,zaW,aa];rfl
def OI:ql ["ground","told","name"] ["ground","told","name"] (qg KL):=j3
def Mt(F:jJ K "told_numbers_behind" "told_numbers_behind" KL f a)(B:Qd mg)(G:jp mg)(T:jD K mg)(M:GM K mg d):qu P w K mg base jh 3 f a ["ground","told","name"] (Oo K d):=by
 let{_,_,i}:=M.cls;let{_,_,d}:=M.fr;let{_,_,j}:=M.isn;calc F.okK OI λH Q E hr h=>?_;intro X;let{g,D,a,f,z,rfl,o,good,_,u,l,q}:=h;refine⟨_,qc (qm (jL (N':=["end","told"]) (ix:=[r4,tH 1]) (tt:=Yh (YM T4 (YM (Yo K) (zO (jd 1) (jd 0)) (tC (.int 0))) (tC (.str (zeo "number"))))) (te:=YM (Yo K) (zO (jd 1) (jd 0)) (tC (.int 1))) (qv (ZJ d i.cl (pin P w mg base (QE d.fn i B G T j)) (hr.mono {}) (jv 0) (qI (jv 2)))) (λi i x fp _=>
   {qC 0,Qo (qp jU (qF qD (qE (jv 1) (jv 0)) qh) qH),qF qD (qE (jv 1) (jv 0)) qh}))),?_⟩
 let{r,j,p}:=tc.mp l;let m:js a z=qz a r:=by rw[<-p,jC good.nd j]
 let{C,fs,J,_,L}:=o.ins;calc{C,fs,J,L,g,a,r,by rw[p];rfl,o,j,good.nm r j,λj le p C=>{{_,.of qa},λW o=>?_}};let i:qj H (upd j le (.lst ((qz a r).map V.str))):=p.trans (qd C);let p:upd j le (.lst ((qz a r).map V.str)) le=tH (.lst ((qz a r).map V.str)):=qa;generalize upd j le (.lst ((qz a r).map V.str))=x at i p o;refine Jj (out:=λy=>((f y).nm).map λn=>V.int (n:Nat)) o p (qi (tP (Jb r) {})) (λy o Y p j d=>?_) (λy o v a Y p j d=>?_) (λC J x=>?_)
 ·let{L,j,sz}:=((u.mono i).mono p).get (jb good.nd z l y (m▸o));let h:=d Y (qj.refl Y);revert h sz;cases f y with
  | num n s=>
   calc λsz h=>{_,j,_,_,sz,s0,s0,_,s0,?_};rwa [show decide (V.str (zeo "number")=V.str (zeo "number"))=true from decide_eq_true rfl]
  | end_ b=>
   calc λsz h=>{_,j,_,_,sz,s0,s0,_,s0,?_};rwa [show decide (V.str (zeo "endless")=V.str (zeo "number"))=false from by decide+kernel]
 ·let{L,j,sz}:=((u.mono i).mono p).get (jb good.nd z l y (m▸o));revert sz a;cases f y with
  | num n s=>
   intro a sz;cases a;calc{_,j,_,_,sz,s0,d Y (qj.refl Y)}
  | end_ b=>
   intro a sz;cases a
 ·rw[Sa,<-m]at x;calc q C W (i.trans J) x
def HK:ql ["ground","told","name","label"] ["ground","told","name"] (qg kx):=j3
def Dj{P:o3}{w:o4}{K:zen}{mg:Str->Option n9}{base:o1}{f i fT j m a:m9}{d o x C J:zer}(F:jJ K "numbered_fits" "numbered_fits" kx f d)(B:Qd mg)(G:jp mg)(T:jD K mg)(M:GM K mg a)(any:mg "any"=r4)(O:qK K mg "is_ahead" Y0 ["other","label"] i o)(l:qK K mg "told_numbers_behind" KL ["ground","told","name"] fT x)(p:qK K mg "road_fits" Wv ["ground","told","label","end"] j C)(u:qK K mg "lacking" Qt ["numbers"] m J):qu P w K mg base jh 4 f d ["ground","told","name"] (Nh K a):=by
 let{_,_,j}:=M.cls;let{_,_,d}:=M.fr;let{_,_,C}:=M.isn;calc F.okK HK λH Q E hr h=>?_;intro X;let{g,D,a,f,z,n,m,rfl,o,good,J,x,i,L,q}:=h;refine⟨_,qb (zq 3 (qE (jv 1) (jv 2)))
  (qb (qG (qp ZD (qF qD (jv 3) qh) (qw u (pin P w mg base (ZT u.fn)) (qI (qw l (pin P w mg base (Mt l.fn B G T M)) (Vo (jv 0) (jv 1) (jv 2)))))) (qc (qm j0)) qt)
  (qc (qm (qr (Q7 rfl) {} T.all boot_all (qI (jL (N':=["end","ground","label","told"]) (ix:=[r4,tH 0,tH 3,tH 1]) (qv (ZJ d j.cl (pin P w mg base (QE d.fn j B G T C)) (hr.mono {}) (jv 0) (qI (jv 2)))) (λj l U fp _=>
   {qC 0,qP,qw p (pin P w mg base (MB p.fn B G T M any O)) (P4 (jv 1) (jv 3) (jv 2) (jv 0))}))))))),?_⟩
 let{aa,p,C}:=x.get i;rw[L]at C;let{r,j,u}:=tc.mp i;let O:js a z=qz a r:=by rw[<-u,jC good.nd j]
 unfold wh at q;rw[L]at q;calc{_,p,{_,_,C,s0,g,D,a,f,z,s0,o,good,J,x,i,λ_ p L hl=>{p,_,s0,.of hl,tP (DI z) {},λU l=>{s0,_,s0,?_}}}};let p:=L.trans l;by_cases c:n=Rb.lackN (Ge (js a) f z)
 ·calc qU (by rw[<-c,decide_eq_true rfl];rfl) ?_;let{l,fs,L,_,U}:=(o.mono p).ins;calc{l,fs,L,U,g,a,r,by rw[u];rfl,o.mono p,j,good.nm r j,λl le L U=>{{_,.of qa},λW u=>?_}};let j:qj H (upd l le (.lst ((qz a r).map V.str))):=(p.trans L).trans (qd U);let L:upd l le (.lst ((qz a r).map V.str)) le=tH (.lst ((qz a r).map V.str)):=qa;generalize upd l le (.lst ((qz a r).map V.str))=U at j L u
  classical
  refine Jj (out:=λy=>tH (V.bl (decide (YJ (js a) f n m y)))) u L (qi (tP (Jb r) {})) (λz i Y u L d=>d Y (qj.refl Y)) (λy l v U Y u L d=>?_) (λ_ L hG=>?_)
  ·cases U;calc{g,D,_,a,f,y,n,m,s0,o.mono (j.trans u),good,J,(x.mono j).mono u,{aa,s0,(C.mono j).mono u},jb good.nd z i y (O▸l),λi b o u=>?_};let:=d i o;rwa [show decide (YJ (js a) f n m y)=b from by rw[zaB,decide_eq_true_iff];calc u.symm]at this
  ·calc{W,(qz a r).map λy=>decide (YJ (js a) f n m y),s0,.of (by rw[hG,ZZ,zad];rfl),q _ _ (j.trans L) ?_};rw[zcj,zaK,O];exact{λh=>{c,λy l=>of_decide_eq_true (h y l)},λh y l=>decide_eq_true (h.2 y l)}
 ·calc jI (by rw[decide_eq_false (λz=>c (by have:=V.int.inj z;omega))];rfl) (q _ false p ({λz=>(nomatch z),λz=>absurd z.1 c}))
inductive VM(K:zen)(vs:List V)(H:Hp)(Q:VK):Prop
 | mk (v:V) (l:Lb) (n:Nat):(vs=[v,.int (n:Nat)])->vo K H v l->((∀b,l=.end_ b->b < 65536))->(∀H',qj H H'->Q (.bl (Xg n l)) H')->VM K vs H Q
def Nc(K:zen):Sp:=λa H Q _=>VM K a H Q
inductive vY(K:zen)(CG:m9)(vs:List V)(H:Hp)(Q:VK):Prop
 | mk (g D:m9) (rs:qY) (f:Str->Lb) (z:Str) (b:Nat):vs=[.ref g,.ref D,.str z]->qZ CG H g rs->qe rs->(rs.length<=14)->Rf K H D rs f->LW rs f->(z∈rs.map (·.1))->f z=.end_ b->(∀H' L (xs:List V),qj H H'->H' L=tH (.lst xs)->(xs.length > 0↔∃y∈js rs z,Xg (Rb.lackN (Rb.memN b 16)) (f y)=true)->Q (.ref L) H')->vY K CG vs H Q
def B4(K:zen)(a:m9):Sp:=λb H Q _=>vY K a b H Q
inductive w9(K:zen)(CG:m9)(vs:List V)(H:Hp)(Q:VK):Prop
 | mk (g D:m9) (rs:qY) (f:Str->Lb) (z:Str):vs=[.ref g,.ref D,.str z]->qZ CG H g rs->qe rs->(rs.length<=14)->Rf K H D rs f->LW rs f->(z∈rs.map (·.1))->(∀H' b,qj H H'->(b=true↔wh (js rs) f z)->Q (.bl b) H')->w9 K CG vs H Q
def No(K:zen)(a:m9):Sp:=λb H Q _=>w9 K a b H Q
inductive ub(K:zen)(CG:m9)(vs:List V)(H:Hp)(Q:VK):Prop
 | mk (g D:m9) (rs:qY) (f:Str->Lb) (z:Str) (e:Nat):vs=[.ref g,.ref D,.str z]->qZ CG H g rs->qe rs->(rs.length<=14)->Rf K H D rs f->LW rs f->(z∈rs.map (·.1))->f z=.end_ e->(∀H' b,qj H H'->(b=true↔wh (js rs) f z)->Q (.bl b) H')->ub K CG vs H Q
def Nq(K:zen)(a:m9):Sp:=λb H Q _=>ub K a b H Q
def LW.e(h:LW rs f)(hz:z∈rs.map (·.1))(e:f z=.end_ b):b < 65536:=by
 let:=h z hz;rwa [e]at this
def NB:ql ["label","number"] ["label","number"] (qg zA):=j3
def K7(F:jJ K "is_open_to" "is_open_to" zA f a)(B:Qd mg)(hN:qK K mg "numbers_in" Zp ["bits"] d i):qu P w K mg base jh 2 f a ["label","number"] (Nc K):=by
 calc F.okK NB λH Q E hr h=>?_;intro X;obtain⟨v,a,n,rfl,⟨t,rfl,d⟩,i,q⟩:=h;calc{_,qc (qm (QI (jf jU (qF qD (jv 0) qh) qH) (Jt (jf Qm (jv 1) (qw hN (pin P w mg base (zg hN.fn B)) (qI (qF qD (jv 0) qh))) (by with_unfolding_all rfl))))),?_};cases a with
 | num m j=>calc{_,_,d,s0,s0,_,s0,qU (by decide+kernel) (q H λ_ _ h=>h)}
 | end_ b=>
  let lt:=i b rfl;calc{_,_,d,s0,s0,_,s0,jI (by decide+kernel) ({_,_,d,s0,_,s0,lt,λa d=>{a,_,s0,.inl (.of qa),s0,W6 _,?_}})};let:=q _ (qd (o:=HO.lst (JV (Rb.memN b 16))) d);let e:(!Jz (.int (n:Nat)) (JV (Rb.memN b 16)))=Xg n (.end_ b):=by
   rw[xS];show (!decide (n∈Rb.memN b 16))= !b.testBit n;congr 1;rw[zaB,decide_eq_true_iff,Rb.mem_memN];calc{λh=>h.2,λh=>{zdp λz=>?_,h}};rw[Rb.testBit_big lt z]at h;cases h
  rwa [<-e]at this
def Cq:ql ["ground","labels","name","least"] ["ground","labels","name"] (qg Ww):=j3
def MD(F:jJ K "open_roads" "open_roads" Ww f a)(B:Qd mg)(G:jp mg)(T:jD K mg)(M:GM K mg d)(i:qK K mg "lacking" Qt ["numbers"] l m)(hN:qK K mg "numbers_in" Zp ["bits"] o p)(j:qK K mg "is_open_to" zA ["label","number"] v C):qu P w K mg base jh 3 f a ["ground","labels","name"] (B4 K d):=by
 let{_,_,d}:=M.cls;let{_,_,l}:=M.fr;let{_,_,v}:=M.isn;calc F.okK Cq λH Q E hr h=>?_;intro X;let{g,D,a,f,z,b,rfl,p,good,_,L,O,m,o,q}:=h;exists _,qb (zq 3 (qw i (pin P w mg base (ZT i.fn)) (qI (qw hN (pin P w mg base (zg hN.fn B)) (qI (qF qD (qE (jv 1) (jv 2)) qh))))))
  (qc (qm (jL (N':=["end","least","labels"]) (ix:=[r4,tH 3,tH 1]) (qv (ZJ l d.cl (pin P w mg base (QE l.fn d B G T v)) hr (jv 0) (qI (jv 2)))) (λd i v fp _=>
   {qC 0,Qo (jj (qw j (pin P w mg base (K7 j.fn B hN)) (jV (qE (jv 2) (jv 0)) (jv 1)))),jH (jV (jv 1) (jv 0))}))))
 let{t,gt,d}:=L.get m;rw[o]at d;calc{_,gt,_,_,d,s0,_,s0,O.e m o,λd l=>?_};let j:qj H (upd H d (.lst (JV (Rb.memN b 16)))):=qd l;let l:upd H d (.lst (JV (Rb.memN b 16))) d=tH (.lst (JV (Rb.memN b 16))):=qa;generalize upd H d (.lst (JV (Rb.memN b 16)))=o at j l;let o:(Rb.memN b 16).length<=16:=by
  let o:(Rb.memN b 16).length<=(zae 16).length:=zao _ _;rwa [zap]at o
 calc{d,_,s0,.of l,{},λv i=>?_};generalize Rb.lackN (Rb.memN b 16)=o at q ⊢;let d:=j.trans i;let{j,fs,l,_,C}:=(p.mono d).ins;let{r,i,v}:=tc.mp m;calc{j,fs,l,C,g,a,r,by rw[v];rfl,p.mono d,i,good.nm r i,λj le l p=>?_};let C:qj H (upd j le (.lst ((qz a r).map V.str))):=d.trans (l.trans (qd p));let l:upd j le (.lst ((qz a r).map V.str)) le=tH (.lst ((qz a r).map V.str)):=qa;generalize upd j le (.lst ((qz a r).map V.str))=J at C l;let U:js a z=qz a r:=by rw[<-v,jC good.nd i]
 let d:=Jb (rs:=a) r;refine⟨{_,.of l},λW Y=>qR (λi p j=>∃(v0:Option V) (d:List V),p=[v0,tH (.int (o:Nat)),tH (.ref D)]/\qj J j/\j W=tH (.lst d)/\d.length<=i/\(d.length > 0↔∃y∈(qz a r).take i,Xg o (f y)=true))
  ({r4,[],s0,qd Y,qa,ti _,{λz=>absurd z {},λ⟨y,J,_⟩=>(nomatch J)}}) (λi p j _ ⟨_,_,_,s,_⟩=>.of (s _ _ l)) ?_ ?_⟩
 ·rintro i x p j hx ⟨v0,d,rfl,l,v,ab,iff⟩;let{y,ey,J,rfl}:=jA hx;let hj:=(tf.mp ey).1;let aa:=jb good.nd z m y (U▸J);let{ty,m,J}:=(L.mono (C.trans l)).get aa;calc{_,m,_,f y,o,s0,{ty,s0,J},λb e=>O.e aa e,λ_ m=>{_,s0,?_}};let J:(qz a r).take (i+1)=(qz a r).take i++[y]:=by rw[tE,ey];rfl
  cases c:Xg o (f y) with
  | false=>
   calc jx ({_,d,s0,l.trans m,m _ _ v,{},iff.trans ?_});rw[J];constructor
   ·rintro⟨u,a,e⟩;exact{u,zaa _ a,e}
   ·rintro⟨u,a,e⟩;rcases tU.mp a with h | h
    ·exact{u,h,e}
    ·let:u=y:=by simpa using h
     rw[this,c]at e;cases e
  | true=>
   calc Qq ({J7,λo a=>{_,qk (m _ _ v) a,qi {},_,d++[.ref o],s0,qj.upd (l.trans (m.trans (qd a))) Y,qa,by rw[tz];show d.length+1<=i+1;omega,?_}});rw[J];refine iff_of_true (by rw[tz];calc Nat.succ_pos _) ({y,t3 _ tK,c})
 ·rintro p j ⟨v0,d,rfl,l,v,ab,iff⟩;rw[ta,tu (ti _),<-U]at iff;calc q j W d (C.trans l) v iff
def HV:ql ["ground","told","name"] ["ground","told","name"] (qg kG):=j3
def Dv{P:o3}{w:o4}{K:zen}{mg:Str->Option n9}{base:o1}{f d l m fT u v a:m9}{b y C J O U Y:zer}(F:jJ K "endless_fits" "endless_fits" kG f b)(B:Qd mg)(G:jp mg)(T:jD K mg)(M:GM K mg a)(j:qK K mg "lacking" Qt ["numbers"] d y)(hN:qK K mg "numbers_in" Zp ["bits"] l C)(hI:qK K mg "is_open_to" zA ["label","number"] m J)(i:qK K mg "told_numbers_behind" KL ["ground","told","name"] fT O)(o:qK K mg "set_of" zW ["numbers"] u U)(p:qK K mg "open_roads" Ww ["ground","labels","name"] v Y):qu P w K mg base jh 4 f b ["ground","told","name"] (Nq K a):=by
 calc F.okK HV λH Q E hr h=>?_;intro X;let{g,D,a,f,z,e,rfl,u,good,v,l,m,b,d,q}:=h;refine⟨_,qb (qG (qp ZD (qF qD (qE (jv 1) (jv 2)) qh) (qw o (pin P w mg base (WK o.fn)) (qI (qw i (pin P w mg base (Mt i.fn B G T M)) (Vo (jv 0) (jv 1) (jv 2)))))) (qc (qm j0)) qt)
  (qc (qm (jf JU (qr qy {} B.len boot_len (qI (qw p (pin P w mg base (MD p.fn B G T M j hN hI)) (Vo (jv 0) (jv 1) (jv 2))))) qh))),?_⟩
 let{_,o,i}:=l.get b;rw[d]at i;unfold wh at q;rw[d]at q;calc{_,o,_,_,i,s0,g,D,a,f,z,s0,u,good,v,l,b,λ_ o i p=>{o,_,s0,.of p,II good.nd m b,s0,_,s0,?_}};by_cases c:e=Rb.setN (Ge (js a) f z)
 ·calc qU (by rw[<-c,decide_eq_true rfl];rfl) ({g,D,a,f,z,e,s0,u.mono i,good,v,l.mono i,m,b,d,λ_ L l o j iff=>{L,l,s0,.inl (.of j),_,0,s0,s0,q _ _ (i.trans o) ?_}});let j:Rb.lackN (Rb.memN e 16)=Rb.lackN (Ge (js a) f z):=xD λx=>by
   rw[Rb.mem_memN,c,Rb.testBit_setN,decide_eq_true_iff];calc{λh=>h.2,λh=>{zdp λl=>?_,h}};let:(Rb.setN (Ge (js a) f z)).testBit x=true:=by rw[Rb.testBit_setN];exact decide_eq_true h
   rw[<-c,Rb.testBit_big (m.e b d) l]at this;cases this
  rw[j]at iff;rw[decide_eq_true_iff];constructor
  ·intro h;exact{c,iff.mp {}}
  ·intro h;let:=iff.mpr h.2;omega
 ·calc jI (by rw[decide_eq_false (λz=>c (by have:=V.int.inj z;omega))];rfl) (q _ false i ({λz=>(nomatch z),λz=>absurd z.1 c}))
def HP:ql ["ground","told","name"] ["ground","told","name"] (qg ky):=j3
def Dp(F:jJ K "label_fits" "label_fits" ky f d)(p:qK K mg "numbered_fits" kx ["ground","told","name"] f1 i)(u:qu P w K mg base jh 4 f1 i ["ground","told","name"] (Nh K a))(v:qK K mg "endless_fits" kG ["ground","told","name"] f2 j)(G2:qu P w K mg base jh 4 f2 j ["ground","told","name"] (Nq K a)):qu P w K mg base jh 5 f d ["ground","told","name"] (No K a):=by
 calc F.okK HP λH Q E hr h=>?_;intro X;let{g,D,l,f,z,rfl,m,good,o,i,x,j,q}:=h;exists _,qb (qG (qp jU (qF qD (qE (jv 1) (jv 2)) qh) qH) (qc (qm (qw p u (Vo (jv 0) (jv 1) (jv 2))))) qt)
  (qc (qm (qw v G2 (Vo (jv 0) (jv 1) (jv 2)))))
 let{_,p,a}:=i.get j;cases d:f z with
 | num n u=>
  rw[d]at a;calc{_,p,_,_,a,s0,s0,_,s0,jI (by decide+kernel) ({g,D,l,f,z,n,u,s0,m,good,o,i,j,d,q})}
 | end_ b=>
  rw[d]at a;exact{_,p,_,_,a,s0,s0,_,s0,qU (by decide+kernel) ({g,D,l,f,z,b,s0,m,good,o,i,x,j,d,q})}
def bdL:Lb->Prop
 | .num n _=>n<=15
 | .end_ b=>b < 65536
inductive kg(vs:List V)(H:Hp)(Q:VK):Prop
 | mk (p:m9) (l:Lb):vs=[.ref p]->H p=tH (.tup (PY l))->bdL l->(Q (.bl true) H)->kg vs H Q
def wY:Sp:=λa H Q _=>kg a H Q
inductive Nn(CG:m9)(vs:List V)(H:Hp)(Q:VK):Prop
 | mk (g D:m9) (rs:qY) (R:Rs Str):vs=[.ref g,.ref D]->qZ CG H g rs->(rs.length<=14)->Jk H D rs R->(∀H',qj H H'->Q (.bl true) H')->Nn CG vs H Q
def Fh(a:m9):Sp:=λb H Q _=>Nn a b H Q
inductive vO(CG:m9)(vs:List V)(H:Hp)(Q:VK):Prop
 | mk (g D:m9) (rs:qY) (R:Rs Str):vs=[.ref g,.ref D]->qZ CG H g rs->qe rs->(rs.length<=14)->Jk H D rs R->Q3 rs R->(∀H',qj H H'->Q (.bl true) H')->vO CG vs H Q
def wK(a:m9):Sp:=λb H Q _=>vO a b H Q
/-- the labels found,as labels jT -/
abbrev DQ(rs:qY)(R:Rs Str):Str->Lb:=ZF (js rs) (qO R) (zc R)
def U3(rs:qY)(R:Rs Str)(z:Str):Zt rs R z=PY (DQ rs R z):=by
 unfold Zt DQ ZF;cases qO R z<;>rfl
def Ag(good:qe rs)(all:Q3 rs R)(hz:z∈rs.map (·.1)):bdL (DQ rs R z):=by
 let L:=WX good all;let a:=Yg good L hz;unfold DQ ZF;unfold wT at a;cases e:qO R z with
 | some n=>
  let:=z6 good L hz e;show n<=15;omega
 | none=>
  rwa [e]at a
def Jk.tds(h:Jk H D rs R):Rf K H D rs (DQ rs R):=by
 let{kvs,a,_,c}:=h.at_;calc{kvs,.inl a,λz b=>?_};let{r,hr,rfl}:=tc.mp b;let{t,u,v}:=c r hr;calc{_,u,t,s0,.of (by rw[<-U3];calc v)}
def CA:ql ["thing"] ["thing"] (qg WB):=j3
def MP(F:jJ K "is_label" "is_label" WB f a)(h:WF K mg)(B:Qd mg)(Z:Wk K mg)(G:jp mg)(T:jD K mg):qu P w K mg base jh 3 f a ["thing"] wY:=by
 calc F.okK CA λH Q E hr z=>?_;intro X;let{i,j,rfl,a,d,q}:=z;refine⟨_,qb (qG (jX (jj (qr jM {} T.isi boot_isinstance (jV (jv 0) (QM (v:=.ty "tuple") {} G.tup boot_tuple rfl))))) (qc (qm j0)) qt)
  (qb (qG (qp jU (qr qy {} B.len boot_len (qI (jv 0))) qh) (qc (qm (QI (jf jU (qF qD (jv 0) qh) qH) (Jt (qw h.hS (pin P w mg base (kY h.hS.fn B Z h.hW)) (qI (qF qD (jv 0) qh))))))) qt)
  (qb (qG (JW.pt (Jd (qp ZD (qr qy {} B.len boot_len (qI (jv 0))) qh) (Qx (qp ZD (qF qD (jv 0) qh) qH)))) (qc (qm j0)) qt)
  (qc (qm (QI (qw h.hB (pin P w mg base (V0 h.hB.fn B Z h.hW)) (qI (qF qD (jv 0) qh))) (QI (qw h.hW (pin P w mg base (WJ h.hW.fn B Z)) (qI (qF qD (jv 0) qh))) (Jt (jf uK (qF qD (jv 0) qh) qh)))))))),?_⟩
 calc{_,_,_,_,s0,s0,.tup a,T.ktt,_,s0,jx ({i,_,s0,.inr (.of a),s0,_,s0,?_})};cases j with
 | end_ b=>
  let d:b < 65536:=d;calc Qq ({_,_,.of a,s0,s0,_,s0,jI (by decide+kernel) ({_,_,.of a,s0,(b:Int),s0,{},{},q})})
 | num n s=>
  let d:n<=15:=d;calc jx ({i,_,s0,.inr (.of a),s0,_,s0,jx ({_,_,.of a,s0,s0,_,s0,qU (by decide+kernel) ({_,_,.of a,s0,(n:Int),s0,{},{},_,s0,Qq ({_,_,.of a,s0,(s:Int),s0,_,s0,Qq ({_,_,.of a,s0,_,_,s0,s0,?_})})})})});show Q (.bl (decide ((0:Int)<=(s:Nat)))) H;rw[decide_eq_true {}];calc q
abbrev nID:List Str:=["ground","thing","order"]
def TJ:ql nID ["ground","thing"] (qg NL):=j3
def IE(F:jJ K "is_dict_of_places" "is_dict_of_places" NL f d)(B:Qd mg)(G:jp mg)(T:jD K mg)(M:GM K mg i)(m:mg "dict"=r4)(kd:zak K (.type "dict") (.type "dict")=tH true):qu P w K mg base jh 2 f d ["ground","thing"] (Fh i):=by
 let{_,_,i}:=M.cls;let{_,_,j}:=M.nm;calc F.okK TJ λH Q E hr h=>?_;intro X;let{g,D,d,R,rfl,l,_,o,q}:=h;refine⟨_,qb (qB 2 (Jg j i.cl (pin P w mg base (j7 j.fn i G)) hr (jv 0)))
  (qb (qG (JW.pt (Jd (jX (jj (qr wa {} T.isi boot_isinstance (jV (jv 1) (QM (v:=.ty "dict") {} m boot_dict rfl)))))
   (Qx (qp ZD (qr G0 {} B.len boot_len (qI (jv 1))) (qr qy {} B.len boot_len (qI (jv 2))))))) (qc (qm j0)) qt)
  (qc (qm (qr (Q7 rfl) {} T.all boot_all (qI (jL (N':=["name","thing"]) (ix:=[r4,tH 1]) (qv (jv 2)) (λi _ _ fp _=>
   {qC 0,qP,vb (zr (jv 0) (jv 1))}))))))),?_⟩
 let{kvs,a,b,c}:=o.at_;let{i,fs,j,m,_}:=l.ins;calc{i,fs,j,m,g,d,s0,l,λln j=>?_};let i:qj H (upd H ln (.lst ((d.map (·.1)).map V.str))):=qd j;let j:upd H ln (.lst ((d.map (·.1)).map V.str)) ln=tH (.lst ((d.map (·.1)).map V.str)):=qa;generalize upd H ln (.lst ((d.map (·.1)).map V.str))=l at i j;let lk:kvs.length=d.length:=by
  let:=congrArg zat b;simpa using this
 refine{D,kvs,_,_,s0,.inl (i _ _ a),kd,_,s0,jx ({D,kvs,s0,.inl (i _ _ a),ln,_,s0,.inl (.of j),s0,_,s0,qU ?_ ?_})}
 ·rw[ta,ta,lk];simp
 ·refine{{_,.of j},λW l=>Jj (out:=λz=>tH (V.bl true)) l j (qi (by rw[ta];omega)) (λz l Y m o j=>j Y (qj.refl Y)) (λz l v p Y m o j=>?_) (λG2 o x=>?_)}
  ·cases p;let{r,p,rfl}:=tc.mp l;let{t,u,_}:=c r p;let l:=jk.k (k:=(Sum.inr r.1:qJ)) (m _ _ (i _ _ a));rw[u]at l;exact{_,l,j Y (qj.refl Y)}
  ·calc{W,(d.map (·.1)).map λ_=>true,s0,.of (by rw[x,ZZ,zad (f:=λ_=>true)];rfl),?_};let e:((d.map (·.1)).map λ_=>true).all id=true:={}
   rw[e];calc q _ (i.trans o)
abbrev LV:List Str:=["ground","told"]
def Th:ql LV LV (qg Ws):=j3
def Mw(F:jJ K "shows" "shows" Ws f i)(B:Qd mg)(G:jp mg)(T:jD K mg)(M:GM K mg d)(l:qK K mg "is_dict_of_places" NL ["ground","thing"] j m)(p:qu P w K mg base jh 2 j m ["ground","thing"] (Fh d))(y:qK K mg "is_label" WB ["thing"] o x)(GE:qu P w K mg base jh 3 o x ["thing"] wY)(C:qK K mg "label_fits" ky ["ground","told","name"] J L)(U:qu P w K mg base jh 5 J L ["ground","told","name"] (No K d)):qu P w K mg base jh 6 f i LV (wK d):=by
 let{_,_,i}:=M.cls;let{_,_,j}:=M.nm;let GM:=pin P w mg base (j7 j.fn i G);calc F.okK Th λH Q E hr h=>?_;intro X;let{g,D,d,R,rfl,o,good,O,x,all,q}:=h;let m:jK 1 _:=hr.mono {};refine⟨_,qb (qG (jX (jj (qw l p (jV (jv 0) (jv 1))))) (qc (qm j0)) qt)
  (qb (qG (jX (jj (qr (Q7 rfl) {} T.all boot_all (qI (jL (N':=["name","told"]) (ix:=[r4,tH 1]) (qv (Jg j i.cl GM m (jv 0))) (λi l p fp J=>
   {qC 0,qP,qw y GE (qI (qE (jv 1) (jv 0)))})))))) (qc (qm j0)) qt)
  (qc (qm (qr (Q7 rfl) {} T.all boot_all (qI (jL (N':=["name","ground","told"]) (ix:=[r4,tH 0,tH 1]) (qv (Jg j i.cl GM m (jv 0))) (λi l p fp J=>
   {qC 0,qP,qw C U (Vo (jv 1) (jv 2) (jv 0))}))))))),?_⟩
 let{L,fs,U,l1,_}:=o.ins;let{kvs,a,_,c}:=x.at_;calc{g,D,d,R,s0,o,O,x,λi j=>{_,s0,jx ({L,fs,j _ _ U,l1,g,d,s0,o.mono j,λln y=>{{_,.of qa},λW m=>?_}})}};let l:qj H (upd i ln (.lst ((d.map (·.1)).map V.str))):=j.trans (qd y);let j:upd i ln (.lst ((d.map (·.1)).map V.str)) ln=tH (.lst ((d.map (·.1)).map V.str)):=qa;generalize upd i ln (.lst ((d.map (·.1)).map V.str))=p at l j m;let e:((d.map (·.1)).map λ_=>true).all id=true:={}
 refine Jj (out:=λz=>tH (V.bl true)) m j (qi (by rw[ta];omega)) (λz i Y m y j=>j Y (qj.refl Y)) (λz i v C Y m y j=>?_) (λJ p hG=>?_)
 ·cases C;let{r,aa,rfl}:=tc.mp i;let{t,u,v}:=c r aa;let gz:=jk.k (k:=(Sum.inr r.1:qJ)) (m _ _ (l _ _ a));rw[u]at gz;exact{_,gz,t,DQ d R r.1,s0,by rw[<-U3];calc m _ _ (l _ _ v),Ag good all i,j Y (qj.refl Y)}
 ·let p:=l.trans p;exists W,(d.map (·.1)).map λ_=>true,s0,.of (by rw[hG,ZZ,zad (f:=λ_=>true)];rfl),_,rfl;rw[e];calc jx ({L,fs,p _ _ U,l1,g,d,s0,o.mono p,λl ab=>{{_,.of qa},λW2 U=>?_}});let L:qj H (upd J l (.lst ((d.map (·.1)).map V.str))):=p.trans (qd ab);let p:upd J l (.lst ((d.map (·.1)).map V.str)) l=tH (.lst ((d.map (·.1)).map V.str)):=qa;generalize upd J l (.lst ((d.map (·.1)).map V.str))=H4 at L p U;refine Jj (out:=λz=>tH (V.bl true)) (rest:=[tH (.ref g),tH (.ref D)]) U p (qi (by rw[ta];omega)) (λz i Y m y j=>j Y (qj.refl Y)) (λz i v C Y m y j=>?_) (λ_ l p=>?_)
  ·cases C;let l:=L.trans m;refine{g,D,d,DQ d R,z,s0,o.mono l,good,O,x.tds.mono l,λz i=>?_,i,λm b o x=>?_}
   ·let:=Ag good all i;cases e:DQ d R z with
    | num n s=>rw[e]at this;calc zbf this {}
    | end_ b=>rwa [e]at this
   ·rw[x.mpr (Zw.fit (WX good all) i)];exact j m o
  ·calc{W2,(d.map (·.1)).map λ_=>true,s0,.of (by rw[p,ZZ,zad (f:=λ_=>true)];rfl),?_};rw[e];exact q _ (L.trans l)
abbrev NI:o0:=top 115
/-! ### grounds made anew -/
def yx(g:qe rs):js (jT rs)=js rs:=funext λz=>by
 unfold js jT;rw[List.find?_map];let e:((λr:Str×List Str=>decide (r.1=z)) ∘ λr:Str×List Str=>(r.1,qz rs r))=λr=>decide (r.1=z):=rfl;rw[e];cases c:rs.find? (λr=>decide (r.1=z)) with
 | none=>rfl
 | some r=>
  show ((jT rs).map (·.1)).filter (λz=>Jz (.str z) ((qz rs r).map V.str))=_;rw[jR];calc xY g (List.mem_of_find?_eq_some c)
def Bj(g:qe rs):Q3 (jT rs) R↔Q3 rs R:=by
 unfold Q3;rw[yx g,jR]
def Gk(g:qe rs)(R:Rs Str)(z:Str):Zt (jT rs) R z=Zt rs R z:=by
 unfold Zt Yd;rw[yx g]
def SF:Lb->PyData
 | .num n s=>.tuple [.str (zeo "number"),.int (n:Nat),.int (s:Nat)]
 | .end_ b=>.tuple [.str (zeo "endless"),.int (b:Nat)]
def Ah{H:Hp}(h:H p=tH (.tup (PY l))):DV K H (.ref p) (SF l):=by
 cases l with
 | num n s=>calc .tup (.of h) (.cons (.str _) (.cons (.int _) (.cons (.int _) .nil)))
 | end_ b=>calc .tup (.of h) (.cons (.str _) (.cons (.int _) .nil))
def I8(l:Lb):PySem.SeqAt.shaped (SF l)=true:=by
 unfold PySem.SeqAt.shaped SF;cases l with
 | num n s=>
  simp only[PyData.canLay0,PyData.canLayAll0,okN,PyData.depth,PyData.depthAll];rfl
 | end_ b=>
  simp only[PyData.canLay0,PyData.canLayAll0,okE,PyData.depth,PyData.depthAll];rfl
def u70(r:jK k A):A.units+70 < cLine:=by have:=r.un;omega
def Gc{zs:List Str}(h:zs.Nodup):(zs.map (Sum.inr:Str->qJ)).Nodup:=zbd.mpr (h.imp λa e=>a (Sum.inr.inj e))
def Rq{kvs:List (qJ×V)}(b:(kvs.map (·.1)).Nodup)(hp:p∈kvs):ja kvs p.1=tH p.2:=by
 induction kvs with
 | nil=>cases hp
 | cons a kvs d=>
  rw[tR,zaj]at b;rcases tO.mp hp with rfl | hp
  ·exact jE rfl
  ·rw[jt (λe=>b.1 (e▸tc.mpr ({p,hp,s0})))];calc d b.2 hp
def DT{rs:qY}(o:(rs.map (·.1)).Nodup)(a:Jk H D rs R)(b:Jk H i rs R){Q:VK}(q:Q (.bl true) H):FM K (.ref D) (.ref i) H Q:=by
 let{kvs,l,d,p}:=a.at_;let{m,x,y,B}:=b.at_;let j:=congrArg zat (d.trans y.symm);rw[ta,ta]at j;calc{D,i,kvs,m,s0,s0,.inl l,.inl x,j,λi j=>?_,q};let l:i.1∈kvs.map (·.1):=tc.mpr ({i,j,s0});rw[d]at l;let{z,x,m}:=tc.mp l;let{r,hr,rfl}:=tc.mp x;let{t,u,v}:=p r hr;let{_,p,l}:=B r hr;let e:i.2=.ref t:=by
  let:=Rq (by rw[d];calc Gc o) j;rw[<-m,u]at this;exact(tH.inj this).symm
 rw[U3]at v l;rw[e,<-m];calc{_,SF (DQ rs R r.1),p,Ah v,Ah l,I8 _}
inductive Ni(CG:m9)(vs:List V)(H:Hp)(Q:VK):Prop
 | mk (g:m9) (rs:qY):vs=[.ref g]->qZ CG H g rs->qe rs->(0 < rs.length)->(rs.length<=14)->(∀H',qj H H'->Q (.bl true) H')->Ni CG vs H Q
def Fa(a:m9):Sp:=λb H Q _=>Ni a b H Q
def OP:ql ["_law_ground"] ["_law_ground"] (qg NI):=j3
def MH(F:jJ K "_law_as_made_anew" "_law_as_made_anew" NI f i)(B:Qd mg)(G:jp mg)(T:jD K mg)(N:Xr K mg)(M:GM K mg d)(Y:Yb K mg)(j:G9 K mg)(m:yN K d "rows" "Ground.rows" zY ["self"] l o):qu P w K mg base jh 9 f i ["_law_ground"] (Fa d):=by
 let{_,_,d}:=M.cls;let{_,_,y}:=j.need;let{_,_,j}:=Y.labels;let o:=pin P w mg base (J9 j.fn B G T M Y);calc F.okK OP λH Q E hr h=>?_;intro X;let{g,i,rfl,l,good,pos,p,q}:=h;calc{_,qc (qm (jf (Dc (u70 hr)) (qw j o (qI (jv 0))) (qw j o (qI (QL d.mkr (pin P w mg base (zh d B G T N y)) (hr.mono {}) {} d.ns d.bi .nil QP (qI (Jg m d.cl (pin P w mg base (WM m.fn d G)) (hr.mono {}) (jv 0)))))))),{g,i,s0,l,good,p,λ_ _ R d _ m all=>?_}};let{j,lo,_,kvs,o,_}:=id l;calc{j,_,d _ _ o,DM _ _,g,i,s0,l.mono d,p,λ_ _ _ l nl o gg=>?_};let lt:(jT i).length=i.length:=ta ..;calc λx j j p y=>Q0 o gg (Zz good) {} {} j p y λ_ o j=>{x,jT i,s0,j,Zz good,{},λp y R2 z _ C g5=>?_};let e:=All.uniq good.nd ((Bj good).mp g5) all;subst e;let j:=(l.trans o).trans z;let l:Jk p y i R2:=by
  let{i,a,b,c}:=C.at_;rw[jR]at b;calc{i,a,b,λr hr=>?_};let{t,u,v}:=c _ (vc hr);rw[Gk good]at v;exact{t,u,v}
 exact DT good.nd (m.mono j) l (q _ (d.trans j))
abbrev ND:o0:=top 116
def Kq(e:wT rs R x=wT rs R y):ZQ (Qk ([x,y].map (wT rs R)))=if (qO R x).isSome=true then "lost" else "drawn":=by
 show ZQ (Qk [wT rs R x,wT rs R y])=_;rw[<-e];unfold wT;cases qO R x with
 | some n=>
  show ZQ (.num (Nat.xor 0 n |>.xor n))=_;let:(Nat.xor 0 n).xor n=0:=by show (0^^^n)^^^n=0;rw[zaJ,zaT];rfl
  rw[this];rfl
 | none=>rfl
def yn(good:qe rs)(pos:0 < rs.length)(le:rs.length<=14)(all:Q3 rs R):qe (zP (QO (wT rs R) (rs.map (·.1))))/\0 < (zP (QO (wT rs R) (rs.map (·.1)))).length/\(zP (QO (wT rs R) (rs.map (·.1)))).length<=14:=by
 let a:=u4 (wT rs R) (rs.map (·.1));exists z8 a (Rm good all) (Xk good all a),?_
 ·rw[zG];cases rs with
  | nil=>cases pos
  | cons b d=>
   let{_,d,_}:=tc.mp (a.all b.1 tK);exact zbb d
 ·let:=a.len;rw[zG];rw[ta]at this;omega
inductive RZ(CG:m9)(vs:List V)(H:Hp)(Q:VK):Prop
 | mk (g:m9) (rs:qY):vs=[.ref g]->qZ CG H g rs->qe rs->(0 < rs.length)->(rs.length<=14)->(∀H',qj H H'->Q (.bl true) H')->RZ CG vs H Q
def EW(a:m9):Sp:=λb H Q _=>RZ a b H Q
/-- what _law_twice_right asks of the program -/
structure EC(K:zen)(mg:Str->Option n9)(CG:m9):Prop where
 rows:∃f fd,yN K CG "rows" "Ground.rows" zY ["self"] f fd
 new:∃f fd,qK K mg "_law_as_made_anew" NI ["_law_ground"] f fd
 isd:∃f fd,qK K mg "is_dict_of_places" NL ["ground","thing"] f fd
 isl:∃f fd,qK K mg "is_label" WB ["thing"] f fd
 ah:∃f fd,qK K mg "is_ahead" Y0 ["other","label"] f fd
 rf:∃f fd,qK K mg "road_fits" Wv ["ground","told","label","end"] f fd
 tnb:∃f fd,qK K mg "told_numbers_behind" KL ["ground","told","name"] f fd
 nf:∃f fd,qK K mg "numbered_fits" kx ["ground","told","name"] f fd
 io:∃f fd,qK K mg "is_open_to" zA ["label","number"] f fd
 op:∃f fd,qK K mg "open_roads" Ww ["ground","labels","name"] f fd
 ef:∃f fd,qK K mg "endless_fits" kG ["ground","told","name"] f fd
 lf:∃f fd,qK K mg "label_fits" ky ["ground","told","name"] f fd
 sh:∃f fd,qK K mg "shows" Ws LV f fd
 any:mg "any"=r4
 dict:mg "dict"=r4
 kd:zak K (.type "dict") (.type "dict")=tH true
def EC.shows(X:EC K mg a)(h:WF K mg)(B:Qd mg)(Z:Wk K mg)(G:jp mg)(T:jD K mg)(M:GM K mg a)(Y:Yb K mg):∃f b,qK K mg "shows" Ws LV f b/\qu P w K mg base jh 6 f b LV (wK a):=by
 let{f1,_,a}:=X.isd;let{f2,_,b}:=X.isl;let{_,_,p}:=X.ah;let{_,_,q}:=X.rf;let{_,_,d}:=X.tnb;let{_,_,i}:=X.nf;let{_,_,u}:=X.io;let{_,_,v}:=X.op;let{_,_,j}:=X.ef;let{_,_,l}:=X.lf;let{x,y,m}:=X.sh;let{_,dL,o}:=Y.lack;let{_,_,z}:=Y.seto;calc{x,y,m,Mw m.fn B G T M a (IE a.fn B G T M X.dict X.kd) b (MP b.fn h B Z G T) l (Dp l.fn i (Dj i.fn B G T M X.any p d q o) j (Dv j.fn B G T M o h.hN u d z v))}
abbrev nTw:List Str:=["_law_ground","_law_labels","_law_name","_law_place"]
def Tf:ql nTw ["_law_ground"] (qg ND):=j3
def Iw(F:jJ K "_law_twice_right" "_law_twice_right" ND f fd)(h:WF K mg)(B:Qd mg)(Z:Wk K mg)(G:jp mg)(T:jD K mg)(N:Xr K mg)(M:GM K mg CG)(Y:Yb K mg)(O:XM K mg)(L:G9 K mg)(X1:EC K mg CG):qu P w K mg base jh 11 f fd ["_law_ground"] (EW CG):=by
 let{_,_,hB}:=Y.labels;let{_,_,hS,GS}:=X1.shows h B Z G T M Y;let{_,_,hN}:=X1.new;let{_,_,hR}:=X1.rows;let{_,_,hG}:=L.lg;let{_,_,hA}:=L.al;let{_,_,hO}:=O.outc;let GN:=pin P w mg base (MH hN.fn B G T N M Y L hR);calc F.okK Tf λH Q E hr z=>?_;intro X;let{g,d,rfl,C,good,pos,o,q}:=z;refine⟨_,qb (qB 1 (qw hB (pin P w mg base (J9 hB.fn B G T M Y)) (qI (jv 0))))
  (qb (qG (JW.pt (Jd (jX (jj (qw hS GS (jV (jv 0) (jv 1))))) (Jd (jX (jj (qw hN GN (qI (jv 0))))) (Qx (jX (jj (qw hN GN (qI (qF qD (qw hG (pin P w mg base (MN hG.fn h B Z G T N M Y O L)) (qI (jv 0))) (qh)))))))))) (qc (qm j0)) qt)
  (qb (D0 (je (xK (jv 1)) (qC 2)
   (qc (je (xK (jv 1)) (qC 3)
   (qc (qG (jj (qw hA (pin P w mg base (MV hA.fn h B Z G T M Y O L)) (Vo (jv 0) (jv 2) (jv 3)))) (qc (qG (qp ZD (qw hO (pin P w mg base (uL hO.fn h B Z G T M Y O)) (jV (jv 0) (QH (jV (jv 2) (jv 3))))) (qF QN (QH (jV qH qH)) (jr Xn {} B.int boot_int (qI (jf jU (qF qD (qE (jv 1) (jv 2)) (qh)) qH))))) (qc (qm j0)) qt)) qt))))))
  (qc (qm j0)))),?_⟩
 calc{g,d,s0,C,good,o,λ_ D R L hD lb all=>{g,D,d,R,s0,C.mono L,good,o,lb,all,λ_ s2=>{_,s0,jx ?_}}};let ac:=L.trans s2;calc{g,d,s0,C.mono ac,good,pos,o,λ_ L=>{_,s0,jx ?_}};let ae:=ac.trans L;calc{g,d,s0,C.mono ae,good,pos,o,λ_ _ x _ _ s4 _ j l _ _ ah=>?_};let{lg,lp,ll}:=yn good pos o ah;calc{_,_,.of j,s0,x,_,s0,l,lg,lp,ll,λH5 s5=>{_,s0,jx ?_}};let af:=s4.trans s5;let{kvs,a,b,c}:=(lb.mono ((s2.trans L).trans af)).at_;calc{D,kvs,a,λl=>?_};let sF:qj H (upd H5 D (.frz l (.dK kvs))):=qj.upd (ae.trans af) hD;let p:upd H5 D (.frz l (.dK kvs)) D=tH (.frz l (.dK kvs)):=qa;let cF:∀r∈d,∃t,ja kvs (Sum.inr r.1:qJ)=tH (.ref t)/\upd H5 D (.frz l (.dK kvs)) t=tH (.tup (Zt d R r.1)):=λr hr=>by
  let{t,u,v}:=c r hr;exact{t,u,by rwa [qf (λe=>by rw[e,a]at v;cases v)]}
 generalize upd H5 D (.frz l (.dK kvs))=H6 at sF p cF;refine{D,l,kvs,d.map (·.1),s0,p,b,vg (λ_ j X=>∃v2 m,j=[tH (.ref g),tH (.ref D),v2,m]/\qj H6 X) ({_,_,s0,qj.refl _}) (λi j X _ ⟨_,_,_,s⟩=>s _ _ p) ?_ ?_}
 ·rintro i z j X ez ⟨v2,m,rfl,U⟩;let hz:=tS ez;calc{D,l,kvs,d.map (·.1),s0,U _ _ p,b,vg (λ_ j X=>∃m,j=[tH (.ref g),tH (.ref D),tH (.str z),m]/\qj H6 X) ({_,s0,U}) (λi j X _ ⟨_,_,s⟩=>s _ _ p) ?_ (λj Y ⟨m,e,s⟩=>{_,m,e,s})};rintro _ y j Y ey ⟨m,rfl,sY⟩;let hy:=tS ey;calc{g,d,z,y,s0,C.mono (sF.trans sY),good,o,hz,hy,λY1 _ aa iE=>{_,s0,?_}};let e1:=All.uniq good.nd iE all;subst e1;let aa:=sY.trans aa;calc Yw (λL=>{J7,λab hl=>?_}) (λ_=>{_,s0,aa});let sL:=aa.trans (qd (o:=HO.lst [.str z,.str y]) hl);let ag:Jl (upd Y1 ab (.lst [.str z,.str y])) ab d [z,y]:=⟨qa,by show 2<=8;decide,λk hk=>by
   rcases tO.mp hk with rfl | hk
   ·exact tc.mp hz
   ·rw[tQ.mp hk];calc tc.mp hy⟩
  generalize upd Y1 ab (.lst [.str z,.str y])=Y2 at sL ag;calc{g,ab,d,[z,y],s0,C.mono (sF.trans sL),good,o,ag,λY3 R2 ai g5=>?_};let e2:=All.uniq good.nd g5 all;subst e2;let{r,aj,rfl}:=tc.mp hz;let{t,u,v}:=cF r aj;let gz:∀{Y:Hp},qj H6 Y->jk Y D (.str r.1) (tH (.ref t)):=λs=>by
   rw[<-u];exact .inl ({kvs,Sum.inr r.1,.inr ({l,s _ _ p}),s0,s0})
  calc{J7,λd l=>?_};let J:=(sL.trans ai).trans (qd (o:=HO.lst [.str "drawn",.str "lost"]) l);let hZ:upd Y3 d (.lst [.str "drawn",.str "lost"]) d=tH (.lst [.str "drawn",.str "lost"]):=qa;generalize upd Y3 d (.lst [.str "drawn",.str "lost"])=l at J hZ;let v4:=J _ _ v;rw[Kq (of_decide_eq_true L)];unfold Zt at v4;cases en:qO R2 r.1 with
  | some n=>
   rw[en]at v4;calc{_,gz J,_,_,.of v4,s0,s0,.inr ({_,s0,_,_,.of hZ,s0,s0,_,s0,qU (show (!decide (V.str (zeo "lost")=V.str (zeo "lost")))=false by decide+kernel) ({_,s0,J})})}
  | none=>
   rw[en]at v4;exact{_,gz J,_,_,.of v4,s0,s0,.inr ({_,s0,_,_,.of hZ,s0,s0,_,s0,qU (by decide+kernel) ({_,s0,J})})}
 ·rintro j X ⟨v2,m,rfl,U⟩;exact{U _ _ p,q _ (qj.upd (sF.trans U) hD)}
abbrev NK:o0:=top 112
/-- what the law's try asks -/
structure LN(K:zen)(mg:Str->Option n9)(D CM:m9):Prop where
 nD:mg "HeapError"=tH (.ref D)
 cD:EG K D
 kM:zak K (.ref CM) (.ref CM)=tH true
 spc:zcc K (.builtin "object.__class__") "__get__"=tH (tH (.builtin "getset_descriptor.__get__"))
 tks:zcq K (.builtin "object.__class__")=tH true
def P2{X:Cx}{x:Str}{st:o0}{ps:List Str}{f:m9}{b:zer}{k:Nat}{d:Sp}{E:L2.St->XK}{e:Expr}{a:List Expr}{t:TA}{p pos:Pos}(h:qK X.K X.mg x st ps f b)(G:qu X.prog X.w X.K X.mg X.base (Z6 X.prog X.w) k f b ps d)(i:YK (Z6 X.prog X.w) X E)(j:Gl X x)(l:JA X (e::a) t)(m:(x==("__debug__":Str))=false:=by decide)(o:starEach (e::a) X.env=(false,eval e X.env)::starEach a X.env:=by rfl)(q:(backTo pos (starEach a X.env)).any (·.1)=false:=by rfl)(hr:jK k X.A:=by first | assumption | calc jK.mono hr {}):
 JE X (.Call (.Name x p) (e::a) [] pos) (RP d [] E t):=.of (Mj G hr j h.ns h.fn.kp h.bi .nil i l.to m o q)
inductive Nm(CG:m9)(vs:List V)(H:Hp)(Q:VK):Prop
 | mk (g h:m9) (rs us:qY):vs=[.ref g,.ref h]->qZ CG H g rs->qZ CG H h us->qe rs->qe us->(0 < rs.length)->(0 < us.length)->(rs.length<=4)->(us.length<=3)->((∀H' (n:Nat),Sm H H'->40 < n->Q (.int (n:Nat)) H'))->((∀H' x Pd t,qj H H'->qZ CG H' x (qT rs us)->qe (qT rs us)->H Pd=r4->H' Pd=tH (.dT (kO (jS rs us)))->H' t=tH (.tup [.ref x,.ref Pd])->Q (.ref t) H'))->Nm CG vs H Q
def Fe(a:m9):Sp:=λb H Q _=>Nm a b H Q
abbrev fg:List Str:=["_law_one","_law_other","_law_told","e"]
def Ft:ql fg ["_law_one","_law_other"] (qg NK):=j3
def IC(F:jJ K "_law_paired" "_law_paired" NK f fd)(B:Qd mg)(G:jp mg)(T:jD K mg)(N:Xr K mg)(M:GM K mg CG)(hW:qK K mg "need_rows" zd ["rows"] fW aj)(J:SK K mg D CW p)(i:LN K mg D p)(ab:qK K mg "pairs_of" KM uH ak al)(ac:qK K mg "pairs_behind" KN Pf am an)(ae:∃t,mg "PAIR_NAMES"=tH (.str Id t))(L:qK K mg "paired" kw uH fP ao):qu P w K mg base jh 9 f fd ["_law_one","_law_other"] (Fe CG):=by
 let{fX,ap,j}:=J.m;calc F.okK Ft λH Q E hr h=>?_;intro X;let{g,h',O,U,rfl,gr,gh,ga,gb,p1,p2,l1,l2,qx,q}:=h;refine⟨_,qb (qB 2 va)
  (qb (Li rfl rfl (λpn W E hE=>qc (qB 2 (P2 L (pin P w mg base (Pn L.fn B G T N M hW J ab ac ae)) hE {} (jV (jv 0) (jv 1)))))
   (Aw (j:=3) (ts:=Kz (tB (BR (N6 K (.ref D::Zn)) (qW (jd 3) (qW (tC (.ref p)) QQ)))) (y4 (ET K (.ref D::Zn) (jd 3) "found") (Ql 2)) VF) {} i.nD i.cD Ft.nd rfl rfl (λv E=>qc (qG (jj (qr (yJ i.spc i.tks) {} T.isi boot_isinstance (jV (jv 3) (Qz {} j.ns rfl))))
    (qc (qB 2 (D9 (jv 3) rfl))) qt))
   Av))
  (qc (qm (jv 2)))),?_⟩
 exists λd a l=>∃n:Nat,40 < n/\qj H l/\l a=tH (.xd [(zeo "found",.int (n:Nat))])/\d=p,?_
 ·calc{g,h',O,U,s0,gr,gh,ga,gb,p1,p2,{},{},λb v e l a d m o t2=>?_,λ_ H3 y Pd tp s3 gp gd PL af ag=>(q H3 y Pd tp s3 gp gd PL af ag)};let:O.length*U.length<=4*3:=zbJ l1 l2;unfold UN at e;rw[if_neg {}]at e;split at e
  ·rename_i c;let{rfl,rfl}:b=false/\v=_:=by simpa [eq_comm] using e
   rcases t2 with ⟨z,_⟩ | ⟨_,e'⟩
   ·cases z
   ·exact{s0,d,a,s0,s0,_,c,m,o,e'}
  ·cases e
 ·rintro u d a T' l Y ⟨n,hn,m,x,rfl⟩ ha kp aa;let ah:a≠u:=λz=>by
   rw[z,ha]at x;cases x
  let o:=kp a _ ah x;let k1:Sm H Y:=λb ai C nx=>kp b ai (λz=>by
   rw[z]at C;let:=m _ _ C;rw[ha]at this;calc nx _ (tH.inj this).symm) (m _ _ C)
  exists fX,_,j.mkr;rw[if_pos (by simp [zcT])];exact{u,d,a,_,_,_,true,s0,s0,aa,o,j.cls,i.kM,_,s0,Qq ({u,d,a,_,_,_,s0,aa,o,j.cls,j.na,DN,qx Y n k1 hn})}
inductive Fq(vs:List V)(H:Hp)(Q:VK):Prop
 | mk (l m:m9) (ps qs:List m9) (rs us:qY):vs=[.ref l,.ref m]->QU H l ps rs->QU H m qs us->(rs.length<=4)->(us.length<=3)->((∀H',qj H H'->Q .non H'))->(∀H' lm lx ic,qj H H'->QU H' lm lx ic->ic.length=us.length->(∀z∈ic.map (·.1),z∉rs.map (·.1))->Q (.ref lm) H')->Fq vs H Q
def OE:Sp:=λa H Q _=>Fq a H Q
def dl(k:Nat):Str:=Txt.mul (zeo "z") ((k:Nat)+2:Int)++zeo "q"
def MZ:∀k < 3,ji (dl k)=true/\(Txt.mul (zeo "z") ((k:Nat)+2:Int)).length+(zeo "q").length<=100:=by decide+kernel
def Z5(N M:List Str)(z:Str):Str:=if z∈N then dl (M.idxOf z) else z
def G8(N:List Str)(us:qY):qY:=us.map λr=>(Z5 N (us.map (·.1)) r.1,r.2.map (Z5 N (us.map (·.1))))
def Xo(N:List Str)(us:qY):(G8 N us).map (·.1)=(us.map (·.1)).map (Z5 N (us.map (·.1))):=by unfold G8;rw[zad,zad];rfl
def Bi(g:qe us)(d:us.length<=3)(nd:((us.map (·.1)).map (Z5 N (us.map (·.1)))).Nodup):qe (G8 N us):=by
 let q:∀y∈us.map (·.1),ji (Z5 N (us.map (·.1)) y)=true:=λy d=>by
  unfold Z5;split
  ·let:=zbC d;rw[ta]at this;exact(MZ _ {}).1
  ·let{r,hr,rfl}:=tc.mp d;exact g.nm r hr
 let inj:∀a∈us.map (·.1),∀b∈us.map (·.1),Z5 N (us.map (·.1)) a=Z5 N (us.map (·.1)) b->a=b:=λa j b l e=>by
  let{i,m}:=zan j;let{v,o}:=zan l;let p:((us.map (·.1)).map (Z5 N (us.map (·.1))))[i]?=tH (Z5 N (us.map (·.1)) a):=by rw[tA,m];rfl
  let x:((us.map (·.1)).map (Z5 N (us.map (·.1))))[v]?=tH (Z5 N (us.map (·.1)) a):=by rw[tA,o,e];rfl
  let v:=(tf.mp p).1;let:=(zde v nd).mp (p.trans x.symm);subst this;exact tH.inj (m.symm.trans o)
 exists λr hr=>?_,?_,λr hr z m=>?_,λr hr=>?_
 ·let{u,hu,rfl}:=tc.mp hr;exact q _ (tc.mpr ({u,hu,s0}))
 ·rwa [Xo]
 ·let{u,hu,rfl}:=tc.mp hr;let{y,d,rfl}:=tc.mp m;rw[Xo];exact tc.mpr ({y,g.to u hu y d,s0})
 ·let{u,hu,rfl}:=tc.mp hr;exact Jp (g.rd u hu) λa j b l e=>inj a (g.to u hu a j) b (g.to u hu b l) e
 ·let:(G8 N us).map (λr=>r.2.length)=us.map λr=>r.2.length:=by
   unfold G8;rw[zad];exact zaC λr _=>ta ..
  rw[this];calc g.few
def Ma{kvs:List (qJ×V)}(h:k∉kvs.map (·.1)):j2 (kvs++[(k,u)]) k v=kvs++[(k,v)]:=by
 unfold j2;rw[if_pos {},tj];congr 1
 ·exact(zaC λx a=>if_neg λe=>h (tc.mpr ({x,a,e}))).trans (List.map_id _)
 ·simp
def C1[DecidableEq κ]{kvs:List (κ×V)}(h:k∉kvs.map (·.1)):j2 kvs k v=kvs++[(k,v)]:=by
 unfold j2;rw[if_neg];intro c;let{a,b,e}:=zaW.mp c;calc h (tc.mpr ({a,b,of_decide_eq_true e}))
def Lr{z:Str}{zs:List Str}(h:z∉zs):Jz (.str z) (zs.map V.str)=false:=by
 cases e:Jz (.str z) (zs.map V.str) with
 | false=>rfl
 | true=>calc(h (Qf.mp e)).elim
def Ed{z:Str}{zs:List Str}(h:z∈zs):Jz (.str z) (zs.map V.str)=true:=Qf.mpr h
def xu{zs:List Str}(nd:zs.Nodup)(e:zs[i]?=tH z):z∉zs.take i:=λh=>by
 let{_,a}:=zan h;let b:=(tf.mp a).1;rw[tG]at b;rw[zbp {}]at a;let:=(zde {} nd).mp (a.trans e.symm);omega
def valV_map{g:Str->V}:∀{zs:List Str},z∈zs->ja (zs.map λz=>((Sum.inr z:qJ),g z)) (Sum.inr z:qJ)=tH (g z)
 | a::zs,h=>by
  unfold ja;rw[tR,zaY];by_cases c:a=z
  ·subst c;rw[decide_eq_true rfl];rfl
  ·rw[decide_eq_false (λe=>c (Sum.inr.inj e))];calc valV_map ((tO.mp h).resolve_left λe=>c e.symm)
abbrev Pg:List Str:=["_law_rows_here","_law_others"]
abbrev nAp:List Str:=["_law_rows_here","_law_others","_law_names_here","_law_about","_law_k","_law_row","_law_taken"]
def TW:ql nAp Pg (qg WD):=j3
def FZ:(["_law_name","_law_leads_here"]:List Str).Nodup:=by decide+kernel
def FY:(["_law_name","_law_leads_here","_law_about"]:List Str).Nodup:=by decide+kernel
def PD:(["_law_one","_law_about"]:List Str).Nodup:=by decide+kernel
def Pu{P:o3}{w:o4}{K:zen}{mg:Str->Option n9}{base:o1}{f:m9}{a:zer}(F:jJ K "_law_apart" "_law_apart" WD f a)(B:Qd mg)(G:jp mg)(T:jD K mg):qu P w K mg base jh 1 f a Pg OE:=by
 calc F.okK TW λH Q E hr z=>?_;intro X
 ·let{U,m,_,qs,a,d,rfl,D,p,_,lb,qn,q}:=z;refine⟨_,qb (Qu (i:=2) (ix:=[r4,r4]) (g:=GD K 2 (zu (Ql 0) (zu (Ql 1) GF))) (qv (jv 0)) (λj o H2 fp l=>
     {Jf rfl (qM (jP FZ rfl (Or.inl rfl)) (qM (jP FZ rfl (Or.inl rfl)) Qp)),qP,jv 0}))
   (qb (zq 3 j8)
   (qb (je (ZX {} T.enu (qI (jv 1))) (Jf rfl (qM (qC 4) (qM (qC 5) Qp)))
 (qb (jB (jv 3) (qF qD (jv 5) qh) (qF qD (jv 5) qh))
   (qc (qG (qp Q4 (qF qD (jv 5) qh) (jv 2) (by with_unfolding_all rfl)) (qc (jB (jv 3) (qF qD (jv 5) qh) (jc ZS (jc C9 qH (jc Zr (jv 4) qh)) qH))) qt))))
   (qb (qB 6 (jc UQ (jv 2) (P0 rfl {} G.srt (jv 3))))
   (qb (qG (qp Jc (Az rfl {} B.len {} G.set (jv 6)) (qr qy {} B.len boot_len (qI (jv 6)))) (qc (qm va)) qt)
   (qc (qm (jL (ix:=[r4,r4,tH 3]) (g:=GD K 2 (zu (Ql 0) (zu (Ql 1) GF))) (te:=Uu (qW (zO (jd 2) (jd 0)) (qW (BR (N0 K) (qW (LS (P5 K (jd 1)) [r4,tH 2] (Ql 0) BO (zO (jd 1) (jd 0))) QQ)) QQ))) (qv (jv 1)) (λj o H2 fp l=>
     ⟨Jf rfl (qM (jP FY rfl (Or.inl rfl)) (qM (jP FY rfl (Or.inl rfl)) Qp)),qP,jH (jV (qE (jv 2) (jv 0)) (jr Qa {} G.tup boot_tuple (qI (jL (xJ (jv 1)) (λj _ _ fp l=>
      {jP PD rfl (Or.inl rfl),qP,qE (jv 1) (jv 0)})))))⟩)))))))),?_⟩
  -- am names
  refine{{_,.of D.at_},λaa J=>qR (λv x X=>∃v0 v1,x=[v0,v1]/\qj H X/\X aa=tH (.lst (((a.take v).map (·.1)).map V.str))) ({r4,r4,s0,qd J,qa}) (λv x X _ ⟨_,_,_,l,_⟩=>.of (l _ _ D.at_)) ?_ ?_}
  ·rintro v y' x X hy ⟨v0,v1,rfl,l,L⟩;let{y,q',j,rfl,C,ab,ea,eb}:=(D.rows.mono l).item hy;let hj:=(tf.mp C).1;exists y,_,s0,.of ea,s0,s0,_,L,by rw[ta,ta,tG];calc qi {},_,_,s0,qj.upd l J;rw[qa,tE,C,tj,tj];rfl
  rintro x J ⟨v0,v1,rfl,s1,L⟩;rw[ta,D.rows.1,tu (ti _)]at L;intro Da O;let o:qj J (upd J Da (.dK [])):=qd O;let D:upd J Da (.dK []) Da=tH (.dK []):=qa;let ag:=O;generalize upd J Da (.dK [])=H2 at o D;let J:=p.mono (s1.trans o);let O:∀{Y:Hp},Fr H2 Da Y->QU Y m qs d/\Y aa=tH (.lst ((a.map (·.1)).map V.str)):=λfr=>{J.fr' D fr,fr _ _ (o _ _ L) (qo L ag)};refine{m,s0,{_,.of J.at_},Zg (xs:=qs.map V.ref) (λi σ Y=>∃v4 v5,σ=[tH (.ref U),tH (.ref m),tH (.ref aa),tH (.ref Da),v4,v5,r4]/\Fr H2 Da Y/\Y Da=tH (.dK (((d.take i).map (·.1)).map λz=>((Sum.inr z:qJ),V.str (Z5 (a.map (·.1)) (d.map (·.1)) z))))) ({_,_,s0,Fr.refl,D}) (λi σ Y _ ⟨_,_,_,J,_⟩=>.of (O J).1.at_) ?_ ?_}
  ·rintro i y' σ Y U hy L ⟨v4,v5,rfl,J,hY⟩;let{y,q',j,rfl,C,ab,ea,eb}:=(O J).1.rows.item hy;let D:=(tf.mp C).1;let D:qj Y (upd Y U (.tup [.int (i:Nat),.ref y])):=qd L;let ah:upd Y U (.tup [.int (i:Nat),.ref y]) U=tH (.tup [.int (i:Nat),.ref y]):=qa;generalize upd Y U (.tup [.int (i:Nat),.ref y])=Y1 at D ah;let ai:=J.same D;let ae:=D _ _ hY;let{_,_}:=O ai;let ac:=D _ _ ea;let e1:(d.map (·.1))[i]?=tH j.1:=by rw[tA,C];rfl
   let ei:(d.map (·.1)).idxOf j.1=i:=by
    let{D,L}:=tf.mp e1;rw[<-L];exact p.good.nd.idxOf_getElem i D
   let nk:(Sum.inr j.1:qJ)∉(((d.take i).map (·.1)).map λz=>((Sum.inr z:qJ),V.str (Z5 (a.map (·.1)) (d.map (·.1)) z))).map (·.1):=λhm=>by
    rw[zad]at hm;let{z,D,L}:=tc.mp hm;rw[Sum.inr.inj L,zdT]at D;exact xu p.good.nd e1 D
   let ll:(((d.take i).map (·.1)).map λz=>((Sum.inr z:qJ),V.str (Z5 (a.map (·.1)) (d.map (·.1)) z))).length<=900:=by rw[ta,ta,tG];omega
   let go:∀{Z:Hp},Z Da=tH (.dK ((((d.take i).map (·.1)).map λz=>((Sum.inr z:qJ),V.str (Z5 (a.map (·.1)) (d.map (·.1)) z)))++[((Sum.inr j.1:qJ),V.str (Z5 (a.map (·.1)) (d.map (·.1)) j.1))]))->Z Da=tH (.dK (((d.take (i+1)).map (·.1)).map λz=>((Sum.inr z:qJ),V.str (Z5 (a.map (·.1)) (d.map (·.1)) z)))):=λ{Z} h=>by
    rw[h,tE,C,tj,tj];rfl
   generalize (((d.take i).map (·.1)).map λz=>((Sum.inr z:qJ),V.str (Z5 (a.map (·.1)) (d.map (·.1)) z)))=kvs at ae nk ll go;calc{U,_,s0,.of ah,s0,s0,_,_,.of ac,YE,_,_,.of ac,YE,Da,_,s0,.inl ({_,(Sum.inr j.1:qJ),ae,s0,qi {},s0}),?_};rw[C1 nk];let fD:Fr H2 Da (upd Y1 Da (.dK (kvs++[((Sum.inr j.1:qJ),V.str j.1)]))):=ai.at_d;let aj:upd Y1 Da (.dK (kvs++[((Sum.inr j.1:qJ),V.str j.1)])) Da=tH (.dK (kvs++[((Sum.inr j.1:qJ),V.str j.1)])):=qa;let af:upd Y1 Da (.dK (kvs++[((Sum.inr j.1:qJ),V.str j.1)])) y=tH (.tup [.str j.1,.ref q']):=by rwa [qf (λe=>by rw[e,ae]at ac;cases ac)]
   generalize upd Y1 Da (.dK (kvs++[((Sum.inr j.1:qJ),V.str j.1)]))=Y2 at fD aj af;let{_,an}:=O fD;exists _,_,.of af,YE,aa,_,s0,.inl (.of an),s0,jQ _,_,rfl;by_cases e:j.1∈a.map (·.1)
   ·let L:Z5 (a.map (·.1)) (d.map (·.1)) j.1=dl i:=by unfold Z5;rw[if_pos e,ei]
    let{n1,n2}:=MZ i {};calc jI (by rw[Ed e];rfl) ({_,_,s0,s0,_,_,s0,s0,by decide+kernel,{},{},_,_,s0,s0,zab (qi {}),_,_,.of af,YE,Da,_,s0,.inl ({_,(Sum.inr j.1:qJ),aj,s0,qi (by rw[tz];show _+1<=1000;omega),s0}),?_});rw[Ma nk];calc{_,_,s0,fD.at_d,go ?_};rw[L];exact qa
   ·let L:Z5 (a.map (·.1)) (d.map (·.1)) j.1=j.1:=if_neg e;calc qU (by rw[Lr e];rfl) ({_,_,s0,fD,go ?_});rwa [L]
  rintro σ Y ⟨v4,v5,rfl,J,hY⟩;rw[ta,p.rows.1,tu (ti _)]at hY;let ak:qj H Y:=λb u hb=>J _ _ ((s1.trans o) _ _ hb) (qo (s1 _ _ hb) ag);calc{Da,_,(d.map (·.1)).map (Z5 (a.map (·.1)) (d.map (·.1))),s0,hY,by simp [zad,Function.comp_def],by rw[ta,ta];omega,λlv o ao pm=>?_};let sv:=qd (o:=HO.lst (o.map V.str)) ao;let hv:upd Y lv (.lst (o.map V.str)) lv=tH (.lst (o.map V.str)):=qa;generalize upd Y lv (.lst (o.map V.str))=Y3 at sv hv;let ly:=pm.length_eq;rw[ta,ta]at ly;calc{aa,lv,_,_,s0,s0,.of (sv _ _ (O J).2),.of hv,by rw[ta,ta,ta];calc zab (qi {}),λlt ap=>?_};let st:=qd (o:=HO.lst ((a.map (·.1)).map V.str++o.map V.str)) ap;let ht:upd Y3 lt (.lst ((a.map (·.1)).map V.str++o.map V.str)) lt=tH (.lst ((a.map (·.1)++o).map V.str)):=tj▸qa;generalize upd Y3 lt (.lst ((a.map (·.1)).map V.str++o.map V.str))=Y4 at st ht;let s4:=sv.trans st;let as:(a.map (·.1)++o).length<=7:=by rw[tz,ta];omega
  exists lt,_,s0,.of ht,{},lt,_,s0,.inl (.of ht),_,_,s0,s0,_,rfl;rw[ta];calc Yw (λ_=>qn _ (ak.trans s4)) (λc=>?_);let nd:(a.map (·.1)++o).Nodup:=by
   let:=Bb (zs:=a.map (·.1)++o) _ (ti _) (by
    let:¬((yP (a.map (·.1)++o) (a.map (·.1)++o).length:Nat):Int) < (((a.map (·.1)++o).length:Nat):Int):=λz=>c (decide_eq_true z);omega)
   rwa [tu (ti _)]at this
  let{_,nd2,dj}:=zaL.mp nd;let o:=(O J).1.mono s4;let dg:∀{X:Hp} {z:Str},qj Y4 X->z∈d.map (·.1)->jk X Da (.str z) (tH (.str (Z5 (a.map (·.1)) (d.map (·.1)) z))):=λ{X z} l D=>by
   rw[<-valV_map (g:=λz=>V.str (Z5 (a.map (·.1)) (d.map (·.1)) z)) D];exact jk.k (k:=(Sum.inr z:qJ)) (l _ _ (s4 _ _ hY))
  -- am rows
  refine{{_,.of o.at_},λlm al=>qR (K:=K) (a:=m) (xs:=qs.map V.ref) (λv x X=>∃(v0 v1:Option V) (J:List m9),x=[v0,v1,tH (.ref Da)]/\qj Y4 X/\X lm=tH (.lst (J.map V.ref))/\jg X J ((G8 (a.map (·.1)) d).take v)) ({r4,r4,[],s0,qd al,qa,s0,λi U r e=>(nomatch e)}) (λv x X _ ⟨_,_,_,_,l,_⟩=>.of (l _ _ o.at_)) ?_ ?_}
  ·rintro v y' x X hy ⟨v0,v1,J,rfl,l,U,gg⟩;let{y,q',j,rfl,C,ab,ea,eb}:=(o.rows.mono l).item hy;let hj:=(tf.mp C).1;let o:=gg.1;rw[tG]at o;let D:j.1∈d.map (·.1):=tc.mpr ({j,ab,s0});refine{y,_,s0,.of ea,s0,s0,_,dg l D,{_,.of eb},λW hW=>Kb (K:=K) (a:=q') (xs:=j.2.map V.str) (λk o Z=>∃v0,o=[v0,tH (.ref Da)]/\qj X Z/\Z W=tH (.lst (((j.2.take k).map (Z5 (a.map (·.1)) (d.map (·.1)))).map V.str))) ({r4,s0,qd hW,qa}) (λk o Z _ ⟨_,_,y,_⟩=>.of (y _ _ eb)) ?_ ?_}
   ·rintro k _ o Z aq ⟨v0,rfl,y,O⟩;let{z,L,mz,rfl}:=jA aq;let hk:=(tf.mp L).1;let au:=qe.two p.good ab;exists _,dg (l.trans y) (p.good.to j ab z mz),_,O,by rw[ta,ta,tG];calc qi {},_,s0,qj.upd y hW;rw[qa,tE,L,tj,tj];rfl
   rintro o Z ⟨v0,rfl,y,O⟩;rw[ta,tu (ti _)]at O;calc{W,_,s0,.inl ({.of O,λo ar=>{J7,λL O=>?_}})};let s6:qj Z (upd (upd Z o (.tup ((j.2.map (Z5 (a.map (·.1)) (d.map (·.1)))).map V.str))) L (.tup [.str (Z5 (a.map (·.1)) (d.map (·.1)) j.1),.ref o])):=(qd ar).trans (qd O);let b6:upd (upd Z o (.tup ((j.2.map (Z5 (a.map (·.1)) (d.map (·.1)))).map V.str))) L (.tup [.str (Z5 (a.map (·.1)) (d.map (·.1)) j.1),.ref o]) o=tH (.tup ((j.2.map (Z5 (a.map (·.1)) (d.map (·.1)))).map V.str)):=qk qa O;let c6:upd (upd Z o (.tup ((j.2.map (Z5 (a.map (·.1)) (d.map (·.1)))).map V.str))) L (.tup [.str (Z5 (a.map (·.1)) (d.map (·.1)) j.1),.ref o]) L=tH (.tup [.str (Z5 (a.map (·.1)) (d.map (·.1)) j.1),.ref o]):=qa;generalize upd (upd Z o (.tup ((j.2.map (Z5 (a.map (·.1)) (d.map (·.1)))).map V.str))) L (.tup [.str (Z5 (a.map (·.1)) (d.map (·.1)) j.1),.ref o])=O at s6 b6 c6;let O:=y.trans s6;let y:=O _ _ U;calc{_,y,by rw[ta];exact qi {},_,_,J++[L],s0,qj.upd (l.trans O) al,by rw[tj];calc qa,?_};let L:(G8 (a.map (·.1)) d).take (v+1)=(G8 (a.map (·.1)) d).take v++[(Z5 (a.map (·.1)) (d.map (·.1)) j.1,j.2.map (Z5 (a.map (·.1)) (d.map (·.1))))]:=by
    unfold G8;rw[tE,tA,C];rfl
   rw[L];exact jg.upd_lst (jg.snoc (q:=o) (gg.mono O) c6 b6) y
  rintro x X ⟨v0,v1,J,rfl,l,U,gg⟩;let j:(G8 (a.map (·.1)) d).take (qs.map V.ref).length=G8 (a.map (·.1)) d:=tu (by rw[ta,p.rows.1];unfold G8;rw[ta];calc ti _);rw[j]at gg;let j:(G8 (a.map (·.1)) d).length=d.length:=ta ..;calc q X lm J _ ((ak.trans s4).trans l) ({U,gg,Bi p.good lb (pm.nodup_iff.mp nd2),by rw[j];exact p.pos,by rw[j];calc p.le}) j λz D a=>?_;rw[Xo]at D;exact dj z a z (pm.mem_iff.mpr D) rfl
open MPlay
abbrev NH:o0:=top 113
def Zk(g:qe rs)(l:rs.length<=4):Qb rs<=16:=by
 unfold Qb;let h:(rs.map λr=>r.2.length).sum<=(rs.map λr=>r.2.length).length*4:=RS λx a=>by
  let{r,hr,rfl}:=tc.mp a;let:=IY (g.rd r hr) (g.to r hr);rw[ta]at this;omega
 rw[ta]at h;omega
def D4(g:qe rs)(a:qe us)(l:rs.length<=4)(b:us.length<=4)(d:∀z∈us.map (·.1),z∉rs.map (·.1)):qe (jn rs us):=by
 calc(VA (Zx g) (Zx a) (by rwa [jR,jR])).good ?_;let d:=Zk g l;let i:=Zk a b;let b:=VU (jT rs) (jT us);rw[ZM g,ZM a]at b;unfold Qb at d i b;omega
/-- two grounds,xH and paired -/
structure Fp(rs us:qY):Prop where
 a:qe rs
 b:qe us
 d:qe (qT rs us)
 dj:∀z∈us.map (·.1),z∉rs.map (·.1)
 la:rs.length<=4
 lb:us.length<=3
 pa:0 < rs.length
 pb:0 < us.length
def Fp.c(h:Fp rs us):qe (jn rs us):=D4 h.a h.b h.la (Nat.le_succ_of_le h.lb) h.dj
def U7(rs us:qY):(jn rs us).length=rs.length+us.length:=by rw[tz,jT,jT,ta,ta]
def Bn(rs us:qY):(jS rs us).length=rs.length*us.length:=by
 show (xl _ _).length=_;unfold xl;rw[List.length_flatMap];let:(rs.map (·.1)).map (λa=>((us.map (·.1)).map λb=>(a,b)).length)=(rs.map (·.1)).map λ_=>us.length:=zaC λa _=>by rw[ta,ta]
 rw[this,List.map_const',List.sum_replicate_nat,ta]
def Fp.l7(h:Fp rs us):(jn rs us).length<=14:=by have:=h.la;let:=h.lb;rw[U7];omega
def Fp.p7(h:Fp rs us):0 < (jn rs us).length:=by have:=h.pa;rw[U7];omega
def Fp.l12(h:Fp rs us):(qT rs us).length<=14:=by
 let:rs.length*us.length<=4*3:=zbJ h.la h.lb;unfold qT;rw[ta,Bn];omega
structure Fo(CG:m9)(H:Hp)(a b c d:m9)(rs us:qY):Prop where
 ga:qZ CG H a rs
 gb:qZ CG H b us
 gc:qZ CG H c (jn rs us)
 gd:qZ CG H d (qT rs us)
def Fo.mono(h:Fo i H a b c d rs us)(s:qj H H'):Fo i H' a b c d rs us:={h.ga.mono s,h.gb.mono s,h.gc.mono s,h.gd.mono s}
def BL(h:YO u):Qk [u]=u:=by
 cases u with
 | num n=>show W.num (0^^^n)=_;rw[zbU]
 | edl b=>show W.edl (turnN b 0 16)=_;rw[Kr h]
def ym(good:qe rs)(all:Q3 rs R)(i:Q3 (zP (QO (wT rs R) (rs.map (·.1)))) T)(hz:z∈rs.map (·.1)):
  look (QO (wT rs R) (rs.map (·.1))) (wT rs R z)∈(zP (QO (wT rs R) (rs.map (·.1)))).map (·.1)/\wT (zP (QO (wT rs R) (rs.map (·.1)))) T (look (QO (wT rs R) (rs.map (·.1))) (wT rs R z))=wT rs R z:=by
 let a:=u4 (wT rs R) (rs.map (·.1));let b:=Rm good all;let d:=(a.look (a.all z hz)).1;calc{by rw[Q6];calc tc.mpr ({_,d,s0}),Rn a b (z8 a b (Xk good all a)) i d}
def yu{H:Hp}{rs:qY}(h:H l=tH (.lst [.str x,.str y]))(b:x∈rs.map (·.1))(d:y∈rs.map (·.1)):Jl H l rs [x,y]:=⟨h,by show 2<=8;decide,λk a=>by
 rcases tO.mp a with rfl | a
 ·exact tc.mp b
 ·rw[tQ.mp a];calc tc.mp d⟩
inductive E3(CG:m9)(vs:List V)(H:Hp)(Q:VK):Prop
 | mk (l t a b c d:m9) (rs us:qY) (x:zT):vs=[.ref l,.ref t,.str (lt (jS rs us) x)]->H l=tH (.lst [.ref a,.ref b,.ref c,.ref d])->H t=tH (.tup [.str x.1,.str x.2])->Fo CG H a b c d rs us->Fp rs us->(x∈jS rs us)->(∀H',qj H H'->Q (.bl true) H')->E3 CG vs H Q
def Ot(a:m9):Sp:=λb H Q _=>E3 a b H Q
abbrev Pe:List Str:=["_law_grounds","_law_pair","_law_name"]
abbrev nPq:List Str:=["_law_grounds","_law_pair","_law_name","_law_one","_law_other","_law_both","_law_side","_law_heap_here","_law_found","_law_added","_law_small","_law_places"]
def Tq:ql nPq Pe (qg NH):=j3
def dE:(["_law_place","_law_places"]:List Str).Nodup:=by decide+kernel
def Pl{P:o3}{w:o4}{K:zen}{mg:Str->Option n9}{base:o1}{f CG fT fB fW:m9}{fd iX lX lV:zer}(F:jJ K "_law_pair_right" "_law_pair_right" NH f fd)(h:WF K mg)(B:Qd mg)(Z:Wk K mg)(G:jp mg)(T:jD K mg)(N:Xr K mg)(M:GM K mg CG)(Y:Yb K mg)(O:XM K mg)(A1:G9 K mg)(V1:Bt K mg)
  (hW:qK K mg "worth_of" NC ["ground","name"] fW lV) (iW:qK K mg "_law_by_moves" OX SC fB lX) (hT:qK K mg "table_of" Wq ["ground"] fT iX) (GT:qu P w K mg base jh 5 fT iX ["ground"] (wJ K CG)):qu P w K mg base jh 13 f fd Pe (Ot CG):=by
 let{fO,mu,hO}:=O.outc;let{fH,mB,hH}:=O.hw;let{mE,lW,lP}:=O.place;let{fL,mw,hL}:=O.lw;let{fG,mC,hG}:=A1.lg;let GO:=pin P w mg base (uL hO.fn h B Z G T M Y O);let GW:=pin P w mg base (Iv hW.fn h B Z G T M Y lP hL);calc F.okK Tq λH Q E hr z=>?_;intro X;let{l,t,a,b,c,d,rs,us,x,rfl,hl,ht,fo,fp,hx,q}:=z;let r1:jK 1 _:=hr.mono {};refine⟨_,qb (U6 (jv 0) (D6 rfl (qM (qC 3) (qM (qC 4) (qM (qC 5) (qM (qC 6) Qp))))))
  (qb (qB 7 (jr Qs {} G.lst boot_list (qI (jv 1))))
  (qb (qB 8 (qw hO GO (jV (jv 5) (jv 7))))
  (qb (qB 9 (uZ h B Z (hr.mono {}) (qw hW GW (jV (jv 3) (qF qD (jv 1) (qh)))) (qI (qw hW GW (jV (jv 4) (qF qD (jv 1) (qh)))))))
  (qb (qG (JW.pt (Jd (qp (Mp hr.units) (Yu (jv 9) h r1) (Yu (qw hH (pin P w mg base (FT hH.fn h B Z G T M Y O)) (jV (jv 5) (jv 7))) h r1)) (Qx (qp ZD (U9 h B (hr.mono {}) (jv 9)) (jv 8))))) (qc (qm j0)) qt)
  (qb (qG (JW.pt (Jd (qp ZD (qF qD (qE (qw hT GT (qI (jv 6))) (jv 2)) (qh)) (jv 8)) (Qx (qp (Mp hr.units) (Yu (qw hW GW (jV (jv 6) (jv 2))) h r1) (Yu (jv 9) h r1))))) (qc (qm j0)) qt)
  (qb (U6 (qw hG (pin P w mg base (MN hG.fn h B Z G T N M Y O A1)) (qI (jv 5))) (Jf rfl (qM (qC 10) (qM (qC 11) Qp))))
  (qb (qG (qp ZD (qw hO GO (jV (jv 10) (jL (ix:=[r4,tH 11]) (qv (jv 7)) (λC s2 H2 fp gn=>{jP (i:=0) dE rfl (Or.inl rfl),qP,qE (jv 1) (jv 0)})))) (jv 8)) (qc (qm j0)) qt)
  (qc (qm (QI (jf jU (qw iW (pin P w mg base (Ps iW.fn h B Z G T M Y O V1)) (jV (jv 5) (jv 7))) (jv 8)) (Jt (jf jU (qw hO GO (jV (jv 5) (QH (jV (qF qD (jv 1) (qh)) (qF qD (jv 1) (qh)))))) (jv 8))))))))))))),?_⟩
 -- what is known of the worths
 let{R,aR}:=J0 rs;let{S,aS}:=J0 us;let{J,aJ}:=J0 (jn rs us);let{U,aU}:=J0 (qT rs us);let fc:=fp.c;let{mx,my}:=j5.mp hx;let g7:x.1∈(jn rs us).map (·.1):=by rw[JJ];exact zaa _ mx
 let g6:x.2∈(jn rs us).map (·.1):=by rw[JJ];exact t3 _ my
 let mP:=ZC hx;let lB:=Yg fp.a (WX fp.a aR) mx;let iO:=Yg fp.b (WX fp.b aS) my;let iY:=BC fp.a fp.b fc fp.dj fp.d aR aS aU hx;let uniq:∀{ws:qY} {R1 R2:Rs Str},qe ws->Q3 ws R1->Q3 ws R2->R1=R2:=λg a b=>All.uniq g.nd a b;let eh:Qk ([x.1,x.2].map (wT (jn rs us) J))=jm (wT rs R x.1) (wT us S x.2):=by
  show Qk [wT (jn rs us) J x.1,wT (jn rs us) J x.2]=_;rw[Rp fp.a fc fp.dj aR aJ mx,Ro fp.b fc fp.dj aS aJ my,BJ]
 let l0:Qk ([x.2,x.1].map (wT (jn rs us) J))=jm (wT rs R x.1) (wT us S x.2):=by
  rw[<-eh];exact BK [wT (jn rs us) J x.1,wT (jn rs us) J x.2]
 let iP:=Dh lB iO;let gs:=fp.l7;calc{l,_,s0,.of hl,s0,s0,{t,_,s0,.inr (.of ht),λlh lM=>?_}};let s1:=qd (o:=HO.lst [V.str x.1,V.str x.2]) lM;let iz:upd H lh (.lst [.str x.1,.str x.2]) lh=tH (.lst [.str x.1,.str x.2]):=qa;generalize upd H lh (.lst [.str x.1,.str x.2])=H1 at s1 iz;calc{c,lh,jn rs us,[x.1,x.2],s0,fo.gc.mono s1,fc,gs,yu iz g7 g6,λH2 J1 s2 mh=>?_};let e:=uniq fc mh aJ;subst e;rw[eh];let ih:=s1.trans s2
 -- the sum
 refine{_,_,.of (ih _ _ ht),s0,a,rs,x.1,s0,fo.ga.mono ih,fp.a,by have:=fp.la;omega,mx,λH3 a3 R1 s3 i8 i3=>{a3,_,s0,i3,?_,?_}}
 ·rwa [uniq fp.a i8 aR]
 let e:=uniq fp.a i8 aR;subst e;let ig:=ih.trans s3;calc{_,_,.of (ig _ _ ht),s0,b,us,x.2,s0,fo.gb.mono ig,fp.b,by have:=fp.lb;omega,my,λH4 a4 S1 s4 l_ i4=>?_};let e:=uniq fp.b l_ aS;subst e;refine{a4,_,s0,i3.same s4,i4,iO,λH5 a5 s5 i5=>?_}
 -- jT
 calc{a5,_,s0,i5,λp5 lJ=>?_};let s6:=qd (o:=HO.tup [.str (Qh (jm (wT rs R1 x.1) (wT us S1 x.2))),.int (JM (jm (wT rs R1 x.1) (wT us S1 x.2)):Nat)]) lJ;let iU:upd H5 p5 (.tup [.str (Qh (jm (wT rs R1 x.1) (wT us S1 x.2))),.int (JM (jm (wT rs R1 x.1) (wT us S1 x.2)):Nat)]) p5=tH (.tup (tW (jm (wT rs R1 x.1) (wT us S1 x.2)))):=by rw[Xt];exact qa
 generalize upd H5 p5 (.tup [.str (Qh (jm (wT rs R1 x.1) (wT us S1 x.2))),.int (JM (jm (wT rs R1 x.1) (wT us S1 x.2)):Nat)])=H6 at s6 iU;let iN:=((ig.trans s4).trans s5).trans s6;let i6:=i5.same s6;let iV:=(s2.trans (s3.trans (s4.trans (s5.trans s6)))) _ _ iz;calc{c,lh,jn rs us,[x.1,x.2],s0,fo.gc.mono iN,fc,gs,yu iV g7 g6,λa7 H7 J2 s7 mf i7=>{a7,_,s0,i7,λp7 lI=>?_}};let e:=uniq fc mf aJ;subst e;rw[eh];let s8:=qd (o:=HO.tup [.str (Qh (jm (wT rs R1 x.1) (wT us S1 x.2))),.int (JM (jm (wT rs R1 x.1) (wT us S1 x.2)):Nat)]) lI;let iT:upd H7 p7 (.tup [.str (Qh (jm (wT rs R1 x.1) (wT us S1 x.2))),.int (JM (jm (wT rs R1 x.1) (wT us S1 x.2)):Nat)]) p7=tH (.tup (tW (jm (wT rs R1 x.1) (wT us S1 x.2)))):=by rw[Xt];exact qa
 generalize upd H7 p7 (.tup [.str (Qh (jm (wT rs R1 x.1) (wT us S1 x.2))),.int (JM (jm (wT rs R1 x.1) (wT us S1 x.2)):Nat)])=H8 at s8 iT;let g9:=s7.trans s8;let iM:=iN.trans g9;calc{_,VB (g9 _ _ iU),VB iT,wp _,_,s0,jx ({a5,_,s0,i6.same g9,iP,λH9 s9=>{s0,_,s0,qU (by rw[decide_eq_true rfl];rfl) ?_}})};let iL:=iM.trans s9
 -- the table
 calc{d,qT rs us,s0,fo.gd.mono iL,fp.d,fp.l12,λmn D kvs iK hD lS _ iB gP=>?_};let{rp,lH,lY}:=tc.mp mP;let{v,ev,pe,rfl,hE}:=iB rp lH;rw[lY]at ev hE;let gD:jk mn D (.str (lt (jS rs us) x)) (tH (.ref pe)):=by
  rw[<-ev];exact jk.k (k:=(Sum.inr (lt (jS rs us) x):qJ)) lS
 let{v1,e1}:=LB (tF (qT rs us) (lt (jS rs us) x));let i2:Ke (Vb (tF (qT rs us) (lt (jS rs us) x))) 0=tH (.str (Sx (tF (qT rs us) (lt (jS rs us) x)))):=by rw[e1];rfl
 let et:Sx (tF (qT rs us) (lt (jS rs us) x))=ZQ (jm (wT rs R1 x.1) (wT us S1 x.2)):=by
  rw[<-BN fp.d gP aU mP];show ZQ (Qk [wT (qT rs us) U (lt (jS rs us) x)])=_;rw[iY,BL iP]
 rw[et]at i2;refine{_,gD,_,_,hE,i2,s0,_,s0,qU (by rw[decide_eq_true rfl];rfl) ?_}
 -- the pair's worth
 calc{d,qT rs us,_,s0,fo.gd.mono (iL.trans iK),fp.d,fp.l12,mP,λi_ mi U1 lj l6 lE=>{mi,_,s0,lE,λir iw=>?_}};rw[uniq fp.d l6 aU,iY];let iJ:=qd (o:=HO.tup [.str (Qh (jm (wT rs R1 x.1) (wT us S1 x.2))),.int (JM (jm (wT rs R1 x.1) (wT us S1 x.2)):Nat)]) iw;let h8:upd i_ ir (.tup [.str (Qh (jm (wT rs R1 x.1) (wT us S1 x.2))),.int (JM (jm (wT rs R1 x.1) (wT us S1 x.2)):Nat)]) ir=tH (.tup (tW (jm (wT rs R1 x.1) (wT us S1 x.2)))):=by rw[Xt];exact qa
 generalize upd i_ ir (.tup [.str (Qh (jm (wT rs R1 x.1) (wT us S1 x.2))),.int (JM (jm (wT rs R1 x.1) (wT us S1 x.2)):Nat)])=H12 at iJ h8;let gX:=(s9.trans iK).trans (lj.trans iJ);let ik:=iM.trans gX;calc{a5,_,s0,i6.same (g9.trans gX),λiq iv=>?_};let h_:=qd (o:=HO.tup [.str (Qh (jm (wT rs R1 x.1) (wT us S1 x.2))),.int (JM (jm (wT rs R1 x.1) (wT us S1 x.2)):Nat)]) iv;let h6:upd H12 iq (.tup [.str (Qh (jm (wT rs R1 x.1) (wT us S1 x.2))),.int (JM (jm (wT rs R1 x.1) (wT us S1 x.2)):Nat)]) iq=tH (.tup (tW (jm (wT rs R1 x.1) (wT us S1 x.2)))):=by rw[Xt];exact qa
 generalize upd H12 iq (.tup [.str (Qh (jm (wT rs R1 x.1) (wT us S1 x.2))),.int (JM (jm (wT rs R1 x.1) (wT us S1 x.2)):Nat)])=H13 at h_ h6;let g':=ik.trans h_;refine{_,VB (h_ _ _ h8),VB h6,wp _,_,s0,jx ?_}
 -- the least ground
 calc{c,jn rs us,s0,fo.gc.mono g',fc,fp.p7,gs,λmj tp sm Pd J3 iI _ lG lU _ lQ ib=>?_};let e:=uniq fc ib aJ;subst e;let ij:=g'.trans iI;let{lg,lp,ll}:=yn fc fp.p7 gs ib;let gY:=(g9.trans (gX.trans (h_.trans iI))) _ _ iV;calc{tp,_,s0,.of lG,s0,s0,{{_,.of gY},λW hW=>?_}};let gp:∀{X:Hp} {z:Str},qj mj X->z∈(jn rs us).map (·.1)->jk X Pd (.str z) (tH (.str (look (QO (wT (jn rs us) J3) ((jn rs us).map (·.1))) (wT (jn rs us) J3 z)))):=λ{X z} sX hz=>by
  rw[<-valV_map (g:=λz=>V.str (look (QO (wT (jn rs us) J3) ((jn rs us).map (·.1))) (wT (jn rs us) J3 z))) hz];exact jk.k (k:=(Sum.inr z:qJ)) (sX _ _ lQ)
 refine Jj (K:=K) (a:=lh) (xs:=[x.1,x.2]) (enc:=V.str) (out:=λz=>tH (V.str (look (QO (wT (jn rs us) J3) ((jn rs us).map (·.1))) (wT (jn rs us) J3 z)))) (rest:=[tH (.ref Pd)]) hW gY (by show 2 < zes;decide) (λz hz Y sY Rr hR=>hR Y (qj.refl Y)) (λz hz v ev Y sY Rr hR=>?_) (λmH iH iA=>?_)
 ·cases ev;let lF:z∈(jn rs us).map (·.1):=by
   rcases tO.mp hz with rfl | hz
   ·exact g7
   ·rw[tQ.mp hz];exact g6
  exact{_,gp sY lF,hR Y (qj.refl Y)}
 let{Tl,aT}:=J0 (zP (QO (wT (jn rs us) J3) ((jn rs us).map (·.1))));let{m1,w1}:=ym fc ib aT g7;let{m2,w2}:=ym fc ib aT g6;calc{sm,W,_,_,s0,lU.mono iH,lg,ll,yu iA m1 m2,λmG T1 k_ l9=>?_};let e:=uniq lg l9 aT;subst e;let et:Qk ([look (QO (wT (jn rs us) J3) ((jn rs us).map (·.1))) (wT (jn rs us) J3 x.1),look (QO (wT (jn rs us) J3) ((jn rs us).map (·.1))) (wT (jn rs us) J3 x.2)].map (wT (zP (QO (wT (jn rs us) J3) ((jn rs us).map (·.1)))) T1))=jm (wT rs R1 x.1) (wT us S1 x.2):=by
  rw[<-eh];show Qk [_,_]=Qk [_,_];rw[w1,w2]
 rw[et];let gQ:=iH.trans k_;let g_:=ij.trans gQ;refine{s0,_,s0,qU (by rw[decide_eq_true rfl];rfl) ?_}
 -- by the moves,and the other way round
 calc{c,lh,jn rs us,[x.1,x.2],s0,fo.gc.mono g_,fc,gs,yu (gQ _ _ gY) g7 g6,λi9 J4 j' ma=>?_};rw[uniq fc ma aJ];unfold oW;rw[eh];let gL:=g_.trans j';let iF:∀z:Str,decide (V.str z=V.str z)=true:=λz=>decide_eq_true rfl;exists rfl,_,rfl;rw[iF];calc Qq ({_,_,.of (gL _ _ ht),s0,_,_,.of (gL _ _ ht),s0,J7,λia iy=>?_});let ie:=qd (o:=HO.lst [V.str x.2,V.str x.1]) iy;let gR:upd i9 ia (.lst [.str x.2,.str x.1]) ia=tH (.lst [.str x.2,.str x.1]):=qa;generalize upd i9 ia (.lst [.str x.2,.str x.1])=H18 at ie gR;calc{c,ia,jn rs us,[x.2,x.1],s0,fo.gc.mono (gL.trans ie),fc,gs,yu gR g6 g7,λmF J5 j_ l'=>?_};rw[uniq fc l' aJ,l0];exists rfl;rw[iF];exact q _ ((gL.trans ie).trans j_)
open MRing
abbrev NG:o0:=top 114
def xn(fp:Fp rs us)(nt:JQ (qT rs us)):JQ rs:=λd b j=>by
 let{u,hu}:=zbS fp.pb;let i:∀z∈d,(z,u.1)∈jS rs us:=λz a=>j5.mpr ({b z a,tc.mpr ({u,hu,s0})});let e:=nt (d.map λz=>lt (jS rs us) (z,u.1)) (λw b=>by
  let{z,a,rfl}:=tc.mp b;calc ZC (i z a)) (λw b=>by
  let{z,a,rfl}:=tc.mp b;let{y,b,m}:=j z a;calc{_,(Zf fp.d (i z a)).mpr ({(y,u.1),JZ.mpr (.inl (zF.mpr ({b,s0}))),s0}),tc.mpr ({y,m,s0})})
 calc zcM.mp e
def xm(fp:Fp rs us)(nt:JQ (qT rs us)):JQ us:=λd b j=>by
 let{r,hr}:=zbS fp.pa;let i:∀z∈d,(r.1,z)∈jS rs us:=λz a=>j5.mpr ({tc.mpr ({r,hr,s0}),b z a});let e:=nt (d.map λz=>lt (jS rs us) (r.1,z)) (λw b=>by
  let{z,a,rfl}:=tc.mp b;calc ZC (i z a)) (λw b=>by
  let{z,a,rfl}:=tc.mp b;let{y,b,m}:=j z a;calc{_,(Zf fp.d (i z a)).mpr ({(r.1,y),JZ.mpr (.inr (zE.mpr ({s0,b}))),s0}),tc.mpr ({y,m,s0})})
 calc zcM.mp e
def Kx(fp:Fp rs us)(n1:JQ rs)(n2:JQ us):JQ (qT rs us):=λd q m=>by
 classical
 let row:∀a,(us.map (·.1)).filter (λb=>decide (lt (jS rs us) (a,b)∈d))≠[]->∃b∈us.map (·.1),lt (jS rs us) (a,b)∈d/\∀y∈js us b,lt (jS rs us) (a,y)∉d:=λa ne=>by
  calc Classical.byContradiction λno=>ne (n2 _ (λz l=>(tV.mp l).1) λb i=>?_);let{j,tb}:=tV.mp i;refine Classical.byContradiction λo=>no ({b,j,of_decide_eq_true tb,λy i ty=>o ({y,i,tV.mpr ({jb fp.b.nd b j y i,decide_eq_true ty})})})
 let e:=n1 ((rs.map (·.1)).filter λa=>decide ((us.map (·.1)).filter (λb=>decide (lt (jS rs us) (a,b)∈d))≠[])) (λz l=>(tV.mp l).1) (λa o=>by
  let{p,l}:=tV.mp o;let{b,j,tb,u}:=row a (of_decide_eq_true l);let o:(a,b)∈jS rs us:=j5.mpr ({p,j});let{y,i,ty}:=m _ tb;let{l,m,rfl}:=(Zf fp.d o).mp i;rcases JZ.mp m with h | h
  ·let{i,m}:=zF.mp h;let m:l.2=b:=m;calc{l.1,i,tV.mpr ({jb fp.a.nd a p _ i,decide_eq_true λz=>?_})};let:b∈(us.map (·.1)).filter (λb=>decide (lt (jS rs us) (l.1,b)∈d)):=tV.mpr ({j,decide_eq_true (m▸ty)});rw[z]at this;cases this
  ·let{i,m}:=zE.mp h;let i:l.1=a:=i;calc absurd ty (by have:=u l.2 m;rw[<-i]at this;calc this))
 cases d with
 | nil=>rfl
 | cons w d=>
  let{r,hr,i}:=tc.mp (q w tK);let{x,o,rfl}:=tc.mp hr;let{j,l}:=j5.mp o;let:x.1∈(rs.map (·.1)).filter λa=>decide ((us.map (·.1)).filter (λb=>decide (lt (jS rs us) (a,b)∈w::d))≠[]):=tV.mpr ⟨j,decide_eq_true λz=>by
   let:x.2∈(us.map (·.1)).filter (λb=>decide (lt (jS rs us) (x.1,b)∈w::d)):=tV.mpr ({l,decide_eq_true (by rw[<-i];calc tK)});rw[z]at this;cases this⟩
  rw[e]at this;cases this
def Y5(a:Bq (js rs) r)(sub:∀z∈r,z∈rs.map (·.1)):¬JQ rs:=λnt=>by
 let:=nt r sub a.trap;calc a.ne this
inductive R8(CG:m9)(vs:List V)(H:Hp)(Q:VK):Prop
 | mk (a b d Pd:m9) (o:Obj) (rs us:qY):vs=[.ref a,.ref b,.ref d,.ref Pd]->qZ CG H a rs->qZ CG H b us->(qZ CG H d (qT rs us))->Fp rs us->H Pd=tH (.frz o (.dT (kO (jS rs us))))->(∀H',qj H H'->Q (.bl true) H')->R8 CG vs H Q
def E4(a:m9):Sp:=λb H Q _=>R8 a b H Q
def Me{rs us:qY}{i:Nat}{k:List qJ}{y:V}(e:(kO (jS rs us))[i]?=tH (k,y)):∃x,x∈jS rs us/\k=kP x/\y=.str (lt (jS rs us) x):=by
 unfold kO Rh.kvs at e;rw[tA]at e;cases ex:(jS rs us)[i]? with
 | none=>rw[ex]at e;cases e
 | some x=>rw[ex]at e;cases e;calc{x,tS ex,s0,s0}
abbrev Mn:List Str:=["_law_one","_law_other","_law_side","_law_pairs"]
abbrev e8:List Str:=["_law_one","_law_other","_law_side","_law_pairs","_law_numbers","_law_first","_law_second","_law_pair"]
def OL:ql e8 Mn (qg NG):=j3
def Iz{P:o3}{w:o4}{K:zen}{mg:Str->Option n9}{base:o1}{f J p u O U fN:m9}{j ak am an ao ap:zer}(F:jJ K "_law_plain_right" "_law_plain_right" NG f j)(B:Qd mg)(G:jp mg)(T:jD K mg)(M:GM K mg J)(Y:Yb K mg)(l:qK K mg "ends_left" CO C5 p ak)(C:qK K mg "settled_next" Fw Ij u am)
  (L:qK K mg "places_to_no_ring" HZ ["ground"] O an) (o:qK K mg "ring_in" LT ["ground"] U ao) (hN:qK K mg "plain_numbers" OV ["ground"] fN ap):qu P w K mg base jh 8 f j Mn (E4 J):=by
 let{_,_,j}:=Y.lack;let p:=pin P w mg base (FQ o.fn B G T M l C L);let u:=pin P w mg base (Pm hN.fn B G T M l C L o j);calc F.okK OL λH Q E hr z=>?_;intro X;let{a,b,d,O,ab,j,l,rfl,L,gb,U,fp,aa,q}:=z;exists _,qb (qG (JW.pt (Jd (Jr (X7 (qw o p (qI (jv 0))))) (Qx (Jr (X7 (qw o p (qI (jv 1)))))))) (qc (qm (vb (X7 (qw o p (qI (jv 2))))))) qt)
  (qb (qB 4 (qw hN u (qI (jv 2))))
  (qb (qB 5 (qw hN u (qI (jv 0))))
  (qb (qB 6 (qw hN u (qI (jv 1))))
  (qb (je (U8 (jv 3)) (qC 7)
   (qc (qG (qp ZD (qE (jv 4) (qE (jv 3) (jv 7))) (jc xt (qE (jv 5) (qF qD (jv 7) (qh))) (qE (jv 6) (qF qD (jv 7) (qh))))) (qc (qm j0)) qt)))
  (qc (qm (vb (AE (qw o p (qI (jv 2)))))))))))
 let l4:j.length<=14:=by have:=fp.la;omega
 let l3:l.length<=14:=by have:=fp.lb;omega
 -- where one of o has a ring
 let ac:∀{u:Hp} {R:VK},qj H u->¬JQ (qT j l)->(∀o,qj u o->R (.bl true) o)->Os J [.ref d] u (λv H'=>R (.bl (!decide (v=.non))) H') E0:=λ{u R} p nn k=>⟨d,qT j l,s0,U.mono p,fp.d,fp.l12,λo v C hv=>by
  rcases hv with ⟨_,nt⟩ | ⟨J,r,rfl,_⟩
  ·exact absurd nt nn
  ·calc k o C⟩
 calc{a,j,s0,L,fp.a,l4,λu v1 p u=>{_,s0,?_}};rcases u with ⟨rfl,n1⟩ | ⟨l1,r1,rfl,_,_,J,aq,_⟩
 rotate_left
 ·exact Qq (Qq (ac p (λnt=>Y5 J aq (xn fp nt)) λo C=>q o (p.trans C)))
 calc jx ({b,l,s0,gb.mono p,fp.b,l3,λo _ C u=>{_,s0,?_}});let o:=p.trans C;rcases u with ⟨rfl,n2⟩ | ⟨J,r2,rfl,_,_,p,C,_⟩
 rotate_left
 ·exact Qq (ac o (λnt=>Y5 p C (xm fp nt)) λu p=>q u (o.trans p))
 let n3:=Kx fp n1 n2;calc jx ({d,qT j l,s0,U.mono o,fp.d,fp.l12,n3,λu D3 _ f3 p _ ar ae af as=>?_});let u:=o.trans p;calc{a,j,s0,L.mono u,fp.a,l4,n1,λ_ L _ f4 s4 _ au ag ah aw=>?_};let o:=u.trans s4;calc{b,l,s0,gb.mono o,fp.b,l3,n2,λH5 D5 _ f5 s5 _ ax ai aj ay=>?_};let u:=o.trans s5;let{R,aR}:=J0 j;let{S,aS}:=J0 l;let{_,aU}:=J0 (qT j l);let num:∀{p:qY} {C:Rs Str} {o:List Str} {g:Str->Nat} {z:Str},qe p->Q3 p C->Vy p o->(∀z∈p.map (·.1),z∈o)->(∀z∈o,MLab.Lst g (js p z) (g z))->z∈p.map (·.1)->qO C z=tH (g z):=λ{p C o g z} J av st al ls hz=>by
  let{i,p}:=zan (al z hz);exact K0 (WX J av) st.st st.sub ls i z p
 refine{O,ab,.dT (kO (jS j l)),s0,u _ _ aa,True.intro,yy (λ_ J X=>∃v7,J=[tH (.ref a),tH (.ref b),tH (.ref d),tH (.ref O),tH (.ref D3),tH (.ref L),tH (.ref D5),v7]/\qj H5 X) ({_,s0,qj.refl _}) (λi J X _ ⟨_,_,p⟩=>p _ _ (u _ _ aa)) ?_ ?_}
 ·rintro i x y J X _ ⟨k,bb,ek,rfl,C⟩ ⟨v7,rfl,p⟩;let{x,L,rfl,rfl}:=Me ek;let C:=C;let{mx,my}:=j5.mp L;let mP:=ZC L;let{n,m,en,em,az}:=(yb fp.a fp.b fp.c fp.dj fp.d aR aS aU L).mp (num fp.d aU ae af as mP);rw[num fp.a aR ag ah aw mx]at en;rw[num fp.b aS ai aj ay my]at em;cases en;cases em;let gk:∀{D:m9} {g:Str->Nat} {o:List Str} {z:Str},H5 D=tH (.dK (Mf g o))->o.Nodup->z∈o->jk X D (.str z) (tH (.int (g z:Nat))):=λ{D g o z} h nd hz=>by
   rw[<-uD nd hz];exact jk.k (k:=(Sum.inr z:qJ)) (p _ _ h)
  let o:jk X O (.ref bb) (tH (.str (lt (jS j l) x))):=by
   rw[<-zp (g:=λx=>V.str (lt (jS j l) x)) L];exact .inr ({_,kP x,bb,.inr ({ab,p _ _ (u _ _ aa)}),s0,C,s0})
  calc{_,o,_,gk ((s4.trans s5) _ _ ar) ae.nd (af _ mP),{_,_,.of C,s0,_,gk (s5 _ _ au) ag.nd (ah _ mx),_,_,.of C,s0,_,gk ax ai.nd (aj _ my),_,_,s0,s0,{s0,_,s0,qU ?_ ({_,s0,p})}}};show (!decide (V.int (f3 (lt (jS j l) x):Nat)=V.int (Builtin.bitXor (f4 x.1:Nat) (f5 x.2:Nat))))=false;rw[bx,az,decide_eq_true rfl];rfl
 ·rintro J X ⟨v7,rfl,p⟩;calc{d,qT j l,s0,U.mono (u.trans p),fp.d,fp.l12,λ_ v6 j l=>?_};rcases l with ⟨rfl,_⟩ | ⟨J,L,rfl,_,_,o,C,_⟩
  ·exact q _ ((u.trans p).trans j)
  ·exact absurd n3 (Y5 o C)
def Go(g:qe rs)(a:qe us)(l:rs.length<=4)(b:us.length<=4)(d:∀z∈us.map (·.1),z∉rs.map (·.1)):XI rs us=r4:=by
 unfold XI;rw[zcU.mpr λz i=>by simpa using d z i];let:=Zk g l;let:=Zk a b;show (if 14 < rs.length+us.length then _ else _)=r4;rw[if_neg {},if_neg {}]
def NT(H H':Hp):Prop:=∀b a,H b=tH a->(∀k,a≠.dT k)->H' b=tH a
def qZ.nt(h:qZ b H a rs)(k:NT H H'):qZ b H' a rs:=by
 let{b,lo,d,kvs,i,j,l,m}:=h;calc{b,lo,d,kvs,k _ _ i (λ_ z=>nomatch z),k _ _ j (λ_ z=>nomatch z),k _ _ l (λ_ z=>nomatch z),λr hr=>let ⟨q,b,d⟩:=m r hr;({q,b,k _ _ d (λ_ z=>nomatch z)})}
inductive Nj(K:zen)(vs:List V)(H:Hp)(Q:VK):Prop
 | mk (a:m9) (ns:List Int):vs=[.ref a]->(JX K H a (ns.map V.int))->(ns.length<=63)->(∀H',Q (.bl true) H')->Nj K vs H Q
def wX(K:zen):Sp:=λa H Q _=>Nj K a H Q
abbrev fe:List Str:=["_law_script","_law_rows_here","_law_others","_law_one","_law_other","_law_both","_law_many","_law_told","_law_side","_law_pairs","_law_pair"]
def OR:ql fe ["_law_script"] (qg Vu):=j3
def Do{P:o3}{w:o4}{K:zen}{mg:Str->Option n9}{base:o1}{f j l o q D J L O fT U fN aj ak p CW CM:m9}{fd al am an ao ap aq ar as au av aw ax ay:zer}(F:jJ K "law" "law" Vu f fd)(B:Qd mg)(G:jp mg)(T:jD K mg)(Z:Wk K mg)(C:EF K mg p D ap)(GI:qu P w K mg base jh 6 D ap ["self","rows"] (XU p))(kti:zak K (.type "tuple") (.type "int")=tH false)
  (hO:qK K mg "_law_cell_at" kJ ["_law_script","_law_k"] j al) (GO:qu P w K mg base jh 1 j al ["_law_script","_law_k"] (Nr K)) (Y:qK K mg "_law_source" Yj ["_law_cell"] l am) (GL:qu P w K mg base jh 1 l am ["_law_cell"] vN)
  (hR:qK K mg "_law_rows" ku ["_law_source_here","_law_most"] o an) (GR:qu P w K mg base jh 3 o an ["_law_source_here","_law_most"] R5) (aP:qK K mg "_law_apart" WD Pg q ao) (aQ:qu P w K mg base jh 1 q ao Pg OE)
  (aR:qK K mg "read_ground" kv ["text"] J aq) (aS:qu P w K mg base jh 8 J aq ["text"] (R7 p)) (aT:qK K mg "show_ground" kt ["ground"] L ar) (aU:qu P w K mg base jh 2 L ar ["ground"] (EY p))
  (hJ:qK K mg "joined" kz uH O as) (GJ:qu P w K mg base (Z6 P w) 8 O as uH (OA p CW CM)) (hT:qK K mg "_law_twice_right" ND ["_law_ground"] fT au) (GT:qu P w K mg base jh 11 fT au ["_law_ground"] (EW p))
  (hP:qK K mg "_law_paired" NK ["_law_one","_law_other"] U av) (GP:qu P w K mg base jh 9 U av ["_law_one","_law_other"] (Fe p)) (hN:qK K mg "_law_as_made_anew" NI ["_law_ground"] fN aw) (GN:qu P w K mg base jh 9 fN aw ["_law_ground"] (Fa p))
  (aV:qK K mg "_law_pair_right" NH Pe aj ax) (aW:qu P w K mg base jh 13 aj ax Pe (Ot p)) (aX:qK K mg "_law_plain_right" NG Mn ak ay) (aY:qu P w K mg base jh 8 ak ay Mn (E4 p)):
  qu P w K mg base jh 14 f fd ["_law_script"] (wX K):=by
 calc F.okK OR λH Q E hr z=>?_;intro X;let{a,l,rfl,D,_,k}:=z;let j:jK 7 _:=hr.mono {};refine⟨_,qb (qB 1 (qw hR GR (jV (qw Y GL (qI (qw hO GO (jV (jv 0) qh)))) qh)))
  (qb (qB 2 (qw aP aQ (jV (jv 1) (qw hR GR (jV (qw Y GL (qI (qw hO GO (jV (jv 0) qh)))) qh)))))
  (qb (qG (Jr (AE (jv 2))) (qc (qm j0)) qt)
  (qb (qB 3 (qw aR aS (qI (qw aT aU (qI (QL C.mkr GI j {} C.ns C.bi .nil QP (qI (jr Qs {} G.lst boot_list (qI (jv 1))))))))))
  (qb (qB 4 (QL C.mkr GI j {} C.ns C.bi .nil QP (qI (jr Qs {} G.lst boot_list (qI (jv 2))))))
  (qb (qB 5 (u0 hJ GJ Pb (jV (jv 3) (jv 4))))
  (qb (qG (jX (jj (qw hT GT (qI (jv 5))))) (qc (qm j0)) qt)
  (qb (qB 6 (jc Zq (qr qy {} B.len boot_len (qI (jv 1))) (qr qy {} B.len boot_len (qI (jv 2)))))
  (qb (qB 7 (qw hP GP (jV (jv 3) (jv 4))))
  (qb (qG (JW.pt (Jd (qp JU (jv 6) qh) (Qx (jj (qr jM {} T.isi boot_isinstance (jV (jv 7) (QM (v:=.ty "int") {} B.int boot_int rfl))))))) (qc (qm (QI (vb (X7 (jv 7))) (Jt (jf jU (jf JU (jv 6) qh) (jf jU (jv 7) (jv 6))))))) qt)
  (qb (U6 (jv 7) (Jf rfl (qM (qC 8) (qM (qC 9) Qp))))
  (qb (qG (jX (jj (qw hN GN (qI (jv 8))))) (qc (qm j0)) qt)
  (qb (D1 (je (U8 (jv 9)) (qC 10)
   (qc (qG (jX (jj (qw aV aW (Vo (QH (P4 (jv 3) (jv 4) (jv 5) (jv 8))) (jv 10) (qE (jv 9) (jv 10)))))) (qc (qm j0)) qt))))
  (qc (qm (QI (jf jU (qr x9 {} B.len boot_len (qI (jv 9))) (jv 6)) (Jt (qw aX aY (P4 (jv 3) (jv 4) (jv 8) (jv 9))))))))))))))))))),?_⟩
 -- az rows
 calc{a,l,0,s0,D,{},λc=>{c,s0,λd n j hd=>{d,4,n,j,0,s0,qa,{},{},λaa J q n2 _ j _ L gg good pos le _ O=>?_}}};let U:qj H j:=λb u o=>O b u (qk o hd) (qo o hd);let g2:QU j aa J q:={L,gg,good,pos,{}};calc{a,l,1,s0,U.seq D,{},λl=>{l,s0,λD L O l=>{D,3,L,O,0,s0,qa,{},{},λD O aZ n3 _ H3 _ a0 a1 a2 a3 U _ a4=>?_}}};let L:qj j H3:=λb u o=>a4 b u (qk o l) (qo o l);calc{aa,D,J,O,q,aZ,s0,g2.mono L,{a0,a1,a2,a3,{}},le,U,λl _=>{_,s0,Qq (k _)},λl m O j s4 D _ dj=>{_,s0,jx ?_}};let g4:=(g2.mono L).mono s4;let U:j.length<=3:={}
 -- az first ground,shown and read
 calc{aa,_,s0,.inl (.of g4.at_),λL a5 x _ hx aA a6=>?_};let sA:=qd (o:=HO.lst (J.map V.ref)) a5;let hA:upd l L (.lst (J.map V.ref)) L=tH (.lst (J.map V.ref)):=qa;generalize upd l L (.lst (J.map V.ref))=HA at sA hA hx aA;calc Q0 hA (g4.rows.mono sA) good pos {} hx aA a6 λ_ l L=>?_;let tl:(jT q).length=q.length:=ta ..;calc{x,q,s0,L,good,{},λ_ L=>{jT q,s0,Zz good,{},{},λH7 one s7 gone=>?_}};let aB:=((sA.trans l).trans L).trans s7;let ag:∀z∈j.map (·.1),z∉(jT q).map (·.1):=by rw[jR];exact dj
 let ab:=Zz good;let ah:=D.mono aB;generalize jT q=l at gone tl ag ab
 -- az L one
 calc{m,_,s0,.inl (.of ah.at_),λL a7 y _ hy aC a8=>?_};let sB:=qd (o:=HO.lst (O.map V.ref)) a7;let hB:upd H7 L (.lst (O.map V.ref)) L=tH (.lst (O.map V.ref)):=qa;generalize upd H7 L (.lst (O.map V.ref))=HB at sB hB hy aC;calc Q0 hB (ah.rows.mono sB) D.good D.pos {} hy aC a8 λ_ s8 L=>?_;let ai:=sB.trans s8;let aD:=gone.mono ai
 -- xH
 refine{one,y,l,j,s0,aD,L,ab,D.good,{},{},{},λb v e=>?_,λ_ _ gE s9 aE a9=>?_}
 ·rw[Go ab D.good {} {} ag]at e;cases e
 let aF:=aD.mono s9;let aG:=L.mono s9;calc{gE,jn l j,s0,aE,a9,by rw[U7];omega,by rw[U7];omega,λa' L=>{_,s0,jx ?_}};let ml:l.length*j.length<=4*3:=zbJ {} U;let bh:((q.length:Nat):Int)*((j.length:Nat):Int)=((l.length*j.length:Nat):Int):=by rw[tl,Int.natCast_mul]
 let bc:(J.map V.ref).length=q.length:=by rw[ta];exact g4.rows.1
 let bd:(O.map V.ref).length=j.length:=by rw[ta];exact D.rows.1
 exists aa,_,s0,.inl (.of ((((g4.mono aB).mono ai).mono s9).mono L).at_),m,_,s0,.inl (.of (((ah.mono ai).mono s9).mono L).at_),_,_,s0,s0,?_
 ·calc .inl ({?_,?_})<;>omega
 try dsimp only
 generalize q:(((J.map V.ref).length:Nat):Int)*(((O.map V.ref).length:Nat):Int)=O;let be:O=((l.length*j.length:Nat):Int):=by rw[<-q,bc,bd,tl,Int.natCast_mul]
 clear q
 -- q
 refine{one,y,l,j,s0,aF.mono L,aG.mono L,ab,D.good,{},D.pos,{},U,λaH nn _ _=>?_,λaH J q tp bf aI aJ PL aK aL=>?_}
 ·let n1:decide ((14:Int) < O)=false:=decide_eq_false {};let n2:decide (V.int (nn:Nat)=V.int O)=false:=decide_eq_false λe=>by have:=V.int.inj e;omega
  calc{_,_,s0,s0,_,s0,qU n1 ({_,_,_,_,s0,s0,.int _,Z.kii,_,s0,Qq ({_,s0,Qq ({_,_,s0,s0,s0,s0,?_})})})};show Q (.bl (decide (V.bl (decide ((14:Int) < O))=V.bl (decide (V.int (nn:Nat)=V.int O))))) aH;rw[n1,n2];exact k _
 calc{_,_,s0,s0,_,s0,qU (decide_eq_false {}) ({_,_,_,_,s0,s0,.tup aL,kti,_,s0,jx ?_})};let fp:Fp l j:={ab,D.good,aJ,ag,{},U,{},D.pos};exists tp,_,s0,.of aL,s0,rfl;let U:(qT l j).length=l.length*j.length:=by unfold qT;rw[ta,Bn]
 let U:0 < l.length*j.length:=Nat.mul_pos {} D.pos;calc{J,qT l j,s0,aI,aJ,{},{},λac ae=>{_,s0,jx ({q,_,ae _ _ aK,λD=>?_})}};let af:qj a' (upd ac q (.frz D (.dT (kO (jS l j))))):=qj.upd (bf.trans ae) PL;let U:upd ac q (.frz D (.dT (kO (jS l j)))) q=tH (.frz D (.dT (kO (jS l j)))):=qa;let aM:qZ p (upd ac q (.frz D (.dT (kO (jS l j))))) J (qT l j):=(aI.mono ae).nt λb u o nb=>by
  rw[qf (λz=>by rw[z,ae _ _ aK]at o;calc nb _ (tH.inj o).symm)];exact o
 generalize upd ac q (.frz D (.dT (kO (jS l j))))=aN at af U aM;let fo:Fo p aN one y gE J l j:={(aF.mono L).mono af,(aG.mono L).mono af,(aE.mono L).mono af,aM};refine{q,D,.dT (kO (jS l j)),s0,U,True.intro,yy (a:=q) (o:=D) (u:=.dT (kO (jS l j))) (λ_ σ X=>∃gW,σ=[tH (.ref a),tH (.ref aa),tH (.ref m),tH (.ref one),tH (.ref y),tH (.ref gE),tH (.int O),tH (.ref tp),tH (.ref J),tH (.ref q),gW]/\qj aN X) ({_,s0,qj.refl _}) (λi σ X _ ⟨_,_,p⟩=>p _ _ U) ?_ ?_}
 ·rintro i x _ σ X _ ⟨_,bb,L,rfl,o⟩ ⟨gW,rfl,p⟩;let{x,hx,rfl,rfl}:=Me L;let o:X bb=tH (.tup [.str x.1,.str x.2]):=o;calc{J7,λlg bg=>?_};let L:=qd (o:=HO.lst [.ref one,.ref y,.ref gE,.ref J]) bg;let Y:upd X lg (.lst [.ref one,.ref y,.ref gE,.ref J]) lg=tH (.lst [.ref one,.ref y,.ref gE,.ref J]):=qa;generalize upd X lg (.lst [.ref one,.ref y,.ref gE,.ref J])=X1 at L Y;let aO:=L _ _ o;let o:jk X1 q (.ref bb) (tH (.str (lt (jS l j) x))):=by
   rw[<-zp (g:=λx=>V.str (lt (jS l j) x)) hx];exact .inr ({_,kP x,bb,.inr ({D,L _ _ (p _ _ U)}),s0,aO,s0})
  exact{_,o,lg,bb,one,y,gE,J,l,j,x,s0,Y,aO,fo.mono (p.trans L),fp,hx,λY o=>{_,s0,jx ({_,s0,(p.trans L).trans o})}}
 ·rintro σ X ⟨gW,rfl,p⟩;let o:=fo.mono p;let L:(kO (jS l j)).length=l.length*j.length:=by unfold kO Rh.kvs;rw[ta,Bn]
  exists q,_,s0,.inr ({D,p _ _ U}),s0,_,rfl;let e1:decide (V.int ((kO (jS l j)).length:Nat)=V.int O)=true:=decide_eq_true (by rw[be,L]);rw[e1];exact Qq ({one,y,J,q,D,l,j,s0,o.ga,o.gb,o.gd,fp,p _ _ U,λY _=>k _})
/-- defs of the program -/
structure f6(K:zen)(mg:Str->Option n9):Prop where
 jo:∃f fd,qK K mg "joined" kz uH f fd
 ps:∃f fd,qK K mg "pairs_of" KM uH f fd
 pb:∃f fd,qK K mg "pairs_behind" KN Pf f fd
 pd:∃f fd,qK K mg "paired" kw uH f fd
 wo:∃f fd,qK K mg "worth_of" NC ["ground","name"] f fd
 el:∃f fd,qK K mg "ends_left" CO C5 f fd
 sn:∃f fd,qK K mg "settled_next" Fw Ij f fd
 pr:∃f fd,qK K mg "places_to_no_ring" HZ ["ground"] f fd
 ri:∃f fd,qK K mg "ring_in" LT ["ground"] f fd
 pn:∃f fd,qK K mg "plain_numbers" OV ["ground"] f fd
 si:∃f fd,qK K mg "settled_in" YX Pc f fd
 sp:∃f fd,qK K mg "settled_places" Wt ["ground"] f fd
 tb:∃f fd,qK K mg "table_of" Wq ["ground"] f fd
 sr:∃f fd,qK K mg "show_row" zb ["row"] f fd
 sg:∃f fd,qK K mg "show_ground" kt ["ground"] f fd
 il:∃f fd,qK K mg "is_line" Ym ["line"] f fd
 ro:∃f fd,qK K mg "row_of" Wu ["line"] f fd
 rg:∃f fd,qK K mg "read_ground" kv ["text"] f fd
/-- defs of the law -/
structure f0(K:zen)(mg:Str->Option n9):Prop where
 cell:∃f fd,qK K mg "_law_cell_at" kJ ["_law_script","_law_k"] f fd
 source:∃f fd,qK K mg "_law_source" Yj ["_law_cell"] f fd
 take:∃f fd,qK K mg "_law_take" Wp ["_law_source_here","_law_many"] f fd
 names:∃f fd,qK K mg "_law_names" Wx ["_law_source_here","_law_many"] f fd
 leads:∃f fd,qK K mg "_law_leads" Wz UO f fd
 rows:∃f fd,qK K mg "_law_rows" ku ["_law_source_here","_law_most"] f fd
 apart:∃f fd,qK K mg "_law_apart" WD Pg f fd
 bm:∃f fd,qK K mg "_law_by_moves" OX SC f fd
 lpd:∃f fd,qK K mg "_law_paired" NK ["_law_one","_law_other"] f fd
 pq:∃f fd,qK K mg "_law_pair_right" NH Pe f fd
 plr:∃f fd,qK K mg "_law_plain_right" NG Mn f fd
 twi:∃f fd,qK K mg "_law_twice_right" ND ["_law_ground"] f fd
def ID{P:o3}{w:o4}{K:zen}{mg:Str->Option n9}{base:o1}{f m D v p:m9}{q:zer}(F:jJ K "law" "law" Vu f q)(h:WF K mg)(B:Qd mg)(i:Wk K mg)(G:jp mg)(T:jD K mg)(N:Xr K mg)(M:GM K mg m)(Y:Yb K mg)(O:XM K mg)(V1:Bt K mg)(d:G9 K mg)(j:EC K mg m)(b:f6 K mg)(L:f0 K mg)(u:SK K mg D v p)(W1:LN K mg D p)
  (aa:∃t,mg "PAIR_NAMES"=tH (.str Id t)) (kti:zak K (.type "tuple") (.type "int")=tH false) (Dr:∃a,mg "DRAWN"=tH (.ref a)/\∃(o:Obj) (l:Array n9) (n:Nat),K.lookup a=tH o/\o.cls=.type "tuple"/\o.data=.seq l n/\l.size<=zes/\qN (Vb r4) l.toList):qu P w K mg base jh 14 f q ["_law_script"] (wX K):=by
 let{_,_,p}:=L.cell;let{_,_,q}:=L.source;let{fT,_,hT}:=L.take;let{_,_,hN}:=L.names;let{_,_,hD}:=L.leads;let{_,_,v}:=L.rows;let{f1,_,x}:=L.apart;let{f2,_,h2}:=L.bm;let{_,_,y}:=L.lpd;let{_,_,z}:=L.pq;let{_,_,C}:=L.plr;let{_,_,H}:=L.twi;let{g1,_,J}:=b.jo;let{g2,_,k2}:=b.ps;let{g3,_,k3}:=b.pb;let{_,_,k4}:=b.pd;let{_,_,k5}:=b.wo;let{_,_,k6}:=b.el;let{_,_,k7}:=b.sn;let{_,_,k8}:=b.pr;let{_,_,k9}:=b.ri;let{_,_,kA}:=b.pn;let{_,_,kB}:=b.si;let{_,_,kC}:=b.sp;let{_,_,kD}:=b.tb;let{_,_,kE}:=b.sr;let{_,_,Q}:=b.sg;let{_,_,U}:=b.il;let{_,_,kH}:=b.ro;let{_,_,kI}:=b.rg;let{_,_,l}:=d.need;let{_,_,y1}:=j.new;let{_,_,m}:=j.rows;let{n1,nd1,ab}:=N.nm;let{_,_,b}:=M.cls;let GI:=pin P w mg base (zh b B G T N l);exact Do F B G T i b GI kti p (Dx p.fn B) q (K6 q.fn B) v (Df v.fn B G hT hN hD) x (Pu x.fn B G T)
  kI (Dg kI.fn T b GI U (K8 U.fn B T ab) kH (Mz kH.fn G)) Q (Iy Q.fn b G m kE) J (Pp J.fn B G T N M l m u) H (Iw H.fn h B i G T N M Y O d j)
  y (IC y.fn B G T N M l u W1 k2 k3 aa k4) y1 (MH y1.fn B G T N M Y d m) z (Pl z.fn h B i G T N M Y O d V1 k5 h2 kD (Mu kD.fn B G T M Dr kB kC)) C (Iz C.fn B G T M Y k6 k7 k8 k9 kA)
def kss:zak K (.type "str") (.type "str")=tH true:=by kernel_rfl
def ktt:zak K (.type "tuple") (.type "tuple")=tH true:=by kernel_rfl
def kll:zak K (.type "list") (.type "list")=tH true:=by kernel_rfl
def kii:zak K (.type "int") (.type "int")=tH true:=by kernel_rfl
def kib:zak K (.type "int") (.type "bool")=tH false:=by kernel_rfl
def kti:zak K (.type "tuple") (.type "int")=tH false:=by kernel_rfl
def kdd:zak K (.type "dict") (.type "dict")=tH true:=by kernel_rfl
/-- a def as the head tells it -/
def MF(K:zen)(n q:Str)(s:o0)(f:m9):Prop:=∃a,jJ K n q s f a
def MF.mk'{K:zen}{x a:Str}{st:o0}{f:m9}{d:n9}{i j:Option m9}{m:Array (Option n9)}{kV o pm b ct:n9}(l:K.lookup f=tH ({d,i,.func (zbk x a (JB st) (Qr st) (qg st) .none kV o pm j b ct),m}))(c:zbI K b a=true)(k:zaM K (.ref f)=true):MF K x a st f:={_,Xi l c k}
def HF(K:zen)(n:Str)(s:o0)(f:m9):Prop:=zac K mainGlobals n=tH (tH (.ref f))/\MF K n n s f
def HF.mk'{K:zen}{x:Str}{st:o0}{f:m9}{d:n9}{i j:Option m9}{m:Array (Option n9)}{kV o pm b ct:n9}(a:zac K mainGlobals x=tH (tH (.ref f)))(l:K.lookup f=tH ({d,i,.func (zbk x x (JB st) (Qr st) (qg st) .none kV o pm j b ct),m}))(c:zbI K b x=true)(k:zaM K (.ref f)=true):HF K x st f:={a,_,Xi l c k}
def HF.has(l:HF K n s f)(X:K.In h)(G:h.Ns mainGlobals mg)(b:∀{d},jJ K n n s f d->Qj K d ps []:=by exact λF=>F.binds λ_ _ _ _ _ _ us i=>by first | (let{_,rfl}:=I0 i;rfl) | (let{_,_,rfl}:=yl i;rfl) | (let{_,_,_,rfl}:=IZ i;rfl) | (let{_,_,_,_,rfl}:=PX i;rfl) | (let{_,_,_,_,_,rfl}:=len5 i;rfl)):∃d,qK K mg n s ps f d:=let ⟨a,d,F⟩:=l;({d,F,zaQ X G a,b F})
def QF(K:zen)(C:m9)(n q:Str)(s:o0)(f:m9):Prop:=(t9 K (.ref C) n=tH (tH (.ref f))/\zbB K (.ref f)=true)/\MF K n q s f
def QF.mk'{K:zen}{C:m9}{x d:Str}{st:o0}{f:m9}{j:n9}{m o:Option m9}{p:Array (Option n9)}{kV q pm i ct:n9}(a:t9 K (.ref C) x=tH (tH (.ref f)))(b:zbB K (.ref f)=true)(l:K.lookup f=tH ({j,m,.func (zbk x d (JB st) (Qr st) (qg st) .none kV q pm o i ct),p}))(c:zbI K i d=true)(k:zaM K (.ref f)=true):QF K C x d st f:={{a,b},_,Xi l c k}
def QF.has(l:QF K C n q s f)(b:∀{d},jJ K n q s f d->Qj K d ps []:=by exact λF=>F.binds λ_ _ _ _ _ _ us i=>by first | (let{_,rfl}:=I0 i;rfl) | (let{_,_,rfl}:=yl i;rfl) | (let{_,_,_,rfl}:=IZ i;rfl) | (let{_,_,_,_,rfl}:=PX i;rfl) | (let{_,_,_,_,_,rfl}:=len5 i;rfl)):∃d,yN K C n q s ps f d:=let ⟨⟨a,c⟩,d,F⟩:=l;({d,F,{a,c,F.kp},b F})
def Oi(a:Array DictEntry):Bool:=a.all λe=>match e.key with | .str _ _=>true | _=>false
def BW(h:Oi a=true):StrKeys a:=by
 intro e a;let q:=Array.all_eq_true'.mp h e a;revert q;cases a:e.key<;>intro q<;>first | calc{_,_,s0} | (dsimp only at q;cases q)
def XF(K:zen)(D:m9)(x b gx:Str)(st:o0)(C f:m9):Prop:=∀{h:o1} {d:Str->Option n9},K.In h->h.Ns mainGlobals d->(∀h:o1,K.In h->OwnTail h Zn (.ref D::Zn))->(∀{a},jJ K "__init__" b st f a->Qj K a ["self",gx] [])->∃a,Ri K d D x b st gx C f a
def XF.mk'{K:zen}{D:m9}{C:m9}{f:m9}{x:Str}{a:Str}{gx:Str}{st:o0}{nm q:Str}{N:m9}{bs:List n9}{d:Bool}{i:List Str}{sub:List n9}{j:Bool}{m:Option Bool}{o:Option m9}{p u v y z:Option n9}{J:n9}{L O:Option m9}{Q:Array (Option n9)}{kV T pm B ct:n9}
  (U:zac K mainGlobals x=tH (tH (.ref C)))
  (H:K.lookup C=tH (excClassObj nm q C N bs (.ref D::Zn) d i sub j m o p u v y z "ValueError.__new__"))
  (Y:t9 K (.ref C) "__init__"=tH (tH (.ref f))) (a4:zbB K (.ref f)=true) (l:K.lookup f=tH ({J,L,.func (zbk "__init__" a (JB st) (Qr st) (qg st) .none kV T pm O B ct),Q})) (c:zbI K B a=true) (k:zaM K (.ref f)=true) (a5:zaM K (.ref C)=true)
  (a6:t9 K (.ref C) "__getattribute__"=tH (tH (.builtin "BaseException.__getattribute__"))) (a7:t9 K (.ref C) "__getattr__"=tH r4)
  (a8:t9 K (.ref C) "__setattr__"=tH (tH (.builtin "object.__setattr__"))) (a9:zbw K C=true)
  (aa:zcn K C (.type "BaseException")=tH true) (ac:zcn K C (.type "object")=tH true)
  (ae:t9 K (.ref C) "__class__"=tH (tH (.builtin "object.__class__"))) (af:t9 K (.ref C) gx=tH r4):XF K D x a gx st C f:=λX G a b=>
 {_,{a6,a7,a8,a9,{_,by unfold PySem.W.clsIn;rw[H],s0},aa,ac,ae},{{nm,q,N,bs,d,i,sub,j,m,o,p,u,v,y,z,H},a,Y,a4,a5},zaQ X G U,af,Xi l c k,b (Xi l c k)}
def all_mk{l:PySem.W.OpenLaw}{w:o4}{K:zen}{h:o1}{mg:Str->Option n9}{x:m9}(X:K.In h)(G:h.Ns mainGlobals mg)(ap:mg "law"=tH (.ref x))
  {fO fL fT fN fD fR aq ar as au av aw ax ay az y aA aB aC aD aE aF z B C H J aG aH aI aJ aK aL aM aN aO aP aQ aR aS aT aU aV aW aX aY aZ a0 a1 a2 a3 a4 a5 a6 a7 a8 a9 a' bb bc bd be bf bg bh bi bj bl bm bn bp bq br bt bu bv bw bz bA bB o bC bD bE i L O Q T j U Y aa ab bF bG m bH:m9}
  {p:m9} {bI ac:Option m9} {bJ:Array (Option n9)} {bK ae af ag q ah:n9}
  {b:m9}
  {a:m9}
  {CE:m9}
  {bL:Tok}
  {bM:Tok}
  {bN:Tok}
  {bO:Tok}
  {bP:Tok}
  {bQ:Tok}
  {bR:Tok}
  {bS:Tok}
  {D:m9} {bT bU:Str} {ai:m9} {bV bW:List n9} {bX bY:Bool} {bZ:List Str} {b0:Option Bool} {b1:Option m9} {b2 b3 b4 b5 b6:Option n9} {b7:n9} {b8:Option m9} {d:Array DictEntry} {ep:Nat} {b9:Array (Option n9)}
  {u:m9} {b':Option m9} {ca:Nat} {t5:Tok} {cb:Array (Option n9)}
  (lO:HF K "_law_cell_at" kJ fO)
  (lL:HF K "_law_source" Yj fL)
  (lT:HF K "_law_take" Wp fT)
  (lN:HF K "_law_names" Wx fN)
  (lD:HF K "_law_leads" Wz fD)
  (lR:HF K "_law_rows" ku fR)
  (aj:HF K "is_name" ze aq)
  (cc:HF K "is_tuple_of_names" Wo ar)
  (cd:HF K "is_row" YZ as)
  (ce:HF K "need_form" VS au)
  (cf:HF K "need_own_names" CI av)
  (cg:HF K "need_ends" ur aw)
  (ch:HF K "need_few_roads" NO ax)
  (ci:HF K "need_rows" zd ay)
  (cj:HF K "lacking" Qt az)
  (ak:HF K "set_of" zW y)
  (ck:HF K "numbers_behind" Fx aA)
  (cl:HF K "gets_number" WC aB)
  (cm:HF K "round_of" YY aC)
  (cn:HF K "give_number" kF aD)
  (co:HF K "give_numbers" UE aE)
  (cp:HF K "labels_of" XX aF)
  (cq:HF K "is_whole" za z)
  (cr:HF K "is_number" Yk B)
  (cs:HF K "is_set" WA C)
  (ct:HF K "set_turned" XW H)
  (al:HF K "numbers_in" Zp J)
  (cu:HF K "sum_of" Wr aG)
  (cv:HF K "need_place" zX aH)
  (cw:HF K "need_heap" Wy aI)
  (cx:HF K "label_worth" LU aJ)
  (cy:HF K "worth_by" CH aK)
  (cz:HF K "heap_worth" Sz aL)
  (cA:HF K "outcome" uk aM)
  (cB:HF K "moves_of" Yl aN)
  (cC:HF K "left_by" uo aO)
  (cD:HF K "outcome_by" CK aP)
  (cE:HF K "outcomes_by" ul aQ)
  (cF:HF K "outcomes_after" CL aR)
  (cG:HF K "worths_told" UA aS)
  (cH:HF K "first_places" SA aT)
  (cI:HF K "least_row" uq aU)
  (cJ:HF K "least_ground" Sy aV)
  (cK:HF K "alike" UJ aW)
  (cL:HF K "_law_as_made_anew" NI aX)
  (cM:HF K "is_dict_of_places" NL aY)
  (cN:HF K "is_label" WB aZ)
  (cO:HF K "is_ahead" Y0 a0)
  (cP:HF K "road_fits" Wv a1)
  (cQ:HF K "told_numbers_behind" KL a2)
  (cR:HF K "numbered_fits" kx a3)
  (cS:HF K "is_open_to" zA a4)
  (cT:HF K "open_roads" Ww a5)
  (cU:HF K "endless_fits" kG a6)
  (cV:HF K "label_fits" ky a7)
  (cW:HF K "shows" Ws a8)
  (cX:HF K "joined" kz a9)
  (cY:HF K "pairs_of" KM a')
  (cZ:HF K "pairs_behind" KN bb)
  (c0:HF K "paired" kw bc)
  (c1:HF K "worth_of" NC bd)
  (c2:HF K "ends_left" CO be)
  (c3:HF K "settled_next" Fw bf)
  (c4:HF K "places_to_no_ring" HZ bg)
  (c5:HF K "ring_in" LT bh)
  (c6:HF K "plain_numbers" OV bi)
  (c7:HF K "settled_in" YX bj)
  (c8:HF K "settled_places" Wt bl)
  (c9:HF K "table_of" Wq bm)
  (c':HF K "show_row" zb bn)
  (da:HF K "show_ground" kt bp)
  (db:HF K "is_line" Ym bq)
  (dc:HF K "row_of" Wu br)
  (dd:HF K "read_ground" kv bt)
  (de:HF K "_law_apart" WD bu)
  (df:HF K "_law_by_moves" OX bv)
  (dg:HF K "_law_paired" NK bw)
  (dh:HF K "_law_pair_right" NH bz)
  (di:HF K "_law_plain_right" NG bA)
  (dj:HF K "_law_twice_right" ND bB)
  (dk:zac K mainGlobals "law"=tH (tH (.ref p)))
  (dm:K.lookup p=tH ({bK,bI,.func (zbk "law" "law" (JB Vu) (Qr Vu) (qg Vu) .none ae af ag ac q ah),bJ}))
  (dn:zbI K q "law"=true)
  (dp:zaM K (.ref p)=true)
  (dq:zac K mainGlobals "Ground"=tH (tH (.ref b)))
  (dr:zbG K b Str.empty=true)
  (ds:zbw K b=true)
  (dt:zcb K b=true)
  (du:t9 K (.ref b) "__setattr__"=tH (tH (.builtin "object.__setattr__")))
  (dv:zcp K b=true)
  (dw:t9 K (.ref b) "__init__"=tH (tH (.ref o)))
  (dx:zbB K (.ref o)=true)
  (dy:zaM K (.ref b)=true)
  (dz:t9 K (.ref b) "order"=tH r4)
  (dA:t9 K (.ref b) "roads"=tH r4)
  (dB:MF K "__init__" "Ground.__init__" xi o)
  (dC:QF K b "names" "Ground.names" XY bC)
  (dD:QF K b "roads_from" "Ground.roads_from" UF bD)
  (dF:QF K b "rows" "Ground.rows" zY bE)
  (dG:zac K mainGlobals "Numbered"=tH (tH (.ref a)))
  (dH:zbG K a Str.empty=true)
  (dI:zbw K a=true)
  (dJ:zcb K a=true)
  (dK:t9 K (.ref a) "__setattr__"=tH (tH (.builtin "object.__setattr__")))
  (dM:zcp K a=true)
  (dN:t9 K (.ref a) "__init__"=tH (tH (.ref i)))
  (dO:zbB K (.ref i)=true)
  (dQ:zaM K (.ref a)=true)
  (dR:t9 K (.ref a) "number"=tH r4)
  (dS:MF K "__init__" "Numbered.__init__" UD i)
  (dT:t9 K (.ref a) "__class__"=tH (tH (.builtin "object.__class__")))
  (dU:zcn K a (.type "object")=tH true)
  (dV:QF K a "told" "Numbered.told" UC L)
  (dW:QF K a "outcome" "Numbered.outcome" NJ O)
  (dX:QF K a "plus" "Numbered.plus" xh Q)
  (dY:QF K a "is_endless" "Numbered.is_endless" um T)
  (dZ:zac K mainGlobals "Endless"=tH (tH (.ref CE)))
  (d0:zbG K CE Str.empty=true)
  (d1:zbw K CE=true)
  (d2:zcb K CE=true)
  (d3:t9 K (.ref CE) "__setattr__"=tH (tH (.builtin "object.__setattr__")))
  (d4:zcp K CE=true)
  (d5:t9 K (.ref CE) "__init__"=tH (tH (.ref j)))
  (d6:zbB K (.ref j)=true)
  (d7:zaM K (.ref CE)=true)
  (d8:t9 K (.ref CE) "bits"=tH r4)
  (d9:MF K "__init__" "Endless.__init__" UI j)
  (d':t9 K (.ref CE) "__class__"=tH (tH (.builtin "object.__class__")))
  (ea:zcn K CE (.type "object")=tH true)
  (eb:QF K CE "told" "Endless.told" UH U)
  (ec:QF K CE "outcome" "Endless.outcome" NP Y)
  (ed:QF K CE "plus" "Endless.plus" xj aa)
  (ee:QF K CE "is_endless" "Endless.is_endless" ut ab)
  (ef:zac K mainGlobals "len"=tH r4)
  (eg:zac K mainGlobals "max"=tH r4)
  (eh:zac K mainGlobals "min"=tH r4)
  (ei:zac K mainGlobals "int"=tH r4)
  (ej:zac K mainGlobals "range"=tH r4)
  (am:zac K mainGlobals "isinstance"=tH r4)
  (ek:zac K mainGlobals "str"=tH r4)
  (el:zac K mainGlobals "all"=tH r4)
  (en:zac K mainGlobals "enumerate"=tH r4)
  (eo:zac K mainGlobals "sum"=tH r4)
  (eq:zac K mainGlobals "sorted"=tH r4)
  (er:zac K mainGlobals "list"=tH r4)
  (et:zac K mainGlobals "reversed"=tH r4)
  (eu:zac K mainGlobals "set"=tH r4)
  (ev:zac K mainGlobals "tuple"=tH r4)
  (ew:zac K mainGlobals "dict"=tH r4)
  (ey:zac K mainGlobals "bool"=tH r4)
  (ez:zac K mainGlobals "any"=tH r4)
  (m1:zac K mainGlobals "LETTERS"=tH (tH (.str "abcdefghijklmnopqrstuvwxyz" bL)))
  (m2:zac K mainGlobals "LONGEST_NAME"=tH (tH (.int 8 bM)))
  (m3:zac K mainGlobals "MOST_PLACES"=tH (tH (.int 14 bN)))
  (m4:zac K mainGlobals "MOST_ROADS"=tH (tH (.int 40 bO)))
  (m5:zac K mainGlobals "MOST_NUMBER"=tH (tH (.int 15 bP)))
  (m6:zac K mainGlobals "MOST_BITS"=tH (tH (.int 65535 bQ)))
  (m7:zac K mainGlobals "MOST_TOKENS"=tH (tH (.int 8 bR)))
  (m8:zac K mainGlobals "PAIR_NAMES"=tH (tH (.str "abcdefghijklmn" bS)))
  (eA:zac K mainGlobals "HeapError"=tH (tH (.ref D)))
  (an:K.lookup D=tH (excClassObj bT bU D ai bV Zn bX bZ bW bY b0 b1 b2 b3 b4 b5 b6 "ValueError.__new__"))
  (eB:K.lookup ai=tH ({b7,b8,.dict d ep,b9}))
  (eC:Oi d=true)
  (eD:nsFind d (zeo "__init__")=r4)
  (eE:XF K D "Twice" "Twice.__init__" "found" UB bF bG)
  (eF:XF K D "TooMany" "TooMany.__init__" "found" Ja m bH)
  (eG:zcc K (.builtin "object.__class__") "__get__"=tH (tH (.builtin "getset_descriptor.__get__")))
  (eH:zcq K (.builtin "object.__class__")=tH true)
  (ne:a≠CE)
  (kM:zak K (.ref m) (.ref m)=tH true)
  (md:zac K mainGlobals "DRAWN"=tH (tH (.ref u)))
  (eI:K.lookup u=tH ({.type "tuple",b',.seq #[.str "drawn" t5,.none] ca,cb}))
  :
  ∃fd:zer,(∀(s:n0) (v:n9),BindsTo s fd ({[v],[]}) [("_law_script",v)])/\∀base:o1,K.In base->base.Ns mainGlobals mg->qu l.prog w K mg base jh 14 x fd ["_law_script"] (wX K):=by
 cases (ap.symm.trans (zaQ X G dk));let{_,eJ}:=ak.has (ps:=["numbers"]) X G;let{_,eK}:=cq.has (ps:=["thing"]) X G;let{_,eL}:=cr.has (ps:=["thing"]) X G;let{_,eM}:=cs.has (ps:=["thing"]) X G;let{_,eN}:=ct.has (ps:=["bits","number"]) X G;let{_,eO}:=al.has (ps:=["bits"]) X G;let{_,p}:=dB;let{_,eP}:=dC.has (ps:=["self"]);let{_,eQ}:=dD.has (ps:=["self","name"]);let{_,eR}:=dF.has (ps:=["self"]);let{_,x}:=dS;let{_,eS}:=dV.has (ps:=["self"]);let{_,eT}:=dW.has (ps:=["self"]);let{_,eU}:=dX.has (ps:=["self","other"]);let{_,eV}:=dY.has (ps:=["self"]);let{_,ao}:=d9;let{_,eW}:=eb.has (ps:=["self"]);let{_,eX}:=ec.has (ps:=["self"]);let{_,eY}:=ed.has (ps:=["self","other"]);let{_,eZ}:=ee.has (ps:=["self"]);let tl:∀h:o1,K.In h->OwnTail h Zn (.ref D::Zn):=λh X=>.own (X _ _ an) ({_,d,ep,X _ _ eB,s0,BW eC,λ_=>rfl}) eD .base;let{_,e0}:=eE X G tl λF=>F.binds λ_ _ _ _ _ _ o d=>by let{_,_,rfl}:=yl d;rfl
 let{_,e1}:=eF X G tl λF=>F.binds λ_ _ _ _ _ _ o d=>by let{_,_,rfl}:=yl d;rfl
 let M:GM K mg b:={{_,_,{{dr,ds,dt,du},{dv,dw,dx,dy},zaQ X G dq,dz,dA,p,p.binds (ps:=["self","rows"]) λ_ _ _ _ _ _ o d=>by let{_,_,rfl}:=yl d;rfl}},{_,_,eP},{_,_,eQ},{_,aj.has X G}};let' wf:WF K mg:={a,CE,i,j,L,U,O,Y,Q,aa,T,ab,z,B,C,H,J,y,_,_,_,_,_,_,_,_,_,_,_,_,_,_,_,_,ne,{{dH,dI,dJ,dK},{dM,dN,dO,dQ},zaQ X G dG,dR,x,x.binds (ps:=["self","number"]) λ_ _ _ _ _ _ o d=>by let{_,_,rfl}:=yl d;rfl,dT,dU},{{d0,d1,d2,d3},{d4,d5,d6,d7},zaQ X G dZ,d8,ao,ao.binds (ps:=["self","bits"]) λ_ _ _ _ _ _ o d=>by let{_,_,rfl}:=yl d;rfl,d',ea},eS,eW,eT,eX,eU,eY,eV,eZ,eK,eL,eM,eN,eO,eJ};let a:LN K mg D m:={zaQ X G eA,{Zn,{_,_,_,_,_,_,_,_,_,_,_,_,_,_,_,an},s0},kM,eG,eH};calc{zbk "law" "law" (JB Vu) (Qr Vu) (qg Vu) .none ae af ag ac q ah,λs v=>.of_eq rfl,λbase _ _=>ID (Xi (st:=Vu) dm dn dp) wf ({zag X G ef,zag X G eg,zag X G eh,zag X G ei,zag X G ej}) ({zag X G am,zag X G ey,kii,kib,{_,zaQ X G m5},{_,zaQ X G m6}}) ({zag X G eq,zag X G er,zag X G et,zag X G eu,zag X G ev}) ({zag X G am,zag X G ek,zag X G el,zag X G en,zag X G eo,{_,zaQ X G m1},{_,zaQ X G m2},{_,zaQ X G m3},{_,zaQ X G m4},kss,ktt,kll}) ({{_,aj.has X G},{_,cc.has X G},{_,cd.has X G},{_,ce.has X G},{_,cf.has X G},{_,cg.has X G},{_,ch.has X G}}) M ({{_,cj.has X G},{_,ak.has X G},{_,ck.has X G},{_,cl.has X G},{_,cm.has X G},{_,cn.has X G},{_,co.has X G},{_,cp.has X G}}) ({{_,cv.has X G},{_,cw.has X G},{_,cx.has X G},{_,cu.has X G},{_,cy.has X G},{_,cz.has X G},{_,cA.has X G},{_,zaQ X G m7}}) ({{_,cB.has X G},{_,cC.has X G},{_,cD.has X G},{_,cE.has X G},{_,cF.has X G}}) ({{_,al.has X G},{_,cG.has X G},{_,cH.has X G},{_,cI.has X G},{_,cJ.has X G},{_,cK.has X G},{_,ci.has X G}}) ({{_,_,eR},{_,cL.has X G},{_,cM.has X G},{_,cN.has X G},{_,cO.has X G},{_,cP.has X G},{_,cQ.has X G},{_,cR.has X G},{_,cS.has X G},{_,cT.has X G},{_,cU.has X G},{_,cV.has X G},{_,cW.has X G},zag X G ez,zag X G ew,kdd}) ({{_,cX.has X G},{_,cY.has X G},{_,cZ.has X G},{_,c0.has X G},{_,c1.has X G},{_,c2.has X G},{_,c3.has X G},{_,c4.has X G},{_,c5.has X G},{_,c6.has X G},{_,c7.has X G},{_,c8.has X G},{_,c9.has X G},{_,c'.has X G},{_,da.has X G},{_,db.has X G},{_,dc.has X G},{_,dd.has X G}}) ({{_,lO.has X G},{_,lL.has X G},{_,lT.has X G},{_,lN.has X G},{_,lD.has X G},{_,lR.has X G},{_,de.has X G},{_,df.has X G},{_,dg.has X G},{_,dh.has X G},{_,di.has X G},{_,dj.has X G}}) ({{_,_,e0},{_,_,e1}}) a ({_,zaQ X G m8}) kti ({u,zaQ X G md,_,#[.str "drawn" t5,.none],_,eI,s0,s0,(J7),.cons ({_,s0}) (.cons rfl .nil)})}
def walk{l:PySem.W.OpenLaw}{b:o4->o1->Prop}{d:DefRec}{K:Params->zen}(m:l.most=tH 63)(o:d.params.defaults=[])(p:∀(w:o4) (h:o1),b w h->(K w.params).In h) (F:∀(w:o4) (mg:Str->Option n9) (i:m9) (h:o1),(K w.params).In h->h.Ns mainGlobals mg->mg d.name=tH (.ref i)->
   ∃j:zer,(∀(s:n0) (u:n9),BindsTo s j ({[u],[]}) [("_law_script",u)])/\∀base:o1,(K w.params).In base->base.Ns mainGlobals mg->qu l.prog w (K w.params) mg base jh 14 i j ["_law_script"] (wX (K w.params))):
  PySem.W.WalkO q v x b l.row.toRowW d [] (λf vs=>PySem.call f vs):=
 L2.walk_of m {} o ({s0,{},{},s0}) p F (λ_ _ a b i _ j=>{a,b,s0,j,i,λ_=>rfl}) λ_ _ _ _ _ z=>z
end Rh
open PySem PySem.W
open PyProof.Rows hiding K lo
namespace PySem.W.Fast
def tw16440205044312030173:=()
def tw16211732925270862936:=()
def tw861502493610598483:=()
def tw7351761721107533599:=()
def tw3820435806616562177:=()
def tw8479686402777554851:=()
def tw5496849259710009554:=()
def tw7755235403018303989:=()
def tw7774113678449685934:=()
def tw1711978525486605378:=()
def tw10931757524730887808:=()
def tw15219865102035514327:=()
def tw6479498380439682318:=()
def tw11203397026859942297:=()
def tw9076787650804036852:=()
def tw4976532014690838185:=()
def tw11063759124802658401:=()
def tw12165746136677619103:=()
def tw17890440400047909864:=()
def tw15916013147842562308:=()
def tw9201617497623189827:=()
def tw11049975164235850100:=()
def tw4740311737661911975:=()
def tw11589342450005873132:=()
def tw13745402967731352480:=()
def tw11489344026974618541:=()
def tw13485263441057248554:=()
def tw8255277752353900283:=()
def tw14196522196718054806:=()
def tw18438055454900119596:=()
def tw17659185236578331656:=()
def tw12103309309050226592:=()
def tw16654469307462801742:=()
def tw1113792103842996368:=()
def tw14537775516033599862:=()
def tw8737599933303070863:=()
def tw6145912378217320015:=()
def tw15052318979288761249:=()
def tw4625118829043911747:=()
def tw17862349074038704544:=()
def tw3436067635600285980:=()
def tw11308061921803828041:=()
def tw5891704040020730945:=()
def tw12132596417379514657:=()
def tw4699756791338806529:=()
def tw10167646349310259628:=()
def tw14387916025512776202:=()
def tw5031154709326756923:=()
def tw7181997581385953548:=()
def tw11485923223005469204:=()
def tw4704452742865826424:=()
def tw3335794202401238526:=()
def tw13366278800048369731:=()
def tw12369848792361866835:=()
def tw6508132753307246276:=()
def tw10236332898609347644:=()
def tw1835201335921387983:=()
def tw13142635158332540280:=()
def tw14689541978594310382:=()
def tw7249310025045793396:=()
def tw1198783387198779033:=()
def tw13298828918039433023:=()
def tw16145670418848962200:=()
def tw2424988045566436242:=()
def tw13310030377091497835:=()
def tw13343918040275786880:=()
def tw14785633479632635281:=()
def tw14782954611325821827:=()
def tw3945831679567021610:=()
def tw9197174079833555027:=()
def tw6880980288501444468:=()
def tw5285915839522022235:=()
def tw727553628536289456:=()
def tw17986951261819808105:=()
def tw9104974531708491489:=()
def tw17382457898008728272:=()
def tw2015444344454546412:=()
def tw14849461344987154502:=()
def tw16636501806038632012:=()
def tw10576836333797772347:=()
def tw12670982853097334264:=()
def tw694261584828832409:=()
def tw14135006944967825841:=()
def tw18310463660012746435:=()
def tw14479964200598819128:=()
def tw18248855084332350957:=()
def tw4321966507151631593:=()
def tw622995879521568732:=()
def tw6170744672141170255:=()
def tw13348088958985639553:=()
def tw15326580083554890809:=()
def tw6124413428159637790:=()
def tw6714880395473160397:=()
def tw18384110700954362821:=()
def tw463774138113389760:=()
def tw1972164579936704799:=()
def tw3520257249291928256:=()
def tw13465540834166320765:=()
def tw1630143524128594353:=()
def tw14454166528178196959:=()
def tw15402603294489630176:=()
def tw7873786274422454737:=()
def tw866652123128751154:=()
def tw4493901809537577575:=()
def tw10826640976665885199:=()
def tw16615150188913437886:=()
def tw3801850119919557013:=()
def tw6060609690816243450:=()
def tw16723463757517087524:=()
def tw17163426234232328066:=()
def tw15831126876759372255:=()
def tw17410218998227585676:=()
def tw17155049476370652306:=()
def tw14560624547652848805:=()
def tw6548459193220583526:=()
def tw4436474186459923750:=()
def tw15685335758407661847:=()
def tw3831019782443316194:=()
def tw14859695947638507448:=()
def tw6408400580700104982:=()
def tw9215358943560890414:=()
def tw14334995849660946996:=()
def tw15870398105094248349:=()
def tw16101134707931498060:=()
def tw7086961617601330827:=()
def tw12250869413391326473:=()
def tw11033627544408312984:=()
def tw12798174099139212305:=()
def tw10698057553749749337:=()
def tw3328118118096588273:=()
def tw6542358382571353910:=()
def tw15621116118777243554:=()
def tw1891733041441978011:=()
def tw10624116801336726872:=()
def tw13034982811429478159:=()
def tw6522051377940421278:=()
def tw12669407529647801677:=()
def tw18400553757987027518:=()
def tw4607425872040536859:=()
def tw4171853373547519906:=()
def tw15675013803050531044:=()
def tw1915925776726481438:=()
def tw16217903435359918192:=()
def tw13367274342830030513:=()
def tw12727641955093265886:=()
def tw15978794797337165890:=()
def tw10470340158578859262:=()
def tw3300257896294614128:=()
def tw7151132215420815488:=()
def tw16756451883985382160:=()
def tw11384182702204212275:=()
def tw14607143338591219252:=()
def tw3075201292733833056:=()
def tw13053770412826190925:=()
def tw17963105932079019327:=()
def tw1932759071263863916:=()
def tw12297992134047619483:=()
def tw6162269159774324313:=()
def tw4382473104129494423:=()
def tw15565715512253457277:=()
def tw15214748959534726111:=()
def tw2386784164831690217:=()
def tw7322748291113730364:=()
def tw14617222483516278133:=()
def tw10911716485165742097:=()
def tw17916429707943930468:=()
def tw8422229294311615681:=()
def tw1979317910248211280:=()
def tw10042083083395451092:=()
def tw5289818103960998278:=()
def tw5217270863462422736:=()
def tw8428246938381088814:=()
def tw11024694936033576346:=()
def tw443766864951011646:=()
def tw8535803893964050539:=()
def tw16493865465440409018:=()
def tw11317637306720784765:=()
def tw17937168697417666835:=()
def tw1293241653719404408:=()
def tw8919978131948313185:=()
def tw6208910965292489261:=()
def tw5694767641087392711:=()
def tw13032259773685033708:=()
def tw11180800956215176064:=()
def tw12461081396071149458:=()
def tw10295913840692754127:=()
def tw13437419889732721216:=()
def tw1205274952441263945:=()
def tw13462424878891718212:=()
def tw7350462372000428638:=()
def tw4051853165826885262:=()
def tw17590876675597686902:=()
def tw4684226298888400098:=()
def tw6331431999304432861:=()
def tw15142666989864626641:=()
def tw256976265262469064:=()
def tw3953844824629472508:=()
def tw2869065659524454656:=()
def tw15495752065017430504:=()
def tw6526287140368922620:=()
def tw4483904966330829159:=()
def tw13385558918117058561:=()
def tw7921390202802761869:=()
def tw4189273013823423559:=()
def tw14441679199631801671:=()
def tw16248296213531012650:=()
def tw1937721966566455358:=()
def tw3049343062529576306:=()
def tw3726453103677007866:=()
def tw13394580363473044415:=()
def tw1708089923452030704:=()
def tw5008593111378822452:=()
def tw14592624751514493413:=()
def tw6125853113672642322:=()
def tw16298917771340976007:=()
def tw14903569129155370506:=()
def tw11513857634932158529:=()
def tw11153475782318119604:=()
def tw7592715696027808041:=()
def tw9402243437249704421:=()
def tw10741264400317747893:=()
def tw3303267245142563540:=()
def tw12488014758255163090:=()
def tw4512776594637900181:=()
def tw9404705873571188630:=()
def tw16003985067176294414:=()
def tw6968137755033780318:=()
def tw6128106870883400570:=()
def tw7050804516273991350:=()
def tw855453113358079251:=()
def tw9784134513789038367:=()
def tw2931988195819169919:=()
def tw4903002758410956813:=()
def tw5634867526602368427:=()
def tw8431482922422412695:=()
def tw16309811473084048462:=()
def tw15499940227032437249:=()
def tw18361725300881549022:=()
def tw16626521671886133394:=()
def tw12099505692703838030:=()
def tw5467331546851215429:=()
def tw5274481202262711730:=()
def tw1532491051758110099:=()
def tw6575520176995025181:=()
def tw2228412568605170491:=()
def tw2925816871977632210:=()
def tw10958628066121416707:=()
def tw2810200551564342888:=()
def tw13069393092227542028:=()
def tw5323657890516693427:=()
def tw12003660372656728261:=()
def tw9582823730064241283:=()
def tw6822071536725586909:=()
def tw13769103115541136327:=()
def tw2358075552688931204:=()
def tw11401859456886640639:=()
def tw1342123614928995077:=()
def tw6148498323302512570:=()
def tw15541240446876304647:=()
def tw8756951275005108937:=()
def tw17214186515701724070:=()
def tw2259672571474061568:=()
def tw12330612334027959195:=()
def tw11564986514327137767:=()
def tw17613222154834848340:=()
def tw3235425350174046738:=()
def tw5667099127317398114:=()
def tw5994696166404524948:=()
def tw15042883488752021643:=()
def tw8285278889055680438:=()
def tw16902440903046159558:=()
def tw977512076041815475:=()
def tw5832305185047221409:=()
def tw14703100239697439463:=()
def tw2135409205425526673:=()
def tw17292613610259460706:=()
def tw14727194681476072466:=()
def tw17680797132471856694:=()
def tw13160504802963445071:=()
def tw12848530379965262573:=()
def tw14116014176715886054:=()
def tw16835776778646405275:=()
def tw17689344090056996911:=()
def tw12200699767478067731:=()
def tw3641951560692057861:=()
def tw8171798328758944481:=()
def tw14842496431369740429:=()
def tw11266997524610791606:=()
def tw3382625519597670723:=()
def tw7480016910919988345:=()
def tw1383625962624193546:=()
def tw12747814925858328940:=()
def tw7476452910721959123:=()
def tw15779231459743154856:=()
def tw6229817132586351632:=()
def tw16670775579421159206:=()
def tw140001813534094272:=()
def tw11066385474520676512:=()
def tw11421057715548341654:=()
def tw446995266069924076:=()
def tw9536688357841153863:=()
def tw8760152093665844161:=()
def tw8733291241859026926:=()
def tw1000662321505670351:=()
def tw13812277999558781770:=()
def tw2187251505897268136:=()
def tw2353497105660221152:=()
def tw15227483606004533461:=()
def tw5101696844757716304:=()
def tw15127105006835628225:=()
def tw10876078143196172821:=()
def tw9456574344343218679:=()
def tw3419001889969749887:=()
def tw16746677531222629524:=()
def tw14036186469904095446:=()
def tw17464319187374939960:=()
def tw2046362190076281809:=()
def tw15166322114958858414:=()
def tw16409965706819354750:=()
def tw13313058339493701161:=()
def tw6329614223026926184:=()
def tw8274446707539698164:=()
def tw4561898282857576226:=()
def tw11824586356888161845:=()
def tw1835071406663858368:=()
def tw14746253646979254834:=()
def tw3543459598558145280:=()
def tw17339309145561079191:=()
def tw5362036446546632119:=()
def tw16108870410212019532:=()
def tw8972062959192195235:=()
def tw3239113980409921550:=()
def tw9461873434466728008:=()
def tw16864618592142003386:=()
def tw11434409910335936926:=()
def tw987426779421491659:=()
end PySem.W.Fast
set_option maxHeartbeats 0
open_top hd for PySem.Challenge.rw_ringheaps_k95_whole_one_outcome_by_all_w
set_option maxRecDepth 100000 in
set_option maxHeartbeats 0 in
theorem PySem.Challenge.cw_ringheaps_k95_whole_one_outcome_by_all_w_holds : PySem.Challenge.rw_ringheaps_k95_whole_one_outcome_by_all_w.Holds := by
 refine hd ?_
 k_fill
 refine Rh.walk (l:=PySem.Challenge.rw_ringheaps_k95_whole_one_outcome_by_all_w) rfl rfl (λw h Y=>PySem.W.kIn_of Y) ?F
 case F=>
   intro w mg fa h KX G lK
   refine' Rh.all_mk KX G lK ..
   any_goals first | (apply Rh.HF.mk'<;>k_is) | (apply Rh.MF.mk'<;>k_is) | (apply Rh.QF.mk'<;>k_is) | (apply Rh.XF.mk'<;>k_is) | k_is | kernel_rfl | rfl | decide
